import PyProof.Rows.All
import Wide.All
import OpenK.AllK
import Wide.FinOn
import Lean
import PyProof.EqAt
import PyProof.EqKinds
import PyProof.TupleCall
import KE.KTryMore
import PyProof.NsDelKeeps
import PyProof.ExcArgsOwn
import PyProof.ExcAttrAll.ValueError
import PyProof.ExcBaseAll.ValueError
import PyProof.CollectIter
import PyProof.ZipIter
import PyProof.EnumMake
import PyProof.EnumFor
import PyProof.Rows.FactsT2
import PyProof.Rows.EnumRows
import PyProof.ConsumeWalk
import PyProof.ListMulRoad
import PyProof.AutoListH
import PyProof.MinMaxWalk
import PyProof.WalkInts
import PyProof.Rows.CallKwBuiltin
import PyProof.Rows.Range3
import PyProof.P3In
import PyProof.FactsAll.list_3
import PyProof.EqAt
import PyProof.StrOps2
import KE.KRevIter
import PyProof.StrBlockI
import KE.KNest
import KE.KLam
import PyProof.ListRange
import PyProof.Rows.FStr
import PyProof.Rows.SortRev
import PySem.Challenge.RW_keel_k72_stowed

set_option autoImplicit true
set_option bootstrap.genMatcherCode false
set_option genSizeOf false
set_option Elab.async false
set_option linter.all false
set_option maxRecDepth 100000
theorem Ë:type_of% @List.getD_eq_getElem?_getD:=@List.getD_eq_getElem?_getD
theorem Ê:type_of% @List.getElem?_eq_getElem:=@List.getElem?_eq_getElem
theorem Æ:type_of% @List.length_map:=@List.length_map
theorem É:type_of% @Nat.le_of_lt:=@Nat.le_of_lt
theorem Ô:type_of% @Nat.lt_of_lt_of_le:=@Nat.lt_of_lt_of_le
theorem È:type_of% @Nat.le_refl:=@Nat.le_refl
theorem Î:type_of% @List.getElem?_eq_some_iff:=@List.getElem?_eq_some_iff
theorem Ó:type_of% @List.mem_cons_of_mem:=@List.mem_cons_of_mem
theorem Ñ:type_of% @List.getElem?_map:=@List.getElem?_map
theorem Û:type_of% @List.mem_append_right:=@List.mem_append_right
theorem ç:type_of% @List.getElem?_append_right:=@List.getElem?_append_right
theorem Ì:type_of% @Nat.ne_of_lt:=@Nat.ne_of_lt
theorem ð:type_of% @Nat.lt_of_lt_of_eq:=@Nat.lt_of_lt_of_eq
theorem Ò:type_of% @List.length_append:=@List.length_append
theorem Ø:type_of% @Nat.le_trans:=@Nat.le_trans
theorem Ù:type_of% @List.getElem?_set_ne:=@List.getElem?_set_ne
theorem à:type_of% @List.getElem?_eq_none:=@List.getElem?_eq_none
theorem è:type_of% @List.size_toArray:=@List.size_toArray
theorem ó:type_of% @List.getElem?_append_left:=@List.getElem?_append_left
theorem Ö:type_of% @List.length_set:=@List.length_set
theorem ï:type_of% @List.length_replicate:=@List.length_replicate
theorem Ü:type_of% @Nat.ne_of_gt:=@Nat.ne_of_gt
theorem Ā:type_of% @List.mem_of_getElem?:=@List.mem_of_getElem?
theorem ë:type_of% @List.length_zip:=@List.length_zip
theorem ñ:type_of% @Int.le_of_lt:=@Int.le_of_lt
theorem ė:type_of% @Int.mul_le_mul_of_nonneg_right:=@Int.mul_le_mul_of_nonneg_right
theorem ì:type_of% @List.mem_singleton:=@List.mem_singleton
theorem Þ:type_of% @List.mem_map:=@List.mem_map
theorem ă:type_of% @List.mem_append:=@List.mem_append
theorem ú:type_of% @List.getElem?_range:=@List.getElem?_range
theorem Ą:type_of% @List.getElem?_replicate:=@List.getElem?_replicate
theorem ã:type_of% @Nat.not_lt:=@Nat.not_lt
theorem û:type_of% @Nat.lt_of_le_of_lt:=@Nat.lt_of_le_of_lt
theorem õ:type_of% @Nat.le_of_eq:=@Nat.le_of_eq
theorem Ę:type_of% @List.getElem?_zip_eq_some:=@List.getElem?_zip_eq_some
theorem ö:type_of% @Nat.lt_irrefl:=@Nat.lt_irrefl
theorem Ď:type_of% @List.getElem?_set:=@List.getElem?_set
theorem ü:type_of% @List.length_take:=@List.length_take
theorem ø:type_of% @Int.toNat_natCast:=@Int.toNat_natCast
theorem ď:type_of% @List.map_snd_zip:=@List.map_snd_zip
theorem Đ:type_of% @List.map_fst_zip:=@List.map_fst_zip
theorem ý:type_of% @List.getElem_mem:=@List.getElem_mem
theorem đ:type_of% @Nat.add_sub_cancel:=@Nat.add_sub_cancel
theorem ß:type_of% @List.map_append:=@List.map_append
theorem ą:type_of% @Int.natAbs_mul:=@Int.natAbs_mul
theorem Ć:type_of% @List.mem_append_left:=@List.mem_append_left
theorem é:type_of% @List.all_eq_true:=@List.all_eq_true
theorem Ï:type_of% @List.mem_cons:=@List.mem_cons
theorem Ð:type_of% @List.map_cons:=@List.map_cons
theorem Õ:type_of% @List.mem_cons_self:=@List.mem_cons_self
theorem ä:type_of% @List.not_mem_nil:=@List.not_mem_nil
theorem Ý:type_of% @List.length_cons:=@List.length_cons
theorem á:type_of% @List.zip_cons_cons:=@List.zip_cons_cons
theorem Ú:type_of% @Bool.false_ne_true:=@Bool.false_ne_true
theorem ê:type_of% @Nat.lt_succ_self:=@Nat.lt_succ_self
theorem å:type_of% @List.lookup_cons:=@List.lookup_cons
theorem Í:type_of% @Ne.symm:=@Ne.symm
theorem â:type_of% @List.getElem?_set_self:=@List.getElem?_set_self
theorem ā:type_of% @Classical.byContradiction:=@Classical.byContradiction
theorem aSD:type_of% @PySem.W.mg_none_of:=@PySem.W.mg_none_of
theorem þ:type_of% @PySem.mem_of_lookup:=@PySem.mem_of_lookup
theorem æ:type_of% @Bool.and_eq_true:=@Bool.and_eq_true
theorem î:type_of% @List.map_map:=@List.map_map
theorem ô:type_of% @List.append_nil:=@List.append_nil
theorem Ă:type_of% @List.find?_cons:=@List.find?_cons
theorem ÿ:type_of% @List.drop_eq_getElem_cons:=@List.drop_eq_getElem_cons
theorem í:type_of% @List.length_singleton:=@List.length_singleton
theorem ò:type_of% @Nat.zero_le:=@Nat.zero_le
theorem ù:type_of% @Nat.zero_lt_succ:=@Nat.zero_lt_succ
theorem Â:type_of% @if_pos:=@if_pos
theorem Ä:type_of% @if_neg:=@if_neg
theorem Å:type_of% @And.intro:=@And.intro
set_option compiler.extract_closed false
noncomputable section
abbrev Zdb(x:PySem.Str):Prop:=(x == ("__debug__":PySem.Str))=false
abbrev Zcd(x:PySem.Str):Prop:=(x == ("__classdict__":PySem.Str))=false
abbrev Zse(a:PySem.Expr)(l:List PySem.Expr)(v:PySem.Env):Prop:=PySem.starEach (a::l) v=(false,PySem.eval a v)::PySem.starEach l v
abbrev Zbt(p:PySem.Pos)(l:List PySem.Expr)(v:PySem.Env):Prop:=(PySem.backTo p (PySem.starEach l v)).any (·.1)=false
abbrev Zfi(e:PySem.Expr)(v:PySem.Env):Prop:=∀x,PySem.foldedSetIterable e v x=pure x
set_option hygiene false
local macro_rules|`(tactic|sleep 1)=>`(tactic|(rw[e]at h;exact h.elim))
local macro_rules|`(tactic|sleep 2)=>`(tactic|(refine aQ (os:=[]) ?_))
local macro_rules|`(tactic|sleep 3)=>`(tactic|(refine⟨F,δ,R,?_⟩))
local macro_rules|`(tactic|sleep 4)=>`(tactic|(exact q.elim))
local macro_rules|`(tactic|sleep 5)=>`(tactic|(intro X hP hw hK hc i À s σ H E I hf st hg;subst hP hw hK))
local macro_rules|`(tactic|sleep 6)=>`(tactic|(intro À s σ H x y v u Q I rx ry h))
set_option hygiene true
set_option hygiene false
local macro_rules|`('a')=>`((by exact É ‹_›))
local macro_rules|`('b')=>`((model X.prog X.w))
local macro_rules|`('c')=>`((cs.map aN))
local macro_rules|`('d')=>`((.Name x p))
local macro_rules|`('e')=>`((W.kla_obj "<lambda>" kW params body scope clos ((X.mg "__name__").getD .none) c' ctv))
local macro_rules|`('f')=>`((by simp))
local macro_rules|`('g')=>`((aV X xs scope C fp s H))
local macro_rules|`('h')=>`((List.replicate xs.length 0++ow))
local macro_rules|`('i')=>`((by grind))
local macro_rules|`('j')=>`((.list 'c'))
local macro_rules|`('k')=>`((List.replicate m 0))
local macro_rules|`('l')=>`((.bool true))
local macro_rules|`('m')=>`((aM.refl _))
local macro_rules|`('n')=>`((List.replicate k 0++ow))
local macro_rules|`('o')=>`((.ListComp elt [⟨tg,iter,ifs,0⟩] scope pos))
local macro_rules|`('p')=>`((bW aG (d8 "_law_tank_here" (bQ rx) (λC fp s H=>bT) (λC fp s H=>rx))))
local macro_rules|`('q')=>`((X.N[i]?=some x))
local macro_rules|`('r')=>`((.list ds))
local macro_rules|`('s')=>`((T4 (own::mY ss cs ss.length)))
local macro_rules|`('t')=>`((by assumption))
set_option hygiene true
local macro_rules|`(tactic|rfl')=>`(tactic|dsimp only[List.map,List.length_cons,List.length_nil,List.replicate_succ,List.replicate_zero,List.cons_append,List.nil_append,Nat.reduceSub,Nat.reduceAdd])
local macro_rules(kind:=Lean.Parser.Tactic.tacticLet__)|s=>do
 let d:=s.getArgs.back![0]
 unless d.isOfKind ``Lean.Parser.Term.letPatDecl do Lean.Macro.throwUnsupported
 let k:=Lean.Syntax.node .none
 let o:=k `null
 let m:=fun y=>k ``Lean.Parser.Tactic.rcasesPatMed #[o #[y]]
 `(tactic|obtain $(⟨m (d[0].rewriteBottomUp fun x=>
  if x.isIdent then k ``Lean.Parser.Tactic.rcasesPat.one #[x] else
  if x.isOfKind ``Lean.Parser.Term.hole then k ``Lean.Parser.Tactic.rcasesPat.ignore #[x[0]] else
  if x.isOfKind ``Lean.Parser.Term.anonymousCtor then k ``Lean.Parser.Tactic.rcasesPat.tuple #[x[0],o (x[1].getArgs.map fun y=>if y.isAtom then y else k ``Lean.Parser.Tactic.rcasesPatLo #[m y,o #[]]),x[2]] else x)⟩):rcasesPatMed:=$(⟨d[4]⟩))
local macro_rules(kind:=Lean.Parser.Command.declaration)|s=>do
 let d:=s[1];let y:=d[2][1][0][1]
 if d.isOfKind ``Lean.Parser.Command.definition&&s[0][1].isNone&&!d[2][1].isNone&&!(y.getNumArgs<2||y.isOfKind ``Lean.Parser.Term.arrow||y.isOfKind ``Lean.Parser.Term.paren||y[0].getId==`M) then
  return s.setArg 1 (Lean.mkNode ``Lean.Parser.Command.theorem #[Lean.mkAtom "theorem",d[1],Lean.mkNode ``Lean.Parser.Command.declSig #[d[2][0],d[2][1][0]],d[3]])
 if (s[1].isOfKind ``Lean.Parser.Command.definition||s[1].isOfKind ``Lean.Parser.Command.abbrev)&&s[0][4].isNone&&s[0][1].isNone then
  return s.setArg 0 (s[0].setArg 4 (Lean.mkNullNode #[Lean.mkNode ``Lean.Parser.Command.noncomputable #[Lean.mkAtom "noncomputable"]]))
 Lean.Macro.throwUnsupported
local macro_rules|`(⋯)=>`(by decide)
local macro_rules|`(∅)=>`(by lia)
local macro_rules|`(tactic|simp! [$as,*]$[$l:location]?)=>`(tactic|simp only[$as,*]$[$l]?)
local macro_rules|`(tactic|dsimp! [$as,*]$[$l:location]?)=>`(tactic|dsimp only[$as,*]$[$l]?)
local macro_rules| `(tactic|obtain $p:rcasesPatMed:=$e:term)=>`(tactic|first|(refine Classical.byContradiction λhn=>?_;rcases $e:term with $p:rcasesPatMed<;>refine hn ?_<;>clear hn)|rcases $e:term with $p:rcasesPatMed)
local macro_rules| `(tactic|rintro⟨$ps,*⟩)=>`(tactic|(intro x;obtain⟨$ps,*⟩:=x))
local macro_rules| `(tactic|rintro $p $q $ps*)=>`(tactic|(rintro $p;rintro $q $ps*))
local macro_rules| `(tactic|ac_nf0)=>`(tactic|first|exact Or.inl rfl|exact Or.inr rfl|exact Or.inr (Or.inl rfl)|exact Or.inr (Or.inr rfl))
theorem Zrf(h:True:=by rfl):True:=h
local macro_rules|`(↥$x)=>`(autoParam $x Zrf._auto_1)
theorem Zrd(h:True:=by decide):True:=h
local macro_rules|`(⇑$x)=>`(autoParam $x Zrd._auto_1)
theorem Zro(h:True:=by ac_nf0):True:=h
local macro_rules|`(#v[$x])=>`(autoParam $x Zro._auto_1)
theorem Zri(h:True:=by intro _;rfl):True:=h
local macro_rules|`(~~~$x)=>`(autoParam $x Zri._auto_1)
abbrev ZA:=PySem.Value->PySem.Shared->Prop
abbrev ZB:=List (PySem.Addr×PySem.Obj)
abbrev ZC:=PySem.W.Frag
abbrev ZD:=PySem.Str->Option PySem.Value
abbrev ZE:=List (List Int×Int)
abbrev ZF:=List (Int×Int)
abbrev ZG:=List PySem.Str
abbrev ZH:=List Nat
abbrev ZI:=List PySem.PyData
abbrev ZJ:=List PySem.Value
abbrev ZK:=List Int
abbrev ZL:=Option PySem.PyData
abbrev ZM:=List PySem.Addr
abbrev ZN:=Option PySem.Value
abbrev ZO:=List (Option PySem.PyData)->Prop
namespace L2
open PySem PySem.Spec PyProof.Rows
abbrev eA:=Sum Int Str
def BF:eA->Value->Bool
 |.inl k,v=>Value.isInt k v
 |.inr x,v=>Value.isStrOf x v
def aNK(w:World):eA->Int
 |.inl k=>hashInt k
 |.inr x=>hashStr w x
def dE:∀{k:eA}{v:Value},BF k v=true->(∃i t,k=Sum.inl i/\v=Value.int i t)\/(∃x t,k=Sum.inr x/\v=Value.str x t)
 |.inl i,v,h=>by
  let⟨t,e⟩:=Value.isInt_shape (k:=i) (v:=v) h;exact .inl ⟨i,t,rfl,e⟩
 |.inr x,v,h=>by
  let⟨t,e⟩:=Value.isStrOf_shape (x:=x) (v:=v) h;exact .inr ⟨x,t,rfl,e⟩
def P0(i:Int)(t:Tok):BF (.inl i) (.int i t)=true:=by simp[BF,Value.isInt]
def P1(x:Str)(t:Tok):BF (.inr x) (.str x t)=true:=by simp[BF,Value.isStrOf]
def aFR(a b:Int):decide ((Sum.inl a:eA)=Sum.inl b)=(a == b):=by
 grind
def aFS(a b:Str):decide ((Sum.inr a:eA)=Sum.inr b)=decide (a=b):=by
 grind
def aFT(a:Int)(b:Str):decide ((Sum.inl a:eA)=Sum.inr b)=false:=decide_eq_false (λq=>nomatch q)
def aFU(a:Str)(b:Int):decide ((Sum.inr a:eA)=Sum.inl b)=false:=decide_eq_false (λq=>nomatch q)
def dP(prog:Program)(w:World):(PySem.KeyKind prog w eA) where
 is:=BF
 hash:=aNK w
 inj:=λv a b ha hb=>by
  rcases dE ha with ⟨i,t,rfl,rfl⟩|⟨x,t,rfl,rfl⟩
  .rcases dE hb with ⟨j,u,rfl,e⟩|⟨y,u,rfl,e⟩
   all_goals grind
  .rcases dE hb with ⟨j,u,rfl,e⟩|⟨y,u,rfl,e⟩
   all_goals grind
 byValue:=λk v h=>by
  rcases dE h with ⟨i,t,rfl,rfl⟩|⟨x,t,rfl,rfl⟩<;>rfl
 pyHash:=λhv h=>by
  rcases dE hv with ⟨i,t,rfl,rfl⟩|⟨x,t,rfl,rfl⟩
  .exact wpAny_pyHash_int h
  .exact wpAny_pyHash_str h
 eqBool:=λhu hv h=>by
  rcases dE hu with ⟨i,t,rfl,rfl⟩|⟨x,t,rfl,rfl⟩
  .rcases dE hv with ⟨j,u,rfl,rfl⟩|⟨y,u,rfl,rfl⟩
   .rw[aFR]at h;exact wpAny_eqBool_int h
   .rw[aFT]at h;exact SeqAt.EqAt.int_str i t y u _ _ _ _ h
  .rcases dE hv with ⟨j,u,rfl,rfl⟩|⟨y,u,rfl,rfl⟩
   .rw[aFU]at h;exact SeqAt.EqAt.str_int x t j u _ _ _ _ h
   .rw[aFS]at h;exact wpAny_eqBool_str h
 «strs»:=λk x t v h=>by
  rcases dE h with ⟨i,u,rfl,e⟩|⟨y,u,rfl,e⟩
  .exact nomatch e
  .injection e with e1 _
   subst e1;cases v<;>rfl
def GJ(prog:Program)(w:World)(i:Int)(t:Tok):(dP prog w).is (.inl i) (.int i t)=true:=P0 i t
def GK(prog:Program)(w:World)(x:Str)(t:Tok):(dP prog w).is (.inr x) (.str x t)=true:=P1 x t
inductive V where
 |non|bl (b:Bool)|int (i:Int)|str (x:Str)|byt (b:Array UInt8)|flt (b:UInt64)|ref (a:Addr)|ty (n:String)
 deriving DecidableEq
def bI:V->Value->Prop
 |.non,u=>u=Value.none
 |.bl b,u=>u=Value.bool b
 |.int i,u=>∃t,u=Value.int i t
 |.str x,u=>∃t,u=Value.str x t
 |.byt b,u=>∃t,u=Value.bytes b t
 |.flt b,u=>∃t,u=Value.float b t
 |.ref a,u=>u=Value.ref a
 |.ty n,u=>u=Value.type n
abbrev bJ:List V->ZJ->Prop:=Paired bI
def bJ.length(r:bJ xs us):xs.length=us.length:=Paired.length r
def bJ.get:∀{xs:List V}{us:ZJ}{i:Nat}{x:V},bJ xs us->xs[i]?=some x->∃u,us[i]?=some u/\bI x u
 |_,_,_,_,.nil,e=>by simp at e
 |_,_,0,_,.cons r _,e=>by simp at e;subst e;exact⟨_,rfl,r⟩
 |_,_,i+1,x,.cons _ t,e=>by
  let⟨u,h1,h2⟩:=bJ.get (i:=i) (x:=x) t (by simpa using e);exact⟨u,by simpa using h1,h2⟩
def bJ.set(r:bI x u):∀{xs:List V}{us:ZJ}(i:Nat),bJ xs us->bJ (xs.set i x) (us.set i u)
 |_,_,_,.nil=>.nil
 |_,_,0,.cons _ t=>.cons r t
 |_,_,i+1,.cons q t=>.cons q (bJ.set r i t)
def bJ.append:∀{xs ys:List V}{us ws:ZJ},bJ xs us->bJ ys ws->bJ (xs++ys) (us++ws)
 |_,_,_,_,.nil,s=>s
 |_,_,_,_,.cons r t,s=>.cons r (bJ.append t s)
def bJ.take:∀{xs:List V}{us:ZJ}(n:Nat),bJ xs us->bJ (xs.take n) (us.take n)
 |_,_,0,_=>.nil
 |_,_,_+1,.nil=>.nil
 |_,_,n+1,.cons r t=>.cons r (bJ.take n t)
def bJ.drop:∀{xs:List V}{us:ZJ}(n:Nat),bJ xs us->bJ (xs.drop n) (us.drop n)
 |_,_,0,r=>r
 |_,_,_+1,.nil=>.nil
 |_,_,n+1,.cons _ t=>bJ.drop n t
def pM:Option V->ZN->Prop
 |some v,some u=>bI v u
 |none,none=>True
 |_,_=>False
def KV{κ:Type}:List (κ×V)->List (κ×Value)->Prop:=Paired λ(p:κ×V)(q:κ×Value)=>p.1=q.1/\bI p.2 q.2
def kV:eA->V
 |.inl i=>.int i
 |.inr x=>.str x
inductive HO where
  |lst (xs:List V)
  |tup (xs:List V)
  |dK (Á:List (eA×V))|dT (Á:List (List eA×V))
  |set (S:Int->Bool) (n:Nat)
  |ins (C dx:Addr) (fs:List (Str×V))
  |own (x:Addr)
  |xd (fs:List (Str×V))
  |met (f x:Addr)
  |rng (lo hi:Int)
  |frz (o:Obj) (u:HO)
  |tbl (ps:Array Value)
 |lam (t u:Value) (q:Str)
  |ext (φ:Heap->Prop)
abbrev Hp:=Addr->Option HO
def aY(H:Hp)(a:Addr)(o:HO):Hp:=λb=>if b=a then some o else H b
def aP:aY H a o a=some o:=by unfold aY;rw[Â rfl]
def aH(h:b≠a):aY H a o b=H b:=by unfold aY;rw[Ä h]
def C7:aY (aY H a o) a u=aY H a u:=by
 funext b;unfold aY;split<;>rfl
def aJ0{H:Hp}{a b:Addr}{o u:HO}(h:H a=some o)(h':H b=some u)(d:o≠u):a≠b:=by
 grind
def bL{H:Hp}{a b:Addr}{o:HO}(h:H a=some o)(h':H b=none):a≠b:=by
 grind
section
variable (P:Program)(w:World)
def eE(H:Hp)(h:Heap)(a:Addr):HO->Prop
 |.lst xs=>xs.length<=sizeLine/\∃(its:ZJ)(n:Nat),bJ xs its/\h.get? a=some {cls:=.type "list",data:=.seq its.toArray n}
 |.tup xs=>xs.length<=sizeLine/\∃its:ZJ,bJ xs its/\IsTup h a its.toArray
 |.dK Á=>Á.length<=sizeLine/\(a == sysModules)=false/\∃vs,KV Á vs/\h.DictOf (dP P w) a vs
 |.dT Á=>Á.length<=sizeLine/\(a == sysModules)=false/\∃xs:List (List eA×Addr×Value),
   Paired (λ(p:List eA×V)(q:List eA×Addr×Value)=>p.1=q.1/\H q.2.1=some (.tup (p.1.map kV))/\bI p.2 q.2.2) Á xs /\
   ∃o es ep,h.get? a=some o/\o.ExactDict/\o.data=.dict es ep/\es.toList=xs.map (entryOfKey (tupleKind (dP P w)))/\(xs.map (·.1)).Nodup
 |.set S n=>h.SetOf (intKind P w) a S n
 |.ins C dx fs=>H dx=some (.own a)/\fs.length<=1000/\dx≠a/\h.get? a=some (W.instObj C dx) /\
   ∃mA,h.Ns1 dx mA/\(∀f,pM (fs.lookup f) (mA f))/\PySem.Within mA (fs.map (·.1))
 |.own _=>∃o,h.get? a=some o
 |.xd fs=>∃mA,h.Ns1 a mA/\∀f,pM (fs.lookup f) (mA f)
 |.rng lo hi=>∃t u v,h.get? a=some {cls:=.type "range",data:=.fields #[.int lo t,.int hi u,.int 1 v]}
 |.frz o u=>h.get? a=some o/\eE H h a u
 |.tbl ps=>h.get? a=some {cls:=.none,data:=.fields ps}
 |.lam t u q=>∃ps:Array Value,h.get? a=some {cls:=.none,data:=.fields ps}/\(ps=#[]\/∃c,ps=#[t,u,.ref c]/\H c=some (.own a)/\c≠a/\h.CodeRec (.ref c) q)
 |.met f x=>h.get? a=some (W.methodObj (.ref f) (.ref x))
 |.ext φ=>φ h/\(∃o,h.get? a=some o)/\∀h1 h2:Heap,φ h1->(∀o,h1.get? a=some o->h2.get? a=some o)->φ h2
def mQ(H:Hp)(h:Heap):Prop:=∀a o,H a=some o->eE P w H h a o
end
section
variable {a:Addr}
def eE.lt(x:eE P w H h a o):a<h.objs.size:=by
 cases o with
 |lst xs=>let⟨_,_,_,_,e⟩:=x;exact Heap.lt_size e
 |tup xs=>let⟨_,_,_,p⟩:=x;exact p.lt
 |dK Á=>let⟨_,_,_,_,o,_,_,e,_⟩:=x;exact Heap.lt_size e
 |dT Á=>let⟨_,_,_,_,o,_,_,e,_⟩:=x;exact Heap.lt_size e
 |set S n=>let⟨o,_,_,_,e,_⟩:=x;exact Heap.lt_size e
 |ins C dx fs=>let⟨_,_,_,e,_⟩:=x;exact Heap.lt_size e
 |own y=>let⟨_,e⟩:=x;exact Heap.lt_size e
 |xd fs=>let⟨_,⟨_,_,_,e,_⟩,_⟩:=x;exact Heap.lt_size e
 |rng lo hi=>let⟨_,_,_,e⟩:=x;exact Heap.lt_size e
 |frz ob u=>let⟨e,_⟩:=x;exact Heap.lt_size e
 |tbl ps=>exact Heap.lt_size (show h.get? a=some _ from x)
 |lam t u q=>let⟨_,e,_⟩:=x;exact Heap.lt_size e
 |met f y=>exact Heap.lt_size (show h.get? a=some _ from x)
 |ext φ=>let⟨_,⟨_,e⟩,_⟩:=x;exact Heap.lt_size e
def Paired.mapP :∀{l₁:List α}{l₂:List β},Paired F l₁ l₂->(∀a b,F a b->G a b)->Paired G l₁ l₂
 |_,_,.nil,_=>.nil
 |_,_,.cons r t,f=>.cons (f _ _ r) (Paired.mapP t f)
def eE.stay(x:eE P w H h a o)(k:∀b u,(b=a\/H b=some (.own a))->h.get? b=some u->h'.get? b=some u)(ho:∀b,H b=some (.own a)->H' b=some (.own a))(ht:∀b xs,H b=some (.tup xs)->H' b=some (.tup xs)):eE P w H' h' a o:=by
 induction o with
 |lst xs=>let⟨z,its,n,r,e⟩:=x;exact⟨z,its,n,r,k _ _ (.inl rfl) e⟩
 |tup xs=>let⟨z,its,r,ob,e,c⟩:=x;exact⟨z,its,r,ob,k _ _ (.inl rfl) e,c⟩
 |dK Á=>let⟨z,y,vs,r,ob,es,ep,e,c⟩:=x;exact⟨z,y,vs,r,ob,es,ep,k _ _ (.inl rfl) e,c⟩
 |dT Á=>
  let⟨z,y,xs,r,ob,es,ep,e,c⟩:=x;exact⟨z,y,xs,Paired.mapP r λp q z=>⟨z.1,ht _ _ z.2.1,z.2.2⟩,ob,es,ep,k _ _ (.inl rfl) e,c⟩
 |set S n=>let⟨ob,es,ep,t,e,c⟩:=x;exact⟨ob,es,ep,t,k _ _ (.inl rfl) e,c⟩
 |ins C dx fs=>
  let⟨d,z,ne,e,mA,⟨od,es,ep,e2,c⟩,r⟩:=x;exact⟨ho _ d,z,ne,k _ _ (.inl rfl) e,mA,⟨od,es,ep,k _ _ (.inr d) e2,c⟩,r⟩
 |own y=>let⟨ob,e⟩:=x;exact⟨ob,k _ _ (.inl rfl) e⟩
 |xd fs=>let⟨mA,⟨od,es,ep,e,c⟩,r⟩:=x;exact⟨mA,⟨od,es,ep,k _ _ (.inl rfl) e,c⟩,r⟩
 |rng lo hi=>let⟨t,u,v,e⟩:=x;exact⟨t,u,v,k _ _ (.inl rfl) e⟩
 |frz ob u ih=>let⟨e,q⟩:=x;exact⟨k _ _ (.inl rfl) e,ih q⟩
 |tbl ps=>
  have e:h.get? a=some {cls:=.none,data:=.fields ps}:=x;show h'.get? a=some {cls:=.none,data:=.fields ps};exact k a _ (.inl rfl) e
 |lam t u q=>
  let⟨ps,e,r⟩:=x;refine⟨ps,k _ _ (.inl rfl) e,?_⟩;rcases r with r|⟨c,r1,r2,r3,b,ob,vs,tq,e1,e2,e3,e4⟩
  .exact .inl r
  .cases e1
   exact .inr ⟨c,r1,ho _ r2,r3,c,ob,vs,tq,rfl,k _ _ (.inr r2) e2,e3,e4⟩
 |met f y=>
  have e:h.get? a=some (W.methodObj (.ref f) (.ref y)):=x;show h'.get? a=some (W.methodObj (.ref f) (.ref y));exact k a _ (.inl rfl) e
 |ext φ=>let⟨p,⟨o,e⟩,st⟩:=x;exact⟨st _ _ p λo q=>k _ _ (.inl rfl) q,⟨o,k _ _ (.inl rfl) e⟩,st⟩
def mQ.lt(x:mQ P w H h)(e:H a=some o):a<h.objs.size:=(x a o e).lt
def mQ.fresh(x:mQ P w H h)(e:h.objs.size<=a):H a=none:=by
 cases q:H a with
 |none=>rfl
 |some u=>exact absurd (Ô (x.lt q) e) (ö _)
def mQ.kept(x:mQ P w H h)(k:∀b u,h.get? b=some u->h'.get? b=some u):mQ P w H h':=λa o e=>
 (x a o e).stay (λb u _ q=>k b u q) (λ_ q=>q) λ_ _ q=>q
def mQ.laid(x:mQ P w H h)(k:∀b u,h.get? b=some u->h'.get? b=some u)(hp:h.objs.size<=a)(new:eE P w (aY H a o) h' a o):mQ P w (aY H a o) h':=λb u e=>by
 have hn:=x.fresh hp;by_cases hb:b=a
 .subst hb;rw[aP]at e;cases e;exact new
 .rw[aH hb]at e
  exact(x b u e).stay (λc v _ q=>k c v q) (λc q=>by rw[aH (bL q hn)];exact q) λc xs q=>by rw[aH (bL q hn)];exact q
end
def Rd(H:Hp)(a:Addr)(u:HO):Prop:=H a=some u\/∃o,H a=some (.frz o u)
def Rd.ok(r:Rd H a u)(x:mQ P w H h):eE P w H h a u:=by
 rcases r with r|⟨o,r⟩
 .exact x a u r
 .obtain⟨_,q⟩:=x a _ r
  exact q
def Ī:Option HO->Prop
 |some (.lst _)=>True
 |some (.dK _)=>True
 |some (.dT _)=>True
 |some (.set _ _)=>True
 |some (.ins _ _ _)=>True
 |some (.ext _)=>True
 |_=>False
section
def mQ.write(ok:mQ P w H h)(mu:Ī (H x))(he:e=x\/H e=some (.own x))(k:∀b u,b≠e->h.get? b=some u->h'.get? b=some u)(heo:∃u,h'.get? e=some u)(new:eE P w (aY H x o') h' x o'):mQ P w (aY H x o') h':=λb u q=>by
 have nown:∀c y,H c=some (.own y)->c≠x:=λc y r z=>by subst z;rw[r]at mu;exact mu
 have ntup:∀c xs,H c=some (.tup xs)->c≠x:=λc xs r z=>by subst z;rw[r]at mu;exact mu
 by_cases hb:b=x
 .subst hb;rw[aP]at q;cases q;exact new
 .rw[aH hb]at q
  by_cases hbe:b=e
  .have q':H b=some (.own x):=by
    rcases he with z|z
    .grind
    .rw[hbe];exact z
   rw[q]at q';cases q';let⟨v,hv⟩:=heo;exact⟨v,by rw[hbe];exact hv⟩
  .refine(ok b u q).stay (λc v hc r=>k c v ?_ r) (λc r=>by rw[aH (nown c b r)];exact r) λc xs r=>by rw[aH (ntup c xs r)];exact r
   grind
end
structure Un(fs ex:ZM)(H H':Hp)(h h':Heap):Prop where
 keep:∀b o,h.get? b=some o->H b=none->b∉fs->b∉ex->h'.get? b=some o
 slot:∀b o,h.get? b=some o->H b=none->b∈fs->b∉ex->∃sl,h'.get? b=some {o with slots:=sl}
 free:∀b o,h.get? b=some o->H b=none->b∉ex->H' b=none
 there:∀b o,h.get? b=some o->b∉ex->∃o',h'.get? b=some o'
 tups:∀b xs,H b=some (.tup xs)->H' b=some (.tup xs)
 frzs:∀b o u,H b=some (.frz o u)->H' b=some (.frz o u)
 tbls:∀b ps,H b=some (.tbl ps)->∃more,H' b=some (.tbl (ps++more))
section
variable {fs ex:ZM}{H:Hp}{h h':Heap}{a:Addr}{o:HO}
def Un.any(u:Un fs ex H H1 h h1)(q:h.get? b=some ob)(n:H b=none)(hx:b∉ex):∃sl,h1.get? b=some {ob with slots:=sl}:=by
 by_cases hb:b∈fs
 .exact u.slot b ob q n hb hx
 .exact⟨ob.slots,u.keep b ob q n hb hx⟩
def Un.kept(k:∀b u,h.get? b=some u->h'.get? b=some u):Un fs ex H H h h':=
 ⟨λb ob q _ _ _=>k b ob q,λb ob q _ _ _=>⟨ob.slots,k b ob q⟩,λ_ _ _ n _=>n,λb ob q _=>⟨ob,k b ob q⟩,λ_ _ q=>q,λ_ _ _ q=>q,λ_ ps q=>⟨#[],by rw[q];simp⟩⟩
def Un.refl:Un fs ex H H h h:=Un.kept λ_ _ q=>q
def Un.laid(k:∀b u,h.get? b=some u->h'.get? b=some u)(hp:h.objs.size<=a)(hn:H a=none):Un fs ex H (aY H a o) h h' where
 keep:=λb u q _ _ _=>k b u q
 slot:=λb u q _ _ _=>⟨u.slots,k b u q⟩
 free:=λb u q n _=>by rw[aH (Ì (Ô (Heap.lt_size q) hp))];exact n
 there:=λb u q _=>⟨u,k b u q⟩
 tups:=λb xs q=>by rw[aH (bL q hn)];exact q
 frzs:=λb u xs q=>by rw[aH (bL q hn)];exact q
 tbls:=λb ps q=>⟨#[],by rw[aH (bL q hn),q];simp⟩
def Un.write(mu:Ī (H x))(he:e=x\/H e=some (.own x))(k:∀b u,b≠e->h.get? b=some u->h'.get? b=some u)(heo:∃u,h'.get? e=some u):Un fs ex H (aY H x o) h h':=by
 have hx:∀b,H b=none->b≠x:=λb n z=>by subst z;rw[n]at mu;exact mu
 have hb:∀b,H b=none->b≠e:=λb n z=>by
  grind
 have hm:∀b u,H b=some u->¬Ī (some u)->b≠x:=λb u q nm z=>by grind
 refine⟨λb u q n _ _=>k b u (hb b n) q,λb u q n _ _=>⟨u.slots,k b u (hb b n) q⟩,λb u q n _=>by rw[aH (hx b n)];exact n,λb u q _=>?_,
  λb xs q=>by rw[aH (hm b _ q λz=>z)];exact q,λb u xs q=>by rw[aH (hm b _ q λz=>z)];exact q,λb ps q=>⟨#[],by rw[aH (hm b _ q λz=>z),q];simp⟩⟩
 grind
end
def ĸ(h:Heap)(H:Hp):ZM:=(List.range h.objs.size).filter λa=>(H a).isSome
def AT(h:Heap)(H:Hp):Heap:=W.hideAll h (ĸ h H)
def P3(h:Heap)(H:Hp):(AT h H).objs.size=h.objs.size:=W.hideAll_size _ _
def SU{h:Heap}{H:Hp}{b:Addr}{o:Obj}(e:h.get? b=some o)(n:H b=none):(AT h H).get? b=some o:=
 W.hideAll_get _ e λhm=>by
  have q:(H b).isSome=true:=(List.mem_filter.mp hm).2;rw[n]at q;simp at q
def Z9(e:(AT h H).get? b=some o):h.get? b=some o/\H b=none:=by
 have e':h.get? b=some o:=W.of_hideAll (ĸ h H) e;refine⟨e',?_⟩;cases q:H b with
 |none=>rfl
 |some x=>
  have hm:b∈ĸ h H:=List.mem_filter.mpr ⟨List.mem_range.mpr (Heap.lt_size e'),by simp[q]⟩;have z:(AT h H).get? b=none:=W.hideAll_none (ĸ h H) hm;rw[z]at e;cases e
def aAA(g h:Heap)(L:Addr):ZB:=(List.range h.objs.size).filterMap λa=>if a=L\/(g.get? a).isSome=true then none else (h.get? a).map λo=>(a,o)
def rest(g h:Heap)(L d:Addr):ZB:=(aAA g h L).filter λp=>decide (p.1≠d)
structure Mod(K:ZC)(mg:ZD)(base:Heap):Prop where
 kin:K.In base
 glob:base.Ns mainGlobals mg
 blt:∃mb,base.Ns builtinsNs mb/\∀x:Str,x≠"__name__"->mb x=bootBuiltins x
 nolimit:base.NoLimit
structure Cx where
 prog:Program
 w:World
 K:ZC
 mg:ZD
 base:Heap
 A:Around
 N:ZG
 s₀:Shared
 H₀:Hp
 env:Env
 outer:List Env
 stack:List Env
 ex:ZM
 fn:Str->Bool
 calm:Bool
 pn:ZB
 xe:ZA
def mZ(l:List Env):ZM:=l.filterMap (·.frame)
abbrev Cx.fs(X:Cx):ZM:=mZ X.outer
def AR(sc:Scope)(x:Str):Prop:=sc.names.lookup x=some .local\/sc.names.lookup x=some .cell\/sc.names.lookup x=some .free
def ć(sc:Scope)(x:Str):Prop:=sc.names.lookup x=some .local\/sc.names.lookup x=some .cell
def aNL(env:Env)(h:Heap)(m:ZD)(x:Str)(u:Value):Prop:=
 (env.kindOf x=some .local/\m x=some u)\/((env.kindOf x=some .cell\/env.kindOf x=some .free)/\∃c,env.cells.lookup x=some c/\h.IsCell c (some u))
structure Cx.Ok(X:Cx):Prop where
 mod:Mod X.K X.mg X.base
 kind:X.env.scope.kind=.function
 glob:X.env.globals=mainGlobals
 blt:X.env.builtins=builtinsNs
 above:X.s₀.heap.objs.size<=X.env.locals
 inj:∀x y c,X.env.cells.lookup x=some c->X.env.cells.lookup y=some c->x=y
 has:∀x,(X.env.kindOf x=some .cell\/X.env.kindOf x=some .free)->∃c,X.env.cells.lookup x=some c
 cab:∀x c,X.fn x=true->X.env.cells.lookup x=some c->X.s₀.heap.objs.size<=c
 hd:X.calm=true->X.A.handled=none
 frames:X.A.frames=some X.stack
 stk:X.stack=X.outer\/(X.stack=X.env::X.outer/\X.env.frame=some X.env.locals)
 exf:∀b∈X.ex,b≠X.env.locals/\∀x c,X.env.cells.lookup x=some c->c≠b
 bs:∀b o,X.base.get? b=some o->X.s₀.heap.get? b=some o/\X.H₀ b=none
 bsz:X.base.objs.size<=X.s₀.heap.objs.size
 noex:∀b o,X.base.get? b=some o->b∉X.ex
 exfs:∀b∈X.ex,b∉X.fs
 funs:X.s₀.heap.FunFrames X.base X.outer
 frf:∀b∈X.fs,X.H₀ b=none
structure Inv(X:Cx)(À:ZB)(σ:List (Option V))(H:Hp)(s:Shared):Prop where
 ok:X.Ok
 os:s.os=X.s₀.os
 bare:AllBare s.gens
 base:Un X.fs X.ex X.H₀ H X.s₀.heap s.heap
 loc:∃m,s.heap.Ns X.env.locals m/\∀(i:Nat)(x:Str)(v:V),X.N[i]?=some x->σ[i]?=some (some v)->AR X.env.scope x->∃u,bI v u/\aNL X.env s.heap m x u
 cell:∀x c,X.env.cells.lookup x=some c->∃v,s.heap.IsCell c v
 free:H X.env.locals=none
 freeC:∀x c,X.env.cells.lookup x=some c->H c=none
 pin:∀p∈X.pn++À,s.heap.get? p.1=some p.2/\H p.1=none/\p.1≠X.env.locals/\p.1∉X.fs/\∀v,p.2.data≠.cell v
 hok:mQ X.prog X.w H s.heap
 len:σ.length=X.N.length
section
variable {X:Cx}
def Cx.Ok.nofr(ok:X.Ok)(e:X.base.get? b=some o):b∉X.fs:=λhb=>by
 have:=(ok.funs.mem hb).1;rw[e]at this;cases this
def Inv.bs(I:Inv X À σ H s):∀b o,X.base.get? b=some o->s.heap.get? b=some o/\H b=none:=λb o e=>
 ⟨I.base.keep b o (I.ok.bs b o e).1 (I.ok.bs b o e).2 (I.ok.nofr e) (I.ok.noex b o e),I.base.free b o (I.ok.bs b o e).1 (I.ok.bs b o e).2 (I.ok.noex b o e)⟩
def Inv.bk(I:Inv X À σ H s):∀b o,X.base.get? b=some o->s.heap.get? b=some o:=λb o e=>(I.bs b o e).1
def Inv.mod(I:Inv X À σ H s):Mod X.K X.mg X.base:=I.ok.mod
def Inv.kIn(I:Inv X À σ H s):X.K.In s.heap:=I.ok.mod.kin.keeps I.bk
theorem Inv.nolimit(I:Inv X À σ H s):s.heap.NoLimit:=I.ok.mod.nolimit.keeps I.bk
def Inv.lt(I:Inv X À σ H s):X.env.locals<s.heap.objs.size:=let ⟨_,hn,_⟩:=I.loc;hn.lt
def Inv.sz(I:Inv X À σ H s):X.s₀.heap.objs.size<=s.heap.objs.size:=Ø I.ok.above (É I.lt)
def Inv.nofs(I:Inv X À σ H s){a:Addr}(h:s.heap.objs.size<=a):a∉X.fs:=λhb=>by
 let⟨_,o,ho,_⟩:=I.ok.funs.mem hb;exact absurd (Ô (Heap.lt_size ho) (Ø I.sz h)) (ö _)
def Inv.cne(I:Inv X À σ H s):∀x c,X.env.cells.lookup x=some c->c≠X.env.locals:=λx c e z=>by
 let⟨v,o,ho,hd⟩:=I.cell x c e;let⟨m,⟨o',es,ep,ho',hd',_⟩,_⟩:=I.loc
 grind
def Inv.funs(I:Inv X À σ H s):s.heap.FunFrames X.base X.outer:=by
 have all:∀(l:List Env),(∀b∈mZ l,b∈X.fs)->X.s₀.heap.FunFrames X.base l->s.heap.FunFrames X.base l:=by
  intro l
  induction l with
  |nil=>intro _ _;trivial
  |cons env r ih=>
   intro hs hl;let⟨hk,⟨L,o,hf,hn,ho,hd⟩,hr⟩:=hl;have hL:L∈X.fs:=hs L (by unfold mZ;rw[List.filterMap_cons,hf];exact Õ)
   let⟨sl,e⟩:=I.base.slot L o ho (I.ok.frf L hL) hL λz=>I.ok.exfs L z hL;exact⟨hk,⟨L,_,hf,hn,e,hd⟩,ih (λb hb=>hs b (by unfold mZ;rw[List.filterMap_cons,hf];exact Ó _ hb)) hr⟩
 exact all X.outer (λ_ hb=>hb) I.ok.funs
def Inv.stack(I:Inv X À σ H s):s.heap.FunFrames X.base X.stack:=by
 rcases I.ok.stk with e|⟨e,hf⟩
 .rw[e];exact I.funs
 .rw[e]
  let⟨m,hn,_⟩:=I.loc;refine .cons (by rw[I.ok.kind];decide) hf hn ?_ I.funs;exact Heap.get?_none_of_le (Ø I.ok.bsz I.ok.above)
def Inv.stkSub(I:Inv X À σ H s):∀b∈mZ X.stack,b∈X.env.locals::X.fs:=λb hb=>by
 rcases I.ok.stk with e|⟨e,hf⟩
 .grind
 .rw[e]at hb
  unfold mZ at hb;rw[List.filterMap_cons,hf]at hb;exact hb
def Inv.stkFree(I:Inv X À σ H s):∀b∈mZ X.stack,H b=none:=λb hb=>by
 rcases Ï.mp (I.stkSub b hb)with e|hb
 .rw[e];exact I.free
 .obtain⟨_,o,ho,_⟩:=I.ok.funs.mem hb
  exact I.base.free b o ho (I.ok.frf b hb) λz=>I.ok.exfs b z hb
def Inv.step{ch:ZM}(I:Inv X À σ H s)(hch:∀b∈ch,(b∈X.ex\/X.s₀.heap.objs.size<=b)/\b≠X.env.locals/\(∀x c,X.env.cells.lookup x=some c->c≠b)/\∀p∈X.pn++À,p.1≠b)(keep:∀b o,b≠X.env.locals->b∉X.fs->b∉ch->s.heap.get? b=some o->H b=none->h'.get? b=some o)(slot:∀b o,b≠X.env.locals->b∈X.fs->b∉ch->s.heap.get? b=some o->H b=none->∃sl,h'.get? b=some {o with slots:=sl})(free:∀b o,b∉ch->s.heap.get? b=some o->H b=none->H' b=none)(there:∀b o,b∉ch->s.heap.get? b=some o->∃o',h'.get? b=some o')(tups:∀b xs,H b=some (.tup xs)->H' b=some (.tup xs))(frzs:∀b o u,H b=some (.frz o u)->H' b=some (.frz o u))(tbls:∀b ps,H b=some (.tbl ps)->∃more,H' b=some (.tbl (ps++more)))(ns:∀m,s.heap.Ns X.env.locals m->h'.Ns X.env.locals m)(hok:mQ X.prog X.w H' h')(hg:AllBare g'):
  Inv X À σ H' {s with heap:=h',gens:=g',drawn:=d',toks:=t'}:=by
 have neL:∀b o,X.s₀.heap.get? b=some o->b≠X.env.locals:=λb o e=>Ì (Ô (Heap.lt_size e) I.ok.above);have neC:∀b o,X.s₀.heap.get? b=some o->b∉X.ex->b∉ch:=λb o e hx hb=>by
  rcases(hch b hb).1 with z|z
  .exact hx z
  .exact absurd (Ô (Heap.lt_size e) z) (ö _)
 have cellK:∀x c,X.env.cells.lookup x=some c->∀v,s.heap.IsCell c v->h'.IsCell c v:=λx c e v⟨o,ho,hd⟩=>by
  have nch:c∉ch:=λz=>(hch c z).2.2.1 x c e rfl;by_cases hc:c∈X.fs
  .obtain⟨sl,q⟩:=slot c o (I.cne x c e) hc nch ho (I.freeC x c e)
   exact⟨_,q,hd⟩
  .exact⟨o,keep c o (I.cne x c e) hc nch ho (I.freeC x c e),hd⟩
 refine⟨I.ok,I.os,hg,⟨λb o e n hb hx=>?_,λb o e n hb hx=>?_,λb o e n hx=>?_,λb o e hx=>?_,λb xs e=>tups b xs (I.base.tups b xs e),λb o xs e=>frzs b o xs (I.base.frzs b o xs e),λb ps e=>?_⟩,?_,λx c e=>?_,?_,λx c e=>?_,λp hp=>?_,hok,I.len⟩
 .exact keep b o (neL b o e) hb (neC b o e hx) (I.base.keep b o e n hb hx) (I.base.free b o e n hx)
 .obtain⟨sl,e1⟩:=I.base.slot b o e n hb hx
  let⟨sl',e2⟩:=slot b _ (neL b o e) hb (neC b o e hx) e1 (I.base.free b o e n hx);exact⟨sl',e2⟩
 .obtain⟨o',e1⟩:=I.base.there b o e hx
  exact free b o' (neC b o e hx) e1 (I.base.free b o e n hx)
 .obtain⟨o',e1⟩:=I.base.there b o e hx
  exact there b o' (neC b o e hx) e1
 .obtain⟨m1,e1⟩:=I.base.tbls b ps e
  let⟨m2,e2⟩:=tbls b _ e1;exact⟨m1++m2,by rw[e2,Array.append_assoc]⟩
 .obtain⟨m,hn,hl⟩:=I.loc
  refine⟨m,ns m hn,λi x v e1 e2 e3=>?_⟩;let⟨u,r,l⟩:=hl i x v e1 e2 e3;refine⟨u,r,?_⟩;rcases l with l|⟨k,c,e,z⟩
  .exact .inl l
  .exact .inr ⟨k,c,e,cellK x c e _ z⟩
 .obtain⟨v,z⟩:=I.cell x c e
  exact⟨v,cellK x c e v z⟩
 .obtain⟨m,⟨o,_,_,ho,_⟩,_⟩:=I.loc
  exact free _ o (λz=>(hch _ z).2.1 rfl) ho I.free
 .obtain⟨v,o,ho,hd⟩:=I.cell x c e
  exact free c o (λz=>(hch c z).2.2.1 x c e rfl) ho (I.freeC x c e)
 .obtain⟨e,n,ne,nf,d⟩:=I.pin p hp
  have nch:p.1∉ch:=λz=>(hch p.1 z).2.2.2 p hp rfl;exact⟨keep p.1 p.2 ne nf nch e n,free p.1 p.2 nch e n,ne,nf,d⟩
def Inv.un(I:Inv X À σ H s)(u:Un X.fs [] H H' s.heap h')(hok:mQ X.prog X.w H' h'):Inv X À σ H' {s with heap:=h',toks:=t'}:=by
 let⟨m,⟨o,es,ep,ho,r⟩,_⟩:=id I.loc;let⟨sl,hL⟩:=u.any ho I.free 'f';exact I.step (g':=s.gens) (d':=s.drawn) (ch:=[]) (λ_ z=>nomatch z) (λb o _ hb _ e n=>u.keep b o e n hb 'f') (λb o _ hb _ e n=>u.slot b o e n hb 'f') (λb o _ e n=>u.free b o e n 'f') (λb o _ e=>u.there b o e 'f') u.tups u.frzs u.tbls (λm' hm=>by
  let⟨o',es',ep',ho',r'⟩:=hm;rw[ho]at ho';cases ho';exact⟨_,es',ep',hL,r'⟩) hok I.bare
def Inv.call(I:Inv X À σ H s)(u:Un (mZ X.stack) ch H H' s.heap h')(hok:mQ X.prog X.w H' h')(hg:AllBare g')(hch:∀b∈ch,(b∈X.ex\/X.s₀.heap.objs.size<=b)/\b≠X.env.locals/\(∀x c,X.env.cells.lookup x=some c->c≠b)/\∀p∈X.pn++À,p.1≠b):
  Inv X À σ H' {s with heap:=h',gens:=g',drawn:=d',toks:=t'}:=by
 let⟨m,⟨o,es,ep,ho,r⟩,_⟩:=id I.loc;let⟨sl,hL⟩:=u.any ho I.free λz=>(hch _ z).2.1 rfl;exact I.step (ch:=ch) hch (λb o hL hb hc e n=>u.keep b o e n (λz=>(Ï.mp (I.stkSub b z)).elim hL hb) hc) (λb o _ _ hc e n=>u.any e n hc) (λb o hc e n=>u.free b o e n hc) (λb o hc e=>u.there b o e hc) u.tups u.frzs u.tbls (λm' hm=>by
  let⟨o',es',ep',ho',r'⟩:=hm;rw[ho]at ho';cases ho';exact⟨_,es',ep',hL,r'⟩) hok hg
def Inv.turned(I:Inv X À σ H s)(k:∀b o,b≠it->s.heap.get? b=some o->h'.get? b=some o)(hn:H it=none)(hL:it≠X.env.locals)(h1:it∈X.ex\/X.s₀.heap.objs.size<=it)(h2:∀x c,X.env.cells.lookup x=some c->c≠it)(h3:∀p∈X.pn++À,p.1≠it):Inv X À σ H {s with heap:=h',toks:=t'}:=by
 have nit:∀b u,H b=some u->b≠it:=λb u e z=>by rw[z,hn]at e;cases e
 refine I.step (g':=s.gens) (d':=s.drawn) (ch:=[it]) (λb hb=>?_) (λb o _ _ hc e _=>k b o (λz=>hc (by simp[z])) e) (λb o _ _ hc e _=>⟨o.slots,k b o (λz=>hc (by simp[z])) e⟩) (λ_ _ _ _ n=>n)
  (λb o hc e=>⟨o,k b o (λz=>hc (by simp[z])) e⟩) (λ_ _ e=>e) (λ_ _ _ e=>e) (λb ps e=>⟨#[],by rw[e];simp⟩) (λm hm=>?_) (λb u e=>?_) I.bare
 .have e:b=it:=by simpa using hb
  subst e;exact⟨h1,hL,h2,h3⟩
 .obtain⟨o,es,ep,ho,r⟩:=hm
  exact⟨o,es,ep,k _ o (Í hL) ho,r⟩
 .refine(I.hok b u e).stay (λc v hc q=>k c v ?_ q) (λ_ q=>q) λ_ _ q=>q
  rcases hc with z|z
  .rw[z];exact nit b u e
  .exact nit c _ z
def Inv.tok(I:Inv X À σ H s)(t:Nat):Inv X À σ H {s with toks:=t}:=I.un (h':=s.heap) (t':=t) Un.refl I.hok
def Inv.kept(I:Inv X À σ H s)(k:∀b u,s.heap.get? b=some u->h'.get? b=some u):Inv X À σ H {s with heap:=h',toks:=t'}:=I.un (Un.kept k) (I.hok.kept k)
def Inv.laid(I:Inv X À σ H s)(k:∀b u,s.heap.get? b=some u->h'.get? b=some u)(hp:s.heap.objs.size<=a)(new:eE X.prog X.w (aY H a o) h' a o):
  Inv X À σ (aY H a o) {s with heap:=h',toks:=t'}:=I.un (Un.laid k hp (I.hok.fresh hp)) (I.hok.laid k hp new)
def Inv.write(I:Inv X À σ H s)(mu:Ī (H x))(he:e=x\/H e=some (.own x))(k:∀b u,b≠e->s.heap.get? b=some u->h'.get? b=some u)(heo:∃u,h'.get? e=some u)(new:eE X.prog X.w (aY H x o) h' x o):Inv X À σ (aY H x o) {s with heap:=h',toks:=t'}:=I.un (Un.write mu he k heo) (I.hok.write mu he k heo new)
def Inv.pins_of(I:Inv X À σ H s)(h:∀p∈pins',s.heap.get? p.1=some p.2/\H p.1=none/\p.1≠X.env.locals/\p.1∉X.fs/\∀v,p.2.data≠.cell v):Inv X pins' σ H s:=
 ⟨I.ok,I.os,I.bare,I.base,I.loc,I.cell,I.free,I.freeC,λp hp=>(ă.mp hp).elim (λz=>I.pin p (Ć _ z)) (h p),I.hok,I.len⟩
def GL{N:ZG}(hN:N.Nodup){i j:Nat}(a:N[i]?=some x)(b:N[j]?=some x):i=j:=by
 let⟨h1,e1⟩:=Î.mp a;let⟨h2,e2⟩:=Î.mp b;exact(List.getElem_inj hN).mp (e1.trans e2.symm)
def BG{M:Model}{A:Around}{E:ZA}{i:Nat}{x:Str}{v:V}{u:Value}{Q:Unit->Shared->Prop}(I:Inv X À σ H s)(hN:X.N.Nodup)(hi:X.N[i]?=some x)(hx:ć X.env.scope x)(r:bI v u)(h:∀s',Inv X À (σ.set i (some v)) H s'->(∃a,Heap.SameBut a s.heap s'.heap/\(a=X.env.locals\/X.env.cells.lookup x=some a))->Q () s')(hf:X.fn x=true\/X.env.scope.names.lookup x=some .local:=by first|exact .inl rfl|exact .inr rfl|assumption):wpAny M A (storeName X.env x u) Q E s:=by
 let⟨m,hn,hl⟩:=id I.loc;have hcls:(X.env.scope.kind == .class || (X.env.scope.kind == .module && X.env.locals != X.env.globals))=false:=by rw[I.ok.kind];rfl
 have hiσ:i<σ.length:=by rw[I.len];exact(Î.mp hi).1
 have cne:=I.cne;have tracked:∀{a:Addr}{h':Heap},(∃o,s.heap.get? a=some o/\H a=none)->Heap.SameBut a s.heap h'->mQ X.prog X.w H h':=λ{a h'}ha hs b ob e=>by
  let⟨_,_,hfree⟩:=ha;refine(I.hok b ob e).stay (λc w' hc q=>(hs.2 c ?_).trans q) (λ_ q=>q) λ_ _ q=>q
  grind
 rcases hx with hk|hk
 .refine wpAny_storeName_local hk hn (λh' hn' hs=>?_) hcls
  let⟨oL,_,_,hoL,_⟩:=id hn;refine h _ ⟨I.ok,I.os,I.bare,⟨λb o e n hb hx=>?_,λb o e n hb hx=>?_,I.base.free,λb o e hx=>?_,I.base.tups,I.base.frzs,I.base.tbls⟩,⟨_,hn',λj y v' e1 e2 e3=>?_⟩,λy c e=>?_,I.free,I.freeC,λp hp=>?_,tracked ⟨oL,hoL,I.free⟩ hs,by simpa using I.len⟩ ⟨_,hs,.inl rfl⟩
  .exact(hs.2 b (Ì (Ô (Heap.lt_size e) I.ok.above))).trans (I.base.keep b o e n hb hx)
  .obtain⟨sl,e1⟩:=I.base.slot b o e n hb hx
   exact⟨sl,(hs.2 b (Ì (Ô (Heap.lt_size e) I.ok.above))).trans e1⟩
  .obtain⟨o',e1⟩:=I.base.there b o e hx
   exact⟨o',(hs.2 b (Ì (Ô (Heap.lt_size e) I.ok.above))).trans e1⟩
  .by_cases hj:j=i
   .subst hj
    rw[hi]at e1;cases e1;rw[â hiσ]at e2;cases e2;exact⟨u,r,.inl ⟨hk,by simp⟩⟩
   .rw[Ù (Í hj)]at e2
    let⟨u',r',q⟩:=hl j y v' e1 e2 e3;refine⟨u',r',?_⟩;rcases q with ⟨k,e⟩|⟨k,c,e,z⟩
    .refine .inl ⟨k,?_⟩
     have:y≠x:=λe=>hj (GL hN e1 (e▸hi));simp[this,e]
    .exact .inr ⟨k,c,e,z.sameBut hs (cne y c e)⟩
  .obtain⟨w',z⟩:=I.cell y c e
   exact⟨w',z.sameBut hs (cne y c e)⟩
  .obtain⟨e,n,ne,nf,d⟩:=I.pin p hp
   exact⟨(hs.2 p.1 ne).trans e,n,ne,nf,d⟩
 .have hfn:X.fn x=true:=by
   rcases hf with z|z
   .exact z
   .rw[z]at hk;cases hk
  let⟨c,hc⟩:=I.ok.has x (.inl hk);let⟨w',z⟩:=I.cell x c hc;refine wpAny_storeName_cell I.ok.kind hk hc z (λh' hc' hs=>?_);let⟨oc,hoc,hocd⟩:=id z;refine h {s with heap:=h'} ⟨I.ok,I.os,I.bare,⟨λb o e n hb hx=>?_,λb o e n hb hx=>?_,I.base.free,λb o e hx=>?_,I.base.tups,I.base.frzs,I.base.tbls⟩,⟨m,hn.sameBut hs (Í (cne x c hc)),λj y v' e1 e2 e3=>?_⟩,λy c' e=>?_,I.free,I.freeC,λp hp=>?_,tracked ⟨oc,hoc,I.freeC x c hc⟩ hs,by simpa using I.len⟩ ⟨c,hs,.inr hc⟩
  .exact(hs.2 b (Ì (Ô (Heap.lt_size e) (I.ok.cab x c hfn hc)))).trans (I.base.keep b o e n hb hx)
  .obtain⟨sl,e1⟩:=I.base.slot b o e n hb hx
   exact⟨sl,(hs.2 b (Ì (Ô (Heap.lt_size e) (I.ok.cab x c hfn hc)))).trans e1⟩
  .obtain⟨o',e1⟩:=I.base.there b o e hx
   exact⟨o',(hs.2 b (Ì (Ô (Heap.lt_size e) (I.ok.cab x c hfn hc)))).trans e1⟩
  .by_cases hj:j=i
   .subst hj
    rw[hi]at e1;cases e1;rw[â hiσ]at e2;cases e2;exact⟨u,r,.inr ⟨.inl hk,c,hc,hc'⟩⟩
   .rw[Ù (Í hj)]at e2
    let⟨u',r',q⟩:=hl j y v' e1 e2 e3;refine⟨u',r',?_⟩;rcases q with q|⟨k,c',e,z'⟩
    .exact .inl q
    .refine .inr ⟨k,c',e,z'.sameBut hs ?_⟩
     rintro rfl;exact hj (GL hN e1 (I.ok.inj _ _ _ e hc▸hi))
  .by_cases hcc:c'=c
   .grind
   .obtain⟨w2,z2⟩:=I.cell y c' e
    exact⟨w2,z2.sameBut hs hcc⟩
  .obtain⟨e,n,ne,nf,d⟩:=I.pin p hp
   refine⟨(hs.2 p.1 ?_).trans e,n,ne,nf,d⟩
   grind
def GM{M:Model}{A:Around}{E:ZA}{i:Nat}{x:Str}{v:V}{u:Value}{Q:Unit->Shared->Prop}(I:Inv X À σ H s)(hN:X.N.Nodup)(hi:X.N[i]?=some x)(hx:ć X.env.scope x)(r:bI v u)(h:∀s',Inv X À (σ.set i (some v)) H s'->Q () s')(hf:X.fn x=true\/X.env.scope.names.lookup x=some .local:=by first|exact .inl rfl|exact .inr rfl|assumption):wpAny M A (storeName X.env x u) Q E s:=
 BG I hN hi hx r (λs' I' _=>h s' I') hf
def Inv.call'(I:Inv X À σ H s)(ho:s'.os=s.os)(u:Un (mZ X.stack) ch H H' s.heap s'.heap)(hok:mQ X.prog X.w H' s'.heap)(hg:AllBare s'.gens)(hch:∀b∈ch,(b∈X.ex\/X.s₀.heap.objs.size<=b)/\b≠X.env.locals/\(∀x c,X.env.cells.lookup x=some c->c≠b)/\∀p∈X.pn++À,p.1≠b):Inv X À σ H' s':=by
 let⟨h',g',d',t',o'⟩:=s';have e:o'=s.os:=ho;subst e;exact I.call (g':=g') (t':=t') (d':=d') u hok hg hch
end
abbrev XK:=Value->Option Addr->Hp->Prop
abbrev St:=List (Option V)
abbrev VK:=V->Hp->Prop
abbrev TE:=St->Hp->VK->Prop
abbrev TT:=St->Hp->(Bool->Hp->Prop)->Prop
abbrev TA:=St->Hp->(List V->Hp->Prop)->Prop
structure wB where
 nx:St->Hp->Prop
 rt:VK
 bk:St->Hp->Prop:=λ_ _=>False
 ct:St->Hp->Prop:=λ_ _=>False
abbrev TS:=wB->St->Hp->Prop
def EP(X:Cx)(À:ZB)(σ:St)(Q:VK)(u:Value)(s':Shared):Prop:=∃v H',Inv X À σ H' s'/\bI v u/\Q v H'
def TP(X:Cx)(À:ZB)(σ:St)(Q:Bool->Hp->Prop)(b:Bool)(s':Shared):Prop:=∃H',Inv X À σ H' s'/\Q b H'
def AP(X:Cx)(À:ZB)(σ:St)(Q:List V->Hp->Prop)(us:ZJ)(s':Shared):Prop:=∃vs H',Inv X À σ H' s'/\bJ vs us/\Q vs H'
def SP(X:Cx)(À:ZB)(D:wB)(f:Flow)(s':Shared):Prop:=
 match f with
 |.next=>∃σ' H',Inv X À σ' H' s'/\D.nx σ' H'
 |.brk=>∃σ' H',Inv X À σ' H' s'/\D.bk σ' H'
 |.cont=>∃σ' H',Inv X À σ' H' s'/\D.ct σ' H'
 |.ret u=>∃v σ' H',Inv X À σ' H' s'/\bI v u/\D.rt v H'
def PE(X:Cx)(e:Expr)(t:TE):Prop:=
 ∀(À:ZB)(s:Shared)(σ:St)(H:Hp)(Q:VK),Inv X À σ H s->t σ H Q->wpAny 'b' X.A (eval e X.env) (EP X À σ Q) X.xe s
def PT(X:Cx)(e:Expr)(t:TT):Prop:=
 ∀(À:ZB)(s:Shared)(σ:St)(H:Hp)(Q:Bool->Hp->Prop),Inv X À σ H s->t σ H Q->wpAny 'b' X.A (isTrue e X.env (eval e X.env)) (TP X À σ Q) X.xe s
def PW(X:Cx)(e:Expr)(t:TT):Prop:=
 ∀(whole:Sem Value)(À:ZB)(s:Shared)(σ:St)(H:Hp)(Q:Bool->Hp->Prop),Inv X À σ H s->t σ H Q->wpAny 'b' X.A (isTrue e X.env whole) (TP X À σ Q) X.xe s
def PW.pt(h:PW X e t):PT X e t:=h _
def PA(X:Cx)(es:List Expr)(t:TA):Prop:=
 ∀(pos:Pos)(À:ZB)(s:Shared)(σ:St)(H:Hp)(Q:List V->Hp->Prop),Inv X À σ H s->t σ H Q->wpAny 'b' X.A (spliced (backTo pos (starEach es X.env))) (AP X À σ Q) X.xe s
def PS(X:Cx)(st:Stmt)(t:TS):Prop:=
 ∀(À:ZB)(s:Shared)(σ:St)(H:Hp)(D:wB),Inv X À σ H s->t D σ H->wpAny 'b' X.A (exec st X.env) (SP X À D) X.xe s
def C8(X:Cx)(st:List Stmt)(t:TS):Prop:=
 ∀(À:ZB)(s:Shared)(σ:St)(H:Hp)(D:wB),Inv X À σ H s->t D σ H->wpAny 'b' X.A (execs st X.env) (SP X À D) X.xe s
def cY{Q Q':α->Shared->Prop}(h:wpAny M A t Q E s)(hQ:∀a s,Q a s->Q' a s):wpAny M A t Q' E s:=wpAny_mono h hQ λ_ _ x=>x
section
variable {X:Cx}
def aQL(ha:PE X a ta)(hb:PE X b tb){R:V->V->Hp->Prop}(I:Inv X À σ H s)(h:ta σ H λx H1=>tb σ H1 λy H2=>R x y H2){f:Value->Value->Sem α}(hf:∀v u s2 x y H2,Inv X À σ H2 s2->bI x v->bI y u->R x y H2->wpAny 'b' X.A (f v u) Q X.xe s2):
  wpAny 'b' X.A (eval a X.env) (λv s₁=>wpAny 'b' X.A (eval b X.env) (λu s₂=>wpAny 'b' X.A (f v u) Q X.xe s₂) X.xe s₁) X.xe s:=by
 refine cY (ha À s σ H _ I h) λv s1 zQ=>?_;let⟨x,H1,I1,r1,q1⟩:=zQ;refine cY (hb À s1 σ H1 _ I1 q1) λu s2 zQ=>?_;let⟨y,H2,I2,r2,q2⟩:=zQ;exact hf v u s2 x y H2 I2 r1 r2 q2
def SV(i:Nat):TE:=λσ H Q=>∃v,σ[i]?=some (some v)/\Q v H
def tC(v:V):TE:=λ_ H Q=>Q v H
def dM{pos:Pos}(hN:X.N[i]?=some x)(hv:AR X.env.scope x)(hd:⇑(Zdb x))(hcd:⇑(Zcd x)):PE X (.Name x pos) (SV i):=by
 intro À s σ H Q I h;let⟨v,e,h⟩:=h;let⟨m,hn,hl⟩:=I.loc;let⟨u,r,l⟩:=hl i x v hN e hv;have fin:EP X À σ Q u s:=⟨v,H,I,r,h⟩;rcases l with ⟨hk,hm⟩|⟨hk,c,hc,hcell⟩
 .exact wpAny_Name (wpAny_loadName_local I.ok.kind hk hn hm fin) hd
 .rcases hk with hk|hk
  .exact wpAny_Name (wpAny_loadName_cell I.ok.kind hk hc hcell fin) hd
  .exact wpAny_Name (wpAny_loadName_free I.ok.kind hk hc hcell fin hcd) hd
def aFV:PE X (.Constant (.int i) j pos) (tC (.int i)):=λ_ _ _ H _ I h=>wpAny_Constant_int ⟨.int i,H,I.tok _,⟨_,rfl⟩,h⟩
def aJ2:PE X (.Constant (.bool b) j pos) (tC (.bl b)):=λ_ _ _ H _ I h=>Constant_bool ⟨.bl b,H,I,rfl,h⟩
def aFW:PE X (.Constant .none j pos) (tC .non):=λ_ _ _ H _ I h=>Constant_none ⟨.non,H,I,rfl,h⟩
def aFX:PE X (.Constant (.str x) j pos) (tC (.str x)):=λ_ _ _ H _ I h=>Calls.Constant_str ⟨.str x,H,I.tok _,⟨_,rfl⟩,h⟩
def Gl(X:Cx)(x:Str):Prop:=X.env.kindOf x=some .globalImplicit
def rQ{E:ZA}{À:ZB}{s:Shared}{σ:St}{H:Hp}{x:Str}{u:Value}{pos:Pos}{Q:ZA}(I:Inv X À σ H s)(hg:Gl X x)(hm:X.mg x=some u)(h:Q u s)(hd:⇑(Zdb x)):wpAny 'b' X.A (eval (.Name x pos) X.env) Q E s:=
 Calls.Name_function_global I.ok.kind hg (Calls.loadGlobal_global (by rw[I.ok.glob];exact I.mod.glob.keeps I.bk) hm h) hd
def j8{E:ZA}{À:ZB}{s:Shared}{σ:St}{H:Hp}{x:Str}{u:Value}{pos:Pos}{Q:ZA}(I:Inv X À σ H s)(hg:Gl X x)(hm:X.mg x=none)(hv:bootBuiltins x=some u)(h:Q u s)(hn:⇑(x≠"__name__"))(hd:⇑(Zdb x)):wpAny 'b' X.A (eval (.Name x pos) X.env) Q E s:=by
 let⟨mb,h1,h2⟩:=I.mod.blt;exact Calls.Name_function_global I.ok.kind hg (Calls.loadGlobal_builtin (by rw[I.ok.glob];exact I.mod.glob.keeps I.bk) hm (by rw[I.ok.blt];exact h1.keeps I.bk) ((h2 x hn).trans hv) h) hd
def aAC(hg:Gl X x)(hm:X.mg x=some u)(r:bI v u)(hd:⇑(Zdb x)):PE X (.Name x pos) (tC v):=
 λ_ _ _ H _ I h=>rQ I hg hm ⟨v,H,I,r,h⟩ hd
def aAD{pos:Pos}(hg:Gl X x)(hm:X.mg x=none)(hv:bootBuiltins x=some u)(r:bI v u)(hn:⇑(x≠"__name__"))(hd:⇑(Zdb x)):PE X (.Name x pos) (tC v):=
 λ_ _ _ H _ I h=>j8 I hg hm hv ⟨v,H,I,r,h⟩ hn hd
variable {a b:Expr}{ta tb:TE}{pos:Pos}
def PC(X:Cx)(op:CmpOp)(a b:Expr)(t:TE):Prop:=
 ∀(À:ZB)(s:Shared)(σ:St)(H:Hp)(Q:VK),Inv X À σ H s->t σ H Q ->
  wpAny 'b' X.A (eval a X.env) (λv s₁=>wpAny 'b' X.A (eval b X.env) (λu s₂=>wpAny 'b' X.A (compareOp op v u) (EP X À σ Q) X.xe s₂) X.xe s₁) X.xe s
def GN(b:Expr)(h:op≠.In)(h2:op≠.NotIn):behindInMarks op b=false:=by
 have e1:(op == CmpOp.In)=false:=by cases op<;>first|rfl|exact absurd rfl h
 have e2:(op == CmpOp.NotIn)=false:=by cases op<;>first|rfl|exact absurd rfl h2
 cases b<;>simp[behindInMarks,e1,e2]
def tB(t:TE):TT:=λσ H Q=>t σ H λx H1=>∃c,x=.bl c/\Q c H1
def aFY(h:PC X op a b t)(h1:behindInMarks op b=false:=by first|exact GN _ ⋯ ⋯|rfl):PE X (.Compare a [op] [b] pos) t:=λÀ s σ H Q I hw=>wpAny_Compare1 (h À s σ H Q I hw) h1
def aFZ(h:PC X op a b t)(h1:behindInMarks op b=false:=by first|exact GN _ ⋯ ⋯|rfl):PT X (.Compare a [op] [b] pos) (tB t):=by
 intro À s σ H Q I hw;refine wpAny_isTrue_Compare1 (cY (h À s σ H _ I hw) λv s1 h1=>cY h1 λu s2 h2=>cY h2 λc s3 zQ=>?_) h1;let⟨x,H1,I1,r1,q1⟩:=zQ;let⟨d,rfl,q⟩:=q1;cases r1;exact wpAny_truthy_bool ⟨H1,I1,q⟩
def aF0(h:PE X e t)(he: ~~~(∀whole,isTrue e X.env whole=(do let v <- whole;standAt e.pos;holding [v] (truthy v)))):PT X e (tB t):=by
 intro À s σ H Q I hw;refine isTrue_plain (cY (h À s σ H _ I hw) λv s1 zQ=>?_) (he _);let⟨x,H1,I1,r1,q1⟩:=zQ;let⟨d,rfl,q⟩:=q1;cases r1;exact wpAny_truthy_bool ⟨H1,I1,q⟩
variable {tA tB':TT}{rest:List Expr}
def aNM(t u:TT):TT:=λσ H Q=>t σ H λc H1=>if c=true then u σ H1 Q else Q false H1
def aPR(t u:TT):TT:=λσ H Q=>t σ H λc H1=>if c=true then Q true H1 else u σ H1 Q
def aNN(t:TT):TT:=λσ H Q=>t σ H λc H1=>Q (!c) H1
def aAE(ha:PT X a tA):PW X (.BoolOp .And [a] pos) tA:=by
 intro wh À s σ H Q I h;refine isTrue_and (cY (ha À s σ H Q I h) λc s1 e=>?_);cases c with
 |true=>exact isTrue_and_nil e
 |false=>exact e
def aF1(ha:PT X a tA):PW X (.BoolOp .Or [a] pos) tA:=by
 intro wh À s σ H Q I h;refine isTrue_or (cY (ha À s σ H Q I h) λc s1 e=>?_);cases c with
 |false=>exact isTrue_or_nil e
 |true=>exact e
def aF2(ha:PT X a tA)(hb:PW X (.BoolOp .And (b::rest) pos) tB'):PW X (.BoolOp .And (a::b::rest) pos) (aNM tA tB'):=by
 intro wh À s σ H Q I h;refine isTrue_and (cY (ha À s σ H _ I h) λc s1 zQ=>?_);let⟨H1,I1,q1⟩:=zQ;cases c with
 |true=>exact hb wh À s1 σ H1 Q I1 q1
 |false=>exact⟨H1,I1,q1⟩
def aJ3(ha:PT X a tA)(hb:PW X (.BoolOp .Or (b::rest) pos) tB'):PW X (.BoolOp .Or (a::b::rest) pos) (aPR tA tB'):=by
 intro wh À s σ H Q I h;refine isTrue_or (cY (ha À s σ H _ I h) λc s1 zQ=>?_);let⟨H1,I1,q1⟩:=zQ;cases c with
 |true=>exact⟨H1,I1,q1⟩
 |false=>exact hb wh À s1 σ H1 Q I1 q1
def aF3(ha:PT X a tA):PT X (.UnaryOp .Not a pos) (aNN tA):=by
 intro À s σ H Q I h;exact isTrue_not (ha À s σ H (λc H1=>Q (!c) H1) I h)
def aJ4(ta tb:TE):TE:=λσ H Q=>ta σ H λx H1=>∃c,x=.bl c/\if c=true then tb σ H1 Q else Q (.bl false) H1
def aNO(ta tb:TE):TE:=λσ H Q=>ta σ H λx H1=>∃c,x=.bl c/\if c=true then Q (.bl true) H1 else tb σ H1 Q
def aJ5(ta:TE):TE:=λσ H Q=>ta σ H λx H1=>∃c,x=.bl c/\Q (.bl (!c)) H1
def aF4(h:PE X a t):PE X (.BoolOp op [a] pos) t:=λÀ s σ H Q I hw=>BoolOp_one (h À s σ H Q I hw)
def aF5(ha:PE X a ta)(hb:PE X (.BoolOp .And (b::rest) pos) tb):PE X (.BoolOp .And (a::b::rest) pos) (aJ4 ta tb):=by
 intro À s σ H Q I h;refine BoolOp_and (cY (ha À s σ H _ I h) λv s1 zQ=>?_);let⟨x,H1,I1,r1,q1⟩:=zQ;let⟨c,rfl,q1⟩:=q1;cases r1;refine wpAny_truthy_bool ?_;cases c with
 |true=>exact hb À s1 σ H1 Q I1 q1
 |false=>exact⟨.bl false,H1,I1,rfl,q1⟩
def aJ6(ha:PE X a ta)(hb:PE X (.BoolOp .Or (b::rest) pos) tb):PE X (.BoolOp .Or (a::b::rest) pos) (aNO ta tb):=by
 intro À s σ H Q I h;refine BoolOp_or (cY (ha À s σ H _ I h) λv s1 zQ=>?_);let⟨x,H1,I1,r1,q1⟩:=zQ;let⟨c,rfl,q1⟩:=q1;cases r1;refine wpAny_truthy_bool ?_;cases c with
 |false=>exact hb À s1 σ H1 Q I1 q1
 |true=>exact⟨.bl true,H1,I1,rfl,q1⟩
def aF6(ha:PE X a ta):PE X (.UnaryOp .Not a pos) (aJ5 ta):=by
 intro À s σ H Q I h;refine UnaryOp_ (cY (ha À s σ H _ I h) λv s1 zQ=>?_);let⟨x,H1,I1,r1,q1⟩:=zQ;let⟨c,rfl,q1⟩:=q1;cases r1;exact not_of (wpAny_truthy_bool ⟨.bl (!c),H1,I1,rfl,q1⟩)
def aPS(t:TT)(ta tb:TE):TE:=λσ H Q=>t σ H λc H1=>if c=true then ta σ H1 Q else tb σ H1 Q
def SW(hc:PT X c tA)(ha:PE X a ta)(hb:PE X b tb):PE X (.IfExp c a b pos) (aPS tA ta tb):=by
 intro À s σ H Q I h;refine wpAny_IfExp (cY (hc À s σ H _ I h) λd s1 zQ=>?_);let⟨H1,I1,q1⟩:=zQ;cases d with
 |true=>exact ha À s1 σ H1 Q I1 q1
 |false=>exact hb À s1 σ H1 Q I1 q1
end
def eV(K:ZC)(H:Hp)(a:Addr)(xs:List V):Prop:=
 Rd H a (.lst xs) \/
  ∃(o:Obj)(its:Array Value)(n:Nat),K.lookup a=some o/\o.cls=.type "list"/\o.dict=none/\o.data=.seq its n/\its.size<=sizeLine/\bJ xs its.toList
def rO(K:ZC)(H:Hp)(a:Addr)(xs:List V):Prop:=
 Rd H a (.tup xs) \/
  ∃(o:Obj)(its:Array Value)(n:Nat),K.lookup a=some o/\o.cls=.type "tuple"/\o.data=.seq its n/\its.size<=sizeLine/\bJ xs its.toList
def aNP:Value->Option V
 |.none=>some .non
 |.bool b=>some (.bl b)
 |.int i _=>some (.int i)
 |.str x _=>some (.str x)
 |.bytes b _=>some (.byt b)
 |.float b _=>some (.flt b)
 |.ref a=>some (.ref a)
 |.type n=>some (.ty n)
 |_=>none
def bI.abs(r:bI x u):aNP u=some x:=by
 cases x with
 |non=>cases r;rfl
 |bl _=>cases r;rfl
 |int _=>let⟨t,rfl⟩:=r;rfl
 |str _=>let⟨t,rfl⟩:=r;rfl
 |byt _=>let⟨t,rfl⟩:=r;rfl
 |flt _=>let⟨t,rfl⟩:=r;rfl
 |ref _=>cases r;rfl
 |ty _=>cases r;rfl
def bI.inj(r:bI x u)(q:bI y u):x=y:=Option.some.inj (r.abs.symm.trans q.abs)
def bJ.inj:∀{xs ys:List V}{us:ZJ},bJ xs us->bJ ys us->xs=ys
 |_,_,_,.nil,.nil=>rfl
 |_,_,_,.cons r t,.cons r' t'=>by rw[r.inj r',bJ.inj t t']
section
variable {X:Cx}{À:ZB}{σ:St}{H:Hp}{s:Shared}{a:Addr}{xs ys:List V}
def eV.of{K:ZC}(h:H a=some (.lst xs)):eV K H a xs:=.inl (.inl h)
def rO.of{K:ZC}(h:H a=some (.tup xs)):rO K H a xs:=.inl (.inl h)
def Inv.list(I:Inv X À σ H s)(h:eV X.K H a xs):∃its:ZJ,bJ xs its/\PlainL s.heap a its.toArray/\xs.length<=sizeLine:=by
 rcases h with h|⟨o,its,n,hk,hc,hd,hs,hz,r⟩
 .obtain⟨z,its,n,r,e⟩:=h.ok I.hok
  exact⟨its,r,⟨_,n,e,rfl,rfl,rfl⟩,z⟩
 .refine⟨its.toList,r,⟨o,n,I.kIn a o hk,hc,hd,by simpa using hs⟩,?_⟩
  have e:=r.length
  grind
def Inv.tuple(I:Inv X À σ H s)(h:rO X.K H a xs):∃its:ZJ,bJ xs its/\IsTup s.heap a its.toArray/\xs.length<=sizeLine:=by
 rcases h with h|⟨o,its,n,hk,hc,hs,hz,r⟩
 .obtain⟨z,its,r,p⟩:=h.ok I.hok
  exact⟨its,r,p,z⟩
 .refine⟨its.toList,r,⟨o,I.kIn a o hk,hc,n,by simpa using hs⟩,?_⟩
  have e:=r.length
  grind
def Inv.list_inj(I:Inv X À σ H s)(h:eV X.K H a xs)(h':eV X.K H a ys):xs=ys:=by
 let⟨its,r,⟨o,n,e,_,_,d⟩,_⟩:=I.list h;let⟨its',r',⟨o',n',e',_,_,d'⟩,_⟩:=I.list h';rw[e]at e';cases e';rw[d]at d';injection d' with d1 _;have:its=its':=by simpa using congrArg Array.toList d1
 subst this;exact r.inj r'
def Inv.tuple_inj(I:Inv X À σ H s)(h:rO X.K H a xs)(h':rO X.K H a ys):xs=ys:=by
 let⟨its,r,⟨o,e,_,n,d⟩,_⟩:=I.tuple h;let⟨its',r',⟨o',e',_,n',d'⟩,_⟩:=I.tuple h';rw[e]at e';cases e';rw[d]at d';injection d' with d1 _;have:its=its':=by simpa using congrArg Array.toList d1
 subst this;exact r.inj r'
end
section
end
section
variable {X:Cx}{st:Stmt}{rest:List Stmt}{t u:TS}
def aJ7:TS:=λD σ H=>D.nx σ H
def aNQ(t u:TS):TS:=λD σ H=>t {D with nx:=u D} σ H
def C9:C8 X [] aJ7:=λ_ _ σ H _ I h=>wpAny_execs_nil ⟨σ,H,I,h⟩
def SX(h1:PS X st t)(h2:C8 X rest u):C8 X (st::rest) (aNQ t u):=by
 intro À s σ H D I h;refine wpAny_execs_cons (cY (h1 À s σ H {D with nx:=u D} I h) λf s1 q=>?_);cases f with
 |next=>
  let⟨σ',H',I',q⟩:=q;exact h2 À s1 σ' H' D I' q
 |ret v=>exact q
 |brk=>exact q
 |cont=>exact q
def MV(h1:PS X st t):C8 X [st] t:=by
 intro À s σ H D I h;refine wpAny_execs_cons (cY (h1 À s σ H D I h) λf s1 q=>?_);cases f with
 |next=>exact wpAny_execs_nil q
 |ret v=>exact q
 |brk=>exact q
 |cont=>exact q
def aJ8:TS:=λD σ H=>D.ct σ H
def GO:PS X (.Continue pos) aJ8:=λ_ _ σ H _ I h=>wpAny_Continue ⟨σ,H,I,h⟩
def Inv.quiet(I:Inv X À σ H s):interactive X.env=false:=by simp[interactive,I.ok.kind]
def aJ9(te:TE):TS:=λD σ H=>te σ H λ_ H1=>D.nx σ H1
def DB(he:PE X e te)(hs:↥(swapsWith e none pos.line X.env=pure false)):PS X (.Expr e pos) (aJ9 te):=by
 intro À s σ H D I h;exact wpAny_Expr_any (cY (he À s σ H _ I h) λv s1 zQ=>by let⟨x,H1,I1,r1,q1⟩:=zQ;exact ⟨σ,H1,I1,q1⟩) I.quiet hs
def aNR(te:TE):TS:=λD σ H=>te σ H D.rt
def aF7(he:PE X e te):PS X (.Return (some e) pos) (aNR te):=by
 intro À s σ H D I h;exact wpAny_Return_some (cY (he À s σ H _ I h) λv s1 zQ=>by let⟨x,H1,I1,r1,q1⟩:=zQ;exact ⟨x,σ,H1,I1,r1,q1⟩)
def aNS(c:TT)(t u:TS):TS:=λD σ H=>c σ H λb H1=>if b=true then t D σ H1 else u D σ H1
def aKA(hc:PT X c tc)(ha:C8 X a t)(hb:C8 X b u):PS X (.If c a b pos) (aNS tc t u):=by
 intro À s σ H D I h;refine wpAny_If (cY (hc À s σ H _ I h) λd s1 zQ=>?_);let⟨H1,I1,q1⟩:=zQ;cases d with
 |true=>exact ha À s1 σ H1 D I1 q1
 |false=>exact hb À s1 σ H1 D I1 q1
end
abbrev TG:=V->St->Hp->(St->Hp->Prop)->Prop
abbrev SY:=List V->St->Hp->(St->Hp->Prop)->Prop
def PG(X:Cx)(target:Expr)(t:TG):Prop:=
 ∀(À:ZB)(s:Shared)(σ:St)(H:Hp)(v:V)(u:Value)(Q:St->Hp->Prop),Inv X À σ H s->bI v u->t v σ H Q ->
  wpAny 'b' X.A (assign target X.env u) (λ_ s'=>∃σ' H',Inv X À σ' H' s'/\Q σ' H') X.xe s
def ī(X:Cx)(ts:List Expr)(t:SY):Prop:=
 ∀(À:ZB)(s:Shared)(σ:St)(H:Hp)(vs:List V)(us:ZJ)(Q:St->Hp->Prop),Inv X À σ H s->bJ vs us->t vs σ H Q ->
  wpAny 'b' X.A (assignInOrder ((assignEach ts X.env).map (·.2)) us) (λ_ s'=>∃σ' H',Inv X À σ' H' s'/\Q σ' H') X.xe s
abbrev ž:=V->V->V->Hp->(Hp->Prop)->Prop
def ſ(X:Cx)(t:ž):Prop:=
 ∀(À:ZB)(s:Shared)(σ:St)(H:Hp)(o i v:V)(ov iv u:Value)(Q:Hp->Prop),Inv X À σ H s->bI o ov->bI i iv->bI v u->t o i v H Q ->
  wpAny 'b' X.A (setItem ov iv u) (λ_ s'=>∃H',Inv X À σ H' s'/\Q H') X.xe s
section
variable {X:Cx}{pos:Pos}
def pT(i:Nat):TG:=λv σ H Q=>Q (σ.set i (some v)) H
def c9(hN:X.N.Nodup)(hi:X.N[i]?=some x)(hx:ć X.env.scope x)(hf:X.fn x=true\/X.env.scope.names.lookup x=some .local:=by first|exact .inl rfl|exact .inr rfl|assumption):PG X (.Name x pos) (pT i):=by
 intro À s σ H v u Q I r h;exact wpAny_assign_Name (GM I hN hi hx r (λs' I'=>⟨_,H,I',h⟩) hf)
def SZ:SY:=λvs σ H Q=>vs=[]/\Q σ H
def GP(t:TG)(u:SY):SY:=λvs σ H Q=>∃v r,vs=v::r/\t v σ H λσ' H'=>u r σ' H' Q
def wH:ī X [] SZ:=by
 intro À s σ H vs us Q I r h;let⟨e,h⟩:=h;subst e;cases r;exact assignInOrder_nil ⟨σ,H,I,h⟩
def gX(h1:PG X e t)(h2:ī X es u)(hs:↥((assignEach (e::es) X.env).map (·.2)=assign e X.env::(assignEach es X.env).map (·.2))):ī X (e::es) (GP t u):=by
 intro À s σ H vs us Q I r h;let⟨v,vr,e1,h⟩:=h;subst e1;cases r with
 |cons r rr=>
  rw[hs];refine assignInOrder_cons (cY (h1 À s σ H _ _ _ I r h) λ_ s1 zQ=>?_);let⟨σ1,H1,I1,q1⟩:=zQ;exact h2 À s1 σ1 H1 _ _ Q I1 rr q1
def Ŝ(K:ZC)(n:Nat)(t:SY):TG:=λv σ H Q=>∃a xs,v=.ref a/\rO K H a xs/\xs.length=n/\t xs σ H Q
def DC{k:Nat}(hc:X.calm=true)(h:ī X es t)(hn:↥((assignEach es X.env).length=n))(hst:↥((assignEach es X.env).findIdx? (·.1)=none)):PG X (.Tuple es k pos) (Ŝ X.K n t):=by
 intro À s σ H v u Q I r hw;let⟨a,xs,e1,hq,hl,hw⟩:=hw;subst e1;cases r;let⟨its,rv,ht,hz⟩:=I.tuple hq;refine assign_Tuple_tuple (I.ok.hd hc) ht (by simp[hn,<- hl,rv.length]) hst λh' hx=>?_;have I1:Inv X À σ H {s with heap:=h'}:=I.kept (t':=s.toks) λb o e=>hx b o (Ì (Heap.lt_size e)) e;exact h À _ σ H xs _ Q I1 (by simpa using rv) hw
def aNT(to ti:TE)(t:ž):TG:=λv σ H Q=>to σ H λo H1=>ti σ H1 λi H2=>t o i v H2 λH3=>Q σ H3
def S0(ho:PE X o to)(hi:PE X i ti)(hs:ſ X t)(ha: ~~~(∀v,assign (.Subscript o i pos) X.env v=(do
   let ov <- holding [v] (eval o X.env);let iv <- holding [v,ov] (eval i X.env)
   standAt pos
   holding [v,ov,iv] (setItem ov iv v)
   release [v,ov,iv] []))):PG X (.Subscript o i pos) (aNT to ti t):=by
 intro À s σ H v u Q I r h;rw[ha];refine wpAny_bind (wpAny_holding (cY (ho À s σ H _ I h) λov s1 zQ=>?_));let⟨x,H1,I1,r1,q1⟩:=zQ;refine wpAny_bind (wpAny_holding (cY (hi À s1 σ H1 _ I1 q1) λiv s2 zQ=>?_));let⟨y,H2,I2,r2,q2⟩:=zQ;refine wpAny_bind (wpAny_standAt (wpAny_bind (wpAny_holding (cY (hs À s2 σ H2 x y v ov iv u _ I2 r1 r2 r q2) λ_ s3 zQ=>?_))));let⟨H3,I3,q3⟩:=zQ;exact wpAny_release ⟨σ,H3,I3,q3⟩
def Ĺ(te:TE)(g:TG):TS:=λD σ H=>te σ H λx H1=>g x σ H1 D.nx
def S1(he:PE X e te)(hg:PG X tg g)(hs:↥(swapsWithSole [tg] e pos.line X.env=pure false))(hw:↥(swappedStores [tg] e X.env=pure none))(h1:↥((assignEach [tg] X.env).map (·.2)=[assign tg X.env])):PS X (.Assign [tg] e pos) (Ĺ te g):=by
 intro À s σ H D I h;refine wpAny_Assign_stores (cY (he À s σ H _ I h) λv s1 zQ=>?_) hs hw;let⟨x,H1,I1,r1,q1⟩:=zQ;rw[h1];exact cY (hg À s1 σ H1 x v _ I1 r1 q1) λ_ s2 q=>q
def aGA(hN:X.N.Nodup)(hi:X.N[i]?=some x)(hx:ć X.env.scope x)(he:PE X e te)(hs:↥(swapsWith e (some (.Name x pos')) pos.line X.env=pure false))(hf:X.fn x=true\/X.env.scope.names.lookup x=some .local:=by first|exact .inl rfl|exact .inr rfl|assumption):
  PS X (.Assign [.Name x pos'] e pos) (Ĺ te (pT i)):=by
 intro À s σ H D I h;refine wpAny_Assign_Name (cY (he À s σ H _ I h) λv s1 zQ=>?_) hs;let⟨y,H1,I1,r1,q1⟩:=zQ;exact GM I1 hN hi hx r1 (λs2 I2=>⟨_,H1,I2,q1⟩) hf
end
section
def aGB(c:TT)(tb:TS):TS:=λD σ H=>∃W:Nat->St->Hp->Prop,(∃m,W m σ H)/\∀m σ H,W m σ H ->
 c σ H λb H1=>if b=true then ∃N:St->Hp->Prop,(∀σ' H',N σ' H'->∃m',m'<m/\W m' σ' H')/\tb {D with nx:=N,ct:=N,bk:=D.nx} σ H1 else D.nx σ H1
def S3(hp:PassesOwn 'b' X.A X.env X.xe)(hc:PT X c tc)(hb:C8 X body tb):PS X (.While c body [] pos) (aGB tc tb):=by
 intro À s σ H D I h;let⟨W,⟨m0,w0⟩,turn⟩:=h;refine wpAny_While (codeAny_whileLoop (λn s'=>∃σ' H',Inv X À σ' H' s'/\W n σ' H') ?_ m0 ⟨σ,H,I,w0⟩);rintro n s1 ⟨σ1,H1,I1,w1⟩;refine wpAny_passesOwn hp (cY (hc À s1 σ1 H1 _ I1 (turn n σ1 H1 w1)) λb s2 zQ=>?_);let⟨H2,I2,q2⟩:=zQ;cases b with
 |true=>
  let⟨N,hN,q2⟩:=q2;rw[Â rfl];refine wpAny_passesOwn hp (cY (hb À s2 σ1 H2 _ I2 q2) λf s3 q3=>?_);cases f with
  |next=>
   let⟨σ3,H3,I3,n3⟩:=q3;let⟨m',hm,w3⟩:=hN σ3 H3 n3;exact⟨m',hm,σ3,H3,I3,w3⟩
  |cont=>
   let⟨σ3,H3,I3,n3⟩:=q3;let⟨m',hm,w3⟩:=hN σ3 H3 n3;exact⟨m',hm,σ3,H3,I3,w3⟩
  |brk=>exact q3
  |ret v=>exact q3
 |false=>
  rw[Ä Ú];exact wpAny_execs_nil ⟨σ1,H2,I2,q2⟩
end
structure It where
 go:Nat->Hp->Prop
 yld:Nat->Hp->V->Hp->Prop
 stop:Nat->Hp->Prop
def wC(X:Cx)(À:ZB)(H:Hp)(b:Addr):Prop:=
 H b=none/\b≠X.env.locals/\b∉X.fs/\(b∈X.ex\/X.s₀.heap.objs.size<=b)/\(∀x c,X.env.cells.lookup x=some c->c≠b)/\∀p∈X.pn++À,p.1≠b
def Inv.fpOk{X:Cx}{À:ZB}{σ:St}{H H':Hp}{s:Shared}{b:Addr}(I:Inv X À σ H s)(hb:s.heap.objs.size<=b)(hn:H' b=none):wC X À H' b:=by
 refine⟨hn,Ü (Ô I.lt hb),I.nofs hb,.inr (Ø I.sz hb),λx c e z=>?_,λp hp z=>?_⟩
 .obtain⟨v,q⟩:=I.cell x c e
  exact absurd (Ô q.lt (by rw[z];exact hb)) (ö _)
 .exact absurd (Ô (Heap.lt_size (I.pin p hp).1) (by rw[z];exact hb)) (ö _)
structure KK(P:Program)(w:World)(K:ZC)(tg:Expr)(J:It)(fp:ZM)(it:Addr)(tn:Nat->Heap->Prop):Prop where
 mem:it∈fp
 obj:∀i h,tn i h->∀b∈fp,∃o,h.get? b=some o/\∀v,o.data≠.cell v
 keep:∀i h h',tn i h->(∀b∈fp,∀o,h.get? b=some o->h'.get? b=some o)->tn i h'
 item:∀(X:Cx),X.prog=P->X.w=w->X.K=K->X.calm=true->∀(i:Nat)(À:ZB)(s:Shared)(σ:St)(H:Hp)(E:ZA),Inv X À σ H s->(∀b∈fp,wC X À H b)->tn i s.heap->J.go i H ->
  wpAny (model P w) X.A (pyNext (.ref it)) (λr s1=>∃u,r=some u /\
   wpAny (model P w) X.A (letOwnedTupleGo tg (.ref it) u) (λ_ s2=>∃x H',Inv X À σ H' s2/\bI x u/\J.yld i H x H'/\tn (i+1) s2.heap/\∀b∈fp,H' b=none) E s1) E s
 done:∀(X:Cx),X.prog=P->X.w=w->X.K=K->X.calm=true->∀(i:Nat)(À:ZB)(s:Shared)(σ:St)(H:Hp)(E:ZA),Inv X À σ H s->(∀b∈fp,wC X À H b)->tn i s.heap->J.stop i H ->
  wpAny (model P w) X.A (pyNext (.ref it)) (λr s1=>r=none/\Inv X À σ H s1) E s
 self:∀(A:Around)(i:Nat)(s:Shared)(Q:ZA)(E:ZA),tn i s.heap->Q (.ref it) s->wpAny (model P w) A (pyIter (.ref it)) Q E s
abbrev TI:=St->Hp->(It->Hp->Prop)->Prop
def ŝ(X:Cx)(À:ZB)(σ:St)(tg:Expr)(R:It->Hp->Prop)(itv:Value)(s2:Shared):Prop:=
 ∃(it:Addr)(fp:ZM)(tn:Nat->Heap->Prop)(J:It)(H':Hp),itv=.ref it/\Inv X À σ H' s2/\KK X.prog X.w X.K tg J fp it tn/\tn 0 s2.heap/\(∀b∈fp,wC X À H' b)/\R J H'
def PI(X:Cx)(tg iter:Expr)(wi:TI):Prop:=
 ∀(À:ZB)(s:Shared)(σ:St)(H:Hp)(R:It->Hp->Prop),Inv X À σ H s->wi σ H R ->
  wpAny 'b' X.A (eval iter X.env) (λv s1=>wpAny 'b' X.A (pyIter v) (ŝ X À σ tg R) X.xe s1) X.xe s
def MW{M:Model}{A:Around}{E:ZA}{s:Shared}{tg:Expr}{it:Addr}{u:Value}{o:Obj}{n:String}{vs:Array Value}{Q:Unit->Shared->Prop}(ho:s.heap.get? it=some o)(hc:o.cls=.type n)(hd:o.data=.fields vs)(hn:["enumerate","zip","dict_itemiterator","dict_reverseitemiterator","odict_iterator","itertools.zip_longest","itertools.pairwise"].contains n=false)(hQ:Q () s):wpAny M A (letOwnedTupleGo tg (.ref it) u) Q E s:=by
 unfold letOwnedTupleGo;cases tg<;>first
  |exact wpAny_pure hQ
  | (cases u<;>first
    |exact wpAny_pure hQ
    | (refine wpAny_bind (wpAny_load ho ?_)
       rw[hc,hd];show wpAny M A (if (["enumerate","zip","dict_itemiterator","dict_reverseitemiterator","odict_iterator","itertools.zip_longest","itertools.pairwise"].contains n && vs[0]? == some (rawInt _))=true then _ else _) Q E s;rw[Ä 'i'];exact wpAny_pure hQ))
def ĺ(K:ZC)(a:Addr):It:=
 ⟨λi H=>∃xs x,eV K H a xs/\xs[i]?=some x,λi H x H'=>H'=H/\∀xs,eV K H a xs->xs[i]?=some x,λi H=>∃xs,eV K H a xs/\xs.length<=i⟩
def Ş(K:ZC)(a:Addr):It:=
 ⟨λi H=>∃xs x,rO K H a xs/\xs[i]?=some x,λi H x H'=>H'=H/\∀xs,rO K H a xs->xs[i]?=some x,λi H=>∃xs,rO K H a xs/\xs.length<=i⟩
def Ļ(lo:Int)(n:Nat):It:=⟨λi _=>i<n,λi H x H'=>H'=H/\x=.int (lo+i),λi _=>n<=i⟩
def BH{P:Program}{w:World}{K:ZC}{tg:Expr}(a it:Addr):KK P w K tg (ĺ K a) [it] it (λi h=>h.IsListIter it a i) where
 mem:=by simp
 obj:=λi h st b hb=>by
  have e:b=it:=by simpa using hb
  subst e;let⟨o,e,c,d⟩:=st;exact⟨o,e,λv z=>by rw[d]at z;cases z⟩
 keep:=λi h h' st k=>st.at λo e=>k it 'f' o e
 item:=by
  sleep 5;let⟨xs,x,hq,hx⟩:=hg;let⟨its,rv,p,hz⟩:=I.list hq;let⟨u,hu,ru⟩:=rv.get hx;let⟨f0,f1,f2,f3,f4,f5⟩:=hf it 'f';refine wpAny_pyNext_list_item st p.isList (x:=u) (by simpa using hu) λh' st' sb=>?_;have I1:Inv X À σ H {s with heap:=h'}:=I.turned (t':=s.toks) (λb o hb e=>(sb.2 b hb).trans e) f0 f1 f3 f4 f5;let⟨o,e,c,d⟩:=id st';exact⟨u,rfl,MW (s:={s with heap:=h'}) e c d ⋯ ⟨x,H,I1,ru,⟨rfl,λys hy=>by rw[I.list_inj hy hq];exact hx⟩,st',λb hb=>(hf b hb).1⟩⟩
 done:=by
  sleep 5;let⟨xs,hq,hx⟩:=hg;let⟨its,rv,p,hz⟩:=I.list hq;let⟨f0,f1,f2,f3,f4,f5⟩:=hf it 'f';have hl:=rv.length;exact wpAny_pyNext_list_end (I.ok.hd hc) st p.isList (by simp;lia) λh' eb=>⟨rfl,I.turned (t':=s.toks) (λb o hb e=>eb b o hb e) f0 f1 f3 f4 f5⟩
 self:=λ_ _ _ _ _ st h=>wpAny_pyIter_listiter st h
def KL{P:Program}{w:World}{K:ZC}{tg:Expr}(a it:Addr):KK P w K tg (Ş K a) [it] it (λi h=>h.IsTupleIter it a i) where
 mem:=by simp
 obj:=λi h st b hb=>by
  have e:b=it:=by simpa using hb
  subst e;let⟨o,e,c,d⟩:=st
  grind
 keep:=λi h h' st k=>st.at λo e=>k it 'f' o e
 item:=by
  sleep 5;let⟨xs,x,hq,hx⟩:=hg;let⟨its,rv,p,hz⟩:=I.tuple hq;let⟨u,hu,ru⟩:=rv.get hx;let⟨f0,f1,f2,f3,f4,f5⟩:=hf it 'f';refine wpAny_pyNext_tuple_item st (show s.heap.IsTuple a its.toArray from p) (x:=u) (by simpa using hu) λh' st' sb=>?_;have I1:Inv X À σ H {s with heap:=h'}:=I.turned (t':=s.toks) (λb o hb e=>(sb.2 b hb).trans e) f0 f1 f3 f4 f5;let⟨o,e,c,d⟩:=id st';exact⟨u,rfl,MW (s:={s with heap:=h'}) e c d ⋯ ⟨x,H,I1,ru,⟨rfl,λys hy=>by rw[I.tuple_inj hy hq];exact hx⟩,st',λb hb=>(hf b hb).1⟩⟩
 done:=by
  sleep 5;let⟨xs,hq,hx⟩:=hg;let⟨its,rv,p,hz⟩:=I.tuple hq;let⟨f0,f1,f2,f3,f4,f5⟩:=hf it 'f';have hl:=rv.length;exact wpAny_pyNext_tuple_end (I.ok.hd hc) st (show s.heap.IsTuple a its.toArray from p) (by simp;lia) λh' eb=>⟨rfl,I.turned (t':=s.toks) (λb o hb e=>eb b o hb e) f0 f1 f3 f4 f5⟩
 self:=λ_ _ _ _ _ st h=>wpAny_pyIter_tupleiter st h
def KM{P:Program}{w:World}{K:ZC}{tg:Expr}(it:Addr)(lo:Int)(n:Nat):KK P w K tg (Ļ lo n) [it] it (λi h=>IsRangeIter h it (lo+(i:Nat)*1) ((n:Int)-(i:Nat)) 1) where
 mem:=by simp
 obj:=λi h st b hb=>by
  grind
 keep:=λi h h' st k=>k it 'f' _ st
 item:=by
  sleep 5;let⟨f0,f1,f2,f3,f4,f5⟩:=hf it 'f';have W:=Walks.range (prog:=X.prog) (w:=X.w) (I.ok.hd hc) it lo 1 n;refine W.item i s _ _ hg st λv h' tk hv st' kk=>?_;let⟨t,rfl⟩:=hv;have I1:Inv X À σ H {s with heap:=h',toks:=tk}:=I.turned (λb o hb e=>kk b o (by simpa using hb) e) f0 f1 f3 f4 f5;refine⟨_,rfl,MW (s:={s with heap:=h',toks:=tk}) (n:="range_iterator") st' rfl rfl ⋯ ⟨.int (lo+i),H,I1,⟨t,?_⟩,⟨rfl,rfl⟩,st',λb hb=>(hf b hb).1⟩⟩;rw[Int.mul_one]
 done:=by
  sleep 5;let⟨f0,f1,f2,f3,f4,f5⟩:=hf it 'f';exact wpAny_pyNext_range_end (I.ok.hd hc) st (by have:n<=i:=hg;lia) λh' eb=>⟨rfl,I.turned (t':=s.toks) (λb o hb e=>eb b o hb e) f0 f1 f3 f4 f5⟩
 self:=λ_ _ _ _ _ st h=>wpAny_pyIter_rangeiter st h
section
def aKD(K:ZC)(tl:TE):TI:=λσ H R=>tl σ H λx H1=>∃a,x=.ref a/\(∃xs,eV K H1 a xs)/\R (ĺ K a) H1
def aAG(hl:PE X l tl):PI X tg l (aKD X.K tl):=by
 intro À s σ H R I h;refine cY (hl À s σ H _ I h) λv s1 zQ=>?_;let⟨x,H1,I1,r1,q1⟩:=zQ;let⟨a,e,⟨xs,hq⟩,q⟩:=q1;subst e;cases r1;let⟨its,rv,p,hz⟩:=I1.list hq;refine wpAny_pyIter_list p.isList ?_;refine⟨s1.heap.objs.size,[s1.heap.objs.size],_,_,H1,rfl,I1.kept (t':=s1.toks) λb o e=>Heap.get?_push_of_some _ e,BH a _,⟨_,Heap.get?_push_size _ rfl,rfl,rfl⟩,λb hb=>?_,q⟩;have e:b=s1.heap.objs.size:=by simpa using hb
 subst e;exact I1.fpOk (È _) (I1.hok.fresh (È _))
def S4{À:ZB}{σ:St}{H:Hp}{s:Shared}{R:It->Hp->Prop}{E:ZA}{lo hi:Int}{t u v:Tok}{tk:Nat}(I:Inv X À σ H s)(h1:-(2^62)<=lo)(h2:lo<2^62)(h3:-(2^62)<=hi)(h4:hi<2^62)(q:R (Ļ lo (hi-lo).toNat) H):wpAny 'b' X.A (pyIter (.ref s.heap.objs.size)) (ŝ X À σ tg R) E {s with heap:=s.heap.push {cls:=.type "range",data:=.fields #[.int lo t,.int hi u,.int 1 v]},toks:=tk}:=by
 refine wpAny_pyIter_range (IsRange.new ..) (small_one h1 h2 h3 h4) ?_;have I1:Inv X À σ H {s with heap:=s.heap.push {cls:=.type "range",data:=.fields #[.int lo t,.int hi u,.int 1 v]},toks:=tk}:=I.kept λb o e=>Heap.get?_push_of_some _ e;refine⟨(s.heap.push {cls:=.type "range",data:=.fields #[.int lo t,.int hi u,.int 1 v]}).objs.size,[(s.heap.push {cls:=.type "range",data:=.fields #[.int lo t,.int hi u,.int 1 v]}).objs.size],_,_,H,rfl,
  I1.kept (t':=tk) λb o e=>Heap.get?_push_of_some _ e,KM _ lo (hi-lo).toNat,?_,λb hb=>?_,q⟩
 .have e1:lo+((0:Nat):Int)*1=lo:=by simp
  have e2:(((hi-lo).toNat:Nat):Int)-((0:Nat):Int)=Builtin.Range.rangeSize lo hi 1:=by rw[rangeSize_one];split<;>lia
  show IsRangeIter _ _ (lo+((0:Nat):Int)*1) ((((hi-lo).toNat:Nat):Int)-((0:Nat):Int)) 1;rw[e1,e2];exact Heap.get?_push_size _ rfl
 .have e:b=(s.heap.push {cls:=.type "range",data:=.fields #[.int lo t,.int hi u,.int 1 v]}).objs.size:=by simpa using hb
  subst e;exact I1.fpOk (È _) (I1.hok.fresh (È _))
def aKE(ta:TA):TI:=λσ H R=>ta σ H λvs H1=>∃j:Int,vs=[.int j]/\-(2^62)<=j/\j<2^62/\R (Ļ 0 j.toNat) H1
def P4(hg:Gl X "range")(hm:X.mg "range"=none)(ha:PA X [a] ta)(hs:↥(starEach [a] X.env=[(false,eval a X.env)])):PI X tg (.Call (.Name "range" p) [a] [] pos) (aKE ta):=by
 intro À s σ H R I h;refine Call_ (j8 I hg hm boot_range (PyProof.Rows.callWith_type1 (cY (ha pos À s σ H _ I h) λus s1 zQ=>?_) hs rfl));let⟨vs,H1,I1,r1,q1⟩:=zQ;let⟨j,e,q1,q2,q⟩:=q1;subst e;cases r1 with
 |cons r rr=>
  cases rr;let⟨t,rfl⟩:=r;exact call_range_1 (S4 I1 ⋯ ⋯ q1 q2 (by simpa using q))
def aNW(wi:TI)(g:TG)(tb:TS):TS:=λD σ H=>wi σ H λJ H1=>∃W:Nat->Nat->St->Hp->Prop,(∃m,W 0 m σ H1)/\∀i m σ H,W i m σ H ->
 (J.stop i H/\D.nx σ H)\/(J.go i H/\∃N:St->Hp->Prop,(∀σ' H',N σ' H'->∃m',m'<m/\W (i+1) m' σ' H')/\∀x H',J.yld i H x H'->g x σ H' λσ2 H2=>tb {D with nx:=N,ct:=N,bk:=D.nx} σ2 H2)
def wY(fp:ZM)(h:Heap):ZB:=fp.filterMap λb=>(h.get? b).map λo=>(b,o)
def qG(hb:b∈fp)(e:h.get? b=some o):(b,o)∈wY fp h:=List.mem_filterMap.mpr ⟨b,hb,by rw[e];rfl⟩
def P5(hp:p∈wY fp h):p.1∈fp/\h.get? p.1=some p.2:=by
 let⟨b,hb,e⟩:=List.mem_filterMap.mp hp;cases q:h.get? b with
 |none=>rw[q]at e;cases e
 |some o=>
  grind
def Inv.pinned(I:Inv X À σ H s)(hf:∀b∈fp,wC X À H b)(ho:∀b∈fp,∃o,s.heap.get? b=some o/\∀v,o.data≠.cell v):Inv X (À++wY fp s.heap) σ H s:=
 I.pins_of λp hp=>(ă.mp hp).elim (λz=>I.pin p (Û _ z)) λz=>by
  let⟨hb,e⟩:=P5 z;let⟨f0,f1,f2,_⟩:=hf p.1 hb
  grind
def Inv.unpinned(I:Inv X (À++pl) σ H s):Inv X À σ H s:=I.pins_of λp hp=>I.pin p (Û _ (Ć _ hp))
def S5(hp:PassesOwn 'b' X.A X.env X.xe)(hc:X.calm=true)(hi:PI X tg iter wi)(hg:PG X tg g)(hb:C8 X body tb)(hs: ~~~(Zfi iter X.env)):PS X (.For tg iter body [] pos) (aNW wi g tb):=by
 intro À s σ H D I h;refine wpAny_For (cY (hi À s σ H _ I h) λv s1 h1=>cY h1 λitv s2 h2=>?_) hs;let⟨it,fp,tn,J,H2,e,I2,T,st2,f2,W,⟨m0,w0⟩,turn⟩:=h2;subst e
 -- what stays true of the iterator's objects through the loop
 have stat:∀{H':Hp},(∀b∈fp,H' b=none)->∀b∈fp,wC X À H' b:=λhn b hb=>⟨hn b hb,(f2 b hb).2⟩;refine codeAny_forLoop_any (λn s'=>∃i σ' H',Inv X À σ' H' s'/\tn i s'.heap/\(∀b∈fp,H' b=none)/\W i n σ' H') ?_ m0 ⟨0,σ,H2,I2,st2,λb hb=>(f2 b hb).1,w0⟩;rintro n s3 ⟨i,σ3,H3,I3,st3,fr3,w3⟩;rcases turn i n σ3 H3 w3 with ⟨stop,qn⟩|⟨go,N,hN,step⟩
 .refine wpAny_passesOwn hp (cY (T.done X rfl rfl rfl hc i À s3 σ3 H3 X.xe I3 (stat fr3) st3 stop) λr s4 zQ=>?_);let⟨hr,I4⟩:=zQ
  subst hr;exact wpAny_execs_nil ⟨σ3,H3,I4,qn⟩
 .refine wpAny_passesOwn hp (cY (T.item X rfl rfl rfl hc i À s3 σ3 H3 X.xe I3 (stat fr3) st3 go) λr s4 zQ=>?_);let⟨u,hr,h4⟩:=zQ
  subst hr;refine wpAny_passesOwn hp (cY h4 λ_ s5 zQ=>?_);let⟨x,H5,I5,r5,y5,st5,fr5⟩:=zQ;have I5':=I5.pinned (stat fr5) (T.obj _ _ st5);refine wpAny_passesOwn hp (cY (hg _ s5 σ3 H5 x u _ I5' r5 (step x H5 y5)) λ_ s6 zQ=>?_);let⟨σ6,H6,I6,q6⟩:=zQ;refine wpAny_passesOwn hp (cY (hb _ s6 σ6 H6 _ I6 q6) λf s7 q7=>?_);have again:∀{σ7:St}{H7:Hp},Inv X (À++wY fp s5.heap) σ7 H7 s7->N σ7 H7->∃m,m<n/\∃i σ' H',Inv X À σ' H' s7/\tn i s7.heap/\(∀b∈fp,H' b=none)/\W i m σ' H':=λ{σ7 H7}I7 n7=>by
   let⟨m',hm,w7⟩:=hN σ7 H7 n7;refine⟨m',hm,i+1,σ7,H7,I7.unpinned,T.keep _ _ _ st5 λb hb o e=>(I7.pin (b,o) (Û _ (Û _ (qG hb e)))).1,λb hb=>?_,w7⟩;let⟨o,e,d⟩:=T.obj _ _ st5 b hb;exact(I7.pin (b,o) (Û _ (Û _ (qG hb e)))).2.1
  cases f with
  |next=>let⟨σ7,H7,I7,n7⟩:=q7;exact again I7 n7
  |cont=>let⟨σ7,H7,I7,n7⟩:=q7;exact again I7 n7
  |brk=>let⟨σ7,H7,I7,q7⟩:=q7;exact⟨σ7,H7,I7.unpinned,q7⟩
  |ret v=>let⟨x7,σ7,H7,I7,r7,q7⟩:=q7;exact⟨x7,σ7,H7,I7.unpinned,r7,q7⟩
end
abbrev R2:=V->V->Hp->VK->Prop
def iU(X:Cx)(f:Value->Value->Sem Value)(r:R2):Prop:=
 ∀(À:ZB)(s:Shared)(σ:St)(H:Hp)(x y:V)(v u:Value)(Q:VK),Inv X À σ H s->bI x v->bI y u->r x y H Q ->
  wpAny 'b' X.A (f v u) (EP X À σ Q) X.xe s
def ş(X:Cx)(f:Value->Sem Value)(r:V->Hp->VK->Prop):Prop:=
 ∀(À:ZB)(s:Shared)(σ:St)(H:Hp)(x:V)(v:Value)(Q:VK),Inv X À σ H s->bI x v->r x H Q ->
  wpAny 'b' X.A (f v) (EP X À σ Q) X.xe s
def gY(X:Cx)(f:Value)(r:List V->Hp->VK->Prop):Prop:=
 ∀(À:ZB)(s:Shared)(σ:St)(H:Hp)(xs:List V)(us:ZJ)(Q:VK),Inv X À σ H s->bJ xs us->r xs H Q ->
  wpAny 'b' X.A (call f us) (EP X À σ Q) X.xe s
def aNY(X:Cx)(r:V->Hp->(Bool->Hp->Prop)->Prop):Prop:=
 ∀(À:ZB)(s:Shared)(σ:St)(H:Hp)(x:V)(v:Value)(Q:Bool->Hp->Prop),Inv X À σ H s->bI x v->r x H Q ->
  wpAny 'b' X.A (truthy v) (TP X À σ Q) X.xe s
def Ĭ(r:R2)(ta tb:TE):TE:=λσ H Q=>ta σ H λx H1=>tb σ H1 λy H2=>r x y H2 Q
def aPT(r:V->Hp->VK->Prop)(ta:TE):TE:=λσ H Q=>ta σ H λx H1=>r x H1 Q
def rI(C:Int->Int->Prop)(g:Int->Int->V):R2:=λx y H Q=>∃i j,x=.int i/\y=.int j/\C i j/\Q (g i j) H
def S6(g:Int->Int->V):R2:=λx y H Q=>∃i j,x=.int i/\y=.int j/\Q (g i j) H
def rU(g:Int->V):V->Hp->VK->Prop:=λx H Q=>∃i,x=.int i/\Q (g i) H
section
def Š(ha:PE X a ta)(hb:PE X b tb){R:V->V->Hp->Prop}(I:Inv X À σ H s)(h:ta σ H λx H1=>tb σ H1 λy H2=>R x y H2){f:Value->Value->Sem Value}(hf:∀v u s2 x y H2,Inv X À σ H2 s2->bI x v->bI y u->R x y H2->wpAny 'b' X.A (f v u) Q X.xe s2):
  wpAny 'b' X.A (eval a X.env) (λv s₁=>wpAny 'b' X.A (eval b X.env) (λu s₂=>wpAny 'b' X.A (f v u) Q X.xe s₂) X.xe s₁) X.xe s:=by
 refine cY (ha À s σ H _ I h) λv s1 zQ=>?_;let⟨x,H1,I1,r1,q1⟩:=zQ;refine cY (hb À s1 σ H1 _ I1 q1) λu s2 zQ=>?_;let⟨y,H2,I2,r2,q2⟩:=zQ;exact hf v u s2 x y H2 I2 r1 r2 q2
def aKG(ho:iU X (binaryOp op) r)(ha:PE X a ta)(hb:PE X b tb):PE X (.BinOp a op b pos) (Ĭ r ta tb):=by
 intro À s σ H Q I h;exact wpAny_BinOp (Š ha hb I h λv u s2 x y H2 I2 rx ry q=>ho À s2 σ H2 x y v u Q I2 rx ry q)
def aKH(ho:ş X (unaryOp op) r)(ha:PE X a ta):PE X (.UnaryOp op a pos) (aPT r ta):=by
 intro À s σ H Q I h;exact UnaryOp_ (cY (ha À s σ H _ I h) λv s1 zQ=>by let⟨x,H1,I1,r1,q1⟩:=zQ;exact ho À s1 σ H1 x v Q I1 r1 q1)
def ļ{f:Value->Value->Sem Value}{C:Int->Int->Prop}{g:Int->Int->Int}(rule:∀(i j:Int)(t u:Tok)(s:Shared)(Q:ZA)(E:ZA),C i j->Q (.int (g i j) s.toks) {s with toks:=s.toks+1}->wpAny 'b' X.A (f (.int i t) (.int j u)) Q E s):
  iU X f (rI C λi j=>.int (g i j)):=by
 sleep 6;let⟨i,j,rfl,rfl,hc,q⟩:=h;let⟨t,rfl⟩:=rx;let⟨t',rfl⟩:=ry;exact rule i j t t' s _ _ hc ⟨.int (g i j),H,I.tok _,⟨_,rfl⟩,q⟩
def Α{f:Value->Value->Sem Value}{g:Int->Int->Int}(rule:∀(i j:Int)(t u:Tok)(s:Shared)(Q:ZA)(E:ZA),Q (.int (g i j) s.toks) {s with toks:=s.toks+1}->wpAny 'b' X.A (f (.int i t) (.int j u)) Q E s):
  iU X f (S6 λi j=>.int (g i j)):=by
 sleep 6;let⟨i,j,rfl,rfl,q⟩:=h;let⟨t,rfl⟩:=rx;let⟨t',rfl⟩:=ry;exact rule i j t t' s _ _ ⟨.int (g i j),H,I.tok _,⟨_,rfl⟩,q⟩
def š{f:Value->Value->Sem Value}{g:Int->Int->Bool}(rule:∀(i j:Int)(t u:Tok)(s:Shared)(Q:ZA)(E:ZA),Q (.bool (g i j)) s->wpAny 'b' X.A (f (.int i t) (.int j u)) Q E s):
  iU X f (S6 λi j=>.bl (g i j)):=by
 sleep 6;let⟨i,j,rfl,rfl,q⟩:=h;let⟨t,rfl⟩:=rx;let⟨t',rfl⟩:=ry;exact rule i j t t' s _ _ ⟨.bl (g i j),H,I,rfl,q⟩
def Ľ(i j:Int):Prop:=0<=j/\j<=1000000/\i.natAbs<2^64
def aGE:iU X (binaryOp .Add) (S6 λi j=>.int (i+j)):=Α λ_ _ _ _ _ _ _ q=>add_int q
def aGF:iU X (binaryOp .Sub) (S6 λi j=>.int (i-j)):=Α λ_ _ _ _ _ _ _ q=>sub_int q
def aAI:iU X (binaryOp .Mod) (rI (λ_ j=>j≠0) λi j=>.int (i.fmod j)):=ļ λ_ _ _ _ _ _ _ hc q=>mod_int' hc q
def aGG:iU X (binaryOp .Pow) (rI Ľ λi j=>.int (i^j.toNat)):=ļ λ_ _ _ _ _ _ _ hc q=>pow_int_small hc.1 hc.2.1 hc.2.2 q
def aPU{f:Value->Sem Value}{g:Int->Int}(rule:∀(i:Int)(t:Tok)(s:Shared)(Q:ZA)(E:ZA),Q (.int (g i) s.toks) {s with toks:=s.toks+1}->wpAny 'b' X.A (f (.int i t)) Q E s):
  ş X f (rU λi=>.int (g i)):=by
 intro À s σ H x v Q I rx h;let⟨i,rfl,q⟩:=h;let⟨t,rfl⟩:=rx;exact rule i t s _ _ ⟨.int (g i),H,I.tok _,⟨_,rfl⟩,q⟩
def aGH:ş X (unaryOp .USub) (rU λi=>.int (-i)):=aPU λ_ _ _ _ _ q=>neg_int q
end
section
def m4{À:ZB}{σ:St}{H:Hp}{s:Shared}{Q:VK}{k k':Bool}(I:Inv X À σ H s)(q:Q (.bl k) H)(e:k=k'):EP X À σ Q (.bool k') s:=by
 subst e;exact⟨.bl k,H,I,rfl,q⟩
def jM:iU X (compareOp .Lt) (S6 λi j=>.bl (decide (i<j))):=š λ_ _ _ _ _ _ _ q=>lt_int q
def Β:iU X (compareOp .LtE) (S6 λi j=>.bl (decide (i<=j))):=š λ_ _ _ _ _ _ _ q=>le_int q
def vE:iU X (compareOp .Gt) (S6 λi j=>.bl (decide (j<i))):=š λ_ _ _ _ _ _ _ q=>gt_int q
def m5:iU X (compareOp .Is) (λx y H Q=>y=.non/\Q (.bl (decide (x=.non))) H):=by
 sleep 6;let⟨rfl,q⟩:=h;cases ry;refine is_none_gen (m4 I q ?_);cases x<;>first
  |(cases rx;rfl)
  |(let⟨t,rfl⟩:=rx;rfl)
def aAJ:iU X (compareOp .IsNot) (λx y H Q=>y=.non/\Q (.bl (!decide (x=.non))) H):=by
 sleep 6;let⟨rfl,q⟩:=h;cases ry;refine isnot_none_gen (m4 I q ?_);cases x<;>first
  |(cases rx;rfl)
  |(let⟨t,rfl⟩:=rx;rfl)
def iU.or(h:iU X f r)(h':iU X f r'):iU X f (λx y H Q=>r x y H Q\/r' x y H Q):=by
 intro À s σ H x y v u Q I rx ry q;rcases q with q|q
 .exact h À s σ H x y v u Q I rx ry q
 .exact h' À s σ H x y v u Q I rx ry q
def aZ(b:Expr)(h:⇑(op≠.In))(h2:⇑(op≠.NotIn)):behindInMarks op b=false:=by
 have e1:(op == CmpOp.In)=false:=by cases op<;>first|rfl|exact absurd rfl h
 have e2:(op == CmpOp.NotIn)=false:=by cases op<;>first|rfl|exact absurd rfl h2
 cases b<;>simp[behindInMarks,e1,e2]
def aAK(ho:iU X (compareOp op) r)(ha:PE X a ta)(hb:PE X b tb)(hm:behindInMarks op b=false):PE X (.Compare a [op] [b] pos) (Ĭ r ta tb):=by
 intro À s σ H Q I h;exact wpAny_Compare1 (Š ha hb I h λv u s2 x y H2 I2 rx ry q=>ho À s2 σ H2 x y v u Q I2 rx ry q) hm
def aKJ(t:TE):TT:=λσ H Q=>t σ H λx H'=>∃k,x=.bl k/\Q k H'
def aAL(ho:iU X (compareOp op) r)(ha:PE X a ta)(hb:PE X b tb)(hm:behindInMarks op b=false):PT X (.Compare a [op] [b] pos) (aKJ (Ĭ r ta tb)):=by
 intro À s σ H Q I h;refine wpAny_isTrue_Compare1 (cY (ha À s σ H _ I h) λv s1⟨x,H1,I1,r1,q1⟩=>cY (hb À s1 σ H1 _ I1 q1) λu s2⟨y,H2,I2,r2,q2⟩=>
  cY (ho À s2 σ H2 x y v u _ I2 r1 r2 q2) λc s3⟨z,H3,I3,r3,k,e,q3⟩=>?_) hm
 subst e;cases r3;exact wpAny_truthy_bool ⟨H3,I3,q3⟩
def S7(r r':R2)(ta tb tc:TE):TE:=λσ H Q=>ta σ H λx H1=>tb σ H1 λy H2=>r x y H2 λz H3=>∃k,z=.bl k /\
 (if k=true then tc σ H3 λw' H4=>r' y w' H4 Q else Q (.bl false) H3)
def S8(ho:iU X (compareOp op) r)(ho':iU X (compareOp op') r')(ha:PE X a ta)(hb:PE X b tb)(hc:PE X c tc)(hm:lastMarks [op,op'] [b,c]=false:=by with_unfolding_all rfl):PE X (.Compare a [op,op'] [b,c] pos) (S7 r r' ta tb tc):=by
 intro À s σ H Q I h;refine Compare_chain (cY (ha À s σ H _ I h) λv s1⟨x,H1,I1,r1,q1⟩=>chain_link (cY (hb À s1 σ H1 _ I1 q1) λu s2⟨y,H2,I2,r2,q2⟩=>
  cY (ho À s2 σ H2 x y v u _ I2 r1 r2 q2) λd s3⟨z,H3,I3,r3,k,e,q3⟩=>?_)) hm
 subst e;cases r3;refine wpAny_truthy_bool ?_;cases k with
 |false=>exact ite_ff ⟨.bl false,H3,I3,rfl,q3⟩
 |true=>exact ite_tt (chain_last (cY (hc À s3 σ H3 _ I3 q3) λw' s4 zQ=>by let⟨z',H4,I4,r4,q4⟩:=zQ;exact ho' À s4 σ H4 y z' u w' Q I4 r2 r4 q4))
def Γ(K:ZC)(x:V)(H:Hp)(k:Bool):Prop:=
 match x with
 |.non=>k=false
 |.bl b=>k=b
 |.int i=>k=(i != 0)
 |.str y=>y.length<=sizeLine/\k=((y.length:Int) != 0)
 |.byt y=>y.size<=sizeLine/\k=((y.size:Int) != 0)
 |.ref p=>(∃xs,eV K H p xs/\k=!xs.isEmpty)\/(∃xs,rO K H p xs/\k=!xs.isEmpty)\/∃Á,H p=some (.dK Á)/\k=!Á.isEmpty
 |_=>False
def KN{vs:List (κ×Value)}(r:KV Á vs):(!vs.isEmpty)=!Á.isEmpty:=by
 cases r<;>rfl
def wZ(r:bJ xs its):(!its.toArray.isEmpty)=!xs.isEmpty:=by
 cases r<;>simp
def qH:(sizeLine:Nat)<2^63:=by rw[sizeLine_eq];decide
def aGI:aNY X (λx H Q=>∃k,Γ X.K x H k/\Q k H):=by
 intro À s σ H x v Q I rx h;let⟨k,e,q⟩:=h;have hl:=qH;have hs:sizeLine=16777216:=sizeLine_eq;cases x with
 |non=>
  cases rx;have e':k=false:=e;subst e';exact truthy_none ⟨H,I,q⟩
 |bl b=>
  cases rx;have e':k=b:=e;subst e';exact wpAny_truthy_bool ⟨H,I,q⟩
 |int i=>
  let⟨t,rfl⟩:=rx;have e':k=(i != 0):=e;subst e';exact PySem.P.truthy_int ⟨H,I,q⟩
 |str y=>
  let⟨t,rfl⟩:=rx;obtain⟨hy,e'⟩:y.length<=sizeLine/\k=((y.length:Int) != 0):=e;subst e';exact PySem.P.truthy_str ∅ ⟨H,I.tok _,q⟩
 |byt y=>
  let⟨t,rfl⟩:=rx;obtain⟨hy,e'⟩:y.size<=sizeLine/\k=((y.size:Int) != 0):=e;subst e';exact W.truthy_bytes ∅ ⟨H,I.tok _,q⟩
 |ref p=>
  cases rx;have e':(∃xs,eV X.K H p xs/\k=!xs.isEmpty)\/(∃xs,rO X.K H p xs/\k=!xs.isEmpty)\/∃Á,H p=some (.dK Á)/\k=!Á.isEmpty:=e;rcases e' with ⟨xs,hx,e'⟩|⟨xs,hx,e'⟩|⟨Á,hx,e'⟩
  .subst e'
   let⟨its,r,pl,hz⟩:=I.list hx;have hlen:=r.length;exact wpAny_truthy_list pl.isList 'i' ⟨H,I.tok _,by rw[wZ r];exact q⟩
  .subst e'
   let⟨its,r,pl,hz⟩:=I.tuple hx;have hlen:=r.length;exact truthy_tuple pl 'i' ⟨H,I.tok _,by rw[wZ r];exact q⟩
  .subst e'
   obtain⟨hz,hS,vs,r,m⟩:Á.length<=sizeLine/\(p == sysModules)=false/\∃vs,KV Á vs/\s.heap.DictOf (dP X.prog X.w) p vs:=I.hok p _ hx;have hlen:Á.length=vs.length:=Paired.length r;exact wpAny_truthy_dict hS m ∅ ⟨H,I.tok _,by rw[KN r];exact q⟩
 |_=>exact(show False from e).elim
def S9(ha:PE X a ta)(he:∀whole,isTrue a X.env whole=(do let v <- whole;standAt a.pos;holding [v] (truthy v))):
  PT X a (λσ H Q=>ta σ H λx H'=>∃k,Γ X.K x H' k/\Q k H'):=by
 intro À s σ H Q I h;exact isTrue_plain (cY (ha À s σ H _ I h) λv s1 zQ=>by let⟨x,H1,I1,r1,q1⟩:=zQ;exact aGI À s1 σ H1 x v Q I1 r1 q1) (he _)
def KO:iU X (binaryOp .Add) (λx y H Q=>∃i j,x=.str i/\y=.str j/\i.length+j.length<=sizeLine/\Q (.str (i++j)) H):=by
 sleep 6;let⟨i,j,rfl,rfl,hz,q⟩:=h;let⟨t,rfl⟩:=rx;let⟨t',rfl⟩:=ry;exact add_str (λt' tk=>⟨.str (i++j),H,I.tok _,⟨_,rfl⟩,q⟩) hz
def pU(r:bJ [x] us):∃u,us=[u]/\bI x u:=by
 cases r with
 |cons r1 r2=>cases r2;exact⟨_,rfl,r1⟩
def TB(r:bJ [x,y] us):∃u w',us=[u,w']/\bI x u/\bI y w':=by
 cases r with
 |cons r1 r2=>
  cases r2 with
  |cons r3 r4=>cases r4;exact⟨_,_,rfl,r1,r3⟩
def rR:gY X (.builtin "abs") (λxs H Q=>∃i,xs=[.int i]/\Q (.int (if i<0 then -i else i)) H):=by
 intro À s σ H xs us Q I r h;let⟨i,rfl,q⟩:=h;let⟨u,rfl,t,rfl⟩:=pU r;exact call_abs_int λu tk=>⟨.int (if i<0 then -i else i),H,I.tok _,⟨_,rfl⟩,q⟩
end
structure KP(h:Heap)(x dx C:Addr)(mA:ZD):Prop where
 obj:h.get? x=some (W.instObj C dx)
 ns:h.Ns1 dx mA
 ne:dx≠x
def P6{h:Heap}(n:h.Ns1 dx mA):∃od,h.get? dx=some od/\∀name,W.lookIn name od=some (mA name):=by
 let⟨o,es,ep,ho,hd,hk,_,hm⟩:=n;refine⟨o,ho,λname=>?_⟩;have e:=hm name;unfold nsFind findBy at e;rw[<- Array.find?_toList]at e;unfold W.lookIn;rw[hd];dsimp only;split
 .grind
 .rename_i q
  rw[q]at e;have a:es.toList.any (·.refKey)=false:=by
   rw[List.any_eq_false];intro y hy;let⟨z,t,hkey⟩:=hk y (Array.mem_toList_iff.mp hy);simp[DictEntry.refKey,hkey]
  grind
def KP.look(I:KP h x dx C mA):∃od,W.InstAt h x (W.instObj C dx) C (some od)/\∀name,W.lookIn name od=some (mA name):=
 let ⟨od,ho,hl⟩:=P6 I.ns
 ⟨od,⟨I.obj,rfl,rfl,ho⟩,hl⟩
section
variable {prog:Program}{w:World}{A:Around}{E:ZA}{s:Shared}{K:ZC}{x dx C f:Addr}{mA:ZD}{name:Str}{v:Value}
def aAM{expr:Bool}{Q:ZA}(X:K.In s.heap)(I:KP s.heap x dx C mA)(hg:W.plainGet K C name=true)(hh:W.hasDictIn K C=true)(ha:W.findIn K (.ref C) name=some none)(hv:mA name=some v)(hv':W.handedIn v=true)(h:Q v {s with toks:=s.toks+1}):
  wpAny (model prog w) A (getAttr (.ref x) name expr) Q E s:=by
 let⟨od,J,hl⟩:=I.look;exact W.get_value X J (W.plainGet_of hg).1 (W.findObj_own hh ha rfl (by rw[hl,hv])) hv' h
def TC{pl:Sem Bool}{Q:Value×ZJ->Shared->Prop}(X:K.In s.heap)(I:KP s.heap x dx C mA)(hg:W.plainGet K C name=true)(hf:W.findIn K (.ref C) name=some (some (.ref f)))(ht:W.isFn K (.ref f)=true)(hv:mA name=none)(h:Q (.ref f,[.ref x]) s):
  wpAny (model prog w) A (getMethod (.ref x) name pl) Q E s:=by
 let⟨od,J,hl⟩:=I.look;exact W.method_fn X J (W.plainGet_of hg).1 (W.plainGet_of hg).2 hf (beq_iff_eq.mp ht) (by show (W.lookIn name od).map (·.isSome)=some false;rw[hl,hv];rfl) h
def aAN{ns:ZG}{Q:Unit->Shared->Prop}(X:K.In s.heap)(I:KP s.heap x dx C mA)(hs:W.findIn K (.ref C) "__setattr__"=some (some (.builtin "object.__setattr__")))(hp:W.plainOver K C=true)(ht:W.takerIn K C name=some none)(hh:W.hasDictIn K C=true)(hw:PySem.Within mA ns)(hsz:ns.length<=sizeLine)(h:∀h',KP h' x dx C (λy=>if y=name then some v else mA y)->Heap.SameBut dx s.heap h'->Q () {s with heap:=h',toks:=s.toks+2}):
  wpAny (model prog w) A (setAttr (.ref x) name v) Q E s:=by
 let⟨od,J,hl⟩:=I.look;refine W.set_plain X J hs (W.osa_open (s:={s with toks:=s.toks+1}) (r:=none) X J hp ht λb=>?_);let⟨cd,hc,hd'⟩:=W.any_some hh;have hx:s.heap.get? x=some ⟨.ref C,some dx,.plain,#[]⟩:=I.obj;refine wpAny_bind (wpAny_pure (wpAny_bind (wpAny_bind (wpAny_loadPart hx (wpAny_bind (W.Looks.here (s:={s with toks:=s.toks+1}) (W.looks_clsIn X hc) ?_))))));rw[hd'];refine wpAny_pure (a:=some dx) (wpAny_bind (wpAny_pure (wpAny_bind ?_)));refine wpAny_nsSet1 (s:={s with toks:=s.toks+1}) I.ns λh' hn2 hs2=>?_;let⟨oD,esD,epD,hoD,hdD,hcD⟩:=hn2.count (PySem.Within.cons name v hw);refine wpAny_bind (wpAny_lookBehind hoD (by rw[hdD];exact pastItsLine_dict (Ø hcD 'i')) ?_)
 exact wpAny_pure (h _ ⟨(hs2.2 _ (Í I.ne)).trans I.obj,hn2,I.ne⟩ hs2)
def TD(X:K.In s.heap)(hm:W.makesIn K C=true)(hi:W.findIn K (.ref C) "__init__"=some (some (.ref f)))(hf:W.typeIn K (.ref f)=some (.type "function"))(h:codeAny (model prog w) (A.under (.builtin "type.__call__" ⟨.ref C::vs,kw⟩)) (.call (.ref f) ⟨.ref (s.heap.objs.size+1)::vs,kw⟩) (W.InitBack (s.heap.objs.size+1) R)
   {s with heap:=(s.heap.push W.emptyDict).push (W.instObj C s.heap.objs.size)}):
  codeAny (model prog w) A (.call (.ref C) ⟨vs,kw⟩) R s:=by
 let⟨hh,g,d,t,os⟩:=s;exact W.make_core (W.makes_of X hm) (W.looks_findIn X hi) (λself=>W.bind_fn X self hf) (.inl rfl) h
end
def kQ(f:Str)(v:V):List (Str×V)->List (Str×V)
 |[]=>[(f,v)]
 |(g,x)::r=>if g=f then (g,v)::r else (g,x)::kQ f v r
def vF(f g:Str)(v:V):∀fs:List (Str×V),(kQ f v fs).lookup g=if g=f then some v else fs.lookup g
 |[]=>by
  show List.lookup g [(f,v)]=_
  grind
 |(k,x)::r=>by
  have ih:=vF f g v r;rw[show kQ f v ((k,x)::r)=(if k=f then (k,v)::r else (k,x)::kQ f v r)from rfl]
  grind
def t8(f:Str)(v:V):∀fs:List (Str×V),f∈(kQ f v fs).map (·.1)/\∀g,g∈fs.map (·.1)->g∈(kQ f v fs).map (·.1)
 |[]=>⟨by simp[kQ],λg h=>by simp at h⟩
 |(k,x)::r=>by
  let⟨i1,i2⟩:=t8 f v r;rw[show kQ f v ((k,x)::r)=(if k=f then (k,v)::r else (k,x)::kQ f v r)from rfl]
  grind
def vG(f:Str)(v:V):∀fs:List (Str×V),(kQ f v fs).length<=fs.length+1
 |[]=>by simp[kQ]
 |(k,x)::r=>by
  have ih:=vG f v r;rw[show kQ f v ((k,x)::r)=(if k=f then (k,v)::r else (k,x)::kQ f v r)from rfl]
  grind
def pM.some_of(r:pM (some v) o):∃u,o=some u/\bI v u:=by
 cases o with
 |none=>exact(show False from r).elim
 |some u=>exact⟨u,rfl,r⟩
def pM.none_of(r:pM none o):o=none:=by
 cases o with
 |none=>rfl
 |some u=>exact(show False from r).elim
def P7(r:bI v u):W.handedIn u=true:=by
 cases v with
 |non=>cases (show u=Value.none from r);rfl
 |bl b=>cases (show u=Value.bool b from r);rfl
 |int i=>let⟨t,e⟩:=(show ∃t,u=Value.int i t from r);cases e;rfl
 |str x=>let⟨t,e⟩:=(show ∃t,u=Value.str x t from r);cases e;rfl
 |byt b=>let⟨t,e⟩:=(show ∃t,u=Value.bytes b t from r);cases e;rfl
 |flt b=>let⟨t,e⟩:=(show ∃t,u=Value.float b t from r);cases e;rfl
 |ref a=>cases (show u=Value.ref a from r);rfl
 |ty n=>cases (show u=Value.type n from r);rfl
section
def DD(hok:mQ P w H h)(e:H a=some (.ins C dx fs)):∃mA,KP h a dx C mA/\(∀f,pM (fs.lookup f) (mA f))/\PySem.Within mA (fs.map (·.1))/\fs.length<=1000/\H dx=some (.own a):=by
 let⟨d,z,ne,ob,mA,n,r,q⟩:=(show eE P w H h a (.ins C dx fs)from hok a _ e);exact⟨mA,⟨ob,n,ne⟩,r,q,z,d⟩
end
structure SK(K:ZC)(C:Addr):Prop where
 pg:W.plainGet K C Str.empty=true
 hd:W.hasDictIn K C=true
 po:W.plainOver K C=true
 sa:W.findIn K (.ref C) "__setattr__"=some (some (.builtin "object.__setattr__"))
def SK.get{K:ZC}(c:SK K C)(f:Str):W.plainGet K C f=true:=c.pg
def lO(K:ZC)(C:Addr)(f:Str):Prop:=W.findIn K (.ref C) f=some none
def lO.taker{K:ZC}(n:lO K C f):W.takerIn K C f=some none:=by
 unfold W.takerIn;rw[show W.findIn K (.ref C) f=some none from n];rfl
structure ľ(K:ZC)(C:Addr)(m:Str)(f:Addr):Prop where
 at_:W.findIn K (.ref C) m=some (some (.ref f))
 fn:W.isFn K (.ref f)=true
 kp:W.keepIn K (.ref f)=true
section
variable {X:Cx}{À:ZB}{σ:St}{H:Hp}{s:Shared}{a C dx:Addr}{fs:List (Str×V)}{f:Str}{v:V}{A:Around}{E:ZA}
def KQ(I:Inv X À σ H s)(e:H a=some (.ins C dx fs))(c:SK X.K C)(n:lO X.K C f)(l:fs.lookup f=some v)(h:∀u s',Inv X À σ H s'->bI v u->Q u s'):wpAny 'b' A (getAttr (.ref a) f b) Q E s:=by
 let⟨mA,O,r,_,_,_⟩:=DD I.hok e;let⟨u,hu,ru⟩:=pM.some_of (v:=v) (o:=mA f) (by rw[<- l];exact r f);exact aAM I.kIn O (c.get f) c.hd n hu (P7 ru) (h u _ (I.tok _) ru)
def KR{m:Str}{g:Addr}{pl:Sem Bool}{Q:Value×ZJ->Shared->Prop}(I:Inv X À σ H s)(e:H a=some (.ins C dx fs))(c:SK X.K C)(k:ľ X.K C m g)(l:fs.lookup m=none)(h:Q (.ref g,[.ref a]) s):wpAny 'b' A (getMethod (.ref a) m pl) Q E s:=by
 let⟨mA,O,r,_,_,_⟩:=DD I.hok e;have hn:mA m=none:=pM.none_of (by rw[<- l];exact r m);exact TC I.kIn O (c.get m) k.at_ k.fn hn h
def KS{y:V}{u:Value}{Q:Unit->Shared->Prop}(I:Inv X À σ H s)(e:H a=some (.ins C dx fs))(c:SK X.K C)(n:lO X.K C f)(hl:fs.length<1000)(ry:bI y u)(h:∀s',Inv X À σ (aY H a (.ins C dx (kQ f y fs))) s'->Q () s'):wpAny 'b' A (setAttr (.ref a) f u) Q E s:=by
 let⟨mA,O,r,wi,_,ho⟩:=DD I.hok e;have hz:(fs.map (·.1)).length<=sizeLine:=by rw[Æ,sizeLine_eq];lia
 refine aAN I.kIn O c.sa c.po n.taker c.hd wi hz λh' O' sb=>h _ ?_;have hd:∃o,h'.get? dx=some o:=let ⟨o,_,_,e',_⟩:=O'.ns;⟨o,e'⟩
 refine I.write (x:=a) (e:=dx) (by rw[e];exact True.intro) (.inr ho) (λb q hb z=>(sb.2 b hb).trans z) hd ?_;refine⟨by rw[aH O.ne];exact ho,?_,O.ne,O'.obj,_,O'.ns,λg=>?_,λg hg=>?_⟩
 .have:=vG f y fs;exact Ø ‹_› ‹_›
 .show pM ((kQ f y fs).lookup g) (if g=f then some u else mA g)
  rw[vF];by_cases q:g=f
  .rw[Â q,Â q];exact ry
  grind
 .by_cases q:g=f
  .rw[q];exact(t8 f y fs).1
  .refine(t8 f y fs).2 g (wi g λz=>hg ?_)
   grind
def Inv.made(I:Inv X À σ H s):Inv X À σ (aY (aY H s.heap.objs.size (.own (s.heap.objs.size+1))) (s.heap.objs.size+1) (.ins C s.heap.objs.size []))
  {s with heap:=(s.heap.push W.emptyDict).push (W.instObj C s.heap.objs.size)}:=by
 have e1:(s.heap.push W.emptyDict).get? s.heap.objs.size=some W.emptyDict:=Heap.get?_push_size s.heap rfl;have e2:((s.heap.push W.emptyDict).push (W.instObj C s.heap.objs.size)).get? (s.heap.objs.size+1)=some (W.instObj C s.heap.objs.size):=by
  have:=Heap.get?_push_size (s.heap.push W.emptyDict) (o:=W.instObj C s.heap.objs.size) rfl
  rwa [Heap.size_push]at this
 have e3:(s.heap.push W.emptyDict).Ns s.heap.objs.size (λ_=>none):=⟨W.emptyDict,#[],_,e1,rfl,(λe he=>absurd he 'f'),λ_=>rfl⟩;have I1:=I.laid (a:=s.heap.objs.size) (o:=.own (s.heap.objs.size+1)) (h':=s.heap.push W.emptyDict) (t':=s.toks) (λb u q=>Heap.get?_push_of_some _ q) (È _) ⟨_,e1⟩;refine I1.laid (a:=s.heap.objs.size+1) (o:=.ins C s.heap.objs.size []) (t':=s.toks) (λb u q=>Heap.get?_push_of_some _ q) (õ (Heap.size_push _ _)) ?_;have ne:s.heap.objs.size≠s.heap.objs.size+1:=Ì (ê _);refine⟨by rw[aH ne,aP],ò _,ne,e2,λ_=>none,(Heap.Ns1.of_empty e3).at λo q=>Heap.get?_push_of_some _ q,λ_=>True.intro,λy hy=>absurd rfl hy⟩
def aAP(hb:attributeBase e f env (eval e env)=eval e env)(h:wpAny (model prog w) A (eval e env) (λo s₁=>wpAny (model prog w) A (getAttr o f true) Q E s₁) E s):wpAny (model prog w) A (eval (.Attribute e f pos) env) Q E s:=
 Attribute_any_ h (by rw[arm_eval_Attribute,hb])
end
def aNZ(K:ZC)(ta:TE)(f:Str):TE:=λσ H Q=>ta σ H λx H1=>∃a C dx fs v,x=.ref a/\H1 a=some (.ins C dx fs)/\SK K C/\lO K C f/\fs.lookup f=some v/\Q v H1
def aN0(K:ZC)(ta tv:TE)(f:Str):TS:=λD σ H=>tv σ H λy H1=>ta σ H1 λx H2=>∃a C dx fs,x=.ref a/\H2 a=some (.ins C dx fs)/\SK K C/\lO K C f/\fs.length<1000 /\
 D.nx σ (aY H2 a (.ins C dx (kQ f y fs)))
section
def DF(he:PE X e ta)(hb:attributeBase e f X.env (eval e X.env)=eval e X.env):PE X (.Attribute e f pos) (aNZ X.K ta f):=by
 intro À s σ H Q I h;refine aAP hb (cY (he À s σ H _ I h) λu s1 zQ=>?_);let⟨x,H1,I1,rx,a,C,dx,fs,v,ex,ea,c,n,l,q⟩:=zQ;subst ex;obtain rfl:u=Value.ref a:=rx;exact KQ I1 ea c n l λu' s2 I2 ru=>⟨v,H1,I2,ru,q⟩
def aGJ(ha:PE X o ta)(hv:PE X value tv)(hs:swapsWith value (some (.Attribute o f pos')) pos.line X.env=pure false):PS X (.Assign [.Attribute o f pos'] value pos) (aN0 X.K ta tv f):=by
 intro À s σ H D I h;refine plainObj_wpAny_Assign_Attribute (cY (hv À s σ H _ I h) λu s1⟨y,H1,I1,ry,q⟩=>cY (ha À s1 σ H1 _ I1 q) λov s2 zQ=>?_) hs;let⟨x,H2,I2,rx,a,C,dx,fs,ex,ea,c,n,l,q2⟩:=zQ;subst ex;obtain rfl:ov=Value.ref a:=rx;exact KS I2 ea c n l ry λs3 I3=>⟨σ,_,I3,q2⟩
end
section
end
structure fD(k:Nat)(A:Around):Prop where
 hd:A.handled=none
 dp:A.depth+3*k+5<recursionLimit
 un:A.units+16*k+200<cLine
def fD.mono(r:fD k A)(h:j<=k):fD j A:=⟨r.hd,by have:=r.dp;lia,by have:=r.un;lia⟩
def fD.deeper(r:fD (k+1) A)(env:Env):fD k (A.deeper env):=
 ⟨r.hd,by have:=r.dp;show A.depth+1+3*k+5<_;lia,by have:=r.un;show A.units+3+16*k+200<_;lia⟩
def KU{A:Around}:(A.under (.builtin "type.__call__" ⟨.ref C::us,kw⟩)).depth=A.depth+1:=by
 first|rfl|simp[Around.under,Code.weight,Code.isCreation,Code.isGuard,Code.isCaller,Code.frames,Code.isFrame,guardIds]
def KW{A:Around}:(A.under (.builtin "type.__call__" ⟨.ref C::us,kw⟩)).units=A.units+1:=by
 first|rfl|simp[Around.under,Code.cUnits,Code.frames,Code.isFrame]
def fD.make(r:fD (k+1) A)(C:Addr)(us:ZJ)(kw:List (Str×Value)):fD k (A.under (.builtin "type.__call__" ⟨.ref C::us,kw⟩)):=
 ⟨r.hd,by have:=r.dp;rw[KU];lia,by have:=r.un;rw[KW];lia⟩
def fD.depth(r:fD k A):A.depth<recursionLimit:=by have:=r.dp;lia
def fD.units(r:fD k A):A.units+64<cLine:=by have:=r.un;lia
def Ţ:TA:=λ_ H Q=>Q [] H
def TF(ta:TE)(tr:TA):TA:=λσ H Q=>ta σ H λx H1=>tr σ H1 λxs H2=>Q (x::xs) H2
section
def iV:PA X [] Ţ:=λ_ _ _ _ H Q I h=>Calls.spliced_nil ⟨[],H,I,.nil,h⟩
def eW(ha:PE X e te)(hr:PA X es t)(hs:↥(Zse e es X.env)):PA X (e::es) (TF te t):=by
 intro pos À s σ H Q I h;rw[hs];show wpAny _ _ (spliced ((false,eval e X.env)::backTo pos (starEach es X.env))) _ _ s;refine Calls.spliced_cons (cY (ha À s σ H _ I h) λu s1 zQ=>?_);let⟨x,H1,I1,r1,q1⟩:=zQ;exact cY (hr pos À s1 σ H1 _ I1 q1) λus s2 zQ=>by let⟨xs,H2,I2,r2,q2⟩:=zQ;exact ⟨x::xs,H2,I2,.cons r1 r2,q2⟩
def aN1(t:TA):TE:=λσ H Q=>t σ H λxs H1=>xs.length<=sizeLine/\∀p,H1 p=none->Q (.ref p) (aY H1 p (.tup xs))
def aN2(t:TA):TE:=λσ H Q=>t σ H λxs H1=>xs.length<=sizeLine/\∀p,H1 p=none->Q (.ref p) (aY H1 p (.lst xs))
def TH(h:PA X es t):PE X (.Tuple es x1 pos) (aN1 t):=by
 intro À s σ H Q I hq;refine wpAny_Tuple_spliced (cY (h pos À s σ H _ I hq) λus s1⟨xs,H1,I1,r,z,q⟩=>⟨by rw[<- r.length];exact z,?_⟩);have hf:H1 s1.heap.objs.size=none:=I1.hok.fresh (È _);refine⟨.ref s1.heap.objs.size,aY H1 s1.heap.objs.size (.tup xs),I1.laid (t':=s1.toks) (λb u e=>Heap.get?_push_of_some _ e) (È _) ?_,rfl,q _ hf⟩;exact⟨z,us,r,⟨_,Heap.get?_push_size _ rfl,rfl,_,rfl⟩⟩
def aGL(h:PA X es t):PE X (.List es pos) (aN2 t):=by
 intro À s σ H Q I hq;refine wpAny_List_spliced (cY (h pos À s σ H _ I hq) λus s1⟨xs,H1,I1,r,z,q⟩=>⟨by rw[<- r.length];exact z,?_⟩);have hf:H1 s1.heap.objs.size=none:=I1.hok.fresh (È _);refine⟨.ref s1.heap.objs.size,aY H1 s1.heap.objs.size (.lst xs),I1.laid (t':=s1.toks) (λb u e=>Heap.get?_push_of_some _ e) (È _) ?_,rfl,q _ hf⟩;exact⟨z,us,0,r,Heap.get?_push_size _ rfl⟩
end
abbrev Sp:=List V->Hp->VK->XK->Prop
abbrev SL:=List Env->Hp->Shared->XK->ZA
structure KY(P:Program)(w:World)(K:ZC)(mg:ZD)(base:Heap)(A:Around)(outer:List Env)(s:Shared)(H:Hp):Prop where
 frames:A.frames=some outer
 mod:Mod K mg base
 bs:∀b o,base.get? b=some o->s.heap.get? b=some o/\H b=none
 bsz:base.objs.size<=s.heap.objs.size
 funs:s.heap.FunFrames base outer
 frf:∀b∈mZ outer,H b=none
 hok:mQ P w H s.heap
 bare:AllBare s.gens
def CE(outer:List Env)(P:Program)(w:World)(H:Hp)(s:Shared)(Q:VK)(u:Value)(s':Shared):Prop:=
 ∃v H',s'.os=s.os/\AllBare s'.gens/\Un (mZ outer) [] H H' s.heap s'.heap/\mQ P w H' s'.heap/\bI v u/\Q v H'
def CR(CX:SL)(outer:List Env)(P:Program)(w:World)(H:Hp)(s:Shared)(Q:VK)(E:XK)(r:Result)(s':Shared):Prop:=
 match r with
 |.ok (.ret u)=>CE outer P w H s Q u s'
 |.ok _=>False
 |.error e=>CX outer H s E e s'
structure qI(P:Program)(w:World)(K:ZC)(mg:ZD)(base:Heap)(CX:SL)(k:Nat)(f:Addr)(fd:FuncData)(ps:ZG)(sp:Sp):Prop where
 len:∀vs H Q E,sp vs H Q E->vs.length=ps.length
 run:∀(A:Around)(outer:List Env)(s:Shared)(H:Hp)(args:Args)(us:ZJ)(vs:List V)(Q:VK)(E:XK),fD k A->KY P w K mg base A outer s H->BindsTo s fd args (ps.zip us)->bJ vs us->sp vs H Q E ->
  codeAny (model P w) A (.call (.ref f) args) (CR CX outer P w H s Q E) s
def KY.make{K:ZC}(e:KY P w K mg base A outer s H)(C:Addr)(us:ZJ)(kw:List (Str×Value)):
  KY P w K mg base (A.under (.builtin "type.__call__" ⟨.ref C::us,kw⟩)) outer s H:=⟨by first|exact e.frames|(simpa[Around.under,Code.envs,Code.isFrame,pushEnvs]using e.frames),e.mod,e.bs,e.bsz,e.funs,e.frf,e.hok,e.bare⟩
section
variable {X:Cx}{À:ZB}{σ:St}{H:Hp}{s s':Shared}
def Inv.env0(I:Inv X À σ H s):KY X.prog X.w X.K X.mg X.base X.A X.stack s H:=
 ⟨I.ok.frames,I.ok.mod,I.bs,Ø I.ok.bsz I.sz,I.stack,I.stkFree,I.hok,I.bare⟩
def Inv.after(I:Inv X À σ H s)(h:CE X.stack X.prog X.w H s Q u s'):EP X À σ Q u s':=by
 let⟨v,H',os,bare,un,hok,r,q⟩:=h;let⟨hh,g,d,t,os'⟩:=s';obtain rfl:os'=s.os:=os;exact⟨v,H',I.call (h':=hh) (g':=g) (d':=d) (t':=t) (ch:=[]) un hok bare (λb z=>absurd z 'f'),r,q⟩
end
def pV(K:ZC)(fd:FuncData)(ps:ZG)(ds:ZJ):Prop:=
 ∀(s:Shared)(us:ZJ),K.In s.heap->(us++ds).length=ps.length->BindsTo s fd ⟨us,[]⟩ (ps.zip (us++ds))
def pV.all{K:ZC}(h:∀us:ZJ,us.length=ps.length->bindArgs fd ⟨us,[]⟩=pure (ps.zip us)):pV K fd ps []:=λs us _ hl=>by
 rw[ô]at hl⊢;exact .of_eq (h us hl)
section
structure Mk(K:ZC)(C f:Addr):Prop where
 makes:W.makesIn K C=true
 init:W.findIn K (.ref C) "__init__"=some (some (.ref f))
 fn:W.isFn K (.ref f)=true
 kp:W.keepIn K (.ref C)=true
end
section
end
structure iJ(N P:ZG)(sc:Scope):Prop where
 kind:sc.kind=.function
 co:sc.isCoroutine=false
 gen:sc.isGenerator=false
 nd:N.Nodup
 pre:N.take P.length=P
 par:∀x∈P,sc.names.lookup x=some .local\/sc.names.lookup x=some .cell
 nofree:∀y∈sc.names,y.2≠.free
def BI{kindOf:Str->Option NameKind}:∀{binds:List (Str×Value)}{m:ZD},(∀v,(x,v)∉binds)->bindL kindOf binds m x=m x
 |[],_,_=>rfl
 |(n,v)::r,m,h=>by
  unfold bindL;rw[BI λw hw=>h w (Ó _ hw)];split
  all_goals grind
def BJ{kindOf:Str->Option NameKind}:∀{binds:List (Str×Value)}{m:ZD},(∀v,(x,v)∉binds)->bindC kindOf binds m x=m x
 |[],_,_=>rfl
 |(n,v)::r,m,h=>by
  unfold bindC;rw[BJ λw hw=>h w (Ó _ hw)];split
  all_goals grind
def BK{kindOf:Str->Option NameKind}{x:Str}{v:Value}:∀{P:ZG}{vs:ZJ}{i:Nat}{m:ZD},P.Nodup->P[i]?=some x->vs[i]?=some v->kindOf x=some .local ->
  bindL kindOf (P.zip vs) m x=some v
 |[],_,_,_,_,h,_,_=>by simp at h
 |_::_,[],_,_,_,_,h,_=>by simp at h
 |p::P,w::vs,0,m,nd,h1,h2,hk=>by
  simp at h1 h2;subst h1;subst h2;show bindL kindOf ((p,w)::P.zip vs) m p=_;unfold bindL;rw[BI λv hv=>(List.nodup_cons.mp nd).1 (List.of_mem_zip hv).1,Â hk];simp
 |p::P,w::vs,i+1,m,nd,h1,h2,hk=>by
  show bindL kindOf ((p,w)::P.zip vs) m x=_;unfold bindL;exact BK (i:=i) (List.nodup_cons.mp nd).2 (by simpa using h1) (by simpa using h2) hk
def BL{kindOf:Str->Option NameKind}{x:Str}{v:Value}:∀{P:ZG}{vs:ZJ}{i:Nat}{m:ZD},P.Nodup->P[i]?=some x->vs[i]?=some v->kindOf x≠some .local ->
  bindC kindOf (P.zip vs) m x=some v
 |[],_,_,_,_,h,_,_=>by simp at h
 |_::_,[],_,_,_,_,h,_=>by simp at h
 |p::P,w::vs,0,m,nd,h1,h2,hk=>by
  simp at h1 h2;subst h1;subst h2;show bindC kindOf ((p,w)::P.zip vs) m p=_;unfold bindC;rw[BJ λv hv=>(List.nodup_cons.mp nd).1 (List.of_mem_zip hv).1,Ä hk];simp
 |p::P,w::vs,i+1,m,nd,h1,h2,hk=>by
  show bindC kindOf ((p,w)::P.zip vs) m x=_;unfold bindC;exact BL (i:=i) (List.nodup_cons.mp nd).2 (by simpa using h1) (by simpa using h2) hk
def start(N:ZG)(vs:List V):St:=vs.map some++List.replicate (N.length-vs.length) none
def qJ(CX:SL)(P:Program)(w:World)(K:ZC)(mg:ZD)(base:Heap)(N:ZG)(qual:Str)(scope:Scope)(f:Addr)(cd:Value)(A:Around)(outer:List Env)(s:Shared)(H:Hp)(E:XK):Cx where
 prog:=P
 w:=w
 K:=K
 mg:=mg
 base:=base
 A:=A.deeper (envOfC qual scope s.heap.objs.size f cd)
 N:=N
 s₀:=s
 H₀:=H
 env:=envOfC qual scope s.heap.objs.size f cd
 outer:=outer
 stack:=envOfC qual scope s.heap.objs.size f cd::outer
 ex:=[]
 calm:=true
 fn:=λ_=>true
 pn:=[]
 xe:=λe s'=>wpAny (model P w) (A.deeper (envOfC qual scope s.heap.objs.size f cd)) (leaving (envOfC qual scope s.heap.objs.size f cd) e) (λ_ s''=>CX outer H s E e s'') (λe' s''=>CX outer H s E e' s'') s'
def GQ{sc:Scope}(h:sc.names.lookup x=some .cell):∃c,(cellsFrom n sc.names []).lookup x=some c:=by
 have q:=W.cellsFrom_some sc.names n [] (.inl h);exact Option.isSome_iff_exists.mp q
def P8{K:ZC}{outer:List Env}{s s1:Shared}{H:Hp}{E:XK}{us:ZJ}{vs:List V}(S:iJ N ps scope)(hd:A.handled=none)(e0:KY P w K mg base A outer s H)(hl:vs.length=ps.length)(r:bJ vs us)(x:InCallC s s.heap.objs.size (bindL (envOfC qual scope s.heap.objs.size f cd).kindOf (ps.zip us) λ_=>none) (cellsFrom (s.heap.objs.size+1) scope.names []) (bindC (envOfC qual scope s.heap.objs.size f cd).kindOf (ps.zip us) λ_=>none) s1):
  Inv (qJ CX P w K mg base N qual scope f cd A outer s H E) [] (start N vs) H s1:=by
 have hpl:ps.length<=N.length:=by have:=congrArg List.length S.pre;rw[ü]at this;lia
 let⟨h1,tk,rfl,hk⟩:=x.done;have noA:∀b:Addr,b∉(qJ CX P w K mg base N qual scope f cd A outer s H E).ex:=λb z=>absurd (show b∈([]:ZM)from z) 'f';refine⟨⟨e0.mod,S.kind,rfl,rfl,È _,λy z c h1 h2=>?_,λy hy=>?_,λy c _ h=>?_,λ_=>hd,Around.frames_deeper e0.frames,.inr ⟨rfl,rfl⟩,λb z=>absurd z (noA b),e0.bs,e0.bsz,λb _ _=>noA b,λb z=>absurd z (noA b),e0.funs,e0.frf⟩,
  rfl,e0.bare,Un.kept hk,⟨_,x.toInCall.ns,λi y v h1 h2 h3=>?_⟩,λy c h=>⟨_,x.cell y c h⟩,e0.hok.fresh (È _),λy c h=>?_,λp hp=>absurd (show p∈([]:ZB)from hp) 'f',e0.hok.kept hk,?_⟩
 .exact name_of_addr x.apart (þ h1) (þ h2)
 .have hy:scope.names.lookup y=some .cell\/scope.names.lookup y=some .free:=hy
  rcases hy with hy|hy
  .exact GQ hy
  .exact absurd rfl (S.nofree _ (þ hy))
 .exact É (x.above y c (þ h))
 .have hi:i<vs.length:=by
   unfold start at h2;by_cases hi:i<vs.length
   .exact hi
   .rw[ç (by simpa using hi)]at h2
    rw[Ą]at h2;split at h2<;>cases h2
  have ha:vs[i]?=some v:=by
   unfold start at h2;rw[ó (by simpa using hi),Ñ]at h2;cases e:vs[i]? with
   |none=>rw[e]at h2;cases h2
   |some a=>rw[e]at h2;cases h2;rfl
  let⟨u,hu,rv⟩:=r.get ha;have hp:ps[i]?=some y:=by
   rw[<- S.pre,List.getElem?_take_of_lt (by exact ð ‹_› ‹_›)];exact h1
  have ndP:ps.Nodup:=by rw[<- S.pre];exact S.nd.sublist (List.take_sublist _ _)
  refine⟨u,rv,?_⟩;rcases S.par y (Ā hp)with k|k
  .exact .inl ⟨k,BK ndP hp hu k⟩
  .obtain⟨c,e⟩:=GQ (n:=s.heap.objs.size+1) k
   refine .inr ⟨.inl k,c,e,?_⟩;have q:=x.cell y c e;rw[BL ndP hp hu (by show scope.names.lookup y≠_;rw[k];decide)]at q
   exact q
 .exact e0.hok.fresh (É (x.above y c (þ h)))
 .unfold start
  show _=N.length;rw[Ò,Æ,ï];lia
def aKL{K:ZC}{dV kV doc pm cdv ct oc:Value}{an od:Option Addr}{osl:Array (ZN)}{N ps:ZG}{sp:Sp}(lk:K.lookup f=some ⟨oc,od,.func (W.fnOf name qual params body scope dV kV doc pm an cdv ct),osl⟩)(hcd:W.codeIn K cdv qual=true)(S:iJ N ps scope)(len:∀vs H Q E,sp vs H Q E->vs.length=ps.length)(hbody:∀(A:Around)(outer:List Env)(s:Shared)(H:Hp)(vs:List V)(Q:VK)(E:XK),fD k (A.deeper (envOfC qual scope s.heap.objs.size f cdv))->sp vs H Q E ->
   ∃t,C8 (qJ CX P w K mg base N qual scope f cdv A outer s H E) body t/\t {nx:=λ_ H'=>Q .non H',rt:=Q} (start N vs) H):
  qI P w K mg base CX (k+1) f (W.fnOf name qual params body scope dV kV doc pm an cdv ct) ps sp:=by
 refine⟨len,λA outer s H args us vs Q E hr e0 hb r hsp=>?_⟩;have hl:=len _ _ _ _ hsp;have KX:K.In s.heap:=e0.mod.kin.keeps λb o e=>(e0.bs b o e).1;have lim:s.heap.NoLimit:=e0.mod.nolimit.keeps λb o e=>(e0.bs b o e).1;have hkind:∀y∈ps.zip us,scope.names.lookup y.1=some .local\/(scope.names.lookup y.1=some .cell/\((cellsFrom (s.heap.objs.size+1) scope.names []).lookup y.1).isSome=true):=λ⟨n,v⟩hy=>by
  rcases S.par n (List.of_mem_zip hy).1 with q|q
  .exact .inl q
  .exact .inr ⟨q,W.cellsFrom_some _ _ _ (.inl q)⟩
 refine codeAny_call_function hr.depth (KX _ _ lk) rfl S.co S.gen rfl (W.codeRec_of KX hcd) (hb _ _ _ _ ?_);refine wpAny_newFunctionEnv_cells S.kind hkind λenv he s1 x=>?_;subst he;refine⟨lim.keeps x.toInCall.keep,codeAny_func ?_⟩;let⟨t,ht,hq⟩:=hbody A outer s H vs Q E (hr.deeper _) hsp;have I:Inv (qJ CX P w K mg base N qual scope f cdv A outer s H E) [] (start N vs) H s1:=P8 S hr.hd e0 hl r x;refine wpAny_mono (ht [] s1 (start N vs) H _ I hq) (λfl s' hs=>?_) λe s' hs=>hs;have fin:∀{σ':St}{H':Hp}{v:V}{u:Value},Inv (qJ CX P w K mg base N qual scope f cdv A outer s H E) [] σ' H' s'->bI v u->Q v H'->CE outer P w H s Q u s':=
  λ{σ' H' v u}J rv q=>⟨v,H',J.os,J.bare,J.base,J.hok,rv,q⟩
 cases fl with
 |ret u=>
  let⟨v,σ',H',J,rv,q⟩:=hs;exact fin J rv q
 |next=>
  let⟨σ',H',J,q⟩:=hs;exact fin (v:=V.non) (u:=Value.none) J rfl q
 |brk=>
  let⟨_,_,_,q⟩:=hs;exact False.elim q
 |cont=>
  let⟨_,_,_,q⟩:=hs;exact False.elim q
section
variable {X:Cx}{x:Str}{p pos:Pos}{e:Expr}{es:List Expr}{t:TA}{id T:String}{r:List V->Hp->VK->Prop}
def ţ(r:List V->Hp->VK->Prop)(t:TA):TE:=λσ H Q=>t σ H λvs H1=>r vs H1 Q
def rS(hc:gY X (.builtin id) r)(hg:Gl X x)(hm:X.mg x=none)(hv:bootBuiltins x=some (.builtin id))(ha:PA X (e::es) t)(hn:⇑(x≠"__name__"))(hdb:⇑(Zdb x))(he:↥(Zse e es X.env))(hpl:↥(Zbt pos es X.env)):PE X (.Call 'd' (e::es) [] pos) (ţ r t):=by
 intro À s σ H Q I h;refine wpAny_Call_Name_kw (j8 I hg hm hv ?_ hn hdb);exact PyProof.Rows.callWith_builtin1 (cY (ha pos À s σ H _ I h) λus s1 zQ=>by let⟨vs,H1,I1,r1,q1⟩:=zQ;exact hc À s1 σ H1 vs us Q I1 r1 q1) he hpl
def t9(hc:gY X (.type T) r)(hg:Gl X x)(hm:X.mg x=none)(hv:bootBuiltins x=some (.type T))(ha:PA X (e::es) t)(hn:⇑(x≠"__name__"))(hdb:⇑(Zdb x))(he:↥(Zse e es X.env))(hpl:↥(Zbt pos es X.env)):PE X (.Call 'd' (e::es) [] pos) (ţ r t):=by
 intro À s σ H Q I h;refine wpAny_Call_Name_kw (j8 I hg hm hv ?_ hn hdb);exact PyProof.Rows.callWith_type1 (cY (ha pos À s σ H _ I h) λus s1 zQ=>by let⟨vs,H1,I1,r1,q1⟩:=zQ;exact hc À s1 σ H1 vs us Q I1 r1 q1) he hpl
end
end L2
namespace HT
open PySem PyProof.Rows
section
open PySem.SeqAt
open PySem.AutoSeq1 (wpAny_loadPart')
open PySem.MeetsSeq PySem.MeetsSeq2 PySem.MeetsSeq3
end
section
variable {prog:Program}{w:World}{A:Around}{E:ZA}{s:Shared}
def cat_tup{t b:Addr}{vs ws:ZJ}{Q:ZA}(ht:IsTup s.heap t vs.toArray)(hb:IsTup s.heap b ws.toArray)(hv:vs≠[])(h1:ws=[]->Q (.ref t) s)(h2:ws≠[]->Q (.ref s.heap.objs.size) {s with heap:=s.heap.push {cls:=.type "tuple",data:=.seq (vs++ws).toArray}})(hsz:vs.length+ws.length<=sizeLine):wpAny (model prog w) A (binaryOp .Add (.ref t) (.ref b)) Q E s:=by
 let⟨⟨cls,dd,data,sl⟩,ho,hc,n,hd⟩:=id ht;let⟨⟨cls2,dd2,data2,sl2⟩,ho2,hc2,n2,hd2⟩:=id hb;simp only at hc hd hc2 hd2;subst hc hd hc2 hd2;have e:vs.toArray++ws.toArray=(vs++ws).toArray:=by simp
 by_cases hw:ws=[]
 .exact concat_meets ⟨_,ho,rfl⟩ ⟨_,ho2,rfl⟩ noFill_tuple_add seq_tuple_add PySem.F.slot_tuple_add PySem.F.entry_tuple_add (PySem.F.args_tuple_add_2 _ _)
   (tuple_addW1 t b vs.toArray ws.toArray n n2 dd dd2 sl sl2 (by simpa using hv) (by simp[hw])) ⟨ho,ho2,h1 hw⟩
 .refine concat_meets ⟨_,ho,rfl⟩ ⟨_,ho2,rfl⟩ noFill_tuple_add seq_tuple_add PySem.F.slot_tuple_add PySem.F.entry_tuple_add (PySem.F.args_tuple_add_2 _ _)
   (tuple_addW2 t b vs.toArray ws.toArray n n2 dd dd2 sl sl2 (by simpa using hv) (by simpa using hw) 'i') ⟨ho,ho2,?_⟩
  rw[e];exact h2 hw
def sIx(n d:Nat):Option Int->Nat
 |none=>d
 |some v=>if v<0 then (v+(n:Int)).toNat else min v.toNat n
def sIx_none(n d:Nat):sIx n d none=d:=rfl
def sIx_nat(n d k:Nat):sIx n d (some (k:Int))=min k n:=by
 show (if (k:Int)<0 then ((k:Int)+(n:Int)).toNat else min (k:Int).toNat n)=min k n;rw[Ä ∅,ø]
def aGM(n d:Nat)(hd:d<=n)(o:Option Int):sIx n d o<=n:=by
 cases o with
 |none=>exact hd
 |some v=>
  show (if v<0 then (v+(n:Int)).toNat else min v.toNat n)<=n;by_cases hv:v<0
  .rw[Â hv];lia
  .rw[Ä hv];exact Nat.min_le_right _ _
def MX(v:Int)(n d:Nat):(if v<0 then max (v+(n:Int)) 0 else min v (n:Int))=((sIx n d (some v):Nat):Int):=by
 show (if v<0 then max (v+(n:Int)) 0 else min v (n:Int))=(((if v<0 then (v+(n:Int)).toNat else min v.toNat n):Nat):Int)
 grind
def KZ(lo hi:Option Int)(n:Nat):Builtin.Slice.sliceAdjust lo hi 1 (n:Int)=(((sIx n 0 lo:Nat):Int),((sIx n n hi:Nat):Int)):=by
 have h1:¬((1:Int)<0):=by decide
 unfold Builtin.Slice.sliceAdjust;simp![h1,if_false];refine Prod.ext ?_ ?_
 .cases lo with
  |none=>rfl
  |some v=>exact MX v n 0
 .cases hi with
  |none=>rfl
  |some v=>exact MX v n n
def K2(i j:Nat):Builtin.Slice.slicePlaces (i:Int) (j:Int) 1=j-i:=by
 unfold Builtin.Slice.slicePlaces;have h1:(1:Int)>0:=by decide
 simp![h1,if_true,Int.ediv_one];split<;>lia
def w8{v:Value}{o:Option Int}{Q:Option Int->Shared->Prop}(p:IsPart v o)(h:Q o s):wpAny (model prog w) A (Builtin.Slice.slicePartIndex v) Q E s:=by
 cases p with
 |none=>exact slicePart_none h
 |int i t=>exact slicePart_int h
def uA{sl:Addr}{vl vu:Value}{lo hi:Option Int}{n:Nat}{Q:Int×Int×Nat->Shared->Prop}(hs:s.heap.IsSliceOf sl vl vu .none)(pl:IsPart vl lo)(pu:IsPart vu hi)(h:Q (((sIx n 0 lo:Nat):Int),1,sIx n n hi-sIx n 0 lo) s):wpAny (model prog w) A (Builtin.Slice.sliceApplied (.ref sl) (pure (n:Int))) Q E s:=by
 let⟨os,hos,hcs,hds⟩:=id hs;unfold Builtin.Slice.sliceApplied Builtin.Slice.sliceFields;refine wpAny_bind (wpAny_bind (wpAny_field hos hds (x:=vl) rfl (wpAny_bind (wpAny_field hos hds (x:=vu) rfl (wpAny_bind (wpAny_field hos hds (x:=.none) rfl (wpAny_pure ?_)))))));refine wpAny_bind (slicePart_none ?_);show wpAny _ _ (if ((1:Int) == 0)=true then _ else _) _ _ s;rw[Ä ⋯];refine wpAny_bind (w8 pl (wpAny_bind (w8 pu (wpAny_bind (wpAny_pure ?_)))));show wpAny _ _ (match Builtin.Slice.sliceAdjust lo hi 1 (n:Int)with|(lo,hi)=>pure (lo,(1:Int),Builtin.Slice.slicePlaces lo hi 1)) _ _ s;rw[KZ lo hi n];show wpAny _ _ (pure (((sIx n 0 lo:Nat):Int),(1:Int),Builtin.Slice.slicePlaces ((sIx n 0 lo:Nat):Int) ((sIx n n hi:Nat):Int) 1)) _ _ s;rw[K2];exact wpAny_pure h
def TJ(xs:Array Value)(i k:Nat):((List.range k).filterMap λ(m:Nat)=>xs[((i:Int)+(m:Int)*1).toNat]?).toArray=((xs.toList.drop i).take k).toArray:=by
 have e:(λ(m:Nat)=>xs[((i:Int)+(m:Int)*1).toNat]?)=λm=>xs[i+m]?:=by
  funext m;have:((i:Int)+(m:Int)*1).toNat=i+m:=by lia
  rw[this]
 rw[e];have:=pick_run xs i k;rw[List.filterMap_map]at this;have e2:((λx=>xs[x]?)∘λx=>i+x)=λm=>xs[i+m]?:=rfl;rw[e2]at this;rw[this]
def getItem_tuple_cut{t sl:Addr}{items:Array Value}{vl vu:Value}{lo hi:Option Int}{Q:ZA}(ht:IsTup s.heap t items)(hs:s.heap.IsSliceOf sl vl vu .none)(pl:IsPart vl lo)(pu:IsPart vu hi)(hw:¬(sIx items.size 0 lo=0/\sIx items.size items.size hi=items.size))(h:Q (.ref s.heap.objs.size) {s with heap:=s.heap.push {cls:=.type "tuple",data:=.seq ((items.toList.drop (sIx items.size 0 lo)).take (sIx items.size items.size hi-sIx items.size 0 lo)).toArray}})(hsz:items.size<=sizeLine):wpAny (model prog w) A (getItem (.ref t) (.ref sl)) Q E s:=by
 have htake:sizeOk (.seq ((items.toList.drop (sIx items.size 0 lo)).take (sIx items.size items.size hi-sIx items.size 0 lo)).toArray):=by
  show ((items.toList.drop (sIx items.size 0 lo)).take (sIx items.size items.size hi-sIx items.size 0 lo)).toArray.size<=sizeLine;rw[è,ü,List.length_drop,Array.length_toList];lia
 have hj:sIx items.size items.size hi<=items.size:=aGM _ _ (È _) hi;let⟨os,hos,hcs,hds⟩:=id hs;have hTs:s.TypeIs (.ref sl) "slice":=⟨os,hos,hcs⟩;unfold getItem
 try with_reducible refine wpAny_holding ?_
 first|refine wpAny_bind (wpAny_pure ?_)|skip
 refine wpAny_bind (wpAny_sequenceKey ht.typeIs ⋯ ?_);refine wpAny_bind (wpAny_callSpecial?_slot (name:=Str.ofString "__getitem__") ht.typeIs PyProof.Rows.slot_tuple_getitem
  (wpAny_call_entry PyProof.Rows.slot_tuple_getitem ht.typeIs entry_tuple_getitem ?_ (args_tuple_getitem _ _)))
 show wpAny _ _ (Builtin.Tuple.tupleItemsOf (.ref t) >>= _) _ _ s;refine wpAny_bind (tupleItemsOf_ ht ?_);refine wpAny_bind (wpAny_typeOf hTs ?_);rw[Â ⋯];refine wpAny_bind (uA hs pl pu ?_);have hno:¬((((sIx items.size 0 lo:Nat):Int) == 0 && (1:Int) == 1 && (sIx items.size items.size hi-sIx items.size 0 lo) == items.size)=true):=by
  intro q;rw[æ,æ]at q;have q1:((sIx items.size 0 lo:Nat):Int)=0:=eq_of_beq q.1.1;have q2:sIx items.size items.size hi-sIx items.size 0 lo=items.size:=eq_of_beq q.2;exact hw ⟨∅,∅⟩
 show wpAny _ _ (if (((sIx items.size 0 lo:Nat):Int) == 0 && (1:Int) == 1 && (sIx items.size items.size hi-sIx items.size 0 lo) == items.size)=true then _ else _) _ _ s;rw[Ä hno,TJ]
 first
  |exact wpAny_bind (m:=Builtin.Tuple.tupleExact _) (wpAny_newObj_type (wpAny_pure ⟨_,rfl,wpAny_pure h⟩) htake)
  |exact wpAny_bind (m:=Builtin.Tuple.tupleExact _) (wpAny_newObj_type (wpAny_bind (wpAny_pure (wpAny_pure ⟨_,rfl,wpAny_pure h⟩))) htake)
  |exact wpAny_bind (wpAny_bind (m:=Builtin.Tuple.tupleExact _) (wpAny_newObj_type (wpAny_pure (wpAny_pure ⟨_,rfl,wpAny_pure h⟩)) htake))
  |exact wpAny_bind (wpAny_bind (m:=Builtin.Tuple.tupleExact _) (wpAny_newObj_type (wpAny_pure ⟨_,rfl,wpAny_pure h⟩) htake))
end
end HT
namespace L2
open PySem PySem.Spec PyProof.Rows
abbrev TO:=St->Hp->(Option Int->Hp->Prop)->Prop
def PO(X:Cx)(e:Option Expr)(t:TO):Prop:=
 ∀(À:ZB)(s:Shared)(σ:St)(H:Hp)(Q:Option Int->Hp->Prop),Inv X À σ H s->t σ H Q ->
  wpAny 'b' X.A (evalPart e X.env) (λu s'=>∃o H',Inv X À σ H' s'/\IsPart u o/\Q o H') X.xe s
def aAQ:TO:=λ_ H Q=>Q none H
def aKM(t:TE):TO:=λσ H Q=>t σ H λx H1=>∃i,x=.int i/\Q (some i) H1
section
variable {X:Cx}{e:Expr}{te:TE}{lo hi:Option Expr}{tl th:TO}{pos p2:Pos}
def aAR:PO X none aAQ:=by
 intro À s σ H Q I h;rw[evalPart_none];exact wpAny_pure ⟨none,H,I,.none,h⟩
def aAS(h:PE X e te):PO X (some e) (aKM te):=by
 intro À s σ H Q I hw;rw[evalPart_some];refine cY (h À s σ H _ I hw) λu s1 zQ=>?_;let⟨x,H1,I1,r1,q1⟩:=zQ;let⟨i,rfl,q⟩:=q1;let⟨t,rfl⟩:=r1;exact⟨some i,H1,I1,.int i t,q⟩
def Ŀ(X:Cx)(r:V->Option Int->Option Int->Hp->VK->Prop):Prop:=
 ∀(À:ZB)(s:Shared)(σ:St)(H:Hp)(x:V)(v vl vu:Value)(lo hi:Option Int)(sl:Addr)(Q:VK),Inv X À σ H s->bI x v->s.heap.IsSliceOf sl vl vu .none->IsPart vl lo->IsPart vu hi->r x lo hi H Q ->
  ∃T id,typeLookup (.type T) "__getitem__"=pure (some (.builtin id))/\s.TypeIs v T/\wpAny 'b' X.A (getItem v (.ref sl)) (EP X À σ Q) X.xe s
def aPV(r:V->Option Int->Option Int->Hp->VK->Prop)(te:TE)(tl th:TO):TE:=λσ H Q=>te σ H λx H1=>tl σ H1 λl H2=>th σ H2 λu H3=>r x l u H3 Q
def GR(hr:Ŀ X r)(he:PE X e te)(hl:PO X lo tl)(hu:PO X hi th):PE X (.Subscript e (.Slice lo hi none p2) pos) (aPV r te tl th):=by
 intro À s σ H Q I h;refine Subscript_ (cY (he À s σ H _ I h) λv s1 zQ=>?_);let⟨x,H1,I1,r1,q1⟩:=zQ;refine wpAny_Slice (cY (hl À s1 σ H1 _ I1 q1) λvl s2⟨l,H2,I2,pl,q2⟩=>cY (hu À s2 σ H2 _ I2 q2) λvu s3 zQ=>?_);let⟨u,H3,I3,pu,q3⟩:=zQ;rw[evalPart_none];refine wpAny_pure ?_;have I4:Inv X À σ H3 {s3 with heap:=s3.heap.push {cls:=.type "slice",data:=.fields #[vl,vu,.none]}}:=I3.kept (t':=s3.toks) λb ob q=>Heap.get?_push_of_some _ q;let⟨T,id,hT,ht,hg⟩:=hr À {s3 with heap:=s3.heap.push {cls:=.type "slice",data:=.fields #[vl,vu,.none]}} σ H3 x v vl vu l u s3.heap.objs.size Q I4 r1 (Heap.IsSliceOf.new ..) pl pu q3;show wpAny 'b' X.A (subscriptTail e (.Slice lo hi none p2) v (.ref s3.heap.objs.size)) (EP X À σ Q) X.xe {s3 with heap:=s3.heap.push {cls:=.type "slice",data:=.fields #[vl,vu,.none]}};exact tail_any (ops:=[.ref s3.heap.objs.size,v]) ht hT hg (by with_unfolding_all rfl)
def DG(xs:List V)(lo hi:Option Int):(List V):=(xs.drop (HT.sIx xs.length 0 lo)).take (HT.sIx xs.length xs.length hi-HT.sIx xs.length 0 lo)
def vH(xs:List V)(lo hi:Option Int):(DG xs lo hi).length<=xs.length:=by
 unfold DG;rw[ü,List.length_drop];lia
def Δ(K:ZC):V->Option Int->Option Int->Hp->VK->Prop:=λx lo hi H Q=>∃a xs,x=.ref a/\rO K H a xs /\
 ¬(HT.sIx xs.length 0 lo=0/\HT.sIx xs.length xs.length hi=xs.length)/\∀p,H p=none->Q (.ref p) (aY H p (.tup (DG xs lo hi)))
def TK:Ŀ X (Δ X.K):=by
 intro À s σ H x v vl vu lo hi sl Q I rx hs pl pu h;let⟨a,xs,rfl,hx,hw,q⟩:=h;cases rx;let⟨its,r,ht,hz⟩:=I.tuple hx;have hlen:its.toArray.size=xs.length:=by rw[è];exact r.length.symm
 refine⟨"tuple",_,PyProof.Rows.slot_tuple_getitem.lookup,ht.typeIs,?_⟩;refine HT.getItem_tuple_cut ht hs pl pu (by rw[hlen];exact hw) ?_ (by rw[hlen];exact hz);rw[hlen];refine⟨.ref s.heap.objs.size,_,I.laid (t':=s.toks) (o:=.tup (DG xs lo hi)) (λb ob q=>Heap.get?_push_of_some _ q) (È _) ?_,rfl,q _ (I.hok.fresh (È _))⟩;exact⟨Ø (vH xs lo hi) hz,_,(r.drop (HT.sIx xs.length 0 lo)).take (HT.sIx xs.length xs.length hi-HT.sIx xs.length 0 lo),IsTup.new _ _⟩
def Ε(K:ZC):R2:=λx y H Q=>∃a b xs ys,x=.ref a/\y=.ref b/\rO K H a xs/\rO K H b ys/\xs≠[]/\xs.length+ys.length<=sizeLine /\
 (ys=[]->Q (.ref a) H)/\(ys≠[]->∀p,H p=none->Q (.ref p) (aY H p (.tup (xs++ys))))
def bJ.nil_iff(r:bJ xs us):us=[]↔xs=[]:=by
 cases r with
 |nil=>simp
 |cons _ _=>simp
def aAT:iU X (binaryOp .Add) (Ε X.K):=by
 sleep 6;let⟨a,b,xs,ys,rfl,rfl,ha,hb,hx,hz,q1,q2⟩:=h;cases rx;cases ry;let⟨its,r1,p1,_⟩:=I.tuple ha;let⟨its2,r2,p2,_⟩:=I.tuple hb;refine HT.cat_tup p1 p2 (λz=>hx (r1.nil_iff.mp z)) (λz=>⟨.ref a,H,I,rfl,q1 (r2.nil_iff.mp z)⟩) (λz=>?_) (by rw[<- r1.length,<- r2.length];exact hz);refine⟨.ref s.heap.objs.size,_,I.laid (t':=s.toks) (o:=.tup (xs++ys)) (λb ob q=>Heap.get?_push_of_some _ q) (È _) ?_,rfl,q2 (λw=>z (r2.nil_iff.mpr w)) _ (I.hok.fresh (È _))⟩;exact⟨by rw[Ò];exact hz,_,r1.append r2,IsTup.new _ _⟩
end
def lN(n:Nat)(i:Int):(Option Nat):=if 0<=i then (if i<n then some i.toNat else none)else if -(n:Int)<=i then some (i+n).toNat else none
def atI{α:Type}(xs:List α)(i:Int):(Option α):=(lN xs.length i).bind λj=>xs[j]?
def MY(h:lN n i=some j):seqIndex? i n=some j/\j<n/\-(n:Int)<=i/\i<n:=by
 unfold lN at h;by_cases h0:0<=i
 .rw[Â h0]at h
  by_cases h1:i<n
  .rw[Â h1]at h
   have e:i.toNat=j:=Option.some.inj h;exact⟨by rw[seqIndex_of h0 h1,e],∅,∅,h1⟩
  grind
 .rw[Ä h0]at h
  by_cases h1:-(n:Int)<=i
  .rw[Â h1]at h
   have e:(i+n).toNat=j:=Option.some.inj h;exact⟨by rw[seqIndex_neg (by exact Int.not_le.mp ‹_›) h1,e],∅,h1,∅⟩
  grind
def DJ{v:α}(h:atI xs i=some v):∃j,seqIndex? i xs.length=some j/\xs[j]?=some v/\j<xs.length/\-(xs.length:Int)<=i/\i<xs.length:=by
 unfold atI at h;cases e:lN xs.length i with
 |none=>rw[e]at h;cases h
 |some j=>
  rw[e]at h;let⟨h1,h2,h3,h4⟩:=MY e;exact⟨j,h1,h,h2,h3,h4⟩
def eX{j:Nat}{v:α}(h:xs[j]?=some v):atI xs (j:Int)=some v:=by
 have hj:j<xs.length:=(Î.mp h).1;have e:lN xs.length (j:Int)=some j:=by
  unfold lN;rw[Â ∅,Â ∅];simp
 unfold atI;rw[e];exact h
def oM(b:Expr):Prop:=∀o i,subscripted b false o i=operate [o,i] (getItem o i)
def Ĉ(X:Cx)(r:R2):Prop:=
 ∀(value slice:Expr)(À:ZB)(s:Shared)(σ:St)(H:Hp)(x y:V)(v u:Value)(Q:VK),Inv X À σ H s->bI x v->bI y u->r x y H Q ->
  subscripted slice false v u=operate [v,u] (getItem v u)->wpAny 'b' X.A (subscriptTail value slice v u) (EP X À σ Q) X.xe s
def ę(X:Cx)(id:String)(r:V->List V->Hp->VK->Prop):Prop:=
 ∀(À:ZB)(s:Shared)(σ:St)(H:Hp)(x:V)(xs:List V)(v:Value)(us:ZJ)(Q:VK),Inv X À σ H s->bI x v->bJ xs us->r x xs H Q ->
  wpAny 'b' X.A (call (.builtin id) (v::us)) (EP X À σ Q) X.xe s
section
variable {X:Cx}
def Ĉ.or(h:Ĉ X r)(h':Ĉ X r'):Ĉ X (λx y H Q=>r x y H Q\/r' x y H Q):=by
 intro value slice À s σ H x y v u Q I rx ry q hs;rcases q with q|q
 .exact h value slice À s σ H x y v u Q I rx ry q hs
 .exact h' value slice À s σ H x y v u Q I rx ry q hs
def GS(hr:Ĉ X r)(ha:PE X a ta)(hb:PE X b tb)(hs:oM b):PE X (.Subscript a b pos) (Ĭ r ta tb):=by
 intro À s σ H Q I h;exact Subscript_ (Š ha hb I h λv u s2 x y H2 I2 rx ry q=>hr a b À s2 σ H2 x y v u Q I2 rx ry q (hs _ _))
def Ť(K:ZC):R2:=λx y H Q=>∃p xs i v,x=.ref p/\y=.int i/\eV K H p xs/\atI xs i=some v/\Q v H
def Ζ(K:ZC):R2:=λx y H Q=>∃p xs i v,x=.ref p/\y=.int i/\rO K H p xs/\atI xs i=some v/\Q v H
def Η:R2:=λx y H Q=>∃z i c,x=.str z/\y=.int i/\z.length<=sizeLine/\atI z.cps.toList i=some c/\Q (.str ⟨#[c]⟩) H
def rT:Ĉ X (Ť X.K):=by
 intro value slice À s σ H x y v u Q I rx ry h hs;let⟨p,xs,i,z,rfl,rfl,hq,he,q⟩:=h;cases rx;let⟨t,rfl⟩:=ry;let⟨its,r,pl,hz⟩:=I.list hq;let⟨j,h1,h2,h3,h4,h5⟩:=DJ he;let⟨w,ew,rw'⟩:=r.get h2;have hl:=r.length;have hn:=qH;have fin:EP X À σ Q w s:=⟨z,H,I,rw',q⟩;by_cases h0:0<=i
 .have hj:i.toNat=j:=by
   rw[seqIndex_of h0 h5]at h1;exact Option.some.inj h1
  exact item_listR pl.isList h0 ∅ (by rw[hj];simpa using ew) fin hs
 .have hj:(i+(its.toArray.size:Int)).toNat=j:=by
   rw[seqIndex_neg (by exact Int.not_le.mp ‹_›) h4]at h1;rw[è,<- hl];exact Option.some.inj h1
  exact subscriptTail_builtinR (x:=w) pl.isList.typeIs slot_list_getitem.lookup
   (wpAny_getItem_list_neg (Q:=λr s'=>r=w/\EP X À σ Q r s') pl.isList (by exact Int.not_le.mp ‹_›) 'i' ∅ (by rw[hj];simpa using ew) ⟨rfl,fin⟩) hs
def aGP:Ĉ X (Ζ X.K):=by
 intro value slice À s σ H x y v u Q I rx ry h hs;let⟨p,xs,i,z,rfl,rfl,hq,he,q⟩:=h;cases rx;let⟨t,rfl⟩:=ry;let⟨its,r,pl,hz⟩:=I.tuple hq;let⟨j,h1,h2,h3,h4,h5⟩:=DJ he;let⟨w,ew,rw'⟩:=r.get h2;have hl:=r.length;have hn:=qH;have fin:EP X À σ Q w s:=⟨z,H,I,rw',q⟩;exact subscriptTail_builtinR (x:=w) pl.typeIs slot_tuple_getitem.lookup
  (getItem_tuple (j:=j) (Q:=λr s'=>r=w/\EP X À σ Q r s') pl ∅ ∅ 'i' (by simpa using ew) ⟨rfl,fin⟩) hs
def aGQ:Ĉ X Η:=by
 intro value slice À s σ H x y v u Q I rx ry h hs;let⟨z,i,c,rfl,rfl,hz,he,q⟩:=h;let⟨t,rfl⟩:=rx;let⟨t',rfl⟩:=ry;let⟨j,h1,h2,h3,h4,h5⟩:=DJ he;have hl:z.cps.toList.length=z.length:=by simp[Str.length]
 rw[hl]at h1 h4 h5;have hn:=qH;exact tail_any (typeIs_str s z t) slot_str_getitem.lookup (getItem_str (c:=c) (by
  grind) (by rw[h1];simpa using h2) ⟨.str ⟨#[c]⟩,H,I.tok _,⟨_,rfl⟩,q⟩) hs
def Θ(K:ZC):R2:=λx y H Q=>Ť K x y H Q\/Ζ K x y H Q\/Η x y H Q
def aGR:Ĉ X (Θ X.K):=rT.or (aGP.or aGQ)
def K3(its:ZJ)(n j:Nat)(u:Value):Obj.mapSeq (·.setIfInBounds j u) {cls:=.type "list",data:=.seq its.toArray n}={cls:=.type "list",data:=.seq (its.set j u).toArray n}:=by
 simp[Obj.mapSeq]
def Inv.lst(I:Inv X À σ H s)(h:H p=some (.lst xs)):
  ∃(its:ZJ)(n:Nat),bJ xs its/\s.heap.get? p=some {cls:=.type "list",data:=.seq its.toArray n}/\xs.length<=sizeLine:=by
 let⟨z,its,n,r,e⟩:=I.hok p _ h;exact⟨its,n,r,e,z⟩
def Inv.lstUpd{À:ZB}{σ:St}{H:Hp}{s:Shared}{p:Addr}{xs ys:List V}{its its':ZJ}{n n':Nat}{f:Obj->Obj}(I:Inv X À σ H s)(h:H p=some (.lst xs))(ho:s.heap.get? p=some {cls:=.type "list",data:=.seq its.toArray n})(hf:f {cls:=.type "list",data:=.seq its.toArray n}={cls:=.type "list",data:=.seq its'.toArray n'})(r:bJ ys its')(hz:ys.length<=sizeLine)(t:Nat):
  Inv X À σ (aY H p (.lst ys)) {s with heap:=s.heap.update p f,toks:=t}:=by
 have e:(s.heap.update p f).get? p=some {cls:=.type "list",data:=.seq its'.toArray n'}:=by
  rw[Heap.get?_update_self f ho (by rw[hf]<;>rfl),hf]
 refine I.write (x:=p) (e:=p) (by rw[h];trivial) (.inl rfl) (λb u hb q=>(Heap.get?_update_other _ _ (Í hb)).trans q) ⟨_,e⟩ ?_;exact⟨hz,its',n',r,e⟩
def aKQ:V->V->V->Hp->(Hp->Prop)->Prop:=λo i v H Q=>∃p xs k j,o=.ref p/\i=.int k/\H p=some (.lst xs)/\lN xs.length k=some j/\Q (aY H p (.lst (xs.set j v)))
def GT:ſ X aKQ:=by
 intro À s σ H o i v ov iv u Q I ro ri rv h;let⟨p,xs,k,j,rfl,rfl,hp,hj,q⟩:=h;cases ro;let⟨t,rfl⟩:=ri;let⟨its,n,r,ho,hz⟩:=I.lst hp;let⟨h1,h2,h3,h4⟩:=MY hj;have hl:=r.length;have hn:=qH;have I':Inv X À σ (aY H p (.lst (xs.set j v))) {s with heap:=s.heap.update p (Obj.mapSeq (·.setIfInBounds j u))}:=
  I.lstUpd hp ho (K3 its n j u) (r.set rv j) (by rw[Ö];exact hz) s.toks
 by_cases h0:0<=k
 .have hk:k.toNat=j:=by
   rw[seqIndex_of h0 h4]at h1;exact Option.some.inj h1
  exact W.ki_setAt ho h0 ∅ (by rw[è,<- hl];exact h4) (by rw[hk];exact⟨_,I',q⟩)
 .have hk:(k+(its.toArray.size:Int)).toNat=j:=by
   rw[seqIndex_neg (by exact Int.not_le.mp ‹_›) h3]at h1;rw[è,<- hl];exact Option.some.inj h1
  exact W.ki_setBack ho (by exact Int.not_le.mp ‹_›) (by rw[è,<- hl];exact h3) ∅ (by rw[hk];exact⟨_,I',q⟩)
def DK(lo hi:Option Int)(n:Nat):(sliceBounds lo hi none n).1=((HT.sIx n 0 lo:Nat):Int)/\(sliceBounds lo hi none n).2.1=((HT.sIx n n hi:Nat):Int)/\(sliceBounds lo hi none n).2.2=1:=by
 refine⟨?_,?_,rfl⟩
 .cases lo with
  |none=>simp[sliceBounds,HT.sIx]
  |some i=>
   simp![sliceBounds,HT.sIx,Option.getD_none,show (1:Int)>0 by decide,if_true]
   grind
 .cases hi with
  |none=>simp[sliceBounds,HT.sIx]
  |some i=>
   simp![sliceBounds,HT.sIx,Option.getD_none,show (1:Int)>0 by decide,if_true]
   grind
def AU(its:ZJ)(lo hi:Option Int):slicePick its.toArray lo hi none=((its.drop (HT.sIx its.length 0 lo)).take (HT.sIx its.length its.length hi-HT.sIx its.length 0 lo)).toArray:=by
 let⟨h1,h2,h3⟩:=DK lo hi its.toArray.size;unfold slicePick;rw[h1,h2,h3];simp![sliceRange_one,pick_run,è]<;>rfl
def Ι(K:ZC):V->Option Int->Option Int->Hp->VK->Prop:=λx lo hi H Q=>∃a xs,x=.ref a/\eV K H a xs/\∀p,H p=none->Q (.ref p) (aY H p (.lst (DG xs lo hi)))
def wI:Ŀ X (Ι X.K):=by
 intro À s σ H x v vl vu lo hi sl Q I rx hs pl pu h;let⟨a,xs,rfl,hx,q⟩:=h;cases rx;let⟨its,r,ht,hz⟩:=I.list hx;have hlen:=r.length;refine⟨"list",_,slot_list_getitem.lookup,ht.isList.typeIs,?_⟩;refine wpAny_getItem_list_slice ht.isList hs pl pu .none 'f' ?_ 'i';rw[AU,<- hlen];refine⟨.ref s.heap.objs.size,_,I.laid (t':=s.toks) (o:=.lst (DG xs lo hi)) (λb ob q=>Heap.get?_push_of_some _ q) (È _) ?_,rfl,q _ (I.hok.fresh (È _))⟩;exact⟨Ø (vH xs lo hi) hz,_,0,(r.drop (HT.sIx xs.length 0 lo)).take (HT.sIx xs.length xs.length hi-HT.sIx xs.length 0 lo),Heap.get?_push_size _ rfl⟩
def mR:V->Bool
 |.non=>true
 |.bl _=>true
 |.int _=>true
 |.str _=>true
 |_=>false
def MZ:V->V->Bool
 |.non,.non=>true
 |.bl a,.bl b=>a == b
 |.bl a,.int b=>(if a then 1 else 0) == b
 |.int a,.bl b=>a == (if b then 1 else 0)
 |.int a,.int b=>a == b
 |.str a,.str b=>a == b
 |_,_=>false
def aGS(ry:bI y u)(rx:bI x v)(fy:mR y=true)(fx:mR x=true):SeqAt.EqAt A s u v (MZ y x):=by
 cases y with
 |non=>
  cases ry;cases x with
  |non=>cases rx;exact SeqAt.EqAt.same _
  |bl b=>cases rx;exact SeqAt.EqAt.none_bool b
  |int b=>let⟨t,rfl⟩:=rx;exact SeqAt.EqAt.none_int b t
  |str b=>let⟨t,rfl⟩:=rx;exact SeqAt.EqAt.none_str b t
  |_=>exact absurd (show false=true from fx) Ú
 |bl a=>
  cases ry;cases x with
  |non=>cases rx;exact SeqAt.EqAt.bool_none a
  |bl b=>cases rx;exact SeqAt.EqAt.bool_bool a b
  |int b=>let⟨t,rfl⟩:=rx;exact SeqAt.EqAt.bool_int a b t
  |str b=>let⟨t,rfl⟩:=rx;exact SeqAt.EqAt.bool_str a b t
  |_=>exact absurd (show false=true from fx) Ú
 |int a=>
  let⟨t',rfl⟩:=ry;cases x with
  |non=>cases rx;exact SeqAt.EqAt.int_none a t'
  |bl b=>cases rx;exact SeqAt.EqAt.int_bool a t' b
  |int b=>let⟨t,rfl⟩:=rx;exact SeqAt.EqAt.int_int a t' b t
  |str b=>let⟨t,rfl⟩:=rx;exact SeqAt.EqAt.int_str a t' b t
  |_=>exact absurd (show false=true from fx) Ú
 |str a=>
  let⟨t',rfl⟩:=ry;cases x with
  |non=>cases rx;exact SeqAt.EqAt.str_none a t'
  |bl b=>cases rx;exact SeqAt.EqAt.str_bool a t' b
  |int b=>let⟨t,rfl⟩:=rx;exact SeqAt.EqAt.str_int a t' b t
  |str b=>let⟨t,rfl⟩:=rx;exact SeqAt.EqAt.str_str a t' b t
  |_=>exact absurd (show false=true from fx) Ú
 |_=>exact absurd (show false=true from fy) Ú
def TL(x:V)(u:Value):Bool:=match u with
 |.none=>MZ .non x
 |.bool b=>MZ (.bl b) x
 |.int i _=>MZ (.int i) x
 |.str z _=>MZ (.str z) x
 |_=>false
def K4(r:bI y u)(f:mR y=true):TL x u=MZ y x:=by
 cases y with
 |non=>cases r;rfl
 |bl b=>cases r;rfl
 |int i=>let⟨t,rfl⟩:=r;rfl
 |str z=>let⟨t,rfl⟩:=r;rfl
 |_=>exact absurd (show false=true from f) Ú
def DL :∀{xs:List V}{us:ZJ},bJ xs us->xs.all mR=true->us.any (TL x)=xs.any λy=>MZ y x
 |_,_,.nil,_=>rfl
 |y::xs,u::us,.cons r t,f=>by
  rw[List.all_cons,æ]at f;rw[List.any_cons,List.any_cons,K4 r f.1,DL t f.2]
def rV(rx:bI x v)(fx:mR x=true):∀{xs:List V}{us:ZJ},bJ xs us->xs.all mR=true->∀u∈us,SeqAt.EqAt A s u v (TL x u)
 |_,_,.nil,_=>λu hu=>by cases hu
 |y::xs,u::us,.cons r t,f=>λu' hu=>by
  rw[List.all_cons,æ]at f;rcases Ï.mp hu with rfl|hu
  .rw[K4 r f.1];exact aGS r rx f.1 fx
  .exact rV rx fx t f.2 u' hu
def Ē(x:V)(xs:List V):Bool:=xs.any λy=>MZ y x
def Κ(K:ZC)(neg:Bool):R2:=λx y H Q=>∃p xs,y=.ref p/\(eV K H p xs\/rO K H p xs)/\mR x=true/\xs.all mR=true/\Q (.bl (if neg then !Ē x xs else Ē x xs)) H
def uB:iU X (compareOp .In) (Κ X.K false):=by
 sleep 6;let⟨p,xs,rfl,hq,fx,fs,q⟩:=h;cases ry;rcases hq with hq|hq
 .obtain⟨its,r,pl,hz⟩:=I.list hq
  refine SeqAt.in_listAt (TL x) pl.isList (λw hw=>rV rx fx r fs w (by simpa using hw)) ⟨.bl _,H,I,rfl,?_⟩;rw[show its.toArray.any (TL x)=its.any (TL x) by simp,DL r fs];exact q
 .obtain⟨its,r,pl,hz⟩:=I.tuple hq
  refine SeqAt.in_tupleAt (TL x) pl (λw hw=>rV rx fx r fs w (by simpa using hw)) ⟨.bl _,H,I,rfl,?_⟩;rw[show its.toArray.any (TL x)=its.any (TL x) by simp,DL r fs];exact q
def rW:gY X (.builtin "len") (λxs H Q=>∃p ys,xs=[.ref p]/\(eV X.K H p ys\/rO X.K H p ys)/\Q (.int ys.length) H):=by
 intro À s σ H xs us Q I r h;let⟨p,ys,rfl,hq,q⟩:=h;let⟨u,rfl,rx⟩:=pU r;cases rx;have hn:=qH;rcases hq with hq|hq
 .obtain⟨its,r',pl,hz⟩:=I.list hq
  have hlen:=r'.length;exact Calls.call_len_list pl.isList 'i' ⟨.int ys.length,H,I.tok _,⟨s.toks+1,by grind⟩,q⟩
 .obtain⟨its,r',pl,hz⟩:=I.tuple hq
  have hlen:=r'.length;exact len_tuple pl 'i' ⟨.int ys.length,H,I.tok _,⟨s.toks+1,by grind⟩,q⟩
def DM:gY X (.builtin "len") (λxs H Q=>∃z,xs=[.str z]/\z.length<=sizeLine/\Q (.int z.length) H):=by
 intro À s σ H xs us Q I r h;let⟨z,rfl,hz,q⟩:=h;let⟨u,rfl,t,rfl⟩:=pU r;have hn:=qH;exact len_str ∅ ⟨.int z.length,H,I.tok _,⟨_,rfl⟩,q⟩
def gY.or(h:gY X f r)(h':gY X f r'):gY X f (λxs H Q=>r xs H Q\/r' xs H Q):=by
 intro À s σ H xs us Q I rs q;rcases q with q|q
 .exact h À s σ H xs us Q I rs q
 .exact h' À s σ H xs us Q I rs q
def fE:gY X (.type "list") (λxs H Q=>∃p ys,xs=[.ref p]/\(eV X.K H p ys\/rO X.K H p ys)/\∀l,H l=none->Q (.ref l) (aY H l (.lst ys))):=by
 intro À s σ H xs us Q I r h;let⟨p,ys,rfl,hq,q⟩:=h;let⟨u,rfl,rx⟩:=pU r;cases rx;have fin:∀(its:ZJ),bJ ys its->ys.length<=sizeLine->∀(h':Heap)(c':Nat),(∀b o',s.heap.get? b=some o'->h'.get? b=some o') ->
   h'.get? s.heap.objs.size=some {cls:=.type "list",dict:=none,data:=.seq its.toArray c',slots:=#[]}->EP X À σ Q (.ref s.heap.objs.size) {s with heap:=h'}:=λits r' hz h' c' kp e=>
  ⟨.ref s.heap.objs.size,_,I.laid (t':=s.toks) kp (È _) (show eE X.prog X.w _ h' _ (.lst ys)from⟨hz,its,c',r',e⟩),rfl,q _ (I.hok.fresh (È _))⟩
 rcases hq with hq|hq
 .obtain⟨its,r',pl,hz⟩:=I.list hq
  have hlen:=r'.length;let⟨o,ho,hc,n,hd⟩:=pl.isList;exact call_list_seq p (.inl rfl) ho hc hd (λh' c' kp e=>fin its r' hz h' c' kp e) 'i'
 .obtain⟨its,r',pl,hz⟩:=I.tuple hq
  have hlen:=r'.length;let⟨o,ho,hc,n,hd⟩:=pl;exact call_list_seq p (.inr rfl) ho hc hd (λh' c' kp e=>fin its r' hz h' c' kp e) 'i'
def ŀ(K:ZC)(T:String)(x:V)(H:Hp):Prop:=match x with
 |.str _=>T="str"
 |.int _=>T="int"
 |.ref p=>(T="list"/\∃xs,eV K H p xs)\/(T="tuple"/\∃o,K.lookup p=some o/\o.cls=.type "tuple"/\o.dict=none) \/
   (T="dict"/\((∃Á,H p=some (.dK Á))\/∃Á,H p=some (.dT Á)))\/(T="set"/\∃S n,H p=some (.set S n))
 |_=>False
theorem TM(I:Inv X À σ H s)(r:bI x v)(ty:ŀ X.K T x H):
  s.TypeIs v T/\∀a,v=.ref a->∃ob,s.heap.get? a=some ob/\ob.dict=none:=by
 cases x with
 |str z=>
  let⟨t,rfl⟩:=r;cases (show T="str"from ty);exact⟨typeIs_str s z t,λ_ e=>nomatch e⟩
 |int i=>
  let⟨t,rfl⟩:=r;cases (show T="int"from ty);exact⟨typeIs_int s i t,λ_ e=>nomatch e⟩
 |ref p=>
  cases r;rcases ty with ⟨rfl,xs,hq⟩|⟨rfl,o,hk,hc,hd⟩|⟨rfl,hk⟩|⟨rfl,S,n,hk⟩
  .obtain⟨its,_,pl,_⟩:=I.list hq
   refine⟨pl.isList.typeIs,λa e=>?_⟩;cases e;let⟨o,n,e,c,hd,_⟩:=pl;exact⟨o,e,hd⟩
  .refine⟨⟨o,I.kIn p o hk,hc⟩,λa e=>?_⟩
   cases e;exact⟨o,I.kIn _ o hk,hd⟩
  .have z:∃o,s.heap.get? p=some o/\o.ExactDict:=by
    rcases hk with ⟨Á,hk⟩|⟨Á,hk⟩
    .obtain⟨_,_,_,_,o,_,_,e,ex,_⟩:=I.hok p _ hk
     exact⟨o,e,ex⟩
    .obtain⟨_,_,_,_,o,_,_,e,ex,_⟩:=I.hok p _ hk
     exact⟨o,e,ex⟩
   let⟨o,e,ex⟩:=z;refine⟨⟨o,e,ex.1⟩,λa e2=>?_⟩;cases e2;exact⟨o,e,ex.2.1⟩
  .obtain⟨o,_,_,_,e,ex,_⟩:=I.hok p _ hk
   refine⟨⟨o,e,ex.1⟩,λa e2=>?_⟩;cases e2;exact⟨o,e,ex.2.1⟩
 |_=>exact False.elim ty
def aN4(K:ZC)(T:String)(r:V->List V->Hp->VK->Prop)(to:TE):TE:=λσ H Q=>to σ H λx H1=>ŀ K T x H1/\r x [] H1 Q
def Λ(K:ZC)(T:String)(r:V->List V->Hp->VK->Prop)(to:TE)(t:TA):TE:=λσ H Q=>to σ H λx H1=>ŀ K T x H1/\t σ H1 λxs H2=>r x xs H2 Q
variable {o e:Expr}{es:List Expr}{to:TE}{t:TA}{name:Str}{apos cpos:Pos}{T id:String}{r:V->List V->Hp->VK->Prop}
def DN(pa:PlainAttrs T)(slot:Slot T name id)(hty:typeOf (.builtin id)=pure (.type "method_descriptor"))(hm:ę X id r)(ho:PE X o to)(hbase:↥(attributeBase o name X.env (eval o X.env)=eval o X.env))(hline:↥((apos.endLine == cpos.line)=true)):PE X (.Call (.Attribute o name apos) [] [] cpos) (aN4 X.K T r to):=by
 intro À s σ H Q I h;refine wpAny_Call_method0_late hbase hline (cY (ho À s σ H _ I h) λv s1 zQ=>?_);let⟨x,H1,I1,r1,ty,q1⟩:=zQ;let⟨h1,h2⟩:=TM I1 r1 ty;exact⟨T,id,pa,slot,hty,h1,h2,Calls.callWith_builtin rfl (PySem.evalArgs_none (hm À s1 σ H1 x [] v [] Q I1 r1 .nil q1))⟩
def TN(pa:PlainAttrs T)(slot:Slot T name id)(hty:typeOf (.builtin id)=pure (.type "method_descriptor"))(hm:ę X id r)(ho:PE X o to)(ha:PA X (e::es) t)(hbase:↥(attributeBase o name X.env (eval o X.env)=eval o X.env))(hfew:↥(((backTo cpos (starEach (e::es) X.env)).all (λx=>!x.1) && (backToKw cpos (keywordEach [] X.env)).all (λx=>x.1.isSome)
   && decide ((e::es).length+([]:List Keyword).length+(if ([]:List Keyword).isEmpty then 0 else 1)<30))=true))(hline:↥((apos.endLine == cpos.line)=true))(hs:↥(Zse e es X.env))(hplain:↥(Zbt cpos es X.env)):
  PE X (.Call (.Attribute o name apos) (e::es) [] cpos) (Λ X.K T r to t):=by
 intro À s σ H Q I h;refine wpAny_Call_method_late hbase hfew hline rfl (cY (ho À s σ H _ I h) λv s1 zQ=>?_);let⟨x,H1,I1,r1,ty,q1⟩:=zQ;let⟨h1,h2⟩:=TM I1 r1 ty;refine⟨T,id,pa,slot,hty,h1,h2,?_⟩;have hA:=ha cpos À s1 σ H1 _ I1 q1;rw[hs]at hA⊢;refine Calls.callWith_builtin (by show (false || (backTo cpos (starEach es X.env)).any (·.1))=false;rw[hplain]<;>rfl) (Calls.evalArgs_plain ?_)
 exact cY hA λus s2 zQ=>by let⟨vs,H2,I2,r2,q2⟩:=zQ;exact hm À s2 σ H2 x vs v us Q I2 r1 r2 q2
end
def Ł(X:Cx)(id:String)(r:V->List V->Hp->VK->Prop):Prop:=
 ∀(À:ZB)(s:Shared)(σ:St)(H:Hp)(x:V)(xs:List V)(v:Value)(us:ZJ)(Q:VK),Inv X À σ H s->bI x v->bJ xs us->r x xs H Q ->
  wpAny 'b' X.A (call (.builtin id) (v::us)) (EP X À σ Q) X.xe s
def bJ.one:∀{x:V}{us:ZJ},bJ [x] us->∃u,us=[u]/\bI x u:=λh=>pU h
def bJ.zero:∀{us:ZJ},bJ [] us->us=[]
 |_,.nil=>rfl
def bJ.dropLast(h:bJ xs us):bJ xs.dropLast us.dropLast:=by
 induction h with
 |nil=>exact .nil
 |cons r t ih=>
  cases t with
  |nil=>exact .nil
  |cons q t'=>exact .cons r ih
def K5{α:Type}(l:List α):l.eraseIdx (l.length-1)=l.dropLast:=by
 grind
section
variable {X:Cx}{À:ZB}{σ:St}{H:Hp}{s:Shared}{l:Addr}{xs ys:List V}
def Inv.lset{its its':ZJ}{n:Nat}{f:Array Value->Array Value}{t':Nat}(I:Inv X À σ H s)(hH:H l=some (.lst xs))(e:s.heap.get? l=some {cls:=.type "list",data:=.seq its.toArray n})(hf:f its.toArray=its'.toArray)(hv:bJ ys its')(hz:ys.length<=sizeLine):
  Inv X À σ (aY H l (.lst ys)) {s with heap:=s.heap.update l (Obj.mapSeq f),toks:=t'}:=by
 have q:=PySem.IsL.update e f;rw[hf]at q;refine I.write (x:=l) (e:=l) (by rw[hH];exact trivial) (.inl rfl) (λb' u hb hu=>(Heap.get?_update_other s.heap (Obj.mapSeq f) (Í hb)).trans hu) ⟨_,q⟩ ?_;exact⟨hz,its',_,hv,q⟩
def Inv.lnew(I:Inv X À σ H s)(hv:bJ ys its)(hz:ys.length<=sizeLine):
  Inv X À σ (aY H s.heap.objs.size (.lst ys)) {s with heap:=s.heap.push {cls:=.type "list",data:=.seq its.toArray},toks:=t'}:=
 I.laid (λ_ _ q=>Heap.get?_push_of_some _ q) (È _) ⟨hz,its,0,hv,Heap.get?_push_size _ rfl⟩
def Inv.fresh(I:Inv X À σ H s):H s.heap.objs.size=none:=I.hok.fresh (È _)
def Inv.lstM(I:Inv X À σ H s)(hH:H l=some (.lst xs)):xs.length<=sizeLine/\∃(its:ZJ)(n:Nat),bJ xs its/\xs.length=its.length/\s.heap.get? l=some {cls:=.type "list",data:=.seq its.toArray n}:=by
 let⟨z,its,n,r,e⟩:=I.hok l _ hH;exact⟨z,its,n,r,r.length,e⟩
def TQ(h:n<=sizeLine):Builtin.List.listTooLong n=false:=by
 unfold Builtin.List.listTooLong
 grind
end
section
def M0:V->List V->Hp->VK->Prop:=λx vs H Q=>∃l xs y,x=.ref l/\vs=[y]/\H l=some (.lst xs)/\xs.length<sizeLine/\Q .non (aY H l (.lst (xs++[y])))
def oN:Ł X "list.append" M0:=by
 intro À s σ H x vs v us Q I rx rv h;let⟨l,xs,y,rfl,rfl,hH,hz,q⟩:=h;cases rx;let⟨u,rfl,ru⟩:=rv.one;let⟨z,its,n,r,hl,e⟩:=I.lstM hH;refine call_meets F.slot_list_append ⟨_,e,rfl⟩ F.entry_list_append (F.args_list_append_2 _ _) (PySem.list_append l its.toArray n u (by rw[è];lia)) ⟨e,?_⟩;refine⟨.non,_,I.lset (its':=its++[u]) hH e 'f' (r.append (.cons ru .nil)) ?_,rfl,q⟩;rw[Ò,í];assumption
def Μ:V->List V->Hp->VK->Prop:=λx vs H Q=>∃l xs y,x=.ref l/\vs=[]/\H l=some (.lst xs)/\xs[xs.length-1]?=some y/\Q y (aY H l (.lst xs.dropLast))
def TR:Ł X "list.pop" Μ:=by
 intro À s σ H x vs v us Q I rx rv h;let⟨l,xs,y,rfl,rfl,hH,hy,q⟩:=h;cases rx;have hus:=rv.zero;subst hus;let⟨z,its,n,r,hl,e⟩:=I.lstM hH;let⟨u,hu,ru⟩:=r.get hy;have hy':its.toArray[its.toArray.size-1]?=some u:=by
  show its.toArray[its.length-1]?=some u;rw[<- Array.getElem?_toList,<- hl];exact hu
 refine call_meets F.slot_list_pop ⟨_,e,rfl⟩ F.entry_list_pop (F.args_list_pop_1 _) (MeetsSeq.list_pop_last l its.toArray n u hy' (by rw[è];lia)) ⟨e,?_⟩;refine⟨y,_,I.lset (its':=its.dropLast) hH e ?_ r.dropLast ?_,ru,q⟩
 .show its.toArray.eraseIdxIfInBounds (its.toArray.size-1)=its.dropLast.toArray
  rw[è,List.eraseIdxIfInBounds_toArray,K5]
 .rw[List.length_dropLast]
  lia
def aGT:V->List V->Hp->VK->Prop:=λx vs H Q=>∃l xs,x=.ref l/\vs=[]/\H l=some (.lst xs)/\Q .non (aY H l (.lst []))
def GU:Ł X "list.clear" aGT:=by
 intro À s σ H x vs v us Q I rx rv h;let⟨l,xs,rfl,rfl,hH,q⟩:=h;cases rx;have hus:=rv.zero;subst hus;let⟨z,its,n,r,hl,e⟩:=I.lstM hH;refine call_meets F.slot_list_clear ⟨_,e,rfl⟩ F.entry_list_clear (F.args_list_clear_1 _) (AutoSeq1.list_clear_list_0 l its.toArray n (by rw[è];lia)) ⟨e,?_⟩;exact⟨.non,_,I.lset (its':=[]) (ys:=[]) hH e rfl .nil (ò _),rfl,q⟩
end
section
end
section
end
end L2
namespace Att
open PySem PySem.W PySem.Calls PyProof.Rows
def wD :∀(ns:ZK)(vs:ZJ),WellAll P h vs (ns.map WData.int)->IntsAre vs ns:=by
 intro ns
 induction ns with
 |nil=>
  intro vs w;rw[List.map_nil]at w;cases w;exact .nil
 |cons n ns ih=>
  intro vs w;rw[Ð]at w;cases w with
  |cons a b=>
   cases a;exact .cons _ _ (ih _ b)
def P9{l:OpenLaw}(hn:l.most=some n){vals:ZJ}(hpre:l.row.toRowW.claim.pre args=true)(hwl:WellAll P h vals args):
  ∃a vs ns,vals=[Value.ref a]/\args=[WData.list (ns.map WData.int)]/\h.get? a=some {cls:=.type "list",data:=.seq vs.toArray}/\IntsAre vs ns/\ns.length<=n:=by
 have hsh:WShape.hasAll [] args [.list .int]=true:=(pre_splitW hpre).1;have hc:l.pre.holds [] {args:=args}=true:=(pre_splitW hpre).2;let⟨d,r,rfl,h1,h2⟩:=hasAllW_cons hsh;obtain rfl:=hasAllW_nil h2;let⟨xs,rfl,h3⟩:=hasW_list h1;let⟨ns,rfl⟩:=items_int h3;have hlen:ns.length<=n:=by
  unfold OpenLaw.pre at hc;have h4:(WTm.not (.lt (.lit (.int (n:Int))) (.len (.arg 0)))).holds [] {args:=[.list (ns.map .int)]}=true:=by
   have h4:=(holds_andW hc).1;rw[hn]at h4;exact h4
  have h5:=condW_of h4 (w_not (w_lt w_lit (w_len_list (w_arg rfl))));rw[Æ]at h5;refine Nat.le_of_not_lt λq=>?_;have q':(n:Int)<((ns.length:Nat):Int):=by lia
  first
   |grind
   |(simp at h5;lia)
 cases hwl with
 |cons w1 w2=>
  cases w2;cases w1 with
  |list ho hall=>exact⟨_,_,ns,rfl,rfl,ho,wD ns _ hall,hlen⟩
def QA(l:OpenLaw)(args:List WData):l.row.toRowW.claim.post args 'l' args=true:=
 postW_of (r:=l.row.toRowW) (X:=(true == true))
  (show WShape.has [] 'l' .bool=true by first|rfl|decide|simp[WShape.has,WShape.arms,WShape.armsAll])
  (show (WTm.eq .res (.lit 'l')).value [] {args:=args,res:=some 'l',after:=args}=some (.bool (true == true))from w_eq_bool (w_res rfl) w_lit) rfl
def attach_call{l:OpenLaw}{n:Nat}{q:Program}{loose:ZG}{XP:(ZD)->Heap->Prop}{YP:World->Heap->Prop}{d:DefRec}(hn:l.most=some n)(hdf:d.params.defaults=[])(call:∀(w:World)(s₀ s₁:Shared)(mg mb:ZD)(fa:Addr)(o:Obj)(pm cd doc:Value)(a:Addr)(vs:ZJ)(ns:ZK),
   Ground q loose [] XP w s₀ mg mb s₁.heap->YP w s₁.heap ->
   s₁.heap.get? fa=some o->o.data=.func (docDef d.name d.params d.body d.scope pm cd doc)->s₁.heap.CodeRec cd d.name->mg d.name=some (.ref fa) ->
   s₁.heap.get? a=some {cls:=.type "list",data:=.seq vs.toArray}->IntsAre vs ns->ns.length<=n->s₁.gens=#[] ->
   codeAny (model l.prog w) callerA (.call (.ref fa) ⟨[.ref a],[]⟩) (λr s'=>r=.ok (.ret 'l')/\OldK s₁.heap s'.heap/\s'.os=s₁.os/\AllBare s'.gens) s₁):
  WalkO q loose XP YP l.row.toRowW d [] (λf vs=>PySem.call f vs):=by
 intro w s₀ s₁ mg mb G Y fa o pm cd doc dV kV ho hd hcd hD hmg hg args vals as hpre hlay hrd hwl hlo;obtain rfl:dV=.none:=Dflts.none hD hdf;obtain rfl:kV=.none:=Dflts.noKw hD;let⟨a,vs,ns,rfl,rfl,hobj,hints,hlen⟩:=P9 hn hpre hwl;refine enter_call (codeAny_mono (call w s₀ s₁ mg mb fa o pm cd doc a vs ns G Y ho (fd_plain hd) hcd hmg hobj hints hlen hg) λr s' hq=>?_);let⟨rfl,h2,h3,h4⟩:=hq;exact⟨.inl ⟨.bool true,.bool true,[],rfl,λ_=>rfl,.bool true,QA l _,λ_=>⟨List.Pairwise.nil,λ_ hm=>(nomatch hm)⟩⟩,h2,h3,h4⟩
section
end
end Att
namespace L2
open PySem PySem.Spec PyProof.Rows
def BM:∀{vs:ZJ}{ns:ZK},IntsAre vs ns->bJ (ns.map V.int) vs
 |_,_,.nil=>.nil
 |_,_,.cons n t h=>.cons ⟨t,rfl⟩ (BM h)
def jN(s:Stmt):Arguments:=match s with
 |.FunctionDef _ a _ _ _ _ _ _ _ _=>a
 |_=>{posonlyargs:=[],args:=[],vararg:=none,kwonlyargs:=[],kw_defaults:=[],kwarg:=none,defaults:=[]}
def dG(s:Stmt):(List Stmt):=match s with
 |.FunctionDef _ _ b _ _ _ _ _ _ _=>b
 |_=>[]
def bA(s:Stmt):Scope:=match s with
 |.FunctionDef _ _ _ _ _ _ sc _ _ _=>sc
 |_=>{kind:=.function,names:=[],isGenerator:=false,isCoroutine:=false}
structure SM(K:ZC)(x qual:Str)(st:Stmt)(f:Addr)(fd:FuncData):Prop where
 ex:∃(oc:Value)(od:Option Addr)(kV doc pm:Value)(an:Option Addr)(cdv ct:Value)(osl:Array (ZN)),
  fd=W.fnOf x qual (jN st) (dG st) (bA st) .none kV doc pm an cdv ct/\K.lookup f=some ⟨oc,od,.func fd,osl⟩/\W.codeIn K cdv qual=true
 kp:W.keepIn K (.ref f)=true
section
variable {K:ZC}
def SM.binds{st:Stmt}(F:SM K x qual st f fd)(h:∀(kV doc pm:Value)(an:Option Addr)(cdv ct:Value)(us:ZJ),us.length=ps.length->bindArgs (W.fnOf x qual (jN st) (dG st) (bA st) .none kV doc pm an cdv ct) ⟨us,[]⟩=pure (ps.zip us)):pV K fd ps []:=by
 let⟨oc,od,kV,doc,pm,an,cdv,ct,osl,rfl,lk,hcd⟩:=F.ex;exact .all (h kV doc pm an cdv ct)
def w9{st:Stmt}{kV doc pm cdv ct:Value}(l:K.lookup f=some ⟨oc,od,.func (W.fnOf x qual (jN st) (dG st) (bA st) .none kV doc pm an cdv ct),osl⟩)(c:W.codeIn K cdv qual=true)(k:W.keepIn K (.ref f)=true):SM K x qual st f (W.fnOf x qual (jN st) (dG st) (bA st) .none kV doc pm an cdv ct):=⟨⟨oc,od,kV,doc,pm,an,cdv,ct,osl,rfl,l,c⟩,k⟩
end
section
variable {X:Cx}
def pv(i:Nat){pos:Pos}(hN:↥'q')(hv:#v[AR X.env.scope x])(hd:⇑(Zdb x))(hcd:⇑(Zcd x)):PE X (.Name x pos) (SV i):=dM hN hv hd hcd
end
def aM(H H':Hp):Prop:=∀b o,H b=some o->H' b=some o
def aM.refl(H:Hp):aM H H:=λ_ _ h=>h
def aM.seq{K:ZC}(e:aM H H')(h:eV K H a xs):eV K H' a xs:=by
 rcases h with (h|⟨o,h⟩)|h
 .exact .inl (.inl (e _ _ h))
 .exact .inl (.inr ⟨o,e _ _ h⟩)
 .exact .inr h
def TU:bootBuiltins "len"=some (.builtin "len"):=by decide +kernel
def DP:bootBuiltins "abs"=some (.builtin "abs"):=by decide +kernel
def pW:bootBuiltins "isinstance"=some (.builtin "isinstance"):=by decide +kernel
def aGU:bootBuiltins "all"=some (.builtin "all"):=by decide +kernel
def gS:bootBuiltins "list"=some (.type "list"):=by decide +kernel
def xA:bootBuiltins "tuple"=some (.type "tuple"):=by decide +kernel
def DQ:bootBuiltins "str"=some (.type "str"):=by decide +kernel
def aGV:bootBuiltins "int"=some (.type "int"):=by decide +kernel
def aAV:bootBuiltins "bool"=some (.type "bool"):=by decide +kernel
def bZ(n:Nat)(x:Int):Prop:=x.natAbs<2^n
def bZ.le(h:bZ n y)(e:x.natAbs<=y.natAbs):bZ n x:=û e h
def bZ.mono(h:bZ m x)(e:m<=n):bZ n x:=Ô h (Nat.pow_le_pow_right ⋯ e)
def bZ.neg(h:bZ n x):bZ n (-x):=h.le ∅
def bZ.add(h:bZ m x)(g:bZ n y)(e:max m n+1<=k):bZ k (x+y):=by
 have a:bZ (max m n) x:=h.mono (Nat.le_max_left ..);have b:bZ (max m n) y:=g.mono (Nat.le_max_right ..);have c:2^(max m n+1)=2^max m n+2^max m n:=by rw[Nat.pow_succ];lia
 have d:(x+y).natAbs<2^(max m n+1):=by
  rw[c];have:=Int.natAbs_add_le x y;unfold bZ at a b;lia
 exact bZ.mono (m:=max m n+1) d e
def bZ.sub(h:bZ m x)(g:bZ n y)(e:max m n+1<=k):bZ k (x-y):=by
 rw[Int.sub_eq_add_neg];exact h.add g.neg e
def bZ.mul(h:bZ m x)(g:bZ n y)(e:m+n<=k):bZ k (x*y):=by
 have d:(x*y).natAbs<2^(m+n):=by
  rw[ą,Nat.pow_add];exact Nat.mul_lt_mul'' h g
 exact bZ.mono (m:=m+n) d e
def bZ.div(h:bZ n x):bZ n (x/y):=h.le (Int.natAbs_ediv_le_natAbs x y)
def bZ.fdiv(h:bZ n x):bZ n (x.fdiv y):=intBits_le_iff.mp (intBits_fdiv_le (intBits_le_iff.mpr h))
def bZ.mulOk(h:bZ m x)(g:bZ n y)(e:⇑(m+n<=134217728)):IntMulOk x y:=.of_le (intBits_le_iff.mpr h) (intBits_le_iff.mpr g) e
def bZ.log2(h:bZ n x)(e:⇑(n<=9000)):x.natAbs.log2<9000:=by
 by_cases h0:x.natAbs=0
 .rw[h0];decide
 .exact Ô ((Nat.log2_lt h0).mpr h) e
def aKT(h1:-(2^64)<i)(h2:i<2^64):IntMulOk i j:=.of_left (intBits_le_64 h1 h2)
def aKU(h1:-(2^64)<j)(h2:j<2^64):IntMulOk i j:=.of_right (intBits_le_64 h1 h2)
section
def aAW:iU X (binaryOp .Mult) (rI IntMulOk λi j=>.int (i*j)):=ļ λ_ _ _ _ _ _ _ hc q=>mul_int q hc
def Ν(_ j:Int):Prop:=j≠0/\j.natAbs.log2<9000
def TV:iU X (binaryOp .FloorDiv) (rI Ν λi j=>.int (i.fdiv j)):=ļ λ_ _ _ _ _ _ _ hc q=>floordiv_int hc.1 q (.inl (PyProof.noPylong_of_log2 hc.2))
def m6:iU X (compareOp .Is) (λx y H Q=>∃c d,x=.bl c/\y=.bl d/\Q (.bl (c == d)) H):=by
 sleep 6;let⟨c,d,rfl,rfl,q⟩:=h;cases rx;cases ry;exact is_bool (m4 I q rfl)
def aAX:iU X (compareOp .IsNot) (λx y H Q=>∃c d,x=.bl c/\y=.bl d/\Q (.bl (c != d)) H):=by
 sleep 6;let⟨c,d,rfl,rfl,q⟩:=h;cases rx;cases ry;exact isnot_bool (m4 I q rfl)
def TW{pos:Pos}(hg:Gl X x)(hm:X.mg x=none)(hv:bootBuiltins x=some (.type n))(hn:⇑(x≠"__name__"))(hd:⇑(Zdb x)):PE X (.Name x pos) (tC (.ty n)):=aAD (v:=.ty n) hg hm hv rfl hn hd
end
def GH:eA->PyData
 |.inl i=>.int i
 |.inr x=>.str x
def aKV(K:ZC)(H:Hp)(a:Addr)(ks:List PyData)(xs:List V):Prop:=
 ∃(nm:Str)(fs:ZG)(C dx:Addr)(vs:List V),xs=.str nm::vs/\ks=.none::fs.map PyData.str/\fs.length=vs.length/\H a=some (.ins C dx (fs.zip vs))/\H dx=some (.own a)/\W.nsIn K mainGlobals nm=some (some (.ref C))
def aKW(H:Hp)(a:Addr)(ks:List PyData)(xs:List V):Prop:=∃(ms:List eA),ks=ms.map GH/\ms.length=xs.length/\H a=some (.dK (ms.zip xs))
mutual
def bG(K:ZC)(H:Hp):PyData->V->Prop
 |.none,v=>v=.non
 |.bool b,v=>v=.bl b
 |.int i,v=>v=.int i
 |.str x,v=>v=.str x
 |.list ds,v=>∃(a:Addr)(xs:List V),v=.ref a/\eV K H a xs/\aE K H ds xs
 |.tuple ds,v=>∃(a:Addr)(xs:List V),v=.ref a/\rO K H a xs/\aE K H ds xs
 |.dict Á,v=>∃(a:Addr)(xs:List V),v=.ref a/\(aKV K H a (Á.map Prod.fst) xs\/aKW H a (Á.map Prod.fst) xs)/\iE K H Á xs
def aE(K:ZC)(H:Hp):List PyData->List V->Prop
 |[],xs=>xs=[]
 |d::ds,xs=>∃(x:V)(r:List V),xs=x::r/\bG K H d x/\aE K H ds r
def iE(K:ZC)(H:Hp):List (PyData×PyData)->List V->Prop
 |[],xs=>xs=[]
 |(_,d)::ds,xs=>∃(x:V)(r:List V),xs=x::r/\bG K H d x/\iE K H ds r
end
section
mutual
def bG.reads(I:Inv X À σ H s):∀(d:PyData)(v:V)(u:Value),d.canLay0=true->bG X.K H d v->bI v u->∃as,Reads s.heap u d as
 |.none,v,u,_,h,r=>by
  unfold bG at h;subst h;cases (show u=Value.none from r);exact⟨_,.none⟩
 |.bool b,v,u,_,h,r=>by
  unfold bG at h;subst h;cases (show u=Value.bool b from r);exact⟨_,.bool b⟩
 |.int i,v,u,_,h,r=>by
  unfold bG at h;subst h;let⟨t,rfl⟩:=(show ∃t,u=Value.int i t from r);exact⟨_,.int i t⟩
 |.str x,v,u,_,h,r=>by
  unfold bG at h;subst h;let⟨t,rfl⟩:=(show ∃t,u=Value.str x t from r);exact⟨_,.str x t⟩
 |.list ds,v,u,l,h,r=>by
  unfold bG at h;let⟨a,xs,rfl,hs,ha⟩:=h;cases (show u=Value.ref a from r);let⟨its,rv,p,_⟩:=I.list hs;let⟨as,q⟩:=aE.reads I ds xs its (by simpa[PyData.canLay0]using l) ha rv;let⟨o,ho,hc,n,hd⟩:=p.isList;exact⟨_,.list ho hc hd (by simpa using q)⟩
 |.tuple ds,v,u,l,h,r=>by
  unfold bG at h;let⟨a,xs,rfl,hs,ha⟩:=h;cases (show u=Value.ref a from r);let⟨its,rv,p,_⟩:=I.tuple hs;let⟨as,q⟩:=aE.reads I ds xs its (by simpa[PyData.canLay0]using l) ha rv;let⟨o,ho,hc,n,hd⟩:=p;exact⟨_,.tuple ho hc hd (by simpa using q)⟩
 |.dict _,v,u,l,h,r=>by
  simp[PyData.canLay0]at l
def aE.reads(I:Inv X À σ H s):∀(ds:List PyData)(xs:List V)(us:ZJ),PyData.canLayAll0 ds=true->aE X.K H ds xs->bJ xs us->∃as,ReadsAll s.heap us ds as
 |[],xs,us,_,h,r=>by
  unfold aE at h;subst h;cases r;exact⟨_,.nil⟩
 |d::ds,xs,us,l,h,r=>by
  unfold aE at h;let⟨x,t,rfl,hx,ht⟩:=h;simp![PyData.canLayAll0,æ]at l;cases r with
  |cons rx rt=>
   let⟨as,p⟩:=bG.reads I d x _ l.1 hx rx;let⟨bs,q⟩:=aE.reads I ds t _ l.2 ht rt;exact⟨_,.cons p q⟩
end
end
def gE(h:SeqAt.shaped d=true):d.canLay0=true:=by
 unfold SeqAt.shaped at h;rw[æ]at h;exact h.1
section
def j9(hu:X.A.units+64<cLine):iU X (compareOp .Eq) (λx y H Q=>∃d e,bG X.K H d x/\bG X.K H e y/\SeqAt.shaped d=true/\SeqAt.shaped e=true/\Q (.bl (PyData.eqv d e)) H):=by
 sleep 6;let⟨d,e,hd,he,sd,se,q⟩:=h;let⟨as,ra⟩:=bG.reads I d x v (gE sd) hd rx;let⟨bs,rb⟩:=bG.reads I e y u (gE se) he ry;exact SeqAt.compareEq_shaped ra rb sd se hu (m4 I q rfl)
def qK(hu:X.A.units+64<cLine):iU X (compareOp .NotEq) (λx y H Q=>∃d e,bG X.K H d x/\bG X.K H e y/\SeqAt.shaped d=true/\SeqAt.shaped e=true/\Q (.bl (!PyData.eqv d e)) H):=by
 sleep 6;let⟨d,e,hd,he,sd,se,q⟩:=h;let⟨as,ra⟩:=bG.reads I d x v (gE sd) hd rx;let⟨bs,rb⟩:=bG.reads I e y u (gE se) he ry;exact SeqAt.compareNe_reads ra rb (SeqAt.canLay_of_shaped sd) (SeqAt.canLay_of_shaped se) (SeqAt.room_of_shaped sd hu) (m4 I q rfl)
end
def cI{H:Hp}{p:Addr}(h:H p=none)(o:HO):aM H (aY H p o):=λb u q=>by rw[aH (bL q h)];exact q
def aM.seqT{K:ZC}(e:aM H H')(h:rO K H a xs):rO K H' a xs:=by
 rcases h with (h|⟨o,h⟩)|h
 .exact .inl (.inl (e _ _ h))
 .exact .inl (.inr ⟨o,e _ _ h⟩)
 .exact .inr h
mutual
def aM.rep{K:ZC}{H H':Hp}(e:aM H H'):∀(d:PyData)(v:V),bG K H d v->bG K H' d v
 |.none,v,h=>by unfold bG at h⊢;exact h
 |.bool b,v,h=>by unfold bG at h⊢;exact h
 |.int i,v,h=>by unfold bG at h⊢;exact h
 |.str x,v,h=>by unfold bG at h⊢;exact h
 |.list ds,v,h=>by
  unfold bG at h⊢;let⟨a,xs,rfl,hs,ha⟩:=h;exact⟨a,xs,rfl,e.seq hs,aM.repAll e ds xs ha⟩
 |.tuple ds,v,h=>by
  unfold bG at h⊢;let⟨a,xs,rfl,hs,ha⟩:=h;exact⟨a,xs,rfl,e.seqT hs,aM.repAll e ds xs ha⟩
 |.dict Á,v,h=>by
  unfold bG at h⊢;let⟨a,xs,rfl,hs,ha⟩:=h;refine⟨a,xs,rfl,?_,aM.repKV e Á xs ha⟩;rcases hs with ⟨nm,fs,C,dx,vs,h1,h2,h3,h4,h5,h6⟩|⟨ms,h1,h2,h3⟩
  .exact .inl ⟨nm,fs,C,dx,vs,h1,h2,h3,e _ _ h4,e _ _ h5,h6⟩
  .exact .inr ⟨ms,h1,h2,e _ _ h3⟩
def aM.repAll{K:ZC}{H H':Hp}(e:aM H H'):∀(ds:List PyData)(xs:List V),aE K H ds xs->aE K H' ds xs
 |[],xs,h=>by unfold aE at h⊢;exact h
 |d::ds,xs,h=>by
  unfold aE at h⊢;let⟨x,t,rfl,hx,ht⟩:=h;exact⟨x,t,rfl,aM.rep e d x hx,aM.repAll e ds t ht⟩
def aM.repKV{K:ZC}{H H':Hp}(e:aM H H'):∀(ds:List (PyData×PyData))(xs:List V),iE K H ds xs->iE K H' ds xs
 |[],xs,h=>by unfold iE at h⊢;exact h
 |(_,d)::ds,xs,h=>by
  unfold iE at h⊢;let⟨x,t,rfl,hx,ht⟩:=h;exact⟨x,t,rfl,aM.rep e d x hx,aM.repKV e ds t ht⟩
end
def xB{K:ZC}:∀{ks ds:List PyData}{xs:List V},ks.length=ds.length->aE K H ds xs->iE K H (ks.zip ds) xs
 |[],[],xs,_,h=>by unfold aE at h;unfold List.zip List.zipWith iE;exact h
 |k::ks,d::ds,xs,l,h=>by
  unfold aE at h;let⟨x,t,rfl,hx,ht⟩:=h;rw[á];unfold iE;exact⟨x,t,rfl,hx,xB (by simpa using l) ht⟩
def iE.all{K:ZC}:∀{Á:List (PyData×PyData)}{xs:List V},iE K H Á xs->aE K H (Á.map Prod.snd) xs
 |[],xs,h=>by unfold iE at h;unfold List.map aE;exact h
 |(_,d)::ds,xs,h=>by
  unfold iE at h;let⟨x,t,rfl,hx,ht⟩:=h;rw[Ð];unfold aE;exact⟨x,t,rfl,hx,iE.all ht⟩
def aPW(h:0<=j)(h1:j<=1000000)(h2:i.natAbs<2^64):Ľ i j:=⟨h,h1,h2⟩
def KH(t b x:Int):Int:=if b<0 then -(x/(Int.gcd t b:Int))else x/(Int.gcd t b:Int)
def xC:Int.gcd b (a % b)=Int.gcd a b:=by
 rw[Int.emod_def,Int.gcd_sub_mul_left_right,Int.gcd_comm]
def kR(d:(Int.gcd t b:Int)∣x):x.fdiv (if b<0 then -(Int.gcd t b:Int)else (Int.gcd t b:Int))=KH t b x:=by
 unfold KH;split
 .rw[Int.fdiv_eq_ediv_of_dvd ((Int.neg_dvd).mpr d),Int.ediv_neg]
 .rw[Int.fdiv_eq_ediv_of_dvd d]
def M1(h:b≠0):0<KH t b b:=by
 unfold KH;split
 .have:=Int.ediv_pos_of_pos_of_dvd (a:=-b) (b:=(Int.gcd t b:Int)) ∅ (Int.natCast_nonneg _) (Int.dvd_neg.mpr (Int.gcd_dvd_right t b))
  rw[Int.neg_ediv_of_dvd (Int.gcd_dvd_right t b)]at this;exact this
 .exact Int.ediv_pos_of_pos_of_dvd ∅ (Int.natCast_nonneg _) (Int.gcd_dvd_right t b)
def aKX{g t b:Int}(h1:g∣t)(h2:g∣b):t/g*b=t*(b/g):=by
 conv=>lhs;rw[<- Int.ediv_mul_cancel h2,Int.mul_comm (b/g) g,<- Int.mul_assoc,Int.ediv_mul_cancel h1]
def BN(t b:Int):KH t b t*b=t*KH t b b:=by
 have c:=aKX (Int.gcd_dvd_left t b) (Int.gcd_dvd_right t b);unfold KH
 grind
def aAY(h:b≠0):Int.gcd (KH t b t) (KH t b b)=1:=by
 have g:=Int.gcd_ediv_gcd_ediv_gcd_of_ne_zero_right (n:=t) h;unfold KH;split
 all_goals simp_all
end L2
set_option maxRecDepth 100000
set_option maxHeartbeats 4000000
namespace L2
open PySem PySem.Spec PyProof.Rows
def gC(cells:List (Str×Addr)):List (Str×NameKind)->List (Str×Addr)->List (Str×Addr)
 |[],acc=>acc
 |(n,k)::r,acc=>if k == .free then (match cells.lookup n with|some a=>gC cells r ((n,a)::acc)|none=>gC cells r acc)else gC cells r acc
def freeIn(cells:List (Str×Addr))(names:List (Str×NameKind)):Prop:=∀n,(n,NameKind.free)∈names->∃c,cells.lookup n=some c
def uC :∀(names:List (Str×NameKind))(acc:List (Str×Addr)),freeIn env.cells names ->
  (forIn names acc λ(x:Str×NameKind)(cs:List (Str×Addr))=>(if x.2 == .free then do let c <- cellOf env x.1;pure (ForInStep.yield ((x.1,c)::cs))else pure (ForInStep.yield cs):Sem (ForInStep (List (Str×Addr)))))=pure (gC env.cells names acc)
 |[],acc,_=>by rfl
 |(n,k)::r,acc,h=>by
  have hr:freeIn env.cells r:=λm hm=>h m (Ó _ hm);rw[List.forIn_cons];unfold gC;cases hk:k == NameKind.free with
  |false=>
   rw[Ä (by simp[hk]),Ä 'f'];exact uC r acc hr
  |true=>
   rw[Â (by simp[hk]),Â rfl];have e:k=.free:=by cases k<;>first|rfl|exact absurd hk ⋯
   let⟨c,hc⟩:=h n (by rw[e];exact Õ);rw[hc];have e2:cellOf env n=pure c:=by unfold cellOf;rw[hc]
   rw[show cellOf env (n,k).1=pure c from e2];exact uC r ((n,c)::acc) hr
def M3(h:freeIn env.cells scope.names):closureFor scope env=pure (gC env.cells scope.names []):=by
 have e:=uC (env:=env) scope.names [] h;unfold closureFor;exact(congrArg (λm=>m >>= λcs=>(pure cs:Sem (List (Str×Addr)))) e).trans rfl
def oO :∀(names:List (Str×NameKind))(acc:List (Str×Addr)),(∀n c,(n,c)∈acc->cells.lookup n=some c)->(n,c)∈gC cells names acc->cells.lookup n=some c
 |[],acc,ha,h=>ha _ _ h
 |(m,k)::r,acc,ha,h=>by
  unfold gC at h;split at h
  .split at h
   .rename_i a hm
    refine oO r _ (λn' c' hn=>?_) h;rcases Ï.mp hn with e|hn
    .cases e;exact hm
    .exact ha _ _ hn
   .exact oO r _ ha h
  .exact oO r _ ha h
def rX{scope:Scope}(h:(gC cells scope.names []).lookup n=some c):cells.lookup n=some c:=
 oO scope.names [] (λ_ _ h=>absurd h 'f') (þ h)
def oP :∀(names:List (Str×NameKind))(acc:List (Str×Addr)),(n,c)∈acc->(n,c)∈gC cells names acc
 |[],_,h=>h
 |(m,k)::r,acc,h=>by
  unfold gC;split
  .split
   .exact oP r _ (Ó _ h)
   .exact oP r _ h
  .exact oP r _ h
def rY(hc:cells.lookup n=some c):∀(names:List (Str×NameKind))(acc:List (Str×Addr)),(n,NameKind.free)∈names->(n,c)∈gC cells names acc
 |(m,k)::r,acc,h=>by
  unfold gC;rcases Ï.mp h with e|h
  .cases e
   rw[Â ⋯,hc];exact oP r _ Õ
  .split
   .split
    .exact rY hc r _ h
    .exact rY hc r _ h
   .exact rY hc r _ h
def pX{α:Type}{c:α}:∀{l:List (Str×α)},(n,c)∈l->∃d,l.lookup n=some d
 |(m,d)::r,h=>by
  rw[å];cases e:n == m with
  |true=>exact⟨d,rfl⟩
  |false=>
   rcases Ï.mp h with q|q
   .cases q;simp at e
   .exact pX q
def xD{scope:Scope}(h:scope.names.lookup n=some .free)(hc:cells.lookup n=some c):(gC cells scope.names []).lookup n=some c:=by
 let⟨d,hd⟩:=pX (rY hc scope.names [] (þ h));have:=rX hd;rw[hc]at this;cases this;exact hd
def lQ:(relabel scope env).names.lookup x=(scope.names.lookup x).map λk=>if (k == .free && env.scope.kind == .function && env.kindOf x == some .cell)then .cell else k:=by
 unfold relabel;show List.lookup x (scope.names.map _)=_
 induction scope.names with
 |nil=>rfl
 |cons p r ih=>
  let⟨n,k⟩:=p;show List.lookup x ((if (k == NameKind.free && env.scope.kind == .function && env.kindOf n == some .cell)=true then (n,NameKind.cell)else (n,k))::_)=_;cases hx:x == n with
  |true=>
   have e:x=n:=by simpa using hx
   subst e;cases hc:(k == NameKind.free && env.scope.kind == .function && env.kindOf x == some .cell)with
   |true=>rw[Â rfl,å,å];simp![beq_self_eq_true,Option.map_some,hc,if_true]
   |false=>rw[Ä 'f',å,å];simp![beq_self_eq_true,Option.map_some,hc];rfl
  |false=>
   have e:∀k',List.lookup x ((n,k')::(r.map λ(n,k)=>if (k == NameKind.free && env.scope.kind == .function && env.kindOf n == some .cell)=true then (n,NameKind.cell)else (n,k)))=List.lookup x (r.map λ(n,k)=>if (k == NameKind.free && env.scope.kind == .function && env.kindOf n == some .cell)=true then (n,NameKind.cell)else (n,k)):=λk'=>by rw[å,hx]
   have e2:List.lookup x ((n,k)::r)=List.lookup x r:=by rw[å,hx]
   rw[e2,<- ih];split<;>exact e _
def m7(xs N:ZG):ZG:=N.map λn=>if xs.contains n then (".":Str)++n else n
def eJ(N xs:ZG)(names onames:List (Str×NameKind)):Bool:=
 (names.all λp=>p.2 != .cell) && (names.all λp=>p.2 != .local || names.lookup p.1 == some .local) && (names.all λp=>p.2 != .free || (onames.lookup p.1 == some .cell || onames.lookup p.1 == some .free)) &&
  xs.all (λx=>names.lookup x == some .local) && ((m7 xs N).zip N).all λp=>names.lookup p.1 == none || names.lookup p.1 == some .globalImplicit || (names.lookup p.1 == some .free && p.1 == p.2)
abbrev aV(X:Cx)(xs:ZG)(scope:Scope)(C:Addr)(fp:ZM)(s:Shared)(H:Hp):Cx:=
 {X with N:=xs++m7 xs X.N,s₀:=s,H₀:=H,env:=compEnvC scope (gC X.env.cells scope.names []) C X.env,outer:=X.stack,ex:=fp,fn:=λ_=>false,pn:=[],xe:=λ_ _=>False}
section
variable {X:Cx}{À:ZB}{σ:St}{H H':Hp}{s s':Shared}{a:Addr}{o:HO}
def mQ.adopt(x:mQ P w H h)(hn:H a=none)(new:eE P w (aY H a o) h a o):mQ P w (aY H a o) h:=λb u e=>by
 by_cases hb:b=a
 .subst hb;rw[aP]at e;cases e;exact new
 .rw[aH hb]at e
  exact(x b u e).stay (λ_ _ _ q=>q) (λc q=>by rw[aH (bL q hn)];exact q) λc xs q=>by rw[aH (bL q hn)];exact q
def Inv.adopt(I:Inv X À σ H s)(hn:H a=none)(ha:X.s₀.heap.objs.size<=a)(hL:a≠X.env.locals)(hc:∀x c,X.env.cells.lookup x=some c->c≠a)(hp:∀p∈X.pn++À,p.1≠a)(new:eE X.prog X.w (aY H a o) s.heap a o):Inv X À σ (aY H a o) s:=by
 refine⟨I.ok,I.os,I.bare,⟨I.base.keep,I.base.slot,λb u e n hx=>?_,I.base.there,λb xs e=>?_,λb u v e=>?_,λb ps e=>?_⟩,I.loc,I.cell,?_,λx c e=>?_,λp h=>?_,I.hok.adopt hn new,I.len⟩
 .rw[aH (Ì (Ô (Heap.lt_size e) ha))];exact I.base.free b u e n hx
 .have q:=I.base.tups b xs e;rw[aH (bL q hn)];exact q
 .have q:=I.base.frzs b u v e;rw[aH (bL q hn)];exact q
 .obtain⟨more,q⟩:=I.base.tbls b ps e;exact⟨more,by rw[aH (bL q hn)];exact q⟩
 .rw[aH (Í hL)];exact I.free
 .rw[aH (hc x c e)];exact I.freeC x c e
 .obtain⟨e,n,ne,nf,d⟩:=I.pin p h
  exact⟨e,by rw[aH (hp p h)];exact n,ne,nf,d⟩
def vI(h:eJ N xs names on=true):∀y∈names,y.2≠.cell:=λy hy e=>by
 unfold eJ at h;simp![æ,é]at h;have:=h.1.1.1.1 y hy;rw[e]at this;exact absurd this ⋯
def rZ(h:eJ N xs names on=true):∀y∈names,y.2=.local->names.lookup y.1=some .local:=λy hy e=>by
 unfold eJ at h;simp![æ,é]at h;have:=h.1.1.1.2 y hy;rw[e]at this;simpa using this
def vJ(h:eJ N xs names on=true):∀n,(n,NameKind.free)∈names->on.lookup n=some .cell\/on.lookup n=some .free:=λn hn=>by
 unfold eJ at h;simp![æ,é]at h;have:=h.1.1.2 _ hn;simpa using this
def GV(h:eJ N xs names on=true){i:Nat}(e:(m7 xs N)[i]?=some y):(names.lookup y=some .free/\N[i]?=some y)\/names.lookup y=none\/names.lookup y=some .globalImplicit:=by
 unfold eJ at h;simp![æ]at h;have hl:(m7 xs N).length=N.length:=by unfold m7;rw[Æ]
 let⟨hi,ei⟩:=Î.mp e;have hz:((m7 xs N).zip N)[i]?=some (y,N[i]):=by
  rw[Ę];exact⟨e,Ê (by exact ð ‹_› ‹_›)⟩
 have q:=é.mp h.2 _ (Ā hz);simp![Bool.or_eq_true,æ,beq_iff_eq]at q;rcases q with (q|q)|⟨q,q2⟩
 .exact .inr (.inl q)
 .exact .inr (.inr q)
 .exact .inl ⟨q,by rw[Ê (by exact ð ‹_› ‹_›),<- q2]⟩
def Inv.freeIn{scope:Scope}(I:Inv X À σ H s)(hok:eJ X.N xs scope.names X.env.scope.names=true):freeIn X.env.cells scope.names:=λn hn=>I.ok.has n (vJ hok n hn)
def GW(h:(relabel scope env).names.lookup x=some .cell\/(relabel scope env).names.lookup x=some .free)(hc:∀y∈scope.names,y.2≠.cell):scope.names.lookup x=some .free:=by
 rw[lQ]at h;cases e:scope.names.lookup x with
 |none=>rw[e]at h;simp at h
 |some k=>
  rw[e]at h;cases k with
  |free=>rfl
  |cell=>exact absurd rfl (hc _ (þ e))
  |_=>simp at h
def Inv.block(I:Inv X À σ H s)(hok:eJ X.N xs scope.names X.env.scope.names=true)(hk:scope.kind=.function)(hfp:∀b∈fp,wC X À H b)(hobj:∀b∈fp,∃o,s.heap.get? b=some o)(hC:s.heap.objs.size<=C)(hns:s'.heap.Ns C m)(keep:∀b o,s.heap.get? b=some o->s'.heap.get? b=some o)(hos:s'.os=s.os)(hg:AllBare s'.gens):
  Inv 'g' [] (List.replicate xs.length none++σ) H s':=by
 have hcell:=vI hok;have hno:∀x c,(gC X.env.cells scope.names []).lookup x=some c->X.env.cells.lookup x=some c:=λx c h=>rX h;have ltf:∀b∈fp,b<s.heap.objs.size:=λb hb=>let ⟨_,e⟩:=hobj b hb;Heap.lt_size e
 refine⟨⟨I.ok.mod,hk,I.ok.glob,I.ok.blt,hC,λx y c h1 h2=>I.ok.inj x y c (hno _ _ h1) (hno _ _ h2),λx hx=>?_,λx c h _=>absurd h 'f',I.ok.hd,I.ok.frames,.inl rfl,λb hb=>⟨?_,λx c h=>(hfp b hb).2.2.2.2.1 x c (hno _ _ h)⟩,I.bs,Ø I.ok.bsz I.sz,λb u e hb=>?_,λb hb hf=>?_,I.stack,I.stkFree⟩,
  hos,hg,Un.kept keep,⟨m,hns,λi x v e1 e2 e3=>?_⟩,λx c h=>?_,I.hok.fresh hC,λx c h=>I.freeC x c (hno _ _ h),λp hp=>absurd (show p∈([]:ZB)from hp) 'f',I.hok.kept keep,?_⟩
 .have hf:=GW (show (relabel scope X.env).names.lookup x=some .cell\/(relabel scope X.env).names.lookup x=some .free from hx) hcell
  let⟨c,hc⟩:=I.freeIn hok x (þ hf);exact⟨c,xD hf hc⟩
 .exact Ì (Ô (ltf b hb) hC)
 .rcases(hfp b hb).2.2.2.1 with z|z
  .exact I.ok.noex b u e z
  .exact absurd (Ô (Heap.lt_size e) (Ø I.ok.bsz z)) (ö _)
 .rcases Ï.mp (I.stkSub b hf)with z|z
  .exact(hfp b hb).2.1 z
  .exact(hfp b hb).2.2.1 z
 .have e1:(xs++m7 xs X.N)[i]?=some x:=e1
  by_cases hi:i<xs.length
  .rw[ó (by simpa using hi),Ą,Â hi]at e2
   cases e2
  .rw[ç (by exact ã.mp ‹_›)]at e1
   rw[ç (by rw[ï];exact ã.mp ‹_›),ï]at e2;rcases GV hok e1 with ⟨q1,q2⟩|q|q
   .have kd:=vJ hok x (þ q1)
    let⟨m0,_,hl⟩:=I.loc;let⟨u,ru,lk⟩:=hl _ x v q2 e2 (by rcases kd with z|z;exact .inr (.inl z);exact .inr (.inr z))
    refine⟨u,ru,.inr ⟨?_,?_⟩⟩
    .show (relabel scope X.env).names.lookup x=some .cell\/(relabel scope X.env).names.lookup x=some .free
     rw[lQ,q1];by_cases hc:(NameKind.free == NameKind.free && X.env.scope.kind == .function && X.env.kindOf x == some .cell)=true
     .left;rw[Option.map_some,Â hc]
     .right;rw[Option.map_some,Ä hc]
    .rcases lk with ⟨z,_⟩|⟨_,c,hc,hcell⟩
     .have z:X.env.scope.names.lookup x=some .local:=z
      rw[z]at kd;rcases kd with kd|kd<;>cases kd
     .refine⟨c,xD q1 hc,?_⟩
      let⟨oc,hoc,hd⟩:=hcell;exact⟨oc,keep _ _ hoc,hd⟩
   all_goals
    have e3:(relabel scope X.env).names.lookup x=some .local\/(relabel scope X.env).names.lookup x=some .cell\/(relabel scope X.env).names.lookup x=some .free:=e3;rw[lQ,q]at e3;simp at e3
 .obtain⟨v,oc,hoc,hd⟩:=I.cell x c (hno _ _ h)
  exact⟨v,oc,keep _ _ hoc,hd⟩
 .show (List.replicate xs.length none++σ).length=(xs++m7 xs X.N).length
  rw[Ò,Ò,ï,I.len];unfold m7;rw[Æ]
def Inv.unblock(I:Inv X À σ H s)(hfp:∀b∈fp,wC X À H b)(J:Inv 'g' pins' σ' H' s'):Inv X À σ H' s':=
 I.call' (ch:=fp) J.os J.base J.hok J.bare λb hb=>⟨(hfp b hb).2.2.2.1,(hfp b hb).2.1,(hfp b hb).2.2.2.2.1,(hfp b hb).2.2.2.2.2⟩
end
def m8{prog:Program}{w:World}{A:Around}{R:Result->Shared->Prop}{s:Shared}{elt target iter:Expr}{ifs:List Expr}{scope:Scope}{pos:Pos}{it acc:Value}{env:Env}(I:Nat->Shared->Prop)(turn:∀n s,I n s->wpAny (model prog w) A (pyNext it) (λr s₁=>match r with
   |none=>R (.ok .next) s₁
   |some v=>wpAny (model prog w) A (letOwnedTupleGo target it v) (λ_ s₁'=>wpAny (model prog w) A (assign target env v) (λ_ s₂=>
     wpAny (model prog w) A (forIn ifs true λc r=>if r=true then do let ok <- isTrue c env (eval c env);pure (ForInStep.yield ok)else pure (ForInStep.yield r)) (λok s₃=>
      if ok=true then wpAny (model prog w) A (eval elt env) (λx s₄=>
       wpAny (model prog w) A (call (.builtin "list.append") [acc,x]) (λ_ s₅=>∃m,m<n/\I m s₅) (λ_ _=>False) s₄) (λ_ _=>False) s₃
      else ∃m,m<n/\I m s₃) (λ_ _=>False) s₂) (λ_ _=>False) s₁') (λ_ _=>False) s₁) (λ_ _=>False) s)(n:Nat)(h:I n s):codeAny (model prog w) A (.compLoop (.ListComp elt [⟨target,iter,ifs,0⟩] scope pos) 0 it acc env) R s:=by
 refine codeAny_loop rfl I (λn s hI=>?_) n h;show wpAny _ A ((compTurn (.ListComp elt [⟨target,iter,ifs,0⟩] scope pos) 0 it acc env).onRaise (λx=>do noteFrame x env;theTreesLotGoes x)) _ _ s;refine wpAny_noted ?_;rw[compTurn_list];refine wpAny_bind (wpAny_standAt (wpAny_bind (wpAny_mono (turn n s hI) (λr s₁ h₁=>?_) λ_ _ h'=>h'.elim)));cases r with
 |none=>exact wpAny_pure h₁
 |some v=>
  refine wpAny_bind (wpAny_mono h₁ (λ_ s₁' h₁'=>?_) λ_ _ h'=>h'.elim);refine wpAny_bind (wpAny_mono h₁' (λ_ s₂ h₂=>wpAny_bind (wpAny_mono h₂ (λok s₃ h₃=>?_) λ_ _ h'=>h'.elim)) λ_ _ h'=>h'.elim);cases ok with
  |false=>exact wpAny_pure ⟨rfl,h₃⟩
  |true=>
   exact wpAny_bind (wpAny_bind (wpAny_mono h₃ (λx s₄ h₄=>wpAny_bind (wpAny_mono h₄ (λ_ s₅ h₅=>wpAny_pure (wpAny_pure ⟨rfl,h₅⟩)) λ_ _ h'=>h'.elim)) λ_ _ h'=>h'.elim))
def SN(X:Cx)(ifs:List Expr)(t:TT):Prop:=
 ∀(À:ZB)(s:Shared)(σ:St)(H:Hp)(Q:Bool->Hp->Prop),Inv X À σ H s->t σ H Q ->
  wpAny 'b' X.A (forIn ifs true λc r=>if r=true then do let ok <- isTrue c X.env (eval c X.env);pure (ForInStep.yield ok)else pure (ForInStep.yield r)) (TP X À σ Q) X.xe s
def DR:SN X [] (λ_ H Q=>Q true H):=λ_ _ _ H _ I h=>wpAny_tests_nil ⟨H,I,h⟩
def aAZ(h:PT X c t):SN X [c] t:=λÀ s σ H Q I hq=>wpAny_tests_one (h À s σ H Q I hq)
def M4(k:Nat)(wi:TI)(g:TG)(ti:TT)(te:TE):TE:=λσ H Q=>wi σ H λJ H1=>∃W:Nat->Nat->List V->St->Hp->Prop,(∃m,W 0 m [] (List.replicate k none++σ) H1)/\∀i m ys σ' H',W i m ys σ' H' ->
 (J.stop i H'/\∀p,H' p=none->Q (.ref p) (aY H' p (.lst ys))) \/
 (J.go i H'/\ys.length<sizeLine/\∃N:List V->St->Hp->Prop,(∀zs σ'' H'',N zs σ'' H''->∃m',m'<m/\W (i+1) m' zs σ'' H'') /\
  ∀x H2,J.yld i H' x H2->g x σ' H2 λσ2 H3=>ti σ2 H3 λb H4=>if b=true then te σ2 H4 λy H5=>N (ys++[y]) σ2 H5 else N ys σ2 H4)
section
variable {X:Cx}{pos:Pos}{tg elt iter:Expr}{ifs:List Expr}{scope:Scope}{xs:ZG}{wi:TI}{g:TG}{ti:TT}{te:TE}
def xE{À:ZB}{σ:St}{s:Shared}{Q:VK}{itv:Value}{E:ZA}{R:Value->Addr->Result->Shared->Prop}(hc:X.calm=true)(hk:scope.kind=.function)(hok:eJ X.N xs scope.names X.env.scope.names=true)(hg:∀C fp s H,PG 'g' tg g)(hif:∀C fp s H,SN 'g' ifs ti)(he:∀C fp s H,PE 'g' elt te)(h:ŝ X À σ tg (λJ H1=>∃W:Nat->Nat->List V->St->Hp->Prop,(∃m,W 0 m [] (List.replicate xs.length none++σ) H1)/\∀i m ys σ' H',W i m ys σ' H' ->
   (J.stop i H'/\∀p,H' p=none->Q (.ref p) (aY H' p (.lst ys))) \/
   (J.go i H'/\ys.length<sizeLine/\∃N:List V->St->Hp->Prop,(∀zs σ'' H'',N zs σ'' H''->∃m',m'<m/\W (i+1) m' zs σ'' H'') /\
    ∀x H2,J.yld i H' x H2->g x σ' H2 λσ2 H3=>ti σ2 H3 λb H4=>if b=true then te σ2 H4 λy H5=>N (ys++[y]) σ2 H5 else N ys σ2 H4)) itv s)(hR:∀D C H' m s',Inv X À σ H' s'->Q (.ref D) H'->s'.heap.Ns C m->H' C=none->X.s₀.heap.objs.size<=C->C≠X.env.locals->(∀x c,X.env.cells.lookup x=some c->c≠C)->(∀p∈X.pn++À,p.1≠C)->R (.ref D) C (.ok .next) s'):
  wpAny 'b' X.A (newList []) (λacc s₃=>wpAny 'b' X.A (newFunctionEnv scope X.env.globals (gC X.env.cells scope.names []) [] X.env.qual none .none (some X.env)) (λcenv s₄=>
   codeAny 'b' X.A (.compStart 'o' 0 itv acc {cenv with scope:=relabel scope X.env}) (R acc cenv.locals) s₄) E s₃) E s:=by
 let⟨it,fp,tn,J,H1,rfl,I,T,st0,hfp,W,⟨m0,w0⟩,turn⟩:=h;have hcell:=vI hok;refine wpAny_newObj_type (wpAny_newFunctionEnv hcell (by intro y hy;simp at hy) (λh₁ hns₁ hsb₁=>?_) hk);dsimp only at hns₁ hsb₁⊢;generalize hH2:s.heap.push {cls:=.type "list",dict:=none,data:=.seq ([]:ZJ).toArray}=G2 at hns₁ hsb₁⊢;have hC:G2.objs.size=s.heap.objs.size+1:=by rw[<- hH2,Heap.size_push]
 have hDC:s.heap.objs.size≠G2.objs.size:=by rw[hC];exact Ì (ê _)
 have hCle:s.heap.objs.size<=G2.objs.size:=by rw[hC];exact Nat.le_succ _
 have old:∀b o,s.heap.get? b=some o->h₁.get? b=some o:=λb o e=>hsb₁.extBut b o (Ì (Ô (Heap.lt_size e) hCle)) (Heap.get?_push_of_some _ (hH2▸Heap.get?_push_of_some _ e));have hacc:h₁.get? s.heap.objs.size=some {cls:=.type "list",data:=.seq ([]:ZJ).toArray 0}:=hsb₁.extBut _ _ hDC (Heap.get?_push_of_some _ (hH2▸Heap.get?_push_size _ rfl));have objs:∀b∈fp,∃o,s.heap.get? b=some o:=λb hb=>let ⟨o,e,_⟩:=T.obj 0 _ st0 b hb;⟨o,e⟩
 have ltf:∀b∈fp,b<s.heap.objs.size:=λb hb=>let ⟨_,e⟩:=objs b hb;Heap.lt_size e
 generalize hD:s.heap.objs.size=D at hC hDC hCle hacc ltf⊢;generalize hCC:G2.objs.size=C at hC hDC hCle hns₁ hsb₁⊢;have J0:Inv (aV X xs scope C fp s H1) [] (List.replicate xs.length none++σ) H1 {s with heap:=h₁,toks:=s.toks+([]:List (Str×Value)).length}:=
  I.block hok hk hfp objs (by rw[hD];exact hCle) hns₁ old rfl I.bare
 have cD:∀x c,X.env.cells.lookup x=some c->c≠D/\c≠C:=λx c h=>by
  let⟨v,q⟩:=I.cell x c h;have:=q.lt;rw[hD]at this;exact⟨Ì this,Ì (Ô this hCle)⟩
 have pD:∀p∈X.pn++À,p.1≠D/\p.1≠C:=λp hp=>by
  have:=Heap.lt_size (I.pin p hp).1;rw[hD]at this;exact⟨Ì this,Ì (Ô this hCle)⟩
 have lL:=I.lt;have lS:=I.sz;rw[hD]at lL lS;have lSC:X.s₀.heap.objs.size<=C:=Ø lS hCle;have lLD:D≠X.env.locals:=Ü lL;have lLC:C≠X.env.locals:=Ü (Ô lL hCle);have Dfs:D∉mZ X.stack:=λz=>by
  let⟨_,o,ho,_⟩:=(I.stack).mem z;have:=Heap.lt_size ho;rw[hD]at this;exact ö _ this
 have fpb:∀{H':Hp}{ob:Obj},(∀b∈fp,H' b=none)->∀b∈fp,wC (aV X xs scope C fp s H1) [(D,ob)] H' b:=λ{H' ob}hn b hb=>
  ⟨hn b hb,Ì (Ô (ltf b hb) hCle),λz=>by
   rcases Ï.mp (I.stkSub b z)with z|z
   .exact(hfp b hb).2.1 z
   .exact(hfp b hb).2.2.1 z,.inl hb,λx c h=>(hfp b hb).2.2.2.2.1 x c (rX h),λp hp=>by
    have e:p=(D,ob):=by simpa using hp
    rw[e];exact Ü (ltf b hb)⟩
 have loop:∀s₃:Shared,s₃={s with heap:=h₁,toks:=s.toks+([]:List (Str×Value)).length} ->
   codeAny 'b' X.A (.compLoop 'o' 0 (.ref it) (.ref D) (compEnvC scope (gC X.env.cells scope.names []) C X.env)) (R (.ref D) C) s₃:=by
  rintro s₃ rfl;refine m8 (λn s'=>∃i σ' H' ys its k,Inv (aV X xs scope C fp s H1) [] σ' H' s'/\tn i s'.heap/\(∀b∈fp,H' b=none)/\W i n ys σ' H'/\bJ ys its/\ys.length<=sizeLine /\
   s'.heap.get? D=some {cls:=.type "list",data:=.seq its.toArray k}/\H' D=none) ?_ m0 ⟨0,_,H1,[],[],0,J0,T.keep _ _ _ st0 λb hb o e=>old b o e,λb hb=>(hfp b hb).1,w0,.nil,ò _,hacc,I.hok.fresh (by rw[hD];exact È _)⟩
  rintro n s1 ⟨i,σ1,K1,ys,its,k,I1,st1,fr1,w1,rv,hz,hd,nd⟩;have lys:=rv.length;generalize hob:({cls:=.type "list",data:=.seq its.toArray k}:Obj)=ob at hd;have I1':Inv (aV X xs scope C fp s H1) [(D,ob)] σ1 K1 s1:=I1.pins_of λp hp=>by
   have e:p=(D,ob):=by simpa using hp
   rw[e];exact⟨hd,nd,hDC,Dfs,λv=>by rw[<- hob];exact λz=>by cases z⟩
  rcases turn i n ys σ1 K1 w1 with ⟨stop,qn⟩|⟨go,hlt,N,hN,step⟩
  .refine cY (T.done (aV X xs scope C fp s H1) rfl rfl rfl hc i [(D,ob)] s1 σ1 K1 (λ_ _=>False) I1' (fpb fr1) st1 stop) λr s2 zQ=>?_;let⟨hr,I2⟩:=zQ
   subst hr;have un:=I.unblock hfp I2;have hd2:=(I2.pin (D,ob) 'f').1;let⟨m2,hn2,_⟩:=I2.loc;refine hR D C (aY K1 D (.lst ys)) m2 s2 (un.adopt nd lS lLD (λx c h=>(cD x c h).1) (λp hp=>(pD p hp).1) ⟨hz,its,k,rv,by rw[hob];exact hd2⟩) (qn D nd) hn2 ?_ lSC lLC (λx c h=>(cD x c h).2) λp hp=>(pD p hp).2;rw[aH (Í hDC)];exact I2.free
  .refine cY (T.item (aV X xs scope C fp s H1) rfl rfl rfl hc i [(D,ob)] s1 σ1 K1 (λ_ _=>False) I1' (fpb fr1) st1 go) λr s2 zQ=>?_;let⟨u,hr,h2⟩:=zQ
   subst hr;refine cY h2 λ_ s3 zQ=>?_;let⟨x,H3,I3,r3,y3,st3,fr3⟩:=zQ;have I3':=I3.pinned (fpb fr3) (T.obj _ _ st3);have again:∀{σ7:St}{H7:Hp}{s7:Shared},Inv (aV X xs scope C fp s H1) ([(D,ob)]++wY fp s3.heap) σ7 H7 s7->Inv (aV X xs scope C fp s H1) [] σ7 H7 s7/\tn (i+1) s7.heap/\(∀b∈fp,H7 b=none)/\s7.heap.get? D=some ob/\H7 D=none:=λ{σ7 H7 s7}I7=>by
    have pi:∀b∈fp,∀o,s3.heap.get? b=some o->s7.heap.get? b=some o/\H7 b=none:=λb hb o e=>by
     have q:=I7.pin (b,o) (Û _ (Û _ (qG hb e)));exact⟨q.1,q.2.1⟩
    have pd:=I7.pin (D,ob) (Û _ (Ć _ 'f'));refine⟨I7.pins_of λp hp=>absurd hp 'f',T.keep _ _ _ st3 λb hb o e=>(pi b hb o e).1,λb hb=>?_,pd.1,pd.2.1⟩;let⟨o,e,_⟩:=T.obj _ _ st3 b hb;exact(pi b hb o e).2
   refine cY (hg C fp s H1 _ s3 σ1 H3 x u _ I3' r3 (step x H3 y3)) λ_ s4 zQ=>?_;let⟨σ4,H4,I4,q4⟩:=zQ;refine cY (hif C fp s H1 _ s4 σ4 H4 _ I4 q4) λb s5 zQ=>?_;let⟨H5,I5,q5⟩:=zQ;cases b with
   |false=>
    rw[Ä Ú]at q5⊢;let⟨m',hm,w5⟩:=hN _ _ _ q5;let⟨a1,a2,a3,a4,a5⟩:=again I5;exact⟨m',hm,i+1,σ4,H5,ys,its,k,a1,a2,a3,w5,rv,hz,by rw[hob];exact a4,a5⟩
   |true=>
    rw[Â rfl]at q5⊢;refine cY (he C fp s H1 _ s5 σ4 H5 _ I5 q5) λy s6 zQ=>?_;let⟨yv,H6,I6,r6,q6⟩:=zQ;let⟨m',hm,w6⟩:=hN _ _ _ q6;let⟨a1,a2,a3,a4,a5⟩:=again I6;rw[<- hob]at a4;refine call_meets F.slot_list_append ⟨_,a4,rfl⟩ F.entry_list_append (F.args_list_append_2 _ _) (PySem.list_append D its.toArray k y (by rw[è];lia)) ⟨a4,?_⟩;have qd:∃k',(s6.heap.update D (Obj.mapSeq λz=>z.push y)).get? D=some {cls:=.type "list",data:=.seq (its++[y]).toArray k'}:=by
     have e:(its++[y]).toArray=its.toArray.push y:=by simp
     rw[e];exact⟨_,PySem.IsL.update a4 λz=>z.push y⟩
    let⟨k',qd⟩:=qd;refine⟨m',hm,i+1,σ4,H6,ys++[yv],its++[y],k',a1.turned (it:=D) (t':=s6.toks) (λb o hb e=>(Heap.get?_update_other s6.heap _ (Í hb)).trans e) a5 hDC (.inr (õ hD)) (λx c h=>(cD x c (rX h)).1) (λp hp=>absurd (show p∈([]:ZB)from hp) 'f'),?_,a3,w6,rv.append (.cons r6 .nil),by rw[Ò];exact hlt,qd,a5⟩;exact T.keep _ _ _ a2 λb hb o e=>(Heap.get?_update_other s6.heap _ (λz=>by rw[<- z]at hb;exact absurd (ltf D hb) (ö _))).trans e
 exact codeAny_compStart_list (loop _ rfl) (T.self _ 0 _ _ _ (T.keep _ _ _ st0 λb hb o e=>old b o e) (loop _ rfl))
def GX(hc:X.calm=true)(hi:PI X tg iter wi)(hg:∀C fp s H,PG 'g' tg g)(hif:∀C fp s H,SN 'g' ifs ti)(he:∀C fp s H,PE 'g' elt te)(hk:↥(scope.kind=.function))(hok:↥(eJ X.N xs scope.names X.env.scope.names=true))(hs: ~~~(Zfi iter X.env)):
  PE X 'o' (M4 xs.length wi g ti te):=by
 intro À s σ H Q I h;rw[eval_ListComp];refine wpAny_comprehension_free (use:=none) rfl hs (M3 (I.freeIn hok)) hk (rZ hok) (cY (hi À s σ H _ I h) λv s1 h1=>cY h1 λitv s2 h2=>?_);refine xE (Q:=Q) hc hk hok hg hif he h2 λD C H' m s' I' q hn c1 c2 c3 c4 c5=>?_;exact⟨m,hn,λh' sb=>⟨.ref D,H',I'.turned (it:=C) (t':=s'.toks) (λb o hb e=>(sb.2 b hb).trans e) c1 c3 (.inr c2) c4 c5,rfl,q⟩⟩
def r9{pos' spos:Pos}(hc:X.calm=true)(hN:X.N.Nodup)(hx:X.N[i]?=some x)(hl:X.env.scope.names.lookup x=some .local)(hi:PI X tg iter wi)(hg:∀C fp s H,PG 'g' tg g)(hif:∀C fp s H,SN 'g' ifs ti)(he:∀C fp s H,PE 'g' elt te)(hsw:↥(swapsWith 'o' (some (.Name x pos')) spos.line X.env=pure true))(hk:↥(scope.kind=.function))(hok:↥(eJ X.N xs scope.names X.env.scope.names=true))(hs: ~~~(Zfi iter X.env)):
  PS X (.Assign [.Name x pos'] 'o' spos) (Ĺ (M4 xs.length wi g ti te) (pT i)):=by
 intro À s σ H D I h;rw[exec_Assign_Name_used _ _ _ _ hsw];refine wpAny_bind (wpAny_standAt (wpAny_bind ?_));show wpAny _ X.A (do let _ <- comprehension 'o' scope X.env _ (newList []) false (eval iter X.env) (some (assign (.Name x pos') X.env))) _ _ s;refine wpAny_bind (wpAny_mono (wpAny_comprehension_free (use:=some (assign (.Name x pos') X.env)) (Q:=λ_ s'=>SP X À D .next s') rfl hs (M3 (I.freeIn hok)) hk (rZ hok)
  (cY (hi À s σ H _ I h) λv s1 h1=>cY h1 λitv s2 h2=>?_)) (λ_ s' hq=>wpAny_pure (wpAny_pure hq)) λ_ _ e=>e)
 refine xE (Q:=λv H'=>D.nx (σ.set i (some v)) H') hc hk hok hg hif he h2 λD' C H' m s' I' q hn c1 c2 c3 c4 c5=>?_;show wpAny _ X.A (assign (.Name x pos') X.env (.ref D')) _ _ _;refine wpAny_assign_Name (BG I' hN hx (.inl hl) (v:=.ref D') rfl (λs'' I'' zQ=>?_) (.inr hl));let⟨a,sb,ha⟩:=zQ;have hCa:C≠a:=by
  rcases ha with e|e
  .rw[e];exact c3
  .exact Í (c4 _ _ e)
 exact⟨m,hn.sameBut sb hCa,λh' sb'=>⟨_,H',I''.turned (it:=C) (t':=s''.toks) (λb o hb e=>(sb'.2 b hb).trans e) c1 c3 (.inr c2) c4 c5,q⟩⟩
end
def mT(h:Heap)(e:Addr)(cls:Value)(ch:ZM):Prop:=
 ∃oe vs,h.get? e=some oe/\(oe.cls=cls/\oe.dict=none)/\oe.data=.fields vs/\1<vs.size /\
  ((vs[1]?=some .none/\ch=[e])\/∃T oT ts fl,vs[1]?=some (.ref T)/\ch=[e,T]/\T≠e/\h.get? T=some oT/\oT.data=.fields ts/\ts[3]?=some fl)
def xF(o:Obj)(f:Array Value->Array Value):(o.mapFields f).dict=o.dict:=by
 unfold Obj.mapFields;split<;>rfl
structure XT(fs ch:ZM)(h h':Heap):Prop where
 keep:∀b o,b∉ch->b∉fs->h.get? b=some o->h'.get? b=some o
 slot:∀b o,b∉ch->h.get? b=some o->∃sl,h'.get? b=some {o with slots:=sl}
 there:∀b o,h.get? b=some o->∃o',h'.get? b=some o'
def XT.refl:XT fs ch h h:=⟨λ_ _ _ _ e=>e,λ_ o _ e=>⟨o.slots,e⟩,λ_ o e=>⟨o,e⟩⟩
def XT.trans{fs ch ch':ZM}{h h1 h2:Heap}(a:XT fs ch h h1)(b:XT fs ch' h1 h2)(hc:∀x∈ch',x∈ch\/h.get? x=none):XT fs ch h h2 where
 keep:=λx o n1 n2 e=>b.keep x o (λm=>(hc x m).elim n1 λz=>by rw[z]at e;cases e) n2 (a.keep x o n1 n2 e)
 slot:=λx o n1 e=>by
  let⟨sl,e1⟩:=a.slot x o n1 e;let⟨sl2,e2⟩:=b.slot x _ (λm=>(hc x m).elim n1 λz=>by rw[z]at e;cases e) e1;exact⟨sl2,e2⟩
 there:=λx o e=>by
  let⟨o1,e1⟩:=a.there x o e;exact b.there x o1 e1
section
variable {M:Model}{A:Around}{E:ZA}{s:Shared}{base:Heap}{env:Env}{outer:List Env}{L e:Addr}{cls:Value}{ch:ZM}{Q:Unit->Shared->Prop}
def FunFrames.noFields{h:Heap}(hl:h.FunFrames base l)(he:h.get? e=some o)(hd:o.data=.fields vs):e∉mZ l:=λhm=>by
 let⟨_,o',ho,hnf⟩:=hl.mem hm
 grind
def M5{oe:Obj}{vs:Array Value}{head:Value}{hadNext:Bool}(hfr:A.frames=some (env::outer))(hl:s.heap.FunFrames base (env::outer))(hf:env.frame=some L)(he:s.heap.get? e=some oe)(hd:oe.data=.fields vs)(hsz:1<vs.size)(h:∀h',XT (mZ (env::outer)) [e] s.heap h'->(∃oe' vs' T oT ts,h'.get? e=some oe'/\(oe'.cls=oe.cls/\oe'.dict=oe.dict)/\oe'.data=.fields vs'/\1<vs'.size/\vs'[1]?=some (.ref T)/\T≠e/\s.heap.get? T=none/\s.heap.objs.size<=T/\h'.get? T=some oT/\oT.data=.fields ts/\ts[3]?=some (rawInt L))->Q () {s with heap:=h'}):
  wpAny M A (do let a <- frameOf env;let pl <- entryPlaceOf L hadNext;let b <- EntryCells.newEntry head a .none (rawInt L) .none pl;setField (.ref e) 1 b) Q E s:=by
 have hene:=FunFrames.noFields hl he hd;refine wpAny_bind (wpAny_frameOf_fun hfr hl hf λh₁ hs₁=>?_);refine wpAny_bind (wpAny_entryPlaceOf λpl hpl=>?_);unfold EntryCells.newEntry newFields;refine wpAny_bind (wpAny_newObj_type ?_ (hpl.sizeOk5 _ _ _ _ _));have he₁:h₁.get? e=some oe:=(hs₁.2.1 e hene).trans he;have he₂:=Heap.get?_push_of_some (h:=h₁) {cls:=.type "traceback",dict:=none,data:=.fields ([head,.ref L,.none,rawInt L,.none]++(if pl.isEmpty then List.replicate 6 Value.none else pl)).toArray} he₁;refine wpAny_setField he₂ hd hsz (h _ ?_ ?_)
 all_goals have hTe:h₁.objs.size≠e:=Ü (Heap.lt_size he₁)
 all_goals have hd₃:=Obj.data_mapFields hd (·.setIfInBounds 1 (Value.ref h₁.objs.size))
 all_goals have he₃:=Heap.get?_update_self (Obj.mapFields (·.setIfInBounds 1 (Value.ref h₁.objs.size))) he₂ (Obj.isFreed_of_fields hd₃)
 .have keep:∀b o,b≠e->h₁.get? b=some o ->
   ((h₁.push {cls:=.type "traceback",dict:=none,data:=.fields ([head,.ref L,.none,rawInt L,.none]++(if pl.isEmpty then List.replicate 6 Value.none else pl)).toArray}).update e (Obj.mapFields (·.setIfInBounds 1 (Value.ref h₁.objs.size)))).get? b=some o:=
   λb o hbe hb=>by
    rw[Heap.get?_update_other _ _ (Í hbe)];exact Heap.get?_push_of_some _ hb
  refine⟨λb o n1 n2 q=>keep b o (by simpa using n1) ((hs₁.2.1 b n2).trans q),λb o n1 q=>?_,λb o q=>?_⟩
  .obtain⟨sl,q1⟩:=hs₁.2.2 b o q
   exact⟨sl,keep b _ (by simpa using n1) q1⟩
  .by_cases hb:b=e
   .subst hb;exact⟨_,he₃⟩
   .obtain⟨sl,q1⟩:=hs₁.2.2 b o q
    exact⟨_,keep b _ hb q1⟩
 .have hT₃:=(Heap.get?_update_other (h₁.push {cls:=.type "traceback",dict:=none,data:=.fields ([head,.ref L,.none,rawInt L,.none]++(if pl.isEmpty then List.replicate 6 Value.none else pl)).toArray})
   (Obj.mapFields (·.setIfInBounds 1 (Value.ref h₁.objs.size))) (Í hTe)).trans (Heap.get?_push_size h₁ rfl)
  have hsz1:s.heap.objs.size<=h₁.objs.size:=õ hs₁.1.symm;refine⟨_,_,h₁.objs.size,_,_,he₃,⟨Obj.cls_mapFields _ _,xF _ _⟩,hd₃,by simpa using hsz,by simp[hsz],hTe,?_,hsz1,hT₃,rfl,by first|(simp;done)|(rcases hpl with rfl|⟨_,_,_,_,_,_,_,rfl⟩<;>simp)⟩;cases q:s.heap.get? h₁.objs.size with
  |none=>rfl
  |some o=>exact absurd (Heap.lt_size q) (Nat.not_lt_of_le hsz1)
def xG(h0 h:Heap)(e:Addr)(cls:Value)(ch ch':ZM)(fl:Value):Prop:=
 ∃oe vs T oT ts,h.get? e=some oe/\(oe.cls=cls/\oe.dict=none)/\oe.data=.fields vs/\1<vs.size/\vs[1]?=some (.ref T)/\ch'=[e,T]/\T≠e/\h.get? T=some oT/\oT.data=.fields ts/\ts[3]?=some fl/\(T∈ch\/(h0.get? T=none/\h0.objs.size<=T))
def xG.exc(x:xG h0 h e cls ch ch' fl):mT h e cls ch':=by
 let⟨oe,vs,T,oT,ts,h1,h2,h3,h4,h5,h6,h7,h8,h9,h10,_⟩:=x;exact⟨oe,vs,h1,h2,h3,h4,.inr ⟨T,oT,ts,fl,h5,h6,h7,h8,h9,h10⟩⟩
def xG.new(x:xG h0 h e cls ch ch' fl)(he:e∈ch):∀b∈ch',b∈ch\/(h0.get? b=none/\h0.objs.size<=b):=by
 let⟨oe,vs,T,oT,ts,h1,h2,h3,h4,h5,h6,h7,h8,h9,h10,h11⟩:=x;subst h6;intro b hb;simp![Ï,ä,or_false]at hb;rcases hb with rfl|rfl
 .exact .inl he
 .exact h11
def mT.mem(x:mT h e cls ch):e∈ch:=by
 obtain⟨_,_,_,_,_,_,⟨_,rfl⟩|⟨_,_,_,_,_,rfl,_⟩⟩:=x<;>simp
def FunFrames.xt(hl:h.FunFrames base l)(hx:XT (mZ l) ch h h')(hc:∀b∈ch,∃o vs,h.get? b=some o/\o.data=.fields vs):h'.FunFrames base l:=
 hl.of_keeps λb o ho hn=>by
  let⟨sl,q⟩:=hx.slot b o (λm=>by grind) ho;exact⟨_,q,rfl⟩
def mT.recs(x:mT h e cls ch):∀b∈ch,∃o vs,h.get? b=some o/\o.data=.fields vs:=by
 obtain⟨oe,vs,h1,h2,h3,h4,⟨h5,rfl⟩|⟨T,oT,ts,fl,h5,rfl,h6,h7,h8,h9⟩⟩:=x
 all_goals grind
def TX(hfr:A.frames=some (env::outer))(hl:s.heap.FunFrames base (env::outer))(hf:env.frame=some L)(x:mT s.heap e cls ch)(h:∀h' ch',XT (mZ (env::outer)) ch s.heap h'->xG s.heap h' e cls ch ch' (rawInt L)->Q () {s with heap:=h'}):wpAny M A (noteFrame (.ref e) env) Q E s:=by
 have hrec:=x.recs;obtain⟨oe,vs,he,⟨rfl,hdi⟩,hd,hsz,⟨h1,rfl⟩|⟨T,oT,ts,fl,h1,rfl,hTe,hT,hdT,h3⟩⟩:=x
 .unfold noteFrame
  simp![hf];refine wpAny_bind (wpAny_field he hd h1 ?_);rw[Ä ⋯];refine M5 hfr hl hf he hd hsz λh' xt m=>?_;let⟨oe',vs',T,oT,ts,q1,q2,q3,q4,q5,q6,q7,q8,q9,q10,q11⟩:=m;exact h h' [e,T] xt ⟨oe',vs',T,oT,ts,q1,⟨q2.1,q2.2.trans hdi⟩,q3,q4,q5,rfl,q6,q9,q10,q11,.inr ⟨q7,q8⟩⟩
 .unfold noteFrame
  simp![hf];refine wpAny_bind (wpAny_field he hd h1 ?_);rw[Â (show (Value.ref T != Value.none)=true from by simp)];refine wpAny_bind (wpAny_field hT hdT h3 ?_);by_cases hfl:fl=rawInt L
  .subst hfl
   rw[Â (show (rawInt L == rawInt L)=true from by simp)];exact wpAny_pure (h s.heap [e,T] XT.refl ⟨oe,vs,T,oT,ts,he,⟨rfl,hdi⟩,hd,hsz,h1,rfl,hTe,hT,hdT,h3,.inl 'f'⟩)
  .rw[Ä (show ¬((fl == rawInt L)=true)from λz=>hfl (beq_iff_eq.mp z))]
   refine wpAny_bind (wpAny_setField hT hdT (Array.getElem?_eq_some_iff.mp h3).1 ?_);have other:∀b,b≠T->(s.heap.update T (Obj.mapFields (·.setIfInBounds 3 Value.none))).get? b=s.heap.get? b:=λb hb=>Heap.get?_update_other _ _ (Í hb);have hself:=Heap.get?_update_self (Obj.mapFields (·.setIfInBounds 3 Value.none)) hT (Obj.isFreed_of_fields (Obj.data_mapFields hdT _));have xt1:XT (mZ (env::outer)) [e,T] s.heap (s.heap.update T (Obj.mapFields (·.setIfInBounds 3 Value.none))):=by
    refine⟨λb o n1 n2 q=>(other b (by simp at n1;exact n1.2)).trans q,λb o n1 q=>⟨o.slots,(other b (by simp at n1;exact n1.2)).trans q⟩,λb o q=>?_⟩;by_cases hb:b=T
    .grind
    .grind
   refine M5 hfr (FunFrames.xt hl xt1 hrec) hf ((other e (Í hTe)).trans he) hd hsz λh' xt m=>?_;let⟨oe',vs',T',oT',ts',q1,q2,q3,q4,q5,q6,q7,q8,q9,q10,q11⟩:=m;have hn:s.heap.get? T'=none:=by
    cases z:s.heap.get? T' with
    |none=>rfl
    |some o=>
     grind
   have hs':s.heap.objs.size<=T':=by
    have q8:(s.heap.update T (Obj.mapFields (·.setIfInBounds 3 Value.none))).objs.size<=T':=q8
    rwa [Heap.size_after_update]at q8
   exact h h' [e,T'] (xt1.trans xt λb hb=>by grind) ⟨oe',vs',T',oT',ts',q1,⟨q2.1,q2.2.trans hdi⟩,q3,q4,q5,rfl,q6,q9,q10,q11,.inr ⟨hn,hs'⟩⟩
def xH{fs:ZM}(x:mT s.heap e cls ch)(h:∀h',XT fs ch s.heap h'->mT h' e cls ch->Q () {s with heap:=h'}):wpAny M A (setFlight (.ref e) none) Q E s:=by
 obtain⟨oe,vs,he,⟨rfl,hdi⟩,hd,hsz,⟨h1,rfl⟩|⟨T,oT,ts,fl,h1,rfl,hTe,hT,hdT,h3⟩⟩:=x
 .unfold setFlight
  refine wpAny_bind (wpAny_field he hd h1 ?_);rw[Ä ⋯];exact wpAny_pure (h s.heap XT.refl ⟨oe,vs,he,⟨rfl,hdi⟩,hd,hsz,.inl ⟨h1,rfl⟩⟩)
 .unfold setFlight
  refine wpAny_bind (wpAny_field he hd h1 ?_);rw[Â (show (Value.ref T != Value.none)=true from by simp)];have hsz3:=(Array.getElem?_eq_some_iff.mp h3).1;have other:∀b,b≠T->(s.heap.update T (Obj.mapFields (·.setIfInBounds 3 ((none:Option Addr).elim Value.none λf=>rawInt f)))).get? b=s.heap.get? b:=λb hb=>Heap.get?_update_other _ _ (Í hb);have hself:=Heap.get?_update_self (Obj.mapFields (·.setIfInBounds 3 ((none:Option Addr).elim Value.none λf=>rawInt f))) hT (Obj.isFreed_of_fields (Obj.data_mapFields hdT _));refine wpAny_setField hT hdT hsz3 (h _ ?_ ?_)
  .refine⟨λb o n1 n2 q=>(other b (by simp at n1;exact n1.2)).trans q,λb o n1 q=>⟨o.slots,(other b (by simp at n1;exact n1.2)).trans q⟩,λb o q=>?_⟩
   grind
  .exact⟨oe,vs,(other e (Í hTe)).trans he,⟨rfl,hdi⟩,hd,hsz,.inr ⟨T,_,_,_,h1,rfl,hTe,hself,Obj.data_mapFields hdT _,by simp[hsz3];rfl⟩⟩
def aA0(hfr:A.frames=some (env::outer))(hl:s.heap.FunFrames base (env::outer))(hf:env.frame=some L)(x:mT s.heap e cls ch)(h:∀h' ch',XT (mZ (env::outer)) ch s.heap h'->mT h' e cls ch'->(∀b∈ch',b∈ch\/(s.heap.get? b=none/\s.heap.objs.size<=b))->Q () {s with heap:=h'}):wpAny M A (leaving env (.ref e)) Q E s:=by
 have hm:=x.mem;unfold leaving;refine wpAny_bind (TX hfr hl hf x λh1 ch1 xt1 m1=>?_);have hn:=m1.new hm;refine xH (fs:=mZ (env::outer)) m1.exc λh2 xt2 e2=>?_;exact h h2 ch1 (xt1.trans xt2 λb hb=>(hn b hb).imp id (·.1)) e2 hn
end
section
variable {X:Cx}{À:ZB}{σ:St}{H H':Hp}{s:Shared}{h':Heap}{ch:ZM}{b:Addr}
structure pY(X:Cx)(À:ZB)(H:Hp)(b:Addr):Prop where
 un:H b=none
 new:b∈X.ex\/X.s₀.heap.get? b=none
 fr:b≠X.env.locals
 cell:∀x c,X.env.cells.lookup x=some c->c≠b
 pin:∀p∈X.pn++À,p.1≠b
def eE.there(x:eE P w H h a o):∃ob,h.get? a=some ob:=by
 cases o with
 |lst xs=>let⟨_,_,_,_,e⟩:=x;exact⟨_,e⟩
 |tup xs=>let⟨_,_,_,_,e,_⟩:=x;exact⟨_,e⟩
 |dK Á=>let⟨_,_,_,_,o,_,_,e,_⟩:=x;exact⟨_,e⟩
 |dT Á=>let⟨_,_,_,_,o,_,_,e,_⟩:=x;exact⟨_,e⟩
 |set S n=>let⟨o,_,_,_,e,_⟩:=x;exact⟨_,e⟩
 |ins C dx fs=>let⟨_,_,_,e,_⟩:=x;exact⟨_,e⟩
 |own y=>let⟨_,e⟩:=x;exact⟨_,e⟩
 |xd fs=>let⟨_,⟨_,_,_,e,_⟩,_⟩:=x;exact⟨_,e⟩
 |rng lo hi=>let⟨_,_,_,e⟩:=x;exact⟨_,e⟩
 |frz o u=>exact⟨_,x.1⟩
 |tbl ps=>exact⟨_,x⟩
 |lam t u q=>let⟨_,e,_⟩:=x;exact⟨_,e⟩
 |met f y=>exact⟨_,x⟩
 |ext φ=>exact x.2.1
def mQ.none(x:mQ P w H h)(e:h.get? a=Option.none):H a=Option.none:=by
 cases q:H a with
 |none=>rfl
 |some u=>
  let⟨o,z⟩:=(x a u q).there;rw[e]at z;cases z
def pY.of(I:Inv X À σ H s)(hn:H' b=none)(h:s.heap.get? b=none):pY X À H' b:=by
 refine⟨hn,?_,λe=>?_,λx c e z=>?_,λp hp z=>?_⟩
 .by_cases hx:b∈X.ex
  .exact .inl hx
  .refine .inr ?_
   cases q:X.s₀.heap.get? b with
   |none=>rfl
   |some o=>
    let⟨o',e⟩:=I.base.there b o q hx;rw[h]at e;cases e
 .obtain⟨m,⟨o,es,ep,ho,_⟩,_⟩:=I.loc
  grind
 .obtain⟨v,o,ho,_⟩:=I.cell x c e
  rw[z,h]at ho;cases ho
 .have:=(I.pin p hp).1
  grind
def XT.hok(I:Inv X À σ H s)(x:XT (mZ X.stack) ch s.heap h')(hc:∀b∈ch,H b=none):mQ X.prog X.w H h':=λa o e=>
 (I.hok a o e).stay (λb u hb q=>x.keep b u (λm=>by
  grind) (λm=>by
  have:=I.stkFree b m
  grind) q) (λ_ q=>q) λ_ _ q=>q
def Inv.xt(I:Inv X À σ H s)(x:XT (mZ X.stack) ch s.heap h')(hc:∀b∈ch,pY X À H b):Inv X À σ H {s with heap:=h'}:=by
 have nl:∀b o,X.s₀.heap.get? b=some o->b≠X.env.locals:=λb o q e=>ö _ (Ô (Heap.lt_size q) (by rw[e];exact I.ok.above));have nc:∀b o,X.s₀.heap.get? b=some o->b∉X.ex->b∉ch:=λb o q hx m=>by rw[(hc b m).new.resolve_left hx]at q;cases q
 have cells:∀c v,(∃y,X.env.cells.lookup y=some c)->s.heap.IsCell c v->h'.IsCell c v:=λc v⟨y,e⟩⟨o,ho,hd⟩=>by
  let⟨sl,q⟩:=x.slot c o (λm=>(hc c m).cell y c e rfl) ho;exact⟨_,q,hd⟩
 refine⟨I.ok,I.os,I.bare,⟨λb o q n hf hx=>x.keep b o (nc b o q hx) (λz=>(Ï.mp (I.stkSub b z)).elim (nl b o q) hf) (I.base.keep b o q n hf hx),λb o q n hf hx=>?_,I.base.free,λb o q hx=>?_,I.base.tups,I.base.frzs,I.base.tbls⟩,?_,λy c e=>?_,I.free,I.freeC,λp hp=>?_,x.hok I λb hb=>(hc b hb).un,I.len⟩
 .obtain⟨sl,e⟩:=I.base.slot b o q n hf hx
  let⟨sl2,e2⟩:=x.slot b _ (nc b o q hx) e;exact⟨sl2,e2⟩
 .obtain⟨o1,e1⟩:=I.base.there b o q hx
  exact x.there b o1 e1
 .obtain⟨m,⟨o,es,ep,ho,r⟩,hl⟩:=I.loc
  let⟨sl,q⟩:=x.slot X.env.locals o (λmm=>(hc _ mm).fr rfl) ho;refine⟨m,⟨_,es,ep,q,r⟩,λi y v e1 e2 e3=>?_⟩;let⟨u,r1,lk⟩:=hl i y v e1 e2 e3;refine⟨u,r1,?_⟩;rcases lk with lk|⟨lk,c,c1,c2⟩
  .exact .inl lk
  .exact .inr ⟨lk,c,c1,cells c _ ⟨y,c1⟩ c2⟩
 .obtain⟨v,q⟩:=I.cell y c e
  exact⟨v,cells c v ⟨y,e⟩ q⟩
 .obtain⟨e,n,ne,nf,d⟩:=I.pin p hp
  exact⟨x.keep p.1 p.2 (λm=>(hc p.1 m).pin p hp rfl) (λz=>(Ï.mp (I.stkSub p.1 z)).elim ne nf) e,n,ne,nf,d⟩
def TY(X:Cx)(À:ZB)(H:Hp)(s:Shared)(nm:Str)(e:Value):Prop:=
 ∃a cls ch,e=.ref a/\W.nsIn X.K mainGlobals nm=some (some cls)/\mT s.heap a cls ch/\∀b∈ch,pY X À H b
end
abbrev D:=PyData
abbrev DS:=List (ZL)
inductive Res(α:Type) where
 |ok (a:α) (δ:DS)
 |err (x:D) (δ:DS)
 |stuck
def Res.bind{α β:Type}:Res α->(α->DS->Res β)->Res β
 |.ok a δ,k=>k a δ
 |.err x δ,_=>.err x δ
 |.stuck,_=>.stuck
abbrev M(α:Type):=DS->Res α
structure cB where
 F0:Hp
 H0:Hp
 g0:Addr->Option (Nat×ZH)
 ps:ZH
 σ0:St
 owp:ZH
 wf:∀a i q,g0 a=some (i,q)->i∈ps
abbrev ť:=Nat×ZH
abbrev ZP:=Addr->Option ť
def kd:Nat->Nat
 |20=>2
 |30=>3
 |_=>0
def ch:Nat->Nat->Nat
 |20,1=>1
 |20,2=>1
 |20,_=>0
 |30,_=>0
 |n,_=>n-1
def dS(nm:Str)(fs:ZG)(ds:ZI):D:=.dict ((.none,.str nm)::(fs.map PyData.str).zip ds)
def kU(ms:List eA)(ds:ZI):D:=.dict ((ms.map GH).zip ds)
abbrev TZ:=Addr×ZH×HO
def Nd(K:ZC)(k:Nat)(d:D)(ds:ZI)(v:V)(vs:List V)(cs:List TZ):Prop:=match k with
 |0=>∃a,d=.list ds/\v=.ref a/\cs=[(a,[],.lst vs)]
 |1=>∃a,d=.tuple ds/\v=.ref a/\cs=[(a,[],.tup vs)]
 |2=>∃a nm fs C dx,d=dS nm fs ds/\v=.ref a/\fs.length=ds.length/\W.nsIn K mainGlobals nm=some (some (.ref C))/\cs=[(a,[],.ins C dx (fs.zip vs)),(dx,[1000],.own a)]
 |_=>∃a ms,d=kU ms ds/\v=.ref a/\ms.length=ds.length/\cs=[(a,[],.dK (ms.zip vs))]
def iK(K:ZC)(F H:Hp)(g:ZP)(i:Nat):Nat->Nat->ZH->D->V->Prop
 |_,0,_,d,v=>bG K F d v
 |0,_+1,_,_,_=>False
 |f+1,c+1,p,d,v=>∃(ds:ZI)(vs:List V)(cs:List TZ),Nd K (kd (c+1)) d ds v vs cs/\(∀x∈cs,g x.1=some (i,p++x.2.1)/\H x.1=some x.2.2/\F x.1=none)/\ds.length=vs.length /\
   ∀(k:Nat)(d':D)(v':V),ds[k]?=some d'->vs[k]?=some v'->iK K F H g i f (ch (c+1) k) (p++[k]) d' v'
def bC(K:ZC)(F H:Hp)(g:ZP)(i:Nat)(n:Nat)(p:ZH)(d:D)(v:V):Prop:=iK K F H g i n n p d v
def m9:Str:="place_below"
def kW:Str:="place_below.<locals>.<lambda>"
def DU:List Stmt->Option Pos
 |[_,.Return (some (.Call _ _ (⟨_,.Lambda _ _ _ pos,_⟩::_) _)) _]=>some pos
 |_=>none
def jO(K:ZC):(Option (Addr×Addr×Pos)):=match W.nsIn K mainGlobals m9 with
 |some (some (.ref f))=>(match K.lookup f with
  |some ⟨_,_,.func fd,_⟩=>(match fd.body,W.tabIn K m9 with
   |.stmts b,some (c,P)=>(match DU b with
    |some pos=>some (c,P,pos)
    |none=>none)
   |_,_=>none)
  |_=>none)
 |_=>none
def Z3(K:ZC)(F:Hp):Prop:=∀c P pos,jO K=some (c,P,pos)->F P=some (.lam (rawInt pos.line) (rawInt pos.col) kW)
def Z3.mono{K:ZC}(h:Z3 K F)(s:aM F F'):Z3 K F':=λc P pos e=>s _ _ (h c P pos e)
def BO(K:ZC)(F0 F:Hp):Prop:=Z3 K F0/\aM F0 F
def BO.trans'{K:ZC}(a:BO K H H1)(b:aM H1 H2):BO K H H2:=⟨a.1,λc o h=>b c o (a.2 c o h)⟩
def BO.lm{K:ZC}(a:BO K H H1):Z3 K H1:=a.1.mono a.2
structure bV(K:ZC)(Z:cB)(ow:ZH)(g:ZP)(F H:Hp)(σ:St)(δ:DS):Prop where
 sub:aM F H
 f0:BO K Z.F0 F
 kept:∀b o,Z.g0 b=none->Z.H0 b=some o->H b=some o
 new:∀a,Z.F0 a=none->Z.H0 a≠none->F a=none
 there:∀b,Z.H0 b≠none->H b≠none
 lab:∀a i p,g a=some (i,p)->Z.H0 a=none\/∃q,Z.g0 a=some (i,q)
 len:δ.length=σ.length
 par:∀i∈Z.ps,σ[i]?=Z.σ0[i]?/\ow.getD i 0=Z.owp.getD i 0
 slot:∀(i:Nat)(d:D),δ[i]?=some (some d)->∃v,σ[i]?=some (some v)/\bC K F H g i (ow.getD i 0) [] d v
def cS(K:ZC)(Z:cB)(ow:ZH)(F H:Hp)(σ:St)(δ:DS):Prop:=∃g,bV K Z ow g F H σ δ
def gB(K:ZC)(Z:cB)(ow:ZH)(n:Nat)(d:D)(v:V)(F H:Hp)(σ:St)(δ:DS):Prop:=∃g,bV K Z ow g F H σ δ/\bC K F H g 1000 n [] d v
def aM.trans'(a:aM H H1)(b:aM H1 H2):aM H H2:=λc o h=>b c o (a c o h)
def aE.len{K:ZC}:∀{ds:ZI}{vs:List V},aE K F ds vs->ds.length=vs.length
 |[],vs,h=>by unfold aE at h;rw[h];rfl
 |d::ds,vs,h=>by
  unfold aE at h;let⟨x,r,rfl,_,h⟩:=h;rw[Ý,Ý,aE.len h]
def aE.get{K:ZC}:∀{ds:ZI}{vs:List V}{i:Nat}{d:D},aE K F ds vs->ds[i]?=some d->∃v,vs[i]?=some v/\bG K F d v
 |d::ds,vs,0,d',h,e=>by
  unfold aE at h
  grind
 |d::ds,vs,i+1,d',h,e=>by
  unfold aE at h;let⟨x,r,rfl,hx,h⟩:=h;exact aE.get (i:=i) h e
def aE.of{K:ZC}{ds:ZI}(hl:ds.length=vs.length)(h:∀(k:Nat)(d:D)(v:V),ds[k]?=some d->vs[k]?=some v->bG K F d v):aE K F ds vs:=by
 induction ds generalizing vs with
 |nil=>
  cases vs with
  |nil=>unfold aE;rfl
  |cons v vs=>cases hl
 |cons d ds ih=>
  cases vs with
  |nil=>cases hl
  |cons v vs=>
   unfold aE;exact⟨v,vs,rfl,h 0 d v rfl rfl,ih (Nat.succ.inj hl) λk d' v' e1 e2=>h (k+1) d' v' e1 e2⟩
def aE.both{K:ZC}{ds:ZI}(h:aE K F ds vs)(k:Nat)(d:D)(v:V)(e1:ds[k]?=some d)(e2:vs[k]?=some v):bG K F d v:=by
 let⟨v',e,r⟩:=h.get e1
 grind
def iW{K:ZC}:aE K F [] []:=by unfold aE;rfl
def lR{K:ZC}(h:bG K F d v)(t:aE K F ds vs):aE K F (d::ds) (v::vs):=by unfold aE;exact⟨v,vs,rfl,h,t⟩
def aE.app{K:ZC}:∀{ds es:ZI}{vs ws:List V},aE K F ds vs->aE K F es ws->aE K F (ds++es) (vs++ws)
 |[],es,vs,ws,h,t=>by unfold aE at h;rw[h];exact t
 |d::ds,es,vs,ws,h,t=>by
  unfold aE at h;let⟨x,r,rfl,hx,h⟩:=h;exact lR hx (aE.app h t)
def aE.take{K:ZC}(n:Nat)(h:aE K F ds vs):aE K F (ds.take n) (vs.take n):=
 aE.of (by rw[ü,ü,h.len]) λk d v e1 e2=>by
  rw[List.getElem?_take]at e1 e2;split at e1
  .rw[Â 't']at e2;exact h.both k d v e1 e2
  .cases e1
def aE.drop{K:ZC}(n:Nat)(h:aE K F ds vs):aE K F (ds.drop n) (vs.drop n):=
 aE.of (by rw[List.length_drop,List.length_drop,h.len]) λk d v e1 e2=>by
  rw[List.getElem?_drop]at e1 e2;exact h.both _ d v e1 e2
def M6:∀{c k:Nat},ch (c+1) k<=c:=by
 intro c k;unfold ch;split<;>lia
def iK.trans{K:ZC}{g g':ZP}(hF:aM F F')(h:∀a p o,g a=some (i,p)->H a=some o->F a=none->g' a=some (j,q++p)/\H' a=some o/\F' a=none)(r:iK K F H g i f c p d v):iK K F' H' g' j f c (q++p) d v:=by
 induction f generalizing c p d v with
 |zero=>
  cases c with
  |zero=>exact hF.rep d v r
  |succ c=>exact r.elim
 |succ f ih=>
  cases c with
  |zero=>exact hF.rep d v r
  |succ c=>
   let⟨ds,vs,cs,nd,hc,hl,r⟩:=r;refine⟨ds,vs,cs,nd,λx hx=>?_,hl,λk d' v' q1 q2=>?_⟩
   .obtain⟨a1,a2,a3⟩:=hc x hx
    rw[List.append_assoc];exact h _ _ _ a1 a2 a3
   .rw[List.append_assoc]
    exact ih (r k d' v' q1 q2)
def iK.fuel{K:ZC}(h1:c<=f)(h2:c<=f')(r:iK K F H g i f c p d v):iK K F H g i f' c p d v:=by
 induction f generalizing c f' p d v with
 |zero=>
  cases c with
  |zero=>unfold iK at r⊢;exact r
  |succ c=>exact r.elim
 |succ f ih=>
  cases c with
  |zero=>unfold iK at r⊢;exact r
  |succ c=>
   cases f' with
   |zero=>exact absurd h2 (Nat.not_succ_le_zero _)
   |succ f'=>
    let⟨ds,vs,cs,nd,hc,hl,r⟩:=r;exact⟨ds,vs,cs,nd,hc,hl,λk d' v' q1 q2=>ih (Ø M6 (Nat.le_of_succ_le_succ h1)) (Ø M6 (Nat.le_of_succ_le_succ h2)) (r k d' v' q1 q2)⟩
def bC.open{K:ZC}(h:bC K F H g i (c+1) p d v):
  ∃(ds:ZI)(vs:List V)(cs:List TZ),Nd K (kd (c+1)) d ds v vs cs/\(∀x∈cs,g x.1=some (i,p++x.2.1)/\H x.1=some x.2.2/\F x.1=none)/\ds.length=vs.length /\
   ∀(k:Nat)(d':D)(v':V),ds[k]?=some d'->vs[k]?=some v'->bC K F H g i (ch (c+1) k) (p++[k]) d' v':=by
 let⟨ds,vs,cs,nd,hc,hl,r⟩:=h;exact⟨ds,vs,cs,nd,hc,hl,λk d' v' q1 q2=>iK.fuel M6 (È _) (r k d' v' q1 q2)⟩
def bC.shut{K:ZC}{F H:Hp}{g:ZP}{i c:Nat}{p:ZH}{d:D}{v:V}{ds:ZI}{vs:List V}{cs:List TZ}(nd:Nd K (kd (c+1)) d ds v vs cs)(hc:∀x∈cs,g x.1=some (i,p++x.2.1)/\H x.1=some x.2.2/\F x.1=none)(hl:ds.length=vs.length)(r:∀(k:Nat)(d':D)(v':V),ds[k]?=some d'->vs[k]?=some v'->bC K F H g i (ch (c+1) k) (p++[k]) d' v'):bC K F H g i (c+1) p d v:=
 ⟨ds,vs,cs,nd,hc,hl,λk d' v' q1 q2=>iK.fuel (È _) M6 (r k d' v' q1 q2)⟩
def bC.lst{K:ZC}{i c m:Nat}(h:bC K F H g i (c+1) p d v)(hk:↥(kd (c+1)=0))(hm:∀k,ch (c+1) k=m:=by intro k;rfl):
  ∃(a:Addr)(ds:ZI)(vs:List V),d=.list ds/\v=.ref a/\g a=some (i,p)/\H a=some (.lst vs)/\F a=none/\ds.length=vs.length /\
   ∀(k:Nat)(d':D)(v':V),ds[k]?=some d'->vs[k]?=some v'->bC K F H g i m (p++[k]) d' v':=by
 let⟨ds,vs,cs,nd,hc,hl,r⟩:=h.open;rw[hk]at nd;let⟨a,rfl,rfl,rfl⟩:=nd;let⟨a1,a2,a3⟩:=hc _ (ì.mpr rfl);exact⟨a,ds,vs,rfl,rfl,by simpa using a1,a2,a3,hl,λk d' v' q1 q2=>by rw[<- hm k];exact r k d' v' q1 q2⟩
def bC.mkL{K:ZC}{g:ZP}(h:∃(a:Addr)(ds:ZI)(vs:List V),d=.list ds/\v=.ref a/\g a=some (i,p)/\H a=some (.lst vs)/\F a=none/\ds.length=vs.length /\
   ∀(k:Nat)(d':D)(v':V),ds[k]?=some d'->vs[k]?=some v'->bC K F H g i m (p++[k]) d' v')(hk:↥(kd (c+1)=0))(hm:∀k,ch (c+1) k=m:=by intro k;rfl):bC K F H g i (c+1) p d v:=by
 let⟨a,ds,vs,e1,e2,e3,e4,e5,e6,h⟩:=h;refine bC.shut (ds:=ds) (vs:=vs) (cs:=[(a,[],.lst vs)]) (by rw[hk];exact⟨a,e1,e2,rfl⟩) (λx hx=>?_) e6 λk d' v' q1 q2=>by rw[hm k];exact h k d' v' q1 q2
 rw[ì.mp hx];exact⟨by simpa using e3,e4,e5⟩
def bC.keepJ{K:ZC}{g g':ZP}(hF:aM F F')(h:∀a p o,g a=some (i,p)->H a=some o->F a=none->g' a=some (j,p)/\H' a=some o/\F' a=none)(r:bC K F H g i n p d v):bC K F' H' g' j n p d v:=
 iK.trans (q:=[]) hF h r
def bC.mono{K:ZC}(hF:aM F F')(hg:∀a l,l.1=i->g a=some l->g' a=some l)(hn:∀a l,l.1=i->g a=some l->F a=none->F' a=none)(hH:∀a l o,l.1=i->g a=some l->H a=some o->H' a=some o)(r:bC K F H g i n p d v):bC K F' H' g' i n p d v:=r.keepJ hF λa p o e1 e2 e3=>⟨hg a _ rfl e1,hH a _ _ rfl e1 e2,hn a _ rfl e1 e3⟩
def bC.relab{K:ZC}{g g':ZP}(hg:∀a p,g a=some (i,p)->g' a=some (j,p))(r:bC K F H g i n p d v):bC K F H g' j n p d v:=
 r.keepJ (λ_ _ z=>z) λa p o e1 e2 e3=>⟨hg a p e1,e2,e3⟩
def Nd.rep{K:ZC}{F:Hp}{k:Nat}{d:D}{ds:ZI}{v:V}{vs:List V}{cs:List TZ}(nd:Nd K k d ds v vs cs)(hc:∀x∈cs,F x.1=some x.2.2)(hl:ds.length=vs.length)(r:aE K F ds vs):bG K F d v:=by
 unfold Nd at nd;split at nd
 .obtain⟨a,rfl,rfl,rfl⟩:=nd
  unfold bG;exact⟨a,vs,rfl,eV.of (hc _ (ì.mpr rfl)),r⟩
 .obtain⟨a,rfl,rfl,rfl⟩:=nd
  unfold bG;exact⟨a,vs,rfl,rO.of (hc _ (ì.mpr rfl)),r⟩
 .obtain⟨a,nm,fs,C,dx,rfl,rfl,hfl,hC,rfl⟩:=nd
  have h1:=hc _ (Õ);have h2:=hc _ (Ó _ (ì.mpr rfl));unfold dS bG;refine⟨a,.str nm::vs,rfl,.inl ⟨nm,fs,C,dx,vs,rfl,?_,by grind,h1,h2,hC⟩,?_⟩
  .rw[Ð,Đ 'i']
  .unfold iE
   exact⟨_,_,rfl,by unfold bG;rfl,xB 'i' r⟩
 .obtain⟨a,ms,rfl,rfl,hm,rfl⟩:=nd
  unfold kU bG;refine⟨a,vs,rfl,.inr ⟨ms,?_,by grind,hc _ (ì.mpr rfl)⟩,xB 'i' r⟩;rw[Đ 'i']
def iK.froze{K:ZC}{g:ZP}(hF:aM F F')(h:∀a p o,g a=some (i,p)->H a=some o->F a=none->F' a=some o):
  ∀{f c:Nat}{p:ZH}{d:D}{v:V},iK K F H g i f c p d v->bG K F' d v
 |0,0,_,d,v,r=>hF.rep d v r
 |_+1,0,_,d,v,r=>hF.rep d v r
 |_+1,_+1,p,d,v,⟨ds,vs,cs,nd,hc,hl,r⟩=>nd.rep (λx hx=>by
   let⟨a1,a2,a3⟩:=hc x hx;exact h _ _ _ a1 a2 a3) hl (aE.of hl λk d' v' q1 q2=>iK.froze hF h (r k d' v' q1 q2))
def Z4(g:ZP)(i:Nat)(F H:Hp):Hp:=λb=>open Classical in if ∃p,g b=some (i,p)then (if F b=none then H b else F b)else F b
def aGW{g:ZP}{i:Nat}{F H:Hp}{b:Addr}{p:ZH}(h:g b=some (i,p))(hn:F b=none):Z4 g i F H b=H b:=by
 unfold Z4;rw[Â ⟨p,h⟩,Â hn]
def M7{g:ZP}{i:Nat}{F H:Hp}{b:Addr}(h:∀p,g b≠some (i,p)):Z4 g i F H b=F b:=by
 unfold Z4;rw[Ä λzQ=>by let⟨p,e⟩:=zQ;exact h p e]
def nA:aM F (Z4 g i F H):=λb o e=>by
 unfold Z4
 simp_all
def aA1(hs:aM F H):aM (Z4 g i F H) H:=λb o e=>by
 unfold Z4 at e;split at e
 .split at e
  .exact e
  .exact hs b o e
 .exact hs b o e
def bC.freeze{K:ZC}(r:bC K F H g i n p d v):bG K (Z4 g i F H) d v:=
 iK.froze nA (λa p o e1 e2 e3=>by rw[aGW e1 e3];exact e2) r
section
variable {K:ZC}{Z:cB}{ow:ZH}{g:ZP}{F H:Hp}{σ:St}{δ:DS}
def Ě(g:ZP)(i:Nat):ZP:=λb=>open Classical in if ∃p,g b=some (i,p)then none else g b
def K6{g:ZP}{i:Nat}{a:Addr}{l:ť}(h:l.1≠i)(e:g a=some l):Ě g i a=some l:=by
 unfold Ě
 grind
def K7(e:Ě g i a=some l):g a=some l/\l.1≠i:=by
 unfold Ě at e;split at e
 all_goals grind
def bV.freeze(R:bV K Z ow g F H σ δ)(i:Nat)(hP:i∉Z.ps):bV K Z (ow.set i 0) (Ě g i) (Z4 g i F H) H σ δ:=by
 refine⟨aA1 R.sub,R.f0.trans' nA,R.kept,λa h1 h2=>?_,R.there,λa j p e=>R.lab a j p (K7 e).1,R.len,λj hj=>⟨(R.par j hj).1,?_⟩,λj d e=>?_⟩
 .have q:∀p,g a≠some (i,p):=λp e=>(R.lab a i p e).elim h2 λ⟨q,z⟩=>hP (Z.wf a i q z)
  rw[M7 q];exact R.new a h1 h2
 .have:j≠i:=λe=>hP (by rw[<- e];exact hj)
  rw[Ë,Ù (Í this),<- Ë];exact(R.par j hj).2
 .obtain⟨v,e1,o⟩:=R.slot j d e
  refine⟨v,e1,?_⟩;by_cases hj:j=i
  .subst hj
   have:(ow.set j 0).getD j 0=0:=by
    rw[Ë,Ď];split
    .split<;>rfl
    .grind
   rw[this];exact o.freeze
  .have:(ow.set i 0).getD j 0=ow.getD j 0:=by rw[Ë,Ë,Ù (Í hj)]
   rw[this];exact o.mono nA (λa l hl e=>K6 (by rw[hl];exact hj) e) (λa l hl e hn=>by rw[M7 (λp q=>by grind)];exact hn) λ_ _ _ _ _ h=>h
structure aS(Z:cB)(ow:ZH):Prop where
 ow:ow.length<=1000
 ps:1000∉Z.ps
def gB.freeze(S:aS Z ow)(R:gB K Z ow n d v F H σ δ):∃F',aM F F'/\gB K Z ow 0 d v F' H σ δ:=by
 let⟨g,R,o⟩:=R;have R':=R.freeze 1000 S.ps;rw[List.set_eq_of_length_le S.ow]at R';exact⟨_,nA,_,R',o.freeze⟩
def gB.rel(R:gB K Z ow n d v F H σ δ):cS K Z ow F H σ δ:=let ⟨g,R,_⟩:=R;⟨g,R⟩
def gB.rep(R:gB K Z ow 0 d v F H σ δ):bG K F d v:=let ⟨_,_,o⟩:=R;o
def cS.x(R:cS K Z ow F H σ δ)(h:bG K F d v):gB K Z ow 0 d v F H σ δ:=let ⟨g,R⟩:=R;⟨g,R,h⟩
def cS.sub(R:cS K Z ow F H σ δ):aM F H:=let ⟨_,R⟩:=R;R.sub
def bV.laid(R:bV K Z ow g F H σ δ)(hp:H p=none):bV K Z ow g (aY F p o) (aY H p o) σ δ:=by
 have fp:F p=none:=by
  cases e:F p with
  |none=>rfl
  |some u=>rw[R.sub p u e]at hp;cases hp
 have z:Z.H0 p=none:=by
  cases e:Z.H0 p with
  |none=>rfl
  |some u=>exact absurd hp (R.there p (by rw[e];simp))
 refine⟨λb u e=>?_,R.f0.trans' (cI fp o),λb u n e=>?_,λa h1 h2=>?_,λb h=>?_,R.lab,R.len,R.par,λi d e=>?_⟩
 .by_cases hb:b=p
  .subst hb;rw[aP]at e⊢;exact e
  .rw[aH hb]at e⊢;exact R.sub b u e
 .have:b≠p:=λq=>by rw[q,z]at e;cases e
  rw[aH this];exact R.kept b u n e
 .have:a≠p:=λq=>h2 (by rw[q,z])
  rw[aH this];exact R.new a h1 h2
 .have:b≠p:=λq=>h (by rw[q,z])
  rw[aH this];exact R.there b h
 .obtain⟨v,e1,ho⟩:=R.slot i d e
  refine⟨v,e1,?_⟩;refine ho.keepJ (cI fp o) λa q u e1 e2 e3=>?_;have:a≠p:=λz=>by rw[z,hp]at e2;cases e2
  exact⟨e1,by rw[aH this];exact e2,by rw[aH this];exact e3⟩
def cS.laid(R:cS K Z ow F H σ δ)(hp:H p=none):cS K Z ow (aY F p o) (aY H p o) σ δ:=let ⟨g,R⟩:=R;⟨g,R.laid hp⟩
def cS.fnone(R:cS K Z ow F H σ δ)(hp:H p=none):F p=none:=by
 cases e:F p with
 |none=>rfl
 |some u=>rw[R.sub p u e]at hp;cases hp
def cS.newList(S:aS Z ow)(R:cS K Z ow F H σ δ)(hp:H p=none)(h:aE K F ds vs):gB K Z ow 1 'r' (.ref p) F (aY H p (.lst vs)) σ δ:=by
 have fp:=R.fnone hp;let⟨g,R⟩:=R;have z:Z.H0 p=none:=by
  cases e:Z.H0 p with
  |none=>rfl
  |some u=>exact absurd hp (R.there p (by rw[e];simp))
 refine⟨λb=>if b=p then some (1000,[])else Ě g 1000 b,⟨R.sub.trans' (cI hp _),R.f0,λb u n e=>?_,R.new,λb h=>?_,λa i q e=>?_,R.len,R.par,λi d e=>?_⟩,?_⟩
 .have:b≠p:=λq=>by rw[q,z]at e;cases e
  rw[aH this];exact R.kept b u n e
 .have:b≠p:=λq=>h (by rw[q,z])
  rw[aH this];exact R.there b h
 .split at e
  .rename_i q;rw[q];exact .inl z
  .exact R.lab a i q (K7 e).1
 .obtain⟨v,e1,o⟩:=R.slot i d e
  refine⟨v,e1,?_⟩;by_cases hi:ow.getD i 0=0
  .rw[hi]at o⊢;exact o
  .have hi':i<1000:=by
    by_cases hl:i<ow.length
    .exact Ô hl S.ow
    .exact absurd (by rw[Ë,à (by exact ã.mp ‹_›)];rfl) hi
   refine o.keepJ (λ_ _ z=>z) λa q u e1 e2 e3=>?_;have:a≠p:=λz=>by rw[z,hp]at e2;cases e2
   exact⟨by rw[Ä this];exact K6 (by show i≠1000;exact Ì ‹_›) e1,by rw[aH this];exact e2,e3⟩
 .refine bC.mkL (m:=0) ?_
  exact⟨p,ds,vs,rfl,rfl,by rw[Â rfl],aP,fp,h.len,λk d' v' q1 q2=>h.both k d' v' q1 q2⟩
end
def PE.mono(h:PE X e t)(hm:∀σ H Q,t' σ H Q->t σ H Q):PE X e t':=λÀ s σ H Q I q=>h À s σ H Q I (hm σ H Q q)
def PT.mono(h:PT X e t)(hm:∀σ H Q,t' σ H Q->t σ H Q):PT X e t':=λÀ s σ H Q I q=>h À s σ H Q I (hm σ H Q q)
def PA.mono(h:PA X es t)(hm:∀σ H Q,t' σ H Q->t σ H Q):PA X es t':=λpos À s σ H Q I q=>h pos À s σ H Q I (hm σ H Q q)
def PS.mono{st:Stmt}(h:PS X st t)(hm:∀D σ H,t' D σ H->t D σ H):PS X st t':=λÀ s σ H D I q=>h À s σ H D I (hm D σ H q)
def C8.mono{st:List Stmt}(h:C8 X st t)(hm:∀D σ H,t' D σ H->t D σ H):C8 X st t':=λÀ s σ H D I q=>h À s σ H D I (hm D σ H q)
def XP(X:Cx)(Z:cB)(À:ZB)(F:Hp)(x:D)(δ:DS)(e:Value)(s:Shared):Prop:=
 ∃nm H F' σ,x=.str nm/\Inv X À σ H s/\cS X.K Z Z.owp F' H σ δ/\aM F F'/\TY X À H s nm e
structure iQ(X:Cx)(Z:cB)(ow:ZH)(F:Hp)(x:D)(δ:DS):Prop where
 out:∀À e s,XP X Z À F x δ e s->X.xe e s
def iQ.mono(h:iQ X Z ow F x δ)(s:aM F F'):iQ X Z ow F' x δ:=⟨λÀ e st z=>by
 let⟨nm,H,F1,σ,h1,h2,h3,h4,h5⟩:=z;exact h.out À e st ⟨nm,H,F1,σ,h1,h2,h3,s.trans' h4,h5⟩⟩
def iQ.cast(h:iQ X Z ox F x δ):iQ X Z ow F x δ:=⟨h.out⟩
def T0(Z:cB):Bool:=(List.range Z.owp.length).all λi=>Z.ps.contains i || Z.owp.getD i 0 == 0
def aGY(h:T0 Z=true)(hi:i∉Z.ps):Z.owp.getD i 0=0:=by
 by_cases hl:i<Z.owp.length
 .have:=é.mp h i (List.mem_range.mpr hl)
  grind
 grind
section
variable {K:ZC}{Z:cB}{ow:ZH}{g:ZP}{F H:Hp}{σ:St}{δ:DS}
def ĉ(ps:ZH)(g:ZP)(F H:Hp):Hp:=λb=>open Classical in if ∃i p,g b=some (i,p)/\i∉ps then (if F b=none then H b else F b)else F b
def T1(ps:ZH)(g:ZP):ZP:=λb=>open Classical in if ∃i p,g b=some (i,p)/\i∉ps then none else g b
def sA:aM F (ĉ ps g F H):=λb o e=>by
 unfold ĉ
 simp_all
def aA3(hs:aM F H):aM (ĉ ps g F H) H:=λb o e=>by
 unfold ĉ at e;split at e
 .split at e
  .exact e
  .exact hs b o e
 .exact hs b o e
def bC.freezeN(hi:i∉ps)(r:bC K F H g i n p d v):bG K (ĉ ps g F H) d v:=
 iK.froze sA (λa p o e1 e2 e3=>by unfold ĉ;rw[Â ⟨i,p,e1,hi⟩,Â e3];exact e2) r
def cS.toP(hz:T0 Z=true)(R:cS K Z ow F H σ δ):∃F',aM F F'/\cS K Z Z.owp F' H σ δ:=by
 let⟨g,R⟩:=R;refine⟨ĉ Z.ps g F H,sA,T1 Z.ps g,aA3 R.sub,R.f0.trans' sA,R.kept,λa h1 h2=>?_,R.there,λa i p e=>?_,R.len,λi hi=>⟨(R.par i hi).1,rfl⟩,λi d e=>?_⟩
 .unfold ĉ
  rw[Ä]
  .exact R.new a h1 h2
  .rintro⟨i,p,e,hi⟩
   rcases R.lab a i p e with z|⟨q,z⟩
   .exact h2 z
   .exact hi (Z.wf a i q z)
 .unfold T1 at e
  split at e
  .cases e
  .exact R.lab a i p e
 .obtain⟨v,e1,o⟩:=R.slot i d e
  refine⟨v,e1,?_⟩;by_cases hi:i∈Z.ps
  .rw[<- (R.par i hi).2]
   refine o.mono sA (λa l hl e=>?_) (λa l hl e hn=>?_) λ_ _ _ _ _ h=>h
   .unfold T1
    grind
   .unfold ĉ
    grind
  .rw[aGY hz hi]
   exact o.freezeN hi
end
def kD(X:Cx)(Z:cB)(ow:ZH)(n:Nat)(r:Res D)(F:Hp)(σ:St)(Q:VK):Prop:=match r with
 |.ok d δ=>∀v H' F',gB X.K Z ow n d v F' H' σ δ->aM F F'->Q v H'
 |.err x δ=>iQ X Z ow F x δ
 |.stuck=>False
def tD(X:Cx)(Z:cB)(ow:ZH)(n:Nat)(f:M D):TE:=λσ H Q=>∃F δ,cS X.K Z ow F H σ δ/\kD X Z ow n (f δ) F σ Q
def DE(X:Cx)(Z:cB)(ow:ZH)(n:Nat)(e:Expr)(f:M D):Prop:=PE X e (tD X Z ow n f)
def kT(X:Cx)(Z:cB)(ow:ZH)(r:Res Bool)(F:Hp)(σ:St)(Q:Bool->Hp->Prop):Prop:=match r with
 |.ok b δ=>∀H' F',cS X.K Z ow F' H' σ δ->aM F F'->Q b H'
 |.err x δ=>iQ X Z ow F x δ
 |.stuck=>False
def tT(X:Cx)(Z:cB)(ow:ZH)(f:M Bool):TT:=λσ H Q=>∃F δ,cS X.K Z ow F H σ δ/\kT X Z ow (f δ) F σ Q
def DT(X:Cx)(Z:cB)(ow:ZH)(e:Expr)(f:M Bool):Prop:=PT X e (tT X Z ow f)
inductive Arg where
 |own (i:Nat)
 |val (f:M D)
def sC(K:ZC)(F:Hp)(σ:St):List Arg->List (ZL)->List V->Prop
 |[],[],[]=>True
 |.own i::as,none::ds,v::vs=>σ[i]?=some (some v)/\sC K F σ as ds vs
 |.val _::as,some d::ds,v::vs=>bG K F d v/\sC K F σ as ds vs
 |_,_,_=>False
def cK:List Arg->M (List (ZL))
 |[]=>λδ=>.ok [] δ
 |.own i::as=>λδ=>match δ[i]? with
  |some (some _)=>(cK as δ).bind λds δ'=>.ok (none::ds) δ'
  |_=>.stuck
 |.val f::as=>λδ=>(f δ).bind λd δ1=>(cK as δ1).bind λds δ2=>.ok (some d::ds) δ2
def kA(X:Cx)(Z:cB)(ow:ZH)(as:List Arg)(r:Res (List (ZL)))(F:Hp)(σ:St)(Q:List V->Hp->Prop):Prop:=match r with
 |.ok ds δ=>∀vs H' F',cS X.K Z ow F' H' σ δ->aM F F'->sC X.K F' σ as ds vs->Q vs H'
 |.err x δ=>iQ X Z ow F x δ
 |.stuck=>False
def ł(X:Cx)(Z:cB)(ow:ZH)(as:List Arg):TA:=λσ H Q=>∃F δ,cS X.K Z ow F H σ δ/\kA X Z ow as (cK as δ) F σ Q
def DA(X:Cx)(Z:cB)(ow:ZH)(es:List Expr)(as:List Arg):Prop:=PA X es (ł X Z ow as)
section
variable {X:Cx}{Z:cB}{ow:ZH}{pos:Pos}
def kD.mono(h:kD X Z ow n r F σ Q)(s:aM F F1)(q:∀v H',Q v H'->Q' v H'):kD X Z ow n r F1 σ Q':=by
 cases r with
 |ok d δ=>exact λv H' F' R s'=>q v H' (h v H' F' R (s.trans' s'))
 |err x δ=>exact iQ.mono h s
 |stuck=>exact h
def kT.mono{Q Q':Bool->Hp->Prop}(h:kT X Z ow r F σ Q)(s:aM F F1)(q:∀v H',Q v H'->Q' v H'):kT X Z ow r F1 σ Q':=by
 cases r with
 |ok d δ=>exact λH' F' R s'=>q _ H' (h H' F' R (s.trans' s'))
 |err x δ=>exact iQ.mono h s
 |stuck=>exact h
def aK(i:Nat):M D:=λδ=>match δ[i]? with
 |some (some d)=>.ok d δ
 |_=>.stuck
def dC(d:D):M D:=λδ=>.ok d δ
def aT(i:Nat){x:Str}(ho:↥(ow.getD i 0=0))(hN:↥'q')(hv:#v[AR X.env.scope x])(hd:⇑(Zdb x))(hcd:⇑(Zcd x)):DE X Z ow 0 (.Name x pos) (aK i):=
 (dM hN hv hd hcd).mono λσ H Q h=>by
  let⟨F,δ,R,h⟩:=h;unfold aK at h;cases e:δ[i]? with
  |none=>sleep 1
  |some o=>
   cases o with
   |none=>sleep 1
   |some d=>
    rw[e]at h;let⟨g,R⟩:=R;let⟨v,e1,o⟩:=R.slot i d e;rw[ho]at o;exact⟨v,e1,h v H F ⟨g,R,o⟩ λ_ _ z=>z⟩
def nB(h:PE X e (tC v))(hr:∀F,bG X.K F d v):DE X Z ow 0 e (dC d):=h.mono λσ H Q h=>by
 let⟨F,δ,⟨g,R⟩,h⟩:=h;exact h v H F ⟨g,R,hr F⟩ λ_ _ z=>z
def aL:DE X Z ow 0 (.Constant (.int i) j pos) (dC (.int i)):=nB aFV λF=>by unfold bG;rfl
def xI{b:Bool}:DE X Z ow 0 (.Constant (.bool b) j pos) (dC (.bool b)):=nB aJ2 λF=>by unfold bG;rfl
def fI:DE X Z ow 0 (.Constant .none j pos) (dC .none):=nB aFW λF=>by unfold bG;rfl
def fL:DE X Z ow 0 (.Constant (.str x) j pos) (dC (.str x)):=nB aFX λF=>by unfold bG;rfl
def fC(op:D->D->ZL)(f g:M D):M D:=λδ=>(f δ).bind λx δ1=>(g δ1).bind λy δ2=>match op x y with
 |some z=>.ok z δ2
 |none=>.stuck
def pZ(X:Cx)(r:R2)(n:Nat)(op:D->D->ZL):Prop:=∀(Z:cB)(ow:ZH)(F H:Hp)(σ:St)(δ:DS)(a b:D)(x y:V)(d:D)(Q:VK),aS Z ow->cS X.K Z ow F H σ δ->bG X.K F a x->bG X.K F b y->op a b=some d ->
 (∀v H' F',gB X.K Z ow n d v F' H' σ δ->aM F F'->Q v H')->r x y H Q
def DW(S:aS Z ow)(os:pZ X r n op)(h:tD X Z ow n (fC op f g) σ H Q):Ĭ r (tD X Z ow 0 f) (tD X Z ow 0 g) σ H Q:=by
 let⟨F,δ,R,h⟩:=h;unfold fC at h;sleep 3;cases e:f δ with
 |stuck=>sleep 1
 |err x δ1=>rw[e]at h;exact h
 |ok d1 δ1=>
  rw[e]at h;intro x H1 F1 R1 s1;refine⟨F1,δ1,R1.rel,?_⟩;simp![Res.bind]at h;cases e2:g δ1 with
  |stuck=>rw[e2]at h;exact h.elim
  |err x δ2=>rw[e2]at h;exact iQ.mono h s1
  |ok d2 δ2=>
   rw[e2]at h;simp![Res.bind]at h;intro y H2 F2 R2 s2;cases e3:op d1 d2 with
   |none=>rw[e3]at h;exact h.elim
   |some d=>
    rw[e3]at h;exact os Z ow F2 H2 σ δ2 d1 d2 x y d Q S R2.rel (s2.rep _ _ R1.rep) R2.rep e3 λv H' F' R' s'=>h v H' F' R' (s1.trans' (s2.trans' s'))
def vK(S:aS Z ow)(ho:iU X (binaryOp o) r)(os:pZ X r n op)(ha:DE X Z ow 0 a f)(hb:DE X Z ow 0 b g):DE X Z ow n (.BinOp a o b pos) (fC op f g):=
 (aKG ho ha hb).mono λ_ _ _ h=>DW S os h
def kB(S:aS Z ow)(ho:iU X (compareOp o) r)(os:pZ X r 0 op)(ha:DE X Z ow 0 a f)(hb:DE X Z ow 0 b g)(hm:behindInMarks o b=false):DE X Z ow 0 (.Compare a [o] [b] pos) (fC op f g):=
 (aAK ho ha hb hm).mono λ_ _ _ h=>DW S os h
def dB(f:M D):M Bool:=λδ=>(f δ).bind λd δ1=>match d with
 |.bool b=>.ok b δ1
 |_=>.stuck
def T2{Q:Bool->Hp->Prop}(h:tT X Z ow (dB f) σ H Q):tD X Z ow 0 f σ H (λx H'=>∃k,x=.bl k/\Q k H'):=by
 let⟨F,δ,R,h⟩:=h;unfold dB at h;sleep 3;cases e:f δ with
 |stuck=>sleep 1
 |err x δ1=>rw[e]at h;exact h
 |ok d1 δ1=>
  rw[e]at h;intro x H1 F1 R1 s1;simp![Res.bind]at h;cases d1 with
  |bool k=>
   have q:=R1.rep;unfold bG at q;exact⟨k,q,h H1 F1 R1.rel s1⟩
  |_=>exact h.elim
def bE(S:aS Z ow)(ho:iU X (compareOp o) r)(os:pZ X r 0 op)(ha:DE X Z ow 0 a f)(hb:DE X Z ow 0 b g)(hm:behindInMarks o b=false):DT X Z ow (.Compare a [o] [b] pos) (dB (fC op f g)):=
 (aAL ho ha hb hm).mono λ_ _ _ h=>DW S os (T2 h)
def fU(h:DE X Z ow 0 e f)(he: ~~~(∀whole,isTrue e X.env whole=(do let v <- whole;standAt e.pos;holding [v] (truthy v)))):DT X Z ow e (dB f):=(aF0 h he).mono λ_ _ _ h=>T2 h
def mU(f:M Bool):M Bool:=λδ=>(f δ).bind λb δ1=>.ok (!b) δ1
def qL{f:M Bool}(h:DT X Z ow e f):DT X Z ow (.UnaryOp .Not e pos) (mU f):=(aF3 h).mono λσ H Q h=>by
 let⟨F,δ,R,h⟩:=h;unfold mU at h;sleep 3;cases e:f δ with
 |stuck=>sleep 1
 |err x δ1=>rw[e]at h;exact h
 |ok b δ1=>rw[e]at h;exact h
def BQ(f g:M Bool):M Bool:=λδ=>(f δ).bind λb δ1=>if b=true then g δ1 else .ok false δ1
def AV(f g:M Bool):M Bool:=λδ=>(f δ).bind λb δ1=>if b=true then .ok true δ1 else g δ1
def PW.mono(h:PW X e t)(hm:∀σ H Q,t' σ H Q->t σ H Q):PW X e t':=λwh À s σ H Q I q=>h wh À s σ H Q I (hm σ H Q q)
def K8{f g:M Bool}{rest:List Expr}(ha:DT X Z ow a f)(hb:PW X (.BoolOp .And (b::rest) pos) (tT X Z ow g)):PW X (.BoolOp .And (a::b::rest) pos) (tT X Z ow (BQ f g)):=(aF2 ha hb).mono λσ H Q h=>by
 let⟨F,δ,R,h⟩:=h;unfold BQ at h;sleep 3;cases e:f δ with
 |stuck=>sleep 1
 |err x δ1=>rw[e]at h;exact h
 |ok k δ1=>
  rw[e]at h;simp![Res.bind]at h;intro H1 F1 R1 s1;cases k with
  |true=>rw[Â rfl]at h⊢;exact⟨F1,δ1,R1,h.mono s1 λ_ _ z=>z⟩
  |false=>rw[Ä Ú]at h⊢;exact h H1 F1 R1 s1
def vL{f g:M Bool}{rest:List Expr}(ha:DT X Z ow a f)(hb:PW X (.BoolOp .Or (b::rest) pos) (tT X Z ow g)):PW X (.BoolOp .Or (a::b::rest) pos) (tT X Z ow (AV f g)):=(aJ3 ha hb).mono λσ H Q h=>by
 let⟨F,δ,R,h⟩:=h;unfold AV at h;sleep 3;cases e:f δ with
 |stuck=>sleep 1
 |err x δ1=>rw[e]at h;exact h
 |ok k δ1=>
  rw[e]at h;simp![Res.bind]at h;intro H1 F1 R1 s1;cases k with
  |true=>rw[Â rfl]at h⊢;exact h H1 F1 R1 s1
  |false=>rw[Ä Ú]at h⊢;exact⟨F1,δ1,R1,h.mono s1 λ_ _ z=>z⟩
def Ģ(c:M Bool)(f g:M D):M D:=λδ=>(c δ).bind λb δ1=>if b=true then f δ1 else g δ1
def Ξ(hc:DT X Z ow c h)(ha:DE X Z ow n a f)(hb:DE X Z ow n b g):DE X Z ow n (.IfExp c a b pos) (Ģ h f g):=(SW hc ha hb).mono λσ H Q q=>by
 let⟨F,δ,R,q⟩:=q;unfold Ģ at q;sleep 3;cases e:h δ with
 |stuck=>rw[e]at q;sleep 4
 |err x δ1=>rw[e]at q;exact q
 |ok k δ1=>
  rw[e]at q;simp![Res.bind]at q;intro H1 F1 R1 s1;cases k with
  |true=>rw[Â rfl]at q⊢;exact⟨F1,δ1,R1,q.mono s1 λ_ _ z=>z⟩
  |false=>rw[Ä Ú]at q⊢;exact⟨F1,δ1,R1,q.mono s1 λ_ _ z=>z⟩
def bW(S:aS Z ow)(h:DE X Z ow n e f):DE X Z ow 0 e f:=PE.mono h λσ H Q h=>by
 let⟨F,δ,R,h⟩:=h;sleep 3;cases e:f δ with
 |stuck=>sleep 1
 |err x δ1=>rw[e]at h;exact h
 |ok d δ1=>
  rw[e]at h;intro v H1 F1 R1 s1;let⟨F2,s2,R2⟩:=R1.freeze S;exact h v H1 F2 R2 (s1.trans' s2)
end
def bD:List (M D)->M (ZI)
 |[]=>λδ=>.ok [] δ
 |f::fs=>λδ=>(f δ).bind λd δ1=>(bD fs δ1).bind λds δ2=>.ok (d::ds) δ2
def kV'(X:Cx)(Z:cB)(ow:ZH)(r:Res (ZI))(F:Hp)(σ:St)(Q:List V->Hp->Prop):Prop:=match r with
 |.ok ds δ=>∀vs H' F',cS X.K Z ow F' H' σ δ->aM F F'->aE X.K F' ds vs->Q vs H'
 |.err x δ=>iQ X Z ow F x δ
 |.stuck=>False
def tV(X:Cx)(Z:cB)(ow:ZH)(fs:List (M D)):TA:=λσ H Q=>∃F δ,cS X.K Z ow F H σ δ/\kV' X Z ow (bD fs δ) F σ Q
def DV(X:Cx)(Z:cB)(ow:ZH)(es:List Expr)(fs:List (M D)):Prop:=PA X es (tV X Z ow fs)
section
variable {X:Cx}{Z:cB}{ow:ZH}{n:Nat}{pos:Pos}{e:Expr}{es:List Expr}{fs:List (M D)}
def bH:DV X Z ow [] []:=iV.mono λσ H Q h=>by
 let⟨F,δ,R,h⟩:=h;exact h [] H F R 'm' iW
def aI(he:DE X Z ow 0 e f)(hs:DV X Z ow es fs)(hst:↥(Zse e es X.env)):DV X Z ow (e::es) (f::fs):=(eW he hs hst).mono λσ H Q h=>by
 let⟨F,δ,R,h⟩:=h;unfold bD at h;sleep 3;cases e1:f δ with
 |stuck=>rw[e1]at h;exact h.elim
 |err x δ1=>rw[e1]at h;exact h
 |ok d δ1=>
  rw[e1]at h;simp![Res.bind]at h;intro x H1 F1 R1 s1;refine⟨F1,δ1,R1.rel,?_⟩;cases e2:bD fs δ1 with
  |stuck=>rw[e2]at h;exact h.elim
  |err x δ2=>rw[e2]at h;exact iQ.mono h s1
  |ok ds δ2=>
   rw[e2]at h;intro vs H2 F2 R2 s2 z;exact h (x::vs) H2 F2 R2 (s1.trans' s2) (lR (s2.rep _ _ R1.rep) z)
def bS:DA X Z ow [] []:=iV.mono λσ H Q h=>by
 let⟨F,δ,R,h⟩:=h;exact h [] H F R 'm' trivial
def aJ(he:DE X Z ow 0 e f)(hs:DA X Z ow es as)(hst:↥(Zse e es X.env)):DA X Z ow (e::es) (.val f::as):=(eW he hs hst).mono λσ H Q h=>by
 let⟨F,δ,R,h⟩:=h;unfold cK at h;sleep 3;cases e1:f δ with
 |stuck=>rw[e1]at h;exact h.elim
 |err x δ1=>rw[e1]at h;exact h
 |ok d δ1=>
  rw[e1]at h;simp![Res.bind]at h;intro x H1 F1 R1 s1;refine⟨F1,δ1,R1.rel,?_⟩;cases e2:cK as δ1 with
  |stuck=>rw[e2]at h;exact h.elim
  |err x δ2=>rw[e2]at h;exact iQ.mono h s1
  |ok ds δ2=>
   rw[e2]at h;intro vs H2 F2 R2 s2 z;exact h (x::vs) H2 F2 R2 (s1.trans' s2) ⟨s2.rep _ _ R1.rep,z⟩
def K9(fs:List (M D)):M D:=λδ=>(bD fs δ).bind λds δ1=>if ds.length<=sizeLine then .ok (.tuple ds) δ1 else .stuck
def LA(fs:List (M D)):M D:=λδ=>(bD fs δ).bind λds δ1=>if ds.length<=sizeLine then .ok 'r' δ1 else .stuck
def qM{K:ZC}{F:Hp}{p:Addr}{ds:ZI}{vs:List V}(hp:F p=none)(h:aE K F ds vs):bG K (aY F p (.tup vs)) (.tuple ds) (.ref p):=by
 unfold bG;exact⟨p,vs,rfl,rO.of aP,(cI hp _).repAll ds vs h⟩
def cZ(h:DV X Z ow es fs):DE X Z ow 0 (.Tuple es x1 pos) (K9 fs):=(TH h).mono λσ H Q h=>by
 let⟨F,δ,R,h⟩:=h;unfold K9 at h;sleep 3;cases e:bD fs δ with
 |stuck=>sleep 1
 |err x δ1=>rw[e]at h;exact h
 |ok ds δ1=>
  rw[e]at h;simp![Res.bind]at h;intro vs H1 F1 R1 s1 z;split at h
  .rename_i hl
   refine⟨by rw[<- z.len];exact hl,λp hp=>?_⟩;have fp:=R1.fnone hp;exact h _ _ (aY F1 p (.tup vs)) ((R1.laid hp).x (qM fp z)) (s1.trans' (cI fp _))
  .exact h.elim
def dW(S:aS Z ow)(h:DV X Z ow es fs):DE X Z ow 1 (.List es pos) (LA fs):=(aGL h).mono λσ H Q h=>by
 let⟨F,δ,R,h⟩:=h;unfold LA at h;sleep 3;cases e:bD fs δ with
 |stuck=>sleep 1
 |err x δ1=>rw[e]at h;exact h
 |ok ds δ1=>
  rw[e]at h;simp![Res.bind]at h;intro vs H1 F1 R1 s1 z;split at h
  .rename_i hl
   exact⟨by rw[<- z.len];exact hl,λp hp=>h _ _ F1 (R1.newList S hp z) s1⟩
  .exact h.elim
def xJ(op:ZI->ZL)(fs:List (M D)):M D:=λδ=>(bD fs δ).bind λds δ1=>match op ds with
 |some d=>.ok d δ1
 |none=>.stuck
def ē(X:Cx)(r:List V->Hp->VK->Prop)(n:Nat)(op:ZI->ZL):Prop:=∀(Z:cB)(ow:ZH)(F H:Hp)(σ:St)(δ:DS)(ds:ZI)(vs:List V)(d:D)(Q:VK),aS Z ow->cS X.K Z ow F H σ δ->aE X.K F ds vs->op ds=some d ->
 (∀v H' F',gB X.K Z ow n d v F' H' σ δ->aM F F'->Q v H')->r vs H Q
def T3(S:aS Z ow)(os:ē X r n op)(h:tD X Z ow n (xJ op fs) σ H Q):ţ r (tV X Z ow fs) σ H Q:=by
 let⟨F,δ,R,h⟩:=h;unfold xJ at h;sleep 3;cases e:bD fs δ with
 |stuck=>sleep 1
 |err x δ1=>rw[e]at h;exact h
 |ok ds δ1=>
  rw[e]at h;simp![Res.bind]at h;intro vs H1 F1 R1 s1 z;cases e3:op ds with
  |none=>rw[e3]at h;exact h.elim
  |some d=>
   rw[e3]at h;exact os Z ow F1 H1 σ δ1 ds vs d Q S R1 z e3 λv H' F' R' s'=>h v H' F' R' (s1.trans' s')
def gZ{id:String}{p:Pos}(S:aS Z ow)(hc:gY X (.builtin id) r)(os:ē X r n op)(hg:Gl X x)(hm:X.mg x=none)(hv:bootBuiltins x=some (.builtin id))(ha:DV X Z ow (e::es) fs)(hn:⇑(x≠"__name__"))(hdb:⇑(Zdb x))(he:↥(Zse e es X.env))(hpl:↥(Zbt pos es X.env)):
  DE X Z ow n (.Call 'd' (e::es) [] pos) (xJ op fs):=PE.mono (rS hc hg hm hv ha hn hdb he hpl) λ_ _ _ h=>T3 S os h
def iR{p:Pos}(S:aS Z ow)(hc:gY X (.type T) r)(os:ē X r n op)(hg:Gl X x)(hm:X.mg x=none)(hv:bootBuiltins x=some (.type T))(ha:DV X Z ow (e::es) fs)(hn:⇑(x≠"__name__"))(hdb:⇑(Zdb x))(he:↥(Zse e es X.env))(hpl:↥(Zbt pos es X.env)):
  DE X Z ow n (.Call 'd' (e::es) [] pos) (xJ op fs):=PE.mono (t9 hc hg hm hv ha hn hdb he hpl) λ_ _ _ h=>T3 S os h
end
inductive Fl where
 |next|brk|cont
 |ret (d:D)
def kS(X:Cx)(Z:cB)(ow' ol ox:ZH)(rm:Nat)(r:Res Fl)(F:Hp)(Dn:wB):Prop:=match r with
 |.ok .next δ=>∀σ' H' F',cS X.K Z ow' F' H' σ' δ->aM F F'->Dn.nx σ' H'
 |.ok .brk δ=>∀σ' H' F',cS X.K Z ol F' H' σ' δ->aM F F'->Dn.bk σ' H'
 |.ok .cont δ=>∀σ' H' F',cS X.K Z ol F' H' σ' δ->aM F F'->Dn.ct σ' H'
 |.ok (.ret d) δ=>∀v σ' H' F' owr,gB X.K Z owr rm d v F' H' σ' δ->aM F F'->Dn.rt v H'
 |.err x δ=>iQ X Z ox F x δ
 |.stuck=>False
def tS(X:Cx)(Z:cB)(ow ow' ol ox:ZH)(rm:Nat)(f:M Fl):TS:=λDn σ H=>∃F δ,cS X.K Z ow F H σ δ/\kS X Z ow' ol ox rm (f δ) F Dn
def xK(X:Cx)(Z:cB)(ow ow' ol ox:ZH)(rm:Nat)(st:Stmt)(f:M Fl):Prop:=PS X st (tS X Z ow ow' ol ox rm f)
def AS(X:Cx)(Z:cB)(ow ow' ol ox:ZH)(rm:Nat)(st:List Stmt)(f:M Fl):Prop:=C8 X st (tS X Z ow ow' ol ox rm f)
section
variable {X:Cx}{Z:cB}{ow ow' ow1 ol ox:ZH}{n rm:Nat}{pos:Pos}{e:Expr}{f:M D}{st:Stmt}{sts:List Stmt}{u v:M Fl}{F:Hp}
def kS.mono(h:kS X Z ow' ol ox rm r F Dn)(s:aM F F1):kS X Z ow' ol ox rm r F1 Dn:=by
 cases r with
 |ok fl δ=>
  cases fl with
  |next=>exact λσ' H' F' R s'=>h σ' H' F' R (s.trans' s')
  |brk=>exact λσ' H' F' R s'=>h σ' H' F' R (s.trans' s')
  |cont=>exact λσ' H' F' R s'=>h σ' H' F' R (s.trans' s')
  |ret d=>exact λv σ' H' F' owr R s'=>h v σ' H' F' owr R (s.trans' s')
 |err x δ=>exact iQ.mono h s
 |stuck=>exact h
def iX:M Fl:=λδ=>.ok .next δ
def bB:AS X Z ow ow ol ox rm [] iX:=C8.mono C9 λDn σ H h=>by
 let⟨F,δ,R,h⟩:=h;exact h σ H F R 'm'
def GY:xK X Z ol ow' ol ox rm (.Continue pos) (λδ=>.ok .cont δ):=PS.mono GO λDn σ H h=>by
 let⟨F,δ,R,h⟩:=h;exact h σ H F R 'm'
def bO(u v:M Fl):M Fl:=λδ=>(u δ).bind λfl δ1=>match fl with
 |.next=>v δ1
 |fl=>.ok fl δ1
def aA(h1:xK X Z ow ow1 ol ox rm st u)(h2:AS X Z ow1 ow' ol ox rm sts v):AS X Z ow ow' ol ox rm (st::sts) (bO u v):=C8.mono (SX h1 h2) λDn σ H h=>by
 let⟨F,δ,R,h⟩:=h;unfold bO at h;sleep 3;cases e:u δ with
 |stuck=>sleep 1
 |err x δ1=>rw[e]at h;exact h
 |ok fl δ1=>
  rw[e]at h;simp![Res.bind]at h;cases fl with
  |next=>exact λσ' H' F' R' s'=>⟨F',δ1,R',h.mono s'⟩
  |brk=>exact h
  |cont=>exact h
  |ret d=>exact h
def aD(h1:xK X Z ow ow' ol ox rm st u):AS X Z ow ow' ol ox rm [st] u:=C8.mono (MV h1) λDn σ H h=>h
def kC(f:M D):M Fl:=λδ=>(f δ).bind λd δ1=>.ok (.ret d) δ1
def aO(h:DE X Z ow rm e f):xK X Z ow ow' ol ox rm (.Return (some e) pos) (kC f):=PS.mono (aF7 h) λDn σ H h=>by
 let⟨F,δ,R,h⟩:=h;unfold kC at h;sleep 3;cases e:f δ with
 |stuck=>sleep 1
 |err x δ1=>rw[e]at h;exact iQ.cast h
 |ok d δ1=>
  rw[e]at h;exact λv H' F' R' s'=>h v σ H' F' ow R' s'
def sE(f:M D):M Fl:=λδ=>(f δ).bind λ_ δ1=>.ok .next δ1
def cL(h:DE X Z ow n e f)(hs:↥(swapsWith e none pos.line X.env=pure false)):xK X Z ow ow ol ox rm (.Expr e pos) (sE f):=PS.mono (DB h hs) λDn σ H h=>by
 let⟨F,δ,R,h⟩:=h;unfold sE at h;sleep 3;cases e:f δ with
 |stuck=>sleep 1
 |err x δ1=>rw[e]at h;exact iQ.cast h
 |ok d δ1=>
  rw[e]at h;exact λv H' F' R' s'=>h σ H' F' R'.rel s'
def gF(c:M Bool)(u v:M Fl):M Fl:=λδ=>(c δ).bind λb δ1=>if b=true then u δ1 else v δ1
def b9(hc:DT X Z ow c k)(ha:AS X Z ow ow' ol ox rm sa u)(hb:AS X Z ow ow' ol ox rm sb v):xK X Z ow ow' ol ox rm (.If c sa sb pos) (gF k u v):=PS.mono (aKA hc ha hb) λDn σ H h=>by
 let⟨F,δ,R,h⟩:=h;unfold gF at h;sleep 3;cases e:k δ with
 |stuck=>sleep 1
 |err x δ1=>rw[e]at h;exact iQ.cast h
 |ok d δ1=>
  rw[e]at h;simp![Res.bind]at h;intro H1 F1 R1 s1;cases d with
  |true=>rw[Â rfl]at h⊢;exact⟨F1,δ1,R1,h.mono s1⟩
  |false=>rw[Ä Ú]at h⊢;exact⟨F1,δ1,R1,h.mono s1⟩
def cS.freeze(i:Nat)(R:cS X.K Z ow F H σ δ)(hi:i∉Z.ps):∃F',aM F F'/\cS X.K Z (ow.set i 0) F' H σ δ:=let ⟨_,R⟩:=R;⟨_,nA,_,R.freeze i hi⟩
def dA{l:ZH}(h:l.contains i=false):i∉l:=λm=>by rw[List.contains_iff_mem.mpr m]at h;cases h
def cP(i:Nat)(h:AS X Z (ow.set i 0) ow' ol ox rm sts u)(hi:↥(Z.ps.contains i=false)):AS X Z ow ow' ol ox rm sts u:=C8.mono h λDn σ H h=>by
 let⟨F,δ,R,h⟩:=h;let⟨F',s,R'⟩:=R.freeze i (dA hi);exact⟨F',δ,R',h.mono s⟩
def gB.store{v:V}(S:aS Z ow)(R:gB X.K Z ow n d v F H σ δ)(hi:i<δ.length)(hps:i∉Z.ps)(hl:i<ow.length):cS X.K Z (ow.set i n) F H (σ.set i (some v)) (δ.set i (some d)):=by
 let⟨g,R,o⟩:=R;have i1:i<1000:=Ô hl S.ow;have hg:∀(a:Addr)(l:ť),l.1≠i->l.1≠1000->g a=some l->(λb=>match g b with|some (j,p)=>if j=1000 then some (i,p)else if j=i then none else some (j,p)|none=>none:ZP) a=some l:=λa l h1 h2 e=>by
  let⟨j,p⟩:=l;dsimp only;rw[e];dsimp only;rw[Ä h2,Ä h1]
 refine⟨λb=>match g b with|some (j,p)=>if j=1000 then some (i,p)else if j=i then none else some (j,p)|none=>none,R.sub,R.f0,R.kept,R.new,R.there,λa j p e=>?_,by rw[Ö,Ö];exact R.len,λj hj=>?_,λj d' e=>?_⟩
 .cases q:g a with
  |none=>rw[q]at e;cases e
  |some l=>
   let⟨j',p'⟩:=l;rw[q]at e;have e:(if j'=1000 then some (i,p')else if j'=i then none else some (j',p'))=some (j,p):=e;split at e
   .rename_i z
    refine .inl ((R.lab a j' p' q).elim id λzQ=>by let⟨q',w⟩:=zQ;exact absurd (Z.wf a j' q' w) (by rw[z];exact S.ps))
   .split at e
    .cases e
    .cases e;exact R.lab a j p q
 .have ne:j≠i:=λz=>hps (by rw[<- z];exact hj)
  rw[Ù (Í ne),Ë,Ù (Í ne),<- Ë];exact R.par j hj
 .by_cases hj:j=i
  .subst hj
   rw[â hi]at e;cases e;refine⟨v,â (by rw[<- R.len];exact hi),?_⟩;have:(ow.set j n).getD j 0=n:=by rw[Ë,â hl];rfl
   rw[this];exact o.relab λa p e=>by rw[e];exact Â rfl
  .rw[Ù (Í hj)]at e
   let⟨w,e1,o1⟩:=R.slot j d' e;refine⟨w,by rw[Ù (Í hj)];exact e1,?_⟩;have:(ow.set i n).getD j 0=ow.getD j 0:=by rw[Ë,Ë,Ù (Í hj)]
   rw[this];by_cases hz:ow.getD j 0=0
   .rw[hz]at o1⊢;exact o1
   .have j1:j<1000:=by
     by_cases hl:j<ow.length
     .exact Ô hl S.ow
     .exact absurd (by rw[Ë,à (by exact ã.mp ‹_›)];rfl) hz
    exact o1.mono 'm' (λa l hl e=>hg a l (by rw[hl];exact hj) (by rw[hl];exact Ì ‹_›) e) (λ_ _ _ _ h=>h) λ_ _ _ _ _ h=>h
def cE(i:Nat)(f:M D):M Fl:=λδ=>(f δ).bind λd δ1=>if i<δ1.length then .ok .next (δ1.set i (some d))else .stuck
def DX(S:aS Z ow)(hps:i∉Z.ps)(hl:i<ow.length)(h:tS X Z ow (ow.set i n) ol ox rm (cE i f) Dn σ H):Ĺ (tD X Z ow n f) (pT i) Dn σ H:=by
 let⟨F,δ,R,h⟩:=h;unfold cE at h;sleep 3;cases e:f δ with
 |stuck=>sleep 1
 |err x δ1=>rw[e]at h;exact iQ.cast h
 |ok d δ1=>
  rw[e]at h;simp![Res.bind]at h;intro v H1 F1 R1 s1;split at h
  .rename_i hi
   exact h _ H1 F1 (R1.store S hi hps hl) s1
  .exact h.elim
def aF(i:Nat){pos':Pos}(S:aS Z ow)(h:DE X Z ow n e f)(hN:X.N.Nodup)(hi:↥'q')(hx:#v[ć X.env.scope x])(hps:↥(Z.ps.contains i=false))(hl:⇑(i<ow.length))(hs:↥(swapsWith e (some (.Name x pos')) pos.line X.env=pure false))(hf:X.fn x=true\/X.env.scope.names.lookup x=some .local:=by first|exact .inl rfl|exact .inr rfl|assumption):
  xK X Z ow (ow.set i n) ol ox rm (.Assign [.Name x pos'] e pos) (cE i f):=PS.mono (aGA hN hi hx h hs hf) λDn σ H h=>DX S (dA hps) hl h
end
def fQ(set:D->DS->Option DS)(body:M Fl):ZI->M Fl
 |[]=>λδ=>.ok .next δ
 |d::ds=>λδ=>match set d δ with
  |none=>.stuck
  |some δ1=>(body δ1).bind λfl δ2=>match fl with
   |.next=>fQ set body ds δ2
   |.cont=>fQ set body ds δ2
   |.brk=>.ok .next δ2
   |.ret d=>.ok (.ret d) δ2
def ĭ(X:Cx)(Z:cB)(ow:ZH)(g:TG)(set:D->DS->Option DS):Prop:=∀(F H:Hp)(σ:St)(δ δ':DS)(d:D)(v:V)(Q:St->Hp->Prop),cS X.K Z ow F H σ δ->bG X.K F d v->set d δ=some δ'->(∀σ',cS X.K Z ow F H σ' δ'->Q σ' H)->g v σ H Q
def eB(i:Nat):D->DS->Option DS:=λd δ=>if i<δ.length then some (δ.set i (some d))else none
def uD(is:ZH):D->DS->Option DS:=λd δ=>match d with
 |.tuple ds=>if ds.length=is.length then (is.zip ds).foldl (λ(o:Option DS)(p:Nat×D)=>o.bind λδ=>eB p.1 p.2 δ) (some δ)else none
 |_=>none
section
variable {X:Cx}{Z:cB}{ow:ZH}{n:Nat}{u:M Fl}{set:D->DS->Option DS}
def Ο(h:ow.getD i 0=0):ow.set i 0=ow:=by
 by_cases hi:i<ow.length
 .apply List.ext_getElem?
  intro j;by_cases hj:j=i
  .subst hj
   rw[â hi];rw[Ë,Ê hi]at h;rw[Ê hi];exact congrArg some h.symm
  .rw[Ù (Í hj)]
 .exact List.set_eq_of_length_le (by exact ã.mp ‹_›)
def DY(S:aS Z ow)(hps:i∉Z.ps)(hl:i<ow.length)(h0:ow.getD i 0=0):ĭ X Z ow (pT i) (eB i):=λF H σ δ δ' d v Q R r e q=>by
 unfold eB at e;split at e
 .rename_i hi
  cases e;have:=(R.x r).store S hi hps hl;rw[Ο h0]at this;exact q _ this
 .cases e
def BR(S:aS Z ow):∀(is:ZH)(t:SY),(∀i∈is,i∉Z.ps/\i<ow.length/\ow.getD i 0=0)->t=is.foldr (λi u=>GP (pT i) u) SZ ->
  ∀(F H:Hp)(σ:St)(δ δ':DS)(ds:ZI)(vs:List V)(Q:St->Hp->Prop),cS X.K Z ow F H σ δ->aE X.K F ds vs->ds.length=is.length->(is.zip ds).foldl (λ(o:Option DS)(p:Nat×D)=>o.bind λδ=>eB p.1 p.2 δ) (some δ)=some δ' ->
   (∀σ',cS X.K Z ow F H σ' δ'->Q σ' H)->t vs σ H Q
 |[],t,_,ht,F,H,σ,δ,δ',ds,vs,Q,R,r,hl,e,q=>by
  cases ds with
  |cons _ _=>cases hl
  |nil=>
   unfold aE at r;subst ht r;cases e;exact⟨rfl,q σ R⟩
 |i::is,t,hi,ht,F,H,σ,δ,δ',ds,vs,Q,R,r,hl,e,q=>by
  cases ds with
  |nil=>cases hl
  |cons d ds=>
   unfold aE at r;let⟨x,rest,rfl,rx,r⟩:=r;subst ht;rw[á,List.foldl_cons]at e;have no:∀(l:List (Nat×D)),l.foldl (λ(o:Option DS)(p:Nat×D)=>o.bind λδ=>eB p.1 p.2 δ) none=none:=λl=>by
    induction l with
    |nil=>rfl
    |cons p l ih=>rw[List.foldl_cons];exact ih
   cases e1:eB i d δ with
   |none=>
    rw[show ((some δ:Option DS).bind λδ=>eB (i,d).1 (i,d).2 δ)=none from e1,no]at e;cases e
   |some δ1=>
    rw[show ((some δ:Option DS).bind λδ=>eB (i,d).1 (i,d).2 δ)=some δ1 from e1]at e;let⟨h1,h2,h3⟩:=hi i Õ;refine⟨x,rest,rfl,DY S h1 h2 h3 F H σ δ δ1 d x _ R rx e1 λσ' R'=>?_⟩;exact BR S is _ (λj hj=>hi j (Ó _ hj)) rfl F H σ' δ1 δ' ds rest Q R' r (by simpa using hl) e q
def aGZ(S:aS Z ow)(hi:∀i∈is,i∉Z.ps/\i<ow.length/\ow.getD i 0=0)(ht:t=is.foldr (λi u=>GP (pT i) u) SZ):ĭ X Z ow (Ŝ X.K is.length t) (uD is):=λF H σ δ δ' d v Q R r e q=>by
 unfold uD at e;cases d with
 |tuple ds=>
  dsimp only at e;split at e
  .rename_i hl
   unfold bG at r;let⟨a,xs,rfl,hq,ra⟩:=r;exact⟨a,xs,rfl,R.sub.seqT hq,by rw[<- ra.len];exact hl,BR S is t hi ht F H σ δ δ' ds xs Q R ra hl e q⟩
  .cases e
 |_=>cases e
def aA4{ds:ZI}{d:D}(hg:ĭ X Z ow g set)(R:cS X.K Z ow F H σ δ)(s1:aM F1 F)(hk:kS X Z ow ol ox rm (fQ set u (ds.drop k) δ) F Dn)(hd:ds[k]?=some d)(rx:bG X.K F d x)(Pv:Nat->St->Hp->Prop)(hP:∀k σ H F δ,cS X.K Z ow F H σ δ->aM F1 F->kS X Z ow ol ox rm (fQ set u (ds.drop k) δ) F Dn->Pv k σ H):
  g x σ H λσ2 H2=>tS X Z ow ow ow ox rm u {Dn with nx:=Pv (k+1),ct:=Pv (k+1),bk:=Dn.nx} σ2 H2:=by
 have e:ds.drop k=d::ds.drop (k+1):=by
  let⟨hlt,rfl⟩:=Î.mp hd;exact ÿ hlt
 rw[e]at hk;unfold fQ at hk;cases e1:set d δ with
 |none=>simp![e1]at hk;exact hk.elim
 |some δ1=>
  simp![e1]at hk;refine hg F H σ δ δ1 d x _ R rx e1 λσ' R'=>⟨F,δ1,R',?_⟩;cases e2:u δ1 with
  |stuck=>rw[e2]at hk;exact hk.elim
  |err y δ2=>rw[e2]at hk;exact hk
  |ok fl δ2=>
   rw[e2]at hk;simp![Res.bind]at hk;cases fl with
   |next=>exact λσ2 H2 F2 R2 s2=>hP _ σ2 H2 F2 δ2 R2 (s1.trans' s2) (hk.mono s2)
   |cont=>exact λσ2 H2 F2 R2 s2=>hP _ σ2 H2 F2 δ2 R2 (s1.trans' s2) (hk.mono s2)
   |brk=>exact hk
   |ret d=>exact hk
def aN5(K:ZC)(tl:TE):TI:=λσ H R=>tl σ H λx H1=>(∃a,x=.ref a/\(∃xs,eV K H1 a xs)/\R (ĺ K a) H1)\/(∃a,x=.ref a/\(∃xs,rO K H1 a xs)/\R (Ş K a) H1)
def aG0(hl:PE X l tl):PI X tg l (aN5 X.K tl):=by
 intro À s σ H R I h;refine cY (hl À s σ H _ I h) λv s1 zQ=>?_;let⟨x,H1,I1,r1,q1⟩:=zQ;rcases q1 with ⟨a,e,⟨xs,hq⟩,q⟩|⟨a,e,⟨xs,hq⟩,q⟩
 .subst e
  cases r1;let⟨its,rv,p,hz⟩:=I1.list hq;refine wpAny_pyIter_list p.isList ?_;refine⟨s1.heap.objs.size,[s1.heap.objs.size],_,_,H1,rfl,I1.kept (t':=s1.toks) λb o e=>Heap.get?_push_of_some _ e,BH a _,⟨_,Heap.get?_push_size _ rfl,rfl,rfl⟩,λb hb=>?_,q⟩;have e:b=s1.heap.objs.size:=by simpa using hb
  subst e;exact I1.fpOk (È _) (I1.hok.fresh (È _))
 .subst e
  cases r1;let⟨its,rv,p,hz⟩:=I1.tuple hq;refine wpAny_pyIter_tuple (show s1.heap.IsTuple a its.toArray from p) ?_;refine⟨s1.heap.objs.size,[s1.heap.objs.size],_,_,H1,rfl,I1.kept (t':=s1.toks) λb o e=>Heap.get?_push_of_some _ e,KL a _,⟨_,Heap.get?_push_size _ rfl,rfl,rfl⟩,λb hb=>?_,q⟩;have e:b=s1.heap.objs.size:=by simpa using hb
  subst e;exact I1.fpOk (È _) (I1.hok.fresh (È _))
def kX(lo:Int)(n:Nat):ZI:=(List.range n).map λ(k:Nat)=>PyData.int (lo+(k:Int))
def DZ{lo:Int}(h:k<n):(kX lo n)[k]?=some (.int (lo+(k:Int))):=by
 unfold kX;rw[Ñ,ú h];rfl
def g7{lo:Int}:(kX lo n).length=n:=by unfold kX;rw[Æ,List.length_range]
def mX:ZI->Option (Int×Nat)
 |[.int j]=>if -(2^62)<=j/\j<2^62 then some (0,j.toNat)else none
 |[.int i,.int j]=>if -(2^62)<=i/\i<2^62/\-(2^62)<=j/\j<2^62 then some (i,(j-i).toNat)else none
 |_=>none
def oQ:∀{fs:List (M D)}{δ δ1:DS}{ds:ZI},bD fs δ=.ok ds δ1->ds.length=fs.length
 |[],δ,δ1,ds,h=>by cases h;rfl
 |f::fs,δ,δ1,ds,h=>by
  unfold bD at h;cases e:f δ with
  |stuck=>rw[e]at h;cases h
  |err x δ2=>rw[e]at h;cases h
  |ok d δ2=>
   rw[e]at h;simp![Res.bind]at h;cases e2:bD fs δ2 with
   |stuck=>rw[e2]at h;cases h
   |err x δ3=>rw[e2]at h;cases h
   |ok ds' δ3=>
    rw[e2]at h;cases h;rw[Ý,Ý,oQ e2]
def GZ{lo:Int}(h:mX ds=some (lo,n))(hl:ds.length=1):∃j:Int,ds=[.int j]/\-(2^62)<=j/\j<2^62/\lo=0/\n=j.toNat:=by
 rcases ds with _|⟨d,_|⟨_,_⟩⟩<;>try cases hl
 cases d<;>try cases h
 unfold mX at h;dsimp only at h;split at h
 .rename_i hj;cases h;exact⟨_,rfl,hj.1,hj.2,rfl,rfl⟩
 .cases h
def T5{lo:Int}(h:mX ds=some (lo,n))(hl:ds.length=2):∃i j:Int,ds=[.int i,.int j]/\(-(2^62)<=i/\i<2^62/\-(2^62)<=j/\j<2^62)/\lo=i/\n=(j-i).toNat:=by
 rcases ds with _|⟨a,_|⟨b,_|⟨_,_⟩⟩⟩<;>try cases hl
 cases a<;>try cases h
 cases b<;>try cases h
 unfold mX at h;dsimp only at h;split at h
 .rename_i hj;cases h;exact⟨_,_,rfl,hj,rfl,rfl⟩
 .cases h
def xL{K:ZC}(h:aE K F [.int j] vs):vs=[.int j]:=by
 unfold aE at h;let⟨x,r,rfl,rx,h⟩:=h;unfold aE at h;unfold bG at rx;rw[h,rx]
def T6{K:ZC}(h:aE K F [.int i,.int j] vs):vs=[.int i,.int j]:=by
 unfold aE at h;let⟨x,r,rfl,rx,h⟩:=h;unfold bG at rx;rw[rx,xL h]
def vM(c:M Bool)(u:M Fl):Nat->M Fl
 |0=>λ_=>.stuck
 |n+1=>λδ=>(c δ).bind λb δ1=>if b=true then (u δ1).bind λfl δ2=>(match fl with
   |.next=>vM c u n δ2
   |.cont=>vM c u n δ2
   |.brk=>.ok .next δ2
   |.ret d=>.ok (.ret d) δ2)else .ok .next δ1
def eS(c:M Bool)(u:M Fl):M Fl:=λδ=>open Classical in if h:∃n,vM c u n δ≠.stuck then vM c u h.choose δ else .stuck
def xM :∀{n:Nat}{δ:DS},vM c u n δ≠.stuck->vM c u (n+1) δ=vM c u n δ
 |0,δ,h=>absurd rfl h
 |n+1,δ,h=>by
  have e:∀m,vM c u (m+1) δ=(c δ).bind λb δ1=>if b=true then (u δ1).bind λfl δ2=>(match fl with
   |.next=>vM c u m δ2
   |.cont=>vM c u m δ2
   |.brk=>.ok .next δ2
   |.ret d=>.ok (.ret d) δ2)else .ok .next δ1:=λm=>rfl
  rw[e n]at h;rw[e (n+1),e n];cases e1:c δ with
  |stuck=>rfl
  |err x δ1=>rfl
  |ok b δ1=>
   rw[e1]at h;simp![Res.bind]at h⊢;cases b with
   |false=>rfl
   |true=>
    rw[Â rfl]at h⊢;rw[Â rfl];cases e2:u δ1 with
    |stuck=>rfl
    |err x δ2=>rfl
    |ok fl δ2=>
     rw[e2]at h;simp only at h⊢;cases fl with
     |next=>exact xM h
     |cont=>exact xM h
     |brk=>rfl
     |ret d=>rfl
def T7(h:vM c u n δ≠.stuck)(l:n<=m):vM c u m δ=vM c u n δ:=by
 induction l with
 |refl=>rfl
 |step l ih=>rw[xM (by rw[ih];exact h),ih]
def oU(n:Nat)(h:vM c u n δ≠.stuck):eS c u δ=vM c u n δ:=by
 have ex:∃n,vM c u n δ≠.stuck:=⟨n,h⟩;unfold eS;rw[dif_pos ex];rcases Nat.le_total n ex.choose with l|l
 .exact T7 h l
 .exact(T7 ex.choose_spec l).symm
def dH:eS c u δ=(c δ).bind λb δ1=>if b=true then (u δ1).bind λfl δ2=>(match fl with
   |.next=>eS c u δ2
   |.cont=>eS c u δ2
   |.brk=>.ok .next δ2
   |.ret d=>.ok (.ret d) δ2)else .ok .next δ1:=by
 have e:∀m,vM c u (m+1) δ=(c δ).bind λb δ1=>if b=true then (u δ1).bind λfl δ2=>(match fl with
   |.next=>vM c u m δ2
   |.cont=>vM c u m δ2
   |.brk=>.ok .next δ2
   |.ret d=>.ok (.ret d) δ2)else .ok .next δ1:=λm=>rfl
 have go:∀(δ2:DS),(∀m,vM c u m δ2=.stuck)->eS c u δ2=.stuck:=λδ2 h=>by
  unfold eS;rw[dif_neg λzQ=>by let⟨n,q⟩:=zQ;exact q (h n)]
 by_cases ex:∃n,vM c u n δ≠.stuck
 .obtain⟨n,h⟩:=ex
  cases n with
  |zero=>exact absurd rfl h
  |succ n=>
   rw[oU (n+1) h,e n];rw[e n]at h;cases e1:c δ with
   |stuck=>rfl
   |err x δ1=>rfl
   |ok b δ1=>
    rw[e1]at h;simp![Res.bind]at h⊢;cases b with
    |false=>rfl
    |true=>
     rw[Â rfl]at h⊢;rw[Â rfl];cases e2:u δ1 with
     |stuck=>rfl
     |err x δ2=>rfl
     |ok fl δ2=>
      rw[e2]at h;simp only at h⊢;cases fl with
      |next=>exact(oU n h).symm
      |cont=>exact(oU n h).symm
      |brk=>rfl
      |ret d=>rfl
 .have all:∀n,vM c u n δ=.stuck:=λn=>ā λq=>ex ⟨n,q⟩
  rw[go δ all];have a1:=λm=>(e m).symm.trans (all (m+1));cases e1:c δ with
  |stuck=>rfl
  |err x δ1=>have:=a1 0;rw[e1]at this;cases this
  |ok b δ1=>
   simp![Res.bind];cases b with
   |false=>have:=a1 0;rw[e1]at this;simp![Res.bind]at this;cases this
   |true=>
    rw[Â rfl];cases e2:u δ1 with
    |stuck=>rfl
    |err x δ2=>have:=a1 0;rw[e1]at this;simp![Res.bind,if_true,e2]at this;cases this
    |ok fl δ2=>
     cases fl with
     |next=>exact(go δ2 λm=>by have:=a1 m;rw[e1]at this;simp![Res.bind,if_true,e2]at this;exact this).symm
     |cont=>exact(go δ2 λm=>by have:=a1 m;rw[e1]at this;simp![Res.bind,if_true,e2]at this;exact this).symm
     |brk=>have:=a1 0;rw[e1]at this;simp![Res.bind,if_true,e2]at this;cases this
     |ret d=>have:=a1 0;rw[e1]at this;simp![Res.bind,if_true,e2]at this;cases this
def xN(hp:PassesOwn 'b' X.A X.env X.xe)(hc:DT X Z ow e k)(hb:AS X Z ow ow ow ox rm sts u):xK X Z ow ow ol ox rm (.While e sts [] pos) (eS k u):=PS.mono (S3 hp hc hb) λDn σ H h=>by
 let⟨F,δ,R,h⟩:=h;have ex:∃n,vM k u n δ≠.stuck:=ā λq=>by
  unfold eS at h;rw[dif_neg q]at h;exact h
 let⟨n0,hn⟩:=ex;rw[oU n0 hn]at h;refine⟨λm σ H=>∃F2 δ2,cS X.K Z ow F2 H σ δ2/\kS X Z ow ol ox rm (vM k u m δ2) F2 Dn,⟨n0,F,δ,R,h⟩,?_⟩;rintro m σ1 H1 ⟨F1,δ1,R1,k1⟩;cases m with
 |zero=>exact k1.elim
 |succ m=>
  unfold vM at k1;refine⟨F1,δ1,R1,?_⟩;cases e1:k δ1 with
  |stuck=>rw[e1]at k1;exact k1.elim
  |err x δ2=>rw[e1]at k1;exact iQ.cast k1
  |ok b δ2=>
   rw[e1]at k1;simp![Res.bind]at k1;intro H2 F2 R2 s2;cases b with
   |false=>rw[Ä Ú]at k1⊢;exact k1 σ1 H2 F2 R2 s2
   |true=>
    rw[Â rfl]at k1⊢;refine⟨λσ3 H3=>∃F3 δ3,cS X.K Z ow F3 H3 σ3 δ3/\kS X Z ow ol ox rm (vM k u m δ3) F3 Dn,λσ' H'⟨F3,δ3,R3,k3⟩=>⟨m,ê _,F3,δ3,R3,k3⟩,F2,δ2,R2,?_⟩;cases e2:u δ2 with
    |stuck=>rw[e2]at k1;exact k1.elim
    |err x δ3=>rw[e2]at k1;exact iQ.mono k1 s2
    |ok fl δ3=>
     rw[e2]at k1;simp only at k1;cases fl with
     |next=>exact λσ3 H3 F3 R3 s3=>⟨F3,δ3,R3,k1.mono (s2.trans' s3)⟩
     |cont=>exact λσ3 H3 F3 R3 s3=>⟨F3,δ3,R3,k1.mono (s2.trans' s3)⟩
     |brk=>exact kS.mono (r:=.ok .next δ3) k1 s2
     |ret d=>exact kS.mono (r:=.ok (.ret d) δ3) k1 s2
end
structure Ń(K:ZC)(ps owp:ZH)(rm:Nat)(F H:Hp)(g:ZP)(vs:List V)(F' H':Hp)(g':ZP)(outs:ZI)(d:D)(v:V):Prop where
 s:aM F F'
 sub:aM F' H'
 kept:∀b o,g b=none->H b=some o->H' b=some o
 new:∀a,F a=none->H a≠none->F' a=none
 there:∀b,H b≠none->H' b≠none
 lab:∀a i p,g' a=some (i,p)->H a=none\/∃q,g a=some (i,q)
 ret:bC K F' H' g' 1000 rm [] d v
 olen:outs.length=ps.length
 out:∀(k i:Nat)(d':D),ps[k]?=some i->outs[k]?=some d'->∃v',vs[i]?=some v'/\bC K F' H' g' i (owp.getD i 0) [] d' v'
def aN6(K:ZC)(ps owp:ZH)(rm:Nat)(F H:Hp)(g:ZP)(vs:List V)(Q:VK)(E:XK):Res D->Prop
 |.ok d outs=>∀v H' F' g',Ń K ps owp rm F H g vs F' H' g' (outs.filterMap id) d v->Q v H'
 |.err x outs=>∀nm,x=.str nm->∀H' F' g',Ń K ps owp 0 F H g vs F' H' g' (outs.filterMap id) .none .non->E (.str nm 0) none H'
 |.stuck=>False
def Ŧ(K:ZC)(ps owp:ZH)(rm:Nat)(f:ZI->Res D):Sp:=λvs H Q E=>∃F g ds,Z3 K F/\aM F H/\ds.length=vs.length/\(∀a i p,g a=some (i,p)->i∈ps) /\
 (∀(i:Nat)(d:D)(v:V),ds[i]?=some d->vs[i]?=some v->bC K F H g i (owp.getD i 0) [] d v)/\aN6 K ps owp rm F H g vs Q E (f ds)
def AW(P:Program)(w:World)(K:ZC):SL:=λouter H s E e s'=>∃nm a cls ch H',e=.ref a/\W.nsIn K mainGlobals nm=some (some cls)/\s'.os=s.os/\AllBare s'.gens/\Un (mZ outer) [] H H' s.heap s'.heap/\mQ P w H' s'.heap /\
 mT s'.heap a cls ch/\(∀b∈ch,H' b=none/\s.heap.get? b=none)/\E (.str nm 0) none H'
def fV(δ:DS):ZH->Option (ZI)
 |[]=>some []
 |i::is=>match δ[i]?,fV δ is with
  |some (some d),some ds=>some (d::ds)
  |_,_=>none
def BS :∀{is:ZH}{ds:ZI},fV δ is=some ds->ds.length=is.length/\∀(k i:Nat)(d:D),is[k]?=some i->ds[k]?=some d->δ[i]?=some (some d)
 |[],ds,h=>by cases h;exact⟨rfl,λk i d e=>by simp at e⟩
 |i::is,ds,h=>by
  unfold fV at h;split at h
  .rename_i d ds' e1 e2
   cases h;let⟨h1,h2⟩:=BS e2;refine⟨by simp[h1],λk j d' q1 q2=>?_⟩;cases k with
   |zero=>cases q1;cases q2;exact e1
   |succ k=>exact h2 k j d' (by simpa using q1) (by simpa using q2)
  .cases h
def aR(m:Nat)(ps:ZH)(rm:Nat)(body:M Fl):ZI->Res D:=λds=>match body (ds.map some++List.replicate (m-ds.length) none)with
 |.ok (.ret d) δ=>(match fV δ ps with
  |some outs=>.ok d (outs.map some)
  |none=>.stuck)
 |.ok .next δ=>if rm=0 then (match fV δ ps with
  |some outs=>.ok .none (outs.map some)
  |none=>.stuck)else .stuck
 |.ok _ _=>.stuck
 |.err x δ=>(match fV δ ps with
  |some outs=>.err x (outs.map some)
  |none=>.stuck)
 |.stuck=>.stuck
section
variable {P:Program}{w:World}{K:ZC}{mg:ZD}{base:Heap}
def SM.okG{st:Stmt}(F:SM K x qual st f fd)(S:iJ N ps (bA st))(len:∀vs H Q E,sp vs H Q E->vs.length=ps.length)(hbody:∀(cdv:Value)(_:fd.code=cdv)(A:Around)(outer:List Env)(s:Shared)(H:Hp)(vs:List V)(Q:VK)(E:XK),fD k (A.deeper (envOfC qual (bA st) s.heap.objs.size f cdv))->sp vs H Q E ->
   ∃t,C8 (qJ CX P w K mg base N qual (bA st) f cdv A outer s H E) (dG st) t/\t {nx:=λ_ H'=>Q .non H',rt:=Q} (start N vs) H):qI P w K mg base CX (k+1) f fd ps sp:=by
 let⟨oc,od,kV,doc,pm,an,cdv,ct,osl,rfl,lk,hcd⟩:=F.ex;exact aKL lk hcd S len λA outer s H vs Q E hr hsp=>hbody cdv rfl A outer s H vs Q E hr hsp
def T8 
  (I:Inv (qJ (AW P w K) P w K mg base N qual sc f cdv A outer s H E) À σ H1 s1) (fl:TY (qJ (AW P w K) P w K mg base N qual sc f cdv A outer s H E) À H1 s1 nm e) (q:E (.str nm 0) none H1):
  (qJ (AW P w K) P w K mg base N qual sc f cdv A outer s H E).xe e s1:=by
 let⟨a,cls,ch,rfl,hn,x,hc⟩:=fl;refine aA0 (base:=base) (outer:=outer) (L:=s.heap.objs.size) I.ok.frames I.stack rfl x λh' ch' xt x' new=>?_;have I2:=I.xt xt hc;refine⟨nm,a,cls,ch',H1,rfl,hn,I2.os,I2.bare,I2.base,I2.hok,x',λb hb=>?_,q⟩;rcases new b hb with m|⟨m0,m⟩
 .exact⟨(hc b m).un,(hc b m).new.resolve_left λz=>by cases z⟩
 .refine⟨I.hok.fresh m,?_⟩
  show s.heap.get? b=none;cases q:s.heap.get? b with
  |none=>rfl
  |some o=>
   let⟨o',e'⟩:=I.base.there b o q (λz=>by cases z);rw[m0]at e';cases e'
def SM.okD{st:Stmt}(Fn:SM K x qual st f fd)(S:iJ N pn (bA st))(hN:owp.length=N.length)(hb:∀(cdv:Value)(_:fd.code=cdv)(A:Around)(outer:List Env)(s:Shared)(H:Hp)(E:XK)(F0:Hp)(g0:ZP)(σ0:St)(wf:∀a i q,g0 a=some (i,q)->i∈ps),fD k (A.deeper (envOfC qual (bA st) s.heap.objs.size f cdv)) ->
   ∃ow',AS (qJ (AW P w K) P w K mg base N qual (bA st) f cdv A outer s H E) ⟨F0,H,g0,ps,σ0,owp,wf⟩ owp ow' ow' ow' rm (dG st) body):qI P w K mg base (AW P w K) (k+1) f fd pn (λvs H Q E=>vs.length=pn.length/\Ŧ K ps owp rm (aR N.length ps rm body) vs H Q E):=by
 refine Fn.okG S (λvs H Q E h=>h.1) λcdv ec A outer s H vs Q E hr h=>?_;let⟨hl,F,g,ds,hL,hs,hd,hg,hv,q⟩:=h;let Z:cB:=⟨F,H,g,ps,start N vs,owp,hg⟩;let⟨ow',hB⟩:=hb cdv ec A outer s H E F g (start N vs) hg hr;refine⟨_,hB,F,ds.map some++List.replicate (N.length-ds.length) none,⟨g,hs,⟨hL,aM.refl _⟩,λ_ _ _ e=>e,λ_ h _=>h,λ_ h=>h,λa i p e=>.inr ⟨p,e⟩,?_,λi _=>⟨rfl,rfl⟩,λi d' e=>?_⟩,?_⟩
 .have hpl:pn.length<=N.length:=by have:=congrArg List.length S.pre;rw[ü]at this;lia
  unfold start;simp![Ò,Æ,ï,hd]
 .have hi:i<ds.length:=by
   by_cases hi:i<ds.length
   .exact hi
   .rw[ç (by simpa using hi),Ą]at e
    split at e<;>cases e
  rw[ó (by simpa using hi),Ñ,Ê hi]at e;have ed:ds[i]?=some d':=by
   rw[Ê hi];simpa using e
  have hi':i<vs.length:=by exact ð ‹_› ‹_›
  refine⟨vs[i],?_,hv i d' _ ed (Ê hi')⟩;unfold start;rw[ó (by simpa using hi'),Ñ,Ê hi'];rfl
 .have fin:∀{rm:Nat}{d0:D}{δ:DS}{v:V}{σ':St}{H' F':Hp}{owr:ZH}{os:ZI},gB K Z owr rm d0 v F' H' σ' δ->fV δ ps=some os->∃g',Ń K ps owp rm F H g vs F' H' g' ((os.map some).filterMap id) d0 v:=λ{rm d0 δ v σ' H' F' owr os}R ho=>by
   have eo:(os.map some).filterMap id=os:=by rw[List.filterMap_map];exact List.filterMap_some
   rw[eo];let⟨g',R,o⟩:=R;let⟨ol,oa⟩:=BS ho;refine⟨g',R.f0.2,R.sub,R.kept,R.new,R.there,R.lab,o,ol,λk i d' h1 h2=>?_⟩;let⟨v',e1,o1⟩:=R.slot i d' (oa k i d' h1 h2);let⟨p1,p2⟩:=R.par i (Ā h1);rw[show Z.owp=owp from rfl]at p2;rw[p2]at o1;refine⟨v',?_,o1⟩;rw[p1]at e1;have e1:(start N vs)[i]?=some (some v'):=e1;unfold start at e1;by_cases hi:i<vs.length
   .rw[ó (by simpa using hi),Ñ,Ê hi]at e1
    rw[Ê hi];simpa using e1
   .rw[ç (by simpa using hi),Ą]at e1
    split at e1<;>cases e1
  unfold aR at q;cases e:body (ds.map some++List.replicate (N.length-ds.length) none)with
  |stuck=>rw[e]at q;sleep 4
  |err y δ=>
   rw[e]at q;dsimp only at q;cases ho:fV δ ps with
   |none=>rw[ho]at q;sleep 4
   |some os=>
    rw[ho]at q;refine⟨λÀ e1 s1 xp=>?_⟩;let⟨nm,H1,F1,σ1,rfl,I,R,_,fl⟩:=xp;let⟨g1,R⟩:=R;have RX:gB K Z owp 0 .none .non F1 H1 σ1 δ:=⟨g1,R,by show bG K F1 .none .non;unfold bG;rfl⟩;let⟨g',T⟩:=fin RX ho;exact T8 I fl (q nm rfl H1 F1 g' T)
  |ok fl δ=>
   rw[e]at q;cases fl with
   |brk=>sleep 4
   |cont=>sleep 4
   |ret d0=>
    dsimp only at q;intro v σ' H' F' owr R _;cases ho:fV δ ps with
    |none=>rw[ho]at q;sleep 4
    |some os=>
     rw[ho]at q;let⟨g',T⟩:=fin R ho;exact q v H' F' g' T
   |next=>
    dsimp only at q;intro σ' H' F' R _;by_cases hrm:rm=0
    .rw[Â hrm]at q
     cases ho:fV δ ps with
     |none=>rw[ho]at q;sleep 4
     |some os=>
      rw[ho]at q;let⟨g',R⟩:=R;have RX:gB K Z ow' rm .none .non F' H' σ' δ:=⟨g',R,by rw[hrm];show bG K F' .none .non;unfold bG;rfl⟩;let⟨g2,T⟩:=fin RX ho;exact q .non H' F' g2 T
    .rw[Ä hrm]at q;sleep 4
end
def aU:List Arg->ZH
 |[]=>[]
 |.own i::as=>i::aU as
 |.val _::as=>aU as
def fM:Nat->List Arg->ZH
 |_,[]=>[]
 |k,.own _::as=>k::fM (k+1) as
 |k,.val _::as=>fM (k+1) as
def eG(δ:DS):List Arg->List (ZL)->Option (ZI)
 |[],[]=>some []
 |.own i::as,none::ds=>match δ[i]?,eG δ as ds with
  |some (some d),some r=>some (d::r)
  |_,_=>none
 |.val _::as,some d::ds=>(eG δ as ds).map (d::·)
 |_,_=>none
def bY:ZH->ZI->DS->DS
 |i::is,d::ds,δ=>bY is ds (δ.set i (some d))
 |_,_,δ=>δ
def bP(fn:ZI->Res D)(as:List Arg):M D:=λδ=>(cK as δ).bind λods δ1=>match eG δ1 as ods with
 |none=>.stuck
 |some ds=>match fn ds with
  |.ok d outs=>.ok d (bY (aU as) (outs.filterMap id) δ1)
  |.err x outs=>.err x (bY (aU as) (outs.filterMap id) δ1)
  |.stuck=>.stuck
def gD:Nat->List Arg->Nat->Option Nat
 |_,[],_=>none
 |k,.own i::as,j=>if i=j then some k else gD (k+1) as j
 |k,.val _::as,j=>gD (k+1) as j
def G0:∀{k:Nat}{as:List Arg}{j m:Nat},gD k as j=some m->k<=m
 |k,.own i::as,j,m,h=>by
  unfold gD at h;split at h
  .cases h;exact È _
  .exact Nat.le_of_succ_le (G0 h)
 |k,.val _::as,j,m,h=>Nat.le_of_succ_le (G0 (show gD (k+1) as j=some m from h))
def kY:∀{k:Nat}{as:List Arg}{i m:Nat},gD k as i=some m->∃q,as[q]?=some (.own i)/\m=k+q/\m∈fM k as
 |k,.own s::as,i,m,h=>by
  unfold gD at h;split at h
  .rename_i e;cases h;exact⟨0,by rw[e];rfl,rfl,Õ⟩
  .obtain⟨q,e1,e2,e3⟩:=kY h
   exact⟨q+1,e1,∅,Ó _ e3⟩
 |k,.val _::as,i,m,h=>by
  let⟨q,e1,e2,e3⟩:=kY (k:=k+1) (as:=as) h;exact⟨q+1,e1,∅,e3⟩
def uE:∀{k:Nat}{as:List Arg}{t m i:Nat},(fM k as)[t]?=some m->(aU as)[t]?=some i->as[m-k]?=some (.own i)/\k<=m
 |k,.own s::as,0,m,i,h1,h2=>by cases h1;cases h2;exact⟨by rw[Nat.sub_self];rfl,È _⟩
 |k,.own s::as,t+1,m,i,h1,h2=>by
  let⟨e1,e2⟩:=uE (k:=k+1) (as:=as) (t:=t) h1 h2;exact⟨by rw[show m-k=(m-(k+1))+1 by lia];exact e1,by exact É ‹_›⟩
 |k,.val _::as,t,m,i,h1,h2=>by
  let⟨e1,e2⟩:=uE (k:=k+1) (as:=as) (t:=t) h1 h2;exact⟨by rw[show m-k=(m-(k+1))+1 by lia];exact e1,by exact É ‹_›⟩
def sF:∀{as:List Arg}{q i:Nat},as[q]?=some (.own i)->i∈aU as
 |.own s::as,0,i,h=>by cases h;exact Õ
 |.own s::as,q+1,i,h=>Ó _ (sF (as:=as) (q:=q) h)
 |.val _::as,0,i,h=>by cases h
 |.val _::as,q+1,i,h=>sF (as:=as) (q:=q) h
def uF:∀{k:Nat}{as:List Arg}{q i:Nat},(aU as).Nodup->as[q]?=some (.own i)->gD k as i=some (k+q)
 |k,.own s::as,0,i,_,h=>by cases h;unfold gD;rw[Â rfl];rfl
 |k,.own s::as,q+1,i,nd,h=>by
  have nd':=List.nodup_cons.mp (show (s::aU as).Nodup from nd);have h:as[q]?=some (.own i):=h;have hm:i∈aU as:=sF h;have ne:¬s=i:=λe=>nd'.1 (by rw[e];exact hm);unfold gD;rw[Ä ne,uF nd'.2 h];congr 1;lia
 |k,.val _::as,0,i,_,h=>by cases h
 |k,.val _::as,q+1,i,nd,h=>by
  have e:gD (k+1) as i=some (k+1+q):=uF (q:=q) nd h;show gD (k+1) as i=_;rw[e];congr 1;lia
def kZ{K:ZC}:∀{as:List Arg}{ods:List (ZL)}{ds:ZI}{vs:List V},eG δ as ods=some ds->sC K F σ as ods vs->ds.length=as.length/\vs.length=as.length /\
  ∀(q:Nat)(d:D)(v:V),ds[q]?=some d->vs[q]?=some v->(∃i,as[q]?=some (.own i)/\δ[i]?=some (some d)/\σ[i]?=some (some v))\/((∃f,as[q]?=some (.val f))/\bG K F d v)
 |[],[],ds,[],h,_=>by cases h;exact⟨rfl,rfl,λq d v e=>by simp at e⟩
 |.own i::as,none::ods,ds,v::vs,h,⟨z1,z2⟩=>by
  unfold eG at h;split at h
  .rename_i d r e1 e2
   cases h;let⟨h1,h2,h3⟩:=kZ e2 z2;refine⟨by simp[h1],by simp[h2],λq d' v' q1 q2=>?_⟩;cases q with
   |zero=>cases q1;cases q2;exact .inl ⟨i,rfl,e1,z1⟩
   |succ q=>exact h3 q d' v' q1 q2
  .cases h
 |.val f::as,some d::ods,ds,v::vs,h,⟨z1,z2⟩=>by
  unfold eG at h;cases e:eG δ as ods with
  |none=>rw[e]at h;cases h
  |some r=>
   rw[e]at h;cases h;let⟨h1,h2,h3⟩:=kZ e z2;refine⟨by simp[h1],by simp[h2],λq d' v' q1 q2=>?_⟩;cases q with
   |zero=>cases q1;cases q2;exact .inr ⟨⟨f,rfl⟩,z1⟩
   |succ q=>exact h3 q d' v' q1 q2
def vN:∀{is:ZH}{ds:ZI}{δ:DS},(bY is ds δ).length=δ.length
 |[],_,_=>by unfold bY;rfl
 |_::_,[],_=>by unfold bY;rfl
 |i::is,d::ds,δ=>by
  unfold bY;rw[vN,Ö]
def nC:∀{is:ZH}{ds:ZI}{δ:DS}{j:Nat},j∉is->(bY is ds δ)[j]?=δ[j]?
 |[],_,_,_,_=>by unfold bY;rfl
 |_::_,[],_,_,_=>by unfold bY;rfl
 |i::is,d::ds,δ,j,h=>by
  unfold bY;rw[nC λm=>h (Ó _ m),Ù λe=>h (by rw[e];exact Õ)]
def xO:∀{is:ZH}{ds:ZI}{δ:DS}{j:Nat}{d:D},is.Nodup->is.length=ds.length->j∈is->(bY is ds δ)[j]?=some (some d)->∃t:Nat,is[t]?=some j/\ds[t]?=some d
 |i::is,d::ds,δ,j,d',nd,hl,hm,h=>by
  unfold bY at h;have nd:=List.nodup_cons.mp nd;by_cases e:j=i
  .subst e
   rw[nC nd.1,Ď]at h;split at h
   .split at h
    .cases h;exact⟨0,rfl,rfl⟩
    .cases h
   .rename_i z;exact absurd rfl z
  .obtain⟨t,t1,t2⟩:=xO nd.2 (by simpa using hl) ((Ï.mp hm).resolve_left e) h
   exact⟨t+1,t1,t2⟩
section
variable {X:Cx}{Z:cB}{ow:ZH}{pos:Pos}{as:List Arg}{F H:Hp}{σ:St}{δ:DS}{g:ZP}
def D0(as:List Arg)(g:ZP):ZP:=λa=>match g a with
 |some (i,p)=>(gD 0 as i).map λj=>(j,p)
 |none=>none
def T9(as:List Arg)(g g':ZP):ZP:=λa=>match g' a with
 |some (j,p)=>if j=1000 then some (1000,p)else (match as[j]? with|some (.own i)=>some (i,p)|_=>none)
 |none=>match g a with
  |some (i,p)=>if i=1000\/(gD 0 as i).isSome=true then none else some (i,p)
  |none=>none
def aK0{a:Addr}{i j:Nat}{p:ZH}(h:g a=some (i,p))(e:gD 0 as i=some j):D0 as g a=some (j,p):=by
 unfold D0;rw[h];dsimp only;rw[e];rfl
def M8(h:D0 as g a=some (j,p)):∃i,g a=some (i,p)/\gD 0 as i=some j:=by
 unfold D0 at h;cases e:g a with
 |none=>rw[e]at h;cases h
 |some l=>
  let⟨i,q⟩:=l;rw[e]at h;dsimp only at h;cases e2:gD 0 as i with
  |none=>rw[e2]at h;cases h
  |some m=>rw[e2]at h;cases h;exact⟨i,rfl,e2⟩
def G1(S:aS Z ow)(R:bV X.K Z ow g F H σ δ)(hA:sC X.K F σ as ods vs)(hf:eG δ as ods=some ds)(hps:fM 0 as=ps)(nd:(aU as).Nodup)(hm:∀q i,as[q]?=some (.own i)->owp.getD q 0=ow.getD i 0)(hlt:as.length<=1000)(T:Ń X.K ps owp rm F H (D0 as g) vs F' H' g' outs d v):gB X.K Z ow rm d v F' H' σ (bY (aU as) outs δ):=by
 let⟨l1,l2,hat⟩:=kZ hf hA;have keepOut:∀{a:Addr}{i:Nat}{p:ZH},g a=some (i,p)->i∉aU as->D0 as g a=none:=λ{a i p}e hi=>by
  cases e1:D0 as g a with
  |none=>rfl
  |some l=>
   let⟨j,r⟩:=l;let⟨i',e2,e3⟩:=M8 e1;rw[e]at e2;cases e2;let⟨q,e4,_⟩:=kY e3;exact absurd (sF e4) hi
 have h0:∀a,H a=none->Z.H0 a=none:=λa e=>by
  cases e1:Z.H0 a with
  |none=>rfl
  |some o=>exact absurd e (R.there a (by rw[e1];simp))
 refine⟨T9 as g g',⟨T.sub,R.f0.trans' T.s,λb o n e=>?_,λa z1 z2=>T.new a (R.new a z1 z2) (R.there a z2),λb z=>T.there b (R.there b z),λa i p e=>?_,by rw[vN];exact R.len,R.par,λi d' e=>?_⟩,?_⟩
 .refine T.kept b o ?_ (R.kept b o n e)
  cases e1:D0 as g b with
  |none=>rfl
  |some l=>
   let⟨j,r⟩:=l;let⟨i',e2,e3⟩:=M8 e1;rcases R.lab b i' r e2 with z|⟨q',z⟩
   .rw[z]at e;cases e
   .rw[z]at n;cases n
 .unfold T9 at e
  cases e1:g' a with
  |some l=>
   let⟨j,r⟩:=l;rw[e1]at e;dsimp only at e;rcases T.lab a j r e1 with z|⟨q',z⟩
   .exact .inl (h0 a z)
   .obtain⟨i',z1,z2⟩:=M8 z
    let⟨q2,z3,z4,_⟩:=kY z2;have:j=q2:=by lia
    subst this;have hj:j≠1000:=λw=>by
     have:=(Î.mp z3).1;lia
    rw[Ä hj,z3]at e;cases e;exact R.lab a i q' z1
  |none=>
   rw[e1]at e;dsimp only at e;cases e2:g a with
   |none=>rw[e2]at e;cases e
   |some l=>
    let⟨j,r⟩:=l;rw[e2]at e;dsimp only at e;split at e
    .cases e
    .cases e;exact R.lab a i p e2
 .by_cases hi:i∈aU as
  .have hl:(aU as).length=outs.length:=by
    rw[T.olen,<- hps];have:∀(k:Nat)(as:List Arg),(aU as).length=(fM k as).length:=by
     intro k as
     induction as generalizing k with
     |nil=>rfl
     |cons a as ih=>
      cases a with
      |own i=>exact congrArg Nat.succ (ih (k+1))
      |val f=>exact ih (k+1)
    exact this 0 as
   let⟨t,t1,t2⟩:=xO nd hl hi e;have hpos:∃m,ps[t]?=some m:=by
    have:t<ps.length:=by rw[<- T.olen];exact(Î.mp t2).1
    exact⟨ps[t],Ê this⟩
   let⟨m,hm1⟩:=hpos;let⟨v',o1,o2⟩:=T.out t m d' hm1 t2;have e3:=(uE (k:=0) (by rw[hps];exact hm1) t1).1;rw[Nat.sub_zero]at e3;have hlm:m<ds.length:=by
    have:=(Î.mp e3).1;exact ð ‹_› (Eq.symm ‹_›)
   rcases hat m ds[m] v' (Ê hlm) o1 with ⟨s,a1,a2,a3⟩|⟨⟨f,a1⟩,a2⟩
   .rw[e3]at a1;cases a1
    refine⟨v',a3,?_⟩;rw[hm m i e3]at o2;refine o2.relab λa p e4=>?_;unfold T9;rw[e4];dsimp only;have hj:m≠1000:=λw=>by
     have:=(Î.mp e3).1;lia
    rw[Ä hj,e3]
   .rw[e3]at a1;cases a1
  .rw[nC hi]at e
   let⟨w,w1,o⟩:=R.slot i d' e;refine⟨w,w1,?_⟩;by_cases hz:ow.getD i 0=0
   .rw[hz]at o⊢;exact T.s.rep _ _ o
   .have i1:i<1000:=by
     by_cases hl:i<ow.length
     .exact Ô hl S.ow
     .exact absurd (by rw[Ë,à (by exact ã.mp ‹_›)];rfl) hz
    refine bC.keepJ T.s (λa q u e3 e4 e5=>?_) o;have gn:=keepOut e3 hi;have g'n:g' a=none:=by
     cases e7:g' a with
     |none=>rfl
     |some l=>
      let⟨j,r⟩:=l;rcases T.lab a j r e7 with z|⟨q',z⟩
      .rw[e4]at z;cases z
      .rw[gn]at z;cases z
    refine⟨?_,T.kept a _ gn e4,T.new a e5 (by rw[e4];simp)⟩;unfold T9;rw[g'n,e3];dsimp only;rw[Ä];rintro(z|z)
    .lia
    .cases e8:gD 0 as i with
     |none=>rw[e8]at z;cases z
     |some m=>let⟨q,e9,_⟩:=kY e8;exact hi (sF e9)
 .refine T.ret.relab λa p e=>?_
  unfold T9;rw[e];exact Â rfl
def M9{fn:ZI->Res D}{ps owp:ZH}{rm:Nat}{ods:List (ZL)}{ds:ZI}{vs:List V}{Q:VK}{E:XK}(S:aS Z ow)(R:cS X.K Z ow F H σ δ)(hA:sC X.K F σ as ods vs)(hf:eG δ as ods=some ds)(hps:fM 0 as=ps)(nd:(aU as).Nodup)(hm:∀q i,as[q]?=some (.own i)->owp.getD q 0=ow.getD i 0)(hv:∀q f,as[q]?=some (.val f)->owp.getD q 0=0)(hlt:as.length<=1000)(q:match fn ds with
   |.ok d outs=>∀v H' F',gB X.K Z ow rm d v F' H' σ (bY (aU as) (outs.filterMap id) δ)->aM F F'->Q v H'
   |.err x outs=>∀nm,x=.str nm->∀H' F',cS X.K Z ow F' H' σ (bY (aU as) (outs.filterMap id) δ)->aM F F'->E (.str nm 0) none H'
   |.stuck=>False):Ŧ X.K ps owp rm fn vs H Q E:=by
 let⟨g,R⟩:=R;let⟨l1,l2,hat⟩:=kZ hf hA;refine⟨F,D0 as g,ds,R.f0.lm,R.sub,∅,λa i p e=>?_,λi d' v' e1 e2=>?_,?_⟩
 .obtain⟨j,_,e2⟩:=M8 e
  let⟨_,_,_,e3⟩:=kY e2;rw[<- hps];exact e3
 .rcases hat i d' v' e1 e2 with ⟨s,a1,a2,a3⟩|⟨⟨f,a1⟩,a2⟩
  .rw[hm i s a1]
   let⟨w,w1,o⟩:=R.slot s d' a2;rw[a3]at w1;cases w1;exact o.relab λa p e=>aK0 e (by rw[uF nd a1];simp)
  .rw[hv i f a1];exact a2
 .cases e:fn ds with
  |stuck=>rw[e]at q;exact q
  |ok d outs=>
   rw[e]at q;exact λv H' F' g' T=>q v H' F' (G1 S R hA hf hps nd hm hlt T) T.s
  |err x outs=>
   rw[e]at q;exact λnm hx H' F' g' T=>q nm hx H' F' (G1 S R hA hf hps nd hm hlt T).rel T.s
def fF(owp ow:ZH):Nat->List Arg->Bool
 |_,[]=>true
 |k,.own i::as=>(owp.getD k 0 == ow.getD i 0) && fF owp ow (k+1) as
 |k,.val _::as=>(owp.getD k 0 == 0) && fF owp ow (k+1) as
def lT :∀{k:Nat}{as:List Arg},fF owp ow k as=true->(∀q i,as[q]?=some (.own i)->owp.getD (k+q) 0=ow.getD i 0)/\(∀q f,as[q]?=some (.val f)->owp.getD (k+q) 0=0)
 |k,[],_=>⟨λq i e=>by simp at e,λq f e=>by simp at e⟩
 |k,.own s::as,h=>by
  unfold fF at h;rw[æ,beq_iff_eq]at h;let⟨h1,h2⟩:=lT h.2;refine⟨λq i e=>?_,λq f e=>?_⟩
  .cases q with
   |zero=>cases e;exact h.1
   |succ q=>have:=h1 q i e;rw[show k+(q+1)=k+1+q by lia];exact this
  .cases q with
   |zero=>cases e
   |succ q=>have:=h2 q f e;rw[show k+(q+1)=k+1+q by lia];exact this
 |k,.val _::as,h=>by
  unfold fF at h;rw[æ,beq_iff_eq]at h;let⟨h1,h2⟩:=lT h.2;refine⟨λq i e=>?_,λq f e=>?_⟩
  .cases q with
   |zero=>cases e
   |succ q=>have:=h1 q i e;rw[show k+(q+1)=k+1+q by lia];exact this
  .cases q with
   |zero=>exact h.1
   |succ q=>have:=h2 q f e;rw[show k+(q+1)=k+1+q by lia];exact this
abbrev SO(K:ZC)(pn:ZG)(ps owp:ZH)(rm:Nat)(fn:ZI->Res D):Sp:=λvs H Q E=>vs.length=pn.length/\Ŧ K ps owp rm fn vs H Q E
def UA(sp:Sp)(E:St->XK)(t:TA):TE:=λσ H Q=>t σ H λvs H1=>sp vs H1 Q (E σ)
def EX(X:Cx)(σ:St):XK:=λv _ H'=>∀nm,v=.str nm 0->∀À e s',Inv X À σ H' s'->TY X À H' s' nm e->X.xe e s'
def UB{p:Pos}(Fk:qI X.prog X.w X.K X.mg X.base (AW X.prog X.w X.K) k f fd pn sp)(hr:fD k X.A)(hg:Gl X x)(hmg:X.mg x=some (.ref f))(hk:W.keepIn X.K (.ref f)=true)(hb:pV X.K fd pn [])(ha:PA X (e::es) t)(hdb:⇑(Zdb x))(he:↥(Zse e es X.env))(hpl:↥(Zbt pos es X.env)):
  PE X (.Call 'd' (e::es) [] pos) (UA sp (EX X) t):=by
 intro À s σ H Q I h;refine wpAny_Call_Name_kw (rQ I hg hmg ?_ hdb);refine W.callWith_K (h₀:=X.base) I.ok.mod.kin hk (cY (ha pos À s σ H _ I h) λus s1⟨vs,H1,I1,r,q⟩=>⟨I1.kIn,?_⟩) he hpl;have hl:us.length=pn.length:=by rw[<- r.length];exact Fk.len _ _ _ _ q
 have hb':=hb s1 us I1.kIn (by rw[ô];exact hl);rw[ô]at hb';refine wpAny_call (codeAny_mono (Fk.run X.A X.stack s1 H1 ⟨us,[]⟩ us vs Q (EX X σ) hr I1.env0 hb' r q) λr s' hq=>?_);cases r with
 |error e=>
  let⟨nm,a,cls,ch,H',rfl,hn,os,bare,un,hok,x,new,q2⟩:=hq;have I2:Inv X À σ H' s':=I1.call' os un hok bare λb z=>absurd z 'f';exact q2 nm rfl À _ s' I2 ⟨a,cls,ch,rfl,hn,x,λb hb=>pY.of I1 (new b hb).1 (new b hb).2⟩
 |ok fl=>
  cases fl with
  |ret u=>exact I1.after hq
  |next=>exact False.elim hq
  |brk=>exact False.elim hq
  |cont=>exact False.elim hq
def G3(S:aS Z ow)(hz:T0 Z=true)(hl:as.length=pn.length)(hps:fM 0 as=ps)(nd:decide (aU as).Nodup=true)(hm:fF owp ow 0 as=true)(hlt:as.length<=1000)(h:tD X Z ow rm (bP fn as) σ H Q):UA (SO X.K pn ps owp rm fn) (EX X) (ł X Z ow as) σ H Q:=by
 let⟨F,δ,R,h⟩:=h;unfold bP at h;sleep 3;let⟨m1,m2⟩:=lT hm;cases e:cK as δ with
 |stuck=>sleep 1
 |err x δ1=>rw[e]at h;exact h
 |ok ods δ1=>
  rw[e]at h;simp![Res.bind]at h;intro vs H1 F1 R1 s1 z;cases e2:eG δ1 as ods with
  |none=>rw[e2]at h;exact h.elim
  |some ds=>
   rw[e2]at h;dsimp only at h;have l2:=(kZ e2 z).2.1;refine⟨by exact Eq.trans ‹_› ‹_›,M9 S R1 z e2 hps (of_decide_eq_true nd) (λq i e=>by have:=m1 q i e;rwa [Nat.zero_add]at this) (λq f e=>by have:=m2 q f e;rwa [Nat.zero_add]at this) hlt ?_⟩
   cases e3:fn ds with
   |stuck=>rw[e3]at h;exact h.elim
   |err x outs=>
    rw[e3]at h;dsimp only at h⊢;intro nm hx H' F' R' s' nm' hnm À e s2 I2 fl;injection hnm with hnm;subst hnm;let⟨F2,s3,R2⟩:=R'.toP hz;exact h.out À e s2 ⟨nm,H',F2,σ,hx,I2,R2,s1.trans' (s'.trans' s3),fl⟩
   |ok d outs=>
    rw[e3]at h;dsimp only at h⊢;exact λv H' F' R' s'=>h v H' F' R' (s1.trans' s')
def NA{p:Pos}(S:aS Z ow)(Fk:qI X.prog X.w X.K X.mg X.base (AW X.prog X.w X.K) k f fd pn (SO X.K pn ps owp rm fn))(hr:fD k X.A)(hg:Gl X x)(hmg:X.mg x=some (.ref f))(hk:W.keepIn X.K (.ref f)=true)(hb:pV X.K fd pn [])(ha:DA X Z ow (e::es) as)(hz:↥(T0 Z=true))(hl:↥(as.length=pn.length))(hps:↥(fM 0 as=ps))(nd:↥(decide (aU as).Nodup=true))(hm:↥(fF owp ow 0 as=true))(hlt:⇑(as.length<=1000))(hdb:⇑(Zdb x))(he:↥(Zse e es X.env))(hpl:↥(Zbt pos es X.env)):
  DE X Z ow rm (.Call 'd' (e::es) [] pos) (bP fn as):=PE.mono (UB Fk hr hg hmg hk hb ha hdb he hpl) λ_ _ _ h=>G3 S hz hl hps nd hm hlt h
end
section
variable {X:Cx}{Z:cB}{ow ol ox:ZH}{n rm:Nat}{pos:Pos}{e a b:Expr}{f h:M D}{F H:Hp}{σ:St}{δ:DS}{g:ZP}{K:ZC}
def bC.relabP{g':ZP}(hg:∀a p,g a=some (i,p)->g' a=some (j,q++p))(r:bC K F H g i n p d v):bC K F H g' j n (q++p) d v:=
 iK.trans (λ_ _ z=>z) (λa p o e1 e2 e3=>⟨hg a p e1,e2,e3⟩) r
def cS.rewrite{a:Addr}(S:aS Z ow)(R:cS K Z ow F H σ δ)(ho:ow.getD i 0=1)(hd:δ[i]?=some (some 'r'))(hs:σ[i]?=some (some (.ref a)))(hr:aE K F ds' vs'):
  cS K Z ow F (aY H a (.lst vs')) σ (δ.set i (some (.list ds'))):=by
 let⟨g,R⟩:=R;let⟨v,e1,o⟩:=R.slot i _ hd;rw[hs]at e1;cases e1;rw[ho]at o;let⟨a',ds0,vs0,q1,q2,q3,q4,q5,q6,q7⟩:=o.lst (m:=0);cases q1;cases q2;have hi:i<δ.length:=(Î.mp hd).1;refine⟨g,λb u e=>?_,R.f0,λb u n e=>?_,R.new,λb z=>?_,R.lab,by rw[Ö];exact R.len,R.par,λj d e=>?_⟩
 .have:b≠a:=λz=>by rw[z,q5]at e;cases e
  rw[aH this];exact R.sub b u e
 .have:b≠a:=λz=>by
   subst z;rcases R.lab b i [] q3 with w|⟨q,w⟩
   all_goals grind
  rw[aH this];exact R.kept b u n e
 .by_cases hb:b=a
  .subst hb;rw[aP];simp
  .rw[aH hb];exact R.there b z
 .by_cases hj:j=i
  .subst hj
   rw[â hi]at e;cases e;refine⟨_,hs,?_⟩;rw[ho];exact bC.mkL (m:=0) ⟨a,ds',vs',rfl,rfl,q3,aP,q5,hr.len,λk d' v' z1 z2=>hr.both k d' v' z1 z2⟩
  .rw[Ù (Í hj)]at e
   let⟨v,e1,o⟩:=R.slot j d e;refine⟨v,e1,o.mono 'm' (λ_ _ _ e=>e) (λ_ _ _ _ h=>h) λa' l u hl e h=>?_⟩;have:a'≠a:=λz=>by grind
   rw[aH this];exact h
def cS.ownAt{d:D}(R:cS K Z ow F H σ δ)(ho:ow.getD i 0=1)(hd:δ[i]?=some (some d)):∃a ds vs,d=.list ds/\σ[i]?=some (some (.ref a))/\H a=some (.lst vs)/\aE K F ds vs:=by
 let⟨g,R⟩:=R;let⟨v,e1,o⟩:=R.slot i _ hd;rw[ho]at o;let⟨a,ds0,vs0,q1,q2,q3,q4,q5,q6,q7⟩:=o.lst (m:=0);exact⟨a,ds0,vs0,q1,by rw[e1,q2],q4,aE.of q6 q7⟩
def AX(i:Nat)(op:ZI->ZI->Option (D×ZI))(fs:List (M D)):M D:=λδ=>match δ[i]? with
 |some (some _)=>(bD fs δ).bind λargs δ1=>(match δ1[i]? with
  |some (some 'r')=>(match op ds args with
   |some (ret,ds')=>.ok ret (δ1.set i (some (.list ds')))
   |none=>.stuck)
  |_=>.stuck)
 |_=>.stuck
def D1(X:Cx)(r:V->List V->Hp->VK->Prop)(op:ZI->ZI->Option (D×ZI)):Prop:=∀(F H:Hp)(l:Addr)(xs vs:List V)(ds args:ZI)(ret:D)(ds':ZI),H l=some (.lst xs)->aM F H->aE X.K F ds xs->aE X.K F args vs->op ds args=some (ret,ds') ->
 ∃xs' rv,aE X.K F ds' xs'/\bG X.K F ret rv/\∀Q:VK,Q rv (aY H l (.lst xs'))->r (.ref l) vs H Q
def NB(S:aS Z ow)(ho:ow.getD i 0=1)(hm:D1 X r op)(h:tD X Z ow 0 (AX i op fs) σ H Q):Λ X.K "list" r (SV i) (tV X Z ow fs) σ H Q:=by
 let⟨F,δ,R,h⟩:=h;unfold AX at h;cases e0:δ[i]? with
 |none=>rw[e0]at h;exact h.elim
 |some o=>
  cases o with
  |none=>rw[e0]at h;exact h.elim
  |some d0=>
   rw[e0]at h;dsimp only at h;let⟨a,ds0,vs0,q1,q2,q3,q4⟩:=R.ownAt ho e0;refine⟨_,q2,.inl ⟨rfl,vs0,eV.of q3⟩,F,δ,R,?_⟩;cases e:bD fs δ with
   |stuck=>sleep 1
   |err x δ1=>rw[e]at h;exact h
   |ok args δ1=>
    rw[e]at h;simp![Res.bind]at h;intro vs H1 F1 R1 s1 z;cases e1:δ1[i]? with
    |none=>rw[e1]at h;exact h.elim
    |some o=>
     cases o with
     |none=>rw[e1]at h;exact h.elim
     |some d1=>
      rw[e1]at h;let⟨a',ds1,vs1,p1,p2,p3,p4⟩:=R1.ownAt ho e1;rw[q2]at p2;cases p2;subst p1;dsimp only at h;cases e2:op ds1 args with
      |none=>rw[e2]at h;exact h.elim
      |some rr=>
       let⟨ret,ds'⟩:=rr;rw[e2]at h;dsimp only at h;let⟨xs',rv,w1,w2,w3⟩:=hm F1 H1 a vs1 vs ds1 args ret ds' p3 R1.sub p4 z e2;exact w3 Q (h _ _ F1 ((R1.rewrite S ho e1 q2 w1).x w2) s1)
def D2(i:Nat){x:Str}{p q:Pos}{id:String}(S:aS Z ow)(slot:Slot "list" name id)(hty:typeOf (.builtin id)=pure (.type "method_descriptor"))(hmr:ę X id r)(hm:D1 X r op)(ha:DV X Z ow (e::es) fs)(ho:↥(ow.getD i 0=1))(hN:↥'q')(hv:#v[AR X.env.scope x])(hd:⇑(Zdb x))(hcd:⇑(Zcd x))(hbase:↥(attributeBase 'd' name X.env (eval 'd' X.env)=eval 'd' X.env))(hfew:↥(((backTo pos (starEach (e::es) X.env)).all (λx=>!x.1) && (backToKw pos (keywordEach [] X.env)).all (λx=>x.1.isSome)
   && decide ((e::es).length+([]:List Keyword).length+(if ([]:List Keyword).isEmpty then 0 else 1)<30))=true))(hline:↥((q.endLine == pos.line)=true))(hs:↥(Zse e es X.env))(hplain:↥(Zbt pos es X.env)):
  DE X Z ow 0 (.Call (.Attribute 'd' name q) (e::es) [] pos) (AX i op fs):=PE.mono (TN PySem.F.plainAttrs_list slot hty hmr (dM hN hv hd hcd) ha hbase hfew hline hs hplain) λ_ _ _ h=>NB S ho hm h
def G5:ZI->ZI->Option (D×ZI)
 |ds,[d]=>if ds.length<sizeLine then some (.none,ds++[d])else none
 |_,_=>none
def D3:bG K F .none .non:=by unfold bG;rfl
def lU:D1 X M0 G5:=λF H l xs vs ds args ret ds' hl hs h1 h2 e=>by
 unfold G5 at e;split at e
 .rename_i d
  split at e
  .rename_i hlt
   cases e;unfold aE at h2;let⟨x,r,rfl,hx,h2⟩:=h2;unfold aE at h2;subst h2;exact⟨xs++[x],.non,h1.app (lR hx iW),D3,λQ q=>⟨l,xs,x,rfl,rfl,hl,by rw[<- h1.len];exact hlt,q⟩⟩
  .cases e
 .cases e
def dX(i:Nat){x:Str}{p q:Pos}(S:aS Z ow)(ha:DE X Z ow 0 e f)(ho:↥(ow.getD i 0=1))(hN:↥'q')(hv:#v[AR X.env.scope x])(hd:⇑(Zdb x))(hcd:⇑(Zcd x))(hbase:↥(attributeBase 'd' "append" X.env (eval 'd' X.env)=eval 'd' X.env))(hfew:↥(((backTo pos (starEach [e] X.env)).all (λx=>!x.1) && (backToKw pos (keywordEach [] X.env)).all (λx=>x.1.isSome)
   && decide ([e].length+([]:List Keyword).length+(if ([]:List Keyword).isEmpty then 0 else 1)<30))=true))(hline:↥((q.endLine == pos.line)=true))(hs:↥(Zse e [] X.env))(hplain:↥(Zbt pos [] X.env)):
  DE X Z ow 0 (.Call (.Attribute 'd' "append" q) [e] [] pos) (AX i G5 [f]):=D2 i S PySem.F.slot_list_append PySem.F.type_list_append oN lU (aI ha bH hs) ho hN hv hd hcd hbase hfew hline hs hplain
def UC(i:Nat)(fk fv:M D):M Fl:=λδ=>(fv δ).bind λv δ1=>match δ1[i]? with
 |some (some _)=>(fk δ1).bind λk δ2=>(match δ2[i]?,k with
  |some (some 'r'),.int k=>(match lN ds.length k with
   |some j=>.ok .next (δ2.set i (some (.list (ds.set j v))))
   |none=>.stuck)
  |_,_=>.stuck)
 |_=>.stuck
def aE.set(h:aE K F ds vs)(j:Nat)(r:bG K F d v):aE K F (ds.set j d) (vs.set j v):=
 aE.of (by rw[Ö,Ö,h.len]) λk d' v' e1 e2=>by
  by_cases hk:j=k
  .grind
  .rw[Ù hk]at e1 e2
   exact h.both k d' v' e1 e2
def nD(i:Nat){x:Str}{p:Pos}{spos tpos:Pos}(S:aS Z ow)(hv:DE X Z ow 0 ev fv)(hk:DE X Z ow 0 ek fk)(ho:↥(ow.getD i 0=1))(hN:↥'q')(hvi:#v[AR X.env.scope x])(hd:⇑(Zdb x))(hcd:⇑(Zcd x))(ha: ~~~(∀v,assign (.Subscript 'd' ek tpos) X.env v=(do
   let ov <- holding [v] (eval 'd' X.env);let iv <- holding [v,ov] (eval ek X.env)
   standAt tpos
   holding [v,ov,iv] (setItem ov iv v)
   release [v,ov,iv] [])))(hs:↥(swapsWithSole [.Subscript 'd' ek tpos] ev spos.line X.env=pure false))(hw:↥(swappedStores [.Subscript 'd' ek tpos] ev X.env=pure none))(h1:↥((assignEach [.Subscript 'd' ek tpos] X.env).map (·.2)=[assign (.Subscript 'd' ek tpos) X.env])):
  xK X Z ow ow ol ox rm (.Assign [.Subscript 'd' ek tpos] ev spos) (UC i fk fv):=PS.mono (S1 hv (S0 (dM hN hvi hd hcd) hk GT ha) hs hw h1) λDn σ H h=>by
 let⟨F,δ,R,h⟩:=h;unfold UC at h;sleep 3;cases e:fv δ with
 |stuck=>sleep 1
 |err y δ1=>rw[e]at h;exact iQ.cast h
 |ok dv δ1=>
  rw[e]at h;simp![Res.bind]at h;intro v H1 F1 R1 s1;cases e0:δ1[i]? with
  |none=>rw[e0]at h;exact h.elim
  |some o=>
   cases o with
   |none=>rw[e0]at h;exact h.elim
   |some d0=>
    rw[e0]at h;dsimp only at h;let⟨a,ds0,vs0,q1,q2,q3,q4⟩:=R1.rel.ownAt ho e0;refine⟨_,q2,F1,δ1,R1.rel,?_⟩;cases e1:fk δ1 with
    |stuck=>rw[e1]at h;exact h.elim
    |err y δ2=>rw[e1]at h;exact iQ.cast (iQ.mono h s1)
    |ok dk δ2=>
     rw[e1]at h;dsimp only at h;intro kv H2 F2 R2 s2;cases e2:δ2[i]? with
     |none=>rw[e2]at h;exact h.elim
     |some o=>
      cases o with
      |none=>rw[e2]at h;exact h.elim
      |some d1=>
       rw[e2]at h;let⟨a',ds1,vs1,p1,p2,p3,p4⟩:=R2.rel.ownAt ho e2;rw[q2]at p2;cases p2;subst p1;cases dk with
       |int k=>
        dsimp only at h;cases e3:lN ds1.length k with
        |none=>rw[e3]at h;exact h.elim
        |some j=>
         rw[e3]at h;have rk:=R2.rep;unfold bG at rk;subst rk;refine⟨a,vs1,k,j,rfl,rfl,p3,by rw[<- p4.len];exact e3,?_⟩;exact h σ _ F2 (R2.rel.rewrite S ho e2 q2 (p4.set j (s2.rep _ _ R1.rep))) (s1.trans' s2)
       |_=>exact h.elim
def eK(a b:D):ZL:=match b with
 |.int i=>(match a with
  |.list ds=>atI ds i
  |.tuple ds=>atI ds i
  |.str z=>if z.length<=sizeLine then (atI z.cps.toList i).map λc=>.str ⟨#[c]⟩else none
  |_=>none)
 |_=>none
def aE.atI{d:D}(h:aE K F ds vs)(e:L2.atI ds i=some d):∃v,L2.atI vs i=some v/\bG K F d v:=by
 unfold L2.atI at e⊢;rw[<- h.len];cases q:lN ds.length i with
 |none=>rw[q]at e;cases e
 |some j=>
  rw[q]at e;exact h.get e
def aK1:pZ X (Θ X.K) 0 eK:=λZ ow F H σ δ a b x y d Q S R ra rb e q=>by
 unfold eK at e;split at e<;>try cases e
 split at e<;>try cases e
 .rename_i i _ ds
  unfold bG at ra rb;let⟨p,xs,rfl,hq,rs⟩:=ra;subst rb;let⟨v,e1,r⟩:=rs.atI e;exact .inl ⟨p,xs,i,v,rfl,rfl,R.sub.seq hq,e1,q v H F (R.x r) 'm'⟩
 .rename_i i _ ds
  unfold bG at ra rb;let⟨p,xs,rfl,hq,rs⟩:=ra;subst rb;let⟨v,e1,r⟩:=rs.atI e;exact .inr (.inl ⟨p,xs,i,v,rfl,rfl,R.sub.seqT hq,e1,q v H F (R.x r) 'm'⟩)
 .rename_i i _ z
  unfold bG at ra rb;subst ra rb;split at e
  .rename_i hz
   cases e1:atI z.cps.toList i with
   |none=>rw[e1]at e;cases e
   |some c=>
    rw[e1]at e;cases e;exact .inr (.inr ⟨z,i,c,rfl,rfl,hz,e1,q _ H F (R.x (by unfold bG;rfl)) 'm'⟩)
  .cases e
def eI(S:aS Z ow)(ha:DE X Z ow 0 a f)(hb:DE X Z ow 0 b h)(hs:oM b:=by exact λ_ _=>rfl):DE X Z ow 0 (.Subscript a b pos) (fC eK f h):=PE.mono (GS aGR ha hb hs) λ_ _ _ q=>DW S aK1 q
def UD(i:Nat)(fk:M D):M D:=λδ=>match δ[i]? with
 |some (some _)=>(fk δ).bind λk δ1=>(match δ1[i]? with
  |some (some d)=>(match eK d k with
   |some r=>.ok r δ1
   |none=>.stuck)
  |_=>.stuck)
 |_=>.stuck
def D4(i:Nat){x:Str}{p:Pos}(hb:DE X Z ow 0 b h)(ho:↥(ow.getD i 0=1))(hN:↥'q')(hv:#v[AR X.env.scope x])(hd:⇑(Zdb x))(hcd:⇑(Zcd x))(hs:oM b:=by exact λ_ _=>rfl):
  DE X Z ow 0 (.Subscript 'd' b pos) (UD i h):=PE.mono (GS rT (dM hN hv hd hcd) hb hs) λσ H Q q=>by
 let⟨F,δ,R,q⟩:=q;unfold UD at q;cases e0:δ[i]? with
 |none=>rw[e0]at q;sleep 4
 |some o=>
  cases o with
  |none=>rw[e0]at q;sleep 4
  |some d0=>
   rw[e0]at q;dsimp only at q;let⟨a,ds0,vs0,q1,q2,q3,q4⟩:=R.ownAt ho e0;refine⟨_,q2,F,δ,R,?_⟩;cases e1:h δ with
   |stuck=>rw[e1]at q;sleep 4
   |err y δ2=>rw[e1]at q;exact q
   |ok dk δ2=>
    rw[e1]at q;simp![Res.bind]at q;intro kv H2 F2 R2 s2;cases e2:δ2[i]? with
    |none=>rw[e2]at q;sleep 4
    |some o=>
     cases o with
     |none=>rw[e2]at q;sleep 4
     |some d1=>
      rw[e2]at q;let⟨a',ds1,vs1,p1,p2,p3,p4⟩:=R2.rel.ownAt ho e2;rw[q2]at p2;cases p2;subst p1;cases dk with
      |int k=>
       dsimp![eK]at q;cases e3:atI ds1 k with
       |none=>rw[e3]at q;sleep 4
       |some r=>
        rw[e3]at q;have rk:=R2.rep;unfold bG at rk;subst rk;let⟨v,w1,w2⟩:=p4.atI e3;exact⟨a,vs1,k,v,rfl,rfl,eV.of p3,w1,q v H2 F2 (R2.rel.x w2) s2⟩
      |_=>sleep 4
def qN:ZI->ZL
 |[d]=>(match d with
  |.list ds=>some (.int ds.length)
  |.tuple ds=>some (.int ds.length)
  |.str z=>if z.length<=sizeLine then some (.int z.length)else none
  |_=>none)
 |_=>none
def BT(i:Nat):M D:=λδ=>match δ[i]? with
 |some (some d)=>(match qN [d]with
  |some r=>.ok r δ
  |none=>.stuck)
 |_=>.stuck
def aA6(i:Nat){x:Str}{p p2:Pos}(hg:Gl X "len")(hm:X.mg "len"=none)(ho:↥(ow.getD i 0=1))(hN:↥'q')(hv:#v[AR X.env.scope x])(hd:⇑(Zdb x))(hcd:⇑(Zcd x))(he:↥(starEach [.Name x p] X.env=(false,eval 'd' X.env)::starEach [] X.env))(hpl:↥(Zbt pos [] X.env)):DE X Z ow 0 (.Call (.Name "len" p2) [.Name x p] [] pos) (BT i):=
 PE.mono (rS rW hg hm TU (eW (dM hN hv hd hcd) iV he) ⋯ ⋯ he hpl) λσ H Q q=>by
  let⟨F,δ,R,q⟩:=q;unfold BT at q;cases e0:δ[i]? with
  |none=>rw[e0]at q;sleep 4
  |some o=>
   cases o with
   |none=>rw[e0]at q;sleep 4
   |some d0=>
    rw[e0]at q;let⟨a,ds0,vs0,rfl,q2,q3,q4⟩:=R.ownAt ho e0;refine⟨_,q2,a,vs0,rfl,.inl (eV.of q3),?_⟩;dsimp![qN]at q;rw[q4.len]at q;exact q _ H F (R.x (by unfold bG;rfl)) 'm'
end
section
variable {a:Expr}{h:M D}{F:Hp}{K:ZC}
def gG(h:bG K F (.int i) v):v=.int i:=by unfold bG at h;exact h
def iY(h:bG K F (.str x) v):v=.str x:=by unfold bG at h;exact h
def jP(h:bG K F (.bool x) v):v=.bl x:=by unfold bG at h;exact h
def nE(h:bG K F .none v):v=.non:=by unfold bG at h;exact h
def kE(h:bG K F 'r' v):∃(a:Addr)(xs:List V),v=.ref a/\eV K F a xs/\aE K F ds xs:=by unfold bG at h;exact h
def AY(h:bG K F (.tuple ds) v):∃(a:Addr)(xs:List V),v=.ref a/\rO K F a xs/\aE K F ds xs:=by unfold bG at h;exact h
def fW:bG K F (.int i) (.int i):=by unfold bG;rfl
def NC:bG K F (.str i) (.str i):=by unfold bG;rfl
def iM:bG K F (.bool i) (.bl i):=by unfold bG;rfl
def iD(C:Int->Int->Prop)(g:Int->Int->D):D->D->ZL
 |.int i,.int j=>open Classical in if C i j then some (g i j)else none
 |_,_=>none
def D5(hg:∀F i j,bG X.K F (g' i j) (g i j)):pZ X (rI C g) 0 (iD C g'):=λZ ow F H σ δ a b x y d Q S R ra rb e q=>by
 unfold iD at e;split at e
 .rename_i i j
  split at e
  .rename_i hc
   cases e;exact⟨i,j,gG ra,gG rb,hc,q _ H F (R.x (hg F i j)) 'm'⟩
  .cases e
 .cases e
def Z5(g:Int->Int->D):D->D->ZL
 |.int i,.int j=>some (g i j)
 |_,_=>none
def sG(hg:∀F i j,bG X.K F (g' i j) (g i j)):pZ X (S6 g) 0 (Z5 g'):=λZ ow F H σ δ a b x y d Q S R ra rb e q=>by
 unfold Z5 at e;split at e
 .rename_i i j
  cases e;exact⟨i,j,gG ra,gG rb,q _ H F (R.x (hg F i j)) 'm'⟩
 .cases e
def pZ.or(h:pZ X r n o)(h':pZ X r' n o'):pZ X (λx y H Q=>r x y H Q\/r' x y H Q) n (λa b=>(o a b).or (o' a b)):=λZ ow F H σ δ a b x y d Q S R ra rb e q=>by
 dsimp only at e;cases e1:o a b with
 |some d'=>
  rw[e1,Option.some_or]at e;cases e;exact .inl (h Z ow F H σ δ a b x y d Q S R ra rb e1 q)
 |none=>
  rw[e1,Option.none_or]at e;exact .inr (h' Z ow F H σ δ a b x y d Q S R ra rb e q)
def D6:D->D->ZL
 |.str i,.str j=>if i.length+j.length<=sizeLine then some (.str (i++j))else none
 |_,_=>none
def LB:D->D->ZL
 |.tuple i,.tuple j=>if i≠[]/\i.length+j.length<=sizeLine then some (.tuple (i++j))else none
 |_,_=>none
def UE:D->D->ZL
 |.list i,.list j=>if i.length+j.length<=sizeLine then some (.list (i++j))else none
 |_,_=>none
instance{l:ZI}:Decidable (l≠[]):=match l with
 |[]=>.isFalse λh=>h rfl
 |_::_=>.isTrue λh=>by cases h
def aG1:pZ X (λx y H Q=>∃i j,x=.str i/\y=.str j/\i.length+j.length<=sizeLine/\Q (.str (i++j)) H) 0 D6:=λZ ow F H σ δ a b x y d Q S R ra rb e q=>by
 unfold D6 at e;split at e
 .rename_i i j
  split at e
  .rename_i hc
   cases e;exact⟨i,j,iY ra,iY rb,hc,q _ H F (R.x NC) 'm'⟩
  .cases e
 .cases e
def aG2:pZ X (Ε X.K) 0 LB:=λZ ow F H σ δ a b x y d Q S R ra rb e q=>by
 unfold LB at e;split at e
 .rename_i i j
  split at e
  .rename_i hc
   cases e;let⟨p,xs,rfl,hp,ha⟩:=AY ra;let⟨p',ys,rfl,hp',hb⟩:=AY rb;refine⟨p,p',xs,ys,rfl,rfl,R.sub.seqT hp,R.sub.seqT hp',λz=>?_,by rw[<- ha.len,<- hb.len];exact hc.2,λz=>?_,λz t ht=>?_⟩
   .have:=ha.len;rw[z]at this;exact hc.1 (List.length_eq_zero_iff.mp this)
   .have hj:j=[]:=by have:=hb.len;rw[z]at this;exact List.length_eq_zero_iff.mp this
    rw[hj,ô]at q;exact q _ H F (R.x ra) 'm'
   .have ft:=R.fnone ht
    exact q _ _ (aY F t (.tup (xs++ys))) ((R.laid ht).x (qM ft (ha.app hb))) (cI ft _)
  .cases e
 .cases e
def QB(l:Addr)(items:Array Value)(n:Nat)(sl:Array (ZN))(b:Addr)(fO:Array Value)(n2:Nat)(sl2:Array (ZN))(hc0:items.size+fO.size<=sizeLine):
  Meets (Builtin.«list.__add__» ⟨[.ref l,.ref b],[]⟩) (λ_ R s=>s.heap.get? l=some ⟨.type "list",none,.seq items n,sl⟩/\s.heap.get? b=some ⟨.type "list",none,.seq fO n2,sl2⟩/\R (.ok (.ret (Value.ref s.heap.objs.size))) {s with heap:=s.heap.push {cls:=Value.type "list",data:=Data.seq (items++fO)},toks:=s.toks}):=
 .of_wp λprog w A R s h=>by
  let⟨hp,g,d,tk,os⟩:=s;let⟨hl,hb,h⟩:=h;have f1:=PySem.AutoSeq1.idx_int;have f2:=PySem.AutoSeq1.sub_tuple_tuple;have f3:=PySem.AutoSeq1.sub_list_list;have f4:=PySem.AutoSeq1.sub_tuple_list;have f5:=PySem.AutoSeq1.sub_list_tuple
  wp_walk using PySem.AutoSeq1.wpAny_loadPart' hl,PySem.AutoSeq1.wpAny_loadPart' hb
  exact⟨_,rfl,h⟩
def QC{prog:Program}{w:World}{A:Around}{E:ZA}{s:Shared}{l b:Addr}{items fO:Array Value}{n n2:Nat}{sl sl2:Array (ZN)}{Q:ZA}(hl:s.heap.get? l=some ⟨.type "list",none,.seq items n,sl⟩)(hb:s.heap.get? b=some ⟨.type "list",none,.seq fO n2,sl2⟩)(h:Q (.ref s.heap.objs.size) {s with heap:=s.heap.push {cls:=.type "list",data:=.seq (items++fO)}})(hsz:items.size+fO.size<=sizeLine):wpAny (model prog w) A (binaryOp .Add (.ref l) (.ref b)) Q E s:=
 concat_meets ⟨_,hl,rfl⟩ ⟨_,hb,rfl⟩ noFill_list_add seq_list_add F.slot_list_add F.entry_list_add (F.args_list_add_2 _ _) (QB l items n sl b fO n2 sl2 hsz) ⟨hl,hb,h⟩
def Ρ(K:ZC):R2:=λx y H Q=>∃l b xs zs,x=.ref l/\y=.ref b/\eV K H l xs/\eV K H b zs/\xs.length+zs.length<=sizeLine/\∀p,H p=none->Q (.ref p) (aY H p (.lst (xs++zs)))
def ND:iU X (binaryOp .Add) (Ρ X.K):=by
 sleep 6;let⟨l,b,xs,zs,rfl,rfl,hH,hB,hz,q⟩:=h;cases rx;cases ry;let⟨its,r,⟨o,n,e,c,dn,dd⟩,z⟩:=I.list hH;let⟨its2,r2,⟨o2,n2,e2,c2,dn2,dd2⟩,z2⟩:=I.list hB;let⟨oc,od,oda,osl⟩:=o;let⟨oc2,od2,oda2,osl2⟩:=o2;cases c;cases c2;cases dn;cases dn2;cases dd;cases dd2;have hl:=r.length;have hl2:=r2.length;refine QC e e2 ?_ 'i';have ea:its.toArray++its2.toArray=(its++its2).toArray:=by simp
 rw[ea];exact⟨.ref _,_,I.lnew (t':=s.toks) (r.append r2) 'i',rfl,q _ I.fresh⟩
def NE:pZ X (Ρ X.K) 1 UE:=λZ ow F H σ δ a b x y d Q S R ra rb e q=>by
 unfold UE at e;split at e
 .rename_i i j
  split at e
  .rename_i hc
   cases e;let⟨p,xs,rfl,hp,ha⟩:=kE ra;let⟨p',ys,rfl,hp',hb⟩:=kE rb;exact⟨p,p',xs,ys,rfl,rfl,R.sub.seq hp,R.sub.seq hp',by rw[<- ha.len,<- hb.len];exact hc,λt ht=>q _ _ F (R.newList S ht (ha.app hb)) 'm'⟩
  .cases e
 .cases e
def pZ.fz(h:pZ X r n o):pZ X r 0 o:=λZ ow F H σ δ a b x y d Q S R ra rb e q=>h Z ow F H σ δ a b x y d Q S R ra rb e λv H' F' R' s=>by
 let⟨F2,s2,R2⟩:=R'.freeze S;exact q v H' F2 R2 (s.trans' s2)
def G6:D->D->ZL:=λa b=>(Z5 (λi j=>.int (i+j)) a b).or ((D6 a b).or ((LB a b).or (UE a b)))
def bM(S:aS Z ow)(ha:DE X Z ow 0 a f)(hb:DE X Z ow 0 b h):DE X Z ow 0 (.BinOp a .Add b pos) (fC G6 f h):=
 vK S (aGE.or (KO.or (aAT.or ND))) ((sG λ_ _ _=>fW).or (aG1.or (aG2.or NE.fz))) ha hb
def aG3(S:aS Z ow)(ha:DE X Z ow 0 a f)(hb:DE X Z ow 0 b h):DE X Z ow 1 (.BinOp a .Add b pos) (fC UE f h):=vK S ND NE ha hb
def ŧ:D->D->ZL:=Z5 λi j=>.int (i-j)
def nF(S:aS Z ow)(ha:DE X Z ow 0 a f)(hb:DE X Z ow 0 b h):DE X Z ow 0 (.BinOp a .Sub b pos) (fC ŧ f h):=vK S aGF (sG λ_ _ _=>fW) ha hb
def QD:D->D->ZL:=iD IntMulOk λi j=>.int (i*j)
def gH(S:aS Z ow)(ha:DE X Z ow 0 a f)(hb:DE X Z ow 0 b h):DE X Z ow 0 (.BinOp a .Mult b pos) (fC QD f h):=vK S aAW (D5 λ_ _ _=>fW) ha hb
def xP:D->D->ZL:=iD Ν λi j=>.int (i.fdiv j)
def sH(S:aS Z ow)(ha:DE X Z ow 0 a f)(hb:DE X Z ow 0 b h):DE X Z ow 0 (.BinOp a .FloorDiv b pos) (fC xP f h):=vK S TV (D5 λ_ _ _=>fW) ha hb
def wE:D->D->ZL:=iD (λ_ j=>j≠0) λi j=>.int (i.fmod j)
def iZ(S:aS Z ow)(ha:DE X Z ow 0 a f)(hb:DE X Z ow 0 b h):DE X Z ow 0 (.BinOp a .Mod b pos) (fC wE f h):=vK S aAI (D5 λ_ _ _=>fW) ha hb
def ń:D->D->ZL:=iD Ľ λi j=>.int (i^j.toNat)
def aG5(S:aS Z ow)(ha:DE X Z ow 0 a f)(hb:DE X Z ow 0 b h):DE X Z ow 0 (.BinOp a .Pow b pos) (fC ń f h):=vK S aGG (D5 λ_ _ _=>fW) ha hb
def rP(op:D->ZL)(f:M D):M D:=λδ=>(f δ).bind λd δ1=>match op d with
 |some r=>.ok r δ1
 |none=>.stuck
def Ũ:D->ZL
 |.int i=>some (.int (-i))
 |_=>none
def iA(ha:DE X Z ow 0 a f):DE X Z ow 0 (.UnaryOp .USub a pos) (rP Ũ f):=PE.mono (aKH aGH ha) λσ H Q q=>by
 let⟨F,δ,R,q⟩:=q;unfold rP at q;sleep 3;cases e:f δ with
 |stuck=>rw[e]at q;sleep 4
 |err x δ1=>rw[e]at q;exact q
 |ok d δ1=>
  rw[e]at q;simp![Res.bind]at q;intro v H1 F1 R1 s1;cases d with
  |int i=>exact⟨i,gG R1.rep,q _ H1 F1 (R1.rel.x fW) s1⟩
  |_=>sleep 4
def BU(f:M D):M D:=λδ=>(f δ).bind λd δ1=>match d with
 |.bool b=>.ok (.bool (!b)) δ1
 |_=>.stuck
def aG7(ha:DE X Z ow 0 a f):DE X Z ow 0 (.UnaryOp .Not a pos) (BU f):=PE.mono (aF6 ha) λσ H Q q=>by
 let⟨F,δ,R,q⟩:=q;unfold BU at q;sleep 3;cases e:f δ with
 |stuck=>rw[e]at q;sleep 4
 |err x δ1=>rw[e]at q;exact q
 |ok d δ1=>
  rw[e]at q;simp![Res.bind]at q;intro v H1 F1 R1 s1;cases d with
  |bool i=>exact⟨i,jP R1.rep,q _ H1 F1 (R1.rel.x iM) s1⟩
  |_=>sleep 4
def mV(f g:M D):M D:=λδ=>(f δ).bind λd δ1=>match d with
 |.bool b=>if b=true then g δ1 else .ok (.bool false) δ1
 |_=>.stuck
def UF(f g:M D):M D:=λδ=>(f δ).bind λd δ1=>match d with
 |.bool b=>if b=true then .ok 'l' δ1 else g δ1
 |_=>.stuck
def xQ(h:DE X Z ow 0 a f):DE X Z ow 0 (.BoolOp op [a] pos) f:=PE.mono (aF4 h) λ_ _ _ q=>q
def xR{rest:List Expr}(ha:DE X Z ow 0 a f)(hb:DE X Z ow 0 (.BoolOp .And (b::rest) pos) h):DE X Z ow 0 (.BoolOp .And (a::b::rest) pos) (mV f h):=PE.mono (aF5 ha hb) λσ H Q q=>by
 let⟨F,δ,R,q⟩:=q;unfold mV at q;sleep 3;cases e:f δ with
 |stuck=>rw[e]at q;sleep 4
 |err x δ1=>rw[e]at q;exact q
 |ok d δ1=>
  rw[e]at q;simp![Res.bind]at q;intro v H1 F1 R1 s1;cases d with
  |bool i=>
   refine⟨i,jP R1.rep,?_⟩;dsimp only at q;cases i with
   |true=>rw[Â rfl]at q⊢;exact⟨F1,δ1,R1.rel,q.mono s1 λ_ _ z=>z⟩
   |false=>rw[Ä Ú]at q⊢;exact q _ H1 F1 (R1.rel.x iM) s1
  |_=>sleep 4
def aK2{rest:List Expr}(ha:DE X Z ow 0 a f)(hb:DE X Z ow 0 (.BoolOp .Or (b::rest) pos) h):DE X Z ow 0 (.BoolOp .Or (a::b::rest) pos) (UF f h):=PE.mono (aJ6 ha hb) λσ H Q q=>by
 let⟨F,δ,R,q⟩:=q;unfold UF at q;sleep 3;cases e:f δ with
 |stuck=>rw[e]at q;sleep 4
 |err x δ1=>rw[e]at q;exact q
 |ok d δ1=>
  rw[e]at q;simp![Res.bind]at q;intro v H1 F1 R1 s1;cases d with
  |bool i=>
   refine⟨i,jP R1.rep,?_⟩;dsimp only at q;cases i with
   |true=>rw[Â rfl]at q⊢;exact q _ H1 F1 (R1.rel.x iM) s1
   |false=>rw[Ä Ú]at q⊢;exact⟨F1,δ1,R1.rel,q.mono s1 λ_ _ z=>z⟩
  |_=>sleep 4
def D7{f:M Bool}(ha:DT X Z ow a f):PW X (.BoolOp .And [a] pos) (tT X Z ow f):=aAE ha
def qO{f:M Bool}(ha:DT X Z ow a f):PW X (.BoolOp .Or [a] pos) (tT X Z ow f):=aF1 ha
def gT{f:M Bool}(h:PW X e (tT X Z ow f)):DT X Z ow e f:=h.pt
def G7:D->D->ZL:=λa b=>if SeqAt.shaped a=true/\SeqAt.shaped b=true then some (.bool (PyData.eqv a b))else none
def AZ:D->D->ZL:=λa b=>if SeqAt.shaped a=true/\SeqAt.shaped b=true then some (.bool (!PyData.eqv a b))else none
def p6:pZ X (λx y H Q=>∃d e,bG X.K H d x/\bG X.K H e y/\SeqAt.shaped d=true/\SeqAt.shaped e=true/\Q (.bl (PyData.eqv d e)) H) 0 G7:=λZ ow F H σ δ a b x y d Q S R ra rb e q=>by
 unfold G7 at e;split at e
 .rename_i hc
  cases e;exact⟨a,b,R.sub.rep _ _ ra,R.sub.rep _ _ rb,hc.1,hc.2,q _ H F (R.x iM) 'm'⟩
 .cases e
def xS:pZ X (λx y H Q=>∃d e,bG X.K H d x/\bG X.K H e y/\SeqAt.shaped d=true/\SeqAt.shaped e=true/\Q (.bl (!PyData.eqv d e)) H) 0 AZ:=λZ ow F H σ δ a b x y d Q S R ra rb e q=>by
 unfold AZ at e;split at e
 .rename_i hc
  cases e;exact⟨a,b,R.sub.rep _ _ ra,R.sub.rep _ _ rb,hc.1,hc.2,q _ H F (R.x iM) 'm'⟩
 .cases e
def Τ:D->D->ZL:=Z5 λi j=>.bool (decide (i<j))
def Ņ:D->D->ZL:=Z5 λi j=>.bool (decide (i<=j))
def ě:D->D->ZL:=Z5 λi j=>.bool (decide (j<i))
def aPX:D->D->ZL:=Z5 λi j=>.bool (decide (j<=i))
def jQ:pZ X (S6 λi j=>.bl (decide (i<j))) 0 Τ:=sG λ_ _ _=>iM
def Υ:pZ X (S6 λi j=>.bl (decide (i<=j))) 0 Ņ:=sG λ_ _ _=>iM
def vO:pZ X (S6 λi j=>.bl (decide (j<i))) 0 ě:=sG λ_ _ _=>iM
def UG(a b:D):ZL:=match b with
 |.none=>(match a with
  |.none=>some 'l'
  |.dict _=>none
  |_=>some (.bool false))
 |.bool d=>(match a with
  |.bool c=>some (.bool (c == d))
  |_=>none)
 |_=>none
def xT(a b:D):ZL:=match b with
 |.none=>(match a with
  |.none=>some (.bool false)
  |.dict _=>none
  |_=>some 'l')
 |.bool d=>(match a with
  |.bool c=>some (.bool (c != d))
  |_=>none)
 |_=>none
def Φ{d:D}(h:bG K F d v)(hd:d≠.none):v≠.non:=λz=>by
 subst z;cases d with
 |none=>exact hd rfl
 |bool b=>exact absurd (jP h) 'f'
 |int b=>exact absurd (gG h) 'f'
 |str b=>exact absurd (iY h) 'f'
 |list b=>let⟨_,_,z,_⟩:=kE h;cases z
 |tuple b=>let⟨_,_,z,_⟩:=AY h;cases z
 |dict b=>unfold bG at h;let⟨_,_,z,_⟩:=h;cases z
def vP:pZ X (λx y H Q=>(∃c d,x=.bl c/\y=.bl d/\Q (.bl (c == d)) H)\/(y=.non/\Q (.bl (decide (x=.non))) H)) 0 UG:=λZ ow F H σ δ a b x y d Q S R ra rb e q=>by
 unfold UG at e;split at e
 .split at e
  .cases e
   refine .inr ⟨nE rb,?_⟩;rw[decide_eq_true (nE ra)];exact q _ H F (R.x iM) 'm'
  .cases e
  .cases e
   refine .inr ⟨nE rb,?_⟩;rw[decide_eq_false (Φ ra ‹_›)];exact q _ H F (R.x iM) 'm'
 .split at e
  .cases e;exact .inl ⟨_,_,jP ra,jP rb,q _ H F (R.x iM) 'm'⟩
  .cases e
 .cases e
def UH:pZ X (λx y H Q=>(∃c d,x=.bl c/\y=.bl d/\Q (.bl (c != d)) H)\/(y=.non/\Q (.bl (!decide (x=.non))) H)) 0 xT:=λZ ow F H σ δ a b x y d Q S R ra rb e q=>by
 unfold xT at e;split at e
 .split at e
  .cases e
   refine .inr ⟨nE rb,?_⟩;rw[decide_eq_true (nE ra)];exact q _ H F (R.x iM) 'm'
  .cases e
  .cases e
   refine .inr ⟨nE rb,?_⟩;rw[decide_eq_false (Φ ra ‹_›)];exact q _ H F (R.x iM) 'm'
 .split at e
  .cases e;exact .inl ⟨_,_,jP ra,jP rb,q _ H F (R.x iM) 'm'⟩
  .cases e
 .cases e
def nG(o o':D->D->ZL)(f g k:M D):M D:=λδ=>(f δ).bind λx δ1=>(g δ1).bind λy δ2=>match o x y with
 |some 'l'=>(k δ2).bind λz δ3=>(match o' y z with
  |some r=>.ok r δ3
  |none=>.stuck)
 |some (.bool false)=>.ok (.bool false) δ2
 |_=>.stuck
def QE(S:aS Z ow)(os:pZ X r 0 o)(os':pZ X r' 0 o')(q:tD X Z ow 0 (nG o o' f h k) σ H Q):S7 r r' (tD X Z ow 0 f) (tD X Z ow 0 h) (tD X Z ow 0 k) σ H Q:=by
 let⟨F,δ,R,q⟩:=q;unfold nG at q;sleep 3;cases e:f δ with
 |stuck=>rw[e]at q;sleep 4
 |err x δ1=>rw[e]at q;exact q
 |ok d1 δ1=>
  rw[e]at q;simp![Res.bind]at q;intro x H1 F1 R1 s1;refine⟨F1,δ1,R1.rel,?_⟩;cases e2:h δ1 with
  |stuck=>rw[e2]at q;sleep 4
  |err x δ2=>rw[e2]at q;exact iQ.mono q s1
  |ok d2 δ2=>
   rw[e2]at q;dsimp only at q;intro y H2 F2 R2 s2;cases e3:o d1 d2 with
   |none=>rw[e3]at q;sleep 4
   |some d=>
    refine os Z ow F2 H2 σ δ2 d1 d2 x y d _ S R2.rel (s2.rep _ _ R1.rep) R2.rep e3 λv H3 F3 R3 s3=>?_;cases d with
    |bool bb=>
     refine⟨bb,jP R3.rep,?_⟩;cases bb with
     |false=>
      rw[e3]at q;rw[Ä Ú];exact q _ H3 F3 (R3.rel.x iM) (s1.trans' (s2.trans' s3))
     |true=>
      rw[e3]at q;rw[Â rfl];dsimp only at q;refine⟨F3,δ2,R3.rel,?_⟩;cases e4:k δ2 with
      |stuck=>rw[e4]at q;sleep 4
      |err x δ3=>rw[e4]at q;exact iQ.mono q (s1.trans' (s2.trans' s3))
      |ok d3 δ3=>
       rw[e4]at q;dsimp only at q;intro z H4 F4 R4 s4;cases e5:o' d2 d3 with
       |none=>rw[e5]at q;sleep 4
       |some r0=>
        rw[e5]at q;exact os' Z ow F4 H4 σ δ3 d2 d3 y z r0 Q S R4.rel ((s3.trans' s4).rep _ _ R2.rep) R4.rep e5 λv' H' F' R' s'=>q v' H' F' R' (s1.trans' (s2.trans' (s3.trans' (s4.trans' s'))))
    |_=>rw[e3]at q;sleep 4
def G8(S:aS Z ow)(ho:iU X (compareOp o1) r)(os:pZ X r 0 o)(ho':iU X (compareOp o2) r')(os':pZ X r' 0 o')(ha:DE X Z ow 0 a f)(hb:DE X Z ow 0 b h)(hc:DE X Z ow 0 c k)(hm:lastMarks [o1,o2] [b,c]=false:=by with_unfolding_all rfl):DE X Z ow 0 (.Compare a [o1,o2] [b,c] pos) (nG o o' f h k):=PE.mono (S8 ho ho' ha hb hc hm) λ_ _ _ q=>QE S os os' q
end
structure UI(K:ZC)(F:Hp)(J:It)(ds:ZI):Prop where
 go:∀i H,aM F H->i<ds.length->J.go i H
 yld:∀i H x H' d,aM F H->J.yld i H x H'->ds[i]?=some d->(H'=H/\bG K F d x)\/∃p o,H p=none/\H'=aY H p o/\∀F2,aM F F2->F2 p=none->bG K (aY F2 p o) d x
 stop:∀H,aM F H->J.stop ds.length H
def kI(X:Cx)(Z:cB)(ow:ZH)(r:Res (ZI))(F:Hp)(σ:St)(R:It->Hp->Prop):Prop:=match r with
 |.ok ds δ=>∀J H' F',cS X.K Z ow F' H' σ δ->aM F F'->UI X.K F' J ds->R J H'
 |.err x δ=>iQ X Z ow F x δ
 |.stuck=>False
def tI(X:Cx)(Z:cB)(ow:ZH)(f:M (ZI)):TI:=λσ H R=>∃F δ,cS X.K Z ow F H σ δ/\kI X Z ow (f δ) F σ R
def DI(X:Cx)(Z:cB)(ow:ZH)(tg e:Expr)(f:M (ZI)):Prop:=PI X tg e (tI X Z ow f)
def PI.mono(h:PI X tg e t)(hm:∀σ H R,t' σ H R->t σ H R):PI X tg e t':=λÀ s σ H R I q=>h À s σ H R I (hm σ H R q)
section
variable {X:Cx}{Z:cB}{ow ol ox:ZH}{n rm:Nat}{pos:Pos}{e tg a:Expr}{g:TG}{set:D->DS->Option DS}{K:ZC}{F H:Hp}{σ:St}{δ:DS}
def UJ{a:Addr}{xs:List V}{ds:ZI}(h:eV K F a xs)(r:aE K F ds xs):UI K F (ĺ K a) ds where
 go:=λi H s hi=>⟨xs,xs[i]'(by rw[<- r.len];exact hi),s.seq h,Ê _⟩
 yld:=λi H x H' d s y e=>.inl ⟨y.1,by
  let⟨v,e1,q⟩:=r.get e;have:=y.2 xs (s.seq h);rw[e1]at this;cases this;exact q⟩
 stop:=λH s=>⟨xs,s.seq h,by rw[<- r.len];exact È _⟩
def aA8{a:Addr}{xs:List V}{ds:ZI}(h:rO K F a xs)(r:aE K F ds xs):UI K F (Ş K a) ds where
 go:=λi H s hi=>⟨xs,xs[i]'(by rw[<- r.len];exact hi),s.seqT h,Ê _⟩
 yld:=λi H x H' d s y e=>.inl ⟨y.1,by
  let⟨v,e1,q⟩:=r.get e;have:=y.2 xs (s.seqT h);rw[e1]at this;cases this;exact q⟩
 stop:=λH s=>⟨xs,s.seqT h,by rw[<- r.len];exact È _⟩
def aA9{lo:Int}{m:Nat}:UI K F (Ļ lo m) (kX lo m) where
 go:=λi H s hi=>by rw[g7]at hi;exact hi
 yld:=λi H x H' d s y e=>.inl ⟨y.1,by
  have hi:i<m:=by have:=(Î.mp e).1;rwa [g7]at this
  rw[DZ hi]at e;cases e;rw[y.2];exact fW⟩
 stop:=λH s=>by rw[g7];exact È _
def iB(f:M D):M (ZI):=λδ=>(f δ).bind λd δ1=>match d with
 |.list ds=>.ok ds δ1
 |.tuple ds=>.ok ds δ1
 |_=>.stuck
def bQ(h:DE X Z ow 0 e f):DI X Z ow tg e (iB f):=(aG0 h).mono λσ H R q=>by
 let⟨F,δ,Rl,q⟩:=q;unfold iB at q;refine⟨F,δ,Rl,?_⟩;cases e1:f δ with
 |stuck=>rw[e1]at q;sleep 4
 |err x δ1=>rw[e1]at q;exact q
 |ok d δ1=>
  rw[e1]at q;simp![Res.bind]at q;intro v H1 F1 R1 s1;have rp:=R1.rep;cases d with
  |list ds=>
   let⟨a,xs,rfl,hq,ra⟩:=kE rp;exact .inl ⟨a,rfl,⟨xs,R1.rel.sub.seq hq⟩,q _ H1 F1 R1.rel s1 (UJ hq ra)⟩
  |tuple ds=>
   let⟨a,xs,rfl,hq,ra⟩:=AY rp;exact .inr ⟨a,rfl,⟨xs,R1.rel.sub.seqT hq⟩,q _ H1 F1 R1.rel s1 (aA8 hq ra)⟩
  |_=>sleep 4
def uG(fs:List (M D)):M (ZI):=λδ=>(bD fs δ).bind λds δ1=>match mX ds with
 |some (lo,n)=>.ok (kX lo n) δ1
 |none=>.stuck
def cU(hgl:Gl X "range")(hm:X.mg "range"=none)(hi:DE X Z ow 0 b f)(hst:↥(Zse b [] X.env)):DI X Z ow tg (.Call (.Name "range" p2) [b] [] p3) (uG [f]):=
 (P4 hgl hm (aI hi bH hst) hst).mono λσ H R q=>by
  let⟨F,δ,Rl,q⟩:=q;unfold uG at q;refine⟨F,δ,Rl,?_⟩;cases e1:bD [f] δ with
  |stuck=>rw[e1]at q;sleep 4
  |err x δ1=>rw[e1]at q;exact q
  |ok ds δ1=>
   rw[e1]at q;simp![Res.bind]at q;intro vs H1 F1 R1 s1 ra;cases e2:mX ds with
   |none=>rw[e2]at q;sleep 4
   |some p=>
    let⟨lo,m⟩:=p;rw[e2]at q;let⟨j,rfl,h1,h2,rfl,rfl⟩:=GZ e2 (oQ e1);exact⟨j,xL ra,h1,h2,q _ H1 F1 R1 s1 aA9⟩
def UI.turn{d:D}(T:UI X.K F1 J ds)(R:cS X.K Z ow F H σ δ)(s:aM F1 F)(y:J.yld i H x H')(e:ds[i]?=some d):∃F',aM F F'/\cS X.K Z ow F' H' σ δ/\bG X.K F' d x:=by
 rcases T.yld i H x H' d (s.trans' R.sub) y e with ⟨rfl,r⟩|⟨p,o,hp,rfl,r⟩
 .exact⟨F,aM.refl _,R,s.rep _ _ r⟩
 .have fp:=R.fnone hp
  exact⟨aY F p o,cI fp o,R.laid hp,r F s fp⟩
def jR(set:D->DS->Option DS)(f:M (ZI))(u:M Fl):M Fl:=λδ=>(f δ).bind λds δ1=>fQ set u ds δ1
def D8{f:M (ZI)}(hp:PassesOwn 'b' X.A X.env X.xe)(hc:X.calm=true)(hi:DI X Z ow tg e f)(hg:PG X tg g)(hs:ĭ X Z ow g set)(hb:AS X Z ow ow ow ox rm sts u)(hf: ~~~(Zfi e X.env)):xK X Z ow ow ol ox rm (.For tg e sts [] pos) (jR set f u):=PS.mono (S5 hp hc hi hg hb hf) λDn σ H h=>by
 let⟨F,δ,R,h⟩:=h;unfold jR at h;sleep 3;cases e1:f δ with
 |stuck=>rw[e1]at h;exact h.elim
 |err x δ1=>rw[e1]at h;exact iQ.cast h
 |ok ds δ1=>
  rw[e1]at h;simp![Res.bind]at h;intro J H1 F1 R1 s1 T;refine⟨λi m σ H=>m=ds.length-i/\i<=ds.length/\∃F2 δ,cS X.K Z ow F2 H σ δ/\aM F1 F2/\kS X Z ow ol ox rm (fQ set u (ds.drop i) δ) F2 Dn,⟨ds.length,rfl,ò _,F1,δ1,R1,aM.refl _,h.mono s1⟩,?_⟩;rintro i m σ2 H2 ⟨rfl,hi,F2,δ2,R2,s2,k2⟩;by_cases hlt:i<ds.length
  .refine .inr ⟨T.go i H2 (s2.trans' R2.sub) hlt,λσ' H'=>∃F3 δ,cS X.K Z ow F3 H' σ' δ/\aM F1 F3/\kS X Z ow ol ox rm (fQ set u (ds.drop (i+1)) δ) F3 Dn,λσ' H' q=>⟨ds.length-(i+1),∅,rfl,hlt,q⟩,λx H' y=>?_⟩
   have ed:=Ê hlt;let⟨F3,s3,R3,r3⟩:=T.turn R2 s2 y ed;exact aA4 (Pv:=λj σ' H'=>∃F3 δ,cS X.K Z ow F3 H' σ' δ/\aM F1 F3/\kS X Z ow ol ox rm (fQ set u (ds.drop j) δ) F3 Dn) hs R3 (s2.trans' s3) (k2.mono s3) ed r3 λk σ H F δ q1 q2 q3=>⟨F,δ,q1,q2,q3⟩
  .have e:i=ds.length:=by lia
   subst e;rw[List.drop_length]at k2;exact .inl ⟨T.stop H2 (s2.trans' R2.sub),k2 σ2 H2 F2 R2 'm'⟩
def UK(k:Nat)(g:ZP):ZP:=λa=>match g a with
 |some (i,p)=>if i=1000 then none else some (i+k,p)
 |none=>none
def LC{g:ZP}{a:Addr}(h:UK k g a=some (i,p)):∃j,g a=some (j,p)/\i=j+k/\j≠1000:=by
 unfold UK at h;cases e:g a with
 |none=>rw[e]at h;cases h
 |some l=>
  let⟨j,q⟩:=l;rw[e]at h;dsimp only at h;split at h
  .cases h
  .rename_i hj;cases h;exact⟨j,rfl,rfl,hj⟩
def LD{k:Nat}{g:ZP}{a:Addr}{j:Nat}{p:ZH}(h:g a=some (j,p))(hj:j≠1000):UK k g a=some (j+k,p):=by
 unfold UK;rw[h];exact Ä hj
def cB.sh(Z:cB)(k:Nat):cB:=⟨Z.F0,Z.H0,UK k Z.g0,Z.ps.map (·+k),List.replicate k none++Z.σ0,List.replicate k 0++Z.owp,λa i q h=>by
 let⟨j,e1,e2,_⟩:=LC h;rw[e2];exact Þ.mpr ⟨j,Z.wf a j q e1,rfl⟩⟩
def lV:'n'.getD (i+k) 0=ow.getD i 0:=by
 rw[Ë,Ë,ç 'f',ï,đ]
def aS.lt(S:aS Z ow)(h:ow.getD i 0≠0):i<1000:=by
 by_cases hl:i<ow.length
 .exact Ô hl S.ow
 .exact absurd (by rw[Ë,à (by exact ã.mp ‹_›)];rfl) h
def bC.sh{g:ZP}(hi:n=0\/i≠1000)(h:bC K F H g i n p d v):bC K F H (UK k g) (i+k) n p d v:=by
 rcases hi with rfl|hi
 .exact h
 .exact h.relab λa p e=>LD e hi
def cS.sh(S:aS Z ow)(R:cS K Z ow F H σ δ):cS K (Z.sh k) 'n' F H (List.replicate k none++σ) (List.replicate k none++δ):=by
 let⟨g,R⟩:=R;refine⟨UK k g,R.sub,R.f0,λb o n e=>R.kept b o ?_ e,R.new,R.there,λa i p e=>?_,by simp[R.len],λi hi=>?_,λi d e=>?_⟩
 .cases e1:Z.g0 b with
  |none=>rfl
  |some l=>
   let⟨j,q⟩:=l;have n:UK k Z.g0 b=none:=n;rw[LD e1 λz=>S.ps (by rw[<- z];exact Z.wf b j q e1)]at n;cases n
 .obtain⟨j,e1,e2,e3⟩:=LC e
  rcases R.lab a j p e1 with z|⟨q,z⟩
  .exact .inl z
  .exact .inr ⟨q,by rw[e2];exact LD z e3⟩
 .obtain⟨j,hj,rfl⟩:=Þ.mp (show i∈Z.ps.map (·+k)from hi)
  let⟨p1,p2⟩:=R.par j hj;refine⟨?_,?_⟩
  .show (List.replicate k none++σ)[j+k]?=(List.replicate k none++Z.σ0)[j+k]?
   rw[ç 'f',ç 'f',ï,đ];exact p1
  .show 'n'.getD (j+k) 0=(List.replicate k 0++Z.owp).getD (j+k) 0
   rw[lV,lV];exact p2
 .by_cases hi:i<k
  .rw[ó (by simpa using hi),Ą]at e
   split at e<;>cases e
  .rw[ç (by simp;exact ã.mp ‹_›),ï]at e
   let⟨v,e1,o⟩:=R.slot _ d e;obtain⟨j,rfl⟩:∃j,i=j+k:=⟨i-k,∅⟩;rw[đ]at e1 o;refine⟨v,by rw[ç 'f',ï,đ];exact e1,?_⟩;rw[lV];refine o.sh ?_;by_cases hz:ow.getD j 0=0
   .exact .inl hz
   .exact .inr (Ì (S.lt hz))
def cS.unsh(S:aS Z ow)(hs:aS (Z.sh k) 'n')(R:cS K (Z.sh k) 'n' F H σ' δ')(hσ:∀i,σ'[i+k]?=σ[i]?)(hl:σ'.length=σ.length+k)(hk:k<=δ'.length):cS K Z ow F H σ (δ'.drop k):=by
 let⟨g,R⟩:=R;have un:∀a i p,(λb=>match g b with|some (j,q)=>if j<k\/j-k=1000 then none else some (j-k,q)|none=>none:ZP) a=some (i,p)->g a=some (i+k,p):=λa i p e=>by
  dsimp only at e;cases e1:g a with
  |none=>rw[e1]at e;cases e
  |some l=>
   let⟨j,q⟩:=l;rw[e1]at e;dsimp only at e;split at e
   .cases e
   .rename_i hj
    cases e;have:j-k+k=j:=by lia
    rw[this]
 have ins:∀a i p,i≠1000->g a=some (i+k,p)->(λb=>match g b with|some (j,q)=>if j<k\/j-k=1000 then none else some (j-k,q)|none=>none:ZP) a=some (i,p):=λa i p hi e=>by
  dsimp only;rw[e];dsimp only;rw[Ä ∅,đ]
 refine⟨λb=>match g b with|some (j,q)=>if j<k\/j-k=1000 then none else some (j-k,q)|none=>none,R.sub,R.f0,λb o n e=>R.kept b o ?_ e,R.new,R.there,λa i p e=>?_,?_,λi hi=>?_,λi d e=>?_⟩
 .show UK k Z.g0 b=none
  unfold UK;rw[n]
 .rcases R.lab a (i+k) p (un a i p e)with z|⟨q,z⟩
  .exact .inl z
  .obtain⟨j,e1,e2,_⟩:=LC (show UK k Z.g0 a=some (i+k,q)from z)
   have:i=j:=by lia
   rw[this];exact .inr ⟨q,e1⟩
 .rw[List.length_drop,R.len,hl];lia
 .obtain⟨p1,p2⟩:=R.par (i+k) (Þ.mpr ⟨i,hi,rfl⟩)
  have p1:σ'[i+k]?=(List.replicate k none++Z.σ0)[i+k]?:=p1;have p2:'n'.getD (i+k) 0=(List.replicate k 0++Z.owp).getD (i+k) 0:=p2;rw[hσ,ç 'f',ï,đ]at p1;rw[lV,lV]at p2;exact⟨p1,p2⟩
 .rw[List.getElem?_drop,Nat.add_comm]at e
  let⟨v,e1,o⟩:=R.slot _ d e;rw[hσ]at e1;rw[lV]at o;refine⟨v,e1,?_⟩;by_cases hz:ow.getD i 0=0
  .rw[hz]at o⊢;exact o
  .exact o.relab λa p e=>ins a i p (Ì (S.lt hz)) e
def Ċ(X:Cx)(Z:cB)(ow:ZH)(k:Nat)(g:TG)(set:D->DS->Option DS):Prop:=∀(F H:Hp)(σ:St)(δ δ':DS)(d:D)(v:V)(Q:St->Hp->Prop),cS X.K Z ow F H σ δ->bG X.K F d v->set d δ=some δ'->(∀σ',cS X.K Z ow F H σ' δ'->σ'.length=σ.length->δ'.length=δ.length->(∀i,σ'[i+k]?=σ[i+k]?)->Q σ' H)->g v σ H Q
def g8(S:aS Z ow)(hk:i<k)(hps:i∉Z.ps)(hl:i<ow.length)(h0:ow.getD i 0=0):Ċ X Z ow k (pT i) (eB i):=λF H σ δ δ' d v Q R r e q=>by
 unfold eB at e;split at e
 .rename_i hi
  cases e;have:=(R.x r).store S hi hps hl;rw[Ο h0]at this;exact q _ this 'f' 'f' λj=>Ù ∅
 .cases e
def bU(set:D->DS->Option DS)(t:M Bool)(e:M D):ZI->ZI->DS->Res (ZI)
 |[],acc,δ=>.ok acc δ
 |d::ds,acc,δ=>match set d δ with
  |none=>.stuck
  |some δ1=>(t δ1).bind λb δ2=>if b=true then (e δ2).bind λy δ3=>(if acc.length<sizeLine then bU set t e ds (acc++[y]) δ3 else .stuck)else (if acc.length<sizeLine then bU set t e ds acc δ2 else .stuck)
def dY(k:Nat)(set:D->DS->Option DS)(f:M (ZI))(t:M Bool)(e:M D):M D:=λδ=>(f δ).bind λds δ1=>match bU set t e ds [] (List.replicate k none++δ1)with
 |.ok acc δ2=>if k<=δ2.length then .ok (.list acc) (δ2.drop k)else .stuck
 |_=>.stuck
def aPY(X:Cx)(Z:cB)(ow:ZH)(n:Nat)(r:Res D)(F:Hp)(σ:St)(Q:VK):Prop:=match r with
 |.ok d δ=>∀v H' F',gB X.K Z ow n d v F' H' σ δ->aM F F'->Q v H'
 |_=>False
def Ĝ(X:Cx)(Z:cB)(ow:ZH)(n:Nat)(f:M D):TE:=λσ H Q=>∃F δ,cS X.K Z ow F H σ δ/\aPY X Z ow n (f δ) F σ Q
def aPZ(X:Cx)(Z:cB)(ow:ZH)(r:Res Bool)(F:Hp)(σ:St)(Q:Bool->Hp->Prop):Prop:=match r with
 |.ok b δ=>∀H' F',cS X.K Z ow F' H' σ δ->aM F F'->Q b H'
 |_=>False
def ņ(X:Cx)(Z:cB)(ow:ZH)(f:M Bool):TT:=λσ H Q=>∃F δ,cS X.K Z ow F H σ δ/\aPZ X Z ow (f δ) F σ Q
def G9{k:Nat}{wi:TI}{fi:M (ZI)}{t:M Bool}{fe:M D}{Q:VK}(S:aS Z ow)(Sk:aS (Z.sh k) 'n')(hs:Ċ X (Z.sh k) 'n' k g set)(q:tD X Z ow 1 (dY k set fi t fe) σ H Q):M4 k (tI X Z ow fi) g (ņ X (Z.sh k) 'n' t) (Ĝ X (Z.sh k) 'n' 0 fe) σ H Q:=by
 let⟨F,δ,R,q⟩:=q;unfold dY at q;sleep 3;cases e1:fi δ with
 |stuck=>rw[e1]at q;sleep 4
 |err x δ1=>rw[e1]at q;exact q
 |ok ds δ1=>
  rw[e1]at q;simp![Res.bind]at q;intro J H1 F1 R1 s1 T;have hcase:∃acc δ2,bU set t fe ds [] (List.replicate k none++δ1)=.ok acc δ2/\k<=δ2.length/\kD X Z ow 1 (.ok (.list acc) (δ2.drop k)) F σ Q:=by
   cases e2:bU set t fe ds [] (List.replicate k none++δ1)with
   |stuck=>rw[e2]at q;sleep 4
   |err x δ2=>rw[e2]at q;sleep 4
   |ok acc δ2=>
    rw[e2]at q;dsimp only at q;split at q
    .rename_i hk;exact⟨acc,δ2,rfl,hk,q⟩
    .sleep 4
  let⟨acc,δ2,e2,hk2,q⟩:=hcase;refine⟨λi m ys σ' H'=>m=ds.length-i/\i<=ds.length/\σ'.length=σ.length+k/\(∀i,σ'[i+k]?=σ[i]?)/\∃F2 δ' acc',cS X.K (Z.sh k) 'n' F2 H' σ' δ'/\aM F1 F2/\aE X.K F2 acc' ys/\bU set t fe (ds.drop i) acc' δ'=.ok acc δ2,
   ⟨ds.length,rfl,ò _,by simp;exact Nat.add_comm _ _,λi=>by rw[ç 'f',ï,đ],F1,_,[],R1.sh S,aM.refl _,iW,e2⟩,?_⟩
  rintro i m ys σ2 H2 ⟨rfl,hi,hl2,hσ2,F2,δ',acc',R2,s2,ra,e3⟩;by_cases hlt:i<ds.length
  .have ed:=Ê hlt
   have ee:ds.drop i=ds[i]::ds.drop (i+1):=ÿ hlt;rw[ee]at e3;unfold bU at e3;cases e4:set ds[i] δ' with
   |none=>simp![e4]at e3;cases e3
   |some δ3=>
    simp![e4]at e3;have small:acc'.length<sizeLine:=by
     cases e5:t δ3 with
     |stuck=>rw[e5]at e3;cases e3
     |err x δ4=>rw[e5]at e3;cases e3
     |ok bb δ4=>
      rw[e5]at e3;simp![Res.bind]at e3;cases bb with
      |false=>
       rw[Ä Ú]at e3;split at e3
       .assumption
       .cases e3
      |true=>
       rw[Â rfl]at e3;cases e6:fe δ4 with
       |stuck=>rw[e6]at e3;cases e3
       |err x δ5=>rw[e6]at e3;cases e3
       |ok y δ5=>
        rw[e6]at e3;dsimp only at e3;split at e3
        .assumption
        .cases e3
    refine .inr ⟨T.go i H2 (s2.trans' R2.sub) hlt,by rw[<- ra.len];exact small,λzs σ'' H''=>σ''.length=σ.length+k/\(∀i,σ''[i+k]?=σ[i]?)/\∃F3 δ' acc',cS X.K (Z.sh k) 'n' F3 H'' σ'' δ'/\aM F1 F3/\aE X.K F3 acc' zs/\bU set t fe (ds.drop (i+1)) acc' δ'=.ok acc δ2,λzs σ'' H'' z=>⟨ds.length-(i+1),∅,rfl,hlt,z⟩,λx H3 y=>?_⟩
    let⟨F3,s3,R3,r3⟩:=T.turn R2 s2 y ed;refine hs F3 H3 σ2 δ' δ3 ds[i] x _ R3 r3 e4 λσ3 R4 l3 _ hσ3=>⟨F3,δ3,R4,?_⟩;have hl3:σ3.length=σ.length+k:=by exact Eq.trans ‹_› ‹_›
    have hσ4:∀i,σ3[i+k]?=σ[i]?:=λi=>(hσ3 i).trans (hσ2 i);cases e5:t δ3 with
    |stuck=>rw[e5]at e3;cases e3
    |err x δ4=>rw[e5]at e3;cases e3
    |ok bb δ4=>
     rw[e5]at e3;simp![Res.bind]at e3;intro H5 F5 R5 s5;cases bb with
     |false=>
      rw[Ä Ú,Â small]at e3;rw[Ä Ú];exact⟨hl3,hσ4,F5,δ4,acc',R5,s2.trans' (s3.trans' s5),(s3.trans' s5).repAll _ _ ra,e3⟩
     |true=>
      rw[Â rfl]at e3;rw[Â rfl];refine⟨F5,δ4,R5,?_⟩;cases e6:fe δ4 with
      |stuck=>rw[e6]at e3;cases e3
      |err x δ5=>rw[e6]at e3;cases e3
      |ok yd δ5=>
       rw[e6]at e3;dsimp only at e3;rw[Â small]at e3;intro yv H6 F6 R6 s6;exact⟨hl3,hσ4,F6,δ5,acc'++[yd],R6.rel,s2.trans' (s3.trans' (s5.trans' s6)),((s3.trans' (s5.trans' s6)).repAll _ _ ra).app (lR R6.rep iW),e3⟩
  .have e:i=ds.length:=by lia
   subst e;rw[List.drop_length]at e3;unfold bU at e3;cases e3;refine .inl ⟨T.stop H2 (s2.trans' R2.sub),λp hp=>?_⟩;have R7:cS X.K Z ow F2 H2 σ (δ2.drop k):=R2.unsh S Sk hσ2 hl2 hk2;exact q _ _ F2 (R7.newList S hp ra) (s1.trans' s2)
def NF(hK:X'.K=X.K)(h:Ĝ X Z ow n f σ H Q):tD X' Z ow n f σ H Q:=by
 let⟨F,δ,R,h⟩:=h;refine⟨F,δ,by rw[hK];exact R,?_⟩;cases e:f δ with
 |stuck=>rw[e]at h;exact h
 |err x δ1=>sleep 1
 |ok d δ1=>rw[e]at h;exact λv H' F' R' s=>h v H' F' (by rw[<- hK];exact R') s
def Χ{f:M Bool}(hK:X'.K=X.K)(h:ņ X Z ow f σ H Q):tT X' Z ow f σ H Q:=by
 let⟨F,δ,R,h⟩:=h;refine⟨F,δ,by rw[hK];exact R,?_⟩;cases e:f δ with
 |stuck=>rw[e]at h;exact h
 |err x δ1=>sleep 1
 |ok d δ1=>rw[e]at h;exact λH' F' R' s=>h H' F' (by rw[<- hK];exact R') s
def dZ:M Bool:=λδ=>.ok true δ
def bT:SN X [] (tT X Z ow dZ):=λÀ s σ H Q I h=>by
 let⟨F,δ,R,h⟩:=h;exact DR À s σ H Q I (h H F R 'm')
def wJ(h:DT X Z ow c t):SN X [c] (tT X Z ow t):=aAZ h
def HA(S:aS Z ow)(Sk:aS (Z.sh xs.length) 'h')(hc:X.calm=true)(hi:DI X Z ow tg iter fi)(hg:∀C fp s H,PG 'g' tg g)(hs:Ċ X (Z.sh xs.length) 'h' xs.length g set)(hif:∀C fp s H,SN 'g' ifs (tT 'g' (Z.sh xs.length) 'h' t))(he:∀C fp s H,DE 'g' (Z.sh xs.length) 'h' 0 elt fe)(hk:↥(scope.kind=.function))(hok:↥(eJ X.N xs scope.names X.env.scope.names=true))(hfs: ~~~(Zfi iter X.env)):
  DE X Z ow 1 'o' (dY xs.length set fi t fe):=
 PE.mono (GX (ti:=ņ X (Z.sh xs.length) 'h' t) (te:=Ĝ X (Z.sh xs.length) 'h' 0 fe) hc hi hg (λC fp s H À s' σ H' Q I h=>hif C fp s H À s' σ H' Q I (Χ (X:=X) (X':=aV X xs scope C fp s H) rfl h)) (λC fp s H=>PE.mono (he C fp s H) λ_ _ _ h=>NF (X:=X) (X':=aV X xs scope C fp s H) rfl h) hk hok hfs)
  λ_ _ _ q=>G9 (wi:=tI X Z ow fi) S Sk hs q
def fX(i:Nat){pos' spos:Pos}(S:aS Z ow)(Sk:aS (Z.sh xs.length) 'h')(hc:X.calm=true)(hN:X.N.Nodup)(hi:DI X Z ow tg iter fi)(hg:∀C fp s H,PG 'g' tg g)(hs:Ċ X (Z.sh xs.length) 'h' xs.length g set)(hif:∀C fp s H,SN 'g' ifs (tT 'g' (Z.sh xs.length) 'h' t))(he:∀C fp s H,DE 'g' (Z.sh xs.length) 'h' 0 elt fe)(hx:↥'q')(hl:↥(X.env.scope.names.lookup x=some .local))(hps:↥(Z.ps.contains i=false))(hlo:⇑(i<ow.length))(hsw:↥(swapsWith 'o' (some (.Name x pos')) spos.line X.env=pure true))(hk:↥(scope.kind=.function))(hok:↥(eJ X.N xs scope.names X.env.scope.names=true))(hfs: ~~~(Zfi iter X.env)):
  xK X Z ow (ow.set i 1) ol ox rm (.Assign [.Name x pos'] 'o' spos) (cE i (dY xs.length set fi t fe)):=
 PS.mono (r9 (ti:=ņ X (Z.sh xs.length) 'h' t) (te:=Ĝ X (Z.sh xs.length) 'h' 0 fe) hc hN hx hl hi hg (λC fp s H À s' σ H' Q I h=>hif C fp s H À s' σ H' Q I (Χ (X:=X) (X':=aV X xs scope C fp s H) rfl h)) (λC fp s H=>PE.mono (he C fp s H) λ_ _ _ h=>NF (X:=X) (X':=aV X xs scope C fp s H) rfl h) hsw hk hok hfs)
  λDn σ H h=>G9 (wi:=tI X Z ow fi) S Sk hs (DX S (dA hps) hlo h)
end
section
variable {X:Cx}{Z:cB}{ow:ZH}{pos:Pos}{e:Expr}{f h:M D}{F:Hp}{K:ZC}
def D9(h:aE K F [d] vs):∃v,vs=[v]/\bG K F d v:=by
 unfold aE at h;let⟨x,r,rfl,rx,h⟩:=h;unfold aE at h;exact⟨x,by rw[h],rx⟩
def aHA:ē X (λxs H Q=>(∃p ys,xs=[.ref p]/\(eV X.K H p ys\/rO X.K H p ys)/\Q (.int ys.length) H)\/(∃z,xs=[.str z]/\z.length<=sizeLine/\Q (.int z.length) H)) 0 qN:=λZ ow F H σ δ ds vs d Q S R ra e q=>by
 unfold qN at e;split at e<;>try cases e
 split at e<;>try cases e
 .obtain⟨v,rfl,r⟩:=D9 ra
  let⟨p,xs,rfl,hp,hr⟩:=kE r;rw[hr.len]at q;exact .inl ⟨p,xs,rfl,.inl (R.sub.seq hp),q _ H F (R.x fW) 'm'⟩
 .obtain⟨v,rfl,r⟩:=D9 ra
  let⟨p,xs,rfl,hp,hr⟩:=AY r;rw[hr.len]at q;exact .inl ⟨p,xs,rfl,.inr (R.sub.seqT hp),q _ H F (R.x fW) 'm'⟩
 .split at e
  .rename_i hz
   cases e;let⟨v,rfl,r⟩:=D9 ra;obtain rfl:=iY r;exact .inr ⟨_,rfl,hz,q _ H F (R.x fW) 'm'⟩
  .cases e
def cQ{p:Pos}(S:aS Z ow)(hg:Gl X "len")(hm:X.mg "len"=none)(ha:DE X Z ow 0 e f)(hs:↥(Zse e [] X.env))(hpl:↥(Zbt pos [] X.env)):DE X Z ow 0 (.Call (.Name "len" p) [e] [] pos) (xJ qN [f]):=
 gZ S (rW.or DM) aHA hg hm TU (aI ha bH hs) ⋯ ⋯ hs hpl
def ũ:ZI->ZL
 |[.int i]=>some (.int (if i<0 then -i else i))
 |_=>none
def EA:ē X (λxs H Q=>∃i,xs=[.int i]/\Q (.int (if i<0 then -i else i)) H) 0 ũ:=λZ ow F H σ δ ds vs d Q S R ra e q=>by
 unfold ũ at e;split at e
 .cases e
  let⟨v,rfl,r⟩:=D9 ra;exact⟨_,by rw[gG r],q _ H F (R.x fW) 'm'⟩
 .cases e
def jS:ZI->ZL
 |[.list ds]=>some 'r'
 |[.tuple ds]=>some 'r'
 |_=>none
def oV:ē X (λxs H Q=>∃p ys,xs=[.ref p]/\(eV X.K H p ys\/rO X.K H p ys)/\∀l,H l=none->Q (.ref l) (aY H l (.lst ys))) 1 jS:=λZ ow F H σ δ ds vs d Q S R ra e q=>by
 unfold jS at e;split at e
 .cases e
  let⟨v,rfl,r⟩:=D9 ra;let⟨p,xs,rfl,hp,hr⟩:=kE r;exact⟨p,xs,rfl,.inl (R.sub.seq hp),λl hl=>q _ _ F (R.newList S hl hr) 'm'⟩
 .cases e
  let⟨v,rfl,r⟩:=D9 ra;let⟨p,xs,rfl,hp,hr⟩:=AY r;exact⟨p,xs,rfl,.inr (R.sub.seqT hp),λl hl=>q _ _ F (R.newList S hl hr) 'm'⟩
 .cases e
inductive Ty where|int|bool|str|list|tuple
def Ty.name:Ty->String
 |.int=>"int"|.bool=>"bool"|.str=>"str"|.list=>"list"|.tuple=>"tuple"
def gJ:Ty->D->ZL
 |.int,.int _=>some 'l'|.int,.bool _=>some 'l'|.bool,.bool _=>some 'l'|.str,.str _=>some 'l'|.list,.list _=>some 'l'|.tuple,.tuple _=>some 'l'
 |_,.dict _=>none
 |_,_=>some (.bool false)
def QF(T:Ty):gY X (.builtin "isinstance") (λxs H Q=>∃(x:V)(d:D)(b:Bool),xs=[x,.ty T.name]/\bG X.K H d x/\gJ T d=some (.bool b)/\Q (.bl b) H):=by
 intro À s σ H xs us Q I r h;let⟨x,d,b,rfl,rd,hb,q⟩:=h;let⟨u,v,rfl,rx,rc⟩:=TB r;obtain rfl:v=Value.type T.name:=rc;obtain⟨t,G,Z,p,⟨c,e2,e⟩,hx⟩:∃t G,W.KitX X.K u t G/\G s.heap/\(∃c,gJ T d=some (.bool c)/\W.kitOne X.K t (.type T.name)=some c)/\u≠.builtin "__main__.__loader__#opaque":=by
  cases d with
  |none=>obtain rfl:=nE rd;cases (show u=Value.none from rx);exact⟨_,_,W.kitx_none,trivial,by cases T<;>exact⟨_,rfl,rfl⟩,nofun⟩
  |bool y=>obtain rfl:=jP rd;cases (show u=Value.bool y from rx);exact⟨_,_,W.kitx_bool,trivial,by cases T<;>exact⟨_,rfl,rfl⟩,nofun⟩
  |int i=>obtain rfl:=gG rd;let⟨t,q'⟩:=(show ∃t,u=Value.int i t from rx);cases q';exact⟨_,_,W.kitx_int,trivial,by cases T<;>exact⟨_,rfl,rfl⟩,nofun⟩
  |str i=>obtain rfl:=iY rd;let⟨t,q'⟩:=(show ∃t,u=Value.str i t from rx);cases q';exact⟨_,_,W.kitx_str,trivial,by cases T<;>exact⟨_,rfl,rfl⟩,nofun⟩
  |list ds=>
   let⟨a,xs,rfl,hp,_⟩:=kE rd;cases (show u=Value.ref a from rx);let⟨_,_,⟨o,_,h1,h2,_⟩,_⟩:=I.list hp;exact⟨_,_,W.kitx_list,⟨o,h1,h2⟩,by cases T<;>exact⟨_,rfl,rfl⟩,nofun⟩
  |tuple ds=>
   let⟨a,xs,rfl,hp,_⟩:=AY rd;cases (show u=Value.ref a from rx);let⟨_,_,⟨o,h1,h2,_⟩,_⟩:=I.tuple hp;exact⟨_,_,W.kitx_tuple,⟨o,h1,h2⟩,by cases T<;>exact⟨_,rfl,rfl⟩,nofun⟩
  |dict _=>cases T<;>cases hb
 cases hb.symm.trans e2;exact W.kia_one Z I.kIn p e hx λtk=>⟨.bl b,H,I.tok tk,rfl,q⟩
def lW(T:Ty){x:Str}{p p2:Pos}(hx:x=T.name)(hg:Gl X "isinstance")(hm:X.mg "isinstance"=none)(Z6:Gl X x)(hmt:X.mg x=none)(hbt:bootBuiltins x=some (.type T.name))(ha:DE X Z ow 0 e f)(hn:⇑(x≠"__name__"))(hd:⇑(Zdb x))(hs:↥(starEach [e,.Name x p2] X.env=(false,eval e X.env)::starEach [.Name x p2] X.env))(hs2:↥(starEach [.Name x p2] X.env=(false,eval (.Name x p2) X.env)::starEach [] X.env))(hpl:↥((backTo pos (starEach [.Name x p2] X.env)).any (·.1)=false)):
  DE X Z ow 0 (.Call (.Name "isinstance" p) [e,.Name x p2] [] pos) (rP (gJ T) f):=
 PE.mono (rS (QF T) hg hm pW (eW ha (eW (TW Z6 hmt hbt hn hd) iV hs2) hs) ⋯ ⋯ hs hpl) λσ H Q q=>by
  let⟨F,δ,R,q⟩:=q;unfold rP at q;sleep 3;cases e:f δ with
  |stuck=>rw[e]at q;sleep 4
  |err x δ1=>rw[e]at q;exact q
  |ok d δ1=>
   rw[e]at q;simp![Res.bind]at q;intro v H1 F1 R1 s1;have hb:∀r,gJ T d=some r->∃b,r=.bool b:=λr h=>by
    cases T<;>cases d<;>cases h<;>exact⟨_,rfl⟩
   cases e1:gJ T d with
   |none=>rw[e1]at q;sleep 4
   |some r=>
    rw[e1]at q;let⟨b,rfl⟩:=hb r e1;exact⟨v,d,b,rfl,R1.rel.sub.rep _ _ R1.rep,e1,q _ H1 F1 (R1.rel.x iM) s1⟩
def A0(xs:ZI)(lo hi:Option Int):ZI:=(xs.drop (HT.sIx xs.length 0 lo)).take (HT.sIx xs.length xs.length hi-HT.sIx xs.length 0 lo)
def aE.cut(r:aE K F ds vs)(lo hi:Option Int):aE K F (A0 ds lo hi) (DG vs lo hi):=by
 unfold A0 DG;rw[r.len];exact(r.drop _).take _
def kF:Option (M D)->M (Option Int)
 |none=>λδ=>.ok none δ
 |some f=>λδ=>(f δ).bind λd δ1=>match d with
  |.int i=>.ok (some i) δ1
  |_=>.stuck
def kO(X:Cx)(Z:cB)(ow:ZH)(r:Res (Option Int))(F:Hp)(σ:St)(Q:Option Int->Hp->Prop):Prop:=match r with
 |.ok o δ=>∀H' F',cS X.K Z ow F' H' σ δ->aM F F'->Q o H'
 |.err x δ=>iQ X Z ow F x δ
 |.stuck=>False
def aP0(X:Cx)(Z:cB)(ow:ZH)(f:Option (M D)):TO:=λσ H Q=>∃F δ,cS X.K Z ow F H σ δ/\kO X Z ow (kF f δ) F σ Q
def DO(X:Cx)(Z:cB)(ow:ZH)(e:Option Expr)(f:Option (M D)):Prop:=PO X e (aP0 X Z ow f)
def PO.mono(h:PO X o t)(hm:∀σ H Q,t' σ H Q->t σ H Q):PO X o t':=λÀ s σ H Q I q=>h À s σ H Q I (hm σ H Q q)
def oW:DO X Z ow none none:=PO.mono aAR λσ H Q q=>by
 let⟨F,δ,R,q⟩:=q;exact q H F R 'm'
def jT(h:DE X Z ow 0 e f):DO X Z ow (some e) (some f):=PO.mono (aAS h) λσ H Q q=>by
 let⟨F,δ,R,q⟩:=q;have q:kO X Z ow ((f δ).bind λd δ1=>match d with|.int i=>.ok (some i) δ1|_=>.stuck) F σ Q:=q;sleep 3;cases e:f δ with
 |stuck=>rw[e]at q;sleep 4
 |err x δ1=>rw[e]at q;exact q
 |ok d δ1=>
  rw[e]at q;simp![Res.bind]at q;intro v H1 F1 R1 s1;cases d with
  |int i=>exact⟨i,gG R1.rep,q H1 F1 R1.rel s1⟩
  |_=>sleep 4
def ģ(op:D->Option Int->Option Int->ZL)(f:M D)(lo hi:Option (M D)):M D:=λδ=>(f δ).bind λd δ1=>(kF lo δ1).bind λl δ2=>(kF hi δ2).bind λu δ3=>match op d l u with
 |some r=>.ok r δ3
 |none=>.stuck
def Ū(X:Cx)(r:V->Option Int->Option Int->Hp->VK->Prop)(n:Nat)(op:D->Option Int->Option Int->ZL):Prop:=∀(Z:cB)(ow:ZH)(F H:Hp)(σ:St)(δ:DS)(a:D)(x:V)(l u:Option Int)(d:D)(Q:VK),aS Z ow->cS X.K Z ow F H σ δ->bG X.K F a x->op a l u=some d ->
 (∀v H' F',gB X.K Z ow n d v F' H' σ δ->aM F F'->Q v H')->r x l u H Q
def nH{lo hi:Option Expr}(S:aS Z ow)(hr:Ŀ X r)(os:Ū X r n op)(he:DE X Z ow 0 e f)(hl:DO X Z ow lo fl)(hu:DO X Z ow hi fh):
  DE X Z ow n (.Subscript e (.Slice lo hi none p2) pos) (ģ op f fl fh):=PE.mono (GR hr he hl hu) λσ H Q q=>by
 let⟨F,δ,R,q⟩:=q;unfold ģ at q;sleep 3;cases e1:f δ with
 |stuck=>rw[e1]at q;sleep 4
 |err x δ1=>rw[e1]at q;exact q
 |ok d δ1=>
  rw[e1]at q;simp![Res.bind]at q;intro v H1 F1 R1 s1;refine⟨F1,δ1,R1.rel,?_⟩;cases e2:kF fl δ1 with
  |stuck=>rw[e2]at q;sleep 4
  |err x δ2=>rw[e2]at q;exact iQ.mono q s1
  |ok l δ2=>
   rw[e2]at q;dsimp only at q;intro H2 F2 R2 s2;refine⟨F2,δ2,R2,?_⟩;cases e3:kF fh δ2 with
   |stuck=>rw[e3]at q;sleep 4
   |err x δ3=>rw[e3]at q;exact iQ.mono q (s1.trans' s2)
   |ok u δ3=>
    rw[e3]at q;dsimp only at q;intro H3 F3 R3 s3;cases e4:op d l u with
    |none=>rw[e4]at q;sleep 4
    |some r0=>
     rw[e4]at q;exact os Z ow F3 H3 σ δ3 d v l u r0 Q S R3 ((s2.trans' s3).rep _ _ R1.rep) e4 λv' H' F' R' s'=>q v' H' F' R' (s1.trans' (s2.trans' (s3.trans' s')))
def A1:D->Option Int->Option Int->ZL
 |.list ds,l,u=>some (.list (A0 ds l u))
 |_,_,_=>none
def EB:Ū X (Ι X.K) 1 A1:=λZ ow F H σ δ a x l u d Q S R ra e q=>by
 unfold A1 at e;split at e
 .cases e
  let⟨p,xs,rfl,hp,hr⟩:=kE ra;exact⟨p,xs,rfl,R.sub.seq hp,λt ht=>q _ _ F (R.newList S ht (hr.cut l u)) 'm'⟩
 .cases e
def Ň:D->Option Int->Option Int->ZL
 |.tuple ds,l,u=>if HT.sIx ds.length 0 l=0/\HT.sIx ds.length ds.length u=ds.length then none else some (.tuple (A0 ds l u))
 |_,_,_=>none
def UL:Ū X (Δ X.K) 0 Ň:=λZ ow F H σ δ a x l u d Q S R ra e q=>by
 unfold Ň at e;split at e
 .split at e
  .cases e
  .rename_i hw
   cases e;let⟨p,xs,rfl,hp,hr⟩:=AY ra;rw[hr.len]at hw;refine⟨p,xs,rfl,R.sub.seqT hp,hw,λt ht=>?_⟩;have ft:=R.fnone ht;exact q _ _ (aY F t (.tup (DG xs l u))) ((R.laid ht).x (qM ft (hr.cut l u))) (cI ft _)
 .cases e
def aG(h1:↥(decide (ow.length<=1000)=true))(h2:↥(Z.ps.contains 1000=false)):aS Z ow:=⟨of_decide_eq_true h1,dA h2⟩
end
def ū(x:Str):It:=⟨λi _=>i<x.cps.size,λi H v H'=>H'=H/\∃c,x.cps[i]?=some c/\v=.str ⟨#[c]⟩,λi _=>i=x.cps.size⟩
def UM{K:ZC}(x:Str)(t:Tok)(it:Addr):KK P w K tg (ū x) [it] it (λi h=>h.IsStrIter it (strIterType x) x t i):=by
 have hty:strIterType x="str_ascii_iterator"\/strIterType x="str_iterator":=by
  unfold strIterType;split
  .exact .inl rfl
  .exact .inr rfl
 have W:∀A:Around,A.handled=none->Walks P w A it [it] [it] x.cps.size (SignAt x) (λi h=>h.IsStrIter it (strIterType x) x t i):=λA hh=>by
  rcases hty with e|e
  .rw[e];exact Walks.strAscii hh it x t
  .rw[e];exact Walks.strWide hh it x t
 refine⟨by simp,λi h st b hb=>?_,λi h h' st k=>let ⟨o,ho,r⟩:=st;⟨o,k it 'f' o ho,r⟩,?_,?_,λA i s Q E st h=>?_⟩
 .have e:b=it:=by simpa using hb
  subst e;let⟨o,e,c,d⟩:=st;exact⟨o,e,λv z=>by rw[d]at z;cases z⟩
 .intro X hP hw hK hc i À s σ H E I hf st hg
  subst hP hw hK;let⟨f0,f1,f2,f3,f4,f5⟩:=hf it 'f';refine(W X.A (I.ok.hd hc)).item i s _ E hg st λv h' tk hv st' k=>?_;have I1:Inv X À σ H {s with heap:=h',toks:=tk}:=I.turned (t':=tk) (λb o hb e=>k b o (by simpa using hb) e) f0 f1 f3 f4 f5;let⟨c,u,hx,rfl⟩:=hv;let⟨o,e,cl,d⟩:=id st';refine⟨_,rfl,MW (s:={s with heap:=h',toks:=tk}) e cl d (by rcases hty with e|e<;>rw[e]<;>decide) ⟨.str ⟨#[c]⟩,H,I1,⟨u,rfl⟩,⟨rfl,c,hx,rfl⟩,st',λb hb=>(hf b hb).1⟩⟩
 .intro X hP hw hK hc i À s σ H E I hf st hg
  subst hP hw hK;let⟨f0,f1,f2,f3,f4,f5⟩:=hf it 'f';have hg:i=x.cps.size:=hg;subst hg;exact(W X.A (I.ok.hd hc)).done s _ E st λh' tk k=>⟨rfl,I.turned (t':=tk) (λb o hb e=>k b o (by simpa using hb) e) f0 f1 f3 f4 f5⟩
 .have st:s.heap.IsStrIter it (strIterType x) x t i:=st
  rcases hty with e|e
  .rw[e]at st;exact wpAny_pyIter_striter_ascii st h
  .rw[e]at st;exact wpAny_pyIter_striter_wide st h
section
variable {b:Expr}{F:Hp}{K:ZC}
def aOA(tl:TE):TI:=λσ H R=>tl σ H λx H1=>∃z,x=.str z/\R (ū z) H1
def aHC(hl:PE X l tl):PI X tg l (aOA tl):=by
 intro À s σ H R I h;refine cY (hl À s σ H _ I h) λv s1 zQ=>?_;let⟨x,H1,I1,r1,q1⟩:=zQ;let⟨z,rfl,q⟩:=q1;let⟨t,rfl⟩:=r1;refine wpAny_pyIter_strU ?_;refine⟨s1.heap.objs.size,[s1.heap.objs.size],_,_,H1,rfl,I1.kept (t':=s1.toks) λb o e=>Heap.get?_push_of_some _ e,UM z t _,⟨_,Heap.get?_push_size _ rfl,rfl,rfl⟩,λb hb=>?_,q⟩;have e:b=s1.heap.objs.size:=by simpa using hb
 subst e;exact I1.fpOk (È _) (I1.hok.fresh (È _))
def mW(z:Str):ZI:=z.cps.toList.map λc=>.str ⟨#[c]⟩
def aBC{z:Str}:UI K F (ū z) (mW z) where
 go:=λi H s hi=>by
  have:(mW z).length=z.cps.size:=by unfold mW;simp
  rw[this]at hi;exact hi
 yld:=λi H x H' d s y e=>.inl ⟨y.1,by
  let⟨c,hc,rfl⟩:=y.2;unfold mW at e;rw[Ñ]at e;have:z.cps.toList[i]?=some c:=by simpa using hc
  rw[this]at e;cases e;exact NC⟩
 stop:=λH s=>by
  show (mW z).length=z.cps.size;unfold mW;simp
def xU(f:M D):M (ZI):=λδ=>(f δ).bind λd δ1=>match d with
 |.str z=>.ok (mW z) δ1
 |_=>.stuck
def aHD(h:DE X Z ow 0 e f):DI X Z ow tg e (xU f):=(aHC h).mono λσ H R q=>by
 let⟨F,δ,Rl,q⟩:=q;unfold xU at q;refine⟨F,δ,Rl,?_⟩;cases e1:f δ with
 |stuck=>rw[e1]at q;sleep 4
 |err x δ1=>rw[e1]at q;exact q
 |ok d δ1=>
  rw[e1]at q;simp![Res.bind]at q;intro v H1 F1 R1 s1;cases d with
  |str z=>exact⟨z,iY R1.rep,q _ H1 F1 R1.rel s1 aBC⟩
  |_=>sleep 4
def BV:iU X (compareOp .LtE) (λx y H Q=>∃i j,x=.str i/\y=.str j/\Q (.bl (!decide (j.cps.toList<i.cps.toList))) H):=by
 sleep 6;let⟨i,j,rfl,rfl,q⟩:=h;let⟨t,rfl⟩:=rx;let⟨t',rfl⟩:=ry;exact PySem.P.le_str ⟨.bl _,H,I,rfl,q⟩
def ĝ:D->D->ZL
 |.str i,.str j=>some (.bool (!decide (j.cps.toList<i.cps.toList)))
 |_,_=>none
def UN:pZ X (λx y H Q=>∃i j,x=.str i/\y=.str j/\Q (.bl (!decide (j.cps.toList<i.cps.toList))) H) 0 ĝ:=λZ ow F H σ δ a b x y d Q S R ra rb e q=>by
 unfold ĝ at e;split at e
 .cases e;exact⟨_,_,iY ra,iY rb,q _ H F (R.x iM) 'm'⟩
 .cases e
def bJ.bl_at:∀{bs:List Bool}{us:ZJ}{i:Nat}{u:Value},bJ (bs.map V.bl) us->us[i]?=some u->∃b,bs[i]?=some b/\u=.bool b
 |[],us,i,u,r,e=>by cases r;simp at e
 |b::bs,_,0,u,.cons r _,e=>by cases e;exact⟨b,rfl,r⟩
 |b::bs,_,i+1,u,.cons _ r,e=>by
  let⟨b',e1,e2⟩:=bJ.bl_at (i:=i) r (by simpa using e);exact⟨b',e1,e2⟩
def QG{bs:List Bool}:(List.range bs.length).all (λi=>bs.getD i true)=bs.all id:=by
 rw[Bool.eq_iff_iff,é,é];constructor
 .intro h b hb
  let⟨i,hi,e⟩:=List.mem_iff_getElem.mp hb;have:=h i (List.mem_range.mpr hi);rw[Ë,Ê hi]at this;rw[<- e];exact this
 .intro h i hi
  have hi:=List.mem_range.mp hi;rw[Ë,Ê hi];exact h _ (ý hi)
def HB(hc:X.calm=true):gY X (.builtin "all") (λxs H Q=>∃(p:Addr)(bs:List Bool),xs=[.ref p]/\eV X.K H p (bs.map V.bl)/\Q (.bl (bs.all id)) H):=by
 intro À s σ H xs us Q I r h;let⟨p,bs,rfl,hq,q⟩:=h;let⟨u,rfl,rx⟩:=pU r;cases rx;let⟨its,rv,pl,hz⟩:=I.list hq;refine call_all_walk (wpAny_pyIter_list pl.isList ?_);have hlen:=rv.length;rw[Æ]at hlen;have hne:p≠s.heap.objs.size:=by
  let⟨o,n,e,_⟩:=pl;exact Ì (Heap.lt_size e)
 have ph:Inv X À σ H {s with heap:=s.heap.push {cls:=.type "list_iterator",data:=.fields #[.ref p,.int 0 0]}}:=I.kept (t':=s.toks) λb o e=>Heap.get?_push_of_some _ e;let⟨its',rv',pl',_⟩:=ph.list hq;have e1:its=its':=by
  let⟨o,n,e,c,dn,d⟩:=pl;let⟨o',n',e',c',dn',d'⟩:=pl';have e'':=Heap.get?_push_of_some {cls:=.type "list_iterator",data:=.fields #[.ref p,.int 0 0]} e;rw[e'']at e';cases e';rw[d]at d';injection d' with d1 _;simpa using congrArg Array.toList d1
 subst e1;refine⟨s.heap.objs.size,_,_,_,_,_,λi=>bs.getD i true,rfl,Walks.list (A:=X.A.in1) (show X.A.in1.handled=none from I.ok.hd hc) s.heap.objs.size p hne its.toArray,⟨⟨_,Heap.get?_push_size _ rfl,rfl,rfl⟩,pl'.isList⟩,λi v s' Q' E' hv hQ=>?_,λh' tk k=>?_⟩
 .have hv:its.toArray[i]?=some v:=hv
  let⟨b,hb,rfl⟩:=bJ.bl_at (i:=i) rv (by simpa using hv);have hQ:Q' (bs.getD i true) s':=hQ;rw[Ë,hb]at hQ;exact wpAny_truthy_bool hQ
 .have sz:its.toArray.size=bs.length:=by simp;exact Eq.symm ‹_›
  rw[sz,QG];have I2:=ph.turned (it:=s.heap.objs.size) (h':=h') (t':=tk) (λb o hb e=>k b o (by simpa using hb) e) (I.hok.fresh (È _)) (Ü I.lt) (.inr I.sz) (λx c e=>by
   let⟨v,q⟩:=I.cell x c e;exact Ì q.lt) λp hp=>Ì (Heap.lt_size (I.pin p hp).1)
  exact⟨.bl _,H,I2,rfl,q⟩
def sI:ZI->Option (List Bool)
 |[]=>some []
 |.bool b::r=>(sI r).map (b::·)
 |_=>none
def BW:∀{ds:ZI}{bs:List Bool}{vs:List V},sI ds=some bs->aE K F ds vs->vs=bs.map V.bl
 |[],bs,vs,h,r=>by
  cases h;unfold aE at r;rw[r];rfl
 |d::ds,bs,vs,h,r=>by
  unfold aE at r;let⟨x,rest,rfl,rx,r⟩:=r;cases d with
  |bool b=>
   have h:(sI ds).map (b::·)=some bs:=h;cases e:sI ds with
   |none=>rw[e]at h;cases h
   |some bs'=>
    rw[e]at h;cases h;rw[jP rx,BW e r];rfl
  |_=>cases h
def Ŭ:ZI->ZL
 |[.list ds]=>(sI ds).map λbs=>.bool (bs.all id)
 |_=>none
def aHG:ē X (λxs H Q=>∃(p:Addr)(bs:List Bool),xs=[.ref p]/\eV X.K H p (bs.map V.bl)/\Q (.bl (bs.all id)) H) 0 Ŭ:=λZ ow F H σ δ ds vs d Q S R ra e q=>by
 unfold Ŭ at e;split at e
 .rename_i ds'
  cases e1:sI ds' with
  |none=>rw[e1]at e;cases e
  |some bs=>
   rw[e1]at e;cases e;let⟨v,rfl,r⟩:=D9 ra;let⟨p,xs,rfl,hp,hr⟩:=kE r;rw[BW e1 hr]at hp;exact⟨p,bs,rfl,R.sub.seq hp,q _ H F (R.x iM) 'm'⟩
 .cases e
def oX(hg:Gl X x)(hm:∃t,X.mg x=some (.int i t))(hd:⇑(Zdb x)):DE X Z ow 0 (.Name x pos) (dC (.int i)):=by
 let⟨t,hm⟩:=hm;exact nB (aAC hg hm (v:=.int i) ⟨t,rfl⟩ hd) λF=>fW
end
theorem QH{K:ZC}(z:AW P w K outer H s (λ_ _ _=>False) e s'):False:=by
 let⟨_,_,_,_,_,_,_,_,_,_,_,_,_,q⟩:=z;exact q
end L2
namespace L2
open PySem PySem.Spec
def EC{C:Int->Int->Prop}{g:Int->Int->D}{i j:Int}(h:C i j):iD C g (.int i) (.int j)=some (g i j):=by
 unfold iD;exact Â h
def HC(h:0<j):wE (.int i) (.int j)=some (.int (i % j)):=by
 rw[wE,EC (by show j≠0;exact Int.ne_of_gt ‹_›),Int.fmod_eq_emod_of_nonneg i (by exact ñ ‹_›)]
def uH(h:0<j)(h2:j.natAbs.log2<9000):xP (.int i) (.int j)=some (.int (i/j)):=by
 rw[xP,EC ⟨by exact Int.ne_of_gt ‹_›,h2⟩,Int.fdiv_eq_ediv_of_nonneg i (by exact ñ ‹_›)]
def aBD(h:IntMulOk i j):QD (.int i) (.int j)=some (.int (i*j)):=by rw[QD,EC h]
def aBE(h:Ľ i j):ń (.int i) (.int j)=some (.int (i^j.toNat)):=by rw[ń,EC h]
def aBF:G7 (.int i) (.int j)=some (.bool (i == j)):=rfl
def NG:AZ (.int i) (.int j)=some (.bool (!(i == j))):=rfl
def UO:AZ (.bool i) (.bool j)=some (.bool (!(i == j))):=rfl
def xV{e:M D}{g:D->D}{δ:DS}:∀{ds acc:ZI}{o:ZL},(∀d∈ds,e (some d::δ)=.ok (g d) (some d::δ))->acc.length+ds.length<=sizeLine->∃o',bU (eB 0) dZ e ds acc (o::δ)=.ok (acc++ds.map g) (o'::δ)
 |[],acc,o,_,_=>⟨o,by simp[bU]⟩
 |d::ds,acc,o,h,hl=>by
  have hd:=h d Õ;rw[Ý]at hl;let⟨o',ih⟩:=xV (ds:=ds) (acc:=acc++[g d]) (o:=some d) (λx hx=>h x (Ó _ hx)) (by simp;lia);refine⟨o',?_⟩;unfold bU;have e1:eB 0 d (o::δ)=some (some d::δ):=by simp[eB]
  rw[e1];show Res.bind (dZ (some d::δ)) _=_;simp![dZ,Res.bind,if_true,hd];rw[Â ∅,ih];simp
def BX{f:M (ZI)}{e:M D}{g:D->D}{δ δ1:DS}{ds:ZI}(hf:f δ=.ok ds δ1)(he:∀d∈ds,e (some d::δ1)=.ok (g d) (some d::δ1))(hl:ds.length<=sizeLine):dY 1 (eB 0) f dZ e δ=.ok (.list (ds.map g)) δ1:=by
 unfold dY;rw[hf];let⟨o',h⟩:=xV (acc:=[]) (o:=none) he (by simpa using hl);simp![Res.bind];rw[show List.replicate 1 (none:ZL)++δ1=none::δ1 from rfl,h];simp
def aJT{set:D->DS->Option DS}{u:M Fl}(I:Nat->ZO){ds:ZI}(hs:∀(k:Nat)(d:D)(δ:DS),ds[k]?=some d->I k δ->∃δ1 δ2,set d δ=some δ1/\(u δ1=.ok .next δ2\/u δ1=.ok .cont δ2)/\I (k+1) δ2)(h0:I 0 δ):
  ∃δ',fQ set u ds δ=.ok .next δ'/\I ds.length δ':=by
 have main:∀(n k:Nat)(δ:DS),k+n=ds.length->I k δ->∃δ',fQ set u (ds.drop k) δ=.ok .next δ'/\I ds.length δ':=by
  intro n
  induction n with
  |zero=>
   intro k δ hk h;have:k=ds.length:=by assumption
   subst this;rw[List.drop_length];exact⟨δ,rfl,h⟩
  |succ n ih=>
   intro k δ hk h;have hlt:k<ds.length:=by lia
   let⟨δ1,δ2,e1,e2,h2⟩:=hs k ds[k] δ (Ê hlt) h;let⟨δ',e3,h3⟩:=ih (k+1) δ2 ∅ h2;refine⟨δ',?_,h3⟩;rw[ÿ hlt];unfold fQ;rw[e1];rcases e2 with e2|e2
   .simp![e2,Res.bind];exact e3
   .simp![e2,Res.bind];exact e3
 have:=main ds.length 0 δ (by exact Nat.add_comm _ _) h0
 rwa [List.drop_zero]at this
def NH{u v:M Fl}{δ δ1:DS}(h:u δ=.ok .next δ1):bO u v δ=v δ1:=by unfold bO;rw[h];rfl
def UP{u v:M Fl}{δ δ1:DS}{d:D}(h:u δ=.ok (.ret d) δ1):bO u v δ=.ok (.ret d) δ1:=by unfold bO;rw[h];rfl
def UQ{n k:Nat}{d:D}(h:(kX lo n)[k]?=some d):k<n/\d=.int (lo+(k:Int)):=by
 have hk:k<n:=by have:=(Î.mp h).1;rwa [g7]at this
 rw[DZ hk]at h;cases h;exact⟨hk,rfl⟩
def UR(h:z.length=n)(hn:n<=sizeLine):qN [.str z]=some (.int n):=by
 show (if z.length<=sizeLine then some (PyData.int z.length)else none)=_;rw[Â (by rw[h];exact hn),h]
def aX{k:α->DS->Res β}:(Res.ok a δ).bind k=k a δ:=rfl
def i5{op:D->D->ZL}{f g:M D}{δ δ1 δ2:DS}{a b c:D}(hf:f δ=.ok a δ1)(hg:g δ1=.ok b δ2)(ho:op a b=some c):fC op f g δ=.ok c δ2:=by
 unfold fC;rw[hf,aX,hg,aX,ho]
def NI{op:ZI->ZL}{f:M D}{δ δ1:DS}{a c:D}(hf:f δ=.ok a δ1)(ho:op [a]=some c):xJ op [f] δ=.ok c δ1:=by
 unfold xJ;rw[show bD [f] δ=.ok [a] δ1 by simp![bD,hf,aX],aX,ho]
def aHH{op:D->ZL}{f:M D}{δ δ1:DS}{a c:D}(hf:f δ=.ok a δ1)(ho:op a=some c):rP op f δ=.ok c δ1:=by
 unfold rP;rw[hf,aX,ho]
def sJ{f:M D}{δ δ1:DS}{b:Bool}(hf:f δ=.ok (.bool b) δ1):dB f δ=.ok b δ1:=by
 unfold dB;rw[hf,aX]
def NJ{f:M D}{δ δ1:DS}{d:D}(hf:f δ=.ok d δ1):kC f δ=.ok (.ret d) δ1:=by
 unfold kC;rw[hf,aX]
def aHI{c:M Bool}{u v:M Fl}{δ δ1:DS}(h:c δ=.ok true δ1):gF c u v δ=u δ1:=by unfold gF;rw[h,aX,Â rfl]
def US{c:M Bool}{u v:M Fl}{δ δ1:DS}(h:c δ=.ok false δ1):gF c u v δ=v δ1:=by unfold gF;rw[h,aX,Ä Ú]
def aBG{f g:M D}{δ δ1:DS}(h:f δ=.ok 'l' δ1):mV f g δ=g δ1:=by unfold mV;rw[h,aX];exact Â rfl
def aBH{f g:M D}{δ δ1:DS}(h:f δ=.ok (.bool false) δ1):mV f g δ=.ok (.bool false) δ1:=by unfold mV;rw[h,aX];exact Ä Ú
def HD{f:M Bool}{δ δ1:DS}{b:Bool}(h:f δ=.ok b δ1):mU f δ=.ok (!b) δ1:=by unfold mU;rw[h,aX]
def cM{i:Nat}{δ:DS}{d:D}(h:δ[i]?=some (some d)):aK i δ=.ok d δ:=by unfold aK;rw[h]
def i6:dC d δ=.ok d δ:=rfl
def QI{fn:ZI->Res D}{f:M D}{δ δ1:DS}{a c:D}{o:DS}(hf:f δ=.ok a δ1)(h:fn [a]=.ok c o):bP fn [.val f] δ=.ok c δ1:=by
 simp![bP,cK,hf,aX,eG,Option.map,h,aU,bY]
def NK(N B C:ZO)(R:D->ZO):Fl->ZO
 |.next,δ=>N δ
 |.brk,δ=>B δ
 |.cont,δ=>C δ
 |.ret d,δ=>R d δ
structure Wt{α:Type}(a:α):Type where
def bK(m:M Fl)(δ:DS)(N:ZO)(B C:ZO)(R:D->ZO)(_w:Wt (N,B,C,R):=⟨⟩):Prop:=match m δ with
 |.ok .next δ'=>N δ'
 |.ok .brk δ'=>B δ'
 |.ok .cont δ'=>C δ'
 |.ok (.ret d) δ'=>R d δ'
 |_=>False
def aW{α:Type}(f:M α)(δ:DS)(Q:α->ZO)(_w:Wt Q:=⟨⟩):Prop:=match f δ with
 |.ok a δ'=>Q a δ'
 |_=>False
section
variable {m u:M Fl}{f k:M D}{δ δ1:DS}{N B C:ZO}{R:D->ZO}
def aW.of{f:M α}{a:α}{Q:α->ZO}(h:f δ=.ok a δ1)(q:Q a δ1):aW f δ Q:=by unfold aW;rw[h];exact q
def aW.ex{f:M α}{Q:α->ZO}(h:aW f δ Q):∃a δ1,f δ=.ok a δ1/\Q a δ1:=by
 unfold aW at h;cases e:f δ with
 |ok a δ1=>rw[e]at h;exact⟨a,δ1,rfl,h⟩
 |err x δ1=>sleep 1
 |stuck=>sleep 1
def bK.of{fl:Fl}(h:m δ=.ok fl δ1)(q:NK N B C R fl δ1):bK m δ N B C R:=by
 unfold bK;rw[h];cases fl<;>exact q
def bK.ex(h:bK m δ N B C R):∃fl δ1,m δ=.ok fl δ1/\NK N B C R fl δ1:=by
 unfold bK at h;cases e:m δ with
 |ok fl δ1=>rw[e]at h;exact⟨fl,δ1,rfl,by cases fl<;>exact h⟩
 |err x δ1=>sleep 1
 |stuck=>sleep 1
def LF(h:bK u δ (λδ1=>bK v δ1 N B C R) B C R):bK (bO u v) δ N B C R:=by
 let⟨fl,δ1,e,q⟩:=h.ex;cases fl with
 |next=>
  let⟨fl,δ2,e2,q⟩:=bK.ex q;exact .of ((NH e).trans e2) q
 |brk=>exact .of (fl:=.brk) (by unfold bO;rw[e];rfl) q
 |cont=>exact .of (fl:=.cont) (by unfold bO;rw[e];rfl) q
 |ret d=>exact .of (fl:=.ret d) (UP e) q
def UT(h:aW f δ R):bK (kC f) δ N B C R:=by
 let⟨d,δ1,e,q⟩:=h.ex;exact .of (fl:=.ret d) (NJ e) q
def aK3(h:aW c δ λb δ1=>if b=true then bK u δ1 N B C R else bK v δ1 N B C R):bK (gF c u v) δ N B C R:=by
 let⟨b,δ1,e,q⟩:=h.ex;cases b with
 |true=>
  rw[Â rfl]at q;let⟨fl,δ2,e2,q⟩:=q.ex;exact .of ((aHI e).trans e2) q
 |false=>
  rw[Ä Ú]at q;let⟨fl,δ2,e2,q⟩:=q.ex;exact .of ((US e).trans e2) q
def aBI{set:D->DS->Option DS}(I:Nat->ZO){ds:ZI}(hs:∀(k:Nat)(d:D)(δ:DS),ds[k]?=some d->I k δ->∃δ1,set d δ=some δ1/\bK u δ1 (I (k+1)) N (I (k+1)) R)(hN:∀δ,I ds.length δ->N δ)(h0:I 0 δ):bK (fQ set u ds) δ N B C R:=by
 have main:∀(n k:Nat)(δ:DS),k+n=ds.length->I k δ->bK (fQ set u (ds.drop k)) δ N B C R:=by
  intro n
  induction n with
  |zero=>
   intro k δ hk h;have:k=ds.length:=by assumption
   subst this;rw[List.drop_length];exact .of (fl:=.next) rfl (hN δ h)
  |succ n ih=>
   intro k δ hk h;have hlt:k<ds.length:=by lia
   let⟨δ1,e1,w⟩:=hs k ds[k] δ (Ê hlt) h;let⟨fl,δ2,e2,q⟩:=w.ex;rw[ÿ hlt];cases fl with
   |next=>
    let⟨fl,δ3,e3,q⟩:=(ih (k+1) δ2 ∅ q).ex;exact .of (by unfold fQ;rw[e1];simp![e2,aX];exact e3) q
   |cont=>
    let⟨fl,δ3,e3,q⟩:=(ih (k+1) δ2 ∅ q).ex;exact .of (by unfold fQ;rw[e1];simp![e2,aX];exact e3) q
   |brk=>exact .of (fl:=.next) (by unfold fQ;rw[e1];simp![e2,aX]) q
   |ret d=>exact .of (fl:=.ret d) (by unfold fQ;rw[e1];simp![e2,aX]) q
 have:=main ds.length 0 δ (by exact Nat.add_comm _ _) h0
 rwa [List.drop_zero]at this
def dN{set:D->DS->Option DS}{f:M (ZI)}(I:Nat->ZO){ds:ZI}(hf:f δ=.ok ds δ1)(h0:I 0 δ1)(hs:∀(k:Nat)(d:D)(δ:DS),ds[k]?=some d->I k δ->∃δ1,set d δ=some δ1/\bK u δ1 (I (k+1)) N (I (k+1)) R)(hN:∀δ,I ds.length δ->N δ):bK (jR set f u) δ N B C R:=by
 let⟨fl,δ2,e,q⟩:=(aBI (B:=B) (C:=C) I hs hN h0).ex;exact .of (by unfold jR;rw[hf,aX];exact e) q
def UU{set:D->DS->Option DS}{j:Int}(I:Nat->ZO)(hf:f δ=.ok (.int j) δ1)(hj:-(2^62)<=j)(hj2:j<2^62)(h0:I 0 δ1)(hs:∀(k:Nat)(δ:DS),(k:Int)<j->I k δ->∃δ1,set (.int k) δ=some δ1/\bK u δ1 (I (k+1)) N (I (k+1)) R)(hN:∀δ,I j.toNat δ->N δ):bK (jR set (uG [f]) u) δ N B C R:=by
 refine dN (ds:=kX 0 j.toNat) (δ1:=δ1) I ?_ h0 (λk d δ hd hI=>?_) (λδ h=>hN δ (by rwa [g7]at h))
 .simp![uG,bD,hf,aX,mX]
  rw[Â ⟨hj,hj2⟩]
 .obtain⟨hk,rfl⟩:=UQ hd
  rw[Int.zero_add];exact hs k δ ∅ hI
def aQ{os:ZI}(h:bK body (ds.map some++List.replicate (m0-ds.length) none) (λ_=>False) (λ_=>False) (λ_=>False) λr δ=>r=d/\fV δ ps=some os):aR m0 ps rm body ds=.ok d (os.map some):=by
 let⟨fl,δ1,e,q⟩:=h.ex;cases fl with
 |ret r=>
  let⟨rfl,ho⟩:=q;unfold aR;rw[e];dsimp only;rw[ho]
 |next=>sleep 4
 |brk=>sleep 4
 |cont=>sleep 4
end
end L2
namespace L2
open PySem PySem.Spec PyProof.Rows
section
variable {X:Cx}{Z:cB}{ow:ZH}{k:M D}{F H:Hp}{σ:St}{δ:DS}{K:ZC}
def ED:M Fl:=λ_=>.stuck
def ŭ(set:D->DS->Option DS)(f:M D):M Fl:=λδ=>(f δ).bind λd δ1=>match set d δ1 with
 |some δ2=>.ok .next δ2
 |none=>.stuck
def bJ.int_at:∀{ns:ZK}{us:ZJ}{i:Nat}{u:Value},bJ (ns.map V.int) us->us[i]?=some u->∃m t,ns[i]?=some m/\u=.int m t
 |[],_,i,u,.nil,h=>by simp at h
 |m::ns,_,0,u,.cons r rr,h=>by
  let⟨t,rfl⟩:=r;cases h;exact⟨m,t,rfl,rfl⟩
 |m::ns,_,i+1,u,.cons r rr,h=>by
  let⟨m',t,h1,h2⟩:=bJ.int_at (i:=i) rr (by simpa using h);exact⟨m',t,by simpa using h1,h2⟩
def vQ{ns:ZK}:∀{j:Nat},j<=ns.length->preSum (λi=>ns.getD i 0) j=(ns.take j).sum
 |0,_=>rfl
 |j+1,h=>by
  show preSum (λi=>ns.getD i 0) j+ns.getD j 0=_;have e1:ns.getD j 0=ns[j]:=by rw[Ë,Ê 't'];rfl
  have e2:ns.take (j+1)=ns.take j++[ns[j]]:=by rw[List.take_add_one,Ê 't'];rfl
  rw[vQ (Nat.le_of_succ_le h),e1,e2,List.sum_append];simp![List.sum_cons,List.sum_nil,Int.add_zero]
def sK(hc:X.calm=true):gY X (.builtin "sum") (λxs H Q=>∃(p:Addr)(ns:ZK),xs=[.ref p]/\eV X.K H p (ns.map V.int)/\Q (.int ns.sum) H):=by
 intro À s σ H xs us Q I r h;let⟨p,ns,rfl,hq,q⟩:=h;let⟨u,rfl,rx⟩:=pU r;cases rx;let⟨its,rv,pl,hz⟩:=I.list hq;refine call_sum_walkAnyS (wpAny_pyIter_list pl.isList ?_);have hlen:=rv.length;rw[Æ]at hlen;have hne:p≠s.heap.objs.size:=by
  let⟨o,n,e,_⟩:=pl;exact Ì (Heap.lt_size e)
 have ph:Inv X À σ H {s with heap:=s.heap.push {cls:=.type "list_iterator",data:=.fields #[.ref p,.int 0 0]}}:=I.kept (t':=s.toks) λb o e=>Heap.get?_push_of_some _ e;let⟨its',rv',pl',_⟩:=ph.list hq;have e1:its=its':=by
  let⟨o,n,e,c,dn,d⟩:=pl;let⟨o',n',e',c',dn',d'⟩:=pl';have e'':=Heap.get?_push_of_some {cls:=.type "list_iterator",data:=.fields #[.ref p,.int 0 0]} e;rw[e'']at e';cases e';rw[d]at d';injection d' with d1 _;simpa using congrArg Array.toList d1
 subst e1;refine⟨s.heap.objs.size,_,_,_,_,_,_,λi=>ns.getD i 0,rfl,(Walks.list (A:=X.A.in1) (show X.A.in1.handled=none from I.ok.hd hc) s.heap.objs.size p hne its.toArray).toS,⟨⟨_,Heap.get?_push_size _ rfl,rfl,rfl⟩,pl'.isList⟩,λb hb=>?_,λi v hv=>?_,λs' t' mv=>?_⟩
 .have hb:b∈[s.heap.objs.size,p]:=hb
  have z:(s.heap.push {cls:=.type "list_iterator",data:=.fields #[.ref p,.int 0 0]}).objs.size=s.heap.objs.size+1:=by simp[Heap.push]
  show b<(s.heap.push _).objs.size;rw[z];simp![Ï,ä,or_false]at hb;rcases hb with rfl|rfl
  .exact ê _
  .obtain⟨o,n,e,_⟩:=pl
   exact Nat.lt_succ_of_lt (Heap.lt_size e)
 .have hv:its.toArray[i]?=some v:=hv
  let⟨m,t,hb,rfl⟩:=bJ.int_at (i:=i) rv (by simpa using hv);refine⟨t,?_⟩;show _=Value.int (ns.getD i 0) t;rw[Ë,hb];rfl
 .have sz:its.toArray.size=ns.length:=by simp;exact Eq.symm ‹_›
  rw[sz,vQ (È _),List.take_length];let⟨h',g',d',t2,o'⟩:=s';obtain rfl:g'=s.gens:=mv.gens;obtain rfl:d'=s.drawn:=mv.drawn;obtain rfl:o'=s.os:=mv.os;have I2:=ph.turned (it:=s.heap.objs.size) (h':=h') (t':=t2) (λb o hb e=>mv.heap b o (by simpa using hb) e) (I.hok.fresh (È _)) (Ü I.lt) (.inr I.sz) (λx c e=>by
   let⟨v,q⟩:=I.cell x c e;exact Ì q.lt) λp hp=>Ì (Heap.lt_size (I.pin p hp).1)
  exact⟨.int _,H,I2,⟨t',rfl⟩,q⟩
def c6:ZI->Option (ZK)
 |[]=>some []
 |.int i::r=>(c6 r).map (i::·)
 |_=>none
def i7:c6 (l.map .int)=some l:=by
 induction l with
 |nil=>rfl
 |cons a l ih=>show (c6 (l.map .int)).map (a::·)=_;rw[ih];rfl
def i8:∀{ds:ZI}{bs:ZK}{vs:List V},c6 ds=some bs->aE K F ds vs->vs=bs.map V.int
 |[],bs,vs,h,r=>by
  cases h;unfold aE at r;rw[r];rfl
 |d::ds,bs,vs,h,r=>by
  unfold aE at r;let⟨x,rest,rfl,rx,r⟩:=r;cases d with
  |int b=>
   have h:(c6 ds).map (b::·)=some bs:=h;cases e:c6 ds with
   |none=>rw[e]at h;cases h
   |some bs'=>
    rw[e]at h;cases h;rw[gG rx,i8 e r];rfl
  |_=>cases h
def ň:ZI->ZL
 |[.list ds]=>(c6 ds).map λbs=>.int bs.sum
 |_=>none
def UV:ē X (λxs H Q=>∃(p:Addr)(ns:ZK),xs=[.ref p]/\eV X.K H p (ns.map V.int)/\Q (.int ns.sum) H) 0 ň:=λZ ow F H σ δ ds vs d Q S R ra e q=>by
 unfold ň at e;split at e
 .rename_i ds'
  cases e1:c6 ds' with
  |none=>rw[e1]at e;cases e
  |some bs=>
   rw[e1]at e;cases e;let⟨v,rfl,r⟩:=D9 ra;let⟨p,xs,rfl,hp,hr⟩:=kE r;rw[i8 e1 hr]at hp;exact⟨p,bs,rfl,R.sub.seq hp,q _ H F (R.x fW) 'm'⟩
 .cases e
def EE:D->Option V
 |.int i=>some (.int i)
 |.bool b=>some (.bl b)
 |.str z=>some (.str z)
 |.none=>some .non
 |_=>none
def A5:ZI->Option (List V)
 |[]=>some []
 |d::ds=>match EE d,A5 ds with
  |some v,some vs=>some (v::vs)
  |_,_=>none
def sM(h:EE d=some v)(r:bG K F d x):x=v/\mR v=true:=by
 cases d with
 |int i=>cases h;exact⟨gG r,rfl⟩
 |bool b=>cases h;exact⟨jP r,rfl⟩
 |str z=>cases h;exact⟨iY r,rfl⟩
 |none=>cases h;unfold bG at r;exact⟨r,rfl⟩
 |_=>cases h
def sN:∀{ds:ZI}{vs xs:List V},A5 ds=some vs->aE K F ds xs->xs=vs/\vs.all mR=true
 |[],vs,xs,h,r=>by
  cases h;unfold aE at r;exact⟨r,rfl⟩
 |d::ds,vs,xs,h,r=>by
  unfold aE at r;let⟨x,rest,rfl,rx,r⟩:=r;unfold A5 at h;split at h
  .rename_i v vs' e1 e2
   cases h;let⟨rfl,f1⟩:=sM e1 rx;let⟨rfl,f2⟩:=sN e2 r;exact⟨rfl,by rw[List.all_cons,f1,f2];rfl⟩
  .cases h
def Į(neg:Bool):D->D->ZL
 |a,.list ds=>match EE a,A5 ds with
  |some x,some xs=>some (.bool (if neg then !Ē x xs else Ē x xs))
  |_,_=>none
 |a,.tuple ds=>match EE a,A5 ds with
  |some x,some xs=>some (.bool (if neg then !Ē x xs else Ē x xs))
  |_,_=>none
 |_,_=>none
def LG:pZ X (Κ X.K neg) 0 (Į neg):=λZ ow F H σ δ a b x y d Q S R ra rb e q=>by
 unfold Į at e;split at e
 .split at e
  .rename_i v vs e1 e2
   cases e;let⟨p,xs,rfl,hp,hr⟩:=kE rb;let⟨rfl,f1⟩:=sM e1 ra;let⟨rfl,f2⟩:=sN e2 hr;exact⟨p,_,rfl,.inl (R.sub.seq hp),f1,f2,q _ H F (R.x iM) 'm'⟩
  .cases e
 .split at e
  .rename_i v vs e1 e2
   cases e;let⟨p,xs,rfl,hp,hr⟩:=AY rb;let⟨rfl,f1⟩:=sM e1 ra;let⟨rfl,f2⟩:=sN e2 hr;exact⟨p,_,rfl,.inr (R.sub.seqT hp),f1,f2,q _ H F (R.x iM) 'm'⟩
  .cases e
 .cases e
def xW{k:Nat}(S:aS Z ow):∀(is:ZH)(t:SY),(∀i∈is,i<k/\i∉Z.ps/\i<ow.length/\ow.getD i 0=0)->t=is.foldr (λi u=>GP (pT i) u) SZ ->
  ∀(F H:Hp)(σ:St)(δ δ':DS)(ds:ZI)(vs:List V)(Q:St->Hp->Prop),cS X.K Z ow F H σ δ->aE X.K F ds vs->ds.length=is.length ->
   (is.zip ds).foldl (λ(o:Option DS)(p:Nat×D)=>o.bind λδ=>eB p.1 p.2 δ) (some δ)=some δ'->(∀σ',cS X.K Z ow F H σ' δ'->σ'.length=σ.length->δ'.length=δ.length->(∀i,σ'[i+k]?=σ[i+k]?)->Q σ' H)->t vs σ H Q
 |[],t,hi,ht,F,H,σ,δ,δ',ds,vs,Q,R,ra,hl,e,q=>by
  subst ht;cases ds with
  |cons _ _=>simp at hl
  |nil=>
   unfold aE at ra;cases e;exact⟨ra,q σ R rfl rfl λ_=>rfl⟩
 |i::is,t,hi,ht,F,H,σ,δ,δ',ds,vs,Q,R,ra,hl,e,q=>by
  subst ht;cases ds with
  |nil=>simp at hl
  |cons d ds=>
   unfold aE at ra;let⟨x,rest,rfl,rx,r⟩:=ra;rw[á,List.foldl_cons]at e;cases e1:eB i d δ with
   |none=>
    rw[show ((some δ:Option DS).bind λδ=>eB (i,d).1 (i,d).2 δ)=none from e1]at e;have:∀l:List (Nat×D),l.foldl (λ(o:Option DS)(p:Nat×D)=>o.bind λδ=>eB p.1 p.2 δ) none=none:=λl=>by induction l with|nil=>rfl|cons a l ih=>exact ih
    rw[this]at e;cases e
   |some δ1=>
    rw[show ((some δ:Option DS).bind λδ=>eB (i,d).1 (i,d).2 δ)=some δ1 from e1]at e;let⟨h0,h1,h2,h3⟩:=hi i Õ;refine⟨x,rest,rfl,g8 S h0 h1 h2 h3 F H σ δ δ1 d x _ R rx e1 λσ' R' l1 l2 l3=>?_⟩;exact xW S is _ (λj hj=>hi j (Ó _ hj)) rfl F H σ' δ1 δ' ds rest Q R' r (by simpa using hl) e λσ2 R2 m1 m2 m3=>q σ2 R2 (m1.trans l1) (m2.trans l2) λj=>(m3 j).trans (l3 j)
def EF{k:Nat}(S:aS Z ow)(hi:∀i∈is,i<k/\i∉Z.ps/\i<ow.length/\ow.getD i 0=0)(ht:t=is.foldr (λi u=>GP (pT i) u) SZ):Ċ X Z ow k (Ŝ X.K is.length t) (uD is):=λF H σ δ δ' d v Q R r e q=>by
 unfold uD at e;cases d with
 |tuple ds=>
  dsimp only at e;split at e
  .rename_i hl
   unfold bG at r;let⟨a,xs,rfl,hq,ra⟩:=r;exact⟨a,xs,rfl,R.sub.seqT hq,by rw[<- ra.len];exact hl,xW S is t hi ht F H σ δ δ' ds xs Q R ra hl e q⟩
  .cases e
 |_=>cases e
end
section
def aP1:ZI->ZI->Option (D×ZI)
 |ds,[.int i,d]=>if 0<=i/\i<2^62/\ds.length<sizeLine then some (.none,ds.take i.toNat++[d]++ds.drop i.toNat)else none
 |_,_=>none
def EG(l:Addr)(items:Array Value)(n:Nat)(b:Addr)(fO:Array Value)(n2:Nat)(sl2:Array (ZN))(hc0:¬(!items.isEmpty && Builtin.List.listTooLong (items.size+fO.size))=true)(hc1:items.size<=sizeLine)(hs2:items.size+fO.size<=sizeLine+1):
  Meets (Builtin.«list.extend» ⟨[.ref l,.ref b],[]⟩) (λ_ R s=>s.heap.get? l=some {cls:=.type "list",dict:=none,data:=.seq items n,slots:=#[]}/\s.heap.get? b=some ⟨.type "list",none,.seq fO n2,sl2⟩/\R (.ok (.ret Value.none)) {s with heap:=s.heap.update l (Obj.mapSeq λx=>x++fO),toks:=s.toks}):=
 .of_wp λprog w A R s h=>by
  let⟨hp,g,d,tk,os⟩:=s;let⟨hl,hb,h⟩:=h;have f1:=PySem.AutoSeq1.idx_int;have f2:=PySem.AutoSeq1.sub_tuple_tuple;have f3:=PySem.AutoSeq1.sub_list_list;have f4:=PySem.AutoSeq1.sub_tuple_list;have f5:=PySem.AutoSeq1.sub_list_tuple;have hz':(items++fO).size<=sizeLine+1:=by rw[Array.size_append];exact hs2
  wp_walk using (wpAny_updateSeq hl rfl (hz:=hc1) (_hz':=hz')),PySem.AutoSeq1.wpAny_loadPart' hl,PySem.AutoSeq1.wpAny_loadPart' hb
  exact⟨_,rfl,h⟩
def Ψ(K:ZC):V->List V->Hp->VK->Prop:=λx vs H Q=>∃l b xs zs,x=.ref l/\vs=[.ref b]/\H l=some (.lst xs)/\eV K H b zs/\xs.length+zs.length<=sizeLine/\Q .non (aY H l (.lst (xs++zs)))
def EH:Ł X "list.extend" (Ψ X.K):=by
 intro À s σ H x vs v us Q I rx rv h;let⟨l,b,xs,zs,rfl,rfl,hH,hB,hz,q⟩:=h;cases rx;let⟨u,rfl,ru⟩:=rv.one;cases ru;let⟨z,its,n,r,hl,e⟩:=I.lstM hH;let⟨its2,r2,⟨o2,n2,e2,c2,dn2,dd2⟩,z2⟩:=I.list hB;let⟨oc2,od2,oda2,osl2⟩:=o2;cases c2;cases dn2;cases dd2;have hl2:=r2.length;have hsz:its.toArray.size+its2.toArray.size<=sizeLine:=by rw[è,è];lia
 have hlong:¬(!its.toArray.isEmpty && Builtin.List.listTooLong (its.toArray.size+its2.toArray.size))=true:=by
  rw[TQ hsz,Bool.and_false];exact Ú
 refine call_meets F.slot_list_extend ⟨_,e,rfl⟩ F.entry_list_extend (F.args_list_extend_2 _ _)
  (EG l its.toArray n b its2.toArray n2 osl2 hlong (by rw[è];lia) (by exact Nat.le_succ_of_le ‹_›)) ⟨e,e2,?_⟩
 refine⟨.non,_,I.lset (its':=its++its2) hH e 'f' (r.append r2) ?_,rfl,q⟩;rw[Ò];assumption
def UW:ZI->ZI->Option (D×ZI)
 |ds,[.list zs]=>if ds.length+zs.length<=sizeLine then some (.none,ds++zs)else none
 |_,_=>none
def qP:D1 X (Ψ X.K) UW:=λF H l xs vs ds args ret ds' hl hs h1 h2 e=>by
 unfold UW at e;split at e
 .rename_i zs
  split at e
  .rename_i hlt
   cases e;let⟨v,rfl,r⟩:=D9 h2;let⟨p,ys,rfl,hp,hr⟩:=kE r;exact⟨xs++ys,.non,h1.app hr,D3,λQ q=>⟨l,p,xs,ys,rfl,rfl,hl,hs.seq hp,by rw[<- h1.len,<- hr.len];exact hlt,q⟩⟩
  .cases e
 .cases e
end
section
variable {X:Cx}{Z:cB}{ow ol ox:ZH}{rm:Nat}{pos pos' p1 p2:Pos}{e:Expr}{x y:Str}{f:M (ZI)}{u:M Fl}{sts:List Stmt}
def dQ(i:Nat)(hN:X.N.Nodup)(hi:DI X Z ow (.Name x pos') e f)(hb:AS X Z ow ow ow ox rm sts u)(hp:PassesOwn 'b' X.A X.env X.xe:=by exact PassesOwn.leaving)(hc:↥(X.calm=true))(hx:↥'q')(hl:#v[ć X.env.scope x])(hfn:#v[X.fn x=true\/X.env.scope.names.lookup x=some .local])(ok:↥((decide (ow.length<=1000) && !Z.ps.contains 1000 && !Z.ps.contains i && decide (i<ow.length) && (ow.getD i 0 == 0))=true))(hf: ~~~(Zfi e X.env)):xK X Z ow ow ol ox rm (.For (.Name x pos') e sts [] pos) (jR (eB i) f u):=by
 simp![æ,Bool.not_eq_true',decide_eq_true_eq,beq_iff_eq]at ok;exact D8 hp hc hi (c9 hN hx hl hfn) (DY ⟨ok.1.1.1.1,dA ok.1.1.1.2⟩ (dA ok.1.1.2) ok.1.2 ok.2) hb hf
def fY(i j:Nat)(hN:X.N.Nodup)(hi:DI X Z ow (.Tuple [.Name x p1,.Name y p2] k pos') e f)(hb:AS X Z ow ow ow ox rm sts u)(hp:PassesOwn 'b' X.A X.env X.xe:=by exact PassesOwn.leaving)(hc:↥(X.calm=true))(hx:↥'q')(hy:↥(X.N[j]?=some y))(hl:#v[ć X.env.scope x])(hm:#v[ć X.env.scope y])(hfn:#v[X.fn x=true\/X.env.scope.names.lookup x=some .local])(hfm:#v[X.fn y=true\/X.env.scope.names.lookup y=some .local])(ok:↥((decide (ow.length<=1000) && !Z.ps.contains 1000 && [i,j].all λi=>!Z.ps.contains i && decide (i<ow.length) && (ow.getD i 0 == 0))=true))(hf: ~~~(Zfi e X.env)):xK X Z ow ow ol ox rm (.For (.Tuple [.Name x p1,.Name y p2] k pos') e sts [] pos) (jR (uD [i,j]) f u):=by
 simp![æ,Bool.not_eq_true',decide_eq_true_eq,beq_iff_eq,é]at ok;exact D8 hp hc hi (DC hc (gX (c9 hN hx hl hfn) (gX (c9 hN hy hm hfm) wH))) (aGZ (is:=[i,j]) ⟨ok.1.1,dA ok.1.2⟩ (λi hi=>⟨dA (ok.2 i hi).1.1,(ok.2 i hi).1.2,(ok.2 i hi).2⟩) rfl) hb hf
end
section
variable {X:Cx}{Z:cB}{ow ol ox:ZH}{rm:Nat}{pos p1:Pos}{elt iter:Expr}{ifs:List Expr}{scope:Scope}{x:Str}{fi:M (ZI)}{t:M Bool}{fe:M D}
abbrev ŉ(Z:cB)(ow:ZH)(n:Nat):Bool:=decide (ow.length<=1000) && !Z.ps.contains 1000 && decide ((List.replicate n 0++ow).length<=1000) && !(Z.sh n).ps.contains 1000 && (List.range n).all λi=>!(Z.sh n).ps.contains i
def d8(x:Str)(hi:DI X Z ow (.Name x p1) iter fi)(hif:∀C fp s H,SN (aV X [x] scope C fp s H) ifs (tT (aV X [x] scope C fp s H) (Z.sh 1) (List.replicate 1 0++ow) t))(he:∀C fp s H,DE (aV X [x] scope C fp s H) (Z.sh 1) (List.replicate 1 0++ow) 0 elt fe)(nd:↥(decide ([x]++m7 [x] X.N).Nodup=true))(hc:↥(X.calm=true))(ok:↥(ŉ Z ow 1=true))(hl:∀C fp s H,(aV X [x] scope C fp s H).env.scope.names.lookup x=some .local:=by intro _ _ _ _;rfl)(hk:↥(scope.kind=.function))(hok:↥(eJ X.N [x] scope.names X.env.scope.names=true))(hfs: ~~~(Zfi iter X.env)):
  DE X Z ow 1 (.ListComp elt [⟨.Name x p1,iter,ifs,0⟩] scope pos) (dY 1 (eB 0) fi t fe):=by
 simp![ŉ,æ,Bool.not_eq_true',decide_eq_true_eq,é,List.mem_range]at ok;exact HA (xs:=[x]) ⟨ok.1.1.1.1,dA ok.1.1.1.2⟩ ⟨ok.1.1.2,dA ok.1.2⟩ hc hi (λC fp s H=>c9 (i:=0) (of_decide_eq_true nd) rfl (Or.inl (hl C fp s H)) (Or.inr (hl C fp s H))) (g8 ⟨ok.1.1.2,dA ok.1.2⟩ (ù _) (dA (ok.2 0 ⋯)) (ù _) rfl) hif he hk hok hfs
def gK(i:Nat)(x:Str){z:Str}{pos' spos:Pos}(hN:X.N.Nodup)(hi:DI X Z ow (.Name x p1) iter fi)(hif:∀C fp s H,SN (aV X [x] scope C fp s H) ifs (tT (aV X [x] scope C fp s H) (Z.sh 1) (List.replicate 1 0++ow) t))(he:∀C fp s H,DE (aV X [x] scope C fp s H) (Z.sh 1) (List.replicate 1 0++ow) 0 elt fe)(nd:↥(decide ([x]++m7 [x] X.N).Nodup=true))(hc:↥(X.calm=true))(ok:↥(ŉ Z ow 1=true))(hl:∀C fp s H,(aV X [x] scope C fp s H).env.scope.names.lookup x=some .local:=by intro _ _ _ _;rfl)(hx:↥(X.N[i]?=some z))(hz:↥(X.env.scope.names.lookup z=some .local))(hps:↥(Z.ps.contains i=false))(hlo:⇑(i<ow.length))(hsw:↥(swapsWith (.ListComp elt [⟨.Name x p1,iter,ifs,0⟩] scope pos) (some (.Name z pos')) spos.line X.env=pure true))(hk:↥(scope.kind=.function))(hok:↥(eJ X.N [x] scope.names X.env.scope.names=true))(hfs: ~~~(Zfi iter X.env)):
  xK X Z ow (ow.set i 1) ol ox rm (.Assign [.Name z pos'] (.ListComp elt [⟨.Name x p1,iter,ifs,0⟩] scope pos) spos) (cE i (dY 1 (eB 0) fi t fe)):=by
 simp![ŉ,æ,Bool.not_eq_true',decide_eq_true_eq,é,List.mem_range]at ok;exact fX i (xs:=[x]) ⟨ok.1.1.1.1,dA ok.1.1.1.2⟩ ⟨ok.1.1.2,dA ok.1.2⟩ hc hN hi (λC fp s H=>c9 (i:=0) (of_decide_eq_true nd) rfl (Or.inl (hl C fp s H)) (Or.inr (hl C fp s H))) (g8 ⟨ok.1.1.2,dA ok.1.2⟩ (ù _) (dA (ok.2 0 ⋯)) (ù _) rfl) hif he hx hz hps hlo hsw hk hok hfs
end
section
variable {K:ZC}{X:Cx}{Z:cB}{ow:ZH}{n:Nat}{pos:Pos}{F H H':Hp}{σ:St}{δ:DS}{g:ZP}
def KI(g:ZP)(F H:Hp):Hp:=λb=>open Classical in if ∃l,g b=some l then (if F b=none then H b else F b)else F b
def HE:aM F (KI g F H):=λb o e=>by
 unfold KI;split
 .rw[Ä (by rw[e];simp)];exact e
 .exact e
def aBK(hs:aM F H):aM (KI g F H) H:=λb o e=>by
 unfold KI at e;split at e
 .split at e
  .exact e
  .exact hs b o e
 .exact hs b o e
def bC.freezeA(r:bC K F H g i n p d v):bG K (KI g F H) d v:=
 iK.froze HE (λa p o e1 e2 e3=>by unfold KI;rw[Â ⟨_,e1⟩,Â e3];exact e2) r
def bV.grow(R:bV K Z ow g F H σ δ)(h:aM H H'):bV K Z ow g F H' σ δ:=
 ⟨R.sub.trans' h,R.f0,λb o n e=>h b o (R.kept b o n e),R.new,λb z=>by
  cases e:H b with
  |none=>exact absurd e (R.there b z)
  |some o=>rw[h b o e];simp,R.lab,R.len,R.par,λi d e=>by
  let⟨v,e1,o⟩:=R.slot i d e;exact⟨v,e1,o.mono (λ_ _ z=>z) (λ_ _ _ z=>z) (λ_ _ _ _ z=>z) λa l ob _ _ z=>h a ob z⟩⟩
def UX(h:EE d=some x)(r:bG K F d v):bG K F' d v:=by
 let⟨rfl,_⟩:=sM h r;cases d with
 |int i=>cases h;exact fW
 |bool b=>cases h;exact iM
 |str z=>cases h;exact NC
 |none=>cases h;exact D3
 |_=>cases h
def i9(F H:Hp)(σ:St)(m:Nat):cB:=⟨F,H,λ_=>none,[],σ,List.replicate m 0,λ_ _ _ e=>by cases e⟩
def lX:'k'.getD i 0=0:=by
 rw[Ë,Ą];split<;>rfl
def bV.bor(R:bV K Z ow g F H σ δ):cS K (i9 (KI g F H) H σ m) 'k' (KI g F H) H σ δ:=
 ⟨λ_=>none,aBK R.sub,⟨R.f0.lm.mono HE,λ_ _ z=>z⟩,λ_ _ _ e=>e,λ_ h _=>h,λ_ h=>h,λ_ _ _ e=>(by cases e),R.len,λi hi=>(by cases hi),λi d e=>by
  let⟨v,e1,o⟩:=R.slot i d e;refine⟨v,e1,?_⟩;rw[lX];exact o.freezeA⟩
def QJ(f:M D):M D:=λδ=>match f δ with
 |.ok d _=>(match EE d with|some _=>.ok d δ|none=>.stuck)
 |_=>.stuck
def HF(f:M Bool):M Bool:=λδ=>match f δ with
 |.ok b _=>.ok b δ
 |_=>.stuck
def uI(m:Nat)(h:∀F H σ,DE X (i9 F H σ m) 'k' 0 e f):DE X Z ow 0 e (QJ f):=λÀ s σ H Q I q=>by
 let⟨F,δ,⟨g,R⟩,q⟩:=q;unfold QJ at q;refine h (KI g F H) H σ À s σ H Q I ⟨KI g F H,δ,R.bor,?_⟩;cases e1:f δ with
 |stuck=>rw[e1]at q;sleep 4
 |err x δ1=>rw[e1]at q;sleep 4
 |ok d δ1=>
  rw[e1]at q;dsimp only at q;cases e2:EE d with
  |none=>rw[e2]at q;sleep 4
  |some x=>
   rw[e2]at q;rintro v H' F' ⟨g',R',o⟩ s';exact q v H' F ⟨g,R.grow λb o e=>R'.kept b o rfl e,UX e2 o⟩ λ_ _ z=>z
def UY(m:Nat)(h:∀F H σ,DT X (i9 F H σ m) 'k' e f):DT X Z ow e (HF f):=λÀ s σ H Q I q=>by
 let⟨F,δ,⟨g,R⟩,q⟩:=q;unfold HF at q;refine h (KI g F H) H σ À s σ H Q I ⟨KI g F H,δ,R.bor,?_⟩;cases e1:f δ with
 |stuck=>rw[e1]at q;sleep 4
 |err x δ1=>rw[e1]at q;sleep 4
 |ok d δ1=>
  rw[e1]at q;rintro H' F' ⟨g',R'⟩ s';exact q H' F ⟨g,R.grow λb o e=>R'.kept b o rfl e⟩ λ_ _ z=>z
def Ŋ(i:Nat)(lo hi:Option (M D)):M D:=λδ=>match δ[i]? with
 |some (some _)=>(kF lo δ).bind λl δ1=>(kF hi δ1).bind λu δ2=>(match δ2[i]? with
  |some (some 'r')=>.ok (.list (A0 ds l u)) δ2
  |_=>.stuck)
 |_=>.stuck
def UZ(i:Nat){x:Str}{p p2:Pos}{lo hi:Option Expr}(S:aS Z ow)(hl:DO X Z ow lo fl)(hu:DO X Z ow hi fh)(ho:↥(ow.getD i 0=1))(hN:↥'q')(hv:#v[AR X.env.scope x])(hd:⇑(Zdb x))(hcd:⇑(Zcd x)):
  DE X Z ow 1 (.Subscript 'd' (.Slice lo hi none p2) pos) (Ŋ i fl fh):=PE.mono (GR wI (dM hN hv hd hcd) hl hu) λσ H Q q=>by
 let⟨F,δ,R,q⟩:=q;unfold Ŋ at q;cases e0:δ[i]? with
 |none=>rw[e0]at q;sleep 4
 |some o=>
  cases o with
  |none=>rw[e0]at q;sleep 4
  |some d0=>
   rw[e0]at q;dsimp only at q;let⟨a,ds0,vs0,q1,q2,q3,q4⟩:=R.ownAt ho e0;refine⟨_,q2,F,δ,R,?_⟩;cases e1:kF fl δ with
   |stuck=>rw[e1]at q;sleep 4
   |err y δ2=>rw[e1]at q;exact q
   |ok l δ1=>
    rw[e1]at q;simp![Res.bind]at q;intro H1 F1 R1 s1;refine⟨F1,δ1,R1,?_⟩;cases e2:kF fh δ1 with
    |stuck=>rw[e2]at q;sleep 4
    |err y δ2=>rw[e2]at q;exact iQ.mono q s1
    |ok u δ2=>
     rw[e2]at q;simp![Res.bind]at q;intro H2 F2 R2 s2;cases e3:δ2[i]? with
     |none=>rw[e3]at q;sleep 4
     |some o=>
      cases o with
      |none=>rw[e3]at q;sleep 4
      |some d1=>
       rw[e3]at q;let⟨a',ds1,vs1,p1,p2,p3,p4⟩:=R2.ownAt ho e3;rw[q2]at p2;cases p2;subst p1;exact⟨a,vs1,rfl,eV.of p3,λt ht=>q _ _ F2 (R2.newList S ht (p4.cut l u)) (s1.trans' s2)⟩
end
theorem aK5(q:W.excIn.match_6 (λ_=>Bool) o f (λ_=>false)=true)(n:∀a c s,o=some ⟨.type "type",a,.cls c,s⟩->f a c s≠true):False:=by
 rcases o with _|⟨c,d,d1,s⟩
 .exact nomatch q
 cases c with
 |type m=>
  by_cases e:m="type"
  .subst e
   cases d1<;>try exact Ú q
   exact n _ _ _ rfl q
  .delta W.excIn.match_6 W.nsOkIn._sparseCasesOn_4 W.excIn._sparseCasesOn_6 at q
   dsimp only at q;rw[dif_neg e]at q;cases q
 |_=>exact Ú q
theorem aK6{l:ZJ}{k:List (ZN)}(q:W.excIn.match_1 (λ_ _=>Bool) l k f (λ_ _=>false)=true)(n:∀c m a b d e g i,l=.ref c::m->k=[a,b,d,e,some (.builtin g),i]->f c m a b d e g i≠true):False:=by
 rcases l with _|⟨v,l⟩
 .exact nomatch q
 cases v<;>try exact Ú q
 rcases k with _|⟨a,_|⟨b,_|⟨d,_|⟨e,_|⟨_|g,k⟩⟩⟩⟩⟩<;>try exact Ú q
 cases g<;>try exact Ú q
 rcases k with _|⟨i,_|⟨_,k⟩⟩<;>try exact Ú q
 exact n _ _ _ _ _ _ _ _ rfl rfl q
theorem QK{K:ZC}(X:K.In h)(q:W.excIn K C bmB newId=true){P:Prop}(w:∀bm N nm q bs hdct sn sub ab col dd k0 k1 k2 k3 k5 mN,h.get? C=some (excClassObj nm q C N bs bm hdct sn sub ab col dd k0 k1 k2 k3 k5 newId)->h.Ns N mN->mN "__init__"=none->OwnTail h bmB bm->P):P:=by
 refine ā λw1=>aK5 q λdd cd sl ho q1=>aK6 q1 λC' bm k0 k1 k2 k3 n k5 hm hs q=>w1 ?_;simp![æ,beq_iff_eq,Bool.not_eq_true']at q;let⟨⟨⟨⟨⟨rfl,rfl⟩,hdel⟩,ht⟩,hok⟩,hni⟩:=q;let⟨nm,bs,mro,ns,qn,hd,sn,sub,ab,col,del⟩:=cd;let⟨l⟩:=sl;cases hm;cases hs;cases hdel;exact w bm ns nm qn bs hd sn sub ab col dd k0 k1 k2 k3 k5 _ (X _ _ ho) (.of_isNs (W.isNs_of_in X hok)) (W.nsMap_none_of_in X hok hni) (W.tail_of_in X ht)
section
variable {X:Cx}{Z:cB}{ow ow' ol ox:ZH}{rm:Nat}{pos np cpos:Pos}{e:Expr}{es:List Expr}{x:Str}{C:Addr}{B newId initId:String}{bmB:ZJ}{fs:List (M D)}
def kG(x:Str)(fs:List (M D)):M Fl:=λδ=>(bD fs δ).bind λds δ1=>if ds.length<=1000 then .err (.str x) δ1 else .stuck
def g9(S:aS Z ow)(FB:ExcBaseFacts B newId initId bmB)(hg:Gl X x)(hns:W.nsIn X.K mainGlobals x=some (some (.ref C)))(hmg:X.mg x=some (.ref C))(hC:W.excIn X.K C bmB newId=true)(hc:X.calm=true)(ha:DV X Z ow (e::es) fs)(hz:↥(T0 Z=true))(hdb:⇑(Zdb x))(he:↥(Zse e es X.env))(hpl:↥(Zbt cpos es X.env)):
  xK X Z ow ow' ol ox rm (.Raise (some (.Call (.Name x np) (e::es) [] cpos)) none pos) (kG x fs):=λÀ s σ H Dn I h=>by
 let⟨F,δ,R,h⟩:=h;unfold kG at h;refine QK I.ok.mod.kin hC λtl N nm q bs hdct sn sub ab col dd k0 k1 k2 k3 k5 mN hC0 hN hni T=>?_;refine wpAny_Raise_call_subT (C:=C) (nm:=nm) (q:=q) (N:=N) (bs:=bs) (bm:=tl) (hdct:=hdct) (sn:=sn) (sub:=sub) (ab:=ab) (col:=col) (dd:=dd) (k0:=k0) (k1:=k1) (k2:=k2) (k3:=k3) (k5:=k5)
  FB (mN:=mN) (T.hasType FB.hasBase) (I.ok.hd hc) (by rw[he];show (false || (backTo cpos (starEach es X.env)).any (·.1))=false;rw[hpl];rfl) hni (rQ I hg hmg ⟨rfl,?_⟩ hdb)
 have hA:=ha cpos À s σ H (λvs H1=>vs.length<=1000/\∃F1 δ1,cS X.K Z ow F1 H1 σ δ1/\iQ X Z ox F1 (.str x) δ1) I ⟨F,δ,R,?_⟩
 .rw[he]at hA⊢
  refine Calls.evalArgs_plain (wpAny_mono hA (λus s₂ h₂=>?_) λ_ _ y=>y);let⟨vs,H1,I1,r,hl,F1,δ1,R1,xo⟩:=h₂;refine⟨rfl,?_,I1.bk _ _ hC0,hN.keeps I1.bk,T.keeps I1.bk,λh' ea m=>?_⟩
  .show us.length<=sizeLine
   rw[<- r.length];exact Ø hl ⋯
  .obtain⟨t,q1,q2,q3⟩:=m.there
   have I2:Inv X À σ H1 {s₂ with heap:=h'}:=I1.kept (t':=s₂.toks) m.keeps;let⟨F2,s2,R2⟩:=R1.toP hz;refine xo.out À _ _ ⟨x,H1,F2,σ,rfl,I2,R2,s2,ea,.ref C,[ea],rfl,hns,⟨_,_,q1,⟨rfl,rfl⟩,rfl,(by show 1<6;decide),.inl ⟨rfl,rfl⟩⟩,λb hb=>?_⟩;simp![Ï,ä,or_false]at hb;subst hb;exact pY.of I1 (I1.hok.none m.new) m.new
 .cases e1:bD fs δ with
  |stuck=>rw[e1]at h;exact h.elim
  |err y δ1=>rw[e1]at h;exact iQ.cast h
  |ok ds δ1=>
   rw[e1]at h;simp![Res.bind]at h;intro vs H' F' R' s' ra;by_cases hl:ds.length<=1000
   .rw[Â hl]at h
    exact⟨by rw[<- ra.len];exact hl,F',δ1,R',iQ.mono h s'⟩
   .rw[Ä hl]at h;exact h.elim
end
section
variable {K:ZC}{Z:cB}{ow ow':ZH}{g:ZP}{F H F1 H1:Hp}{σ σ1:St}{δ δ1:DS}
def cB.sub(ps:ZH)(g:ZP)(F H:Hp)(σ:St)(ow:ZH):cB:=
 ⟨F,H,T1 ps g,ps,σ,ow,λa i q e=>by
  unfold T1 at e
  simp_all⟩
def bV.enter(R:bV K Z ow g F H σ δ)(h:∀i,i∉ps->ow.getD i 0=0):bV K (cB.sub ps g F H σ ow) ow (T1 ps g) F H σ δ:=by
 refine⟨R.sub,⟨R.f0.lm,λ_ _ z=>z⟩,λ_ _ _ z=>z,λ_ z _=>z,λ_ z=>z,λa i p e=>.inr ⟨p,e⟩,R.len,λi _=>⟨rfl,rfl⟩,λi d e=>?_⟩;let⟨v,e1,o⟩:=R.slot i d e;refine⟨v,e1,?_⟩;by_cases hi:i∈ps
 .refine o.mono (λ_ _ z=>z) (λa l hl e=>?_) (λ_ _ _ _ z=>z) λ_ _ _ _ _ z=>z
  unfold T1;rw[Ä]
  .exact e
  .rintro⟨j,p,e2,hj⟩
   rw[e]at e2;cases e2;exact hj (by rw[show j=i from hl];exact hi)
 .rw[h i hi]at o⊢
  exact o
def bV.leave(R:bV K Z ow g F H σ δ)(hps:∀i∈Z.ps,i∈ps)(R1:bV K (cB.sub ps g F H σ ow) ow' g1 F1 H1 σ1 δ1):bV K Z ow' g1 F1 H1 σ1 δ1:=by
 have gl:∀a i q,T1 ps g a=some (i,q)->g a=some (i,q):=λa i q e=>by
  unfold T1 at e
  simp_all
 refine⟨R1.sub,R.f0.trans' R1.f0.2,λb o n e=>R1.kept b o ?_ (R.kept b o n e),λa z1 z2=>R1.new a (R.new a z1 z2) (R.there a z2),λb z=>R1.there b (R.there b z),λa i p e=>?_,R1.len,λi hi=>?_,R1.slot⟩
 .show T1 ps g b=none
  cases q:T1 ps g b with
  |none=>rfl
  |some l=>
   let⟨i,p⟩:=l;rcases R.lab b i p (gl b i p q)with z|⟨q',z⟩
   all_goals grind
 .rcases R1.lab a i p e with z|⟨q,z⟩
  .refine .inl ?_
   cases q:Z.H0 a with
   |none=>rfl
   |some o=>exact absurd z (R.there a (by rw[q];simp))
  .exact R.lab a i q (gl a i q z)
 .obtain⟨p1,p2⟩:=R1.par i (hps i hi)
  let⟨p3,p4⟩:=R.par i hi;exact⟨p1.trans p3,p2.trans p4⟩
end
abbrev Cx.tryB(X:Cx)(pn:ZB)(E:ZA):Cx:={X with pn:=pn,xe:=E}
abbrev Cx.hand(X:Cx)(a:Addr):Cx:={X with A:=X.A.mark (some (.ref a)),calm:=false,xe:=λ_ _=>False}
section
variable {X:Cx}{À pins2 pn:ZB}{σ:St}{H:Hp}{s:Shared}{E:ZA}{a:Addr}{nm:Str}{e:Value}
def Inv.toB(I:Inv X À σ H s)(E:ZA):Inv (X.tryB (X.pn++À) E) [] σ H s:=
 ⟨⟨I.ok.mod,I.ok.kind,I.ok.glob,I.ok.blt,I.ok.above,I.ok.inj,I.ok.has,I.ok.cab,I.ok.hd,I.ok.frames,I.ok.stk,I.ok.exf,I.ok.bs,I.ok.bsz,I.ok.noex,I.ok.exfs,I.ok.funs,I.ok.frf⟩,I.os,I.bare,I.base,I.loc,I.cell,I.free,I.freeC,λp hp=>I.pin p (by rwa [ô]at hp),I.hok,I.len⟩
def Inv.ofB(I:Inv (X.tryB (X.pn++À) E) pins2 σ H s):Inv X À σ H s:=
 ⟨⟨I.ok.mod,I.ok.kind,I.ok.glob,I.ok.blt,I.ok.above,I.ok.inj,I.ok.has,I.ok.cab,I.ok.hd,I.ok.frames,I.ok.stk,I.ok.exf,I.ok.bs,I.ok.bsz,I.ok.noex,I.ok.exfs,I.ok.funs,I.ok.frf⟩,I.os,I.bare,I.base,I.loc,I.cell,I.free,I.freeC,λp hp=>I.pin p (Ć _ hp),I.hok,I.len⟩
def TY.ofB(f:TY (X.tryB (X.pn++À) E) pins2 H s nm e):TY X À H s nm e:=by
 let⟨a,cls,ch,h1,h2,h3,h4⟩:=f;exact⟨a,cls,ch,h1,h2,h3,λb hb=>⟨(h4 b hb).un,(h4 b hb).new,(h4 b hb).fr,(h4 b hb).cell,λp hp=>(h4 b hb).pin p (Ć _ hp)⟩⟩
def SP.ofB(h:SP (X.tryB (X.pn++À) E) [] Dn f s'):SP X À Dn f s':=by
 cases f with
 |next=>let⟨σ',H',I,q⟩:=h;exact⟨σ',H',I.ofB,q⟩
 |brk=>let⟨σ',H',I,q⟩:=h;exact⟨σ',H',I.ofB,q⟩
 |cont=>let⟨σ',H',I,q⟩:=h;exact⟨σ',H',I.ofB,q⟩
 |ret u=>let⟨v,σ',H',I,r,q⟩:=h;exact⟨v,σ',H',I.ofB,r,q⟩
def Inv.toH(I:Inv X À σ H s)(a:Addr):Inv (X.hand a) À σ H s:=
 ⟨⟨I.ok.mod,I.ok.kind,I.ok.glob,I.ok.blt,I.ok.above,I.ok.inj,I.ok.has,I.ok.cab,λz=>(by cases z),I.ok.frames,I.ok.stk,I.ok.exf,I.ok.bs,I.ok.bsz,I.ok.noex,I.ok.exfs,I.ok.funs,I.ok.frf⟩,I.os,I.bare,I.base,I.loc,I.cell,I.free,I.freeC,I.pin,I.hok,I.len⟩
def Inv.ofH{a:Addr}{hd:X.calm=true->X.A.handled=none}(I:Inv (X.hand a) À σ H s):Inv X À σ H s:=
 ⟨⟨I.ok.mod,I.ok.kind,I.ok.glob,I.ok.blt,I.ok.above,I.ok.inj,I.ok.has,I.ok.cab,hd,I.ok.frames,I.ok.stk,I.ok.exf,I.ok.bs,I.ok.bsz,I.ok.noex,I.ok.exfs,I.ok.funs,I.ok.frf⟩,I.os,I.bare,I.base,I.loc,I.cell,I.free,I.freeC,I.pin,I.hok,I.len⟩
def SP.ofH(hd:X.calm=true->X.A.handled=none)(h:SP (X.hand a) À Dn f s'):SP X À Dn f s':=by
 cases f with
 |next=>let⟨σ',H',I,q⟩:=h;exact⟨σ',H',I.ofH (hd:=hd),q⟩
 |brk=>let⟨σ',H',I,q⟩:=h;exact⟨σ',H',I.ofH (hd:=hd),q⟩
 |cont=>let⟨σ',H',I,q⟩:=h;exact⟨σ',H',I.ofH (hd:=hd),q⟩
 |ret u=>let⟨v,σ',H',I,r,q⟩:=h;exact⟨v,σ',H',I.ofH (hd:=hd),r,q⟩
def DH(X:Cx)(Z:cB)(ow ow' ol ox:ZH)(rm:Nat)(hs:List ExceptHandler)(u:Str->M Fl):Prop:=
 ∀(À:ZB)(s:Shared)(σ:St)(H:Hp)(Dn:wB)(nm:Str)(e:Value),Inv X À σ H s->TY X À H s nm e->tS X Z ow ow' ol ox rm (u nm) Dn σ H->wpAny 'b' X.A (handleBy e X.env hs) (SP X À Dn) X.xe s
def aHK:DH X Z ow ow' ol ox rm [] (λ_=>ED):=λÀ s σ H Dn nm e I fl h=>by
 let⟨F,δ,R,h⟩:=h;exact h.elim
def QL(u:M Fl)(hs:Str->M Fl):M Fl:=λδ=>match u δ with
 |.err (.str nm) δ1=>hs nm δ1
 |.err _ _=>.stuck
 |.ok fl δ1=>.ok fl δ1
 |.stuck=>.stuck
def TY.note(hst:X.stack=X.env::X.outer)(hfr:X.env.frame=some X.env.locals){Q:ZA}{E':ZA}(I:Inv X À σ H s)(f:TY X À H s nm e)(h:∀s',Inv X À σ H s'->TY X À H s' nm e->Q e s'):wpAny 'b' X.A (noteFrame e X.env) (λ_ s'=>wpAny 'b' X.A (setFlight e none) (λ_ s''=>Q e s'') E' s') E' s:=by
 let⟨a,cls,ch,rfl,hn,x,hc⟩:=f;have hf:=I.ok.frames;have hl:=I.stack;rw[hst]at hf hl;refine TX hf hl hfr x λh1 ch1 xt1 m1=>?_;rw[<- hst]at xt1;have I1:=I.xt xt1 hc;have hc1:∀b∈ch1,pY X À H b:=λb hb=>by
  rcases m1.new x.mem b hb with m|⟨m0,_⟩
  .exact hc b m
  .exact pY.of I (I.hok.none m0) m0
 refine xH (fs:=mZ X.stack) m1.exc λh2 xt2 x2=>?_;exact h _ (I1.xt xt2 hc1) ⟨a,cls,ch1,rfl,hn,x2,hc1⟩
def aHL(ps:ZH)(hst:X.stack=X.env::X.outer)(hfr:X.env.frame=some X.env.locals)(hb:∀(K:ZA)(E1:ZA)(pn:ZB)(g:ZP)(F H:Hp)(σ:St),AS (X.tryB pn λe s'=>wpAny 'b' X.A (noteFrame e X.env) (λ_ s''=>K e s'') E1 s') (cB.sub ps g F H σ ow) ow ow' ol ox rm body u)(hh:DH X Z ow ow' ol ox rm (h0::hs) v)(hz:∀i,i∉ps->ow.getD i 0=0)(hps:∀i∈Z.ps,i∈ps):xK X Z ow ow' ol ox rm (.Try body (h0::hs) [] [] pos) (QL u v):=λÀ s σ H Dn I h=>by
 let⟨F,δ,⟨g,R⟩,h⟩:=h;refine wpAny_Try_except ?_;have hB:=hb (λe s''=>wpAny 'b' X.A (setFlight e none) (λ_ s₃=>wpAny 'b' X.A (handleBy e X.env (h0::hs)) (SP X À Dn) X.xe s₃) X.xe s'') X.xe (X.pn++À) g F H σ [] s σ H Dn (I.toB _) ⟨F,δ,⟨_,R.enter hz⟩,?_⟩
 .refine wpAny_mono hB (λf s1 q=>?_) λe s1 q=>q
  have q:=SP.ofB q;cases f with
  |next=>
   let⟨σ',H',I',q⟩:=q;exact C9 À s1 σ' H' Dn I' q
  |brk=>exact q
  |cont=>exact q
  |ret w=>exact q
 .unfold QL at h
  cases e1:u δ with
  |stuck=>rw[e1]at h;exact h.elim
  |ok fl δ1=>
   rw[e1]at h;dsimp only at h;cases fl with
   |next=>exact λσ' H' F' R' s'=>h σ' H' F' (let ⟨g1,R1⟩:=R';⟨g1,R.leave hps R1⟩) s'
   |brk=>exact λσ' H' F' R' s'=>h σ' H' F' (let ⟨g1,R1⟩:=R';⟨g1,R.leave hps R1⟩) s'
   |cont=>exact λσ' H' F' R' s'=>h σ' H' F' (let ⟨g1,R1⟩:=R';⟨g1,R.leave hps R1⟩) s'
   |ret d=>exact λv σ' H' F' owr R' s'=>h v σ' H' F' owr (let ⟨g1,R1,o⟩:=R';⟨g1,R.leave hps R1,o⟩) s'
  |err x δ1=>
   rw[e1]at h;refine⟨λpins2 e s1 xp=>?_⟩;let⟨nm,H1,F1,σ1,rfl,I1,⟨g1,R1⟩,s2,fl⟩:=xp;have R2:bV X.K Z ow g1 F1 H1 σ1 δ1:=R.leave hps R1;exact TY.note (Q:=λe s'=>wpAny 'b' X.A (handleBy e X.env (h0::hs)) (SP X À Dn) X.xe s') hst hfr I1.ofB fl.ofB λs' I' fl'=>hh À s' σ1 H1 Dn nm e I' fl' ⟨F1,δ1,⟨g1,R2⟩,h.mono s2⟩
def U0(v:M Fl):M Fl:=λδ=>match v δ with
 |.err _ _=>.stuck
 |r=>r
def aBM(h:tS X Z ow ow' ol ox rm (U0 v) Dn σ H)(a:Addr):tS (X.hand a) Z ow ow' ol ox rm v Dn σ H:=by
 let⟨F,δ,R,h⟩:=h;sleep 3;unfold U0 at h;cases e:v δ with
 |stuck=>sleep 1
 |err x δ1=>sleep 1
 |ok fl δ1=>
  rw[e]at h;cases fl with
  |next=>exact h
  |brk=>exact h
  |cont=>exact h
  |ret d=>exact h
def nI(NL:Option Bool)(v u:M Fl):M Fl:=match NL with
 |some true=>U0 v
 |some false=>u
 |none=>ED
def NM{NL:Str->Option Bool}(hg:Gl X c)(hmg:X.mg c=some (.ref C))(hA:∀nm r,NL nm=some r->∀cls,W.nsIn X.K mainGlobals nm=some (some cls)->W.exmOne X.K cls (.ref C)=some r)(hv:∀a,AS (X.hand a) Z ow ow' ol ox rm (b0::suite) v)(hu:DH X Z ow ow' ol ox rm hs u)(hdb:⇑(Zdb c)):
  DH X Z ow ow' ol ox rm (.ExceptHandler (some (.Name c np)) none (b0::suite) pos::hs) (λnm=>nI (NL nm) v (u nm)):=λÀ s σ H Dn nm e I fl h=>by
 let⟨a,cls,ch,rfl,hn,x,hc⟩:=id fl;have h:tS X Z ow ow' ol ox rm (nI (NL nm) v (u nm)) Dn σ H:=h;cases e1:NL nm with
 |none=>
  rw[e1]at h;let⟨F,δ,R,h⟩:=h;exact h.elim
 |some r=>
  rw[e1]at h;refine wpAny_handleBy_cons (codeAny_handlers_test (rQ (X:=X.hand a) (I.toH a) hg hmg ?_ hdb)) (by intro q;cases q);let⟨oe,vs,he,⟨hcl,_⟩,hd,_⟩:=id x;have LT:W.Looks 'b' s.heap (typeOf (.ref a)) cls:=hcl▸(W.Looks.ld he).andThen .now;refine(W.exm_one (M:=model X.prog X.w) I.kIn LT (hA nm r e1 cls hn)).here ?_;cases r with
  |true=>
   refine codeAny_handlers_suite (xH (fs:=mZ X.stack) x λh2 xt2 x2=>?_);refine wpAny_mono (hv a À _ σ H Dn ((I.xt xt2 hc).toH a) ?_) (λf s1 q=>SP.ofH I.ok.hd q) λ_ _ z=>z.elim;exact aBM h a
  |false=>exact hu À s σ H Dn nm _ I fl h
end
section
end
end L2
namespace L2
open PySem PySem.Spec PyProof.Rows PySem.W
structure ŋ(K:Frag)(C:Addr):Prop where
 ga:findIn K (.ref C) "__getattribute__"=some (some (.builtin "BaseException.__getattribute__"))
 gn:findIn K (.ref C) "__getattr__"=some none
 ca:findIn K (.ref C) "__class__"=some (some (.builtin "object.__class__"))
 cl:(clsIn K C).isSome=true
 cg:specialIn K (.builtin "object.__class__") "__get__"=some (some (.builtin "getset_descriptor.__get__"))
 tk:takesIn K (.builtin "object.__class__")=some true
 ob:mroIn K C (.type "object")=some true
 be:mroIn K C (.type "BaseException")=some true
section
end
end L2
namespace L2
open PySem PySem.Spec PyProof.Rows
def NL(l:List (Str×Bool))(nm:Str):(Option Bool):=l.lookup nm
def U1{K:ZC}(h:∀p∈l,∃cls,W.nsIn K mainGlobals p.1=some (some cls)/\W.exmOne K cls C=some p.2):
  ∀nm r,NL l nm=some r->∀cls,W.nsIn K mainGlobals nm=some (some cls)->W.exmOne K cls C=some r:=λnm r e cls hn=>by
 let⟨cls',h1,h2⟩:=h (nm,r) (þ e)
 grind
def aK7{ps ow:ZH}(h:((List.range ow.length).all λi=>ps.contains i || ow.getD i 0 == 0)=true):∀i,i∉ps->ow.getD i 0=0:=λi hi=>by
 grind
def aHM{ps qs:ZH}(h:qs.all ps.contains=true):∀i∈qs,i∈ps:=λi hi=>List.contains_iff_mem.mp (é.mp h i hi)
section
end
section
variable {X:Cx}{À:ZB}{σ:St}{H:Hp}{s:Shared}{h':Heap}
def Inv.turns{ch:ZM}(I:Inv X À σ H s)(k:∀b o,b∉ch->s.heap.get? b=some o->h'.get? b=some o)(hc:∀b∈ch,wC X À H b):
  Inv X À σ H {s with heap:=h',toks:=t'}:=by
 have off:∀b u,H b=some u->b∉ch:=λb u e z=>by have:=(hc b z).1;rw[this]at e;cases e
 refine I.step (g':=s.gens) (d':=s.drawn) (ch:=ch) (λb hb=>⟨(hc b hb).2.2.2.1,(hc b hb).2.1,(hc b hb).2.2.2.2.1,(hc b hb).2.2.2.2.2⟩) (λb o _ _ n e _=>k b o n e) (λb o _ _ n e _=>⟨o.slots,k b o n e⟩)
  (λb o n e z=>z) (λb o n e=>⟨o,k b o n e⟩) (λb ys e=>e) (λb o u e=>e) (λb ps e=>⟨#[],by rw[e];simp⟩) (λm hm=>?_) (λb u e=>?_) I.bare
 .obtain⟨o,es,ep,ho,q⟩:=hm
  exact⟨o,es,ep,k _ o (λz=>(hc _ z).2.1 rfl) ho,q⟩
 .refine(I.hok b u e).stay (λc v z q=>k c v ?_ q) (λc q=>q) λc ys q=>q
  grind
def Inv.pair{ch:ZM}(I:Inv X À σ H s)(k:∀b o,b∉ch->s.heap.get? b=some o->h'.get? b=some o)(hc:∀b∈ch,wC X À H b)(hT:s.heap.objs.size<=T)(hz:xs.length<=sizeLine)(r:bJ xs us)(ht:IsTup h' T us.toArray):
  Inv X À σ (aY H T (.tup xs)) {s with heap:=h',toks:=t'}:=by
 have fT:H T=none:=I.hok.fresh hT;have off:∀b u,H b=some u->b∉ch:=λb u e z=>by have:=(hc b z).1;rw[this]at e;cases e
 have neT:∀b u,H b=some u->b≠T:=λb u e=>bL e fT;refine I.step (g':=s.gens) (d':=s.drawn) (ch:=ch) (λb hb=>⟨(hc b hb).2.2.2.1,(hc b hb).2.1,(hc b hb).2.2.2.2.1,(hc b hb).2.2.2.2.2⟩) (λb o _ _ n e _=>k b o n e) (λb o _ _ n e _=>⟨o.slots,k b o n e⟩)
  (λb o n e z=>?_) (λb o n e=>⟨o,k b o n e⟩) (λb ys e=>?_) (λb o u e=>?_) (λb ps e=>⟨#[],?_⟩) (λm hm=>?_) (λb u e=>?_) I.bare
 .rw[aH (Ì (Ô (Heap.lt_size e) hT))];exact z
 .rw[aH (neT b _ e)];exact e
 .rw[aH (neT b _ e)];exact e
 .rw[aH (neT b _ e),e];simp
 .obtain⟨o,es,ep,ho,q⟩:=hm
  exact⟨o,es,ep,k _ o (λz=>(hc _ z).2.1 rfl) ho,q⟩
 .by_cases hb:b=T
  .subst hb;rw[aP]at e;cases e;exact⟨hz,us,r,ht⟩
  .rw[aH hb]at e
   refine(I.hok b u e).stay (λc v z q=>k c v ?_ q) (λc q=>by rw[aH (neT c _ q)];exact q) λc ys q=>by rw[aH (neT c _ q)];exact q
   grind
end
def Ů(K:ZC)(a b:Addr):It:=
 ⟨λi H=>∃xs ys x y,eV K H a xs/\eV K H b ys/\xs[i]?=some x/\ys[i]?=some y,
   λi H v H'=>∃p x y,H p=none/\H'=aY H p (.tup [x,y])/\v=.ref p/\(∀xs,eV K H a xs->xs[i]?=some x)/\∀ys,eV K H b ys->ys[i]?=some y,
   λi H=>∃xs ys,eV K H a xs/\eV K H b ys/\(xs.length<=i\/ys.length<=i)⟩
structure aK8(z p q i1 i2 a b:Addr)(i:Nat)(h:Heap):Prop where
 z0:IsZip h z p q .none
 p0:IsPair h p (.ref i1) (.ref i2)
 q0:∃u v,IsPair h q u v
 a0:h.IsListIter i1 a i
 b0:h.IsListIter i2 b i
def U2{P:Program}{w:World}{K:ZC}{es:List Expr}{n:Nat}{tp:Pos}(z p q i1 i2 a b:Addr)(D:ZipApart z p q i1 i2 a b):KK P w K (.Tuple es n tp) (Ů K a b) [z,p,q,i1,i2] z (aK8 z p q i1 i2 a b) where
 mem:=by simp
 obj:=λi h st c hc=>by
  simp![Ï,ä,or_false]at hc;rcases hc with rfl|rfl|rfl|rfl|rfl
  .exact⟨_,st.z0,λv e=>by cases e⟩
  .exact⟨_,st.p0,λv e=>by cases e⟩
  .obtain⟨u,v,e⟩:=st.q0
   grind
  .obtain⟨o,e,_,d⟩:=st.a0
   grind
  .obtain⟨o,e,_,d⟩:=st.b0
   grind
 keep:=λi h h' st k=>⟨k z 'f' _ st.z0,k p 'f' _ st.p0,by
  let⟨u,v,e⟩:=st.q0
  grind,st.a0.at λo e=>k i1 'f' o e,st.b0.at λo e=>k i2 'f' o e⟩
 item:=by
  sleep 5;let⟨xs,ys,x,y,hx,hy,ex,ey⟩:=hg;let⟨ia,ra,pa,_⟩:=I.list hx;let⟨ib,rb,pb,_⟩:=I.list hy;let⟨u,hu,ru⟩:=ra.get ex;let⟨v,hv,rv⟩:=rb.get ey;let⟨c1,c2,hq⟩:=st.q0;refine wpAny_pyNext_zip_item D st.z0 st.p0 hq st.a0 st.b0 pa.isList pb.isList (x:=u) (y:=v) (by simpa using hu) (by simpa using hv) λh1 e1 e2 e3 e4 e5 e6 k1=>⟨_,rfl,?_⟩;refine wpAny_letOwnedTupleGo_zip (s:={s with heap:=h1}) e1 λh2 f1 f2=>?_;have hT:s.heap.objs.size≠z:=Ü (Heap.lt_size st.z0);have tup:IsTup h2 s.heap.objs.size #[u,v]:=⟨_,f2.extBut _ _ hT e5,rfl,_,rfl⟩;have kk:∀c o,c∉[z,q,i1,i2]->s.heap.get? c=some o->h2.get? c=some o:=λc o n e=>by
   simp![Ï,ä,or_false,not_or]at n;exact f2.extBut _ _ n.1 (k1 c o n.1 n.2.1 n.2.2.1 n.2.2.2 e)
  have fp:∀c∈[z,q,i1,i2],wC X À H c:=λc hc=>hf c (by
   grind)
  have I2:Inv X À σ (aY H s.heap.objs.size (.tup [x,y])) {s with heap:=h2,toks:=s.toks}:=I.pair (us:=[u,v]) kk fp (È _) (show 2<=sizeLine by decide) (.cons ru (.cons rv .nil)) tup;refine⟨.ref s.heap.objs.size,_,I2,rfl,⟨_,x,y,I.hok.fresh (È _),rfl,rfl,λxs' h=>by rw[I.list_inj h hx];exact ex,λys' h=>by rw[I.list_inj h hy];exact ey⟩,⟨f1,f2.extBut _ _ D.TIz (k1 _ _ D.TIz D.TITO D.TIi1 D.TIi2 st.p0),⟨_,_,f2.extBut _ _ D.TOz e2⟩,e3.extBut f2.extBut D.i1z,e4.extBut f2.extBut D.i2z⟩,λc hc=>?_⟩
  rw[aH]
  .exact(hf c hc).1
  .intro z0
   simp![Ï,ä,or_false]at hc;have lt:∀{c o},s.heap.get? c=some o->c≠s.heap.objs.size:=λe=>Ì (Heap.lt_size e);let⟨o1,g1,_⟩:=st.a0;let⟨o2,g2,_⟩:=st.b0;rcases hc with rfl|rfl|rfl|rfl|rfl
   .exact lt st.z0 z0
   .exact lt st.p0 z0
   all_goals grind
 done:=by
  sleep 5;let⟨xs,ys,hx,hy,hl⟩:=hg;let⟨ia,ra,pa,_⟩:=I.list hx;let⟨ib,rb,pb,_⟩:=I.list hy;let⟨c1,c2,hq⟩:=st.q0;have la:=ra.length;have lb:=rb.length;refine wpAny_pyNext_zip_end (I.ok.hd hc) D st.z0 st.p0 hq st.a0 st.b0 pa.isList pb.isList ?_ λh1 k1=>⟨rfl,I.turns (t':=s.toks) (ch:=[z,q,i1,i2]) (λc o n e=>?_) λc hc=>hf c ?_⟩
  all_goals grind
 self:=λ_ _ _ _ _ st h=>wpAny_pyIter_zip st.z0 h
section
def aOC(K:ZC)(ta:TA):TI:=λσ H R=>ta σ H λvs H1=>∃a b,vs=[.ref a,.ref b]/\(∃xs,eV K H1 a xs)/\(∃ys,eV K H1 b ys)/\R (Ů K a b) H1
def aHN{es:List Expr}{n:Nat}{tp p pos:Pos}(hg:Gl X "zip")(hm:X.mg "zip"=none)(ha:PA X [a,b] ta)(hs:↥(starEach [a,b] X.env=[(false,eval a X.env),(false,eval b X.env)]))(hs2:↥(starEach [b] X.env=[(false,eval b X.env)])):
  PI X (.Tuple es n tp) (.Call (.Name "zip" p) [a,b] [] pos) (aOC X.K ta):=by
 intro À s σ H R I h;refine Call_ (j8 I hg hm boot_zip (callWith_type1 (cY (ha pos À s σ H _ I h) λus s1 zQ=>?_) (by rw[hs,hs2]) (by rw[hs2];rfl)));let⟨vs,H1,I1,r1,q1⟩:=zQ;let⟨l,m,e,⟨xs,hx⟩,⟨ys,hy⟩,q⟩:=q1;subst e;cases r1 with
 |cons r rr=>
  cases rr with
  |cons r' rr=>
   cases rr;cases r;cases r';let⟨ia,ra,pa,_⟩:=I1.list hx;let⟨ib,rb,pb,_⟩:=I1.list hy;refine call_zip_2 pa.isList pb.isList λh1 z1 z2 z3 z4 z5 sz kk=>wpAny_pyIter_zip (s:={s1 with heap:=h1}) z1 ?_;have la:l<s1.heap.objs.size:=by let⟨o,n,e,_⟩:=pa;exact Heap.lt_size e
   have lb:m<s1.heap.objs.size:=by let⟨o,n,e,_⟩:=pb;exact Heap.lt_size e
   have ge:∀c∈[s1.heap.objs.size+4,s1.heap.objs.size+2,s1.heap.objs.size+3,s1.heap.objs.size,s1.heap.objs.size+1],s1.heap.objs.size<=c:=λc hc=>by
    grind
   refine⟨_,_,_,_,H1,rfl,I1.kept (t':=s1.toks) kk,U2 _ _ _ _ _ l m ?_,⟨z1,z2,⟨_,_,z3⟩,z4,z5⟩,λc hc=>I1.fpOk (ge c hc) (I1.hok.fresh (ge c hc)),q⟩;have la:@LT.lt Nat instLTNat l s1.heap.objs.size:=la;have lb:@LT.lt Nat instLTNat m s1.heap.objs.size:=lb;constructor<;>(grind)
end
def nJ(as bs:ZI):ZI:=List.zipWith (λa b=>PyData.tuple [a,b]) as bs
def NO{K:ZC}{F:Hp}{p:Addr}{x y:V}{d e:D}(h:F p=some (.tup [x,y]))(rx:bG K F d x)(ry:bG K F e y):bG K F (.tuple [d,e]) (.ref p):=by
 unfold bG;refine⟨p,_,rfl,rO.of h,?_⟩;unfold aE;refine⟨_,_,rfl,rx,?_⟩;unfold aE;refine⟨_,_,rfl,ry,?_⟩;unfold aE;rfl
def aBO{K:ZC}{F:Hp}{a b:Addr}{xs ys:List V}{ds es:ZI}(hx:eV K F a xs)(hy:eV K F b ys)(rx:aE K F ds xs)(ry:aE K F es ys):UI K F (Ů K a b) (nJ ds es) where
 go:=λi H s hi=>by
  have hi:i<min ds.length es.length:=by simpa[nJ]using hi
  have l1:=rx.len;have l2:=ry.len;exact⟨xs,ys,xs[i]'∅,ys[i]'∅,s.seq hx,s.seq hy,Ê _,Ê _⟩
 yld:=λi H v H' d s y e=>by
  let⟨p,x,y,hp,rfl,rfl,q1,q2⟩:=y;have hi:=(Î.mp e).1;have hi:i<min ds.length es.length:=by simpa[nJ]using hi
  have e1:ds[i]?=some ds[i]:=Ê ∅;have e2:es[i]?=some es[i]:=Ê ∅;have ee:(nJ ds es)[i]?=some (.tuple [ds[i],es[i]]):=by unfold nJ;rw[List.getElem?_zipWith,e1,e2]
  rw[ee]at e;cases e;let⟨x',f1,g1⟩:=rx.get e1;let⟨y',f2,g2⟩:=ry.get e2;have:=q1 xs (s.seq hx);rw[f1]at this;cases this;have:=q2 ys (s.seq hy);rw[f2]at this;cases this;refine .inr ⟨p,_,hp,rfl,λF2 s2 n=>NO aP ?_ ?_⟩
  .exact(s2.trans' (cI n _)).rep _ _ g1
  .exact(s2.trans' (cI n _)).rep _ _ g2
 stop:=λH s=>⟨xs,ys,s.seq hx,s.seq hy,by
  have l1:=rx.len;have l2:=ry.len;simp![nJ,List.length_zipWith];lia⟩
def A6(f g:M D):M (ZI):=λδ=>(bD [f,g] δ).bind λds δ1=>match ds with
 |[.list as,.list bs]=>.ok (nJ as bs) δ1
 |_=>.stuck
section
def xX{es:List Expr}{n:Nat}{tp p2 p3:Pos}(hgl:Gl X "zip")(hm:X.mg "zip"=none)(ha:DE X Z ow 0 a f)(hb:DE X Z ow 0 b g)(hst:↥(starEach [a,b] X.env=(false,eval a X.env)::starEach [b] X.env))(hst2:↥(Zse b [] X.env)):
  DI X Z ow (.Tuple es n tp) (.Call (.Name "zip" p2) [a,b] [] p3) (A6 f g):=
 (aHN hgl hm (aI ha (aI hb bH hst2) hst) (hst.trans (by rw[hst2];rfl)) hst2).mono λσ H R q=>by
  let⟨F,δ,Rl,q⟩:=q;unfold A6 at q;refine⟨F,δ,Rl,?_⟩;cases e1:bD [f,g] δ with
  |stuck=>rw[e1]at q;sleep 4
  |err x δ1=>rw[e1]at q;exact q
  |ok ds δ1=>
   rw[e1]at q;simp![Res.bind]at q;intro vs H1 F1 R1 s1 ra;split at q
   .rename_i as bs
    unfold aE at ra;let⟨x,t,rfl,rx,ra⟩:=ra;unfold aE at ra;let⟨y,t,rfl,ry,ra⟩:=ra;unfold aE at ra;subst ra;let⟨l,xs,rfl,hx,rx⟩:=kE rx;let⟨m,ys,rfl,hy,ry⟩:=kE ry;exact⟨l,m,rfl,⟨xs,R1.sub.seq hx⟩,⟨ys,R1.sub.seq hy⟩,q _ H1 F1 R1 s1 (aBO hx hy rx ry)⟩
   .sleep 4
end
def ů(K:ZC)(a:Addr):It:=
 ⟨λi H=>∃xs x,eV K H a xs/\xs[i]?=some x,
   λi H v H'=>∃p x,H p=none/\H'=aY H p (.tup [.int i,x])/\v=.ref p/\∀xs,eV K H a xs->xs[i]?=some x,
   λi H=>∃xs,eV K H a xs/\xs.length<=i⟩
structure aHO(e it a:Addr)(i:Nat)(h:Heap):Prop where
 e0:∃old,IsEnum h e it (i:Int) old
 a0:h.IsListIter it a i
def QM{P:Program}{w:World}{K:ZC}{es:List Expr}{n:Nat}{tp:Pos}(e it a:Addr)(hne:e≠it):KK P w K (.Tuple es n tp) (ů K a) [e,it] e (aHO e it a) where
 mem:=by simp
 obj:=λi h st c hc=>by
  simp![Ï,ä,or_false]at hc;rcases hc with rfl|rfl
  .obtain⟨o,x⟩:=st.e0
   exact⟨_,x,λv e=>by cases e⟩
  .obtain⟨o,e,_,d⟩:=st.a0
   exact⟨o,e,λv x=>by rw[d]at x;cases x⟩
 keep:=λi h h' st k=>⟨by
  let⟨o,x⟩:=st.e0;exact⟨o,k e 'f' _ x⟩,st.a0.at λo x=>k it 'f' o x⟩
 item:=by
  sleep 5;let⟨xs,x,hx,ex⟩:=hg;let⟨ia,ra,pa,_⟩:=I.list hx;let⟨u,hu,ru⟩:=ra.get ex;let⟨old,he⟩:=st.e0;refine wpAny_pyNext_enum_item he st.a0 pa.isList (x:=u) (by simpa using hu) hne λh1 e1 e2 e3 e4 k1=>⟨_,rfl,?_⟩;refine wpAny_letOwnedTupleGo_enum (s:={s with heap:=h1,toks:=s.toks+1}) e1 λh2 f1 f2=>?_;have hT:s.heap.objs.size≠e:=Ü (Heap.lt_size he);have tup:IsTup h2 s.heap.objs.size #[.int i s.toks,u]:=⟨_,f2.extBut _ _ hT e3,rfl,_,rfl⟩;have kk:∀c o,c∉[e,it]->s.heap.get? c=some o->h2.get? c=some o:=λc o n x=>by
   simp![Ï,ä,or_false,not_or]at n;exact f2.extBut _ _ n.1 (k1 c o n.1 n.2 x)
  have I2:Inv X À σ (aY H s.heap.objs.size (.tup [.int i,x])) {s with heap:=h2,toks:=s.toks+1}:=I.pair (us:=[.int i s.toks,u]) kk hf (È _) (show 2<=sizeLine by decide) (.cons ⟨_,rfl⟩ (.cons ru .nil)) tup;refine⟨.ref s.heap.objs.size,_,I2,rfl,⟨_,x,I.hok.fresh (È _),rfl,rfl,λxs' h=>by rw[I.list_inj h hx];exact ex⟩,⟨⟨_,by simpa using f1⟩,e2.extBut f2.extBut hne.symm⟩,λc hc=>?_⟩;rw[aH]
  .exact(hf c hc).1
  .intro z0
   simp![Ï,ä,or_false]at hc;have lt:∀{c o},s.heap.get? c=some o->c≠s.heap.objs.size:=λe=>Ì (Heap.lt_size e);let⟨o1,g1,_⟩:=st.a0;rcases hc with rfl|rfl
   .exact lt he z0
   .exact lt g1 z0
 done:=by
  sleep 5;let⟨xs,hx,hl⟩:=hg;let⟨ia,ra,pa,_⟩:=I.list hx;let⟨old,he⟩:=st.e0;have la:=ra.length;refine wpAny_pyNext_enum_end (I.ok.hd hc) he st.a0 pa.isList (Array.getElem?_eq_none (by simp;lia)) λh1 k1=>⟨rfl,I.turns (t':=s.toks) (ch:=[e,it]) (λc o n x=>?_) hf⟩;simp![Ï,ä,or_false,not_or]at n;exact k1 c o n.2 x
 self:=λ_ _ _ _ _ st h=>by
  let⟨old,he⟩:=st.e0;exact wpAny_pyIter_enum he h
section
def aK9(K:ZC)(ta:TA):TI:=λσ H R=>ta σ H λvs H1=>∃a,vs=[.ref a]/\(∃xs,eV K H1 a xs)/\R (ů K a) H1
def aBP(hg:Gl X "enumerate")(hm:X.mg "enumerate"=none)(ha:PA X [a] ta)(hs:↥(starEach [a] X.env=[(false,eval a X.env)])):
  PI X (.Tuple es n tp) (.Call (.Name "enumerate" p) [a] [] pos) (aK9 X.K ta):=by
 intro À s σ H R I h;refine Call_ (j8 I hg hm boot_enumerate (callWith_type1 (cY (ha pos À s σ H _ I h) λus s1 zQ=>?_) hs rfl));let⟨vs,H1,I1,r1,q1⟩:=zQ;let⟨l,e,⟨xs,hx⟩,q⟩:=q1;subst e;cases r1 with
 |cons r rr=>
  cases rr;cases r;let⟨ia,ra,pa,_⟩:=I1.list hx;refine call_enumerate_list pa.isList λh1 z1 z2 sz kk=>wpAny_pyIter_enum (s:={s1 with heap:=h1}) z1 ?_;have ge:∀c∈[s1.heap.objs.size+1,s1.heap.objs.size],s1.heap.objs.size<=c:=λc hc=>by
   simp![Ï,ä,or_false]at hc;rcases hc with rfl|rfl<;>lia
  exact⟨_,_,_,_,H1,rfl,I1.kept (t':=s1.toks) kk,QM _ _ l (show ¬(s1.heap.objs.size+1=s1.heap.objs.size) by lia),⟨⟨_,z1⟩,z2⟩,λc hc=>I1.fpOk (ge c hc) (I1.hok.fresh (ge c hc)),q⟩
end
def fR(ds:ZI):ZI:=ds.mapIdx λi d=>PyData.tuple [.int i,d]
def U3{K:ZC}{F:Hp}{a:Addr}{xs:List V}{ds:ZI}(hx:eV K F a xs)(rx:aE K F ds xs):UI K F (ů K a) (fR ds) where
 go:=λi H s hi=>by
  have hi:i<ds.length:=by simpa[fR]using hi
  have l1:=rx.len;exact⟨xs,xs[i]'(by exact ð ‹_› ‹_›),s.seq hx,Ê _⟩
 yld:=λi H v H' d s y e=>by
  let⟨p,x,hp,rfl,rfl,q1⟩:=y;have hi:=(Î.mp e).1;have hi:i<ds.length:=by simpa[fR]using hi
  have e1:ds[i]?=some ds[i]:=Ê hi;have ee:(fR ds)[i]?=some (.tuple [.int i,ds[i]]):=by unfold fR;rw[List.getElem?_mapIdx,e1];rfl
  rw[ee]at e;cases e;let⟨x',f1,g1⟩:=rx.get e1;have:=q1 xs (s.seq hx);rw[f1]at this;cases this;exact .inr ⟨p,_,hp,rfl,λF2 s2 n=>NO aP fW ((s2.trans' (cI n _)).rep _ _ g1)⟩
 stop:=λH s=>⟨xs,s.seq hx,by
  have l1:=rx.len;simp![fR,List.length_mapIdx];lia⟩
def xY(f:M D):M (ZI):=λδ=>(bD [f] δ).bind λds δ1=>match ds with
 |[.list as]=>.ok (fR as) δ1
 |_=>.stuck
section
def jU(hgl:Gl X "enumerate")(hm:X.mg "enumerate"=none)(ha:DE X Z ow 0 a f)(hst:↥(Zse a [] X.env)):
  DI X Z ow (.Tuple es n tp) (.Call (.Name "enumerate" p2) [a] [] p3) (xY f):=
 (aBP hgl hm (aI ha bH hst) hst).mono λσ H R q=>by
  let⟨F,δ,Rl,q⟩:=q;unfold xY at q;refine⟨F,δ,Rl,?_⟩;cases e1:bD [f] δ with
  |stuck=>rw[e1]at q;sleep 4
  |err x δ1=>rw[e1]at q;exact q
  |ok ds δ1=>
   rw[e1]at q;simp![Res.bind]at q;intro vs H1 F1 R1 s1 ra;split at q
   .rename_i as
    unfold aE at ra;let⟨x,t,rfl,rx,ra⟩:=ra;unfold aE at ra;subst ra;let⟨l,xs,rfl,hx,rx⟩:=kE rx;exact⟨l,rfl,⟨xs,R1.sub.seq hx⟩,q _ H1 F1 R1 s1 (U3 hx rx)⟩
   .sleep 4
def U4:bootBuiltins "sum"=some (.builtin "sum"):=by decide +kernel
end
section
end
section
end
section
end
abbrev zA(h:Heap)(l1:Addr):Heap:=h.push {cls:=.type "list_iterator",data:=.fields #[.ref l1,.int 0 0]}
abbrev zB(h:Heap)(l1 l2:Addr):Heap:=(zA h l1).push {cls:=.type "tuple_iterator",data:=.fields #[.ref l2,.int 0 0]}
section
end
section
end
section
end
end L2
namespace L2
open PySem PySem.Spec
def SQ(o:ZL)(δ:DS)(Q:D->ZO)(_w:Wt Q:=⟨⟩):Prop:=∃r,o=some r/\Q r δ
def EI(o:Option (ZL))(δ:DS)(Q:D->ZO)(_w:Wt Q:=⟨⟩):Prop:=∃d,o=some (some d)/\Q d δ
def Ű(i:Nat)(d:D)(δ:DS)(N:ZO)(_w:Wt N:=⟨⟩):Prop:=i<δ.length/\N (δ.set i (some d))
def BY(d:D)(δ:DS)(Q:Bool->ZO)(_w:Wt Q:=⟨⟩):Prop:=∃b,d=.bool b/\Q b δ
def ű(o:Option DS)(N:ZO)(_w:Wt N:=⟨⟩):Prop:=∃δ,o=some δ/\N δ
def Ō(o:Option (D×ZI))(i:Nat)(δ:DS)(Q:D->ZO)(_w:Wt Q:=⟨⟩):Prop:=∃ret ds',o=some (ret,ds')/\Q ret (δ.set i (some (.list ds')))
def SR:Prop:=aW (λ_=>(.stuck:Res Unit)) [] λ_ _=>bK (λ_=>.stuck) [] (λ_=>False) (λ_=>False) (λ_=>False) λ_ _=>False
def Z6:SR=False:=rfl
def ō:Nat->D->DS->Option DS
 |_,_,[]=>none
 |0,d,_::l=>some (some d::l)
 |n+1,d,a::l=>match ō n d l with
  |some l=>some (a::l)
  |none=>none
def vR(o:ZL)(δ:DS)(Q:D->ZO)(_w:Wt Q:=⟨⟩):Prop:=match o with
 |some r=>Q r δ
 |none=>SR
def gL(o:Option (ZL))(δ:DS)(Q:D->ZO)(_w:Wt Q:=⟨⟩):Prop:=match o with
 |some (some d)=>Q d δ
 |_=>SR
def EJ(i:Nat)(d:D)(δ:DS)(N:ZO)(_w:Wt N:=⟨⟩):Prop:=match ō i d δ with
 |some l=>N l
 |none=>SR
def xZ(d:D)(δ:DS)(Q:Bool->ZO)(_w:Wt Q:=⟨⟩):Prop:=match d with
 |.bool b=>Q b δ
 |_=>SR
def Ŏ(o:Option DS)(N:ZO)(_w:Wt N:=⟨⟩):Prop:=match o with
 |some δ=>N δ
 |none=>SR
def U5(r:Res D)(is:ZH)(δ:DS)(Q:D->ZO)(_w:Wt Q:=⟨⟩):Prop:=match r with
 |.ok d os=>Q d (bY is (os.filterMap id) δ)
 |_=>SR
def U6(o:Option (ZI))(fn:ZI->Res D)(is:ZH)(δ:DS)(Q:D->ZO)(_w:Wt Q:=⟨⟩):Prop:=match o with
 |some ds=>U5 (fn ds) is δ Q
 |none=>SR
def EK(o:Option (D×ZI))(i:Nat)(δ:DS)(Q:D->ZO)(_w:Wt Q:=⟨⟩):Prop:=match o with
 |some (ret,ds)=>Q ret (δ.set i (some 'r'))
 |none=>SR
def Ų(o:Option (ZL))(i:Nat)(op:ZI->ZI->Option (D×ZI))(args:ZI)(δ:DS)(Q:D->ZO)(_w:Wt Q:=⟨⟩):Prop:=match o with
 |some (some 'r')=>EK (op ds args) i δ Q
 |_=>SR
def ŏ(o:Option Nat)(ds:ZI)(v:D)(i:Nat)(δ:DS)(N:ZO)(_w:Wt N:=⟨⟩):Prop:=match o with
 |some j=>N (δ.set i (some (.list (ds.set j v))))
 |none=>SR
def ų(o:Option (ZL))(k v:D)(i:Nat)(δ:DS)(N:ZO)(_w:Wt N:=⟨⟩):Prop:=match o,k with
 |some (some 'r'),.int n=>ŏ (lN ds.length n) ds v i δ N
 |_,_=>SR
def jA:@vR=@SQ:=by funext o δ Q w;cases o<;>simp[vR,SQ,Z6]
def lY:@gL=@EI:=by funext o δ Q w;rcases o with _|_|d<;>simp[gL,EI,Z6]
def sO:@xZ=@BY:=by funext d δ Q w;cases d<;>simp[xZ,BY,Z6]
def aBT:@Ŏ=@ű:=by funext o N w;cases o<;>simp[Ŏ,ű,Z6]
def NP:@EK=@Ō:=by
 funext o i δ Q w;rcases o with _|⟨r,ds⟩
 .simp[EK,Ō,Z6]
 .simp![EK,Ō]
  exact propext ⟨λq=>⟨_,_,rfl,q⟩,λ⟨_,_,h,q⟩=>by cases h;exact q⟩
def NQ:∀{δ:DS}{i:Nat}{d:D},ō i d δ=if i<δ.length then some (δ.set i (some d))else none
 |[],i,d=>by cases i<;>rfl
 |a::l,0,d=>rfl
 |a::l,i+1,d=>by
  rw[ō,NQ (δ:=l)];by_cases h:i<l.length
  .rw[Â h,Â (show i+1<(a::l).length from Nat.succ_lt_succ h)];rfl
  .rw[Ä h,Ä (show ¬i+1<(a::l).length from λz=>h (Nat.lt_of_succ_lt_succ z))]
def aHT:@EJ=@Ű:=by
 funext i d δ N w;unfold EJ Ű;rw[NQ];by_cases h:i<δ.length
 .simp[h]
 .simp[h,Z6]
section
variable {δ:DS}{N:ZO}
def aOE:vR (some r) δ Q=Q r δ:=rfl
def aLA:gL (some (some d)) δ Q=Q d δ:=rfl
def aHU{Q:Bool->ZO}:xZ (.bool b) δ Q=Q b δ:=rfl
def k_set:Ŏ (some δ) N=N δ:=rfl
def k_fill:U6 (some ds) fn is δ Q=U5 (fn ds) is δ Q:=rfl
def aHV{os:DS}:U5 (.ok d os) [] δ Q=Q d δ:=rfl
def aHW:U5 (.ok d [some e]) [i] δ Q=Q d (δ.set i (some e)):=rfl
def aLB:Ų (some (some 'r')) i op args δ Q=EK (op ds args) i δ Q:=rfl
def Ω:EK (some (r,ds)) i δ Q=Q r (δ.set i (some 'r')):=rfl
def γ:ų (some (some 'r')) (.int n) v i δ N=ŏ (lN ds.length n) ds v i δ N:=rfl
def ε:ŏ (some j) ds v i δ N=N (δ.set i (some (.list (ds.set j v)))):=rfl
def ζ:vR (QD (.int i) (.int j)) δ Q=(IntMulOk i j/\Q (.int (i*j)) δ):=by
 rw[jA];refine propext ⟨λzQ=>?_,λzQ=>by let⟨h,p⟩:=zQ;exact ⟨_,aBD h,p⟩⟩;let⟨r,h,p⟩:=zQ;unfold QD iD at h;dsimp only at h;split at h
 .rename_i hc;cases h;exact⟨hc,p⟩
 .cases h
def η{d:D}:EK (G5 ds [d]) i δ Q=(ds.length<sizeLine/\Q .none (δ.set i (some (.list (ds++[d]))))):=by
 rw[NP];refine propext ⟨λzQ=>?_,λzQ=>by let⟨h,p⟩:=zQ;exact ⟨_,_,Â h,p⟩⟩;let⟨r,d2,h,p⟩:=zQ;unfold G5 at h;dsimp only at h;split at h
 .rename_i hc;cases h;exact⟨hc,p⟩
 .cases h
def U7{a b:ZI}:vR (G6 (.list a) (.list b)) δ Q=(a.length+b.length<=sizeLine/\Q (.list (a++b)) δ):=by
 have e:G6 (.list a) (.list b)=if a.length+b.length<=sizeLine then some (.list (a++b))else none:=rfl;rw[e];rw[jA];unfold SQ;split
 .rename_i h;simp[h]
 .rename_i h;simp[h]
def aHX:EJ 0 d (a0::δ) N=N (some d::δ):=rfl
def aHY:EJ 1 d (a0::a1::δ) N=N (a0::some d::δ):=rfl
def U8:EJ 2 d (a0::a1::a2::δ) N=N (a0::a1::some d::δ):=rfl
def aHZ:EJ 3 d (a0::a1::a2::a3::δ) N=N (a0::a1::a2::some d::δ):=rfl
def aH0:EJ 4 d (a0::a1::a2::a3::a4::δ) N=N (a0::a1::a2::a3::some d::δ):=rfl
def aH1:EJ 5 d (a0::a1::a2::a3::a4::a5::δ) N=N (a0::a1::a2::a3::a4::some d::δ):=rfl
def aH2:EJ 6 d (a0::a1::a2::a3::a4::a5::a6::δ) N=N (a0::a1::a2::a3::a4::a5::some d::δ):=rfl
def aH3:EJ 7 d (a0::a1::a2::a3::a4::a5::a6::a7::δ) N=N (a0::a1::a2::a3::a4::a5::a6::some d::δ):=rfl
def aH4:EJ 8 d (a0::a1::a2::a3::a4::a5::a6::a7::a8::δ) N=N (a0::a1::a2::a3::a4::a5::a6::a7::some d::δ):=rfl
def aH5:EJ 9 d (a0::a1::a2::a3::a4::a5::a6::a7::a8::a9::δ) N=N (a0::a1::a2::a3::a4::a5::a6::a7::a8::some d::δ):=rfl
def aBU:EJ 10 d (a0::a1::a2::a3::a4::a5::a6::a7::a8::a9::a10::δ) N=N (a0::a1::a2::a3::a4::a5::a6::a7::a8::a9::some d::δ):=rfl
def aBV:EJ 11 d (a0::a1::a2::a3::a4::a5::a6::a7::a8::a9::a10::a11::δ) N=N (a0::a1::a2::a3::a4::a5::a6::a7::a8::a9::a10::some d::δ):=rfl
def NR:EJ 12 d (a0::a1::a2::a3::a4::a5::a6::a7::a8::a9::a10::a11::a12::δ) N=N (a0::a1::a2::a3::a4::a5::a6::a7::a8::a9::a10::a11::some d::δ):=rfl
def NS:EJ 13 d (a0::a1::a2::a3::a4::a5::a6::a7::a8::a9::a10::a11::a12::a13::δ) N=N (a0::a1::a2::a3::a4::a5::a6::a7::a8::a9::a10::a11::a12::some d::δ):=rfl
def NT:EJ 14 d (a0::a1::a2::a3::a4::a5::a6::a7::a8::a9::a10::a11::a12::a13::a14::δ) N=N (a0::a1::a2::a3::a4::a5::a6::a7::a8::a9::a10::a11::a12::a13::some d::δ):=rfl
def NU:EJ 15 d (a0::a1::a2::a3::a4::a5::a6::a7::a8::a9::a10::a11::a12::a13::a14::a15::δ) N=N (a0::a1::a2::a3::a4::a5::a6::a7::a8::a9::a10::a11::a12::a13::a14::some d::δ):=rfl
end
section
def BZ:bK (bO u v) δ N B C R=bK u δ (λδ1=>bK v δ1 N B C R) B C R:=by
 refine propext ⟨λh=>?_,LF⟩;unfold bK bO at *;cases e:u δ with
 |stuck=>rw[e]at h;exact h
 |err x d=>rw[e]at h;exact h
 |ok fl d=>rw[e]at h;cases fl<;>exact h
def U9:bK iX δ N B C R=N δ:=rfl
def θ:bK (λδ=>.ok .brk δ) δ N B C R=B δ:=rfl
def VA:bK (λδ=>.ok .cont δ) δ N B C R=C δ:=rfl
def ι:bK (cE i f) δ N B C R=aW f δ λd δ1=>EJ i d δ1 N:=by
 rw[aHT];unfold bK cE aW Ű;cases f δ with
 |ok a d=>
  dsimp![Res.bind];by_cases h:i<d.length
  .rw[Â h]
   exact propext ⟨λq=>⟨h,q⟩,And.right⟩
  .rw[Ä h]
   exact propext ⟨False.elim,λq=>h q.1⟩
 |_=>rfl
def μ:bK (kC f) δ N B C R=aW f δ R:=by
 unfold bK kC aW;cases f δ<;>rfl
def VB:bK (sE f) δ N B C R=aW f δ λ_ δ1=>N δ1:=by
 unfold bK sE aW;cases f δ<;>rfl
def ν:bK (gF c u v) δ N B C R=aW c δ λb δ1=>if b=true then bK u δ1 N B C R else bK v δ1 N B C R:=by
 refine propext ⟨λh=>?_,aK3⟩;unfold bK gF at h;unfold aW;cases e:c δ with
 |stuck=>rw[e]at h;exact h
 |err x d=>rw[e]at h;exact h
 |ok b d=>
  rw[e]at h;cases b
  .exact h
  .exact h
def ξ{set:D->DS->Option DS}:bK (ŭ set f) δ N B C R=aW f δ λd δ1=>Ŏ (set d δ1) N:=by
 rw[aBT];unfold bK ŭ aW ű;cases f δ with
 |stuck=>rfl
 |err x d=>rfl
 |ok a d=>
  simp![Res.bind];cases set a d<;>simp
def ο:aW (aK i) δ Q=gL δ[i]? δ Q:=by
 rw[lY];unfold aW aK EI;cases δ[i]? with
 |none=>simp
 |some o=>cases o<;>simp
def π:aW (dC d) δ Q=Q d δ:=rfl
def ς:aW (fC op f g) δ Q=aW f δ λa δ1=>aW g δ1 λb δ2=>vR (op a b) δ2 Q:=by
 rw[jA];unfold aW fC SQ;cases f δ with
 |stuck=>rfl
 |err x d=>rfl
 |ok a d=>
  simp![Res.bind];cases g d with
  |stuck=>rfl
  |err x d=>rfl
  |ok b d=>dsimp only;cases op a b<;>simp
def τ:aW (rP op f) δ Q=aW f δ λa δ1=>vR (op a) δ1 Q:=by
 rw[jA];unfold aW rP SQ;cases f δ with
 |stuck=>rfl
 |err x d=>rfl
 |ok a d=>simp![Res.bind];cases op a<;>simp
def NV{Q:ZI->ZO}:aW (bD []) δ Q=Q [] δ:=rfl
def VC{Q:ZI->ZO}:aW (bD (f::fs)) δ Q=aW f δ λa δ1=>aW (bD fs) δ1 λds δ2=>Q (a::ds) δ2:=by
 unfold aW;rw[bD];dsimp only;cases f δ with
 |stuck=>rfl
 |err x d=>rfl
 |ok a d=>
  simp![Res.bind];cases bD fs d<;>rfl
def υ:aW (xJ op fs) δ Q=aW (bD fs) δ λds δ1=>vR (op ds) δ1 Q:=by
 rw[jA];unfold aW xJ SQ;cases bD fs δ with
 |stuck=>rfl
 |err x d=>rfl
 |ok a d=>simp![Res.bind];cases op a<;>simp
def χ:aW (K9 fs) δ Q=aW (bD fs) δ λds δ1=>ds.length<=sizeLine/\Q (.tuple ds) δ1:=by
 unfold aW K9;cases bD fs δ with
 |stuck=>rfl
 |err x d=>rfl
 |ok a d=>
  simp![Res.bind];split
  .rename_i z;split at z
   .rename_i h;cases z;simp[h]
   .cases z
  .rename_i z
   split at z
   .rename_i h
    exact absurd rfl (z _ _)
   .rename_i h;simp[h]
def ψ:aW (LA fs) δ Q=aW (bD fs) δ λds δ1=>ds.length<=sizeLine/\Q 'r' δ1:=by
 unfold aW LA;cases bD fs δ with
 |stuck=>rfl
 |err x d=>rfl
 |ok a d=>
  simp![Res.bind];split
  .rename_i z;split at z
   .rename_i h;cases z;simp[h]
   .cases z
  .rename_i z
   split at z
   .rename_i h
    exact absurd rfl (z _ _)
   .rename_i h;simp[h]
def ω{Q:Bool->ZO}:aW (dB f) δ Q=aW f δ λa δ1=>xZ a δ1 Q:=by
 rw[sO];unfold aW dB BY;cases f δ with
 |stuck=>rfl
 |err x d=>rfl
 |ok a d=>cases a<;>simp[Res.bind]
def VD{Q:Bool->ZO}:aW (mU c) δ Q=aW c δ λb δ1=>Q (!b) δ1:=by
 unfold aW mU;cases c δ<;>rfl
def VE:aW (BU f) δ Q=aW f δ λa δ1=>xZ a δ1 λb δ2=>Q (.bool (!b)) δ2:=by
 rw[sO];unfold aW BU BY;cases f δ with
 |stuck=>rfl
 |err x d=>rfl
 |ok a d=>cases a<;>simp[Res.bind]
def ϊ{Q:Bool->ZO}:aW (AV c c') δ Q=aW c δ λb δ1=>if b=true then Q true δ1 else aW c' δ1 Q:=by
 unfold aW AV;cases c δ with
 |stuck=>rfl
 |err x d=>rfl
 |ok b d=>cases b<;>rfl
def VF{Q:Bool->ZO}:aW (BQ c c') δ Q=aW c δ λb δ1=>if b=true then aW c' δ1 Q else Q false δ1:=by
 unfold aW BQ;cases c δ with
 |stuck=>rfl
 |err x d=>rfl
 |ok b d=>cases b<;>rfl
def VG:aW (mV f g) δ Q=aW f δ λa δ1=>xZ a δ1 λb δ1=>if b=true then aW g δ1 Q else Q (.bool false) δ1:=by
 rw[sO];unfold aW mV BY;cases f δ with
 |stuck=>rfl
 |err x d=>rfl
 |ok a d=>
  cases a with
  |bool b=>cases b<;>simp[Res.bind]
  |_=>simp[Res.bind]
def ϋ:aW (UF f g) δ Q=aW f δ λa δ1=>xZ a δ1 λb δ1=>if b=true then Q 'l' δ1 else aW g δ1 Q:=by
 rw[sO];unfold aW UF BY;cases f δ with
 |stuck=>rfl
 |err x d=>rfl
 |ok a d=>
  cases a with
  |bool b=>cases b<;>simp[Res.bind]
  |_=>simp[Res.bind]
def VH:aW (bP fn as) δ Q=aW (cK as) δ λods δ1=>U6 (eG δ1 as ods) fn (aU as) δ1 Q:=by
 unfold aW bP U6 U5;cases cK as δ with
 |ok ods d=>
  dsimp![Res.bind];cases eG d as ods with
  |none=>rfl
  |some ds=>
   dsimp only;cases fn ds<;>rfl
 |_=>rfl
def NW{Q:List (ZL)->ZO}:aW (cK []) δ Q=Q [] δ:=rfl
def NX{Q:List (ZL)->ZO}:aW (cK (.val f::as)) δ Q=aW f δ λa δ1=>aW (cK as) δ1 λds δ2=>Q (some a::ds) δ2:=by
 unfold aW;rw[cK];dsimp only;cases f δ with
 |stuck=>rfl
 |err x d=>rfl
 |ok a d=>simp![Res.bind];cases cK as d<;>rfl
def NY{Q:List (ZL)->ZO}:aW (cK (.own j::as)) δ Q=gL δ[j]? δ λ_ δ=>aW (cK as) δ λds δ2=>Q (none::ds) δ2:=by
 rw[lY];unfold aW EI;rw[cK];dsimp only;cases δ[j]? with
 |none=>simp
 |some o=>
  cases o with
  |none=>simp
  |some d=>
   simp![Option.some.injEq,exists_eq_left'];cases cK as δ<;>rfl
def ό:aW (AX i op fs) δ Q=gL δ[i]? δ λ_ _=>aW (bD fs) δ λargs δ1=>Ų δ1[i]? i op args δ1 Q:=by
 unfold aW AX gL Ų EK;cases δ[i]? with
 |none=>rfl
 |some o=>
  cases o with
  |none=>rfl
  |some d=>
   dsimp only;cases bD fs δ with
   |ok args δ1=>
    dsimp![Res.bind];cases δ1[i]? with
    |none=>rfl
    |some o=>
     cases o with
     |none=>rfl
     |some d=>
      cases d with
      |list ds=>
       dsimp only;cases op ds args with
       |none=>rfl
       |some p=>rfl
      |_=>rfl
   |_=>rfl
def ύ:aW (UD i fk) δ Q=gL δ[i]? δ λ_ _=>aW fk δ λk δ1=>gL δ1[i]? δ1 λd δ1=>vR (eK d k) δ1 Q:=by
 unfold aW UD gL vR;cases δ[i]? with
 |none=>rfl
 |some o=>
  cases o with
  |none=>rfl
  |some d=>
   dsimp only;cases fk δ with
   |ok k δ1=>
    dsimp![Res.bind];cases δ1[i]? with
    |none=>rfl
    |some o=>
     cases o with
     |none=>rfl
     |some d=>
      dsimp only;cases eK d k<;>rfl
   |_=>rfl
def ώ:bK (UC i fk fv) δ N B C R=aW fv δ λv δ1=>gL δ1[i]? δ1 λ_ δ1=>aW fk δ1 λk δ2=>ų δ2[i]? k v i δ2 N:=by
 unfold bK UC aW gL ų ŏ;cases fv δ with
 |ok w δ1=>
  dsimp![Res.bind];cases δ1[i]? with
  |none=>rfl
  |some o=>
   cases o with
   |none=>rfl
   |some d=>
    dsimp only;cases fk δ1 with
    |ok k δ2=>
     dsimp only;cases δ2[i]? with
     |none=>rfl
     |some o=>
      cases o with
      |none=>rfl
      |some d=>
       cases d with
       |list ds=>
        cases k with
        |int n=>
         dsimp only;cases lN ds.length n<;>rfl
        |_=>rfl
       |_=>rfl
    |_=>rfl
 |_=>rfl
def VI:aW (BT i) δ Q=gL δ[i]? δ λd δ=>vR (qN [d]) δ Q:=by
 rw[lY,jA];unfold aW BT EI SQ;cases δ[i]? with
 |none=>simp
 |some o=>
  cases o with
  |none=>simp
  |some d=>
   simp![Option.some.injEq,exists_eq_left'];cases e:qN [d]<;>simp
def Ϗ:aW (Ģ c f g) δ Q=aW c δ λb δ1=>if b=true then aW f δ1 Q else aW g δ1 Q:=by
 unfold aW Ģ;cases c δ with
 |stuck=>rfl
 |err x d=>rfl
 |ok b d=>cases b<;>rfl
def aLH{i j:Int}:G6 (.int i) (.int j)=some (.int (i+j)):=rfl
def aLI{i j:Int}:ŧ (.int i) (.int j)=some (.int (i-j)):=rfl
def VJ{i:Int}:Ũ (.int i)=some (.int (-i)):=rfl
def aOF{i j:Int}:Τ (.int i) (.int j)=some (.bool (decide (i<j))):=rfl
def aOG{i j:Int}:Ņ (.int i) (.int j)=some (.bool (decide (i<=j))):=rfl
def ϐ{i j:Int}:ě (.int i) (.int j)=some (.bool (decide (j<i))):=rfl
def aOH{i j:Int}:aPX (.int i) (.int j)=some (.bool (decide (j<=i))):=rfl
def VL{i j:Int}:G7 (.int i) (.int j)=some (.bool (decide (i=j))):=by rw[aBF];congr 2
def ϑ{i j:Int}:AZ (.int i) (.int j)=some (.bool (decide (i≠j))):=by
 rw[NG];congr 2;rw[Bool.eq_iff_iff];simp
def ϒ{i j:Bool}:AZ (.bool i) (.bool j)=some (.bool (decide (i≠j))):=by
 rw[UO];congr 2;cases i<;>cases j<;>rfl
def N0{i j:Int}(h:0<j):wE (.int i) (.int j)=some (.int (i % j)):=HC h
def aBW{i j:Int}(h:0<j)(h2:bZ 9000 j):xP (.int i) (.int j)=some (.int (i/j)):=uH h (bZ.log2 h2)
def ϓ{i:Int}:ũ [.int i]=some (.int (i.natAbs:Int)):=by
 show some (PyData.int (if i<0 then -i else i))=_;congr 2;split<;>lia
def aH6:qN [.list ds]=some (.int ds.length):=rfl
def aH7:qN [.tuple ds]=some (.int ds.length):=rfl
def aLL{i:Int}:eK 'r' (.int i)=atI ds i:=rfl
def aLM{i:Int}:eK (.tuple ds) (.int i)=atI ds i:=rfl
def VM{as:List α}:atI (a::as) 0=some a:=eX (j:=0) rfl
def Ŵ{as:List α}(h:k<as.length):atI as (k:Int)=some as[k]:=eX (Ê h)
def B1{as:List α}:atI (a::b::as) 1=some b:=eX (j:=1) rfl
def B2{a b c:α}:atI (a::b::c::as) 2=some c:=eX (j:=2) rfl
def N1{a b c d:α}:atI (a::b::c::d::as) 3=some d:=eX (j:=3) rfl
def ϔ{a b c d e:α}:atI (a::b::c::d::e::as) 4=some e:=eX (j:=4) rfl
def ϕ{a b c d e f:α}:atI (a::b::c::d::e::f::as) 5=some f:=eX (j:=5) rfl
def ϖ{a b c d e f g:α}:atI (a::b::c::d::e::f::g::as) 6=some g:=eX (j:=6) rfl
end
def N2(h:n<=1000):(n<=sizeLine)=True:=eq_true (Ø h ⋯)
def aOI:gJ .bool (.bool b)=some 'l':=rfl
def dJ{d:D}(h:aW f δ λa δ1=>a=d/\δ1=δ):f δ=.ok d δ:=by
 let⟨a,δ1,e,rfl,rfl⟩:=h.ex;exact e
def yA{f e:M D}{δ:DS}{n:Int}{g:Nat->D}(hf:f δ=.ok (.int n) δ)(h0:0<=n)(h1:n<2^20)(he:∀k:Nat,(k:Int)<n->aW e (some (.int k)::δ) λa δ1=>a=g k/\δ1=some (.int k)::δ):dY 1 (eB 0) (uG [f]) dZ e δ=.ok (.list ((List.range n.toNat).map g)) δ:=by
 have hr:uG [f] δ=.ok (kX 0 n.toNat) δ:=by
  simp![uG,bD,hf,aX,mX];rw[Â ⟨∅,∅⟩]
 have:=BX (e:=e) (g:=λd=>match d with|.int i=>g i.toNat|_=>.none) hr (λd hd=>by
  let⟨k,hk,rfl⟩:=Þ.mp hd;have hk:=List.mem_range.mp hk;have:=dJ (he k ∅);rw[Int.zero_add];exact this) (by rw[g7];show n.toNat<=2^24;lia)
 rw[this,kX];simp
def wK{set:D->DS->Option DS}{u:M Fl}{f:M D}{δ δ1:DS}{N B C:ZO}{R:D->ZO}{j:Int}(I:Nat->ZO)(hf:f δ=.ok (.int j) δ1)(hj:-1000<=j)(hj2:j<=1000)(h0:I 0 δ1)(hs:∀(k:Nat)(δ:DS),(k:Int)<j->I k δ->∃δ1,set (.int k) δ=some δ1/\bK u δ1 (I (k+1)) N (I (k+1)) R)(hN:∀δ,I j.toNat δ->N δ):bK (jR set (uG [f]) u) δ N B C R:=
 UU I hf ∅ ∅ h0 hs hN
def uJ{set:D->DS->Option DS}{u:M Fl}{f:M D}{δ δ1:DS}{N B C:ZO}{R:D->ZO}{j:Nat}(I:Nat->ZO)(hf:f δ=.ok (.int (j:Int)) δ1)(hj:j<=1000)(h0:I 0 δ1)(hs:∀(k:Nat)(δ:DS),k<j->I k δ->∃δ1,set (.int k) δ=some δ1/\bK u δ1 (I (k+1)) N (I (k+1)) R)(hN:∀δ,I j δ->N δ):bK (jR set (uG [f]) u) δ N B C R:=
 wK I hf ∅ ∅ h0 (λk δ hk=>hs k δ ∅) λδ h=>hN δ (by rwa [ø]at h)
def iF{P:D->Prop}(h:bK body (ds.map some++List.replicate (m0-ds.length) none) (λ_=>False) (λ_=>False) (λ_=>False) λr _=>P r):∃r,aR m0 [] rm body ds=.ok r []/\P r:=by
 let⟨fl,δ1,e,q⟩:=h.ex;cases fl with
 |ret r=>exact⟨r,by unfold aR;rw[e];rfl,q⟩
 |next=>sleep 4
 |brk=>sleep 4
 |cont=>sleep 4
end L2
namespace L2
open PySem
def aLN{α β:Type}{f:α->β}{a:α}:(some a).map f=some (f a):=rfl
def aOJ{α β:Type}{f:α->Option β}:List.filterMap f []=[]:=rfl
def aOK{α:Type}{a:α}{l:List α}:(a::l)[i+1]?=l[i]?:=rfl
def aOL{α:Type}{a:α}{l:List α}:(a::l)[0]?=some a:=rfl
def ϗ{α:Type}{a b:α}:(some a=some b)=(a=b):=by simp
def Ϙ{α:Type}{p:α->Prop}{a:α}:(∃x,a=x/\p x)=p a:=by simp
def aOM{α:Type}{a:α}{l:List α}:(a::l).length=l.length+1:=rfl
def aON{α:Type}:([]:List α).length=0:=rfl
def aOO{α:Type}{a x:α}{l:List α}:(a::l).set (i+1) x=a::l.set i x:=rfl
def aOP{α:Type}{a x:α}{l:List α}:(a::l).set 0 x=x::l:=rfl
def ϙ{a b:Prop}:(if True then a else b)=a:=by simp
def Ϛ{a b:Prop}:(if False then a else b)=b:=by simp
def aP2:type_of% (Å @BZ <| Å @U9 <| Å @θ <| Å @VA <| Å @ι <| Å @μ <| Å @VB <| Å @ν <| Å @ξ <| Å @ο <| Å @π <| Å @ς <| Å @τ <| Å @NV <| Å @VC <| Å @υ <| Å @χ <| Å @ψ <| Å @ω <| Å @VD <| Å @VE <| Å @ϊ <| Å @VF <| Å @VG <| Å @ϋ <| Å @VH <| Å @NW <| Å @NX <| Å @NY <| Å @ό <| Å @ύ <| Å @ώ <| Å @VI <| Å @Ϗ <| Å @VJ <| Å @VL <| Å @ϑ <| Å @ϒ <| Å @ϓ <| Å @VM <| Å @B1 <| Å @B2 <| Å @N1 <| Å @ϔ <| Å @ϕ <| Å @ϖ <| Å @N2 <| Å @γ <| Å @ε <| Å @ζ <| Å @η <| Å @U7 <| Å @NR <| Å @NS <| Å @NT <| Å @NU <| Å @ϗ <| Å @Ϙ <| Å @Nat.zero_add <| Å @true_and <| Å @and_true <| Å @Res.ok.injEq <| Å @PySem.PyData.bool.injEq <| Å @PySem.PyData.int.injEq <| Å @PySem.PyData.list.injEq <| Å @PySem.PyData.tuple.injEq <| Å @Bool.not_true <| Å @Bool.not_false <| Å @Bool.false_eq_true <| Å @ϙ <| @Ϛ):=
 Å @BZ <| Å @U9 <| Å @θ <| Å @VA <| Å @ι <| Å @μ <| Å @VB <| Å @ν <| Å @ξ <| Å @ο <| Å @π <| Å @ς <| Å @τ <| Å @NV <| Å @VC <| Å @υ <| Å @χ <| Å @ψ <| Å @ω <| Å @VD <| Å @VE <| Å @ϊ <| Å @VF <| Å @VG <| Å @ϋ <| Å @VH <| Å @NW <| Å @NX <| Å @NY <| Å @ό <| Å @ύ <| Å @ώ <| Å @VI <| Å @Ϗ <| Å @VJ <| Å @VL <| Å @ϑ <| Å @ϒ <| Å @ϓ <| Å @VM <| Å @B1 <| Å @B2 <| Å @N1 <| Å @ϔ <| Å @ϕ <| Å @ϖ <| Å @N2 <| Å @γ <| Å @ε <| Å @ζ <| Å @η <| Å @U7 <| Å @NR <| Å @NS <| Å @NT <| Å @NU <| Å @ϗ <| Å @Ϙ <| Å @Nat.zero_add <| Å @true_and <| Å @and_true <| Å @Res.ok.injEq <| Å @PySem.PyData.bool.injEq <| Å @PySem.PyData.int.injEq <| Å @PySem.PyData.list.injEq <| Å @PySem.PyData.tuple.injEq <| Å @Bool.not_true <| Å @Bool.not_false <| Å @Bool.false_eq_true <| Å @ϙ <| @Ϛ
end L2
namespace L2
open PySem PySem.Spec
structure Sh(k:Nat)(d:D):Prop where
 lay:d.canLay0=true
 dep:d.depth<=k
def LH :∀{ds:ZI},(∀d∈ds,Sh k d)->PyData.canLayAll0 ds=true/\PyData.depthAll ds<=k
 |[],_=>⟨by simp[PyData.canLayAll0],by simp[PyData.depthAll]⟩
 |d::ds,h=>by
  let⟨h1,h2⟩:=LH (ds:=ds) λx hx=>h x (Ó _ hx);have hd:=h d Õ;refine⟨by simp[PyData.canLayAll0,hd.lay,h1],?_⟩;have:=hd.dep;simp![PyData.depthAll];lia
def VN:Sh 1 (.int i):=⟨by simp[PyData.canLay0],by simp[PyData.depth]⟩
def EL{ds:ZI}(h:∀d∈ds,Sh k d):Sh (k+1) 'r':=by
 let⟨h1,h2⟩:=LH h;exact⟨by simpa[PyData.canLay0]using h1,by simp![PyData.depth];exact Nat.lt_succ_of_le ‹_›⟩
def LI{ds:ZI}(h:∀d∈ds,Sh k d):Sh (k+1) (.tuple ds):=by
 let⟨h1,h2⟩:=LH h;exact⟨by simpa[PyData.canLay0]using h1,by simp![PyData.depth];exact Nat.lt_succ_of_le ‹_›⟩
def Sh.shaped(h:Sh k d)(e:k<=64):SeqAt.shaped d=true:=by
 unfold SeqAt.shaped;rw[h.lay,decide_eq_true (Ø h.dep e)];rfl
def N3(h:Sh k d)(e:k<=64):AZ d d=some (.bool false):=by
 unfold AZ;rw[Â ⟨h.shaped e,h.shaped e⟩,SeqAt.eqv_refl _ h.lay];rfl
def aBX(h:Sh k d)(e:k<=64):G7 d d=some 'l':=by
 unfold G7;rw[Â ⟨h.shaped e,h.shaped e⟩,SeqAt.eqv_refl _ h.lay]
def EM:jS [.list ds]=some 'r':=rfl
def ϛ{xs:ZK}:ň [.list (xs.map PyData.int)]=some (.int xs.sum):=by
 show (c6 (xs.map PyData.int)).map _=_;rw[i7];rfl
def yB{k:Nat}(h:k<=ds.length):A1 'r' (some (k:Int)) none=some (.list (ds.drop k)):=by
 show some (PyData.list (A0 ds (some (k:Int)) none))=_;unfold A0;rw[HT.sIx_none,HT.sIx_nat,Nat.min_eq_left h,List.take_of_length_le 'f']
section
def VO:aW (ģ op f lo hi) δ Q=aW f δ λd δ1=>aW (kF lo) δ1 λl δ2=>aW (kF hi) δ2 λu δ3=>vR (op d l u) δ3 Q:=by
 rw[jA];unfold aW ģ SQ;cases f δ with
 |stuck=>rfl
 |err x d=>rfl
 |ok a d=>
  simp![Res.bind];cases kF lo d with
  |stuck=>rfl
  |err x d=>rfl
  |ok l d=>
   dsimp only;cases kF hi d with
   |stuck=>rfl
   |err x d=>rfl
   |ok u d=>dsimp only;cases op a l u<;>simp
def Ő(d:D)(δ:DS)(Q:Option Int->ZO)(_w:Wt Q:=⟨⟩):Prop:=∃i,d=.int i/\Q (some i) δ
def B3{Q:Option Int->ZO}:Ő (.int i) δ Q=Q (some i) δ:=by unfold Ő;simp
def uK{Q:Option Int->ZO}:aW (kF none) δ Q=Q none δ:=rfl
def uL{Q:Option Int->ZO}:aW (kF (some f)) δ Q=aW f δ λd δ1=>Ő d δ1 Q:=by
 unfold aW kF Ő;dsimp only;cases f δ with
 |stuck=>rfl
 |err x d=>rfl
 |ok a d=>cases a<;>simp[Res.bind]
end
end L2
namespace L2
open PySem PySem.Spec PyProof.Rows
section
variable {X:Cx}{Z:cB}{ow:ZH}{pos:Pos}
def cS.give{K:ZC}{d:D}(S:aS Z ow)(hps:i∉Z.ps)(R:cS K Z ow F H σ δ)(e:δ[i]?=some (some d)):∃v,σ[i]?=some (some v)/\gB K Z ow (ow.getD i 0) d v F H σ (δ.set i none):=by
 let⟨g,R⟩:=R;let⟨v,e1,o⟩:=R.slot i d e;refine⟨v,e1,λb=>match g b with|some (j,p)=>if j=i then some (1000,p)else if j=1000 then none else some (j,p)|none=>none,⟨R.sub,R.f0,R.kept,R.new,R.there,λa j p e=>?_,by rw[Ö];exact R.len,R.par,λj d' e=>?_⟩,?_⟩
 .cases q:g a with
  |none=>rw[q]at e;cases e
  |some l=>
   let⟨j',p'⟩:=l;rw[q]at e;have e:(if j'=i then some (1000,p')else if j'=1000 then none else some (j',p'))=some (j,p):=e;split at e
   .rename_i z
    refine .inl ((R.lab a j' p' q).elim id λzQ=>by let⟨q',w⟩:=zQ;exact absurd (Z.wf a j' q' w) (by rw[z];exact hps))
   .split at e
    .cases e
    .cases e;exact R.lab a j p q
 .have hj:j≠i:=λz=>by
   subst z;by_cases hl:j<δ.length
   .rw[â hl]at e;cases e
   .rw[à (by rw[Ö];exact ã.mp ‹_›)]at e;cases e
  rw[Ù (Í hj)]at e;let⟨w,e1,o1⟩:=R.slot j d' e;refine⟨w,e1,?_⟩;by_cases hz:ow.getD j 0=0
  .rw[hz]at o1⊢;exact o1
  .have j1:j<1000:=by
    by_cases hl:j<ow.length
    .exact Ô hl S.ow
    .exact absurd (by rw[Ë,à (by exact ã.mp ‹_›)];rfl) hz
   exact o1.relab λa p e=>by
    rw[e];dsimp only;rw[Ä hj,Ä (by exact Ì ‹_›)]
 .exact o.relab λa p e=>by
   rw[e];exact Â rfl
def N4(i:Nat):M D:=λδ=>match δ[i]? with
 |some (some d)=>.ok d (δ.set i none)
 |_=>.stuck
def sQ(i:Nat){x:Str}(S:aS Z ow)(ho:↥(ow.getD i 0=n))(hps:↥(Z.ps.contains i=false))(hN:↥'q')(hv:#v[AR X.env.scope x])(hd:⇑(Zdb x))(hcd:⇑(Zcd x)):DE X Z ow n (.Name x pos) (N4 i):=
 (dM hN hv hd hcd).mono λσ H Q h=>by
  let⟨F,δ,R,h⟩:=h;unfold N4 at h;cases e:δ[i]? with
  |none=>sleep 1
  |some o=>
   cases o with
   |none=>sleep 1
   |some d=>
    rw[e]at h;let⟨v,e1,R'⟩:=R.give S (dA hps) e;rw[ho]at R';exact⟨v,e1,h v H F R' λ_ _ z=>z⟩
end
def fZ:Option Int->ZK->Option Int
 |o,[]=>o
 |none,x::xs=>fZ (some x) xs
 |some m,x::xs=>fZ (some (if x>m then x else m)) xs
def Ϝ:ZN->Array Value
 |none=>#[]
 |some v=>#[v,v]
def aLR(b:Option Int)(o:ZN):Prop:=match b,o with
 |none,none=>True
 |some m,some v=>∃t,v=.int m t
 |_,_=>False
section
variable {prog:Program}{w:World}{A:Around}{E:ZA}{s:Shared}
def HG(a d:Value):argsOk "max" ⟨[a],[("default",d)]⟩:=by unfold argsOk;kernel_rfl
def yC:∀o:ZN,(Ϝ o).size<=sizeLine
 |none=>by show 0<=sizeLine;decide
 |some _=>by show 2<=sizeLine;decide
def aBZ{x m:Int}{t t':Tok}{Q:ZA}(h:Q (.bool (decide (x>m))) s):wpAny (model prog w) A (richCompare .Gt (.int x t) (.int m t')) Q E s:=CmpOf.ints_gt (P:=λi v=>∃t,v=.int (if i=0 then x else m) t) (λi=>if i=0 then x else m) (λ_ _ h=>h) 0 1 _ _ s Q E ⟨t,rfl⟩ ⟨t',rfl⟩ (by simpa using h)
def QN{R:Result->Shared->Prop}{I S:Addr}{fp wr:ZM}{n:Nat}{P:Nat->Value->Prop}{St:Nat->Heap->Prop}{dv:Value}{xs:ZK}(W:Walks prog w A.in1 I fp wr n P St)(hP:∀i v,P i v->∃x t,xs[i]?=some x/\v=.int x t)(hx:xs.length=n)(hSf:S∉fp):
  ∀(k i:Nat)(s:Shared)(b:Option Int)(o:ZN)(c:Nat),n-i=k->i<=n->St i s.heap->aLR b o->s.heap.get? S=some {cls:=.type "list",dict:=none,data:=.seq (Ϝ o) c,slots:=#[]} ->
  (∀v h' tk,(match fZ b (xs.drop i)with|none=>v=dv|some m=>∃t,v=.int m t)->(∀b o,b∉wr->b≠S->s.heap.get? b=some o->h'.get? b=some o)->R (.ok (.ret v)) {s with heap:=h',toks:=tk}) ->
  codeAny (model prog w) A (.builtin "max.loop" ⟨[.ref I,.none,.ref S],[("default",dv)]⟩) R s:=by
 have hSw:S∉wr:=λh=>hSf (W.sub _ h);have nm:(toString "max"++toString ".loop":String)="max.loop":=by decide
 intro k
 induction k with
 |zero=>
  intro i s b o c hk hi hst hb hS hR;obtain rfl:i=n:=by lia
  rw[List.drop_of_length_le (by exact õ ‹_›),show fZ b []=b by cases b<;>rfl]at hR;refine codeAny_builtin F.entry_max_loop ?_;rw[Around.under_plainId F.plain_max_loop _];refine(show wpAny _ A.in1 (seqItems? (.ref S) >>= _) _ _ s from wpAny_bind (wpAny_seqItems hS rfl ?_));refine(show wpAny _ A.in1 (tryCatch (pyNext (.ref I)) _ >>= _) _ _ s from wpAny_bind (wpAny_tryCatch (W.done s _ _ hst λh' tk hk'=>?_)));cases o with
  |none=>
   cases b with
   |some m=>exact hb.elim
   |none=>exact wpAny_bind (wpAny_rule (wpAny_pure (hR dv h' tk rfl λb o h1 _ e=>hk' b o h1 e)))
  |some v=>
   cases b with
   |none=>exact hb.elim
   |some m=>
    refine(show wpAny _ A.in1 (updateSeq S (λ_=>#[]) >>= _) _ _ _ from wpAny_bind (wpAny_updateSeq (hk' S _ hSw hS) rfl (wpAny_bind (wpAny_letGo (wpAny_pure ?_))) (hz:=yC _) (_hz':=ò _)));exact hR v _ tk hb λb o h1 h2 e=>(Heap.get?_update_other _ _ (Í h2)).trans (hk' b o h1 e)
 |succ k ih=>
  intro i s b o c hk hi hst hb hS hR;have hlt:i<n:=by lia
  refine codeAny_builtin F.entry_max_loop ?_;rw[Around.under_plainId F.plain_max_loop _];refine(show wpAny _ A.in1 (seqItems? (.ref S) >>= _) _ _ s from wpAny_bind (wpAny_seqItems hS rfl ?_));refine(show wpAny _ A.in1 (tryCatch (pyNext (.ref I)) _ >>= _) _ _ s from wpAny_bind (wpAny_tryCatch (W.item i s _ _ hlt hst λv h' tk hp hst' hk'=>?_)));have hS':=hk' S _ hSw hS;let⟨x,t,ex,rfl⟩:=hP i v hp;have ed:xs.drop i=x::xs.drop (i+1):=by
   let⟨h1,h2⟩:=Î.mp ex;rw[ÿ h1,h2]
  rw[ed]at hR;have new:(∀v h' tk,(match fZ (some x) (xs.drop (i+1))with|none=>v=dv|some m=>∃t,v=.int m t)->(∀b o,b∉wr->b≠S->s.heap.get? b=some o->h'.get? b=some o)->R (.ok (.ret v)) {s with heap:=h',toks:=tk})->codeAny (model prog w) A (.builtin "max.loop" ⟨[.ref I,.none,.ref S],[("default",dv)]⟩) R {s with heap:=h'.update S (Obj.mapSeq λ_=>#[.int x t,.int x t]),toks:=tk}:=λhR=>ih (i+1) _ (some x) (some (.int x t)) _ ∅ hlt (W.frame _ _ _ hst' λb hbf o e=>(Heap.get?_update_other _ _ (λh:S=b=>hSf (by rw[h];exact hbf))).trans e) ⟨t,rfl⟩ (Heap.get?_update_self _ hS' rfl) λv h'' tk'' hv hk''=>hR v h'' tk'' hv λb o h1 h2 e=>hk'' b o h1 h2 ((Heap.get?_update_other _ _ (Í h2)).trans (hk' b o h1 e));cases o with
  |none=>
   cases b with
   |some m=>exact hb.elim
   |none=>
    refine(show wpAny _ A.in1 (updateSeq S (λ_=>#[.int x t,.int x t]) >>= _) _ _ _ from wpAny_bind (wpAny_updateSeq hS' rfl ?_ (hz:=yC _) (_hz':=(by show 2<=sizeLine+1;decide))));rw[nm];exact wpAny_pure ⟨plainId_quiet F.plain_max_loop _,new hR⟩
  |some vb=>
   cases b with
   |none=>exact hb.elim
   |some m=>
    let⟨t',rfl⟩:=hb;refine(show wpAny _ A.in1 (tryCatch (holding [.int x t,.int x t] (richCompare .Gt (.int x t) (.int m t') >>= _)) _ >>= _) _ _ _ from wpAny_bind (wpAny_tryCatch (wpAny_holding (wpAny_bind (aBZ ?_)))));refine wpAny_bind (wpAny_holding (wpAny_truthy_bool (wpAny_bind (wpAny_letGo (wpAny_pure ?_)))));by_cases hg:x>m
    .rw[show fZ (some m) (x::xs.drop (i+1))=fZ (some x) (xs.drop (i+1)) by simp[fZ,hg]]at hR
     simp![hg,decide_true,if_true];refine wpAny_bind (wpAny_updateSeq hS' rfl (wpAny_bind (wpAny_letGo ?_)) (hz:=yC _) (_hz':=(by show 2<=sizeLine+1;decide)));rw[nm];exact wpAny_pure ⟨plainId_quiet F.plain_max_loop _,new hR⟩
    .rw[show fZ (some m) (x::xs.drop (i+1))=fZ (some m) (xs.drop (i+1)) by simp[fZ,hg]]at hR
     simp![hg,decide_false,Bool.false_eq_true,if_false];refine wpAny_bind (wpAny_letGo ?_);rw[nm];exact wpAny_pure ⟨plainId_quiet F.plain_max_loop _,ih (i+1) _ (some m) (some (.int m t')) c ∅ hlt hst' ⟨t',rfl⟩ hS' λv h'' tk'' hv hk''=>hR v h'' tk'' hv λb o h1 h2 e=>hk'' b o h1 h2 (hk' b o h1 e)⟩
def QO{x dv:Value}{xs:ZK}{Q:ZA}(h:wpAny (model prog w) A.in1 (pyIter x) (λit s₂=>∃I fp wr n P St,it=.ref I/\Walks prog w A.in1 I fp wr n P St/\St 0 s₂.heap/\(∀b∈fp,b<s₂.heap.objs.size)/\(∀i v,P i v->∃x t,xs[i]?=some x/\v=.int x t)/\xs.length=n /\
   ∀v h' tk,(match fZ none xs with|none=>v=dv|some m=>∃t,v=.int m t)->(∀b o,b∉wr->s₂.heap.get? b=some o->h'.get? b=some o)->Q v {s₂ with heap:=h',toks:=tk}) E s):wpAny (model prog w) A (call (.builtin "max") [x] [("default",dv)]) Q E s:=by
 have nm:(toString "max"++toString ".loop":String)="max.loop":=by decide
 refine wpAny_call (codeAny_call_builtin F.plain_max F.entry_max ?_);simp![checkBuiltinCall,F.kind_max];have key:wpAny (model prog w) A.in1 (Builtin.«max» ⟨[x],[("default",dv)]⟩) (λfin s'=>match fin with
   |.done f=>(match (Except.ok f:Result)with|.ok (.ret v)=>Q v s'|.ok _=>False|.error e=>E e s')
   |.again c'=>c'.quiet=true/\codeAny (model prog w) A c' (λr s'=>match r with|.ok (.ret v)=>Q v s'|.ok _=>False|.error e=>E e s') s') E s:=by
  refine(show wpAny _ A.in1 (Builtin.Builtins.bindParams "max" ["key","default"] 0 ⟨[],[("default",dv)]⟩ >>= _) _ _ s from wpAny_bind (wpAny_of_eq (show Builtin.Builtins.bindParams "max" ["key","default"] 0 ⟨[],[("default",dv)]⟩=pure [none,some dv]from rfl) ?_));refine wpAny_bind (wpAny_pure (wpAny_bind (wpAny_mono h (λit s₂ h₂=>?_) λ_ _ e=>e)));let⟨I,fp,wr,n,P,St,rfl,W,hst,hfp,hP,hx,hQ⟩:=h₂;refine wpAny_bind (wpAny_newObj_type ?_);have hSf:s₂.heap.objs.size∉fp:=λhm=>ö _ (hfp _ hm);rw[nm];refine wpAny_pure ⟨plainId_quiet F.plain_max_loop _,QN (dv:=dv) W hP hx hSf _ 0 _ none none _ rfl (ò _) (W.frame _ _ _ hst λb _ o e=>Heap.get?_push_of_some _ e) trivial (Heap.get?_push_size _ rfl) λv h' tk hv hk=>?_⟩;rw[List.drop_zero]at hv;exact hQ v h' tk hv λb o hbw e=>hk b o hbw (Ì (Heap.lt_size e)) (Heap.get?_push_of_some _ e)
 have ha:=HG x dv;cases hsig:Manifest.signature? "max"with
 |none=>exact wpAny_pure key
 |some sig=>
  simp![argsOk,hsig]at ha;have h2:Bind.checkArgs "max" sig ⟨[x],[("default",dv)]⟩=pure ():=ha;refine(show wpAny _ A.in1 (Bind.checkArgs "max" sig ⟨[x],[("default",dv)]⟩) _ _ s from ?_);rw[h2];exact wpAny_pure key
end
section
def aLS(X:Cx)(te tc:TE):TE:=λσ H Q=>TF te Ţ σ H λvs H1=>tc σ H1 λd H2=>∃(p:Addr)(xs:ZK),vs=[.ref p]/\eV X.K H2 p (xs.map V.int)/\Q (match fZ none xs with|none=>d|some m=>.int m) H2
def VP{À:ZB}{s:Shared}{σ:St}{H:Hp}{Q:VK}{p:Addr}{xs:ZK}{d:V}{dv:Value}(hc:X.calm=true)(I:Inv X À σ H s)(hq:eV X.K H p (xs.map V.int))(rd:bI d dv)(q:Q (match fZ none xs with|none=>d|some m=>.int m) H):
  wpAny 'b' X.A (call (.builtin "max") [.ref p] [("default",dv)]) (EP X À σ Q) X.xe s:=by
 let⟨its,rv,pl,hz⟩:=I.list hq;refine QO (xs:=xs) (wpAny_pyIter_list pl.isList ?_);have hlen:=rv.length;rw[Æ]at hlen;have hlt:p<s.heap.objs.size:=by
  let⟨o,n,e,_⟩:=pl;exact Heap.lt_size e
 have ph:Inv X À σ H {s with heap:=s.heap.push {cls:=.type "list_iterator",data:=.fields #[.ref p,.int 0 0]}}:=I.kept (t':=s.toks) λb o e=>Heap.get?_push_of_some _ e;let⟨its',rv',pl',_⟩:=ph.list hq;have e1:its=its':=by
  let⟨o,n,e,c,dn,d⟩:=pl;let⟨o',n',e',c',dn',d'⟩:=pl';have e2:=Heap.get?_push_of_some {cls:=.type "list_iterator",data:=.fields #[.ref p,.int 0 0]} e;rw[e2]at e';cases e';rw[d]at d';injection d' with d1 _;simpa using congrArg Array.toList d1
 subst e1;refine⟨s.heap.objs.size,_,_,_,_,_,rfl,Walks.list (A:=X.A.in1) (show X.A.in1.handled=none from I.ok.hd hc) s.heap.objs.size p (Ì hlt) its.toArray,⟨⟨_,Heap.get?_push_size _ rfl,rfl,rfl⟩,pl'.isList⟩,λb hb=>?_,λi v hv=>?_,by simp;assumption,λv h' tk hv k=>?_⟩
 .show b<(s.heap.push _).objs.size
  rw[Heap.size_push]
  grind
 .have hv:its.toArray[i]?=some v:=hv
  exact bJ.int_at (i:=i) rv (by simpa using hv)
 .have I2:=ph.turned (it:=s.heap.objs.size) (h':=h') (t':=tk) (λb o hb e=>k b o (by simpa using hb) e) (I.hok.fresh (È _)) (Ü I.lt) (.inr I.sz) (λx c e=>by
   let⟨v,q⟩:=I.cell x c e;exact Ì q.lt) λp hp=>Ì (Heap.lt_size (I.pin p hp).1)
  refine⟨_,H,I2,?_,q⟩;cases eb:fZ none xs with
  |none=>grind
  |some m=>rw[eb]at hv;exact hv
def aB0{p pos kp:Pos}(hc:X.calm=true)(hg:Gl X "max")(hm:X.mg "max"=none)(ha:PE X e te)(hd:PE X c tc)(hs:↥(Zse e [] X.env))(hv:bootBuiltins "max"=some (.builtin "max"):=by decide +kernel):
  PE X (.Call (.Name "max" p) [e] [⟨some "default",c,kp⟩] pos) (aLS X te tc):=by
 intro À s σ H Q I h;refine wpAny_Call_Name_kw (j8 I hg hm hv ?_ ⋯ ⋯);have a1:backTo pos (starEach [e] X.env)=(false,eval e X.env)::backTo pos (starEach [] X.env):=by rw[hs];rfl
 refine callWith_kw (cY ((eW ha iV hs) pos À s σ H _ I h) λus s1 zQ=>?_) a1 (by rw[a1];rfl) rfl rfl;let⟨vs,H1,I1,r,q⟩:=zQ;refine kws_cons (cY (hd À s1 σ H1 _ I1 q) λu s2⟨d,H2,I2,rd,q2⟩=>kws_nil ?_);let⟨l,xs,rfl,hq,q2⟩:=q2;let⟨u',rfl,rx⟩:=pU r;cases rx;exact VP hc I2 hq rd q2
def HH(f g:M D):M D:=λδ=>(f δ).bind λd δ1=>(g δ1).bind λe δ2=>match d,e with
 |.list ds,.int n=>(match c6 ds with
  |some xs=>.ok (.int ((fZ none xs).getD n)) δ2
  |none=>.stuck)
 |_,_=>.stuck
def aB1(hc:X.calm=true)(hg:Gl X "max")(hm:X.mg "max"=none)(ha:DE X Z ow 0 e f)(hd:DE X Z ow 0 c g)(hs:↥(Zse e [] X.env)):DE X Z ow 0 (.Call (.Name "max" p) [e] [⟨some "default",c,kp⟩] pos) (HH f g):=
 (aB0 hc hg hm ha hd hs).mono λσ H Q h=>by
  let⟨F,δ,R,h⟩:=h;unfold HH at h;sleep 3;cases e1:f δ with
  |stuck=>rw[e1]at h;exact h.elim
  |err x δ1=>rw[e1]at h;exact h
  |ok d1 δ1=>
   rw[e1]at h;intro x H1 F1 R1 s1;refine⟨F1,δ1,R1.rel,?_⟩;simp![Res.bind]at h;cases e2:g δ1 with
   |stuck=>rw[e2]at h;exact h.elim
   |err x δ2=>rw[e2]at h;exact iQ.mono h s1
   |ok d2 δ2=>
    rw[e2]at h;simp![Res.bind]at h;intro y H2 F2 R2 s2;split at h
    .rename_i ds n
     cases e3:c6 ds with
     |none=>rw[e3]at h;exact h.elim
     |some xs=>
      rw[e3]at h;let⟨l,vs,rfl,hx,rx⟩:=kE R1.rep;rw[i8 e3 rx]at hx;have ry:=R2.rep;unfold bG at ry;subst ry;refine⟨l,xs,rfl,R2.rel.sub.seq (s2.seq hx),h _ H2 F2 (R2.rel.x ?_) (s1.trans' s2)⟩;cases fZ none xs with
      |none=>show bG X.K F2 (.int n) (.int n);unfold bG;rfl
      |some m=>show bG X.K F2 (.int m) (.int m);unfold bG;rfl
    .exact h.elim
end
section
end
end L2
namespace L2
open PySem PySem.Spec
section
def N5:D->D->ZL
 |.list ds,.int n=>(c6 ds).map λxs=>.int ((fZ none xs).getD n)
 |_,_=>none
def aB2:HH f g=fC N5 f g:=by
 funext δ;unfold HH fC;cases f δ with
 |stuck=>rfl
 |err x d=>rfl
 |ok a d=>
  simp![Res.bind];cases g d with
  |stuck=>rfl
  |err x d=>rfl
  |ok b d=>
   simp![Res.bind];cases a<;>cases b<;>try rfl
   rename_i ds n;simp![N5];cases c6 ds<;>rfl
def aH9:aW (HH f g) δ Q=aW (fC N5 f g) δ Q:=by rw[aB2]
def uM:aW (N4 i) δ Q=gL δ[i]? δ λd δ=>Q d (δ.set i none):=by
 rw[lY];unfold aW N4 EI;cases e:δ[i]? with
 |none=>simp
 |some o=>cases o<;>simp
def EN{Q:Bool->ZO}:aW (HF c) δ Q=aW c δ λb _=>Q b δ:=by
 unfold aW HF;cases c δ<;>rfl
def aLT:aW (Ŋ i lo hi) δ Q=gL δ[i]? δ λ_ _=>aW (kF lo) δ λl δ1=>aW (kF hi) δ1 λu δ2=>gL δ2[i]? δ2 λd δ2=>vR (A1 d l u) δ2 Q:=by
 unfold aW Ŋ gL vR;cases δ[i]? with
 |none=>rfl
 |some o=>
  cases o with
  |none=>rfl
  |some d0=>
   dsimp only;cases kF lo δ with
   |ok l δ1=>
    dsimp![Res.bind];cases kF hi δ1 with
    |ok u δ2=>
     dsimp only;cases δ2[i]? with
     |none=>rfl
     |some o=>
      cases o with
      |none=>rfl
      |some d=>cases d<;>rfl
    |_=>rfl
   |_=>rfl
def LJ{ds zs:ZI}:EK (UW ds [.list zs]) i δ Q=(ds.length+zs.length<=sizeLine/\Q .none (δ.set i (some (.list (ds++zs))))):=by
 by_cases h:ds.length+zs.length<=sizeLine
 .have:UW ds [.list zs]=some (.none,ds++zs):=Â h
  rw[this,Ω];simp[h]
 .have:UW ds [.list zs]=none:=Ä h
  rw[this];simp[h,NP,Ō]
end
end L2
namespace L2
open PySem PySem.Spec PyProof.Rows
def wL:D->Option (ZI)
 |.list xs=>some xs
 |.tuple xs=>some xs
 |_=>none
def į:D->D->ZL:=λa b=>match wL b with
 |some xs=>if SeqAt.shaped a=true/\SeqAt.shaped b=true then some (.bool (xs.any λy=>PyData.eqv y a))else none
 |none=>none
section
def ϝ(K:ZC):R2:=λx y H Q=>∃d e xs,bG K H d x/\bG K H e y/\wL e=some xs/\SeqAt.shaped d=true/\SeqAt.shaped e=true/\Q (.bl (xs.any λy=>PyData.eqv y d)) H
def aIA(hu:X.A.units+64<cLine):iU X (compareOp .In) (ϝ X.K):=by
 sleep 6;let⟨d,e,xs,hd,he,hi,sd,se,q⟩:=h;let⟨as,ra⟩:=bG.reads I d x v (gE sd) hd rx;let⟨bs,rb⟩:=bG.reads I e y u (gE se) he ry;have lay:=SeqAt.canLay_of_shaped se;have dep:=SeqAt.depth_of_shaped se;have ld:=SeqAt.canLay_of_shaped sd;cases e with
 |list ys=>
  cases hi;rw[PyData.depth]at dep;have:min (PyData.depthAll xs) d.depth<=PyData.depthAll xs:=Nat.min_le_left _ _;exact SeqAt.in_list_reads rb ra (by simpa[PyData.canLay0]using lay) ld ∅ (m4 I q rfl)
 |tuple ys=>
  cases hi;rw[PyData.depth]at dep;have:min (PyData.depthAll xs) d.depth<=PyData.depthAll xs:=Nat.min_le_left _ _;exact SeqAt.in_tuple_reads rb ra (by simpa[PyData.canLay0]using lay) ld ∅ (m4 I q rfl)
 |_=>cases hi
def aIB:pZ X (ϝ X.K) 0 į:=λZ ow F H σ δ a b x y d Q S R ra rb e q=>by
 unfold į at e;cases hi:wL b with
 |none=>rw[hi]at e;cases e
 |some xs=>
  rw[hi]at e;dsimp only at e;split at e
  .rename_i hc
   cases e;exact⟨a,b,xs,R.sub.rep _ _ ra,R.sub.rep _ _ rb,hi,hc.1,hc.2,q _ H F (R.x iM) 'm'⟩
  .cases e
end
section
variable {X:Cx}{Z:cB}{ow ol ox:ZH}{n rm m:Nat}{pos:Pos}{e a b c tg:Expr}{f h:M D}{F F' H H':Hp}{σ:St}{δ δ':DS}{g g':ZP}{K:ZC}
def bC.keep(hF:aM F F')(h:∀a p o,g a=some (i,p)->H a=some o->F a=none->g' a=some (i,p)/\H' a=some o/\F' a=none)(r:bC K F H g i n p d v):bC K F' H' g' i n p d v:=r.keepJ hF h
def iK.updNe{b:Addr}{i i0:Nat}{q0:ZH}{o:HO}(hb:g b=some (i0,q0)){f c:Nat}{p:ZH}{d:D}{v:V}(hn:i≠i0\/¬p <+: q0)(r:iK K F H g i f c p d v):iK K F (aY H b o) g i f c p d v:=by
 induction f generalizing c p d v with
 |zero=>
  cases c with
  |zero=>exact r
  |succ c=>exact r.elim
 |succ f ih=>
  cases c with
  |zero=>exact r
  |succ c=>
   let⟨ds,vs,cs,nd,hc,hl,r⟩:=r;refine⟨ds,vs,cs,nd,λx hx=>?_,hl,λk d' v' z1 z2=>ih (hn.imp id λz w=>z ((List.prefix_append p [k]).trans w)) (r k d' v' z1 z2)⟩;let⟨a1,a2,a3⟩:=hc x hx;have ne:x.1≠b:=λz=>by
    rw[z,hb]at a1;cases a1;exact hn.elim (λz=>z rfl) λz=>z (List.prefix_append _ _)
   exact⟨a1,by rw[aH ne];exact a2,a3⟩
def bC.updNe{b:Addr}{i i0:Nat}{q0:ZH}{o:HO}(hb:g b=some (i0,q0)){n:Nat}{p:ZH}{d:D}{v:V}(hn:i≠i0\/¬p <+: q0)(r:bC K F H g i n p d v):bC K F (aY H b o) g i n p d v:=iK.updNe hb hn r
def KJ:ZH->DS->DS
 |[],δ=>δ
 |_::_,[]=>[]
 |n::ow,o::δ=>(if n=0 then o else none)::KJ ow δ
def N6:∀{ow:ZH}{δ:DS},(KJ ow δ).length=δ.length
 |[],_=>rfl
 |_::_,[]=>rfl
 |n::ow,o::δ=>by unfold KJ;rw[Ý,Ý,N6]
def VQ:∀{ow:ZH}{δ:DS}{i:Nat}{d:D},(KJ ow δ)[i]?=some (some d)->ow.getD i 0=0/\δ[i]?=some (some d)
 |[],_,i,_,e=>⟨by simp,e⟩
 |_::_,[],_,_,e=>by unfold KJ at e;cases e
 |n::ow,o::δ,0,d,e=>by
  unfold KJ at e;rw[List.getElem?_cons_zero]at e;split at e
  .rename_i h;exact⟨h,e⟩
  .cases e
 |n::ow,o::δ,i+1,d,e=>by
  unfold KJ at e;rw[List.getElem?_cons_succ]at e;let⟨h1,h2⟩:=VQ e;exact⟨by simpa using h1,by simpa using h2⟩
def bV.hide(R:bV K Z ow g F H σ δ):cS K (i9 F H σ m) 'k' F H σ (KJ ow δ):=
 ⟨λ_=>none,R.sub,⟨R.f0.lm,λ_ _ z=>z⟩,λ_ _ _ e=>e,λ_ h _=>h,λ_ h=>h,λ_ _ _ e=>(by cases e),by rw[N6];exact R.len,λi hi=>(by cases hi),λi d e=>by
  let⟨h0,e⟩:=VQ e;let⟨v,e1,o⟩:=R.slot i d e;rw[h0]at o;exact⟨v,e1,by rw[lX];exact o⟩⟩
def bV.back(R:bV K Z ow g F H σ δ)(R':bV K (i9 F H σ m) 'k' g' F' H' σ δ'):bV K Z ow g F' H' σ δ:=by
 have hk:∀b o,H b=some o->H' b=some o:=λb o e=>R'.kept b o rfl e;refine⟨R'.sub,R.f0.trans' R'.f0.2,λb o n e=>hk b o (R.kept b o n e),λa h1 h2=>R'.new a (R.new a h1 h2) (R.there a h2),λb h=>?_,R.lab,R.len,R.par,λi d e=>?_⟩
 .cases e:H b with
  |none=>exact absurd e (R.there b h)
  |some o=>rw[hk b o e];simp
 .obtain⟨v,e1,o⟩:=R.slot i d e
  exact⟨v,e1,o.keep (show aM F F' from R'.f0.2) λa p o e1 e2 e3=>⟨e1,hk a o e2,R'.new a e3 (show H a≠none by rw[e2];simp)⟩⟩
def bV.at2{i j:Nat}{ds inner:ZI}(R:bV K Z ow g F H σ δ)(ho:ow.getD i 0=2)(hd:δ[i]?=some (some 'r'))(hj:ds[j]?=some (.list inner)):
  ∃a vs b ws,σ[i]?=some (some (.ref a))/\H a=some (.lst vs)/\ds.length=vs.length/\vs[j]?=some (.ref b)/\H b=some (.lst ws)/\aE K F inner ws:=by
 let⟨v,e1,o⟩:=R.slot i _ hd;rw[ho]at o;let⟨a,ds0,vs,q1,q2,q3,q4,q5,q6,q7⟩:=o.lst (m:=1);cases q1;subst q2;have jl:j<vs.length:=by rw[<- q6];exact(Î.mp hj).1
 let⟨b,inner',ws,w1,w2,w3,w4,w5,w6,w7⟩:=(q7 j _ _ hj (Ê jl)).lst (m:=0);cases w1;exact⟨a,vs,b,ws,e1,q4,q6,by rw[Ê jl,w2],w4,aE.of w6 w7⟩
def bV.rewrite2{a b:Addr}(R:bV K Z ow g F H σ δ)(ho:ow.getD i 0=2)(hd:δ[i]?=some (some 'r'))(hs:σ[i]?=some (some (.ref a)))(ha:H a=some (.lst vs))(hb:vs[j]?=some (.ref b))(hr:aE K F inner' vs'):
  bV K Z ow g F (aY H b (.lst vs')) σ (δ.set i (some (.list (ds.set j (.list inner'))))):=by
 let⟨v,e1,o⟩:=R.slot i _ hd;rw[hs]at e1;cases e1;rw[ho]at o;let⟨a',ds0,vs0,q1,q2,q3,q4,q5,q6,q7⟩:=o.lst (m:=1);cases q1;cases q2;rw[ha]at q4;cases q4;have jl:j<vs.length:=(Î.mp hb).1;have jd:j<ds.length:=by exact ð ‹_› (Eq.symm ‹_›)
 let⟨b',inner,ws,w1,w2,w3,w4,w5,w6,w7⟩:=(q7 j _ _ (Ê jd) hb).lst (m:=0);cases w2;have hi:i<δ.length:=(Î.mp hd).1;have nab:a≠b:=λz=>by rw[z,w3]at q3;cases q3
 refine⟨λb' u e=>?_,R.f0,λb' u n e=>?_,R.new,λb' z=>?_,R.lab,by rw[Ö];exact R.len,R.par,λk d e=>?_⟩
 .have:b'≠b:=λz=>by rw[z,w5]at e;cases e
  rw[aH this];exact R.sub b' u e
 .have:b'≠b:=λz=>by
   subst z;rcases R.lab b' i _ w3 with w|⟨q,w⟩
   .rw[w]at e;cases e
   .rw[w]at n;cases n
  rw[aH this];exact R.kept b' u n e
 .by_cases hb':b'=b
  .subst hb';rw[aP];simp
  .rw[aH hb'];exact R.there b' z
 .by_cases hk:k=i
  .subst hk
   rw[â hi]at e;cases e;refine⟨_,hs,?_⟩;rw[ho];refine bC.mkL (m:=1) ⟨a,_,vs,rfl,rfl,q3,by rw[aH nab];exact ha,q5,by rw[Ö];exact q6,λl d' v' z1 z2=>?_⟩
   by_cases hl:j=l
   .subst hl
    rw[â jd]at z1;cases z1;rw[hb]at z2;cases z2;exact bC.mkL (m:=0) ⟨b,inner',vs',rfl,rfl,w3,aP,w5,hr.len,λk d' v' z1 z2=>hr.both k d' v' z1 z2⟩
   .rw[Ù hl]at z1
    refine bC.updNe w3 (.inr λz=>?_) (q7 l d' v' z1 z2);have z:[l] <+: [j]:=z;let⟨t,ht⟩:=z;cases ht;exact hl rfl
  .rw[Ù (Í hk)]at e
   let⟨v,e1,o⟩:=R.slot k d e;exact⟨v,e1,bC.updNe w3 (.inl hk) o⟩
def p7(ow:ZH)(i:Nat)(fk:M D)(op:ZI->ZI->Option (D×ZI))(fs:List (M D)):M D:=λδ=>match δ[i]? with
 |some (some 'r')=>(match fk δ with
  |.ok (.int k) _=>(match lN ds.length k with
   |some j=>(match ds[j]? with
    |some (.list inner)=>(match bD fs (KJ ow δ)with
     |.ok args _=>(match op inner args with
      |some (ret,inner')=>.ok ret (δ.set i (some (.list (ds.set j (.list inner')))))
      |none=>.stuck)
     |_=>.stuck)
    |_=>.stuck)
   |none=>.stuck)
  |_=>.stuck)
 |_=>.stuck
def HI(h:p7 ow i fk op fs δ=.ok d δ1):
  ∃ds k δ2 j inner args δ3 inner',δ[i]?=some (some 'r')/\fk δ=.ok (.int k) δ2/\lN ds.length k=some j/\ds[j]?=some (.list inner)/\bD fs (KJ ow δ)=.ok args δ3/\op inner args=some (d,inner')/\δ1=δ.set i (some (.list (ds.set j (.list inner')))):=by
 unfold p7 at h;split at h
 .rename_i ds e1
  split at h
  .rename_i k δ2 e2
   split at h
   .rename_i j e3
    split at h
    .rename_i inner e4
     split at h
     .rename_i args δ3 e5
      split at h
      .rename_i ret inner' e6
       cases h;exact⟨ds,k,δ2,j,inner,args,δ3,inner',e1,e2,e3,e4,e5,e6,rfl⟩
      .cases h
     .cases h
    .cases h
   .cases h
  .cases h
 .cases h
theorem VR(h:p7 ow i fk op fs δ=.err x δ1):False:=by
 unfold p7 at h;split at h
 .split at h
  .split at h
   .split at h
    .split at h
     .split at h<;>cases h
     .cases h
    .cases h
   .cases h
  .cases h
 .cases h
def LK(m:Nat)(h:∀F H σ,DE X (i9 F H σ m) 'k' 0 ek fk):PE X ek (λσ H Q=>∃F0,tD X (i9 F0 H σ m) 'k' 0 fk σ H Q):=λÀ s σ H Q I zQ=>by let⟨F0,q⟩:=zQ;exact h F0 H σ À s σ H Q I q
def aIC(m:Nat)(h:∀F H σ,DV X (i9 F H σ m) 'k' es fs):PA X es (λσ H Q=>∃F0,tV X (i9 F0 H σ m) 'k' fs σ H Q):=λcp À s σ H Q I zQ=>by let⟨F0,q⟩:=zQ;exact h F0 H σ cp À s σ H Q I q
def HJ(m:Nat)(ho:ow.getD i 0=2)(hm:D1 X r op)(h:tD X Z ow 0 (p7 ow i fk op fs) σ H Q):
  SV i σ H λx H1=>∃F0,tD X (i9 F0 H1 σ m) 'k' 0 fk σ H1 λy H2=>Ť X.K x y H2 λv H3=>ŀ X.K "list" v H3/\∃F1,tV X (i9 F1 H3 σ m) 'k' fs σ H3 λxs H4=>r v xs H4 Q:=by
 let⟨F,δ,⟨g,R⟩,h⟩:=h;cases e:p7 ow i fk op fs δ with
 |stuck=>sleep 1
 |err x δ1=>exact(VR e).elim
 |ok d δ1=>
  rw[e]at h;let⟨ds,k,δ2,j,inner,args,δ3,inner',e1,e2,e3,e4,e5,e6,rfl⟩:=HI e;let⟨a,vs,b,ws,q1,q2,q3,q4,q5,q6⟩:=R.at2 ho e1 e4;refine⟨_,q1,KI g F H,KI g F H,δ,R.bor,?_⟩;rw[e2];rintro v H1 F1 ⟨g1,R1,o1⟩ s1;have ev:v=.int k:=by
   have o1:bG X.K F1 (.int k) v:=o1;unfold bG at o1;exact o1
  subst ev;have hk:aM H H1:=λb o e=>R1.kept b o rfl e;have R2:=R.grow hk;refine⟨a,vs,k,.ref b,rfl,rfl,eV.of (hk _ _ q2),?_,.inl ⟨rfl,ws,eV.of (hk _ _ q5)⟩,F,F,KJ ow δ,R2.hide,?_⟩
  .unfold atI
   rw[<- q3,e3];exact q4
  .rw[e5]
   rintro us H2 F2 ⟨g3,R3⟩ s3 ra;have hk2:aM H1 H2:=λb o e=>R3.kept b o rfl e;have R4:=R2.back R3;let⟨xs',rv,w1,w2,w3⟩:=hm F2 H2 b ws us inner args d inner' (hk2 _ _ (hk _ _ q5)) R4.sub (s3.repAll _ _ q6) ra e6;exact w3 Q (h rv _ F2 ⟨g,R4.rewrite2 ho e1 q1 (hk2 _ _ (hk _ _ q2)) q4 w1,w2⟩ s3)
def EO(i m:Nat){x:Str}{p p2 q:Pos}{id:String}(slot:Slot "list" name id)(hty:typeOf (.builtin id)=pure (.type "method_descriptor"))(hmr:ę X id r)(hm:D1 X r op)(hk:∀F H σ,DE X (i9 F H σ m) 'k' 0 ek fk)(ha:∀F H σ,DV X (i9 F H σ m) 'k' (e::es) fs)(ho:↥(ow.getD i 0=2))(hN:↥'q')(hv:#v[AR X.env.scope x])(hd:⇑(Zdb x))(hcd:⇑(Zcd x))(hp:oM ek:=by exact λ_ _=>rfl)(hbase:↥(attributeBase (.Subscript 'd' ek p2) name X.env (eval (.Subscript 'd' ek p2) X.env)=eval (.Subscript 'd' ek p2) X.env))(hfew:↥(((backTo pos (starEach (e::es) X.env)).all (λx=>!x.1) && (backToKw pos (keywordEach [] X.env)).all (λx=>x.1.isSome)
   && decide ((e::es).length+([]:List Keyword).length+(if ([]:List Keyword).isEmpty then 0 else 1)<30))=true))(hline:↥((q.endLine == pos.line)=true))(hs:↥(Zse e es X.env))(hplain:↥(Zbt pos es X.env)):
  DE X Z ow 0 (.Call (.Attribute (.Subscript 'd' ek p2) name q) (e::es) [] pos) (p7 ow i fk op fs):=PE.mono (TN PySem.F.plainAttrs_list slot hty hmr (GS rT (dM hN hv hd hcd) (LK m hk) hp) (aIC m ha) hbase hfew hline hs hplain) λ_ _ _ h=>HJ m ho hm h
def VS(i m:Nat){x:Str}{p p2 q:Pos}{id:String}(slot:Slot "list" name id)(hty:typeOf (.builtin id)=pure (.type "method_descriptor"))(hmr:ę X id r)(hm:D1 X r op)(hk:∀F H σ,DE X (i9 F H σ m) 'k' 0 ek fk)(ho:↥(ow.getD i 0=2))(hN:↥'q')(hv:#v[AR X.env.scope x])(hd:⇑(Zdb x))(hcd:⇑(Zcd x))(hp:oM ek:=by exact λ_ _=>rfl)(hbase:↥(attributeBase (.Subscript 'd' ek p2) name X.env (eval (.Subscript 'd' ek p2) X.env)=eval (.Subscript 'd' ek p2) X.env))(hline:↥((q.endLine == pos.line)=true)):
  DE X Z ow 0 (.Call (.Attribute (.Subscript 'd' ek p2) name q) [] [] pos) (p7 ow i fk op []):=PE.mono (DN PySem.F.plainAttrs_list slot hty hmr (GS rT (dM hN hv hd hcd) (LK m hk) hp) hbase hline) λσ H Q h=>by
 let⟨v,e1,F0,h⟩:=HJ m ho hm h;refine⟨v,e1,F0,?_⟩;let⟨F1,δ,R,h⟩:=h;refine⟨F1,δ,R,h.mono 'm' λy H2 h=>?_⟩;let⟨a,vs,k,u,w1,w2,w3,w4,w5,F2,F3,δ3,R3,q3⟩:=h;refine⟨a,vs,k,u,w1,w2,w3,w4,w5,?_⟩;exact q3 [] H2 F3 R3 'm' iW
def VT:ZI->ZI->Option (D×ZI)
 |ds,[]=>(match ds[ds.length-1]? with
  |some d=>some (d,ds.dropLast)
  |none=>none)
 |_,_=>none
def N7:D1 X Μ VT:=λF H l xs vs ds args ret ds' hl hs h1 h2 e=>by
 unfold VT at e;split at e
 .split at e
  .rename_i d e1
   cases e;unfold aE at h2;subst h2;let⟨v,e2,r⟩:=h1.get e1;rw[h1.len]at e2;refine⟨xs.dropLast,v,?_,r,λQ q=>⟨l,xs,v,rfl,rfl,hl,e2,q⟩⟩;rw[List.dropLast_eq_take,List.dropLast_eq_take,<- h1.len];exact h1.take _
  .cases e
 .cases e
def cS.enter(hz:∀i,ow.getD i 0=0)(R:cS K Z ow F H σ δ):cS K (i9 F H σ m) 'k' F H σ δ:=by
 let⟨g,R⟩:=R;exact⟨λ_=>none,R.sub,⟨R.f0.lm,λ_ _ z=>z⟩,λ_ _ _ e=>e,λ_ h _=>h,λ_ h=>h,λ_ _ _ e=>(by cases e),R.len,λi hi=>(by cases hi),λi d e=>by
  let⟨v,e1,o⟩:=R.slot i d e;rw[hz]at o;exact⟨v,e1,by rw[lX];exact o⟩⟩
def cS.leave(hz:∀i,ow.getD i 0=0)(R:cS K Z ow F H σ δ)(R':bV K (i9 F H σ m) 'k' g' F' H' σ δ'):cS K Z ow F' H' σ δ':=by
 let⟨g,R⟩:=R;have hk:∀b o,H b=some o->H' b=some o:=λb o e=>R'.kept b o rfl e;refine⟨λ_=>none,R'.sub,R.f0.trans' R'.f0.2,λb o n e=>hk b o (R.kept b o n e),λa h1 h2=>R'.new a (R.new a h1 h2) (R.there a h2),λb h=>?_,λ_ _ _ e=>(by cases e),R'.len,R.par,λi d e=>?_⟩
 .cases e:H b with
  |none=>exact absurd e (R.there b h)
  |some o=>rw[hk b o e];simp
 .obtain⟨v,e1,o⟩:=R'.slot i d e
  rw[lX]at o;exact⟨v,e1,by rw[hz];exact o⟩
def cS.reg(hz:∀i,ow.getD i 0=0)(R:cS K Z ow F H σ δ)(hl:∀a i p,g a=some (i,p)->Z.H0 a=none):bV K Z ow g F H σ δ:=by
 let⟨g0,R⟩:=R;exact⟨R.sub,R.f0,R.kept,R.new,R.there,λa i p e=>.inl (hl a i p e),R.len,R.par,λi d e=>by
  let⟨v,e1,o⟩:=R.slot i d e;rw[hz]at o;exact⟨v,e1,by rw[hz];exact o⟩⟩
structure HK(K:ZC)(H0 F H:Hp)(ga:ZP)(n:Nat)(acc:ZI)(ys:List V):Prop where
 len:acc.length=ys.length
 own:∀(k:Nat)(d:D)(v:V),acc[k]?=some d->ys[k]?=some v->bC K F H ga 1000 n [k] d v
 lab:∀a i p,ga a=some (i,p)->H0 a=none
def HK.keep(A:HK K H0 F H g n acc ys)(hF:aM F F')(h:∀a o,H a=some o->F a=none->H' a=some o/\F' a=none):HK K H0 F' H' g n acc ys:=
 ⟨A.len,λk d v e1 e2=>(A.own k d v e1 e2).keep hF λa p o z1 z2 z3=>⟨z1,h a o z2 z3⟩,A.lab⟩
def HK.add(A:HK K H0 F H g n acc ys)(R':bV K (i9 F H σ m) 'k' g' F' H' σ δ')(o:bC K F' H' g' 1000 n [] d v)(h0:∀a,H a=none->H0 a=none):
  ∃ga,HK K H0 F' H' ga n (acc++[d]) (ys++[v]):=by
 have hn:∀a l,g' a=some l->H a=none:=λa l e=>by
  let⟨i,p⟩:=l;rcases R'.lab a i p e with z|⟨q,z⟩
  .exact z
  .cases z
 refine⟨λb=>match g' b with|some (i,p)=>if i=1000 then some (1000,ys.length::p)else none|none=>g b,by simp[A.len],λk d' v' e1 e2=>?_,λa i p e=>?_⟩
 .by_cases hk:k<ys.length
  .rw[ó (by rw[A.len];exact hk)]at e1
   rw[ó hk]at e2;refine(A.own k d' v' e1 e2).keep (H:=H) (H':=H') (show aM F F' from R'.f0.2) λa p o z1(z2:H a=some o)z3=>⟨?_,R'.kept a o rfl z2,R'.new a z3 (show H a≠none by rw[z2];simp)⟩;cases z4:g' a with
   |none=>exact z1
   |some l=>rw[hn a l z4]at z2;cases z2
  .have hk':k=ys.length:=by
    have:=(Î.mp e2).1;rw[Ò,í]at this;lia
   subst hk';rw[ç (È _),Nat.sub_self]at e2;rw[<- A.len,ç (È _),Nat.sub_self]at e1;cases e1;cases e2;have:=bC.relabP (g':=λb=>match g' b with|some (i,p)=>if i=1000 then some (1000,ys.length::p)else none|none=>g b) (j:=1000) (q:=[ys.length]) (λa p e=>by
    show (match g' a with|some (i,p)=>if i=1000 then some (1000,ys.length::p)else none|none=>g a)=_;rw[e];exact Â rfl) o
   exact this
 .cases z:g' a with
  |none=>rw[z]at e;exact A.lab a i p e
  |some l=>exact h0 a (hn a l z)
def UI.turn2{d:D}(T:UI X.K F1 J ds)(R:cS X.K Z ow F H σ δ)(s:aM F1 F)(y:J.yld i H x H')(e:ds[i]?=some d):∃F',aM F F'/\cS X.K Z ow F' H' σ δ/\bG X.K F' d x/\∀a o,H a=some o->F a=none->H' a=some o/\F' a=none:=by
 rcases T.yld i H x H' d (s.trans' R.sub) y e with ⟨rfl,r⟩|⟨p,o,hp,rfl,r⟩
 .exact⟨F,aM.refl _,R,s.rep _ _ r,λa o z1 z2=>⟨z1,z2⟩⟩
 .have fp:=R.fnone hp
  refine⟨aY F p o,cI fp o,R.laid hp,r F s fp,λa u z1 z2=>?_⟩;have:a≠p:=λz=>by rw[z,hp]at z1;cases z1
  rw[aH this,aH this];exact⟨z1,z2⟩
def QP(hz:∀i,ow.getD i 0=0)(i:Nat):'n'.getD i 0=0:=by
 by_cases h:i<k
 .rw[Ë,ó (by simpa using h),Ą]
  split<;>rfl
 .obtain⟨j,rfl⟩:∃j,i=j+k:=⟨i-k,∅⟩
  rw[lV];exact hz j
def HL(h:ow.all (· == 0)=true)(i:Nat):ow.getD i 0=0:=by
 by_cases hl:i<ow.length
 .have:=é.mp h ow[i] (ý hl)
  rw[Ë,Ê hl];simpa using this
 .rw[Ë,à (by exact ã.mp ‹_›)];rfl
def B4{set:D->DS->Option DS}(m:Nat)(hkd:kd (n+1)=0)(hch:∀k,ch (n+1) k=n)(S:aS Z ow)(Sk:aS (Z.sh k) 'n')(hz:∀i,ow.getD i 0=0)(hs:Ċ X (Z.sh k) 'n' k gt set)(q:tD X Z ow (n+1) (dY k set fi dZ fe) σ H Q):M4 k (tI X Z ow fi) gt (λ_ H Q=>Q true H) (λσ H Q=>∃F0,Ĝ X (i9 F0 H σ m) 'k' n fe σ H Q) σ H Q:=by
 let⟨F,δ,R,q⟩:=q;unfold dY at q;sleep 3;cases e1:fi δ with
 |stuck=>rw[e1]at q;sleep 4
 |err x δ1=>rw[e1]at q;exact q
 |ok ds δ1=>
  rw[e1]at q;simp![Res.bind]at q;intro J H1 F1 R1 s1 T;have hcase:∃acc δ2,bU set dZ fe ds [] (List.replicate k none++δ1)=.ok acc δ2/\k<=δ2.length/\kD X Z ow (n+1) (.ok (.list acc) (δ2.drop k)) F σ Q:=by
   cases e2:bU set dZ fe ds [] (List.replicate k none++δ1)with
   |stuck=>rw[e2]at q;sleep 4
   |err x δ2=>rw[e2]at q;sleep 4
   |ok acc δ2=>
    rw[e2]at q;dsimp only at q;split at q
    .rename_i hk;exact⟨acc,δ2,rfl,hk,q⟩
    .sleep 4
  let⟨acc,δ2,e2,hk2,q⟩:=hcase;have hz':∀i,'n'.getD i 0=0:=QP hz;refine⟨λi m ys σ' H'=>m=ds.length-i/\i<=ds.length/\σ'.length=σ.length+k/\(∀i,σ'[i+k]?=σ[i]?)/\∃F2 δ' acc' ga,cS X.K (Z.sh k) 'n' F2 H' σ' δ'/\aM F1 F2/\HK X.K Z.H0 F2 H' ga n acc' ys/\bU set dZ fe (ds.drop i) acc' δ'=.ok acc δ2,
   ⟨ds.length,rfl,ò _,by simp;exact Nat.add_comm _ _,λi=>by rw[ç 'f',ï,đ],F1,_,[],λ_=>none,R1.sh S,aM.refl _,⟨rfl,λk d v e=>(by cases e),λa i p e=>(by cases e)⟩,e2⟩,?_⟩
  rintro i m' ys σ2 H2 ⟨rfl,hi,hl2,hσ2,F2,δ',acc',ga,R2,s2,A2,e3⟩;by_cases hlt:i<ds.length
  .have ed:=Ê hlt
   have ee:ds.drop i=ds[i]::ds.drop (i+1):=ÿ hlt;rw[ee]at e3;unfold bU at e3;cases e4:set ds[i] δ' with
   |none=>simp![e4]at e3;cases e3
   |some δ3=>
    simp![e4]at e3;have e3':((fe δ3).bind λy δ3=>if acc'.length<sizeLine then bU set dZ fe (ds.drop (i+1)) (acc'++[y]) δ3 else .stuck)=.ok acc δ2:=e3;cases e6:fe δ3 with
    |stuck=>rw[e6]at e3';cases e3'
    |err x δ5=>rw[e6]at e3';cases e3'
    |ok yd δ5=>
     rw[e6]at e3';simp![Res.bind]at e3';split at e3'
     .rename_i small
      refine .inr ⟨T.go i H2 (s2.trans' R2.sub) hlt,by rw[<- A2.len];exact small,λzs σ'' H''=>σ''.length=σ.length+k/\(∀i,σ''[i+k]?=σ[i]?)/\∃F3 δ' acc' ga,cS X.K (Z.sh k) 'n' F3 H'' σ'' δ'/\aM F1 F3/\HK X.K Z.H0 F3 H'' ga n acc' zs/\bU set dZ fe (ds.drop (i+1)) acc' δ'=.ok acc δ2,λzs σ'' H'' z=>⟨ds.length-(i+1),∅,rfl,hlt,z⟩,λx H3 y=>?_⟩
      let⟨F3,s3,R3,r3,k3⟩:=T.turn2 R2 s2 y ed;refine hs F3 H3 σ2 δ' δ3 ds[i] x _ R3 r3 e4 λσ3 R4 l3 _ hσ3=>?_;dsimp only;rw[Â rfl];refine⟨F3,F3,δ3,R4.enter hz',?_⟩;rw[e6];rintro yv H6 F6 ⟨g6,R6,o6⟩ s6;have hl3:σ3.length=σ.length+k:=by exact Eq.trans ‹_› ‹_›
      have hσ4:∀i,σ3[i+k]?=σ[i]?:=λi=>(hσ3 i).trans (hσ2 i);have A3:=A2.keep s3 k3;let⟨ga',A4⟩:=A3.add R6 o6 λa ha=>by
       cases z:Z.H0 a with
       |none=>rfl
       |some u=>
        let⟨g4,R4⟩:=R4;exact absurd ha (R4.there a (by show Z.H0 a≠none;rw[z];simp))
      exact⟨hl3,hσ4,F6,δ5,acc'++[yd],ga',R4.leave hz' R6,s2.trans' (s3.trans' s6),A4,e3'⟩
     .cases e3'
  .have e:i=ds.length:=by lia
   subst e;rw[List.drop_length]at e3;unfold bU at e3;cases e3;refine .inl ⟨T.stop H2 (s2.trans' R2.sub),λp hp=>?_⟩;have R7:cS X.K Z ow F2 H2 σ (δ2.drop k):=R2.unsh S Sk hσ2 hl2 hk2;have fp:=R7.fnone hp;have zp:Z.H0 p=none:=by
    cases z:Z.H0 p with
    |none=>rfl
    |some u=>
     let⟨g4,R4⟩:=R7;exact absurd hp (R4.there p (by rw[z];simp))
   refine q _ _ F2 ⟨λb=>if b=p then some (1000,[])else ga b,(R7.reg hz λa i q e=>?_).grow (cI hp _),?_⟩ (s1.trans' s2)
   .split at e
    .rename_i z;rw[z];exact zp
    .exact A2.lab a i q e
   .refine bC.mkL (hk:=hkd) (hm:=hch) ⟨p,acc,ys,rfl,rfl,Â rfl,aP,fp,A2.len,λk d v z1 z2=>?_⟩
    refine bC.keep 'm' (λa q o y1 y2 y3=>?_) (A2.own k d v z1 z2);have:a≠p:=λz=>by rw[z,hp]at y2;cases y2
    rw[aH this];exact⟨by rw[Ä this];exact y1,y2,y3⟩
def QQ{set:D->DS->Option DS}(m:Nat)(S:aS Z ow)(Sk:aS (Z.sh xs.length) 'h')(hc:X.calm=true)(hi:DI X Z ow tg iter fi)(hg:∀C fp s H,PG 'g' tg gt)(hs:Ċ X (Z.sh xs.length) 'h' xs.length gt set)(he:∀C fp s H,∀F1 H1 σ1,DE 'g' (i9 F1 H1 σ1 m) 'k' n elt fe)(hz:↥(ow.all (· == 0)=true))(hkd:↥(kd (n+1)=0))(hch: ~~~(∀k,ch (n+1) k=n))(hk:↥(scope.kind=.function))(hok:↥(eJ X.N xs scope.names X.env.scope.names=true))(hfs: ~~~(Zfi iter X.env)):
  DE X Z ow (n+1) (.ListComp elt [⟨tg,iter,[],0⟩] scope pos) (dY xs.length set fi dZ fe):=
 PE.mono (GX (ti:=λ_ H Q=>Q true H) (te:=λσ H Q=>∃F0,Ĝ X (i9 F0 H σ m) 'k' n fe σ H Q) hc hi hg (λC fp s H=>DR) (λC fp s H À s' σ H' Q I zQ=>by let⟨F0,h⟩:=zQ;exact he C fp s H F0 H' σ À s' σ H' Q I (NF (X:=X) (X':=aV X xs scope C fp s H) rfl h)) hk hok hfs)
  λ_ _ _ q=>B4 m hkd hch S Sk (HL hz) hs q
def p8(i:Nat){x:Str}{pos' spos:Pos}{set:D->DS->Option DS}(m:Nat)(S:aS Z ow)(Sk:aS (Z.sh xs.length) 'h')(hc:X.calm=true)(hN:X.N.Nodup)(hi:DI X Z ow tg iter fi)(hg:∀C fp s H,PG 'g' tg gt)(hs:Ċ X (Z.sh xs.length) 'h' xs.length gt set)(he:∀C fp s H,∀F1 H1 σ1,DE 'g' (i9 F1 H1 σ1 m) 'k' n elt fe)(hz:↥(ow.all (· == 0)=true))(hkd:↥(kd (n+1)=0))(hch: ~~~(∀k,ch (n+1) k=n))(hx:↥'q')(hl:↥(X.env.scope.names.lookup x=some .local))(hps:↥(Z.ps.contains i=false))(hlo:⇑(i<ow.length))(hsw:↥(swapsWith (.ListComp elt [⟨tg,iter,[],0⟩] scope pos) (some (.Name x pos')) spos.line X.env=pure true))(hk:↥(scope.kind=.function))(hok:↥(eJ X.N xs scope.names X.env.scope.names=true))(hfs: ~~~(Zfi iter X.env)):
  xK X Z ow (ow.set i (n+1)) ol ox rm (.Assign [.Name x pos'] (.ListComp elt [⟨tg,iter,[],0⟩] scope pos) spos) (cE i (dY xs.length set fi dZ fe)):=
 PS.mono (r9 (ti:=λ_ H Q=>Q true H) (te:=λσ H Q=>∃F0,Ĝ X (i9 F0 H σ m) 'k' n fe σ H Q) hc hN hx hl hi hg (λC fp s H=>DR) (λC fp s H À s' σ H' Q I zQ=>by let⟨F0,h⟩:=zQ;exact he C fp s H F0 H' σ À s' σ H' Q I (NF (X:=X) (X':=aV X xs scope C fp s H) rfl h)) hsw hk hok hfs)
  λDn σ H h=>B4 m hkd hch S Sk (HL hz) hs (DX S (dA hps) hlo h)
end
end L2
namespace L2
open PySem PySem.Spec
section
def VU(ow:ZH)(i:Nat)(o:Option (ZL))(k:D)(op:ZI->ZI->Option (D×ZI))(fs:List (M D))(δ:DS)(Q:D->ZO)(_w:Wt Q:=⟨⟩):Prop:=
 ∃ds n j inner,o=some (some 'r')/\k=.int n/\lN ds.length n=some j/\ds[j]?=some (.list inner)/\aW (bD fs) (KJ ow δ) λargs _=>∃ret inner',op inner args=some (ret,inner')/\Q ret (δ.set i (some (.list (ds.set j (.list inner')))))
def LL:aW (p7 ow i fk op fs) δ Q=aW fk δ λk _=>VU ow i δ[i]? k op fs δ Q:=by
 refine propext ⟨λh=>?_,λh=>?_⟩
 .obtain⟨d,δ1,e,q⟩:=h.ex
  let⟨ds,n,δ2,j,inner,args,δ3,inner',e1,e2,e3,e4,e5,e6,rfl⟩:=HI e;exact aW.of e2 ⟨ds,n,j,inner,e1,rfl,e3,e4,aW.of e5 ⟨d,inner',e6,q⟩⟩
 .obtain⟨k,δ2,e2,q⟩:=h.ex
  let⟨ds,n,j,inner,e1,rfl,e3,e4,w⟩:=q;let⟨args,δ3,e5,ret,inner',e6,q⟩:=w.ex;refine aW.of (a:=ret) (δ1:=δ.set i (some (.list (ds.set j (.list inner'))))) ?_ q;unfold p7;rw[e1];dsimp only;rw[e2];dsimp only;rw[e3];dsimp only;rw[e4];dsimp only;rw[e5];dsimp only;rw[e6]
def VV(o:Option (D×ZI))(ds:ZI)(j i:Nat)(δ:DS)(Q:D->ZO)(_w:Wt Q:=⟨⟩):Prop:=∃ret inner',o=some (ret,inner')/\Q ret (δ.set i (some (.list (ds.set j (.list inner')))))
def LM{ds inner:ZI}(e3:lN ds.length n=some j)(e4:ds[j]?=some (.list inner)):VU ow i (some (some 'r')) (.int n) op fs δ Q=aW (bD fs) (KJ ow δ) λargs _=>VV (op inner args) ds j i δ Q:=by
 unfold VU VV;refine propext ⟨λh=>?_,λh=>?_⟩
 .obtain⟨ds',n',j',inner',h1,h2,h3,h4,w⟩:=h
  cases h1;cases h2;rw[e3]at h3;cases h3;rw[e4]at h4;cases h4;exact w
 .exact⟨ds,n,j,inner,rfl,rfl,e3,e4,h⟩
def qQ{d:D}:VV (G5 l [d]) ds j i δ Q=(l.length<sizeLine/\Q .none (δ.set i (some (.list (ds.set j (.list (l++[d]))))))):=by
 refine propext ⟨λzQ=>?_,λzQ=>by let⟨h,p⟩:=zQ;exact ⟨_,_,Â h,p⟩⟩;let⟨r,d2,h,p⟩:=zQ;unfold G5 at h;dsimp only at h;split at h
 .rename_i hc;cases h;exact⟨hc,p⟩
 .cases h
end
end L2
namespace L2
open PySem PySem.Spec PyProof.Rows
def VW{K:ZC}:qI P w K mg base CX k f fd pn (SO K pn ps owp rm λ_=>.stuck):=
 ⟨λvs H Q E h=>h.1,λA outer s H args us vs Q E hr he hb hv hs=>by
  let⟨_,F,g,ds,_,_,_,_,_,q⟩:=hs;exact q.elim⟩
end L2
namespace L2
open PySem PySem.Spec
end L2
namespace L2
open PySem PySem.Spec PyProof.Rows
section
variable {X:Cx}{Z:cB}{ow:ZH}{a b:Expr}{f k:M D}{pos:Pos}
def aID(K:ZC):V->List V->Hp->VK->Prop:=λx vs H Q=>∃p xs y j,x=.ref p/\vs=[y]/\eV K H p xs/\mR y=true/\xs.all mR=true/\xs.findIdx? (λz=>MZ z y)=some j/\Q (.int j) H
def aB3(r:bJ xs us)(h:i<us.length):∃h':i<xs.length,bI xs[i] us[i]:=by
 have e:=r.length;have h':i<xs.length:=by exact ð ‹_› (Eq.symm ‹_›)
 let⟨u,e1,e2⟩:=r.get (Ê h');rw[Ê h]at e1;cases e1;exact⟨h',e2⟩
def VX:ę X "list.index" (aID X.K):=by
 intro À s σ H x vs v us Q I rx rv h;let⟨p,xs,y,j,rfl,rfl,hq,fy,fs,hj,q⟩:=h;cases rx;let⟨u,rfl,ru⟩:=rv.one;let⟨its,r,⟨o,n,e,c,hd,hs⟩,hz⟩:=I.list hq;let⟨oc,od,dt,sl⟩:=o;cases c;cases hd;cases hs;rw[List.findIdx?_eq_some_iff_getElem]at hj;let⟨j1,j2,j3⟩:=hj;have el:=r.length;have hj':j<its.toArray.size:=by rw[è];exact ð ‹_› ‹_›
 have eu:∀(i:Nat)(h:i<its.length)(h':i<xs.length),TL y its[i]=MZ xs[i] y:=λi h h'=>by
  let⟨h2,r2⟩:=aB3 r h;exact K4 r2 (é.mp fs _ (ý h2))
 refine call_meets F.slot_list_index ⟨_,e,rfl⟩ F.entry_list_index (F.args_list_index_2 _ _) (SeqAt.list_indexAt p its.toArray n none sl u (TL y) j hj' ?_ ?_ ?_) ⟨e,λw hw=>rV ru fy r fs w (by simpa using hw),?_⟩
 .have:j<xs.length:=j1
  have hz2:sizeLine<2^62:=by decide
  lia
 .rw[List.getElem_toArray,eu j (by rw[è]at hj';exact hj') j1]
  exact j2
 .intro m hm hlt
  rw[List.getElem_toArray,eu m (by rw[è]at hm;exact hm) (by exact Nat.lt_trans ‹_› ‹_›)];have:=j3 m hlt;simpa using this
 .exact⟨.int j,H,I.tok _,⟨_,rfl⟩,q⟩
def VY:D->D->ZL
 |.list ds,a=>(match EE a,A5 ds with
  |some x,some xs=>(match xs.findIdx? (λy=>MZ y x)with
   |some j=>some (.int j)
   |none=>none)
  |_,_=>none)
 |_,_=>none
def EQ(f k:M D):M D:=λδ=>(f δ).bind λx δ1=>match x with
 |.list ds=>(k δ1).bind λy δ2=>(match VY 'r' y with
  |some z=>.ok z δ2
  |none=>.stuck)
 |_=>.stuck
def HM{p:Pos}(ha:DE X Z ow 0 a f)(hb:DE X Z ow 0 b k)(hbase:↥(attributeBase a "index" X.env (eval a X.env)=eval a X.env))(hfew:↥(((backTo pos (starEach [b] X.env)).all (λx=>!x.1) && (backToKw pos (keywordEach [] X.env)).all (λx=>x.1.isSome)
   && decide ([b].length+([]:List Keyword).length+(if ([]:List Keyword).isEmpty then 0 else 1)<30))=true))(hline:↥((p.endLine == pos.line)=true))(hs:↥(Zse b [] X.env))(hplain:↥(Zbt pos [] X.env)):
  DE X Z ow 0 (.Call (.Attribute a "index" p) [b] [] pos) (EQ f k):=PE.mono (TN PySem.F.plainAttrs_list PySem.F.slot_list_index PySem.F.type_list_index VX ha (eW hb iV hs) hbase hfew hline hs hplain) λσ H Q q=>by
 let⟨F,δ,R,q⟩:=q;unfold EQ at q;sleep 3;cases e:f δ with
 |stuck=>rw[e]at q;sleep 4
 |err x δ1=>rw[e]at q;exact q
 |ok d1 δ1=>
  rw[e]at q;simp![Res.bind]at q;intro x H1 F1 R1 s1;cases d1 with
  |list ds=>
   let⟨l,xs,rfl,hp,hr⟩:=kE R1.rep;dsimp only at q;refine⟨.inl ⟨rfl,xs,R1.rel.sub.seq hp⟩,F1,δ1,R1.rel,?_⟩;cases e2:k δ1 with
   |stuck=>rw[e2]at q;sleep 4
   |err y δ2=>rw[e2]at q;exact iQ.mono q s1
   |ok d2 δ2=>
    rw[e2]at q;simp![Res.bind]at q;intro y H2 F2 R2 s2;have q:kD X Z ow 0 (match (match EE d2,A5 ds with|some x,some xs=>(match xs.findIdx? (λy=>MZ y x)with|some j=>some (PyData.int j)|none=>none)|_,_=>none)with|some z=>.ok z δ2|none=>.stuck) F σ Q:=q;cases e3:EE d2 with
    |none=>rw[e3]at q;sleep 4
    |some v=>
     cases e4:A5 ds with
     |none=>rw[e3,e4]at q;sleep 4
     |some ws=>
      rw[e3,e4]at q;dsimp only at q;let⟨rfl,f1⟩:=sM e3 R2.rep;let⟨rfl,f2⟩:=sN e4 hr;cases e5:xs.findIdx? (λz=>MZ z y)with
      |none=>rw[e5]at q;sleep 4
      |some j=>
       rw[e5]at q;exact⟨l,xs,y,j,rfl,rfl,R2.rel.sub.seq (s2.seq hp),f1,f2,e5,q _ H2 F2 (R2.rel.x fW) (s1.trans' s2)⟩
  |_=>sleep 4
end
end L2
namespace L2
open PySem PySem.Spec
def N8:aW (EQ f k) δ Q=aW f δ λx δ1=>(∃ds,x=.list ds)/\aW k δ1 λy δ2=>vR (VY x y) δ2 Q:=by
 rw[jA];unfold aW EQ SQ;cases f δ with
 |stuck=>rfl
 |err x d=>rfl
 |ok a d=>
  simp![Res.bind];cases a with
  |list ds=>
   dsimp only;cases k d with
   |stuck=>simp[Res.bind]
   |err x d=>simp[Res.bind]
   |ok y d=>simp![Res.bind];cases VY 'r' y<;>simp
  |_=>simp
end L2
namespace L2
open PySem PySem.Spec PyProof.Rows
section
variable {X:Cx}{Z:cB}{ow:ZH}{e:Expr}{f:M D}{pos:Pos}
def p9(T U:Ty)(d:D):ZL:=match gJ T d,gJ U d with
 |some (.bool a),some (.bool b)=>some (.bool (a || b))
 |_,_=>none
def QR:gY X (.builtin "isinstance") (λxs H Q=>∃(x:V)(d:D)(b:Bool)(p:Addr),xs=[x,.ref p]/\H p=some (.tup [.ty Ty.tuple.name,.ty Ty.list.name])/\bG X.K H d x/\p9 .tuple .list d=some (.bool b)/\Q (.bl b) H):=by
 intro À s σ H xs us Q I r h;let⟨x,d,b,p,rfl,hp,rd,hb,q⟩:=h;let⟨u,v,rfl,rx,rc⟩:=TB r;obtain rfl:v=Value.ref p:=rc;let⟨its,ri,⟨o,ho,hc,n,hd⟩,_⟩:=I.tuple (rO.of hp);let⟨t1,t2,e0,r1,r2⟩:=TB ri;obtain rfl:t1=Value.type Ty.tuple.name:=r1;obtain rfl:t2=Value.type Ty.list.name:=r2;subst e0;let⟨oc,od,dt,sl⟩:=o;cases hc;cases hd;cases d with
 |none=>obtain rfl:=nE rd;cases (show u=Value.none from rx);exact W.kia_tup W.kitx_none I.kIn True.intro ho (by cases hb;rfl) (λz=>nomatch z) λtk=>⟨.bl b,H,I.tok tk,rfl,q⟩
 |bool y=>obtain rfl:=jP rd;cases (show u=Value.bool y from rx);exact W.kia_tup W.kitx_bool I.kIn True.intro ho (by cases hb;rfl) (λz=>nomatch z) λtk=>⟨.bl b,H,I.tok tk,rfl,q⟩
 |int i=>obtain rfl:=gG rd;let⟨t,q'⟩:=(show ∃t,u=Value.int i t from rx);cases q';exact W.kia_tup W.kitx_int I.kIn True.intro ho (by cases hb;rfl) (λz=>nomatch z) λtk=>⟨.bl b,H,I.tok tk,rfl,q⟩
 |str i=>obtain rfl:=iY rd;let⟨t,q'⟩:=(show ∃t,u=Value.str i t from rx);cases q';exact W.kia_tup W.kitx_str I.kIn True.intro ho (by cases hb;rfl) (λz=>nomatch z) λtk=>⟨.bl b,H,I.tok tk,rfl,q⟩
 |list ds=>
  let⟨a,xs,rfl,hp,_⟩:=kE rd;cases (show u=Value.ref a from rx);let⟨_,_,⟨o,_,h1,h2,_⟩,_⟩:=I.list hp;exact W.kia_tup W.kitx_list I.kIn ⟨o,h1,h2⟩ ho (by cases hb;rfl) (λz=>nomatch z) λtk=>⟨.bl b,H,I.tok tk,rfl,q⟩
 |tuple ds=>
  let⟨a,xs,rfl,hp,_⟩:=AY rd;cases (show u=Value.ref a from rx);let⟨_,_,⟨o,h1,h2,_⟩,_⟩:=I.tuple hp;exact W.kia_tup W.kitx_tuple I.kIn ⟨o,h1,h2⟩ ho (by cases hb;rfl) (λz=>nomatch z) λtk=>⟨.bl b,H,I.tok tk,rfl,q⟩
 |dict _=>cases hb
def aB4(T U:Ty){p p2 p3 p4:Pos}{c:Nat}(hg:Gl X "isinstance")(hm:X.mg "isinstance"=none)(Z6:Gl X x)(hmt:X.mg x=none)(hbt:bootBuiltins x=some (.type T.name))(hgu:Gl X y)(hmu:X.mg y=none)(hbu:bootBuiltins y=some (.type U.name))(ha:DE X Z ow 0 e f)(hn:⇑(x≠"__name__"))(hd:⇑(Zdb x))(hn2:⇑(y≠"__name__"))(hd2:⇑(Zdb y))(hs:↥(starEach [e,.Tuple [.Name x p2,.Name y p3] c p4] X.env=(false,eval e X.env)::starEach [.Tuple [.Name x p2,.Name y p3] c p4] X.env))(hs2:↥(starEach [.Tuple [.Name x p2,.Name y p3] c p4] X.env=(false,eval (.Tuple [.Name x p2,.Name y p3] c p4) X.env)::starEach [] X.env))(hs3:↥(starEach [.Name x p2,.Name y p3] X.env=(false,eval (.Name x p2) X.env)::starEach [.Name y p3] X.env))(hs4:↥(starEach [.Name y p3] X.env=(false,eval (.Name y p3) X.env)::starEach [] X.env))(hpl:↥((backTo pos (starEach [.Tuple [.Name x p2,.Name y p3] c p4] X.env)).any (·.1)=false))(hT:↥(T=.tuple))(hU:↥(U=.list)):
  DE X Z ow 0 (.Call (.Name "isinstance" p) [e,.Tuple [.Name x p2,.Name y p3] c p4] [] pos) (rP (p9 T U) f):=by
 subst hT hU;exact PE.mono (rS QR hg hm pW (eW ha (eW (TH (eW (TW Z6 hmt hbt hn hd) (eW (TW hgu hmu hbu hn2 hd2) iV hs4) hs3)) iV hs2) hs) ⋯ ⋯ hs hpl) λσ H Q q=>by
  let⟨F,δ,R,q⟩:=q;unfold rP at q;sleep 3;cases e:f δ with
  |stuck=>rw[e]at q;sleep 4
  |err x δ1=>rw[e]at q;exact q
  |ok d δ1=>
   rw[e]at q;simp![Res.bind]at q;intro v H1 F1 R1 s1;have hb:∀r,p9 .tuple .list d=some r->∃b,r=.bool b:=λr h=>by
    unfold p9 at h;split at h
    .cases h;exact⟨_,rfl⟩
    .cases h
   cases e1:p9 .tuple .list d with
   |none=>rw[e1]at q;sleep 4
   |some r=>
    rw[e1]at q;let⟨b,rfl⟩:=hb r e1;refine⟨(by decide:2<=sizeLine),λp hp=>?_⟩;have R2:=R1.rel.laid (o:=.tup [.ty Ty.tuple.name,.ty Ty.list.name]) hp;have fp:=R1.rel.fnone hp;have s2:aM F1 (aY F1 p (.tup [.ty Ty.tuple.name,.ty Ty.list.name])):=cI fp _;exact⟨v,d,b,p,rfl,aP,R2.sub.rep _ _ (s2.rep _ _ R1.rep),e1,q _ _ _ (R2.x iM) (s1.trans' s2)⟩
end
section
variable {a:Expr}
def iN(x:Str)(n:Int):Str:=⟨(List.replicate n.toNat x.cps).foldl (·++·) #[]⟩
def HN :∀(n:Nat)(a:Array Nat),((List.replicate n x).foldl (·++·) a).size=a.size+n*x.size
 |0,a=>by simp
 |n+1,a=>by rw[List.replicate_succ,List.foldl_cons,HN n,Array.size_append,Nat.succ_mul];omega
def jB:(iN x n).length=n.toNat*x.length:=by
 show ((List.replicate n.toNat x.cps).foldl (·++·) #[]).size=_;rw[HN];simp;rfl
def VZ(hx:x.all (·<0x110000)=true):∀(n:Nat)(a:Array Nat),a.all (·<0x110000)=true->((List.replicate n x).foldl (·++·) a).all (·<0x110000)=true
 |0,a,ha=>ha
 |n+1,a,ha=>by
  rw[List.replicate_succ,List.foldl_cons];refine VZ hx n _ ?_;rw[Array.all_append,ha,hx];rfl
def N9(hx:PyData.strOk x=true):PyData.strOk (iN x n)=true:=VZ hx _ _ 'f'
def OA:∀n:Nat,(List.replicate n (#[]:Array Nat)).foldl (·++·) #[]=#[]
 |0=>rfl
 |n+1=>by
  rw[List.replicate_succ,List.foldl_cons,Array.append_empty];exact OA n
def aB5:iU X (binaryOp .Mult) (λx y H Q=>∃i n,x=.str i/\y=.int n/\i.length<=1000/\0<=n/\n<=1000/\Q (.str (iN i n)) H):=by
 sleep 6;let⟨i,n,rfl,rfl,h1,h2,h3,q⟩:=h;let⟨t,rfl⟩:=rx;let⟨t',rfl⟩:=ry;have hm:i.length*n.toNat<=1000*1000:=Nat.mul_le_mul h1 (by omega);have hz:sizeLine=2^24:=rfl;refine PySem.P.mul_str 'i' (λg1 _ g2=>?_) (λ_ _=>?_) ?_
 .have:(1000:Int)<=(2^63-1)/n:=Int.le_ediv_of_mul_le (by omega) (by omega)
  omega
 .unfold Builtin.Str.tooLong
  grind
 .split
  .rename_i g
   have e:n.toNat=0:=by omega
   have e2:iN i n=Str.empty:=by
    unfold iN;rw[e];rfl
   rw[e2]at q;exact⟨⋯,.str Str.empty,H,I.tok _,⟨_,rfl⟩,q⟩
  .split
   .rename_i g
    rw[Bool.or_eq_true,beq_iff_eq,beq_iff_eq]at g;refine⟨.str (iN i n),H,I,⟨t,?_⟩,q⟩;have:iN i n=i:=by
     unfold iN;rcases g with rfl|g
     .simp_all
     .have e:i.cps=#[]:=Array.eq_empty_of_size_eq_zero g
      rw[e,OA,<- e]
    rw[this]
   .refine⟨?_,.str (iN i n),H,I.tok _,⟨_,rfl⟩,q⟩
    have:=jB (x:=i) (n:=n);unfold iN at this
    grind
def ő:D->D->ZL
 |.str i,.int n=>if i.length<=1000/\0<=n/\n<=1000 then some (.str (iN i n))else none
 |_,_=>none
def aB7:pZ X (λx y H Q=>∃i n,x=.str i/\y=.int n/\i.length<=1000/\0<=n/\n<=1000/\Q (.str (iN i n)) H) 0 ő:=λZ ow F H σ δ a b x y d Q S R ra rb e q=>by
 unfold ő at e;split at e
 .rename_i i n
  split at e
  .rename_i hc
   cases e;exact⟨i,n,iY ra,gG rb,hc.1,hc.2.1,hc.2.2,q _ H F (R.x NC) 'm'⟩
  .cases e
 .cases e
def OB(S:aS Z ow)(ha:DE X Z ow 0 a f)(hb:DE X Z ow 0 b h):DE X Z ow 0 (.BinOp a .Mult b pos) (fC ő f h):=vK S aB5 aB7 ha hb
def Ϟ(h1:i.length<=1000)(h2:0<=n)(h3:n<=1000):ő (.str i) (.int n)=some (.str (iN i n)):=Â ⟨h1,h2,h3⟩
end
section
end
section
end
section
variable {X:Cx}{Z:cB}{ow ol ox:ZH}{rm:Nat}{pos:Pos}{F H:Hp}{σ:St}{δ:DS}{g:ZP}{K:ZC}
def bV.forget(R:bV K Z ow g F H σ δ):bV K Z ow g F H σ (δ.set j none):=
 ⟨R.sub,R.f0,R.kept,R.new,R.there,R.lab,by rw[Ö];exact R.len,R.par,λi d e=>by
  by_cases hj:j=i
  .subst hj
   by_cases hl:j<δ.length
   .rw[â hl]at e;cases e
   .rw[à (by rw[Ö];omega)]at e;cases e
  .rw[Ù hj]at e
   exact R.slot i d e⟩
def bV.storeN(R:bV K Z ow g F H σ δ)(hp:j∉Z.ps)(hd:∀d,δ[j]?≠some (some d)):bV K Z ow g F H (σ.set j (some v)) δ:=
 ⟨R.sub,R.f0,R.kept,R.new,R.there,R.lab,by rw[Ö];exact R.len,λi hi=>by
  have:j≠i:=λz=>hp (by rw[z];exact hi);rw[Ù this];exact R.par i hi,λi d e=>by
  have:j≠i:=λz=>by subst z;exact hd d e
  rw[Ù this];exact R.slot i d e⟩
def V0(i j:Nat):M Fl:=λδ=>match δ[i]? with
 |some (some 'r')=>if i≠j/\j<δ.length then .ok .next ((δ.set i (some (.list (List.replicate ds.length (.list []))))).set j none)else .stuck
 |_=>.stuck
def lZ(ds:ZI)(k:Nat):ZI:=List.replicate k (.list [])++ds.drop k
def V1(h:k<ds.length):(lZ ds k).set k (.list [])=lZ ds (k+1):=by
 unfold lZ;rw[List.set_append_right _ _ 'f',ï,Nat.sub_self,ÿ h,List.replicate_succ',List.set_cons_zero,List.append_assoc];rfl
def aIE(i j:Nat){x y:Str}{p1 p2 p3 p4 p5 q:Pos}(hp:PassesOwn 'b' X.A X.env X.xe)(hc:X.calm=true)(hnd:X.N.Nodup)(ho:↥(ow.getD i 0=2))(hps:↥(Z.ps.contains j=false))(hN:↥'q')(hv:#v[AR X.env.scope x])(hd:⇑(Zdb x))(hcd:⇑(Zcd x))(hM:↥(X.N[j]?=some y))(hvy:#v[AR X.env.scope y])(hdy:⇑(Zdb y))(hcdy:⇑(Zcd y))(hl:#v[ć X.env.scope y])(hfn:X.fn y=true\/X.env.scope.names.lookup y=some .local:=by first|exact .inl rfl|exact .inr rfl)(hbase:↥(attributeBase (.Name y p3) "clear" X.env (eval (.Name y p3) X.env)=eval (.Name y p3) X.env))(hline:↥((q.endLine == p4.line)=true))(hsw:↥(swapsWith (.Call (.Attribute (.Name y p3) "clear" q) [] [] p4) none p5.line X.env=pure false))(hfs: ~~~(∀v,foldedSetIterable (.Name x p2) X.env v=pure v)):
  xK X Z ow ow ol ox rm (.For (.Name y p1) (.Name x p2) [.Expr (.Call (.Attribute (.Name y p3) "clear" q) [] [] p4) p5] [] pos) (V0 i j):=
 PS.mono (S5 hp hc (aAG (dM hN hv hd hcd)) (c9 (i:=j) hnd hM hl hfn) (MV (DB (DN PySem.F.plainAttrs_list PySem.F.slot_list_clear PySem.F.type_list_clear GU (dM hM hvy hdy hcdy) hbase hline) hsw)) hfs) λDn σ H h=>by
  let⟨F,δ,⟨g,R⟩,h⟩:=h;unfold V0 at h;split at h
  .rename_i ds e0
   split at h
   .rename_i hnj
    let⟨hne,hj0⟩:=hnj;have hi:i<δ.length:=(Î.mp e0).1;let⟨v,e1,o⟩:=R.slot i _ e0;rw[ho]at o;let⟨a,ds0,vs,q1,q2,q3,q4,q5,q6,q7⟩:=o.lst (m:=1);cases q1;subst q2;refine⟨.ref a,e1,a,rfl,⟨vs,eV.of q4⟩,?_⟩;refine⟨λk m σ' H'=>m=ds.length-k/\k<=ds.length/\σ'[i]?=some (some (.ref a))/\H' a=some (.lst vs)/\bV X.K Z ow g F H' σ' ((δ.set i (some (.list (lZ ds k)))).set j none),⟨ds.length,rfl,ò _,e1,q4,?_⟩,?_⟩
    .have:δ.set i (some (.list (lZ ds 0)))=δ:=by
      have e:lZ ds 0=ds:=by simp[lZ]
      rw[e];exact List.ext_getElem? λn=>by
       by_cases hn:i=n
       .subst hn;rw[â hi,e0]
       .rw[Ù hn]
     rw[this];exact R.forget
    .rintro k m σ2 H2 ⟨rfl,hk,s2,ha,R2⟩
     by_cases hlt:k<ds.length
     .have kv:k<vs.length:=by omega
      refine .inr ⟨⟨vs,vs[k],eV.of ha,Ê kv⟩,λσ' H'=>σ'[i]?=some (some (.ref a))/\H' a=some (.lst vs)/\bV X.K Z ow g F H' σ' ((δ.set i (some (.list (lZ ds (k+1))))).set j none),λσ' H' q=>⟨ds.length-(k+1),by omega,rfl,hlt,q⟩,?_⟩;rintro x H3 ⟨rfl,yx⟩;have ex:=yx vs (eV.of ha);rw[Ê kv]at ex;have ei:((δ.set i (some (.list (lZ ds k)))).set j none)[i]?=some (some (.list (lZ ds k))):=by
       rw[Ù (Í hne),â hi]
      have ck:(lZ ds k).length=ds.length:=by simp[lZ];omega
      let⟨v2,z1,o2⟩:=R2.slot i _ ei;rw[s2]at z1;cases z1;rw[ho]at o2;let⟨a2,ds2,vs2,w1,w2,w3,w4,w5,w6,w7⟩:=o2.lst (m:=1);cases w1;cases w2;rw[ha]at w4;cases w4;let⟨b,inner,ws,y1,y2,y3,y4,y5,y6,y7⟩:=(w7 k _ _ (Ê (by omega)) (Ê kv)).lst (m:=0);have eb:x=.ref b:=by
       have:=Option.some.inj ex;rw[<- this];exact y2
      subst eb;have R3:bV X.K Z ow g F H3 (σ2.set j (some (.ref b))) ((δ.set i (some (.list (lZ ds k)))).set j none):=R2.storeN (dA hps) λd z=>by
       by_cases hl:j<(δ.set i (some (.list (lZ ds k)))).length
       .rw[â hl]at z;cases z
       .rw[à (by rw[Ö];omega)]at z;cases z
      have s3:(σ2.set j (some (.ref b)))[i]?=some (some (.ref a)):=by rw[Ù (Í hne)];exact s2
      have hjl:j<σ2.length:=by
       have:=R2.len;rw[Ö,Ö]at this;omega
      refine⟨.ref b,â hjl,.inl ⟨rfl,ws,eV.of y4⟩,b,ws,rfl,rfl,y4,s3,?_,?_⟩
      .have:a≠b:=λz=>by rw[z,y3]at w3;cases w3
       rw[aH this];exact ha
      .have R4:=R3.rewrite2 ho ei s3 ha (by rw[Ê kv,y2]) (inner':=[]) (vs':=[]) iW
       rw[V1 hlt]at R4;have ee:((δ.set i (some (.list (lZ ds k)))).set j none).set i (some (.list (lZ ds (k+1))))=(δ.set i (some (.list (lZ ds (k+1))))).set j none:=by
        rw[List.set_comm _ _ (Í hne),List.set_set]
       rw[ee]at R4;exact R4
     .have e:k=ds.length:=by omega
      subst e;refine .inl ⟨⟨vs,eV.of ha,by omega⟩,?_⟩;have ec:lZ ds ds.length=List.replicate ds.length (.list []):=by simp[lZ]
      rw[ec]at R2;exact h σ2 H2 F ⟨g,R2⟩ 'm'
   .exact h.elim
  .exact h.elim
end
section
end
def jK(f:Str):ZG->Nat
 |[]=>0
 |g::r=>if g=f then 0 else jK f r+1
def A7(f:Str):ZG->ZG
 |[]=>[f]
 |g::r=>if g=f then g::r else g::A7 f r
def wF{α:Type}(k:Nat)(y:α)(xs:List α):(List α):=if k<xs.length then xs.set k y else xs++[y]
def V2 :∀{fs:ZG},jK f fs<=fs.length
 |[]=>È _
 |g::r=>by
  unfold jK;split
  .exact ò _
  .have:=V2 (f:=f) (fs:=r);rw[Ý];exact Nat.lt_succ_of_le ‹_›
def B5{xs:List α}:wF (k+1) y (x::xs)=x::wF k y xs:=by
 unfold wF;by_cases h:k<xs.length
 .rw[Â (by rw[Ý];exact Nat.succ_lt_succ ‹_›),Â h];rfl
 .rw[Ä (by rw[Ý];lia),Ä h];rfl
def yD{xs:List α}:(wF k y xs).length=if k<xs.length then xs.length else xs.length+1:=by
 unfold wF;split
 .rw[Ö]
 .rw[Ò];rfl
def OC{xs:List α}(h:k<=xs.length)(j:Nat):(wF k y xs)[j]?=if j=k then some y else xs[j]?:=by
 unfold wF;by_cases hk:k<xs.length
 .rw[Â hk]
  by_cases hj:j=k
  .subst hj;rw[Â rfl,â hk]
  .rw[Ä hj,Ù (Í hj)]
 .rw[Ä hk]
  have:k=xs.length:=by lia
  subst this;by_cases hj:j=xs.length
  .subst hj;rw[Â rfl,ç (È _),Nat.sub_self];rfl
  .rw[Ä hj]
   by_cases hl:j<xs.length
   .rw[ó hl]
   .rw[à (by rw[Ò,í];lia),à (by exact ã.mp ‹_›)]
def HP :∀{fs:ZG},(A7 f fs).length=if jK f fs<fs.length then fs.length else fs.length+1
 |[]=>rfl
 |g::r=>by
  unfold A7 jK;by_cases h:g=f
  .rw[Â h,Â h,Â (by rw[Ý];exact ù _)]
  .rw[Ä h,Ä h,Ý,HP (f:=f) (fs:=r),Ý]
   by_cases q:jK f r<r.length
   .rw[Â q,Â (by exact Nat.succ_lt_succ ‹_›)]
   .rw[Ä q,Ä ∅]
def jC :∀{fs:ZG}{vs:List V},fs.length=vs.length->(fs.zip vs).lookup f=vs[jK f fs]?
 |[],[],_=>rfl
 |g::fs,v::vs,h=>by
  rw[á];unfold jK;by_cases e:g=f
  .rw[Â e,å,show (f == g)=true by rw[e];exact beq_self_eq_true _]
   rfl
  .rw[Ä e,å,show (f == g)=false from beq_eq_false_iff_ne.mpr (Í e),List.getElem?_cons_succ]
   exact jC (by simpa using h)
def HQ :∀{fs:ZG}{vs:List V},fs.length=vs.length->kQ f y (fs.zip vs)=(A7 f fs).zip (wF (jK f fs) y vs)
 |[],[],_=>rfl
 |g::fs,v::vs,h=>by
  rw[á];unfold kQ A7 jK;by_cases e:g=f
  .rw[Â e,Â e,Â e];rfl
  .rw[Ä e,Ä e,Ä e,B5,á,HQ (by simpa using h)]
def l0(f:Str):List (D×D)->ZL
 |(.str g,d)::r=>if g=f then some d else l0 f r
 |_=>none
def pN(f:Str):List (D×D)->Nat
 |(.str g,_)::r=>if g=f then 0 else pN f r+1
 |_=>0
def qA(f:Str)(y:D):List (D×D)->List (D×D)
 |(.str g,d)::r=>if g=f then (.str g,y)::r else (.str g,d)::qA f y r
 |_=>[(.str f,y)]
def nK :∀{fs:ZG}{ds:ZI},fs.length=ds.length->l0 f ((fs.map PyData.str).zip ds)=ds[jK f fs]?
 |[],[],_=>rfl
 |g::fs,v::vs,h=>by
  rw[Ð,á];unfold l0 jK;by_cases e:g=f
  .rw[Â e,Â e];rfl
  .rw[Ä e,Ä e,List.getElem?_cons_succ]
   exact nK (by simpa using h)
def sR :∀{fs:ZG}{ds:ZI},fs.length=ds.length->pN f ((fs.map PyData.str).zip ds)=jK f fs
 |[],[],_=>rfl
 |g::fs,v::vs,h=>by
  rw[Ð,á];unfold pN jK;rw[sR (by simpa using h)]
def uO :∀{fs:ZG}{ds:ZI},fs.length=ds.length->qA f y ((fs.map PyData.str).zip ds)=((A7 f fs).map PyData.str).zip (wF (jK f fs) y ds)
 |[],[],_=>rfl
 |g::fs,v::vs,h=>by
  rw[Ð,á];unfold qA A7 jK;by_cases e:g=f
  .rw[Â e,Â e,Â e];rfl
  .rw[Ä e,Ä e,Ä e,B5,Ð,á,uO (by simpa using h)]
def gM(nm f:Str):D->ZL
 |.dict ((.none,.str n)::Á)=>if n=nm then l0 f Á else none
 |_=>none
section
variable {X:Cx}{Z:cB}{ow:ZH}{pos:Pos}{e a c:Expr}{h:M D}{F H:Hp}{g:ZP}{K:ZC}{nm f:Str}
def V3(K:ZC)(nm f:Str):Prop:=∀C,W.nsIn K mainGlobals nm=some (some (.ref C))->SK K C/\lO K C f
def HR:∀{Á:List (D×D)}{fs:ZG},Á.map Prod.fst=fs.map PyData.str->Á=(fs.map PyData.str).zip (Á.map Prod.snd)
 |[],[],_=>rfl
 |(k,d)::Á,g::fs,h=>by
  rw[Ð,Ð]at h;injection h with h1 h2;rw[Ð,Ð,á,<- HR h2];exact congrArg (λk=>(k,d)::Á) h1
def OD{d r:D}(h:bG K F d v)(e:gM nm f d=some r):∃a C dx fs y,v=.ref a/\F a=some (.ins C dx fs)/\W.nsIn K mainGlobals nm=some (some (.ref C))/\fs.lookup f=some y/\bG K F r y:=by
 unfold gM at e;split at e
 .rename_i n Á
  split at e
  .rename_i hn
   subst hn;unfold bG at h;let⟨a,xs,rfl,hh,hr⟩:=h;rcases hh with ⟨nm',fs,C,dx,vs,h1,h2,h3,h4,h5,h6⟩|⟨ms,h1,_⟩
   .subst h1
    rw[Ð]at h2;injection h2 with _ h2;unfold iE at hr;let⟨x,t,hx,r1,r2⟩:=hr;injection hx with hx1 hx2;subst hx2;unfold bG at r1;rw[<- hx1]at r1;injection r1 with r1;subst r1;rw[HR h2]at e;have hl:fs.length=(Á.map Prod.snd).length:=by rw[<- Æ (f:=PyData.str),<- h2,Æ,Æ]
    rw[nK hl]at e;let⟨y,y1,y2⟩:=r2.all.get e;exact⟨a,C,dx,_,y,rfl,h4,h6,by rw[jC h3];exact y1,y2⟩
   .exfalso
    rw[Ð]at h1;cases ms with
    |nil=>cases h1
    |cons m ms=>
     rw[Ð]at h1;injection h1 with h1 _;cases m<;>cases h1
  .cases e
 .cases e
def d9(nm:Str)(hc:V3 X.K nm f)(ha:DE X Z ow 0 e fe)(hb:↥(attributeBase e f X.env (eval e X.env)=eval e X.env)):DE X Z ow 0 (.Attribute e f pos) (rP (gM nm f) fe):=PE.mono (DF ha hb) λσ H Q q=>by
 let⟨F,δ,R,q⟩:=q;unfold rP at q;sleep 3;cases e1:fe δ with
 |stuck=>rw[e1]at q;sleep 4
 |err x δ1=>rw[e1]at q;exact q
 |ok d δ1=>
  rw[e1]at q;simp![Res.bind]at q;intro v H1 F1 R1 s1;cases e2:gM nm f d with
  |none=>rw[e2]at q;sleep 4
  |some r=>
   rw[e2]at q;let⟨a,C,dx,fs,y,rfl,h1,h2,h3,h4⟩:=OD R1.rep e2;let⟨c1,c2⟩:=hc C h2;exact⟨a,C,dx,fs,y,rfl,R1.rel.sub _ _ h1,c1,c2,h3,q y H1 F1 (R1.rel.x h4) s1⟩
def bC.ins{i c:Nat}(h:bC K F H g i c p d v)(hk:kd c=2):
  ∃a nm fs C dx ds vs,d=dS nm fs ds/\v=.ref a/\fs.length=ds.length/\ds.length=vs.length/\W.nsIn K mainGlobals nm=some (some (.ref C))/\g a=some (i,p)/\H a=some (.ins C dx (fs.zip vs))/\F a=none/\g dx=some (i,p++[1000])/\H dx=some (.own a)/\F dx=none /\
   ∀(k:Nat)(d':D)(v':V),ds[k]?=some d'->vs[k]?=some v'->bC K F H g i (ch c k) (p++[k]) d' v':=by
 cases c with
 |zero=>cases hk
 |succ c=>
  let⟨ds,vs,cs,nd,hc,hl,r⟩:=h.open;rw[hk]at nd;let⟨a,nm,fs,C,dx,h1,h2,h3,h4,rfl⟩:=nd;let⟨a1,a2,a3⟩:=hc _ Õ;let⟨b1,b2,b3⟩:=hc _ (Ó _ (ì.mpr rfl));exact⟨a,nm,fs,C,dx,ds,vs,h1,h2,h3,hl,h4,by simpa using a1,a2,a3,b1,b2,b3,r⟩
def bC.mkI{i c:Nat}{p:ZH}{a C dx:Addr}{fs:ZG}{ds:ZI}{vs:List V}(hk:kd c=2)(h3:fs.length=ds.length)(hl:ds.length=vs.length)(h4:W.nsIn K mainGlobals nm=some (some (.ref C)))(a1:g a=some (i,p))(a2:H a=some (.ins C dx (fs.zip vs)))(a3:F a=none)(b1:g dx=some (i,p++[1000]))(b2:H dx=some (.own a))(b3:F dx=none)(r:∀(k:Nat)(d':D)(v':V),ds[k]?=some d'->vs[k]?=some v'->bC K F H g i (ch c k) (p++[k]) d' v'):bC K F H g i c p (dS nm fs ds) (.ref a):=by
 cases c with
 |zero=>cases hk
 |succ c=>
  refine bC.shut (ds:=ds) (vs:=vs) (cs:=[(a,[],.ins C dx (fs.zip vs)),(dx,[1000],.own a)]) (by rw[hk];exact⟨a,nm,fs,C,dx,rfl,rfl,h3,h4,rfl⟩) (λx hx=>?_) hl r
  rcases Ï.mp hx with z|z
  .subst z;exact⟨by simpa using a1,a2,a3⟩
  .rw[ì.mp z];exact⟨b1,b2,b3⟩
def HS(i c:Nat)(nm f:Str):M D:=λδ=>match δ[i]? with
 |some (some (.dict ((.none,.str n)::Á)))=>if n=nm/\ch c (pN f Á)=0 then (match l0 f Á with
  |some r=>.ok r δ
  |none=>.stuck)else .stuck
 |_=>.stuck
def oY{n:Str}{Á:List (D×D)}(h:(PyData.dict ((.none,.str n)::Á):D)=dS nm fs ds):n=nm/\Á=(fs.map PyData.str).zip ds:=by
 unfold dS at h;injection h with h;injection h with h1 h2;injection h1 with _ h1;injection h1 with h1;exact⟨h1,h2⟩
def oZ(i:Nat)(nm:Str){c:Nat}{x:Str}{p:Pos}(hc:V3 X.K nm f)(ho:↥(ow.getD i 0=c))(hk:↥(kd c=2))(hN:↥'q')(hv:#v[AR X.env.scope x])(hd:⇑(Zdb x))(hcd:⇑(Zcd x))(hb:↥(attributeBase 'd' f X.env (eval 'd' X.env)=eval 'd' X.env)):DE X Z ow 0 (.Attribute 'd' f pos) (HS i c nm f):=PE.mono (DF (dM hN hv hd hcd) hb) λσ H Q q=>by
 let⟨F,δ,⟨g,R⟩,q⟩:=q;unfold HS at q;split at q
 .rename_i n Á e0
  split at q
  .rename_i hn
   let⟨rfl,hch⟩:=hn;cases e1:l0 f Á with
   |none=>rw[e1]at q;sleep 4
   |some r=>
    rw[e1]at q;let⟨v,w1,o⟩:=R.slot i _ e0;rw[ho]at o;let⟨a,nm',fs,C,dx,ds,vs,d1,rfl,l1,l2,hC,_,hH,_,_,_,_,hch'⟩:=o.ins hk;let⟨rfl,rfl⟩:=oY d1;rw[nK l1]at e1;rw[sR l1]at hch;have hlt:jK f fs<vs.length:=by have:=(Î.mp e1).1;exact ð ‹_› ‹_›
    have o1:=hch' _ _ _ e1 (Ê hlt);rw[hch]at o1;let⟨c1,c2⟩:=hc C hC;refine⟨_,w1,a,C,dx,_,vs[jK f fs],rfl,hH,c1,c2,?_,q _ H F ⟨g,R,o1⟩ λ_ _ z=>z⟩;rw[jC (by exact Eq.trans ‹_› ‹_›)];exact Ê hlt
  .sleep 4
 .sleep 4
end
section
variable {X:Cx}{Z:cB}{ow ol ox:ZH}{n rm c i:Nat}{pos:Pos}{e:Expr}{fe:M D}{F H:Hp}{σ:St}{δ:DS}{g:ZP}{K:ZC}{nm f:Str}
def LN(S:aS Z ow)(h:ow.getD i 0≠0):i<1000:=by
 by_cases hl:i<ow.length
 .exact Ô hl S.ow
 .exact absurd (by rw[Ë,à (by exact ã.mp ‹_›)];rfl) h
def aLW(hk:kd c=2):c≠0:=λz=>by rw[z]at hk;cases hk
def wM:∀{xs ys:ZG},xs.map PyData.str=ys.map PyData.str->xs=ys
 |[],[],_=>rfl
 |x::xs,y::ys,h=>by
  rw[Ð,Ð]at h;injection h with h1 h2;injection h1 with h1;rw[h1,wM h2]
def gB.putFld(S:aS Z ow)(R:gB K Z ow n d v F H σ δ)(ho:ow.getD i 0=c)(hk:kd c=2)(hd:δ[i]?=some (some (dS nm fs ds)))(hl:fs.length=ds.length)(hs:σ[i]?=some (some (.ref a)))(hch:ch c (jK f fs)=n):
  ∃C dx vs,fs.length=vs.length/\W.nsIn K mainGlobals nm=some (some (.ref C))/\H a=some (.ins C dx (fs.zip vs))/\cS K Z ow F (aY H a (.ins C dx (kQ f v (fs.zip vs)))) σ (δ.set i (some (dS nm (A7 f fs) (wF (jK f fs) d ds)))):=by
 let⟨g,R,oh⟩:=R;let⟨v1,w1,o⟩:=R.slot i _ hd;rw[hs]at w1;cases w1;rw[ho]at o;have i1:i<1000:=LN S (by rw[ho];exact aLW hk);let⟨a',nm',fs',C,dx,ds',vs,d1,ea,l1,l2,hC,a1,a2,a3,b1,b2,b3,hch'⟩:=o.ins hk;cases ea;let⟨rfl,ez⟩:=oY (nm:=nm') (n:=nm) (Á:=(fs.map PyData.str).zip ds) d1;have efs:fs=fs':=by
  have:=congrArg (List.map Prod.fst) ez;rw[Đ (by rw[Æ];exact õ ‹_›),Đ (by rw[Æ];exact õ ‹_›)]at this;exact wM this
 have eds:ds=ds':=by
  have:=congrArg (List.map Prod.snd) ez;rw[ď (by rw[Æ];lia),ď (by rw[Æ];lia)]at this;exact this
 subst efs eds;have hi:i<δ.length:=(Î.mp hd).1;have nda:dx≠a:=λz=>by rw[z,a1]at b1;cases b1
 refine⟨C,dx,vs,by exact Eq.trans ‹_› ‹_›,hC,a2,λb=>match g b with|some (m,p)=>if m=1000 then some (i,jK f fs::p)else some (m,p)|none=>none,λb u e=>?_,R.f0,λb u m e=>?_,R.new,λb z=>?_,λb m p e=>?_,by rw[Ö];exact R.len,R.par,λj d' e=>?_⟩
 .have:b≠a:=λz=>by rw[z,a3]at e;cases e
  rw[aH this];exact R.sub b u e
 .have:b≠a:=λz=>by
   subst z;rcases R.lab b i [] a1 with w|⟨q,w⟩
   .rw[w]at e;cases e
   .rw[w]at m;cases m
  rw[aH this];exact R.kept b u m e
 .by_cases hb:b=a
  .subst hb;rw[aP];simp
  .rw[aH hb];exact R.there b z
 .cases eg:g b with
  |none=>rw[eg]at e;cases e
  |some l=>
   let⟨m',p'⟩:=l;rw[eg]at e;dsimp only at e;split at e
   .rename_i hm
    subst hm;rcases R.lab b 1000 p' eg with w|⟨q,w⟩
    .exact .inl w
    .exact absurd (Z.wf b 1000 q w) S.ps
   .cases e;exact R.lab b m p eg
 .have rl:∀{m:Nat},m≠1000->∀b p,g b=some (m,p)->(match g b with|some (m,p)=>if m=1000 then some (i,jK f fs::p)else some (m,p)|none=>none)=some (m,p):=λhm b p e=>by rw[e];exact Ä hm
  by_cases hj:j=i
  .subst hj
   rw[â hi]at e;cases e;refine⟨_,hs,?_⟩;rw[ho];have ile:jK f fs<=ds.length:=by have:=V2 (f:=f) (fs:=fs);lia
   refine bC.mkI (C:=C) (dx:=dx) (vs:=wF (jK f fs) v vs) hk ?_ ?_ hC (rl (by exact Ì ‹_›) _ _ a1) (by rw[aP,HQ (by exact Eq.trans ‹_› ‹_›)]) a3 (rl (by exact Ì ‹_›) _ _ b1) (by rw[aH nda];exact b2) b3 λk d' v' z1 z2=>?_
   .rw[HP,yD,hl]
   .rw[yD,yD,l2]
   .rw[OC ile]at z1
    rw[OC ∅]at z2;by_cases hk':k=jK f fs
    .subst hk'
     rw[Â rfl]at z1 z2;cases z1;cases z2;rw[hch];have:=bC.relabP (q:=[jK f fs]) (j:=j) (g':=λb=>match g b with|some (m,p)=>if m=1000 then some (j,jK f fs::p)else some (m,p)|none=>none) (λb p e=>by rw[e];exact Â rfl) (bC.updNe (o:=.ins C dx (kQ f v (fs.zip vs))) a1 (.inl (by exact Ü ‹_›)) oh);rw[ô]at this;exact this
    .rw[Ä hk']at z1 z2
     refine bC.relab (rl (by exact Ì ‹_›)) (bC.updNe a1 (.inr λw=>?_) (hch' k d' v' z1 z2));let⟨t,ht⟩:=w;cases ht
  .rw[Ù (Í hj)]at e
   let⟨v',e1,o'⟩:=R.slot j d' e;refine⟨v',e1,?_⟩;by_cases hz:ow.getD j 0=0
   .rw[hz]at o'⊢;exact o'
   .have j1:j<1000:=LN S hz
    exact bC.relab (rl (by exact Ì ‹_›)) (bC.updNe a1 (.inl hj) o')
def sS(i c n:Nat)(nm f:Str)(fe:M D):M Fl:=λδ=>(fe δ).bind λy δ1=>match δ1[i]? with
 |some (some (.dict ((.none,.str m)::Á)))=>if m=nm/\ch c (pN f Á)=n/\Á.length<1000 then .ok .next (δ1.set i (some (.dict ((.none,.str m)::qA f y Á))))else .stuck
 |_=>.stuck
def HU{Á:List (D×D)}(R:bV K Z ow g F H σ δ)(ho:ow.getD i 0=c)(hk:kd c=2)(hd:δ[i]?=some (some (.dict ((.none,.str m)::Á)))):∃(a:Addr)(fs:ZG)(ds:ZI),Á=(fs.map PyData.str).zip ds/\fs.length=ds.length/\σ[i]?=some (some (.ref a)):=by
 let⟨v1,w1,o⟩:=R.slot i _ hd;rw[ho]at o;let⟨a',nm',fs',C,dx,ds',vs,d1,ea,l1,_⟩:=o.ins hk;subst ea;let⟨_,ez⟩:=oY d1;exact⟨a',fs',ds',ez,l1,w1⟩
def nL(i:Nat)(nm:Str){x:Str}{p pos':Pos}(S:aS Z ow)(hc:V3 X.K nm f)(hv:DE X Z ow n e fe)(ho:↥(ow.getD i 0=c))(hk:↥(kd c=2))(hN:↥'q')(hvi:#v[AR X.env.scope x])(hd:⇑(Zdb x))(hcd:⇑(Zcd x))(hs:↥(swapsWith e (some (.Attribute 'd' f pos')) pos.line X.env=pure false)):xK X Z ow ow ol ox rm (.Assign [.Attribute 'd' f pos'] e pos) (sS i c n nm f fe):=PS.mono (aGJ (dM hN hvi hd hcd) hv hs) λDn σ H h=>by
 let⟨F,δ,R,h⟩:=h;unfold sS at h;sleep 3;cases e1:fe δ with
 |stuck=>rw[e1]at h;exact h.elim
 |err y δ1=>rw[e1]at h;exact iQ.cast h
 |ok dv δ1=>
  rw[e1]at h;simp![Res.bind]at h;intro v H1 F1 R1 s1;split at h
  .rename_i m Á e0
   split at h
   .rename_i hh
    let⟨rfl,hch,hlt⟩:=hh;let⟨g1,RG,o1⟩:=R1;let⟨a,fs,ds,rfl,l1,w1⟩:=HU RG ho hk e0;rw[sR l1]at hch;let⟨C,dx,vs,l3,hC,hH,R2⟩:=gB.putFld (f:=f) S ⟨g1,RG,o1⟩ ho hk (show δ1[i]?=some (some (dS m fs ds))from e0) l1 w1 hch;let⟨c1,c2⟩:=hc C hC;rw[ë,Æ]at hlt;refine⟨_,w1,a,C,dx,_,rfl,hH,c1,c2,by rw[ë];lia,?_⟩;rw[uO l1]at h;exact h σ _ F1 R2 s1
   .exact h.elim
  .exact h.elim
end
def OE :∀{fs:ZG},jK f fs<fs.length->A7 f fs=fs
 |g::r,h=>by
  unfold A7;unfold jK at h;by_cases e:g=f
  .rw[Â e]
  .rw[Ä e]at h
   rw[Ä e,OE (by rw[Ý]at h;exact Nat.le_of_lt_succ ‹_›)]
section
variable {X:Cx}{Z:cB}{ow ol ox:ZH}{rm c i:Nat}{pos spos tpos:Pos}{e:Expr}{fk fv:M D}{F H:Hp}{σ:St}{δ:DS}{g:ZP}{K:ZC}{nm f:Str}
def bV.atF(R:bV K Z ow g F H σ δ)(ho:ow.getD i 0=c)(hk:kd c=2)(hd:δ[i]?=some (some (dS nm fs ds)))(hl:fs.length=ds.length)(hch:ch c (jK f fs)=1)(hj:ds[jK f fs]?=some (.list inner)):
  ∃a C dx vs b ws,σ[i]?=some (some (.ref a))/\W.nsIn K mainGlobals nm=some (some (.ref C))/\H a=some (.ins C dx (fs.zip vs))/\fs.length=vs.length/\vs[jK f fs]?=some (.ref b)/\H b=some (.lst ws)/\aE K F inner ws/\g b=some (i,[jK f fs]):=by
 let⟨v1,w1,o⟩:=R.slot i _ hd;rw[ho]at o;let⟨a,nm',fs',C,dx,ds',vs,d1,ea,l1,l2,hC,a1,a2,a3,b1,b2,b3,hch'⟩:=o.ins hk;subst ea;let⟨rfl,ez⟩:=oY (nm:=nm') (n:=nm) (Á:=(fs.map PyData.str).zip ds) d1;have efs:fs=fs':=by
  have:=congrArg (List.map Prod.fst) ez;rw[Đ (by rw[Æ];exact õ ‹_›),Đ (by rw[Æ];exact õ ‹_›)]at this;exact wM this
 have eds:ds=ds':=by
  have:=congrArg (List.map Prod.snd) ez;rw[ď (by rw[Æ];lia),ď (by rw[Æ];lia)]at this;exact this
 subst efs eds;have jl:jK f fs<vs.length:=by have:=(Î.mp hj).1;exact ð ‹_› ‹_›
 have o2:=hch' _ _ _ hj (Ê jl);rw[hch]at o2;let⟨b,inner',ws,y1,y2,y3,y4,y5,y6,y7⟩:=o2.lst (m:=0);cases y1;exact⟨a,C,dx,vs,b,ws,w1,hC,a2,by exact Eq.trans ‹_› ‹_›,by rw[Ê jl,y2],y4,aE.of y6 y7,y3⟩
def bV.rewriteF(R:bV K Z ow g F H σ δ)(ho:ow.getD i 0=c)(hk:kd c=2)(hd:δ[i]?=some (some (dS nm fs ds)))(hl:fs.length=ds.length)(hch:ch c (jK f fs)=1)(hj:ds[jK f fs]?=some (.list inner))(hs:σ[i]?=some (some (.ref a)))(ha:H a=some (.ins C dx (fs.zip vs)))(hb:vs[jK f fs]?=some (.ref b))(hvl:fs.length=vs.length)(hr:aE K F inner' ws'):bV K Z ow g F (aY H b (.lst ws')) σ (δ.set i (some (dS nm fs (ds.set (jK f fs) (.list inner'))))):=by
 let⟨v1,w1,o⟩:=R.slot i _ hd;rw[hs]at w1;cases w1;rw[ho]at o;let⟨a',nm',fs',C',dx',ds',vs',d1,ea,l1,l2,hC,a1,a2,a3,b1,b2,b3,hch'⟩:=o.ins hk;cases ea;let⟨rfl,ez⟩:=oY (nm:=nm') (n:=nm) (Á:=(fs.map PyData.str).zip ds) d1;have efs:fs=fs':=by
  have:=congrArg (List.map Prod.fst) ez;rw[Đ (by rw[Æ];exact õ ‹_›),Đ (by rw[Æ];exact õ ‹_›)]at this;exact wM this
 have eds:ds=ds':=by
  have:=congrArg (List.map Prod.snd) ez;rw[ď (by rw[Æ];lia),ď (by rw[Æ];lia)]at this;exact this
 subst efs eds;rw[ha]at a2;injection a2 with a2;injection a2 with q1 q2 q3;subst q1 q2;have evs:vs=vs':=by
  have:=congrArg (List.map Prod.snd) q3;rw[ď ∅,ď ∅]at this;exact this
 subst evs;have jl:jK f fs<vs.length:=(Î.mp hb).1;have o2:=hch' _ _ _ hj hb;rw[hch]at o2;let⟨b',inner0,ws,y1,y2,y3,y4,y5,y6,y7⟩:=o2.lst (m:=0);cases y1;cases y2;have y3:g b=some (i,[jK f fs]):=y3;have hi:i<δ.length:=(Î.mp hd).1;have nab:a≠b:=λz=>by rw[z,y3]at a1;cases a1
 have hne:dx≠b:=λz=>by rw[z,y4]at b2;cases b2
 refine⟨λb' u e=>?_,R.f0,λb' u n e=>?_,R.new,λb' z=>?_,R.lab,by rw[Ö];exact R.len,R.par,λk d e=>?_⟩
 .have:b'≠b:=λz=>by rw[z,y5]at e;cases e
  rw[aH this];exact R.sub b' u e
 .have:b'≠b:=λz=>by
   subst z;rcases R.lab b' i _ y3 with w|⟨q,w⟩
   .rw[w]at e;cases e
   .rw[w]at n;cases n
  rw[aH this];exact R.kept b' u n e
 .by_cases hb':b'=b
  .subst hb';rw[aP];simp
  .rw[aH hb'];exact R.there b' z
 .by_cases hki:k=i
  .subst hki
   rw[â hi]at e;cases e;refine⟨_,hs,?_⟩;rw[ho];refine bC.mkI (C:=C) (dx:=dx) (vs:=vs) hk (by rw[Ö];exact hl) (by rw[Ö];exact l2) hC a1 (by rw[aH nab];exact ha) a3 b1 (by rw[aH hne];exact b2) b3 λl d' v' z1 z2=>?_;by_cases hlq:jK f fs=l
   .subst hlq
    rw[â (by exact ð ‹_› (Eq.symm ‹_›))]at z1;cases z1;rw[hb]at z2;cases z2;rw[hch];exact bC.mkL (m:=0) ⟨b,inner',ws',rfl,rfl,y3,aP,y5,hr.len,λk d' v' z1 z2=>hr.both k d' v' z1 z2⟩
   .rw[Ù hlq]at z1
    refine bC.updNe y3 (.inr λz=>?_) (hch' l d' v' z1 z2);have z:[l] <+: [jK f fs]:=z;let⟨t,ht⟩:=z;injection ht with h1 _;exact hlq h1.symm
  .rw[Ù (Í hki)]at e
   let⟨v,e1,o⟩:=R.slot k d e;exact⟨v,e1,bC.updNe y3 (.inl hki) o⟩
def sT(i c:Nat)(nm f:Str)(fk fv:M D):M Fl:=λδ=>(fv δ).bind λv δ1=>match δ1[i]?,fk δ1 with
 |some (some (.dict ((.none,.str m)::Á))),.ok (.int k) _=>if m=nm/\ch c (pN f Á)=1 then (match l0 f Á with
  |some 'r'=>(match lN ds.length k with
   |some j=>.ok .next (δ1.set i (some (.dict ((.none,.str m)::qA f (.list (ds.set j v)) Á))))
   |none=>.stuck)
  |_=>.stuck)else .stuck
 |_,_=>.stuck
def B6(i m:Nat)(nm:Str){x:Str}{p p2:Pos}(S:aS Z ow)(hc:V3 X.K nm f)(hv:DE X Z ow 0 ev fv)(hk:∀F H σ,DE X (i9 F H σ m) 'k' 0 ek fk)(ho:↥(ow.getD i 0=c))(hkd:↥(kd c=2))(hN:↥'q')(hvi:#v[AR X.env.scope x])(hd:⇑(Zdb x))(hcd:⇑(Zcd x))(hb:↥(attributeBase 'd' f X.env (eval 'd' X.env)=eval 'd' X.env))(ha: ~~~(∀v,assign (.Subscript (.Attribute 'd' f p2) ek tpos) X.env v=(do
   let ov <- holding [v] (eval (.Attribute 'd' f p2) X.env);let iv <- holding [v,ov] (eval ek X.env)
   standAt tpos
   holding [v,ov,iv] (setItem ov iv v)
   release [v,ov,iv] [])))(hs:↥(swapsWithSole [.Subscript (.Attribute 'd' f p2) ek tpos] ev spos.line X.env=pure false))(hw:↥(swappedStores [.Subscript (.Attribute 'd' f p2) ek tpos] ev X.env=pure none))(h1:↥((assignEach [.Subscript (.Attribute 'd' f p2) ek tpos] X.env).map (·.2)=[assign (.Subscript (.Attribute 'd' f p2) ek tpos) X.env])):
  xK X Z ow ow ol ox rm (.Assign [.Subscript (.Attribute 'd' f p2) ek tpos] ev spos) (sT i c nm f fk fv):=PS.mono (S1 hv (S0 (DF (dM hN hvi hd hcd) hb) (LK m hk) GT ha) hs hw h1) λDn σ H h=>by
 let⟨F,δ,R,h⟩:=h;unfold sT at h;sleep 3;cases e1:fv δ with
 |stuck=>rw[e1]at h;exact h.elim
 |err y δ1=>rw[e1]at h;exact iQ.cast h
 |ok dv δ1=>
  rw[e1]at h;simp![Res.bind]at h;rintro v H1 F1 ⟨g,R1,ov⟩ s1;have ov:bG X.K F1 dv v:=ov;split at h
  .rename_i mm Á k δ2 e0 ek0
   split at h
   .rename_i hh
    let⟨rfl,hch⟩:=hh;split at h
    .rename_i ds eds
     split at h
     .rename_i j ej
      let⟨a0,fs,dd,rfl,l1,w1⟩:=HU R1 ho hkd e0;rw[sR l1]at hch;rw[nK l1]at eds;let⟨a,C,dx,vs,b,ws,q1,hC,q2,q3,q4,q5,q6,q7⟩:=R1.atF ho hkd (show δ1[i]?=some (some (dS mm fs dd))from e0) l1 hch eds;let⟨c1,c2⟩:=hc C hC;refine⟨_,q1,a,C,dx,_,.ref b,rfl,q2,c1,c2,by rw[jC q3];exact q4,KI g F1 H1,KI g F1 H1,δ1,R1.bor,?_⟩;rw[ek0];rintro kv H2 F2 ⟨g2,R2,o2⟩ s2;have evk:kv=.int k:=by
       have o2:bG X.K F2 (.int k) kv:=o2;unfold bG at o2;exact o2
      subst evk;have hsame:aM H1 H2:=λb o e=>R2.kept b o rfl e;have R3:=R1.grow hsame;refine⟨b,ws,k,j,rfl,rfl,hsame _ _ q5,by rw[<- q6.len];exact ej,?_⟩;have R4:=R3.rewriteF (f:=f) ho hkd (show δ1[i]?=some (some (dS mm fs dd))from e0) l1 hch eds q1 (hsame _ _ q2) q4 q3 (q6.set j ov);have hlt:jK f fs<dd.length:=(Î.mp eds).1;rw[uO l1,OE (by exact ð ‹_› (Eq.symm ‹_›)),show wF (jK f fs) (PyData.list (ds.set j dv)) dd=dd.set (jK f fs) (.list (ds.set j dv))from Â hlt]at h;exact h σ _ F1 ⟨g,R4⟩ s1
     .exact h.elim
    .exact h.elim
   .exact h.elim
  .exact h.elim
def V4(C:Addr)(m:Str)(sp:Sp)(E:St->XK)(ta:TE)(t:TA):TE:=λσ H Q=>ta σ H λx H1=>∃a dx fs,x=.ref a/\H1 a=some (.ins C dx fs)/\fs.lookup m=none/\t σ H1 λvs H2=>sp (x::vs) H2 Q (E σ)
def V5{pl:Sem Bool}{apos:Pos}(he:PE X o ta)(c:SK X.K C)(hm:ľ X.K C m fa)(Fk:qI X.prog X.w X.K X.mg X.base (AW X.prog X.w X.K) k fa fd pn sp)(hr:fD k X.A)(hb:pV X.K fd pn [])(ha:PA X (e::es) t)(hst:↥(Zse e es X.env))(hpl:↥(Zbt pos es X.env))(ht:↥(eval (.Call (.Attribute o m apos) (e::es) [] pos) X.env=(do
   let ov <- eval o X.env
   standAt apos.atName
   let (f,first) <- holding [ov] (getMethod ov m pl)
   callWith pos f first (backTo pos (starEach (e::es) X.env)) (backToKw pos (keywordEach [] X.env))))):
  PE X (.Call (.Attribute o m apos) (e::es) [] pos) (V4 C m sp (EX X) ta t):=by
 intro À s σ H Q I h;refine W.methodCall_KW (pl:=pl) (cY (he À s σ H _ I h) λu s1 zQ=>?_) ht;let⟨x,H1,I1,rx,a,dx,fs,ex,ea,l,q⟩:=zQ;subst ex;obtain rfl:u=Value.ref a:=rx;refine KR I1 ea c hm l ?_;refine W.callWith_K (first:=[.ref a]) (h₀:=X.base) I.ok.mod.kin hm.kp (cY (ha pos À s1 σ H1 _ I1 q) λus s2⟨vs,H2,I2,r,q2⟩=>⟨I2.kIn,?_⟩) hst hpl;have r2:bJ (V.ref a::vs) (Value.ref a::us):=.cons rfl r;have hl:(Value.ref a::us).length=pn.length:=by rw[<- r2.length];exact Fk.len _ _ _ _ q2
 have hb':=hb s2 (Value.ref a::us) I2.kIn (by rw[ô];exact hl);rw[ô]at hb';refine wpAny_call (codeAny_mono (Fk.run X.A X.stack s2 H2 ⟨Value.ref a::us,[]⟩ (Value.ref a::us) _ Q (EX X σ) hr I2.env0 hb' r2 q2) λr s' hq=>?_);cases r with
 |error e=>
  let⟨nm,a,cls,ch,H',rfl,hn,os,bare,un,hok,x,new,q3⟩:=hq;have I3:Inv X À σ H' s':=I2.call' os un hok bare λb z=>absurd z 'f';exact q3 nm rfl À _ s' I3 ⟨a,cls,ch,rfl,hn,x,λb hb=>pY.of I2 (new b hb).1 (new b hb).2⟩
 |ok fl=>
  cases fl with
  |ret u=>exact I2.after hq
  |next=>exact False.elim hq
  |brk=>exact False.elim hq
  |cont=>exact False.elim hq
def yE(i:Nat)(nm m:Str)(fn:ZI->Res D)(as:List Arg):M D:=λδ=>match δ[i]? with
 |some (some (.dict ((.none,.str n)::Á)))=>if n=nm/\l0 m Á=none then bP fn (.own i::as) δ else .stuck
 |_=>.stuck
def QS{fs:ZG}{ds:ZI}{vs:List V}(l1:fs.length=ds.length)(l2:fs.length=vs.length)(h:l0 m ((fs.map PyData.str).zip ds)=none):(fs.zip vs).lookup m=none:=by
 rw[nK l1]at h;rw[jC l2];rw[List.getElem?_eq_none_iff]at h⊢;lia
def Œ(K:ZC)(nm:Str)(C:Addr):Prop:=W.nsIn K mainGlobals nm=some (some (.ref C))/\SK K C
def V6(S:aS Z ow)(hC:Œ X.K nm C)(ho:kd (ow.getD i 0)=2)(hz:T0 Z=true)(hl:as.length+1=pn.length)(hps:fM 0 (.own i::as)=ps)(nd:decide (aU (.own i::as)).Nodup=true)(hm:fF owp ow 0 (.own i::as)=true)(hlt:as.length+1<=1000)(h:tD X Z ow rm (yE i nm m fn as) σ H Q):V4 C m (SO X.K pn ps owp rm fn) (EX X) (SV i) (ł X Z ow as) σ H Q:=by
 let⟨F,δ,R,h⟩:=h;unfold yE at h;split at h
 .rename_i n Á e0
  split at h
  .rename_i hh
   let⟨rfl,hg⟩:=hh;let⟨F0,δ0,R0,h0⟩:=G3 (as:=.own i::as) (pn:=pn) (ps:=ps) (owp:=owp) S hz hl hps nd hm hlt ⟨F,δ,R,h⟩;let⟨g,RG⟩:=R;let⟨v,w1,o⟩:=RG.slot i _ e0;let⟨a,nm',fs,C',dx,ds,vs,d1,rfl,l1,l2,hC',_,hH,_⟩:=o.ins ho;let⟨rfl,rfl⟩:=oY d1;rw[hC.1]at hC';cases hC';refine⟨_,w1,a,dx,_,rfl,hH,QS l1 (by exact Eq.trans ‹_› ‹_›) hg,F0,δ0,R0,?_⟩;unfold cK at h0;split at h0
   .cases e1:cK as δ0 with
    |stuck=>rw[e1]at h0;exact h0.elim
    |err x δ1=>rw[e1]at h0;exact h0
    |ok ods δ1=>
     rw[e1]at h0;exact λus H' F' R' s' z=>h0 (.ref a::us) H' F' R' s' ⟨w1,z⟩
   .exact h0.elim
  .exact h.elim
 .exact h.elim
def aB9(i:Nat){pl:Sem Bool}{x:Str}{p apos:Pos}(S:aS Z ow)(hC:Œ X.K nm C)(hme:ľ X.K C m fa)(Fk:qI X.prog X.w X.K X.mg X.base (AW X.prog X.w X.K) k fa fd pn (SO X.K pn ps owp rm fn))(hr:fD k X.A)(hb:pV X.K fd pn [])(ha:DA X Z ow (e::es) as)(ho:↥(kd (ow.getD i 0)=2))(hz:↥(T0 Z=true))(hl:↥(as.length+1=pn.length))(hps:↥(fM 0 (.own i::as)=ps))(nd:↥(decide (aU (.own i::as)).Nodup=true))(hm:↥(fF owp ow 0 (.own i::as)=true))(hlt:⇑(as.length+1<=1000))(hN:↥'q')(hvi:#v[AR X.env.scope x])(hd:⇑(Zdb x))(hcd:⇑(Zcd x))(hst:↥(Zse e es X.env))(hpl:↥(Zbt pos es X.env))(ht:↥(eval (.Call (.Attribute 'd' m apos) (e::es) [] pos) X.env=(do
   let ov <- eval 'd' X.env
   standAt apos.atName
   let (f,first) <- holding [ov] (getMethod ov m pl)
   callWith pos f first (backTo pos (starEach (e::es) X.env)) (backToKw pos (keywordEach [] X.env))))):
  DE X Z ow rm (.Call (.Attribute 'd' m apos) (e::es) [] pos) (yE i nm m fn as):=PE.mono (V5 (pl:=pl) (dM hN hvi hd hcd) hC.2 hme Fk hr hb ha hst hpl ht) λ_ _ _ h=>V6 S hC ho hz hl hps nd hm hlt h
def V7(C:Addr)(sp:Sp)(E:St->XK)(t:TA):TE:=λσ H Q=>t σ H λvs H1=>∀x dx,H1 x=none->H1 dx=none->dx≠x ->
 sp (.ref x::vs) (aY (aY H1 dx (.own x)) x (.ins C dx [])) (λv H2=>v=.non/\Q (.ref x) H2) (E σ)
def V8{p:Pos}(M:Mk X.K C fa)(Fk:qI X.prog X.w X.K X.mg X.base (AW X.prog X.w X.K) k fa fd pn sp)(hr:fD (k+1) X.A)(hg:Gl X x)(hm:X.mg x=some (.ref C))(hb:pV X.K fd pn [])(ha:PA X (e::es) t)(hdb:⇑(Zdb x))(he:↥(Zse e es X.env))(hpl:↥(Zbt pos es X.env)):
  PE X (.Call 'd' (e::es) [] pos) (V7 C sp (EX X) t):=by
 intro À s0 σ H0 Q I0 h0;refine wpAny_Call_Name_kw (rQ I0 hg hm ?_ hdb);refine W.callWith_K (h₀:=X.base) I0.ok.mod.kin M.kp (cY (ha pos À s0 σ H0 _ I0 h0) λus s⟨vs,H,I,r,h⟩=>⟨I.kIn,?_⟩) he hpl;have hq:=h (s.heap.objs.size+1) s.heap.objs.size (I.hok.fresh (Nat.le_succ _)) (I.hok.fresh (È _)) (Ì (ê _));have I2:=Inv.made (C:=C) I;have r2:bJ (V.ref (s.heap.objs.size+1)::vs) (Value.ref (s.heap.objs.size+1)::us):=.cons rfl r;have hl:(Value.ref (s.heap.objs.size+1)::us).length=pn.length:=by
  have e:=r2.length;rw[Fk.len _ _ _ _ hq]at e;exact e.symm
 have hb':=hb _ (Value.ref (s.heap.objs.size+1)::us) I2.kIn (by rw[ô];exact hl);rw[ô]at hb';refine wpAny_call (TD (f:=fa) I.kIn M.makes M.init (beq_iff_eq.mp M.fn) (codeAny_mono (Fk.run _ X.stack _ _ ⟨Value.ref (s.heap.objs.size+1)::us,[]⟩ (Value.ref (s.heap.objs.size+1)::us) _ _ (EX X σ) (hr.make C us [])
  (I2.env0.make C us []) hb' r2 hq) λr s' hq'=>?_))
 cases r with
 |error e=>
  let⟨nm,a,cls,ch,H',rfl,hn,os,bare,un,hok,x,new,q3⟩:=hq';have I3:Inv X À σ H' s':=I2.call' os un hok bare λb z=>absurd z 'f';exact q3 nm rfl À _ s' I3 ⟨a,cls,ch,rfl,hn,x,λb hb=>pY.of I2 (new b hb).1 (new b hb).2⟩
 |ok fl=>
  cases fl with
  |ret u=>
   let⟨v,H',I3,rv,ev,q3⟩:=I2.after hq';subst ev;exact⟨rv,⟨V.ref (s.heap.objs.size+1),H',I3,rfl,q3⟩⟩
  |next=>exact False.elim hq'
  |brk=>exact False.elim hq'
  |cont=>exact False.elim hq'
end
section
variable {X:Cx}{Z:cB}{ow:ZH}{c m:Nat}{pos:Pos}{e:Expr}{F:Hp}{σ:St}{δ:DS}{K:ZC}
def sU(h:i≠ow.length):(ow++[c]).getD i 0=ow.getD i 0:=by
 rw[Ë,Ë];by_cases hl:i<ow.length
 .rw[ó hl]
 .rw[à (by rw[Ò,í];lia),à (by exact ã.mp ‹_›)]
def B7:(ow++[c]).getD ow.length 0=c:=by
 rw[Ë,ç (È _),Nat.sub_self];rfl
def uP{α:Type}{xs:List α}{y:α}(h:i≠xs.length):(xs++[y])[i]?=xs[i]?:=by
 by_cases hl:i<xs.length
 .rw[ó hl]
 .rw[à (by rw[Ò,í];lia),à (by exact ã.mp ‹_›)]
def k4{α:Type}{xs:List α}{y:α}:(xs++[y])[xs.length]?=some y:=by
 rw[ç (È _),Nat.sub_self];rfl
def bV.push(R:bV K Z ow g F H σ δ)(hk:kd c=2)(hC:W.nsIn K mainGlobals nm=some (some (.ref C)))(hx:H x=none)(hdx:H dx=none)(ne:dx≠x)(hm:δ.length=ow.length)(hps:ow.length∉Z.ps):
  cS K Z (ow++[c]) F (aY (aY H dx (.own x)) x (.ins C dx [])) (σ++[some (.ref x)]) (δ++[some (dS nm [] [])]):=by
 have hsm:σ.length=ow.length:=by rw[<- R.len];exact hm
 have fx:F x=none:=by
  cases e:F x with
  |none=>rfl
  |some u=>rw[R.sub x u e]at hx;cases hx
 have fdx:F dx=none:=by
  cases e:F dx with
  |none=>rfl
  |some u=>rw[R.sub dx u e]at hdx;cases hdx
 have h0:∀a,H a=none->Z.H0 a=none:=λa e=>by
  cases e1:Z.H0 a with
  |none=>rfl
  |some o=>exact absurd e (R.there a (by rw[e1];simp))
 have hk':∀b o,H b=some o->aY (aY H dx (.own x)) x (.ins C dx []) b=some o:=λb o e=>by
  rw[aH (λz=>by rw[z,hx]at e;cases e),aH (λz=>by rw[z,hdx]at e;cases e)];exact e
 refine⟨λb=>if b=x then some (ow.length,[])else if b=dx then some (ow.length,[1000])else g b,λb u e=>hk' b u (R.sub b u e),R.f0,λb u n e=>hk' b u (R.kept b u n e),R.new,λb z=>?_,λa i p e=>?_,by rw[Ò,Ò,R.len];rfl,λi hi=>?_,λi d e=>?_⟩
 .cases e:H b with
  |none=>exact absurd e (R.there b z)
  |some o=>rw[hk' b o e];simp
 .split at e
  .rename_i z;rw[z];exact .inl (h0 x hx)
  .split at e
   .rename_i z;rw[z];exact .inl (h0 dx hdx)
   .exact R.lab a i p e
 .have:i≠ow.length:=λz=>hps (by rw[<- z];exact hi)
  rw[uP ∅,sU this];exact R.par i hi
 .by_cases hi:i=ow.length
  .have e2:(δ++[some (dS nm [] [])])[i]?=some (some (dS nm [] [])):=by rw[hi,<- hm];exact k4
   rw[e2]at e;cases e;refine⟨.ref x,by rw[hi,<- hsm];exact k4,?_⟩;rw[hi,B7];exact bC.mkI (C:=C) (dx:=dx) (vs:=[]) hk rfl rfl hC (Â rfl) aP fx (by rw[Ä ne,Â rfl];rfl) (by rw[aH ne,aP]) fdx λk d' v' z1=>by cases z1
  .rw[uP ∅]at e
   let⟨v,e1,o⟩:=R.slot i d e;refine⟨v,by rw[uP ∅];exact e1,?_⟩;rw[sU hi];refine o.keepJ 'm' λa p u y1 y2 y3=>⟨?_,hk' a u y2,y3⟩;rw[Ä (λz=>by rw[z,hx]at y2;cases y2),Ä (λz=>by rw[z,hdx]at y2;cases y2)];exact y1
def bV.pop(S:aS Z ow)(R:bV K Z (ow++[c]) g F H (σ++[some v]) (δ++[some d]))(hm:δ.length=ow.length)(hps:ow.length∉Z.ps)(hlt:ow.length<1000):gB K Z ow c d v F H σ δ:=by
 have hsm:σ.length=ow.length:=by have:=R.len;rw[Ò,Ò]at this;simp at this;lia
 refine⟨λb=>match g b with|some (j,p)=>if j=ow.length then some (1000,p)else if j=1000 then none else some (j,p)|none=>none,⟨R.sub,R.f0,R.kept,R.new,R.there,λa i p e=>?_,∅,λi hi=>?_,λi d' e=>?_⟩,?_⟩
 .cases eg:g a with
  |none=>rw[eg]at e;cases e
  |some l=>
   let⟨j,q⟩:=l;rw[eg]at e;dsimp only at e;split at e
   .rename_i z
    cases e;rcases R.lab a j _ eg with w|⟨q',w⟩
    .exact .inl w
    .exact absurd (Z.wf a j q' w) (by rw[z];exact hps)
   .split at e
    .cases e
    .cases e;exact R.lab a i p eg
 .have:i≠ow.length:=λz=>hps (by rw[<- z];exact hi)
  have q:=R.par i hi;rw[uP ∅,sU this]at q;exact q
 .have hi:i<δ.length:=(Î.mp e).1
  let⟨v',e1,o⟩:=R.slot i d' (by rw[uP (by exact Ì ‹_›)];exact e);rw[uP ∅]at e1;rw[sU ∅]at o;refine⟨v',e1,o.relab λa p y=>?_⟩;rw[y];dsimp only;rw[Ä ∅,Ä ∅]
 .obtain⟨v',e1,o⟩:=R.slot ow.length d (by rw[<- hm];exact k4)
  rw[<- hsm,k4]at e1;cases e1;rw[B7]at o;refine o.relab λa p y=>?_;rw[y];exact Â rfl
def HV(m:Nat)(nm:Str)(fn:ZI->Res D)(as:List Arg):M D:=λδ=>(cK as δ).bind λods δ1=>if δ1.length=m then (match eG δ1 as ods with
 |some ds=>(match fn (dS nm [] []::ds)with
  |.ok .none [some d]=>.ok d δ1
  |.err x [some _]=>.err x δ1
  |_=>.stuck)
 |none=>.stuck)else .stuck
def yF{δ δ':DS}:∀{as:List Arg}{ods:List (ZL)},aU as=[]->eG δ as ods=eG δ' as ods
 |[],[],_=>rfl
 |[],_::_,_=>rfl
 |.own i::as,_,h=>by cases h
 |.val f::as,[],_=>rfl
 |.val f::as,none::ods,_=>rfl
 |.val f::as,some d::ods,h=>by unfold eG;rw[yF (δ:=δ) (δ':=δ') (as:=as) h]
def yG :∀{as:List Arg}{ods:List (ZL)}{vs:List V},aU as=[]->sC K F σ as ods vs->sC K F σ' as ods vs
 |[],[],[],_,_=>True.intro
 |.own i::as,_,_,h,_=>by cases h
 |.val f::as,some d::ods,v::vs,h,z=>⟨z.1,yG (as:=as) h z.2⟩
def HW{xs:DS}{y z:ZL}:(xs++[y]).set xs.length z=xs++[z]:=by
 rw[List.set_append_right _ _ (È _),Nat.sub_self];rfl
def V9(S:aS Z ow)(hC:Œ X.K nm C)(hk:kd c=2)(hz:T0 Z=true)(hl:as.length+1=pn.length)(hv:aU as=[])(hm:fF owp (ow++[c]) 0 (.own ow.length::as)=true)(hlt:as.length+1<=1000)(hps:ow.length∉Z.ps)(hlo:ow.length<1000)(h:tD X Z ow c (HV ow.length nm fn as) σ H Q):V7 C (SO X.K pn [0] owp 0 fn) (EX X) (ł X Z ow as) σ H Q:=by
 let⟨F,δ,R,h⟩:=h;unfold HV at h;sleep 3;cases e:cK as δ with
 |stuck=>sleep 1
 |err x δ1=>rw[e]at h;exact h
 |ok ods δ1=>
  rw[e]at h;simp![Res.bind]at h;rintro vs H1 F1 ⟨g1,R1⟩ s1 z x dx hx hdx ne;split at h
  .rename_i hml
   cases e2:eG δ1 as ods with
   |none=>rw[e2]at h;exact h.elim
   |some ds=>
    rw[e2]at h;dsimp only at h;have R2:=R1.push (c:=c) (nm:=nm) hk hC.1 hx hdx ne hml hps;have hsl:σ.length=ow.length:=by rw[<- R1.len];exact hml
    have zA:sC X.K F1 (σ++[some (.ref x)]) (.own ow.length::as) (none::ods) (.ref x::vs):=⟨by rw[<- hsl];exact k4,yG hv z⟩;have fA:eG (δ1++[some (dS nm [] [])]) (.own ow.length::as) (none::ods)=some (dS nm [] []::ds):=by
     unfold eG;rw[<- hml,k4,yF (δ':=δ1) hv,e2]
    have S2:aS Z (ow++[c]):=⟨by rw[Ò,í];assumption,S.ps⟩;let⟨m1,m2⟩:=lT hm;have l2:=(kZ fA zA).2.1;refine⟨by rw[l2];exact hl,M9 S2 R2 zA fA ?_ ?_ (λq i e=>by have:=m1 q i e;rwa [Nat.zero_add]at this) (λq f e=>by have:=m2 q f e;rwa [Nat.zero_add]at this) hlt ?_⟩
    .have:∀(k:Nat)(as:List Arg),aU as=[]->fM k as=[]:=by
      intro k as
      induction as generalizing k with
      |nil=>intro _;rfl
      |cons a as ih=>
       cases a with
       |own i=>intro h;cases h
       |val f=>intro h;exact ih (k+1) h
     show 0::fM 1 as=[0];rw[this 1 as hv]
    .show (ow.length::aU as).Nodup
     rw[hv];simp
    .have es:aU (.own ow.length::as)=[ow.length]:=by show ow.length::aU as=_;rw[hv]
     rw[es];split at h
     .rename_i d e3
      rw[e3];intro v H' F' R' s';have hv':=R'.rep;unfold bG at hv';subst hv';let⟨g3,R3⟩:=R'.rel;have R3:bV X.K Z (ow++[c]) g3 F' H' (σ++[some (.ref x)]) ((δ1++[some (dS nm [] [])]).set ow.length (some d)):=R3;rw[<- hml,HW]at R3;exact⟨rfl,h _ H' F' (R3.pop S hml hps hlo) (s1.trans' s')⟩
     .rename_i x' d e3
      rw[e3];intro nm' hx' H' F' R' s' nm2 hnm À e s2 I2 fl;injection hnm with hnm;subst hnm;let⟨g3,R3⟩:=R';have R3:bV X.K Z (ow++[c]) g3 F' H' (σ++[some (.ref x)]) ((δ1++[some (dS nm [] [])]).set ow.length (some d)):=R3;rw[<- hml,HW]at R3;let⟨F2,s3,R4⟩:=(R3.pop S hml hps hlo).rel.toP hz;exact iQ.out h À e s2 ⟨nm',H',F2,σ,hx',I2,R4,s1.trans' (s'.trans' s3),fl⟩
     .exact h.elim
  .exact h.elim
def aCA{p:Pos}(m:Nat)(S:aS Z ow)(hC:Œ X.K x C)(M:Mk X.K C fa)(Fk:qI X.prog X.w X.K X.mg X.base (AW X.prog X.w X.K) k fa fd pn (SO X.K pn [0] owp 0 fn))(hr:fD (k+1) X.A)(hg:Gl X x)(hmg:X.mg x=some (.ref C))(hb:pV X.K fd pn [])(ha:DA X Z ow (e::es) as)(c:Nat)(hm0:↥(ow.length=m))(hk:↥(kd c=2))(hz:↥(T0 Z=true))(hl:↥(as.length+1=pn.length))(hv:↥(aU as=[]))(hm:↥(fF owp (ow++[c]) 0 (.own ow.length::as)=true))(hlt:⇑(as.length+1<=1000))(hps:↥(Z.ps.contains ow.length=false))(hlo:⇑(ow.length<1000))(hdb:⇑(Zdb x))(he:↥(Zse e es X.env))(hpl:↥(Zbt pos es X.env)):
  DE X Z ow c (.Call 'd' (e::es) [] pos) (HV m x fn as):=PE.mono (V8 M Fk hr hg hmg hb ha hdb he hpl) λ_ _ _ h=>by subst hm0;exact V9 S hC hk hz hl hv hm hlt (dA hps) hlo h
end
section
variable {κ:Type}[DecidableEq κ]
def qR(Á:List (κ×V))(k:κ):(Option V):=(Á.find? λkv=>decide (kv.1=k)).map (·.2)
def uQ(Á:List (κ×V))(k:κ)(v:V):(List (κ×V)):=
 if (Á.any λkv=>decide (kv.1=k))=true then Á.map (λkv=>if kv.1=k then (kv.1,v)else kv)else Á++[(k,v)]
def sV{k:κ}(e:p.1=k):qR (p::r) k=some p.2:=by simp[qR,Ă,e]
def sW{k:κ}(e:¬p.1=k):qR (p::r) k=qR r k:=by simp[qR,Ă,e]
def HX(k:κ):∀Á:List (κ×V),(Á.any λkv=>decide (kv.1=k))=(qR Á k).isSome
 |[]=>rfl
 |p::r=>by
  rw[List.any_cons];by_cases e:p.1=k
  .simp![sV e,decide_eq_true e,Bool.true_or,Option.isSome_some]
  .rw[sW e,decide_eq_false e,Bool.false_or];exact HX k r
def vS(Á:List (κ×V))(k:κ)(v:V):(uQ Á k v).length<=Á.length+1:=by
 unfold uQ;split
 .rw[Æ];exact Nat.le_succ _
 .rw[Ò,Ý,List.length_nil];exact ê _
def pM.isSome_eq(r:pM o u):o.isSome=u.isSome:=by
 cases o with
 |none=>cases u with
  |none=>rfl
  |some _=>exact(show False from r).elim
 |some _=>cases u with
  |none=>exact(show False from r).elim
  |some _=>rfl
def pM.getD(r:pM o u)(rd:bI d d'):bI (o.getD d) (u.getD d'):=by
 cases o with
 |none=>cases u with
  |none=>exact rd
  |some _=>exact(show False from r).elim
 |some _=>cases u with
  |none=>exact(show False from r).elim
  |some _=>exact r
def KV.val(r:KV Á vs)(k:κ):pM (qR Á k) (valueAt vs k):=by
 unfold KV at r
 induction r with
 |nil=>exact True.intro
 |@cons p q ps qs h t ih=>
  let⟨h1,h2⟩:=h;by_cases e:p.1=k
  .have e':q.1=k:=h1.symm.trans e
   have b:valueAt (q::qs) k=some q.2:=by simp[valueAt,Ă,e']
   rw[sV e,b];exact h2
  .have e':¬q.1=k:=λz=>e (h1.trans z)
   have b:valueAt (q::qs) k=valueAt qs k:=by simp[valueAt,Ă,e']
   rw[sW e,b];exact ih
def KV.any(r:KV Á vs)(k:κ):(Á.any λkv=>decide (kv.1=k))=vs.any λkv=>decide (kv.1=k):=by
 unfold KV at r
 induction r with
 |nil=>rfl
 |cons h t ih=>rw[List.any_cons,List.any_cons,ih,h.1]
def KV.repl(r:KV Á vs)(k:κ)(ry:bI y u):
  KV (Á.map λkv=>if kv.1=k then (kv.1,y)else kv) (vs.map λkv=>if kv.1=k then (kv.1,u)else kv):=by
 unfold KV at r⊢
 induction r with
 |nil=>exact .nil
 |@cons p q ps qs h t ih=>
  rw[Ð,Ð];refine .cons ?_ ih;let⟨h1,h2⟩:=h;by_cases e:p.1=k
  .rw[Â e,Â (h1.symm.trans e)];exact⟨h1,ry⟩
  .rw[Ä e,Ä (λz=>e (h1.trans z))];exact⟨h1,h2⟩
def KV.put(r:KV Á vs)(k:κ)(ry:bI y u):KV (uQ Á k y) (stored vs k u):=by
 unfold uQ stored;rw[r.any k];by_cases e:(vs.any λkv=>decide (kv.1=k))=true
 .rw[Â e,Â e];exact r.repl k ry
 .rw[Ä e,Ä e];exact Paired.snoc r ⟨rfl,ry⟩
def KV.length{Á:List (κ×V)}{vs:List (κ×Value)}(r:KV Á vs):Á.length=vs.length:=Paired.length r
end
def OF(r:bI (kV k) u):(dP P w).is k u=true:=by
 cases k with
 |inl i=>let⟨t,e⟩:=(show ∃t,u=Value.int i t from r);subst e;exact GJ P w i t
 |inr x=>let⟨t,e⟩:=(show ∃t,u=Value.str x t from r);subst e;exact GK P w x t
def B8 :∀{ks:List eA}{us:ZJ},bJ (ks.map kV) us->ItemsAre (dP P w) ks us
 |[],_,r=>by rw[List.map_nil]at r;cases r;exact .nil
 |k::ks,_,r=>by
  rw[Ð]at r;cases r with
  |cons h t=>exact .cons (OF h) (B8 t)
abbrev KT(H:Hp):List (List eA×V)->List (List eA×Addr×Value)->Prop:=Paired λp q=>p.1=q.1/\H q.2.1=some (.tup (p.1.map kV))/\bI p.2 q.2.2
def KT.val(r:KT H Á xs)(k:List eA):pM (qR Á k) ((atKey xs k).map (·.2)):=by
 induction r with
 |nil=>exact True.intro
 |@cons p q ps qs h t ih=>
  let⟨h1,_,h2⟩:=h;by_cases e:p.1=k
  .have e':q.1=k:=h1.symm.trans e
   have b:atKey (q::qs) k=some q.2:=by simp[atKey,Ă,e']
   rw[sV e,b];exact h2
  .have e':¬q.1=k:=λz=>e (h1.trans z)
   have b:atKey (q::qs) k=atKey qs k:=by simp[atKey,Ă,e']
   rw[sW e,b];exact ih
def KT.repl(r:KT H Á xs)(k:List eA)(ry:bI y u):
  KT H (Á.map λkv=>if kv.1=k then (kv.1,y)else kv) (xs.map (putAt k u)):=by
 induction r with
 |nil=>exact .nil
 |@cons p q ps qs h t ih=>
  rw[Ð,Ð];refine .cons ?_ ih;let⟨h1,h2,h3⟩:=h;unfold putAt;by_cases e:p.1=k
  .rw[Â e,Â (h1.symm.trans e)];exact⟨h1,h2,ry⟩
  .rw[Ä e,Ä (λz=>e (h1.trans z))];exact⟨h1,h2,h3⟩
def KT.put(r:KT H Á xs)(k:List eA)(hb:H b=some (.tup (k.map kV)))(ry:bI y u):
  KT H (uQ Á k y) (storedH xs k b u):=by
 have e:(Á.any λkv=>decide (kv.1=k))=(atKey xs k).isSome:=by
  rw[HX,(r.val k).isSome_eq,Option.isSome_map]
 unfold uQ storedH;rw[e];by_cases q:(atKey xs k).isSome=true
 .rw[Â q,Â q];exact r.repl k ry
 .rw[Ä q,Ä q];exact Paired.snoc r ⟨rfl,hb,ry⟩
def KT.keeps(r:KT H Á xs)(ht:∀b ys,H b=some (.tup ys)->H' b=some (.tup ys)):KT H' Á xs:=
 Paired.mapP r λ_ _ z=>⟨z.1,ht _ _ z.2.1,z.2.2⟩
section
def ϟ(ok:mQ P w H h)(e:Rd H a u):eE P w H h a u:=e.ok ok
def OG(ok:mQ P w H h)(e:Rd H a (.dK Á)):Á.length<=sizeLine/\(a == sysModules)=false/\∃vs,KV Á vs/\h.DictOf (dP P w) a vs:=
 show eE P w H h a (.dK Á)from ϟ ok e
def aLX(ok:mQ P w H h)(e:H a=some (.dK Á)):Á.length<=sizeLine/\(a == sysModules)=false/\∃vs,KV Á vs/\h.DictOf (dP P w) a vs:=OG ok (.inl e)
def ER(ok:mQ P w H h)(e:H a=some (.tup (ks.map kV))):(tupleKind (dP P w)).is h ks a:=by
 let⟨_,its,r,o,h1,h2,n,h3⟩:=(show eE P w H h a (.tup (ks.map kV))from ok a _ e);exact⟨o,its.toArray,n,h1,h2,h3,by simpa using B8 r⟩
def OH(ok:mQ P w H h)(e:Rd H a (.dT Á)):Á.length<=sizeLine/\(a == sysModules)=false /\
  ∃xs,KT H Á xs/\h.DictOfH (tupleKind (dP P w)) a xs:=by
 let⟨z,y,xs,r,o,es,ep,h1,h2,h3,h4,h5⟩:=(show eE P w H h a (.dT Á)from ϟ ok e);refine⟨z,y,xs,r,o,es,ep,h1,h2,h3,h4,λx hx=>?_,h5⟩;have all:∀{l:List (List eA×V)}{m:List (List eA×Addr×Value)},KT H l m->∀x∈m,(tupleKind (dP P w)).is h x.1 x.2.1:=by
  intro l m q
  induction q with
  |nil=>intro x hx;exact nomatch hx
  |@cons p q ps qs hq t ih=>
   intro x hx;rcases Ï.mp hx with e|hx
   .subst e
    exact ER ok (by rw[<- hq.1];exact hq.2.1)
   .exact ih x hx
 exact all r x hx
def aLY(ok:mQ P w H h)(e:H a=some (.dT Á)):Á.length<=sizeLine/\(a == sysModules)=false /\
  ∃xs,KT H Á xs/\h.DictOfH (tupleKind (dP P w)) a xs:=OH ok (.inl e)
end
def A8(H:Hp)(a:Addr)(y:V)(r:Option V):Prop:=
 (∃Á k,Rd H a (.dK Á)/\y=kV k/\r=qR Á k)\/∃Á k b,Rd H a (.dT Á)/\y=.ref b/\H b=some (.tup (k.map kV))/\r=qR Á k
def WA(H:Hp)(a:Addr)(y v:V)(H':Hp):Prop:=
 (∃Á k,H a=some (.dK Á)/\y=kV k/\Á.length<sizeLine/\H'=aY H a (.dK (uQ Á k v))) \/
 ∃Á k b,H a=some (.dT Á)/\y=.ref b/\H b=some (.tup (k.map kV))/\Á.length<sizeLine/\H'=aY H a (.dT (uQ Á k v))
def A8.k{H:Hp}{a:Addr}{Á:List (eA×V)}{k:eA}(e:H a=some (.dK Á)):A8 H a (kV k) (qR Á k):=.inl ⟨Á,k,.inl e,rfl,rfl⟩
def WA.k{H:Hp}{a:Addr}{Á:List (eA×V)}{k:eA}{v:V}(e:H a=some (.dK Á))(hl:Á.length<sizeLine):WA H a (kV k) v (aY H a (.dK (uQ Á k v))):=.inl ⟨Á,k,e,rfl,hl,rfl⟩
section
variable {X:Cx}{À:ZB}{σ:St}{H:Hp}{s:Shared}{a:Addr}{y v:V}{u r:Value}{o:Option V}{A:Around}{E:ZA}
def Inv.big(I:Inv X À σ H s):sysModules<s.heap.objs.size:=by
 have h:mainGlobals<s.heap.objs.size:=(I.mod.glob.keeps I.bk).lt;exact Nat.lt_trans ⋯ h
def aOQ{Q:ZA}(hu:A.units+1<cLine)(I:Inv X À σ H s)(g:A8 H a y o)(ry:bI y u)(h:∀s',Inv X À σ H s'->Q (.bool o.isSome) s'):
  wpAny 'b' A (compareOp .In u (.ref a)) Q E s:=by
 rcases g with ⟨Á,k,e,ey,l⟩|⟨Á,k,b,e,ey,eb,l⟩
 .subst ey
  let⟨z,hd,vs,rel,dd⟩:=OG I.hok e;refine wpAny_in_of (OF ry) hd dd.mapOf ?_;rw[<- (rel.val k).isSome_eq,<- l];exact h _ (I.tok _)
 .subst ey
  cases (show u=Value.ref b from ry);let⟨z,hd,xs,rel,dd⟩:=OH I.hok e;refine wpAny_in_heap (tupleKind_room_in1 hu) (ER I.hok eb) hd dd ?_;have q:=(rel.val k).isSome_eq;rw[Option.isSome_map]at q;rw[<- q,<- l];exact h _ (I.tok _)
def OI(I:Inv X À σ H s)(mu:Ī (H a))(hs:Heap.SameBut a s.heap h')(he:∃q,h'.get? a=some q)(new:eE X.prog X.w (aY H a ob) h' a ob):
  Inv X À σ (aY H a ob) {s with heap:=h',toks:=t'}:=
 I.write (x:=a) (e:=a) mu (.inl rfl) (λb q hb z=>(hs.2 b hb).trans z) he new
def aIF(z:Á.length<=sizeLine)(hd:(a == sysModules)=false)(rel:KV Á vs)(dd:h'.DictOf (dP P w) a vs):
  eE P w H' h' a (.dK Á):=⟨z,hd,vs,rel,dd⟩
def QT{H':Hp}{Q:Unit->Shared->Prop}(hu:A.units+1<cLine)(I:Inv X À σ H s)(g:WA H a y v H')(ry:bI y u)(rv:bI v r)(h:∀s',Inv X À σ H' s'->Q () s'):
  wpAny 'b' A (setItem (.ref a) u r) Q E s:=by
 rcases g with ⟨Á,k,e,ey,l,eH⟩|⟨Á,k,b,e,ey,eb,l,eH⟩
 .subst ey eH
  let⟨z,hd,vs,rel,dd⟩:=aLX I.hok e;have hz:vs.length<=sizeLine:=by rw[<- rel.length];exact z
  have hl:(uQ Á k v).length<=sizeLine:=by have:=vS Á k v;exact Ø ‹_› ‹_›
  refine wpAny_setItem_pairs (hsz:=hz) (OF ry) dd λh' dd' hs=>h _ ?_;have he:∃q,h'.get? a=some q:=let ⟨q,_,_,hq,_⟩:=dd';⟨q,hq⟩
  exact OI I (by rw[e];exact True.intro) hs he (aIF hl hd (rel.put k rv) dd')
 .subst ey eH
  cases (show u=Value.ref b from ry);let⟨z,hd,xs,rel,dd⟩:=aLY I.hok e;have hz:xs.length<=sizeLine:=by rw[<- Paired.length rel];exact z
  have hl:(uQ Á k v).length<=sizeLine:=by have:=vS Á k v;exact Ø ‹_› ‹_›
  refine wpAny_setItem_heap (hsz:=hz) (tupleKind_room_in1 hu) (ER I.hok eb) dd λh' dd' hs=>h _ ?_;let⟨q,es,ep,hq,h2,h3,h4,_,h5⟩:=dd';refine OI I (by rw[e];exact True.intro) hs ⟨q,hq⟩ ⟨hl,hd,_,(rel.put k eb rv).keeps λc ys ec=>?_,q,es,ep,hq,h2,h3,h4,h5⟩;rw[aH (aJ0 ec e (λz=>nomatch z))];exact ec
end
section
end
def aOR(ty td:TE):TE:=λσ H Q=>ty σ H λy H1=>td σ H1 λx H2=>∃a o,x=.ref a/\A8 H2 a y o/\Q (.bl o.isSome) H2
def aLZ(td ty tv:TE):TS:=λD σ H=>tv σ H λv H1=>td σ H1 λx H2=>ty σ H2 λy H3=>∃a H4,x=.ref a/\WA H3 a y v H4/\D.nx σ H4
section
def WB(hu:X.A.units+1<cLine)(hi:PE X i ty)(ho:PE X o td):PC X .In i o (aOR ty td):=by
 intro À s σ H Q I h;refine cY (hi À s σ H _ I h) λiv s1⟨y,H1,I1,ry,q1⟩=>cY (ho À s1 σ H1 _ I1 q1) λu s2 zQ=>?_;let⟨x,H2,I2,rx,a,ov,ex,g,q2⟩:=zQ;subst ex;obtain rfl:u=Value.ref a:=rx;exact aOQ hu I2 g ry λs3 I3=>⟨.bl ov.isSome,H2,I3,rfl,q2⟩
def aCB(hu:X.A.units+1<cLine)(ho:PE X o td)(hi:PE X i ty)(hv:PE X value tv)(hs:swapsWith value (some (.Subscript o i pos')) pos.line X.env=pure false):
  PS X (.Assign [.Subscript o i pos'] value pos) (aLZ td ty tv):=by
 intro À s σ H D I h;refine wpAny_Assign_Subscript (cY (hv À s σ H _ I h) λr s1⟨v,H1,I1,rv,q1⟩=>cY (ho À s1 σ H1 _ I1 q1) λu s2⟨x,H2,I2,rx,q2⟩=>cY (hi À s2 σ H2 _ I2 q2) λiv s3 zQ=>?_) hs;let⟨y,H3,I3,ry,a,H4,ex,g,q3⟩:=zQ;subst ex;obtain rfl:u=Value.ref a:=rx;exact QT hu I3 g ry rv λs4 I4=>⟨σ,H4,I4,q3⟩
end
def WC(h:Heap)(hb:sysModules<h.objs.size):eE P w H (h.push {cls:=.type "dict",data:=.dict #[]}) h.objs.size (.dK []):=
 ⟨ò _,beq_eq_false_iff_ne.mpr (Í (Ì hb)),[],.nil,Heap.DictOf.new h⟩
def aIG:TE:=λ_ H Q=>∀p,H p=none->Q (.ref p) (aY H p (.dK []))
section
def WD:PE X (.Dict [] [] pos) aIG:=λÀ s σ H Q I h=>
 wpAny_Dict_empty ⟨.ref s.heap.objs.size,_,I.laid (a:=s.heap.objs.size) (o:=.dK []) (t':=s.toks) (λ_ _ q=>Heap.get?_push_of_some _ q) (È _) (WC s.heap I.big),rfl,h _ (I.hok.fresh (È _))⟩
end
structure M2(X:Cx)(o:Expr)(m:Str)(apos:Pos)(e f:Expr)(cpos:Pos):Prop where
 base:attributeBase o m X.env (eval o X.env)=eval o X.env
 few:((backTo cpos (starEach [e,f] X.env)).all (λx=>!x.1) && (backToKw cpos (keywordEach [] X.env)).all (λx=>x.1.isSome)
  && decide (([e,f]:List Expr).length+([]:List Keyword).length+(if ([]:List Keyword).isEmpty then 0 else 1)<30))=true
 line:(apos.endLine == cpos.line)=true
 trees:backTo cpos (starEach [e,f] X.env)=[(false,eval e X.env),(false,eval f X.env)]
def Ϡ(H:Hp)(a:Addr):Prop:=(∃Á,Rd H a (.dK Á))\/∃Á,Rd H a (.dT Á)
def aIH(I:Inv X À σ H s)(d:Ϡ H a):
  s.TypeIs (.ref a) "dict"/\(∀b,Value.ref a=.ref b->∃ob,s.heap.get? b=some ob/\ob.dict=none)/\(a == sysModules)=false:=by
 rcases d with ⟨Á,e⟩|⟨Á,e⟩
 .obtain⟨_,hd,vs,_,dd⟩:=OG I.hok e
  refine⟨dd.typeIs,λb q=>?_,hd⟩;cases q;let⟨ob,_,_,h1,h2,_⟩:=dd;exact⟨ob,h1,h2.2.1⟩
 .obtain⟨_,hd,xs,_,dd⟩:=OH I.hok e
  refine⟨dd.typeIs,λb q=>?_,hd⟩;cases q;let⟨ob,_,_,h1,h2,_⟩:=dd;exact⟨ob,h1,h2.2.1⟩
section
variable {X:Cx}{À:ZB}{σ:St}{H:Hp}{s:Shared}{a:Addr}{y d:V}{u r:Value}{o:Option V}{A:Around}{E:ZA}
def aII(hu:A.units+1<cLine)(I:Inv X À σ H s)(g:A8 H a y o)(ry:bI y u)(rd:bI d r)(h:∀w' s',Inv X À σ H s'->bI (o.getD d) w'->Q w' s'):
  wpAny 'b' A (call (.builtin "dict.get") [.ref a,u,r]) Q E s:=by
 rcases g with ⟨Á,k,e,ey,l⟩|⟨Á,k,b,e,ey,eb,l⟩
 .subst ey
  let⟨z,hd,vs,rel,dd⟩:=OG I.hok e;refine call_meetsIn PySem.F.slot_dict_get dd.typeIs PySem.F.entry_dict_get (PySem.F.args_dict_get_3 _ _ _) (meets_dict_get_default (dP X.prog X.w) a (OF ry) hd r) ⟨_,dd.mapOf,h _ _ (I.tok _) ?_⟩;rw[l];exact(rel.val k).getD rd
 .subst ey
  cases (show u=Value.ref b from ry);let⟨z,hd,xs,rel,dd⟩:=OH I.hok e;refine call_meetsIn PySem.F.slot_dict_get dd.typeIs PySem.F.entry_dict_get (PySem.F.args_dict_get_3 _ _ _) (meetsH_dict_get_default (tupleKind (dP X.prog X.w)) a b hd r) ⟨tupleKind_room_in1 hu,k,xs,ER I.hok eb,dd,h _ _ (I.tok _) ?_⟩;rw[l];exact(rel.val k).getD rd
end
def aIJ(td ty tx:TE):TE:=λσ H Q=>td σ H λx H1=>∃a,x=.ref a/\Ϡ H1 a/\ty σ H1 λy H2=>tx σ H2 λz H3=>∃o,A8 H3 a y o/\Q (o.getD z) H3
section
def WE(hu:X.A.units+1<cLine)(ho:PE X o td)(he:PE X e ty)(hf:PE X f tx)(m:M2 X o "get" apos e f cpos):PE X (.Call (.Attribute o "get" apos) [e,f] [] cpos) (aIJ td ty tx):=by
 intro À s σ H Q I h;refine wpAny_Call_method m.base m.few m.line PySem.F.plainAttrs_dict PySem.F.slot_dict_get PySem.F.type_dict_get (cY (ho À s σ H _ I h) λu s1⟨x,H1,I1,rx,a,ex,d,q1⟩=>?_);subst ex;obtain rfl:u=Value.ref a:=rx;let⟨t1,t2,_⟩:=aIH I1 d;refine⟨t1,t2,?_⟩;rw[m.trees];refine Calls.callWith_builtin rfl (Calls.evalArgs_plain (Calls.spliced_cons (cY (he À s1 σ H1 _ I1 q1) λiv s2⟨y,H2,I2,ry,q2⟩=>
  Calls.spliced_cons (cY (hf À s2 σ H2 _ I2 q2) λfv s3⟨z,H3,I3,rz,ov,g,q3⟩=>Calls.spliced_nil ?_))))
 exact aII hu I3 g ry rz λw' s4 I4 rw'=>⟨_,H3,I4,rw',q3⟩
end
section
end
section
end
def dO:D->Option eA
 |.int i=>some (.inl i)
 |.str x=>some (.inr x)
 |_=>none
def sX(k:eA):dO (GH k)=some k:=by cases k<;>rfl
def LO(k:eA)(ms:List eA):(List eA):=if (ms.any λm=>decide (m=k))=true then ms else ms++[k]
def ES{α:Type}(k:eA)(y:α)(ms:List eA)(xs:List α):(List α):=if (ms.any λm=>decide (m=k))=true then (ms.zip xs).map (λp=>if p.1=k then y else p.2)else xs++[y]
def LP(k:eA)(y:D)(Á:List (D×D)):(List (D×D)):=
 if (Á.any λkv=>decide (dO kv.1=some k))=true then Á.map (λkv=>if dO kv.1=some k then (kv.1,y)else kv)else Á++[(GH k,y)]
def jV(k:eA)(Á:List (D×D)):ZL:=(Á.find? λkv=>decide (dO kv.1=some k)).map Prod.snd
def OJ{α:Type}:∀{ms:List eA}{xs:List α},ms.length=xs.length->((ms.zip xs).any λkv=>decide (kv.1=k))=ms.any λm=>decide (m=k)
 |[],[],_=>rfl
 |m::ms,x::xs,h=>by rw[á,List.any_cons,List.any_cons,OJ (by simpa using h)]
def HY :∀{ms:List eA}{xs:ZI},ms.length=xs.length->(((ms.map GH).zip xs).any λkv=>decide (dO kv.1=some k))=ms.any λm=>decide (m=k)
 |[],[],_=>rfl
 |m::ms,x::xs,h=>by
  rw[Ð,á,List.any_cons,List.any_cons,HY (by simpa using h)];dsimp only;rw[sX]
  grind
def OK{α:Type}{y:α}:∀{ms:List eA}{xs:List α},ms.length=xs.length->(ms.zip xs).map (λkv=>if kv.1=k then (kv.1,y)else kv)=ms.zip ((ms.zip xs).map (λp=>if p.1=k then y else p.2))
 |[],[],_=>rfl
 |m::ms,x::xs,h=>by
  rw[á,Ð,Ð,á,OK (by simpa using h)];congr 1;dsimp only;split<;>rfl
def HZ{y:D}:∀{ms:List eA}{xs:ZI},ms.length=xs.length->((ms.map GH).zip xs).map (λkv=>if dO kv.1=some k then (kv.1,y)else kv)=(ms.map GH).zip ((ms.zip xs).map (λp=>if p.1=k then y else p.2))
 |[],[],_=>rfl
 |m::ms,x::xs,h=>by
  rw[Ð,á,á,Ð,Ð,á,HZ (by simpa using h)];congr 1;dsimp only;rw[sX]
  grind
def WF{xs:List α}(h:ms.length=xs.length):(LO k ms).length=(ES k y ms xs).length:=by
 unfold LO ES;split
 .rw[Æ,ë];lia
 .rw[Ò,Ò,h];rfl
def WG(h:ms.length=xs.length):uQ (ms.zip xs) k y=(LO k ms).zip (ES k y ms xs):=by
 unfold uQ LO ES;rw[OJ h];split
 .exact OK h
 .rw[List.zip_append h];rfl
def WH{xs:ZI}(h:ms.length=xs.length):LP k y ((ms.map GH).zip xs)=((LO k ms).map GH).zip (ES k y ms xs):=by
 unfold LP LO ES;rw[HY h];split
 .exact HZ h
 .rw[ß,List.zip_append (by rw[Æ];exact h)];rfl
def uR{K:ZC}:∀{ms:List eA}{ds:ZI}{vs:List V},ms.length=ds.length->aE K F ds vs->(jV k ((ms.map GH).zip ds)=none/\qR (ms.zip vs) k=none)\/∃d v,jV k ((ms.map GH).zip ds)=some d/\qR (ms.zip vs) k=some v/\bG K F d v
 |[],[],vs,_,_=>.inl ⟨rfl,rfl⟩
 |m::ms,d::ds,vs,h,r=>by
  unfold aE at r;let⟨x,t,rfl,hx,ht⟩:=r;rw[Ð,á,á];by_cases e:m=k
  .refine .inr ⟨d,x,?_,?_,hx⟩
   .unfold jV
    rw[Ă,decide_eq_true (by dsimp only;rw[sX,e])]
    rfl
   .exact sV e
  .have ih:=uR (k:=k) (ms:=ms) (by simpa using h) ht
   have e1:jV k ((GH m,d)::(ms.map GH).zip ds)=jV k ((ms.map GH).zip ds):=by
    unfold jV;rw[Ă,decide_eq_false (by dsimp only;rw[sX];exact λz=>e (Option.some.inj z))]
   rw[e1,sW (by exact e)];exact ih
def ϡ{K:ZC}:∀{ms:List eA}{ds:ZI}{vs:List V},ms.length=ds.length->aE K F ds vs->bG K F d v->aE K F ((ms.zip ds).map (λp=>if p.1=k then d else p.2)) ((ms.zip vs).map (λp=>if p.1=k then v else p.2))
 |[],[],vs,_,r,_=>by unfold aE at r;subst r;exact iW
 |m::ms,d'::ds,vs,h,r,hd=>by
  unfold aE at r;let⟨x,t,rfl,hx,ht⟩:=r;rw[á,á,Ð,Ð];refine lR ?_ (ϡ (by simpa using h) ht hd);dsimp only;split
  .exact hd
  .exact hx
def aCC{K:ZC}(h:ms.length=ds.length)(r:aE K F ds vs)(hd:bG K F d v):aE K F (ES k d ms ds) (ES k v ms vs):=by
 unfold ES;split
 .exact ϡ h r hd
 .exact r.app (lR hd iW)
section
variable {X:Cx}{Z:cB}{ow ol ox:ZH}{rm i:Nat}{spos tpos:Pos}{fk fv:M D}{F H:Hp}{σ:St}{δ:DS}{g:ZP}{K:ZC}
def bC.dct(h:bC K F H g i 30 p d v):
  ∃a ms ds vs,d=kU ms ds/\v=.ref a/\ms.length=ds.length/\ds.length=vs.length/\g a=some (i,p)/\H a=some (.dK (ms.zip vs))/\F a=none/\aE K F ds vs:=by
 let⟨ds,vs,cs,nd,hc,hl,r⟩:=bC.open (c:=29) h;let⟨a,ms,h1,h2,h3,rfl⟩:=nd;let⟨a1,a2,a3⟩:=hc _ (ì.mpr rfl);exact⟨a,ms,ds,vs,h1,h2,h3,hl,by simpa using a1,a2,a3,aE.of hl λk d' v' q1 q2=>r k d' v' q1 q2⟩
def bC.mkD{i:Nat}{p:ZH}{a:Addr}{ms:List eA}{ds:ZI}{vs:List V}(h3:ms.length=ds.length)(a1:g a=some (i,p))(a2:H a=some (.dK (ms.zip vs)))(a3:F a=none)(r:aE K F ds vs):bC K F H g i 30 p (kU ms ds) (.ref a):=by
 refine bC.shut (c:=29) (ds:=ds) (vs:=vs) (cs:=[(a,[],.dK (ms.zip vs))]) ⟨a,ms,rfl,rfl,h3,rfl⟩ (λx hx=>?_) r.len λk d' v' q1 q2=>r.both k d' v' q1 q2;rw[ì.mp hx];exact⟨by simpa using a1,a2,a3⟩
def cS.newDict(S:aS Z ow)(R:cS K Z ow F H σ δ)(hp:H p=none):gB K Z ow 30 (kU [] []) (.ref p) F (aY H p (.dK [])) σ δ:=by
 have fp:=R.fnone hp;let⟨g,R⟩:=R;have z:Z.H0 p=none:=by
  cases e:Z.H0 p with
  |none=>rfl
  |some u=>exact absurd hp (R.there p (by rw[e];simp))
 refine⟨λb=>if b=p then some (1000,[])else Ě g 1000 b,⟨R.sub.trans' (cI hp _),R.f0,λb u n e=>?_,R.new,λb h=>?_,λa i q e=>?_,R.len,R.par,λi d e=>?_⟩,?_⟩
 .have:b≠p:=λq=>by rw[q,z]at e;cases e
  rw[aH this];exact R.kept b u n e
 .have:b≠p:=λq=>h (by rw[q,z])
  rw[aH this];exact R.there b h
 .split at e
  .rename_i q;rw[q];exact .inl z
  .exact R.lab a i q (K7 e).1
 .obtain⟨v,e1,o⟩:=R.slot i d e
  refine⟨v,e1,?_⟩;by_cases hi:ow.getD i 0=0
  .rw[hi]at o⊢;exact o
  .have hi':i<1000:=LN S hi
   refine o.keepJ (λ_ _ z=>z) λa q u e1 e2 e3=>?_;have:a≠p:=λz=>by rw[z,hp]at e2;cases e2
   exact⟨by rw[Ä this];exact K6 (by show i≠1000;exact Ì ‹_›) e1,by rw[aH this];exact e2,e3⟩
 .exact bC.mkD (ms:=[]) (vs:=[]) rfl (Â rfl) aP fp iW
def ET(S:aS Z ow):DE X Z ow 30 (.Dict [] [] pos) (dC (kU [] [])):=PE.mono WD λσ H Q q=>by
 let⟨F,δ,R,q⟩:=q;exact λp hp=>q _ _ F (R.newDict S hp) 'm'
def bV.rewriteD(R:bV K Z ow g F H σ δ)(ho:ow.getD i 0=30)(hd:δ[i]?=some (some (kU ms ds)))(hs:σ[i]?=some (some (.ref a)))(hl:ms'.length=ds'.length)(hr:aE K F ds' vs'):
  bV K Z ow g F (aY H a (.dK (ms'.zip vs'))) σ (δ.set i (some (kU ms' ds'))):=by
 let⟨v,e1,o⟩:=R.slot i _ hd;rw[hs]at e1;cases e1;rw[ho]at o;let⟨a',ms0,ds0,vs0,q1,q2,q3,q4,q5,q6,q7,q8⟩:=o.dct;cases q2;have hi:i<δ.length:=(Î.mp hd).1;refine⟨λb u e=>?_,R.f0,λb u n e=>?_,R.new,λb z=>?_,R.lab,by rw[Ö];exact R.len,R.par,λj d e=>?_⟩
 .have:b≠a:=λz=>by rw[z,q7]at e;cases e
  rw[aH this];exact R.sub b u e
 .have:b≠a:=λz=>by
   subst z;rcases R.lab b i [] q5 with w|⟨q,w⟩
   all_goals grind
  rw[aH this];exact R.kept b u n e
 .by_cases hb:b=a
  .subst hb;rw[aP];simp
  .rw[aH hb];exact R.there b z
 .by_cases hj:j=i
  .subst hj
   rw[â hi]at e;cases e;refine⟨_,hs,?_⟩;rw[ho];exact bC.mkD hl q5 aP q7 hr
  .rw[Ù (Í hj)]at e
   let⟨v,e1,o⟩:=R.slot j d e;exact⟨v,e1,bC.updNe q5 (.inl hj) o⟩
def OL(i:Nat)(fk fv:M D):M Fl:=λδ=>(fv δ).bind λv δ1=>match δ1[i]? with
 |some (some _)=>(fk δ1).bind λk δ2=>(match δ2[i]?,dO k with
  |some (some (.dict Á)),some ky=>if Á.length<sizeLine then .ok .next (δ2.set i (some (.dict (LP ky v Á))))else .stuck
  |_,_=>.stuck)
 |_=>.stuck
def EU(h:dO k=some ky)(r:bG K F k y):y=kV ky:=by
 cases k with
 |int i=>cases h;unfold bG at r;exact r
 |str x=>cases h;unfold bG at r;exact r
 |_=>cases h
def aIK{Á:List (D×D)}(h:(PyData.dict Á:D)=kU ms ds):Á=(ms.map GH).zip ds:=by
 unfold kU at h;injection h
def wN(i:Nat){x:Str}{p:Pos}(hu:X.A.units+64<cLine)(hv:DE X Z ow 0 ev fv)(hk:DE X Z ow 0 ek fk)(ho:↥(ow.getD i 0=30))(hN:↥'q')(hvi:#v[AR X.env.scope x])(hd:⇑(Zdb x))(hcd:⇑(Zcd x))(hs:↥(swapsWith ev (some (.Subscript 'd' ek tpos)) spos.line X.env=pure false)):
  xK X Z ow ow ol ox rm (.Assign [.Subscript 'd' ek tpos] ev spos) (OL i fk fv):=PS.mono (aCB ∅ (dM hN hvi hd hcd) hk hv hs) λDn σ H h=>by
 let⟨F,δ,R,h⟩:=h;unfold OL at h;sleep 3;cases e:fv δ with
 |stuck=>sleep 1
 |err y δ1=>rw[e]at h;exact iQ.cast h
 |ok dv δ1=>
  rw[e]at h;simp![Res.bind]at h;intro v H1 F1 R1 s1;cases e0:δ1[i]? with
  |none=>rw[e0]at h;exact h.elim
  |some o=>
   cases o with
   |none=>rw[e0]at h;exact h.elim
   |some d0=>
    rw[e0]at h;dsimp only at h;let⟨g0,R0⟩:=R1.rel;let⟨v0,w0,o0⟩:=R0.slot i _ e0;rw[ho]at o0;let⟨a,ms0,ds0,vs0,_,q2,_⟩:=o0.dct;subst q2;refine⟨_,w0,F1,δ1,R1.rel,?_⟩;cases e1:fk δ1 with
    |stuck=>rw[e1]at h;exact h.elim
    |err y δ2=>rw[e1]at h;exact iQ.cast (iQ.mono h s1)
    |ok dk δ2=>
     rw[e1]at h;dsimp only at h;intro kv H2 F2 R2 s2;let⟨g2,RG,ok2⟩:=R2;have ok2:bG X.K F2 dk kv:=ok2;split at h
     .rename_i Á ky e2 e3
      split at h
      .rename_i hlt
       let⟨v1,w1,o1⟩:=RG.slot i _ e2;rw[ho]at o1;let⟨a',ms,ds,vs,d1,q2,l1,l2,_,hH,_,hr⟩:=o1.dct;rw[w0]at w1;cases w1;cases q2;obtain rfl:=aIK d1;obtain rfl:=EU e3 ok2;rw[ë,Æ]at hlt;refine⟨a,_,rfl,WA.k hH (by rw[ë];lia),?_⟩;rw[WG 'i'];rw[WH l1]at h;have R3:=RG.rewriteD (ms':=LO ky ms) ho (show δ2[i]?=some (some (kU ms ds))from e2) w0 (WF l1) (aCC (k:=ky) l1 hr (s2.rep _ _ R1.rep));exact h σ _ F2 ⟨g2,R3⟩ (s1.trans' s2)
      .exact h.elim
     .exact h.elim
def OM(fx fk fz:M D):M D:=λδ=>(fx δ).bind λx δ1=>match x with
 |.dict Á=>if (Á.all λkv=>(dO kv.1).isSome)=true then (fk δ1).bind λk δ2=>(fz δ2).bind λz δ3=>(match dO k with
  |some ky=>.ok ((jV ky Á).getD z) δ3
  |none=>.stuck)else .stuck
 |_=>.stuck
def ON{Á:List (D×D)}(h:bG K F (.dict Á) v)(ha:(Á.all λkv=>(dO kv.1).isSome)=true):∃(a:Addr)(ms:List eA)(ds:ZI)(vs:List V),Á=(ms.map GH).zip ds/\ms.length=ds.length/\v=.ref a/\F a=some (.dK (ms.zip vs))/\aE K F ds vs:=by
 unfold bG at h;let⟨a,xs,rfl,hh,hr⟩:=h;rcases hh with ⟨nm,fs,C,dx,vs,h1,h2,_⟩|⟨ms,h1,h2,h3⟩
 .exfalso
  cases Á with
  |nil=>cases h2
  |cons kv Á=>
   rw[Ð]at h2;injection h2 with h2 _;rw[List.all_cons,h2]at ha;cases ha
 .have hl:ms.length=(Á.map Prod.snd).length:=by rw[<- Æ (f:=GH),<- h1,Æ,Æ]
  refine⟨a,ms,Á.map Prod.snd,xs,?_,hl,rfl,h3,hr.all⟩;rw[<- h1];clear h1 hl h3 hr h2 ha
  induction Á with
  |nil=>rfl
  |cons kv Á ih=>grind
def OO{apos cpos:Pos}(hu:X.A.units+64<cLine)(ho:DE X Z ow 0 o fx)(he:DE X Z ow 0 e fk)(hf:DE X Z ow 0 f fz)(base:↥(attributeBase o "get" X.env (eval o X.env)=eval o X.env))(few:↥(((backTo cpos (starEach [e,f] X.env)).all (λx=>!x.1) && (backToKw cpos (keywordEach [] X.env)).all (λx=>x.1.isSome)
   && decide (([e,f]:List Expr).length+([]:List Keyword).length+(if ([]:List Keyword).isEmpty then 0 else 1)<30))=true))(line:↥((apos.endLine == cpos.line)=true))(trees:↥(backTo cpos (starEach [e,f] X.env)=[(false,eval e X.env),(false,eval f X.env)])):
  DE X Z ow 0 (.Call (.Attribute o "get" apos) [e,f] [] cpos) (OM fx fk fz):=PE.mono (WE ∅ ho he hf ⟨base,few,line,trees⟩) λσ H Q q=>by
 let⟨F,δ,R,q⟩:=q;unfold OM at q;sleep 3;cases e1:fx δ with
 |stuck=>rw[e1]at q;sleep 4
 |err y δ1=>rw[e1]at q;exact q
 |ok dx δ1=>
  rw[e1]at q;simp![Res.bind]at q;intro x H1 F1 R1 s1;split at q
  .rename_i Á
   split at q
   .rename_i hall
    let⟨a,ms,ds,vs,rfl,l1,rfl,hF,hr⟩:=ON R1.rep hall;refine⟨a,rfl,.inl ⟨_,.inl (R1.rel.sub _ _ hF)⟩,F1,δ1,R1.rel,?_⟩;cases e2:fk δ1 with
    |stuck=>rw[e2]at q;sleep 4
    |err y δ2=>rw[e2]at q;exact iQ.mono q s1
    |ok dk δ2=>
     rw[e2]at q;simp![Res.bind]at q;intro y H2 F2 R2 s2;refine⟨F2,δ2,R2.rel,?_⟩;cases e3:fz δ2 with
     |stuck=>rw[e3]at q;sleep 4
     |err y δ3=>rw[e3]at q;exact iQ.mono q (s1.trans' s2)
     |ok dz δ3=>
      rw[e3]at q;simp![Res.bind]at q;intro z H3 F3 R3 s3;split at q
      .rename_i ky e4
       obtain rfl:=EU e4 R2.rep;refine⟨qR (ms.zip vs) ky,A8.k (R3.rel.sub _ _ (s3 _ _ (s2 _ _ hF))),?_⟩;rcases uR (k:=ky) l1 hr with ⟨h1,h2⟩|⟨d,v,h1,h2,h3⟩
       .rw[h1]at q
        rw[h2];exact q z H3 F3 R3 (s1.trans' (s2.trans' s3))
       .rw[h1]at q
        rw[h2];exact q v H3 F3 (R3.rel.x ((s2.trans' s3).rep _ _ h3)) (s1.trans' (s2.trans' s3))
      .sleep 4
   .sleep 4
  .sleep 4
end
section
def dU:List (M D)->M (ZI)
 |[],δ=>.ok [] δ
 |f::fs,δ=>match f δ with
  |.ok d δ1=>(match dU fs δ1 with
   |.ok ds δ2=>.ok (d::ds) δ2
   |_=>.stuck)
  |_=>.stuck
end
section
variable {Z:cB}{ow:ZH}{i:Nat}{F H:Hp}{σ:St}{δ:DS}{g:ZP}{K:ZC}
def bV.kill(R:bV K Z ow g F H σ δ)(h1:g a=some (i,p0))(h2:F a=none):bV K Z ow g F (aY H a o) σ (δ.set i none):=by
 refine⟨λb u e=>?_,R.f0,λb u n e=>?_,R.new,λb z=>?_,R.lab,by rw[Ö];exact R.len,R.par,λk d e=>?_⟩
 .have:b≠a:=λz=>by rw[z,h2]at e;cases e
  rw[aH this];exact R.sub b u e
 .have:b≠a:=λz=>by
   subst z;rcases R.lab b i _ h1 with w|⟨q,w⟩
   .rw[w]at e;cases e
   .rw[w]at n;cases n
  rw[aH this];exact R.kept b u n e
 .by_cases hb:b=a
  .subst hb;rw[aP];simp
  .rw[aH hb];exact R.there b z
 .by_cases hk:k=i
  .subst hk
   by_cases hl:k<δ.length
   .rw[â hl]at e;cases e
   .rw[à (by rw[Ö];exact ã.mp ‹_›)]at e;cases e
  .rw[Ù (Í hk)]at e
   let⟨v,e1,o⟩:=R.slot k d e;exact⟨v,e1,bC.updNe h1 (.inl hk) o⟩
end
end L2
namespace L2
open PySem PySem.Spec
section
end
end L2
namespace L2
open PySem PySem.Spec PyProof.Rows
def WI(lo:Int)(n:Nat):(List V):=(List.range n).map λ(k:Nat)=>V.int (lo+(k:Int))
def aOS(ta:TA):TE:=λσ H Q=>ta σ H λvs H1=>∃j:Int,vs=[.int j]/\-(2^62)<=j/\j<2^62/\∀r,H1 r=none->Q (.ref r) (aY H1 r (.rng 0 j))
def aOT(ta:TA):TE:=λσ H Q=>ta σ H λvs H1=>∃i j:Int,vs=[.int i,.int j]/\(-(2^62)<=i/\i<2^62/\-(2^62)<=j/\j<2^62)/\∀r,H1 r=none->Q (.ref r) (aY H1 r (.rng i j))
def Ϣ:∀{vs:List V}{us:ZJ},vs.length=us.length->(∀(k:Nat)(v:V)(u:Value),vs[k]?=some v->us[k]?=some u->bI v u)->bJ vs us
 |[],[],_,_=>.nil
 |v::vs,u::us,hl,h=>.cons (h 0 v u rfl rfl) (Ϣ (by simpa using hl) λk v' u' e1 e2=>h (k+1) v' u' e1 e2)
section
variable {X:Cx}{a b:Expr}{ta:TA}{p pos:Pos}
def aIL(hg:Gl X "range")(hm:X.mg "range"=none)(ha:PA X [a] ta)(hs:↥(starEach [a] X.env=[(false,eval a X.env)])):PE X (.Call (.Name "range" p) [a] [] pos) (aOS ta):=by
 intro À s σ H Q I h;refine Call_ (j8 I hg hm boot_range (PyProof.Rows.callWith_type1 (cY (ha pos À s σ H _ I h) λus s1 zQ=>?_) hs rfl));let⟨vs,H1,I1,r1,q1⟩:=zQ;let⟨j,e,q1,q2,q⟩:=q1;subst e;cases r1 with
 |cons r rr=>
  cases rr;let⟨t,rfl⟩:=r;exact call_range_1 ⟨.ref _,_,I1.laid (o:=.rng 0 j) (λb o e=>Heap.get?_push_of_some _ e) (È _) (show ∃t u v,_ from⟨_,_,_,Heap.get?_push_size _ rfl⟩),rfl,q _ (I1.hok.fresh (È _))⟩
def aIM(hg:Gl X "range")(hm:X.mg "range"=none)(ha:PA X [a,b] ta)(hs:↥(starEach [a,b] X.env=[(false,eval a X.env),(false,eval b X.env)]))(hs2:↥(starEach [b] X.env=[(false,eval b X.env)])):PE X (.Call (.Name "range" p) [a,b] [] pos) (aOT ta):=by
 intro À s σ H Q I h;refine Call_ (j8 I hg hm boot_range (PyProof.Rows.callWith_type1 (cY (ha pos À s σ H _ I h) λus s1 zQ=>?_) (by rw[hs,hs2]) (by rw[hs2];rfl)));let⟨vs,H1,I1,r1,q1⟩:=zQ;let⟨i,j,e,q1,q⟩:=q1;subst e;cases r1 with
 |cons r rr=>
  cases rr with
  |cons r' rr=>
   cases rr;let⟨t,rfl⟩:=r;let⟨t',rfl⟩:=r';exact call_range_2 ⟨.ref _,_,I1.laid (o:=.rng i j) (λb o e=>Heap.get?_push_of_some _ e) (È _) (show ∃t u v,_ from⟨_,_,_,Heap.get?_push_size _ rfl⟩),rfl,q _ (I1.hok.fresh (È _))⟩
def qB(hc:X.calm=true):gY X (.type "list") (λxs H Q=>∃p lo hi,xs=[.ref p]/\H p=some (.rng lo hi)/\(-(2^62)<=lo/\lo<2^62/\-(2^62)<=hi/\hi<2^62)/\(hi-lo).toNat<=sizeLine/\∀l,H l=none->Q (.ref l) (aY H l (.lst (WI lo (hi-lo).toNat)))):=by
 intro À s σ H xs us Q I r h;let⟨p,lo,hi,rfl,hp,⟨h1,h2,h3,h4⟩,hz,q⟩:=h;let⟨u,rfl,rx⟩:=pU r;cases rx;let⟨t,u,v,e⟩:=I.hok p _ hp;refine call_list_range (I.ok.hd hc) (show IsRange s.heap p lo hi 1 t u v from e) (small_one h1 h2 h3 h4) (n:=(hi-lo).toNat) (by rw[rangeSize_one];split<;>lia) hz λh' tk acc' c' kp e it=>?_;let⟨i1,i2⟩:=it;refine⟨.ref _,_,I.laid (t':=tk) kp (È _) (show eE X.prog X.w _ h' _ (.lst (WI lo (hi-lo).toNat))from⟨by unfold WI;simpa using hz,acc'.toList,c',?_,by simpa using e⟩),rfl,q _ (I.hok.fresh (È _))⟩;refine Ϣ ?_ λk v u e1 e2=>?_
 .unfold WI;simp[i1]
 .have hk:k<(hi-lo).toNat:=by
   have:=(Î.mp e1).1;unfold WI at this;simpa using this
  unfold WI at e1;rw[Ñ,ú hk]at e1;cases e1;let⟨t',e3⟩:=i2 k u (by simpa using e2);exact⟨t',by rw[e3];simp⟩
end
section
variable {X:Cx}{Z:cB}{ow:ZH}{a b:Expr}{f g:M D}{p p2 p3 pos:Pos}
def B9(fs:List (M D)):M D:=λδ=>(bD fs δ).bind λds δ1=>match mX ds with
 |some (lo,n)=>if n<=sizeLine then .ok (.list (kX lo n)) δ1 else .stuck
 |none=>.stuck
def H8{K:ZC}{lo:Int}:aE K F (kX lo n) (WI lo n):=aE.of (by rw[g7];unfold WI;simp) λk d v e1 e2=>by
 have hk:k<n:=by
  have:=(Î.mp e1).1;rw[g7]at this;exact this
 rw[DZ hk]at e1;unfold WI at e2;rw[Ñ,ú hk]at e2;cases e1;cases e2;exact fW
def WJ(S:aS Z ow)(hc:X.calm=true)(hgl:Gl X "list")(hml:X.mg "list"=none)(hgr:Gl X "range")(hmr:X.mg "range"=none)(ha:DE X Z ow 0 a f)(hs:↥(Zse a [] X.env))(he:↥(starEach [.Call (.Name "range" p2) [a] [] p3] X.env=(false,eval (.Call (.Name "range" p2) [a] [] p3) X.env)::starEach [] X.env)):DE X Z ow 1 (.Call (.Name "list" p) [.Call (.Name "range" p2) [a] [] p3] [] pos) (B9 [f]):=
 PE.mono (t9 (qB hc) hgl hml gS (eW (aIL hgr hmr (aI ha bH hs) hs) iV he) ⋯ ⋯ he) λσ H Q q=>by
  let⟨F,δ,R,q⟩:=q;unfold B9 at q;sleep 3;cases e1:bD [f] δ with
  |stuck=>rw[e1]at q;sleep 4
  |err x δ1=>rw[e1]at q;exact q
  |ok ds δ1=>
   rw[e1]at q;simp![Res.bind]at q;intro vs H1 F1 R1 s1 ra;cases e2:mX ds with
   |none=>rw[e2]at q;sleep 4
   |some m=>
    let⟨lo,m⟩:=m;rw[e2]at q;let⟨j,rfl,h1,h2,rfl,rfl⟩:=GZ e2 (oQ e1);dsimp only at q;split at q
    .rename_i hz
     refine⟨j,xL ra,h1,h2,λr hr=>⟨r,0,j,rfl,aP,⟨⋯,⋯,h1,h2⟩,by simpa using hz,λl hl=>?_⟩⟩;have R2:=R1.laid (o:=.rng 0 j) hr;have fr:F1 r=none:=R1.fnone hr;have:=q (.ref l) _ _ (R2.newList (ds:=kX 0 j.toNat) (vs:=WI 0 (j-0).toNat) S hl (by rw[Int.sub_zero];exact H8)) (s1.trans' (cI fr _));exact this
    .sleep 4
def WK(S:aS Z ow)(hc:X.calm=true)(hgl:Gl X "list")(hml:X.mg "list"=none)(hgr:Gl X "range")(hmr:X.mg "range"=none)(ha:DE X Z ow 0 a f)(hb:DE X Z ow 0 b g)(hs:↥(starEach [a,b] X.env=(false,eval a X.env)::starEach [b] X.env))(hs2:↥(Zse b [] X.env))(he:↥(starEach [.Call (.Name "range" p2) [a,b] [] p3] X.env=(false,eval (.Call (.Name "range" p2) [a,b] [] p3) X.env)::starEach [] X.env)):DE X Z ow 1 (.Call (.Name "list" p) [.Call (.Name "range" p2) [a,b] [] p3] [] pos) (B9 [f,g]):=
 PE.mono (t9 (qB hc) hgl hml gS (eW (aIM hgr hmr (aI ha (aI hb bH hs2) hs) (hs.trans (by rw[hs2];rfl)) hs2) iV he) ⋯ ⋯ he) λσ H Q q=>by
  let⟨F,δ,R,q⟩:=q;unfold B9 at q;sleep 3;cases e1:bD [f,g] δ with
  |stuck=>rw[e1]at q;sleep 4
  |err x δ1=>rw[e1]at q;exact q
  |ok ds δ1=>
   rw[e1]at q;simp![Res.bind]at q;intro vs H1 F1 R1 s1 ra;cases e2:mX ds with
   |none=>rw[e2]at q;sleep 4
   |some m=>
    let⟨lo,m⟩:=m;rw[e2]at q;let⟨i,j,rfl,h1,rfl,rfl⟩:=T5 e2 (oQ e1);dsimp only at q;split at q
    .rename_i hz
     refine⟨lo,j,T6 ra,h1,λr hr=>⟨r,lo,j,rfl,aP,h1,hz,λl hl=>?_⟩⟩;have R2:=R1.laid (o:=.rng lo j) hr;have fr:F1 r=none:=R1.fnone hr;exact q (.ref l) _ _ (R2.newList (ds:=kX lo (j-lo).toNat) (vs:=WI lo (j-lo).toNat) S hl H8) (s1.trans' (cI fr _))
    .sleep 4
end
structure sY(K:ZC)(mg:ZD)(base:Heap):Prop where
 bm:∃bm ob,mg "__builtins__"=some (.ref bm)/\bm≠builtinsNs/\base.get? bm=some ob/\ob.cls=.type "module"/\ob.dict=some builtinsNs/\ob.data=.plain
 cd:∀c P pos,jO K=some (c,P,pos)->W.CodeHd base c P
section
variable {X:Cx}{À:ZB}{σ:St}{H:Hp}{s:Shared}
structure H9(X:Cx)(À:ZB)(a:Addr):Prop where
 pin:∀p∈X.pn++À,p.1≠a
 new:X.s₀.heap.objs.size<=a
 loc:a≠X.env.locals
 cells:∀x c,X.env.cells.lookup x=some c->c≠a
def Inv.mine(I:Inv X À σ H s)(h:s.heap.objs.size<=a):H9 X À a:=
 ⟨λp hp=>Ì (Ô (Heap.lt_size (I.pin p hp).1) h),Ø I.sz h,Ü (Ô I.lt h),λx c e=>by
  let⟨v,q⟩:=I.cell x c e;exact Ì (Ô q.lt h)⟩
def Inv.repin(I:Inv X ((a,o)::À) σ H s)(m:H9 X À a)(k:∀b ob,b≠a->s.heap.get? b=some ob->h'.get? b=some ob)(e:h'.get? a=some o')(hd:∀v,o'.data≠.cell v):
  Inv X ((a,o')::À) σ H {s with heap:=h',toks:=t'}:=by
 let⟨p1,p2,p3,p4,p5⟩:=I.pin (a,o) (Û _ Õ);have I1:Inv X À σ H s:=I.pins_of λp hp=>I.pin p (Û _ (Ó _ hp));have I2:=I1.turned (h':=h') (t':=t') (it:=a) k p2 m.loc (.inr m.new) m.cells m.pin;refine I2.pins_of λp hp=>?_;rcases Ï.mp hp with rfl|hp
 .exact⟨e,p2,p3,p4,hd⟩
 .exact I2.pin p (Û _ hp)
def Inv.pinNew(I:Inv X À σ H s)(e:s.heap.get? a=some o)(hn:H a=none)(hl:a≠X.env.locals)(hf:a∉X.fs)(hd:∀v,o.data≠.cell v):Inv X ((a,o)::À) σ H s:=I.pins_of λp hp=>by
 rcases Ï.mp hp with rfl|hp
 .exact⟨e,hn,hl,hf,hd⟩
 .exact I.pin p (Û _ hp)
def Inv.unpin(I:Inv X (p::À) σ H s):Inv X À σ H s:=I.pins_of λq hq=>I.pin q (Û _ (Ó _ hq))
end
abbrev sZ(pos:Pos):HO:=.lam (rawInt pos.line) (rawInt pos.col) kW
abbrev QU(pos:Pos)(c':Addr):Obj:=W.tabObj #[rawInt pos.line,rawInt pos.col,.ref c']
structure qS(X:Cx)(À:ZB)(σ:St)(H:Hp)(P:Addr)(pos:Pos)(fo:Obj)(f c':Addr)(H':Hp)(s':Shared):Prop where
 inv:Inv X À σ H' s'
 same:aM H H'
 fn:s'.heap.get? f=some fo
 un:H' f=none
 loc:f≠X.env.locals
 nf:f∉X.fs
 cd:s'.heap.CodeRec (.ref c') kW
 own:H' c'=some (.own P)
 ne:c'≠P
 tb:s'.heap.get? P=some (QU pos c')
 lm:H' P=some (sZ pos)
section
variable {X:Cx}{À:ZB}{σ:St}{H:Hp}{s:Shared}{params:Arguments}{body:Expr}{scope:Scope}{pos:Pos}{c P:Addr}{clos:List (Str×Addr)}
def WL{Q:ZA}{E:ZA}{M:Model}{A:Around}(I:Inv X À σ H s)(B:sY X.K X.mg X.base)(hl:jO X.K=some (c,P,pos))(hP:H P=some (sZ pos))(hcode:X.env.code=.ref c)(hq:X.env.qual++"<lambda>"=kW)(hcl:closureFor scope X.env=pure clos)(hdef:defaultsOf params X.env=([],[]))(h:∀f c' ctv H' s',qS X À σ H P pos 'e' f c' H' s'->Q (.ref f) s'):wpAny M A (eval (.Lambda params body scope pos) X.env) Q E s:=by
 refine W.kla_eval hdef ?_;rw[hq];have hg:s.heap.Ns mainGlobals X.mg:=I.mod.glob.keeps I.bk;have C:W.CodeHd s.heap c P:=(B.cd c P pos hl).keeps I.bk;let⟨bm,ob,b1,b2,b3,b4,b5,b6⟩:=B.bm;have b3':=I.bk _ _ b3;let⟨ps,e1,e2⟩:=I.hok P _ hP;have hPl:P<s.heap.objs.size:=Heap.lt_size e1;have hgP:mainGlobals≠P:=λq=>by
  let⟨o,es,ep,e,hd,_⟩:=hg;rw[q,e1]at e;cases e;cases hd
 have hbP:bm≠P:=λq=>by rw[q,e1]at b3';cases b3';cases b4
 have hbG:bm≠mainGlobals:=λq=>by
  let⟨o,es,ep,e,hd,_⟩:=hg;rw[q,e]at b3';cases b3';rw[hd]at b6;cases b6
 have BA:s.heap.BuiltinsAt X.mg P:=⟨bm,ob,b1,b2,hbG,hbP,b3',b4,b5,b6⟩;have far:∀{n:Nat},s.heap.objs.size<=n->H n=none/\n≠X.env.locals/\n∉X.fs:=λ{n}hn=>⟨I.hok.fresh hn,Ü (Ô I.lt hn),I.nofs hn⟩;rcases e2 with rfl|⟨c',rfl,o1,o2,o3⟩
 .refine W.kla_makeFunction (mg:=X.mg) hcl I.ok.glob hg hcode C e1 trivial rfl hgP BA λc' ctv h' tk hx hge hlt hrec htb=>?_
  have hc:H c'=none:=(far hge).1;have hk:∀b o,b≠P->s.heap.get? b=some o->(h'.push 'e').get? b=some o:=λb o n e=>Heap.get?_push_of_some _ (hx b o n e);have ht:(h'.push 'e').get? P=some (QU pos c'):=Heap.get?_push_of_some _ htb;have hr:(h'.push 'e').CodeRec (.ref c') kW:=hrec.push _;have ncP:c'≠P:=Ü (Ô hPl hge);have un:Un X.fs [] H (aY H c' (.own P)) s.heap (h'.push 'e'):=by
   have nP:∀b,H b=none->b≠P:=λb n z=>by rw[z,hP]at n;cases n
   refine⟨λb o e n _ _=>hk b o (nP b n) e,λb o e n _ _=>⟨o.slots,hk b o (nP b n) e⟩,λb o e n _=>?_,λb o e _=>?_,λb xs e=>?_,λb o u e=>?_,λb ps e=>⟨#[],?_⟩⟩
   .rw[aH (Ì (Ô (Heap.lt_size e) hge))];exact n
   .by_cases z:b=P
    .exact⟨_,z▸ht⟩
    .exact⟨o,hk b o z e⟩
   .rw[aH (bL e hc)];exact e
   .rw[aH (bL e hc)];exact e
   .rw[aH (bL e hc),e];simp
  have hok:mQ X.prog X.w (aY H c' (.own P)) (h'.push 'e'):=λb o e=>by
   by_cases z:b=c'
   .subst z
    rw[aP]at e;cases e;let⟨_,o,_,_,q1,q2,_⟩:=hr;cases q1;exact⟨o,q2⟩
   .rw[aH z]at e
    by_cases y:b=P
    .subst y
     rw[hP]at e;cases e;exact⟨_,ht,.inr ⟨c',rfl,aP,ncP,hr⟩⟩
    .refine(I.hok b o e).stay (λd u hd q=>hk d u ?_ q) (λd q=>by rw[aH (bL q hc)];exact q) λd xs q=>by rw[aH (bL q hc)];exact q
     rcases hd with rfl|hd
     .exact y
     .rintro rfl;rw[hP]at hd;cases hd
  have hf:s.heap.objs.size<=h'.objs.size:=É (û hge hlt);have I2:=I.un (t':=tk) un hok;refine h _ c' ctv (aY H c' (.own P)) _ ⟨I2,λb o e=>by rw[aH (bL e hc)];exact e,Heap.get?_push_size _ rfl,?_,(far hf).2.1,(far hf).2.2,hr,aP,ncP,ht,by rw[aH (Í ncP)];exact hP⟩
  rw[aH (Ü hlt)];exact(far hf).1
 .have am:codeAmong pos (#[rawInt pos.line,rawInt pos.col,.ref c']:Array Value).toList=some (.ref c'):=codeAmong_snoc (pos:=pos) (c:=.ref c') [] trivial rfl
  refine W.kla_makeFunctionHit (mg:=X.mg) hcl I.ok.glob hg hcode C e1 trivial am BA λctv h' tk hk hsz=>?_;have hk':∀b o,s.heap.get? b=some o->(h'.push 'e').get? b=some o:=λb o e=>Heap.get?_push_of_some _ (hk b o e);have I2:=I.kept (t':=tk) hk';exact h _ c' ctv H _ ⟨I2,λ_ _ e=>e,Heap.get?_push_size _ rfl,(far hsz).1,(far hsz).2.1,(far hsz).2.2,o3.keeps hk',o1,o2,hk' _ _ e1,hP⟩
def pO(P c':Addr)(H:Hp):Hp:=λb=>open Classical in if b=P\/b=c' then none else H b
def iO(h1:b≠P)(h2:b≠c'):pO P c' H b=H b:=by
 unfold pO;rw[Ä λz=>z.elim h1 h2]
def QV(e:pO P c' H b=some o):b≠P/\b≠c'/\H b=some o:=by
 unfold pO at e;split at e
 .cases e
 .rename_i z
  exact⟨λq=>z (.inl q),λq=>z (.inr q),e⟩
def k6{P c' b:Addr}{H:Hp}(e:H b=none):pO P c' H b=none:=by
 unfold pO;split
 .rfl
 .exact e
def aIN:pO P c' H P=none:=by unfold pO;rw[Â (.inl rfl)]
def aIO:pO P c' H c'=none:=by unfold pO;rw[Â (.inr rfl)]
def qS.hide(m:qS X À σ H P pos fo f c' H' s')(hfo:∀v,fo.data≠.cell v):∃oc vs t,oc.data=.fields vs/\vs[1]?=some (.str kW t)/\Inv X ((f,fo)::(c',oc)::(P,QU pos c')::À) σ (pO P c' H') s':=by
 let⟨_,oc,vs,t,e0,e1,e2,e3⟩:=m.cd;cases e0;have nP:∀{b:Addr}{o:HO},H' b=some o->o≠sZ pos->b≠P:=λ{b o}e n z=>by rw[z,m.lm]at e;cases e;exact n rfl
 have nc:∀{b:Addr}{o:HO},H' b=some o->o≠.own P->b≠c':=λ{b o}e n z=>by rw[z,m.own]at e;cases e;exact n rfl
 have I:=m.inv;have locP:P≠X.env.locals:=λz=>by have:=I.free;rw[<- z,m.lm]at this;cases this
 have locc:c'≠X.env.locals:=λz=>by have:=I.free;rw[<- z,m.own]at this;cases this
 have fsF:∀b∈X.fs,H' b=none:=λb hb=>by
  let⟨_,o,ho,_⟩:=I.ok.funs.mem hb;exact I.base.free b o ho (I.ok.frf b hb) λz=>I.ok.exfs b z hb
 have J:Inv X À σ (pO P c' H') s':=by
  refine⟨I.ok,I.os,I.bare,⟨I.base.keep,I.base.slot,λb o e n hx=>k6 (I.base.free b o e n hx),I.base.there,λb xs e=>?_,λb o u e=>?_,λb ps e=>?_⟩,I.loc,I.cell,k6 I.free,λx c e=>k6 (I.freeC x c e),λp hp=>?_,λb o e=>?_,I.len⟩
  .have q:=I.base.tups b xs e
   rw[iO (nP q 'f') (nc q 'f')];exact q
  .have q:=I.base.frzs b o u e
   rw[iO (nP q 'f') (nc q 'f')];exact q
  .obtain⟨more,q⟩:=I.base.tbls b ps e
   exact⟨more,by rw[iO (nP q 'f') (nc q 'f')];exact q⟩
  .obtain⟨a1,a2,a3⟩:=I.pin p hp
   exact⟨a1,k6 a2,a3⟩
  .obtain⟨h1,h2,e⟩:=QV e
   refine(I.hok b o e).stay (λ_ _ _ q=>q) (λd q=>?_) λd xs q=>?_
   .rw[iO (nP q 'f') (λz=>by rw[z,m.own]at q;cases q;exact h1 rfl)];exact q
   .rw[iO (nP q 'f') (nc q 'f')];exact q
 refine⟨oc,vs,t,e2,e3,((J.pinNew m.tb aIN locP (λz=>by have:=fsF _ z;rw[m.lm]at this;cases this) (λv=>by simp)).pinNew e1 aIO locc (λz=>by have:=fsF _ z;rw[m.own]at this;cases this) (λv=>by rw[e2];simp)).pinNew m.fn (k6 m.un) m.loc m.nf hfo⟩
def yH(P c':Addr)(pos:Pos)(H:Hp):Hp:=λb=>open Classical in if b=P then some (sZ pos)else if b=c' then some (.own P)else H b
def qS.show(m:qS X À σ H P pos fo f c' H' s')(e2:oc.data=.fields vs)(e3:vs[1]?=some (.str kW t))(I2:Inv X ((f,fo)::(c',oc)::(P,QU pos c')::À) σ H2 s2)(hs:aM (pO P c' H') H2):Inv X À σ (yH P c' pos H2) s2/\aM H (yH P c' pos H2):=by
 have pc:=I2.pin (c',oc) (Û _ 'f');have pP:=I2.pin (P,QU pos c') (Û _ 'f');have I:=m.inv;have neP:∀{b:Addr}{o:HO},H2 b=some o->b≠P:=λe z=>by rw[z,pP.2.1]at e;cases e
 have nec:∀{b:Addr}{o:HO},H2 b=some o->b≠c':=λe z=>by rw[z,pc.2.1]at e;cases e
 have ne:∀{b:Addr},b≠P->b≠c'->yH P c' pos H2 b=H2 b:=λh1 h2=>by unfold yH;rw[Ä h1,Ä h2]
 have up:∀{b:Addr}{o:HO},H2 b=some o->yH P c' pos H2 b=some o:=λe=>by rw[ne (neP e) (nec e)];exact e
 have dn:∀{b:Addr},H' b=none->H2 b=none->yH P c' pos H2 b=none:=λ{b}e1 e2=>by
  rw[ne (λz=>by rw[z,m.lm]at e1;cases e1) (λz=>by rw[z,m.own]at e1;cases e1)];exact e2
 have sP:yH P c' pos H2 P=some (sZ pos):=by unfold yH;rw[Â rfl]
 have sc:yH P c' pos H2 c'=some (.own P):=by unfold yH;rw[Ä m.ne,Â rfl]
 refine⟨⟨I2.ok,I2.os,I2.bare,⟨I2.base.keep,I2.base.slot,λb o e n hx=>dn (I.base.free b o e n hx) (I2.base.free b o e n hx),I2.base.there,λb xs e=>up (I2.base.tups b xs e),λb o u e=>up (I2.base.frzs b o u e),λb ps e=>?_⟩,I2.loc,I2.cell,dn I.free I2.free,λx c e=>dn (I.freeC x c e) (I2.freeC x c e),λp hp=>?_,λb o e=>?_,I2.len⟩,λb o e=>?_⟩
 .obtain⟨more,q⟩:=I2.base.tbls b ps e
  exact⟨more,up q⟩
 .have hp2:p∈X.pn++((f,fo)::(c',oc)::(P,QU pos c')::À):=by
   rcases ă.mp hp with z|z
   .exact Ć _ z
   .exact Û _ (by simp[z])
  let⟨a1,a2,a3⟩:=I2.pin p hp2;exact⟨a1,dn (I.pin p hp).2.1 a2,a3⟩
 .by_cases h1:b=P
  .subst h1
   rw[sP]at e;cases e;exact⟨_,pP.1,.inr ⟨c',rfl,sc,m.ne,c',oc,vs,t,rfl,pc.1,e2,e3⟩⟩
  .by_cases h2:b=c'
   .subst h2
    rw[sc]at e;cases e;exact⟨oc,pc.1⟩
   .rw[ne h1 h2]at e
    exact(I2.hok b o e).stay (λ_ _ _ q=>q) (λd q=>up q) λd xs q=>up q
 .have e':=m.same b o e
  by_cases h1:b=P
  .subst h1;rw[m.lm]at e';cases e';exact sP
  .by_cases h2:b=c'
   .subst h2;rw[m.own]at e';cases e';exact sc
   .rw[ne h1 h2]
    exact hs b o (by rw[iO h1 h2];exact e')
end
abbrev lamE(scope:Scope)(x:Str)(cc:Addr)(s:Shared)(f c':Addr):Env:=W.envX kW scope s.heap.objs.size f (.ref c') [(x,cc)]
def œ(X:Cx)(scope:Scope)(p x:Str)(cc:Addr)(s:Shared)(H:Hp)(f c':Addr):Cx where
 prog:=X.prog
 w:=X.w
 K:=X.K
 mg:=X.mg
 base:=X.base
 A:=X.A.in1.deeper (lamE scope x cc s f c')
 N:=[p,x]
 s₀:=s
 H₀:=H
 env:=lamE scope x cc s f c'
 outer:=X.stack
 stack:=lamE scope x cc s f c'::X.stack
 ex:=[]
 calm:=true
 fn:=λy=>y == p
 pn:=[]
 xe:=λe s'=>wpAny 'b' (X.A.in1.deeper (lamE scope x cc s f c')) (leaving (lamE scope x cc s f c') e) (λ_ _=>False) (λ_ _=>False) s'
structure WM(scope:Scope)(p x:Str):Prop where
 names:scope.names=[(p,.local),(x,.free)]\/scope.names=[(x,.free),(p,.local)]
 ne:(p == x)=false
 kind:scope.kind=.function
 co:scope.isCoroutine=false
 gen:scope.isGenerator=false
section
variable {X:Cx}{À:ZB}{σ:St}{H:Hp}{s:Shared}{params:Arguments}{body:Expr}{scope:Scope}{p x:Str}{cc f c':Addr}
theorem WM.look(S:WM scope p x):scope.names.lookup p=some .local/\scope.names.lookup x=some .free/\∀y,(scope.names.lookup y=some .cell\/scope.names.lookup y=some .free)->y=x:=by
 have h1:=S.ne;have h2:(x == p)=false:=by
  rw[beq_eq_false_iff_ne]at h1⊢;exact λz=>h1 z.symm
 rcases S.names with e|e<;>rw[e]
 .refine⟨by simp[å],by simp[å,h2],λy hy=>?_⟩
  by_cases q1:y=p
  .subst q1;simp[å]at hy
  .by_cases q2:y=x
   .exact q2
   .simp[å,beq_eq_false_iff_ne.mpr q1,beq_eq_false_iff_ne.mpr q2]at hy
 .refine⟨by simp[å,h1],by simp[å],λy hy=>?_⟩
  by_cases q2:y=x
  .exact q2
  .by_cases q1:y=p
   .subst q1;simp[å,h1]at hy
   .simp[å,beq_eq_false_iff_ne.mpr q1,beq_eq_false_iff_ne.mpr q2]at hy
def QW(I:Inv X À σ H s)(S:WM scope p x)(hc:X.calm=true)(rv:bI v u)(rt:bI vt ut)(hcell:s.heap.IsCell cc (some ut))(hH:H cc=none)(hb:X.A.in1.frames=some X.stack)(hn:h1.Ns s.heap.objs.size (λy=>[(p,u)].reverse.lookup y))(hk:∀b o,s.heap.get? b=some o->h1.get? b=some o)(e1:s1={s with heap:=h1,toks:=s.toks+1}):
  Inv (œ X scope p x cc s H f c') [] [some v,some vt] H s1:=by
 subst e1;let⟨l1,l2,l3⟩:=S.look;have lx:∀y c,([(x,cc)]:List (Str×Addr)).lookup y=some c->y=x/\c=cc:=λy c e=>by
  rw[å]at e;cases q:y == x with
  |true=>rw[q]at e;cases e;exact⟨eq_of_beq q,rfl⟩
  |false=>rw[q]at e;cases e
 have noA:∀b:Addr,b∉(œ X scope p x cc s H f c').ex:=λb z=>absurd (show b∈([]:ZM)from z) 'f';refine⟨⟨I.mod,S.kind,rfl,rfl,È _,λy z c a1 a2=>?_,λy hy=>?_,λy c a1 a2=>?_,λ_=>?_,Around.frames_deeper hb,.inr ⟨rfl,rfl⟩,λb z=>absurd z (noA b),I.bs,?_,λb _ _=>noA b,λb z=>absurd z (noA b),I.stack,I.stkFree⟩,
  rfl,I.bare,Un.kept hk,⟨_,hn,λi y v' a1 a2 a3=>?_⟩,λy c a=>?_,I.hok.fresh (È _),λy c a=>?_,λq hq=>absurd (show q∈([]:ZB)from hq) 'f',I.hok.kept hk,rfl⟩
 .rw[(lx y c a1).1,(lx z c a2).1]
 .have:=l3 y hy
  subst this;exact⟨cc,by show ([(y,cc)]:List (Str×Addr)).lookup y=some cc;simp[å]⟩
 .have e:=(lx y c a2).1
  subst e;have a1:(y == p)=true:=a1;have:=S.ne;rw[eq_of_beq a1]at this;simp at this
 .exact I.ok.hd hc
 .exact Ø I.ok.bsz I.sz
 .match i,a1,a2 with
  |0,a1,a2=>
   cases a1;cases a2;exact⟨u,rv,.inl ⟨l1,by simp[å]⟩⟩
  |1,a1,a2=>
   cases a1;cases a2;refine⟨ut,rt,.inr ⟨.inr l2,cc,by show ([(x,cc)]:List (Str×Addr)).lookup x=some cc;simp[å],?_⟩⟩
   let⟨o,ho,hd⟩:=hcell;exact⟨o,hk _ _ ho,hd⟩
  |i+2,a1,a2=>cases a1
 .obtain⟨rfl,rfl⟩:=lx y c a
  let⟨o,ho,hd⟩:=hcell;exact⟨_,o,hk _ _ ho,hd⟩
 .obtain⟨rfl,rfl⟩:=lx y c a
  exact hH
def WN{i:Nat}(I:Inv X À σ H s)(S:WM scope p x)(hc:X.calm=true)(hr:fD 0 X.A)(hfr:X.A.in1.frames=some X.stack)(hf:(f,W.kla_obj "<lambda>" kW params body scope [(x,cc)] pm c' ctv)∈À)(hoc:(c',oc)∈À)(e2:oc.data=.fields cvs)(e3:cvs[1]?=some (.str kW ct))(hN:X.N[i]?=some x)(hσ:σ[i]?=some (some vt))(hkd:X.env.scope.names.lookup x=some .cell)(hxc:X.env.cells.lookup x=some cc)(hbind:bindArgs (W.kla_fn "<lambda>" kW params body scope [(x,cc)] pm (.ref c') ctv) ⟨[u],[]⟩=pure [(p,u)])(rv:bI v u)(hb:PE (œ X scope p x cc s H f c') body tb)(ht:tb [some v,some vt] H (λw H'=>w=.int k/\aM H H')):
  wpAny 'b' X.A.in1 (call (.ref f) [u]) (λu' s'=>∃t H',u'=.int k t/\aM H H'/\Inv X À σ H' s') E s:=by
 let⟨l1,l2,l3⟩:=S.look;let⟨m,_,hl⟩:=id I.loc;let⟨ut,rt,lk⟩:=hl i x vt hN hσ (.inr (.inl hkd));have hcell:s.heap.IsCell cc (some ut):=by
  rcases lk with ⟨q,_⟩|⟨_,c,q,z⟩
  .rw[show X.env.kindOf x=X.env.scope.names.lookup x from rfl,hkd]at q;cases q
  .rw[hxc]at q;cases q;exact z
 have pf:=I.pin _ (Û _ hf);have pc:=I.pin _ (Û _ hoc);refine wpAny_call (W.kla_callFunE (body:=body) ?_ pf.1 rfl S.co S.gen rfl ⟨c',oc,cvs,ct,rfl,pc.1,e2,e3⟩ ?_)
 .have:=hr.dp
  show X.A.depth<_;lia
 rw[hbind];have hnc:∀y∈scope.names,y.2≠.cell:=λy hy=>by
  rcases S.names with e|e<;>rw[e]at hy<;>simp at hy<;>rcases hy with rfl|rfl<;>(intro h;cases h)
 refine wpAny_pure (wpAny_newFunctionEnv hnc (λy hy=>by rw[ì.mp hy];exact l1) (λh1 hns hsb=>⟨I.nolimit.fresh _ hsb,?_⟩) S.kind);have hk1:∀b o,s.heap.get? b=some o->h1.get? b=some o:=λb o e=>hsb.extBut b o (Ì (Heap.lt_size e)) (Heap.get?_push_of_some _ e);show codeAny _ _ (.expr body (lamE scope x cc s f c')) _ _;have J:Inv (œ X scope p x cc s H f c') [] [some v,some vt] H {s with heap:=h1,toks:=s.toks+1}:=QW I S hc rv rt hcell (I.freeC x cc hxc) hfr hns hk1 rfl;refine W.kla_codeExpr (wpAny_mono (hb [] _ [some v,some vt] H _ J ht) (λu' s' q=>?_) λe s' q=>?_)
 .obtain⟨w,H',J',rw',rfl,sm⟩:=q
  let⟨t,rfl⟩:=rw';exact⟨t,H',rfl,sm,I.call' (ch:=[]) J'.os J'.base J'.hok J'.bare (λ_ z=>nomatch z)⟩
 .exact wpAny_mono q (λ_ _ z=>z.elim) λ_ _ z=>z.elim
end
def dD{α:Type}:Option (α×Int)->List (α×Int)->Option (α×Int)
 |o,[]=>o
 |none,y::ys=>dD (some y) ys
 |some m,y::ys=>dD (some (if y.2<m.2 then y else m)) ys
def aL1(b:Option (V×Int))(o:Option (Value×Tok)):Prop:=match b,o with
 |none,none=>True
 |some m,some z=>bI m.1 z.1
 |_,_=>False
def WO:Option (V×Int)->Option (Value×Tok)->Array Value
 |some m,some z=>#[z.1,.int m.2 z.2]
 |_,_=>#[]
section
variable {X:Cx}{À:ZB}{σ:St}{H0:Hp}{q l:Addr}{dv:Value}{R:Result->Shared->Prop}
def IC(a f d:Value):argsOk "min" ⟨[a],[("key",f),("default",d)]⟩:=by unfold argsOk;kernel_rfl
def aCE{prog:Program}{w:World}{A:Around}{E:ZA}{s:Shared}{x m:Int}{t t':Tok}{Q:ZA}(h:Q (.bool (decide (x<m))) s):wpAny (model prog w) A (richCompare .Lt (.int x t) (.int m t')) Q E s:=CmpOf.ints_lt (P:=λi v=>∃t,v=.int (if i=0 then x else m) t) (λi=>if i=0 then x else m) (λ_ _ h=>h) 0 1 _ _ s Q E ⟨t,rfl⟩ ⟨t',rfl⟩ (by simpa using h)
def yI(b:Option (V×Int))(o:Option (Value×Tok)):(WO b o).size<=sizeLine:=by
 unfold WO;split
 .show 2<=sizeLine;decide
 .show 0<=sizeLine;decide
abbrev vT(b:Option (V×Int))(o:Option (Value×Tok))(c:Nat):Obj:={cls:=.type "list",dict:=none,data:=.seq (WO b o) c,slots:=#[]}
def Inv.swp(I:Inv X (a::b::À) σ H s):Inv X (b::a::À) σ H s:=I.pins_of λp hp=>I.pin p (Û _ (by
 rcases Ï.mp hp with rfl|hp
 .exact Ó _ Õ
 .rcases Ï.mp hp with rfl|hp
  .exact Õ
  .exact Ó _ (Ó _ hp)))
def pA(o:Option (α×Int)):dD o []=o:=by cases o<;>rfl
def QX{vs:List V}{ks:ZK}(hlen:ks.length=vs.length)(hh:X.A.handled=none)(turn:∀(j:Nat)(v:V)(k:Int)(u:Value)(pins':ZB)(s:Shared)(H1:Hp),vs[j]?=some v->ks[j]?=some k->bI v u->aM H0 H1->(∀p∈À,p∈pins')->Inv X pins' σ H1 s ->
   wpAny 'b' X.A.in1 (call (.ref q) [u]) (λu' s'=>∃t H',u'=.int k t/\aM H1 H'/\Inv X pins' σ H' s') (λ_ _=>False) s)(hl:∀H1,aM H0 H1->eV X.K H1 l vs)(mI:H9 X À IA)(mS:H9 X À S)(hSI:S≠IA)(hlI:l≠IA)(done:∀u s' H1,(match dD none (vs.zip ks)with|none=>u=dv|some m=>bI m.1 u)->aM H0 H1->Inv X À σ H1 s'->R (.ok (.ret u)) s'):
  ∀(r j:Nat)(s:Shared)(H1:Hp)(b:Option (V×Int))(o:Option (Value×Tok))(c:Nat)(oI:Obj),vs.length-j=r->j<=vs.length->dD b ((vs.zip ks).drop j)=dD none (vs.zip ks)->aL1 b o->aM H0 H1 ->
   oI.cls=.type "list_iterator"->oI.data=.fields #[.ref l,.int j 0]->Inv X ((S,vT b o c)::(IA,oI)::À) σ H1 s ->
   codeAny 'b' X.A (.builtin "min.loop" ⟨[.ref IA,.ref q,.ref S],[("default",dv)]⟩) R s:=by
 have nm:(toString "min"++toString ".loop":String)="min.loop":=by decide
 have mS':∀oI:Obj,H9 X ((IA,oI)::À) S:=λoI=>⟨λp hp=>by
  rcases ă.mp hp with hp|hp
  .exact mS.pin p (Ć _ hp)
  .rcases Ï.mp hp with rfl|hp
   .exact Í hSI
   .exact mS.pin p (Û _ hp),mS.new,mS.loc,mS.cells⟩
 have mI':∀oS:Obj,H9 X ((S,oS)::À) IA:=λoS=>⟨λp hp=>by
  rcases ă.mp hp with hp|hp
  .exact mI.pin p (Ć _ hp)
  .rcases Ï.mp hp with rfl|hp
   .exact hSI
   .exact mI.pin p (Û _ hp),mI.new,mI.loc,mI.cells⟩
 intro r
 induction r with
 |zero=>
  intro j s H1 b o c oI hr hj hb hbo sm hoc hod I;obtain rfl:j=vs.length:=by lia
  rw[List.drop_of_length_le (by rw[ë];lia),pA]at hb;have pS:=I.pin _ (Û _ Õ);have pI:=I.pin _ (Û _ (Ó _ Õ));let⟨its,rv,pl,hz⟩:=I.list (hl H1 sm);have hn:=rv.length;have W:=Walks.list (prog:=X.prog) (w:=X.w) (A:=X.A.in1) (show X.A.in1.handled=none from hh) IA l hlI its.toArray;refine codeAny_builtin F.entry_min_loop ?_;rw[Around.under_plainId F.plain_min_loop _];refine(show wpAny _ X.A.in1 (seqItems? (.ref S) >>= _) _ _ s from wpAny_bind (wpAny_seqItems pS.1 rfl ?_));refine(show wpAny _ X.A.in1 (tryCatch (pyNext (.ref IA)) _ >>= _) _ _ s from wpAny_bind (wpAny_tryCatch (W.done s _ _ ⟨⟨oI,pI.1,hoc,by rw[hod];simp[<- hn]⟩,pl.isList⟩ λh' tk hk'=>?_)))
  have I1:Inv X ((S,vT b o c)::À) σ H1 {s with heap:=h',toks:=tk}:=I.swp.unpin.turned (it:=IA) (λb o hb e=>hk' b o (by simpa using hb) e) pI.2.1 (mI' (vT b o c)).loc (.inr mI.new) mI.cells (mI' (vT b o c)).pin;cases o with
  |none=>
   cases b with
   |some m=>exact hbo.elim
   |none=>
    refine wpAny_bind (wpAny_rule (wpAny_pure (done dv _ H1 ?_ sm I1.unpin)));rw[<- hb]
  |some z=>
   cases b with
   |none=>exact hbo.elim
   |some m=>
    have pS1:=I1.pin _ (Û _ Õ);refine(show wpAny _ X.A.in1 (updateSeq S (λ_=>#[]) >>= _) _ _ _ from wpAny_bind (wpAny_updateSeq pS1.1 rfl (wpAny_bind (wpAny_letGo (wpAny_pure ?_))) (hz:=yI _ _) (_hz':=ò _)));refine done z.1 _ H1 (by rw[<- hb];exact hbo) sm ?_;exact I1.unpin.turned (t':=tk) (it:=S) (λb o hb e=>(Heap.get?_update_other _ _ (Í hb)).trans e) pS1.2.1 mS.loc (.inr mS.new) mS.cells mS.pin
 |succ r ih=>
  intro j s H1 b o c oI hr hj hb hbo sm hoc hod I;have hlt:j<vs.length:=by lia
  have pS:=I.pin _ (Û _ Õ);have pI:=I.pin _ (Û _ (Ó _ Õ));let⟨its,rv,pl,hz⟩:=I.list (hl H1 sm);have hn:=rv.length;have W:=Walks.list (prog:=X.prog) (w:=X.w) (A:=X.A.in1) (show X.A.in1.handled=none from hh) IA l hlI its.toArray;obtain⟨v,hv⟩:∃v,vs[j]?=some v:=⟨_,Ê hlt⟩;obtain⟨k,hk⟩:∃k,ks[j]?=some k:=⟨_,Ê (by exact ð ‹_› (Eq.symm ‹_›))⟩;have ed:(vs.zip ks).drop j=(v,k)::(vs.zip ks).drop (j+1):=by
   have hz:(vs.zip ks)[j]?=some (v,k):=by rw[Ę];exact⟨hv,hk⟩
   let⟨h1,h2⟩:=Î.mp hz;rw[ÿ h1,h2]
  rw[ed]at hb;refine codeAny_builtin F.entry_min_loop ?_;rw[Around.under_plainId F.plain_min_loop _];refine(show wpAny _ X.A.in1 (seqItems? (.ref S) >>= _) _ _ s from wpAny_bind (wpAny_seqItems pS.1 rfl ?_));refine(show wpAny _ X.A.in1 (tryCatch (pyNext (.ref IA)) _ >>= _) _ _ s from wpAny_bind (wpAny_tryCatch (W.item j s _ _ (by simp;exact ð ‹_› ‹_›) ⟨⟨oI,pI.1,hoc,hod⟩,pl.isList⟩ λu h' tk hp hst' hk'=>?_)));let⟨oI',hoI',hoc',hod'⟩:=hst'.1;have ru:bI v u:=by
   let⟨u',e1,e2⟩:=rv.get hv;have hp:its.toArray[j]?=some u:=hp;rw[List.getElem?_toArray,e1]at hp;cases hp;exact e2
  have I1:Inv X ((S,vT b o c)::(IA,oI')::À) σ H1 {s with heap:=h',toks:=tk}:=(I.swp.repin (mI' _) (λb o hb e=>hk' b o (by simpa using hb) e) hoI' (λv=>by rw[hod'];simp)).swp;have hsub:∀p∈À,p∈(S,vT b o c)::(IA,oI')::À:=λp hp=>Ó _ (Ó _ hp);refine(show wpAny _ X.A.in1 (tryCatch (holding [u] (call (.ref q) [u])) _ >>= _) _ _ _ from wpAny_bind (wpAny_tryCatch (wpAny_holding (wpAny_mono (turn j v k u _ _ H1 hv hk ru sm hsub I1) (λx s2 he=>?_) λ_ _ hF=>hF.elim))));let⟨t,H2,rfl,sm2,I2⟩:=he;have smA:aM H0 H2:=sm.trans' sm2;have pS2:=I2.pin _ (Û _ Õ);have new:dD (some (v,k)) ((vs.zip ks).drop (j+1))=dD none (vs.zip ks)->codeAny 'b' X.A (.builtin "min.loop" ⟨[.ref IA,.ref q,.ref S],[("default",dv)]⟩) R {s2 with heap:=s2.heap.update S (Obj.mapSeq λ_=>#[u,.int k t])}:=λhb=>by
   obtain⟨c2,hc2⟩:∃c2,(s2.heap.update S (Obj.mapSeq λ_=>#[u,.int k t])).get? S=some (vT (some (v,k)) (some (u,t)) c2):=⟨_,get?_update_seq pS2.1 λ_=>#[u,.int k t]⟩;exact ih (j+1) _ H2 (some (v,k)) (some (u,t)) c2 oI' ∅ hlt hb ru smA hoc' hod' (I2.repin (t':=s2.toks) (mS' oI') (λb o hb e=>(Heap.get?_update_other _ _ (Í hb)).trans e) hc2 (λv=>by simp))
  cases o with
  |none=>
   cases b with
   |some m=>exact hbo.elim
   |none=>
    refine(show wpAny _ X.A.in1 (updateSeq S (λ_=>#[u,.int k t]) >>= _) _ _ _ from wpAny_bind (wpAny_updateSeq pS2.1 rfl ?_ (hz:=yI _ _) (_hz':=(by show 2<=sizeLine+1;decide))));rw[nm];exact wpAny_pure ⟨plainId_quiet F.plain_min_loop _,new hb⟩
  |some z=>
   cases b with
   |none=>exact hbo.elim
   |some m=>
    refine(show wpAny _ X.A.in1 (tryCatch (holding [u,.int k t] (richCompare .Lt (.int k t) (.int m.2 z.2) >>= _)) _ >>= _) _ _ _ from wpAny_bind (wpAny_tryCatch (wpAny_holding (wpAny_bind (aCE ?_)))));refine wpAny_bind (wpAny_holding (wpAny_truthy_bool (wpAny_bind (wpAny_letGo (wpAny_pure ?_)))));have hb':dD (some (if k<m.2 then (v,k)else m)) ((vs.zip ks).drop (j+1))=dD none (vs.zip ks):=hb;by_cases hg:k<m.2
    .rw[Â hg]at hb'
     simp![hg,decide_true,if_true];refine wpAny_bind (wpAny_updateSeq pS2.1 rfl (wpAny_bind (wpAny_letGo ?_)) (hz:=yI _ _) (_hz':=(by show 2<=sizeLine+1;decide)));rw[nm];exact wpAny_pure ⟨plainId_quiet F.plain_min_loop _,new hb'⟩
    .rw[Ä hg]at hb'
     simp![hg,decide_false,Bool.false_eq_true,if_false];refine wpAny_bind (wpAny_letGo ?_);rw[nm];exact wpAny_pure ⟨plainId_quiet F.plain_min_loop _,ih (j+1) s2 H2 (some m) (some z) c oI' ∅ hlt hb' hbo smA hoc' hod' I2⟩
def QY{ks:ZK}(hlen:ks.length=vs.length)(hh:X.A.handled=none)(I:Inv X À σ H0 s)(hq:eV X.K H0 l vs)(turn:∀(j:Nat)(v:V)(k:Int)(u:Value)(pins':ZB)(s:Shared)(H1:Hp),vs[j]?=some v->ks[j]?=some k->bI v u->aM H0 H1->(∀p∈À,p∈pins')->Inv X pins' σ H1 s ->
   wpAny 'b' X.A.in1 (call (.ref q) [u]) (λu' s'=>∃t H',u'=.int k t/\aM H1 H'/\Inv X pins' σ H' s') (λ_ _=>False) s)(done:∀u s' H1,(match dD none (vs.zip ks)with|none=>u=dv|some m=>bI m.1 u)->aM H0 H1->Inv X À σ H1 s'->Q u s'):
  wpAny 'b' X.A (call (.builtin "min") [.ref l] [("key",.ref q),("default",dv)]) Q E s:=by
 have nm:(toString "min"++toString ".loop":String)="min.loop":=by decide
 refine wpAny_call (codeAny_call_builtin F.plain_min F.entry_min ?_);simp![checkBuiltinCall,F.kind_min];let⟨its,rv,pl,hz⟩:=I.list hq;have hlt:l<s.heap.objs.size:=by
  let⟨o,n,e,_⟩:=pl;exact Heap.lt_size e
 have key:wpAny 'b' X.A.in1 (Builtin.«min» ⟨[.ref l],[("key",.ref q),("default",dv)]⟩) (λfin s'=>match fin with
   |.done f=>(match (Except.ok f:Result)with|.ok (.ret v)=>Q v s'|.ok _=>False|.error e=>E e s')
   |.again c'=>c'.quiet=true/\codeAny 'b' X.A c' (λr s'=>match r with|.ok (.ret v)=>Q v s'|.ok _=>False|.error e=>E e s') s') E s:=by
  refine(show wpAny _ X.A.in1 (Builtin.Builtins.bindParams "min" ["key","default"] 0 ⟨[],[("key",.ref q),("default",dv)]⟩ >>= _) _ _ s from wpAny_bind (wpAny_of_eq (show Builtin.Builtins.bindParams "min" ["key","default"] 0 ⟨[],[("key",.ref q),("default",dv)]⟩=pure [some (.ref q),some dv]from rfl) ?_));refine wpAny_bind (wpAny_pure (wpAny_bind (wpAny_pyIter_list pl.isList ?_)));refine wpAny_bind (wpAny_newObj_type ?_);rw[nm];have hS:(s.heap.push {cls:=.type "list_iterator",data:=.fields #[.ref l,.int 0 0]}).objs.size=s.heap.objs.size+1:=by rw[Heap.size_push]
  have I1:Inv X ((s.heap.objs.size,{cls:=.type "list_iterator",data:=.fields #[.ref l,.int 0 0]})::À) σ H0 {s with heap:=s.heap.push {cls:=.type "list_iterator",data:=.fields #[.ref l,.int 0 0]}}:=
   (I.kept (t':=s.toks) λb o e=>Heap.get?_push_of_some _ e).pinNew (Heap.get?_push_size _ rfl) (I.hok.fresh (È _)) (Ü I.lt) (I.nofs (È _)) (λv=>by simp)
  have mI:H9 X À s.heap.objs.size:=I.mine (È _);have mS:H9 X À (s.heap.push {cls:=.type "list_iterator",data:=.fields #[.ref l,.int 0 0]}).objs.size:=I.mine (by rw[hS];exact Nat.le_succ _);have I2:=(I1.kept (t':=s.toks) (h':=(s.heap.push {cls:=.type "list_iterator",data:=.fields #[.ref l,.int 0 0]}).push (vT none none 0)) λb o e=>Heap.get?_push_of_some _ e).pinNew (a:=(s.heap.push {cls:=.type "list_iterator",data:=.fields #[.ref l,.int 0 0]}).objs.size) (Heap.get?_push_size _ rfl) (I1.hok.fresh (È _)) (Ü I1.lt) (I1.nofs (È _)) (λv=>by simp);refine wpAny_pure ⟨plainId_quiet F.plain_min_loop _,QX (H0:=H0) (dv:=dv) hlen hh turn (λH1 sm=>sm.seq hq) mI mS (λz=>Nat.succ_ne_self _ (hS.symm.trans z)) (Ì hlt) done _ 0 _ H0 none none 0 _ rfl (ò _) (by rw[List.drop_zero]) trivial (λ_ _ e=>e) rfl rfl I2⟩
 have ha:=IC (.ref l) (.ref q) dv;cases hsig:Manifest.signature? "min"with
 |none=>exact wpAny_pure key
 |some sig=>
  simp![argsOk,hsig]at ha;have h2:Bind.checkArgs "min" sig ⟨[.ref l],[("key",.ref q),("default",dv)]⟩=pure ():=ha;refine(show wpAny _ X.A.in1 (Bind.checkArgs "min" sig ⟨[.ref l],[("key",.ref q),("default",dv)]⟩) _ _ s from ?_);rw[h2];exact wpAny_pure key
end
def iC(hs:ZK):ZK->Option (ZK)
 |[]=>some []
 |n::ns=>match atI hs n,iC hs ns with
  |some k,some ks=>some (k::ks)
  |_,_=>none
def yJ :∀{ns ks:ZK},iC hs ns=some ks->ks.length=ns.length
 |[],ks,h=>by cases h;rfl
 |n::ns,ks,h=>by
  unfold iC at h;split at h
  .rename_i k ks' _ e2
   cases h;simp[yJ e2]
  .cases h
def CC :∀{ns ks:ZK}{j:Nat}{n k:Int},iC hs ns=some ks->ns[j]?=some n->ks[j]?=some k->atI hs n=some k
 |m::ns,ks,j,n,k,h,e1,e2=>by
  unfold iC at h;split at h
  .rename_i k0 ks' q1 q2
   cases h;cases j with
   |zero=>cases e1;cases e2;exact q1
   |succ j=>exact CC q2 (by simpa using e1) (by simpa using e2)
  .cases h
def WP(h:atI hs n=some k):atI (hs.map V.int) n=some (.int k):=by
 unfold atI at h⊢;rw[Æ];cases e:lN hs.length n with
 |none=>rw[e]at h;cases h
 |some j=>
  rw[e]at h;have h:hs[j]?=some k:=h;show (hs.map V.int)[j]?=_;rw[Ñ,h];rfl
def CD:∀{ds:ZI}{l:ZK},c6 ds=some l->ds=l.map .int
 |[],l,h=>by cases h;rfl
 |.int i::r,l,h=>by
  unfold c6 at h;cases e:c6 r with
  |none=>rw[e]at h;cases h
  |some l'=>
   rw[e]at h;cases h;rw[CD e];rfl
 |.none::_,_,h=>by cases h
 |.bool _::_,_,h=>by cases h
 |.str _::_,_,h=>by cases h
 |.list _::_,_,h=>by cases h
 |.tuple _::_,_,h=>by cases h
 |.dict _::_,_,h=>by cases h
def wO(i:Nat)(nm fld:Str)(f:M D):M D:=λδ=>(f δ).bind λd δ1=>match d,δ1[i]? with
 |.list ds,some (some t)=>(match gM nm fld t with
  |some (.list hs)=>(match c6 hs,c6 ds with
   |some hs',some ns=>(match iC hs' ns with
    |some ks=>.ok ((dD none (ns.zip ks)).elim .none λm=>.int m.1) δ1
    |none=>.stuck)
   |_,_=>.stuck)
  |_=>.stuck)
 |_,_=>.stuck
def uS(g:α->β):∀(o:Option (α×Int))(l:List (α×Int)),dD (o.map λm=>(g m.1,m.2)) (l.map λm=>(g m.1,m.2))=(dD o l).map λm=>(g m.1,m.2)
 |o,[]=>by rw[List.map_nil,pA,pA]
 |none,y::ys=>uS g (some y) ys
 |some m,y::ys=>by
  have:=uS g (some (if y.2<m.2 then y else m)) ys;rw[Ð];show dD (some (if y.2<m.2 then (g y.1,y.2)else (g m.1,m.2))) _=_;rw[show (dD (some m) (y::ys))=dD (some (if y.2<m.2 then y else m)) ys from rfl,<- this];congr 1;split<;>rfl
def WQ{K:ZC}(h:eV K H l vs)(hP:H P=some (sZ pos))(hc:H c'=some (.own P)):eV K (pO P c' H) l vs:=by
 rcases h with (h|⟨o,h⟩)|h
 .exact .inl (.inl (by rw[iO (λz=>by rw[z,hP]at h;cases h) (λz=>by rw[z,hc]at h;cases h)];exact h))
 .exact .inl (.inr ⟨o,by rw[iO (λz=>by rw[z,hP]at h;cases h) (λz=>by rw[z,hc]at h;cases h)];exact h⟩)
 .exact .inr h
section
def QZ(i:Nat)(nm:Str){pm kp kp2 p1 p2 p3 p4 cpos npos:Pos}{jj:_}(hr:fD 0 X.A)(hc:X.calm=true)(hg:Gl X "min")(hm:X.mg "min"=none)(B:sY X.K X.mg X.base)(hl:jO X.K=some (c,P,pos))(hcode:X.env.code=.ref c)(hat:V3 X.K nm fld)(ha:DE X Z ow 0 e f)(Sc:WM scope p x)(hbind:∀(u pm':Value)(c':Addr)(ctv:Value),bindArgs (W.kla_fn "<lambda>" kW params (.Subscript (.Attribute (.Name x p1) fld p2) (.Name p p3) p4) scope [(x,cc)] pm' (.ref c') ctv) ⟨[u],[]⟩=pure [(p,u)])(hd1:(x == ("__debug__":Str))=false)(hd2:(x == ("__classdict__":Str))=false)(hd3:(p == ("__debug__":Str))=false)(hd4:(p == ("__classdict__":Str))=false)(hq:↥(X.env.qual++"<lambda>"=kW))(hcl:↥(closureFor scope X.env=pure [(x,cc)]))(hdef:↥(defaultsOf params X.env=([],[])))(ho:↥(ow.getD i 0=0))(hN:↥'q')(hkd:↥(X.env.scope.names.lookup x=some .cell))(hxc:↥(X.env.cells.lookup x=some cc))(hs:↥(Zse e [] X.env))(hv:bootBuiltins "min"=some (.builtin "min"):=by decide +kernel):
  DE X Z ow 0 (.Call (.Name "min" npos) [e] [⟨some "key",.Lambda params (.Subscript (.Attribute (.Name x p1) fld p2) (.Name p p3) p4) scope pos,kp⟩,⟨some "default",.Constant .none jj pm,kp2⟩] cpos) (wO i nm fld f):=λÀ s σ H Q I h=>by
 let⟨F,δ,R,h⟩:=h;unfold wO at h;refine wpAny_Call_Name_kw (j8 I hg hm hv ?_ ⋯ ⋯);have a1:backTo cpos (starEach [e] X.env)=(false,eval e X.env)::backTo cpos (starEach [] X.env):=by rw[hs];rfl
 have pre:TF (tD X Z ow 0 f) Ţ σ H (λvs H1=>∃l ns F1 δ1 t hs' ks,vs=[.ref l]/\cS X.K Z ow F1 H1 σ δ1/\eV X.K F1 l (ns.map V.int)/\aM F F1/\δ1[i]?=some (some t)/\gM nm fld t=some (.list (hs'.map .int))/\iC hs' ns=some ks /\
   kD X Z ow 0 (.ok ((dD none (ns.zip ks)).elim .none λm=>.int m.1) δ1) F1 σ Q):=by
  sleep 3;cases e1:f δ with
  |stuck=>rw[e1]at h;exact h.elim
  |err y δ1=>rw[e1]at h;exact h
  |ok d δ1=>
   rw[e1]at h;simp![Res.bind]at h;intro v H1 F1 R1 s1;cases d with
   |list ds=>
    cases e2:δ1[i]? with
    |none=>rw[e2]at h;exact h.elim
    |some o=>
     cases o with
     |none=>rw[e2]at h;exact h.elim
     |some t=>
      rw[e2]at h;dsimp only at h;split at h
      .rename_i hs2 e3
       split at h
       .rename_i hs' ns e4 e5
        split at h
        .rename_i ks e6
         let⟨l,vs,rfl,hx,rx⟩:=kE R1.rep;rw[i8 e5 rx]at hx;have e7:hs2=hs'.map .int:=CD e4;subst e7;exact⟨l,ns,F1,δ1,t,hs',ks,rfl,R1.rel,hx,s1,e2,e3,e6,h.mono s1 λ_ _ z=>z⟩
        .exact h.elim
       .exact h.elim
      .exact h.elim
   |_=>exact h.elim
 refine callWith_kw (cY ((eW ha iV hs) cpos À s σ H _ I pre) λus s1 zQ=>?_) a1 (by rw[a1];rfl) rfl rfl;let⟨vs,H1,I1,r,q⟩:=zQ;let⟨l,ns,F1,δ1,t,hs',ks,rfl,R1,hx,s1',ht,hf,hk,hQ⟩:=q;let⟨u',rfl,rx⟩:=pU r;cases rx;let⟨g,G⟩:=R1;have hP1:F1 P=some (sZ pos):=G.f0.lm c P pos hl;have hP:H1 P=some (sZ pos):=G.sub _ _ hP1;let⟨vt,ev,rt⟩:=G.slot i t ht;rw[ho]at rt;have rt:bG X.K F1 t vt:=rt;let⟨a,C,dx,fs,y,rfl,f1,f2,f3,f4⟩:=OD rt hf;let⟨lk,ws,rfl,hw,rw'⟩:=kE f4;have ew:=i8 i7 rw';subst ew;let⟨c1,c2⟩:=hat C f2;refine kws_cons (WL I1 B hl hP hcode hq hcl hdef λfa c' ctv H2 s2 m=>kws_cons (Constant_none (kws_nil ?_)));let⟨oc,cvs,ct,e2,e3,I3⟩:=m.hide (λv=>by simp[W.kla_obj]);have up:∀{l:Addr}{vs:List V},eV X.K F1 l vs->eV X.K (pO P c' H2) l vs:=λh=>WQ (m.same.seq (G.sub.seq h)) m.lm m.own;have upa:pO P c' H2 a=some (.ins C dx fs):=by
  have z:=m.same _ _ (G.sub _ _ f1);rw[iO (λq=>by rw[q,m.lm]at z;cases z) (λq=>by rw[q,m.own]at z;cases z)];exact z
 let⟨l1,l2,_⟩:=Sc.look;refine QY (vs:=ns.map V.int) (ks:=ks) (by rw[Æ];exact yJ hk) (I1.ok.hd hc) I3 (up hx) (λj v k u pins' s' H' hv hkk ru sm hsub I'=>?_) λu s' H' hu sm I'=>?_
 .rw[Ñ]at hv
  cases en:ns[j]? with
  |none=>rw[en]at hv;cases hv
  |some n=>
   rw[en]at hv;cases hv;have hkey:=WP (CC hk en hkk);refine WN (p:=p) (k:=k) I' Sc hc hr I'.ok.frames (hsub _ Õ) (hsub _ (Ó _ Õ)) e2 e3 hN ev hkd hxc (hbind _ _ _ _) ru (GS rT (DF (dM (i:=1) rfl (.inr (.inr l2)) hd1 hd2) rfl) (dM (i:=0) rfl (.inl l1) hd3 hd4) (λ_ _=>rfl)) ?_;exact⟨_,rfl,a,C,dx,fs,_,rfl,sm _ _ upa,c1,c2,f3,_,rfl,lk,hs'.map V.int,n,.int k,rfl,rfl,sm.seq (up hw),hkey,rfl,λ_ _ z=>z⟩
 .obtain⟨I4,sm4⟩:=m.show e2 e3 I' sm
  have G4:cS X.K Z ow F1 (yH P c' pos H') σ δ1:=⟨g,G.grow sm4⟩;have ez:(ns.map V.int).zip ks=(ns.zip ks).map λm=>(V.int m.1,m.2):=by
   rw[List.zip_map_left];rfl
  rw[ez]at hu;have eb:=uS V.int none (ns.zip ks);rw[Option.map_none]at eb;rw[eb]at hu;cases eb2:dD none (ns.zip ks)with
  |none=>
   rw[eb2]at hu hQ;subst hu;exact⟨.non,_,I4,rfl,hQ .non _ F1 (G4.x (by show bG X.K F1 .none .non;unfold bG;rfl)) (λ_ _ z=>z)⟩
  |some m2=>
   rw[eb2]at hu hQ;exact⟨.int m2.1,_,I4,hu,hQ (.int m2.1) _ F1 (G4.x (by show bG X.K F1 (.int m2.1) (.int m2.1);unfold bG;rfl)) (λ_ _ z=>z)⟩
end
def LQ{K:ZC}{H:Hp}{a:Addr}{ns:ZK}{owp:ZH}{f:ZI->Res D}{x:Str}(hS:eV K H a (ns.map V.int))(hf:f [.list (ns.map .int)]=.ok 'l' [])(hL:Z3 K H)(h0:↥(owp.getD 0 0=0)):
  SO K [x] [] owp 0 f [.ref a] H (λv H'=>v=.bl true/\aM H H') (λ_ _ _=>False):=by
 refine⟨rfl,H,λ_=>none,[.list (ns.map .int)],hL,aM.refl _,rfl,λa i p e=>(by cases e),λi d v e1 e2=>?_,by rw[hf];exact λv H' F' g' T=>⟨jP (F:=F') (K:=K) T.ret,λb o e=>T.kept b o rfl e⟩⟩
 cases i with
 |zero=>
  cases e1;cases e2;rw[h0];show bG K H _ _;unfold bG;refine⟨a,ns.map V.int,rfl,hS,?_⟩;clear hS hf
  induction ns with
  |nil=>exact iW
  |cons n ns ih=>exact lR fW ih
 |succ i=>simp at e1
def Q0{K:ZC}{ns:ZK}{c PT:Addr}{pos:Pos}(KX:K.In s₁.heap)(hns:s₁.heap.Ns mainGlobals mg)(hb:s₁.heap.Ns builtinsNs mb)(hbb:∀x:Str,x≠"__name__"->mb x=bootBuiltins x)(hlim:s₁.heap.NoLimit)(hg:s₁.gens=#[])(ha:s₁.heap.get? a=some {cls:=.type "list",data:=.seq vs.toArray})(hi:IntsAre vs ns)(hl:ns.length<=sizeLine)(hr:fD k callerA)(hlam:jO K=some (c,PT,pos))(hcd:W.CodeHd s₁.heap c PT)(hPT:s₁.heap.get? PT=some (W.tabObj #[]))(hnt:W.noTabs K=true)(hbm:∃bm ob,mg "__builtins__"=some (.ref bm)/\bm≠builtinsNs/\s₁.heap.get? bm=some ob/\ob.cls=.type "module"/\ob.dict=some builtinsNs/\ob.data=.plain)(F:∀base:Heap,K.In base->base.Ns mainGlobals mg->sY K mg base->qI P w K mg base CX k fa fd [x] sp)(hbind:∀(s:Shared)(u:Value),BindsTo s fd ⟨[u],[]⟩ [(x,u)])(hsp:∀H:Hp,Z3 K H->eV K H a (ns.map V.int)->sp [.ref a] H (λv H'=>v=.bl true/\aM H H') λ_ _ _=>False)(hCX:∀H e s',CX [] H s₁ (λ_ _ _=>False) e s'->False):
  codeAny (model P w) callerA (.call (.ref fa) ⟨[.ref a],[]⟩) (λr s'=>r=.ok (.ret 'l')/\OldK s₁.heap s'.heap/\s'.os=s₁.os/\AllBare s'.gens) s₁:=by
 have rv:=BM hi;have lenV:=hi.length;have haP:a≠PT:=λz=>by rw[z,hPT]at ha;cases ha
 have hKP:K.lookup PT=none:=by
  cases q:K.lookup PT with
  |none=>rfl
  |some o=>
   have e:=KX PT o q;rw[hPT]at e;cases e;have h2:=é.mp hnt (PT,_) (W.mem_of_lookupK q);exact absurd (show false=true from h2) Ú
 have core:∀H:Hp,H PT=some (sZ pos)->eV K H a (ns.map V.int)->mQ P w H s₁.heap->(∀b u,H b=some u->(b=PT/\u=sZ pos)\/(b=a/\u=.frz {cls:=.type "list",data:=.seq vs.toArray} (.lst (ns.map V.int))/\K.lookup a=none)) ->
   codeAny (model P w) callerA (.call (.ref fa) ⟨[.ref a],[]⟩) (λr s'=>r=.ok (.ret 'l')/\OldK s₁.heap s'.heap/\s'.os=s₁.os/\AllBare s'.gens) s₁:=by
  intro H hO hS hok hA;have base_of:∀{b:Addr}{o:Obj},s₁.heap.get? b=some o->H b=none->(AT s₁.heap H).get? b=some o:=λe n=>SU e n;have noA:∀{b:Addr}{o:Obj},s₁.heap.get? b=some o->(∀z,o.data≠.seq z 0)->o.cls≠.none->H b=none:=λ{b o}e d d2=>by
   cases q:H b with
   |none=>rfl
   |some u=>
    rcases hA b u q with ⟨rfl,_⟩|⟨rfl,_⟩
    .rw[hPT]at e;cases e;exact absurd rfl d2
    .rw[ha]at e;cases e;exact absurd rfl (d vs.toArray)
  have nsK:∀{b:Addr}{m:ZD},s₁.heap.Ns b m->(AT s₁.heap H).Ns b m:=λ{b m}⟨o,es,ep,e,d,r⟩=>⟨o,es,ep,base_of e (by
   cases q:H b with
   |none=>rfl
   |some u=>
    rcases hA b u q with ⟨rfl,_⟩|⟨rfl,_⟩
    .rw[hPT]at e;cases e;cases d
    .rw[ha]at e;cases e;cases d),d,r⟩
  have hKb:K.In (AT s₁.heap H):=λb o e=>base_of (KX b o e) (by
   cases q:H b with
   |none=>rfl
   |some u=>
    rcases hA b u q with ⟨rfl,_⟩|⟨rfl,_,z⟩
    .rw[hKP]at e;cases e
    .rw[z]at e;cases e)
  have hM:Mod K mg (AT s₁.heap H):=⟨hKb,nsK hns,⟨mb,nsK hb,hbb⟩,let ⟨mc,h1,h2⟩:=hlim;⟨mc,nsK h1,h2⟩⟩
  have hB:sY K mg (AT s₁.heap H):=by
   refine⟨?_,λc2 P2 pos2 e=>?_⟩
   .obtain⟨bm,ob,b1,b2,b3,b4,b5,b6⟩:=hbm
    exact⟨bm,ob,b1,b2,base_of b3 (noA b3 (λz=>by rw[b6];simp) (by rw[b4];simp)),b4,b5,b6⟩
   .rw[hlam]at e;cases e
    let⟨o,vs,file,tf,flags,tg,ϣ,text,tt,e1,e2,e3,r⟩:=hcd;exact⟨o,vs,file,tf,flags,tg,ϣ,text,tt,base_of e1 (noA e1 (λz=>by rw[e3];simp) (by rw[e2];simp)),e2,e3,r⟩
  have e0:KY P w K mg (AT s₁.heap H) callerA [] s₁ H:=⟨rfl,hM,λb o e=>Z9 e,õ (P3 _ _),trivial,λb hb=>absurd (show b∈([]:ZM)from hb) 'f',hok,.of_eq hg⟩;have hLm:Z3 K H:=λc2 P2 pos2 e=>by rw[hlam]at e;cases e;exact hO
  refine codeAny_mono ((F _ hKb (nsK hns) hB).run callerA [] s₁ H ⟨[.ref a],[]⟩ [.ref a] [.ref a] _ _ hr e0 (hbind s₁ (.ref a)) (.cons rfl .nil) (hsp H hLm hS)) λr s' h=>?_;cases r with
  |error e=>exact(hCX H e s' h).elim
  |ok fl=>
   cases fl with
   |next=>exact False.elim h
   |brk=>exact False.elim h
   |cont=>exact False.elim h
   |ret u=>
    let⟨v,H',os,bare,un,hok',r',q⟩:=h;let⟨q',sm⟩:=q;subst q';obtain rfl:u=Value.bool true:=r';refine⟨rfl,⟨λb o e=>?_,λb o e=>un.there b o e 'f'⟩,os,bare⟩;cases q:H b with
    |none=>exact .inl (un.keep b o e q (by intro z;exact absurd (show b∈([]:ZM)from z) 'f') 'f')
    |some u=>
     rcases hA b u q with ⟨rfl,rfl⟩|⟨rfl,rfl,_⟩
     .rw[hPT]at e;cases e
      let⟨ps,e1,_⟩:=hok' _ _ (sm _ _ q);exact .inr (.inl ⟨(hcd.tab hPT).isCodeTable,rfl,#[],ps,rfl,by rw[e1];simp⟩)
     .obtain⟨e2,_⟩:=hok' _ _ (sm _ _ q)
      rw[ha]at e;cases e;exact .inl e2
 cases hk:K.lookup a with
 |some o=>
  have e:=KX a o hk;rw[ha]at e;cases e;refine core (λb=>if b=PT then some (sZ pos)else none) (Â rfl) (.inr ⟨_,vs.toArray,_,hk,rfl,rfl,rfl,by rw[è,lenV];exact hl,by simpa using rv⟩) (λb u z=>?_) λb u z=>?_
  .by_cases hb:b=PT
   .have z':=(Â hb).symm.trans z
    cases z';subst hb;exact⟨_,hPT,.inl rfl⟩
   .have z':=(Ä hb).symm.trans z
    cases z'
  .by_cases hb:b=PT
   .have z':=(Â hb).symm.trans z
    cases z';exact .inl ⟨hb,rfl⟩
   .have z':=(Ä hb).symm.trans z
    cases z'
 |none=>
  have eq1:∀b u,(if b=PT then some (sZ pos)else if b=a then some (HO.frz {cls:=.type "list",data:=.seq vs.toArray} (.lst (ns.map V.int)))else none)=some u->(b=PT/\u=sZ pos)\/(b=a/\u=.frz {cls:=.type "list",data:=.seq vs.toArray} (.lst (ns.map V.int))):=λb u z=>by
   split at z
   .rename_i h;cases z;exact .inl ⟨h,rfl⟩
   .split at z
    .rename_i h;cases z;exact .inr ⟨h,rfl⟩
    .cases z
  refine core (λb=>if b=PT then some (sZ pos)else if b=a then some (.frz {cls:=.type "list",data:=.seq vs.toArray} (.lst (ns.map V.int)))else none) (Â rfl) (.inl (.inr ⟨{cls:=.type "list",data:=.seq vs.toArray},by dsimp only;rw[Ä haP,Â rfl]⟩)) (λb u z=>?_) λb u z=>?_
  .rcases eq1 b u z with ⟨rfl,rfl⟩|⟨rfl,rfl⟩
   .exact⟨_,hPT,.inl rfl⟩
   .exact⟨ha,by rw[Æ];exact hl,vs,_,rv,ha⟩
  .rcases eq1 b u z with h|⟨h1,h2⟩
   .exact .inl h
   .exact .inr ⟨h1,h2,hk⟩
def Q1{K:ZC}(h:jO K=some (c,P,pos)):W.tabIn K m9=some (c,P):=by
 unfold jO at h;split at h
 .split at h
  .split at h
   .rename_i e
    split at h
    .cases h;exact e
    .cases h
   .cases h
  .cases h
 .cases h
def walk_ofL{l:W.OpenLaw}{n k:Nat}{q:Program}{loose:ZG}{XP:(ZD)->Heap->Prop}{YP:World->Heap->Prop}{d dl:DefRec}{K:Params->ZC}{CX:World->SL}{sp:World->Sp}{x:Str}(hn:l.most=some n)(hn2:n<=sizeLine)(hdf:d.params.defaults=[])(hr:fD k callerA)(hY:∀(w:World)(h:Heap),YP w h->(K w.params).In h)(hrec:(recsOf q).find? (λe=>e.name == m9)=some dl)(F:∀(w:World)(mg:ZD)(fa:Addr)(h:Heap),(K w.params).In h->h.Ns mainGlobals mg->mg d.name=some (.ref fa) ->
   (W.noTabs (K w.params)=true/\∃c P pos,jO (K w.params)=some (c,P,pos))/\∃fd:FuncData,(∀(s:Shared)(u:Value),BindsTo s fd ⟨[u],[]⟩ [(x,u)]) /\
    ∀base:Heap,(K w.params).In base->base.Ns mainGlobals mg->sY (K w.params) mg base->qI l.prog w (K w.params) mg base (CX w) k fa fd [x] (sp w))(hsp:∀(w:World)(H:Hp)(a:Addr)(ns:ZK),ns.length<=n->Z3 (K w.params) H->eV (K w.params) H a (ns.map V.int)->sp w [.ref a] H (λv H'=>v=.bl true/\aM H H') λ_ _ _=>False)(hCX:∀(w:World)(H:Hp)(s:Shared)(e:Value)(s':Shared),CX w [] H s (λ_ _ _=>False) e s'->False):
  W.WalkO q loose XP YP l.row.toRowW d [] (λf vs=>PySem.call f vs):=by
 refine Att.attach_call hn hdf λw s₀ s₁ mg mb fa o pm cd doc a vs ns G Y ho hd hcd hmg hobj hints hlen hg=>?_;have KX:=hY w _ Y;let⟨⟨hnt,c,P,pos,hlam⟩,fd,hb,hF⟩:=F w mg fa _ KX G.T.g hmg;let⟨t1,t2⟩:=W.tab_of G.T KX hrec (Q1 hlam);exact Q0 KX G.T.g G.T.b G.T.builtins G.T.nolimit hg hobj hints (Ø hlen hn2) hr hlam t1 t2 hnt G.T.bmain hF hb (λH hO hS=>hsp w H a ns hlen hO hS) λH e s'=>hCX w H s₁ e s'
def WR(s:Stmt)(k:Nat):Stmt:=match s with
 |.ClassDef _ _ _ b _ _ _ _ _ _ _=>b.getD k (.Pass ⟨0,0,0,0⟩)
 |s=>s
def yK{K:ZC}(n:W.nsIn K mainGlobals nm=some (some (.ref C)))(c:SK K C)(h:lO K C f):V3 K nm f:=λC' e=>by
 rw[n]at e;cases e;exact⟨c,h⟩
def WS{K:ZC}(a:W.nsIn K mainGlobals m9=some (some (.ref f)))(l:K.lookup f=some ⟨oc,od,.func fd,sl⟩)(hb:fd.body=.stmts b)(t:W.tabIn K m9=some (c,P))(hp:DU b=some pos):jO K=some (c,P,pos):=by
 unfold jO;rw[a];dsimp only;rw[l];dsimp only;rw[hb,t];dsimp only;rw[hp]
def WT{K:ZC}(a:W.nsIn K mainGlobals x=some (some (.ref f)))(l:K.lookup f=some ⟨oc,od,.func fd,sl⟩)(e:fd.code=.ref c)(lk:K.lookup c=some ⟨coc,cod,.fields cvs,csl⟩)(lv:(cvs[11]?:ZN)=some (.ref P)):W.tabIn K x=some (c,P):=by
 unfold W.tabIn;rw[a];dsimp only;rw[l];dsimp only;rw[e];dsimp only;rw[lk];dsimp only;rw[lv]
def WU{K:ZC}{st:Stmt}(a:W.nsIn K mainGlobals m9=some (some (.ref f)))(F:SM K x q st f fd)(e:fd.code=.ref c)(lk:K.lookup c=some ⟨coc,cod,.fields cvs,csl⟩)(lv:(cvs[11]?:ZN)=some (.ref P))(hp:DU (dG st)=some pos):jO K=some (c,P,pos):=by
 let⟨oc,od,kV,doc,pm,an,cdv,ct,osl,e1,l,_⟩:=F.ex;exact WS a l (by rw[e1]) (WT a l e lk lv) hp
end L2
namespace L2
open PySem PySem.Spec
def CF(c:Nat)(nm f:Str):D->ZL
 |.dict ((.none,.str n)::Á)=>if n=nm/\ch c (pN f Á)=0 then l0 f Á else none
 |_=>none
def nM(c n:Nat)(nm f:Str)(y:D):D->ZL
 |.dict ((.none,.str m)::Á)=>if m=nm/\ch c (pN f Á)=n/\Á.length<1000 then some (.dict ((.none,.str m)::qA f y Á))else none
 |_=>none
def yL(c:Nat)(nm f:Str)(k v:D):D->ZL
 |.dict ((.none,.str m)::Á)=>if m=nm/\ch c (pN f Á)=1 then (match l0 f Á,k with
  |some 'r',.int k=>(match lN ds.length k with
   |some j=>some (.dict ((.none,.str m)::qA f (.list (ds.set j v)) Á))
   |none=>none)
  |_,_=>none)else none
 |_=>none
def yM(nm m:Str):D->Prop
 |.dict ((.none,.str n)::Á)=>n=nm/\l0 m Á=none
 |_=>False
def WV(o:Option (ZI))(nm:Str)(fn:ZI->Res D)(δ:DS)(Q:D->ZO)(_w:Wt Q:=⟨⟩):Prop:=∃ds d,o=some ds/\fn (dS nm [] []::ds)=.ok .none [some d]/\Q d δ
def yN(k v:D):D->ZL
 |.dict Á=>(match dO k with
  |some ky=>if Á.length<sizeLine then some (.dict (LP ky v Á))else none
  |none=>none)
 |_=>none
def dctD':D->Bool
 |.dict Á=>Á.all λkv=>(dO kv.1).isSome
 |_=>false
def OP(x k z:D):ZL:=match x with
 |.dict Á=>(match dO k with
  |some ky=>some ((jV ky Á).getD z)
  |none=>none)
 |_=>none
def ID(nm fld:Str)(d t:D):ZL:=match d with
 |.list ds=>(match gM nm fld t with
  |some (.list hs)=>(match c6 hs,c6 ds with
   |some hs',some ns=>(match iC hs' ns with
    |some ks=>some ((dD none (ns.zip ks)).elim .none λm=>.int m.1)
    |none=>none)
   |_,_=>none)
  |_=>none)
 |_=>none
def Ĥ(ds:ZI):ZL:=match mX ds with
 |some (lo,n)=>if n<=sizeLine then some (.list (kX lo n))else none
 |none=>none
section
def aCF:HS i c nm f δ=(match δ[i]? with
 |some (some d)=>(match CF c nm f d with
  |some r=>Res.ok r δ
  |none=>.stuck)
 |_=>.stuck):=by
 unfold HS;cases δ[i]? with
 |none=>rfl
 |some o=>
  cases o with
  |none=>rfl
  |some d=>
   cases d<;>try rfl
   rename_i Á;cases Á with
   |nil=>rfl
   |cons kv Á=>
    let⟨k,v⟩:=kv;cases k<;>try rfl
    cases v<;>try rfl
    rename_i x;show _=(match (if x=nm/\ch c (pN f Á)=0 then l0 f Á else none)with|some r=>Res.ok r δ|none=>.stuck);dsimp only;by_cases h:x=nm/\ch c (pN f Á)=0
    .rw[Â h,Â h]
     try (cases l0 f Á<;>rfl)
    .rw[Ä h,Ä h]
def EV:aW (HS i c nm f) δ Q=gL δ[i]? δ λd δ=>vR (CF c nm f d) δ Q:=by
 unfold aW gL vR;rw[aCF];cases δ[i]? with
 |none=>rfl
 |some o=>
  cases o with
  |none=>rfl
  |some d=>
   dsimp only;cases CF c nm f d with
   |none=>rfl
   |some r=>rfl
def aCG:sS i c n nm f fe δ=(fe δ).bind λy δ1=>(match δ1[i]? with
 |some (some d)=>(match nM c n nm f y d with
  |some r=>Res.ok Fl.next (δ1.set i (some r))
  |none=>.stuck)
 |_=>.stuck):=by
 unfold sS;congr 1;funext y δ1;cases δ1[i]? with
 |none=>rfl
 |some o=>
  cases o with
  |none=>rfl
  |some d=>
   cases d<;>try rfl
   rename_i Á;cases Á with
   |nil=>rfl
   |cons kv Á=>
    let⟨k,v⟩:=kv;cases k<;>try rfl
    cases v<;>try rfl
    rename_i x;show _=(match (if x=nm/\ch c (pN f Á)=n/\Á.length<1000 then some (PyData.dict ((.none,.str x)::qA f y Á))else none)with|some r=>Res.ok Fl.next (δ1.set i (some r))|none=>.stuck);dsimp only;by_cases h:x=nm/\ch c (pN f Á)=n/\Á.length<1000
    .rw[Â h,Â h]
    .rw[Ä h,Ä h]
def yO:bK (sS i c n nm f fe) δ N B C R=aW fe δ λy δ1=>gL δ1[i]? δ1 λd δ1=>vR (nM c n nm f y d) δ1 λd' δ1=>N (δ1.set i (some d')):=by
 unfold bK aW gL vR;rw[aCG];cases fe δ with
 |stuck=>rfl
 |err x d=>rfl
 |ok y δ1=>
  dsimp![Res.bind];cases δ1[i]? with
  |none=>rfl
  |some o=>
   cases o with
   |none=>rfl
   |some d=>
    dsimp only;cases nM c n nm f y d with
    |none=>rfl
    |some r=>rfl
def aCH:sT i c nm f fk fv δ=(fv δ).bind λv δ1=>(match fk δ1 with
 |.ok k _=>(match δ1[i]? with
  |some (some d)=>(match yL c nm f k v d with
   |some r=>Res.ok Fl.next (δ1.set i (some r))
   |none=>.stuck)
  |_=>.stuck)
 |_=>.stuck):=by
 unfold sT;congr 1;funext v δ1;have dead:∀(o:Option (ZL))(rk:Res D),(∀k dd,rk≠.ok k dd)->(match o,rk with
  |some (some (.dict ((.none,.str m)::Á))),.ok (.int k) _=>if m=nm/\ch c (pN f Á)=1 then (match l0 f Á with
   |some 'r'=>(match lN ds.length k with
    |some j=>Res.ok Fl.next (δ1.set i (some (.dict ((.none,.str m)::qA f (.list (ds.set j v)) Á))))
    |none=>.stuck)
   |_=>.stuck)else .stuck
  |_,_=>(Res.stuck:Res Fl))=.stuck:=λo rk h=>by
  split
  .exact absurd rfl (h _ _)
  .rfl
 cases e:fk δ1 with
 |stuck=>exact dead _ _ (λ_ _ z=>by cases z)
 |err x dd=>exact dead _ _ (λ_ _ z=>by cases z)
 |ok kk dd=>
  cases δ1[i]? with
  |none=>rfl
  |some o=>
   cases o with
   |none=>rfl
   |some d=>
    cases d<;>try rfl
    rename_i Á;cases Á with
    |nil=>rfl
    |cons kv Á=>
     let⟨k,w⟩:=kv;cases k<;>try rfl
     cases w<;>try rfl
     rename_i x;show _=(match (if x=nm/\ch c (pN f Á)=1 then (match l0 f Á,kk with
      |some 'r',.int k=>(match lN ds.length k with
       |some j=>some (PyData.dict ((.none,.str x)::qA f (.list (ds.set j v)) Á))
       |none=>none)
      |_,_=>none)else none)with
      |some r=>Res.ok Fl.next (δ1.set i (some r))
      |none=>.stuck)
     by_cases h:x=nm/\ch c (pN f Á)=1
     .rw[Â h]
      cases kk with
      |int k=>
       dsimp only;rw[Â h];cases l0 f Á with
       |none=>rfl
       |some r=>
        cases r with
        |list ds=>
         dsimp only;cases lN ds.length k<;>rfl
        |_=>rfl
      |_=>
       dsimp only;cases l0 f Á with
       |none=>rfl
       |some r=>cases r<;>rfl
     .rw[Ä h]
      cases kk with
      |int k=>dsimp only;rw[Ä h]
      |_=>rfl
def WW:bK (sT i c nm f fk fv) δ N B C R=aW fv δ λv δ1=>aW fk δ1 λk _=>gL δ1[i]? δ1 λd δ1=>vR (yL c nm f k v d) δ1 λd' δ1=>N (δ1.set i (some d')):=by
 unfold bK aW gL vR;rw[aCH];cases fv δ with
 |stuck=>rfl
 |err x d=>rfl
 |ok y δ1=>
  dsimp![Res.bind];cases fk δ1 with
  |stuck=>rfl
  |err x d=>rfl
  |ok k δ2=>
   dsimp only;cases δ1[i]? with
   |none=>rfl
   |some o=>
    cases o with
    |none=>rfl
    |some d=>
     dsimp only;cases yL c nm f k y d with
     |none=>rfl
     |some r=>rfl
def EW:yE i nm m fn as δ=(match δ[i]? with
 |some (some d)=>open Classical in if yM nm m d then bP fn (.own i::as) δ else .stuck
 |_=>.stuck):=by
 unfold yE;cases δ[i]? with
 |none=>rfl
 |some o=>
  cases o with
  |none=>rfl
  |some d=>
   cases d<;>try (exact(Ä (λz:False=>z)).symm)
   rename_i Á;cases Á with
   |nil=>exact(Ä (λz:False=>z)).symm
   |cons kv Á=>
    let⟨k,w⟩:=kv;cases k<;>try (exact(Ä (λz:False=>z)).symm)
    cases w<;>try (exact(Ä (λz:False=>z)).symm)
    rename_i x;dsimp only;by_cases h:x=nm/\l0 m Á=none
    .rw[Â h,Â (show yM nm m (.dict ((.none,.str x)::Á))from h)]
    .rw[Ä h,Ä (show ¬yM nm m (.dict ((.none,.str x)::Á))from h)]
def aIP:aW (yE i nm m fn as) δ Q=gL δ[i]? δ λd δ=>yM nm m d/\aW (bP fn (.own i::as)) δ Q:=by
 rw[lY];unfold EI;cases e:δ[i]? with
 |none=>unfold aW;rw[EW,e];simp
 |some o=>
  cases o with
  |none=>unfold aW;rw[EW,e];simp
  |some d=>
   simp![Option.some.injEq,exists_eq_left'];unfold aW;rw[EW,e];dsimp only;by_cases h:yM nm m d
   .rw[Â h];simp[h]
   .rw[Ä h];simp[h]
def aIQ:aW (HV m0 nm fn as) δ Q=aW (cK as) δ λods δ1=>δ1.length=m0/\WV (eG δ1 as ods) nm fn δ1 Q:=by
 unfold aW HV WV;cases cK as δ with
 |stuck=>rfl
 |err x d=>rfl
 |ok ods δ1=>
  simp![Res.bind];by_cases h:δ1.length=m0
  .rw[Â h]
   simp![h,true_and];cases eG δ1 as ods with
   |none=>simp
   |some ds=>
    simp![Option.some.injEq,exists_and_left,exists_eq_left'];cases e:fn (dS nm [] []::ds)with
    |stuck=>simp
    |err x os=>
     simp![reduceCtorEq,false_and,exists_false];split
     .rename_i z
      split at z
      .rename_i y;cases y
      .cases z
      .cases z
     .rfl
    |ok d os=>
     refine propext ⟨λz=>?_,λ⟨d2,z,q⟩=>?_⟩
     .split at z
      .rename_i y
       split at y
       .rename_i y2;cases y2;cases y;exact⟨_,rfl,z⟩
       .rename_i y2;cases y2
       .cases y
      .exact z.elim
     .cases z;exact q
  .rw[Ä h];simp[h]
def EY:bK (OL i fk fv) δ N B C R=aW fv δ λv δ1=>gL δ1[i]? δ1 λ_ δ1=>aW fk δ1 λk δ2=>gL δ2[i]? δ2 λd δ2=>vR (yN k v d) δ2 λd' δ2=>N (δ2.set i (some d')):=by
 rw[lY,jA];unfold bK OL aW EI SQ;cases fv δ with
 |stuck=>rfl
 |err x d=>rfl
 |ok v δ1=>
  simp![Res.bind];cases δ1[i]? with
  |none=>simp
  |some o=>
   cases o with
   |none=>simp
   |some d0=>
    simp![Option.some.injEq,exists_eq_left'];cases fk δ1 with
    |stuck=>rfl
    |err x d=>rfl
    |ok k δ2=>
     simp![Res.bind];cases δ2[i]? with
     |none=>simp
     |some o=>
      cases o with
      |none=>simp
      |some d=>
       simp![Option.some.injEq,exists_eq_left'];unfold yN;cases d with
       |dict Á=>
        dsimp only;cases dO k with
        |none=>simp
        |some ky=>
         dsimp only;by_cases h:Á.length<sizeLine
         .rw[Â h];simp[h]
         .rw[Ä h];simp[h]
       |_=>simp
def WX:aW (OM fx fk fz) δ Q=aW fx δ λx δ1=>dctD' x=true/\aW fk δ1 λk δ2=>aW fz δ2 λz δ3=>vR (OP x k z) δ3 Q:=by
 unfold aW OM vR;cases fx δ with
 |stuck=>rfl
 |err x d=>rfl
 |ok x δ1=>
  dsimp![Res.bind];cases x with
  |dict Á=>
   dsimp![dctD',OP];by_cases h:(Á.all λkv=>(dO kv.1).isSome)=true
   .rw[Â h]
    simp![h,true_and];cases fk δ1 with
    |stuck=>rfl
    |err x d=>rfl
    |ok k δ2=>
     dsimp![Res.bind];cases fz δ2 with
     |stuck=>rfl
     |err x d=>rfl
     |ok z δ3=>
      dsimp![Res.bind];cases dO k with
      |none=>rfl
      |some ky=>rfl
   .rw[Ä h];simp[h]
  |_=>simp[dctD']
def WY:aW (wO i nm f fe) δ Q=aW fe δ λd δ1=>gL δ1[i]? δ1 λt δ1=>vR (ID nm f d t) δ1 Q:=by
 rw[lY,jA];unfold aW wO EI SQ;cases fe δ with
 |stuck=>rfl
 |err x d=>rfl
 |ok d δ1=>
  simp![Res.bind];cases d with
  |list ds=>
   cases δ1[i]? with
   |none=>simp
   |some o=>
    cases o with
    |none=>simp
    |some t=>
     simp![Option.some.injEq,exists_eq_left'];unfold ID;dsimp only;cases gM nm f t with
     |none=>simp
     |some r=>
      cases r with
      |list hs=>
       dsimp only;cases c6 hs with
       |none=>simp
       |some hs'=>
        cases c6 ds with
        |none=>simp
        |some ns=>
         dsimp only;cases iC hs' ns with
         |none=>simp
         |some ks=>simp
      |_=>simp
  |_=>simp[ID]
def aIR:aW (B9 fs) δ Q=aW (bD fs) δ λds δ1=>vR (Ĥ ds) δ1 Q:=by
 rw[jA];unfold aW B9 SQ Ĥ;cases bD fs δ with
 |stuck=>rfl
 |err x d=>rfl
 |ok ds δ1=>
  simp![Res.bind];cases mX ds with
  |none=>simp
  |some p=>
   let⟨lo,n⟩:=p;dsimp only;by_cases h:n<=sizeLine
   .rw[Â h];simp[h]
   .rw[Ä h];simp[h]
def Q2(d:D)(δ:DS)(Q:D->ZO)(_w:Wt Q:=⟨⟩):Prop:=(EE d).isSome=true/\Q d δ
def yP:aW (QJ fe) δ Q=aW fe δ λd _=>Q2 d δ Q:=by
 unfold aW QJ Q2;cases fe δ with
 |stuck=>rfl
 |err x d=>rfl
 |ok d δ1=>
  dsimp only;cases EE d with
  |none=>simp
  |some v=>simp
def WZ{i:Int}:Q2 (.int i) δ Q=Q (.int i) δ:=by unfold Q2;simp[EE]
def aIS:Q2 .none δ Q=Q .none δ:=by unfold Q2;simp[EE]
end
end L2
namespace PySem
namespace F
end F
section
end
end PySem
namespace L2
open PySem PySem.Spec PyProof.Rows
section
end
def Ŕ{P:ZJ->Prop}{us:ZJ}{n:Nat}(hl:us.length=n+1)(h:∀x xs,xs.length=n->P (x::xs)):P us:=by
 cases us with
 |nil=>cases hl
 |cons x xs=>exact h x xs (Nat.succ.inj hl)
def aP3{P:ZJ->Prop}{us:ZJ}(hl:us.length=0)(h:P []):P us:=by
 rw[List.length_eq_zero_iff.mp hl];exact h
def Ϥ{P:ZJ->Prop}{us:ZJ}(hl:us.length=1)(h:∀a,P [a]):P us:=Ŕ hl λa _ hl=>aP3 (P:=λus=>P (a::us)) hl (h a)
def ϥ{P:ZJ->Prop}{us:ZJ}(hl:us.length=2)(h:∀a b,P [a,b]):P us:=Ŕ hl λa _ hl=>Ϥ (P:=λus=>P (a::us)) hl (h a)
def Ϧ{P:ZJ->Prop}{us:ZJ}(hl:us.length=3)(h:∀a b c,P [a,b,c]):P us:=Ŕ hl λa _ hl=>ϥ (P:=λus=>P (a::us)) hl (h a)
def aP4{P:ZJ->Prop}{us:ZJ}(hl:us.length=4)(h:∀a b c d,P [a,b,c,d]):P us:=Ŕ hl λa _ hl=>Ϧ (P:=λus=>P (a::us)) hl (h a)
def aOU{ps:ZG}(hl:us.length=1)(h:∀a,bindArgs fd ⟨[a],[]⟩=pure (ps.zip [a])):bindArgs fd ⟨us,[]⟩=pure (ps.zip us):=Ϥ (P:=λus=>bindArgs fd ⟨us,[]⟩=pure (ps.zip us)) hl h
def aOV{ps:ZG}(hl:us.length=2)(h:∀a b,bindArgs fd ⟨[a,b],[]⟩=pure (ps.zip [a,b])):bindArgs fd ⟨us,[]⟩=pure (ps.zip us):=ϥ (P:=λus=>bindArgs fd ⟨us,[]⟩=pure (ps.zip us)) hl h
def aOW{ps:ZG}(hl:us.length=3)(h:∀a b c,bindArgs fd ⟨[a,b,c],[]⟩=pure (ps.zip [a,b,c])):bindArgs fd ⟨us,[]⟩=pure (ps.zip us):=Ϧ (P:=λus=>bindArgs fd ⟨us,[]⟩=pure (ps.zip us)) hl h
def aOX{ps:ZG}(hl:us.length=4)(h:∀a b c d,bindArgs fd ⟨[a,b,c,d],[]⟩=pure (ps.zip [a,b,c,d])):bindArgs fd ⟨us,[]⟩=pure (ps.zip us):=aP4 (P:=λus=>bindArgs fd ⟨us,[]⟩=pure (ps.zip us)) hl h
section
variable {P:Program}{w:World}{K:ZC}{mg:ZD}{base:Heap}{x qual:Str}{st:Stmt}{N:ZG}{k lev rm:Nat}{ps owp:ZH}{body:M Fl}
structure Fd(K:ZC)(x qual:Str)(st:Stmt)(N:ZG)(k:Nat) where
 f:Addr
 fd:FuncData
 F:SM K x qual st f fd
 b:pV K fd (N.take k) []
structure Fg(K:ZC)(mg:ZD)(x:Str)(st:Stmt)(N:ZG)(k:Nat) extends Fd K x x st N k where
 m:mg x=some (.ref f)
abbrev Fd.Ok(X:Fd K x qual st N k)(P:Program)(w:World)(mg:ZD)(base:Heap)(lev:Nat)(ps owp:ZH)(rm:Nat)(d:ZI->Res D):Prop:=qI P w K mg base (AW P w K) lev X.f X.fd (N.take k) (SO K (N.take k) ps owp rm d)
def Fd.okD(X:Fd K x qual st N k)(S:iJ N (N.take k) (bA st))(hb:∀{cdv:Value}{A:Around}{outer:List Env}{s:Shared}{H:Hp}{E:XK}{F0:Hp}{g0:ZP}{σ0:St}{wf:∀a i q,g0 a=some (i,q)->i∈ps}(_:X.fd.code=cdv)(_:fD lev (A.deeper (envOfC qual (bA st) s.heap.objs.size X.f cdv))),
   AS (qJ (AW P w K) P w K mg base N qual (bA st) X.f cdv A outer s H E) ⟨F0,H,g0,ps,σ0,owp,wf⟩ owp owp owp owp rm (dG st) body)(hN:↥(owp.length=N.length)):X.Ok P w mg base (lev+1) ps owp rm (aR N.length ps rm body):=
 X.F.okD S hN λ_ hcd _ _ _ _ _ _ _ _ _ hr=>⟨owp,hb hcd hr⟩
def Fd.okE(X:Fd K x qual st N k)(owe:ZH)(S:iJ N (N.take k) (bA st))(hb:∀{cdv:Value}{A:Around}{outer:List Env}{s:Shared}{H:Hp}{E:XK}{F0:Hp}{g0:ZP}{σ0:St}{wf:∀a i q,g0 a=some (i,q)->i∈ps}(_:X.fd.code=cdv)(_:fD lev (A.deeper (envOfC qual (bA st) s.heap.objs.size X.f cdv))),
   AS (qJ (AW P w K) P w K mg base N qual (bA st) X.f cdv A outer s H E) ⟨F0,H,g0,ps,σ0,owp,wf⟩ owp owe owe owe rm (dG st) body)(hN:↥(owp.length=N.length)):X.Ok P w mg base (lev+1) ps owp rm (aR N.length ps rm body):=
 X.F.okD S hN λ_ hcd _ _ _ _ _ _ _ _ _ hr=>⟨owe,hb hcd hr⟩
def İ(N:ZG)(k:Nat)(sc:Scope):Bool:=(match sc.kind with|.function=>true|_=>false) && !sc.isCoroutine && !sc.isGenerator && decide N.Nodup && (N.take k).all (λx=>match sc.names.lookup x with|some .local=>true|some .cell=>true|_=>false) && sc.names.all (λy=>match y.2 with|.free=>false|_=>true)
def CG(h:İ N k sc=true):iJ N (N.take k) sc:=by
 unfold İ at h;simp![æ,Bool.not_eq_true',decide_eq_true_eq,é]at h;let⟨⟨⟨⟨⟨h1,h2⟩,h3⟩,h4⟩,h5⟩,h6⟩:=h;refine⟨?_,h2,h3,h4,?_,λx hx=>?_,λy hy e=>?_⟩
 all_goals grind
def aL3{h:Heap}{f:Addr}{oc:Value}{od an:Option Addr}{osl:Array (ZN)}{kV doc pm cdv ct:Value}(X:K.In h)(G:h.Ns mainGlobals mg)(a:W.nsIn K mainGlobals x=some (some (.ref f)))(l:K.lookup f=some ⟨oc,od,.func (W.fnOf x x (jN st) (dG st) (bA st) .none kV doc pm an cdv ct),osl⟩)(c:W.codeIn K cdv x=true)(k':W.keepIn K (.ref f)=true)(hb:∀(kV doc pm:Value)(an:Option Addr)(cdv ct:Value)(us:ZJ),us.length=(N.take k).length->bindArgs (W.fnOf x x (jN st) (dG st) (bA st) .none kV doc pm an cdv ct) ⟨us,[]⟩=pure ((N.take k).zip us)):(Fg K mg x st N k):=
 ⟨⟨f,_,w9 l c k',(w9 l c k').binds hb⟩,W.mg_of X G a⟩
def OQ(X:K.In h)(G:h.Ns mainGlobals mg)(a:W.nsIn K mainGlobals x=some (some (.int v t))):∃t,mg x=some (.int v t):=⟨t,W.mg_of X G a⟩
def aB{pos p:Pos}(Y:Fg X.K X.mg x st N k)(Fk:Y.Ok X.prog X.w X.mg X.base lev ps owp rm fn)(hr:fD k1 X.A)(ha:DA X Z ow (e::es) as)(hk:⇑(lev<=k1))(S:aS Z ow:=by exact aG)(hg:Gl X x:=by exact rfl)(hz:↥(T0 Z=true))(hl:↥(as.length=(N.take k).length))(hps:↥(fM 0 as=ps))(nd:↥(decide (aU as).Nodup=true))(hm:↥(fF owp ow 0 as=true))(hlt:⇑(as.length<=1000))(hdb:⇑(Zdb x))(he:↥(Zse e es X.env))(hpl:↥(Zbt pos es X.env)):
  DE X Z ow rm (.Call 'd' (e::es) [] pos) (bP fn as):=NA S Fk (hr.mono hk) hg Y.m Y.F.kp Y.b ha hz hl hps nd hm hlt hdb he hpl
end
section
variable {K:ZC}{mg:ZD}{x y:Str}{st:Stmt}{N:ZG}{k lev rm:Nat}{ps owp:ZH}
structure Fa(K:ZC)(mg:ZD)(x y:Str)(st:Stmt)(N:ZG)(k:Nat) extends Fd K y y st N k where
 m:mg x=some (.ref f)
def aL4{h:Heap}{f:Addr}{oc:Value}{od an:Option Addr}{osl:Array (ZN)}{kV doc pm cdv ct:Value}(X:K.In h)(G:h.Ns mainGlobals mg)(a:W.nsIn K mainGlobals x=some (some (.ref f)))(l:K.lookup f=some ⟨oc,od,.func (W.fnOf y y (jN st) (dG st) (bA st) .none kV doc pm an cdv ct),osl⟩)(c:W.codeIn K cdv y=true)(k':W.keepIn K (.ref f)=true)(hb:∀(kV doc pm:Value)(an:Option Addr)(cdv ct:Value)(us:ZJ),us.length=(N.take k).length->bindArgs (W.fnOf y y (jN st) (dG st) (bA st) .none kV doc pm an cdv ct) ⟨us,[]⟩=pure ((N.take k).zip us)):(Fa K mg x y st N k):=
 ⟨⟨f,_,w9 l c k',(w9 l c k').binds hb⟩,W.mg_of X G a⟩
def IE{pos p:Pos}(Y:Fa X.K X.mg x y st N k)(Fk:Y.Ok X.prog X.w X.mg X.base lev ps owp rm fn)(hr:fD k1 X.A)(ha:DA X Z ow (e::es) as)(hk:⇑(lev<=k1))(S:aS Z ow:=by exact aG)(hg:Gl X x:=by exact rfl)(hz:↥(T0 Z=true))(hl:↥(as.length=(N.take k).length))(hps:↥(fM 0 as=ps))(nd:↥(decide (aU as).Nodup=true))(hm:↥(fF owp ow 0 as=true))(hlt:⇑(as.length<=1000))(hdb:⇑(Zdb x))(he:↥(Zse e es X.env))(hpl:↥(Zbt pos es X.env)):
  DE X Z ow rm (.Call 'd' (e::es) [] pos) (bP fn as):=NA S Fk (hr.mono hk) hg Y.m Y.F.kp Y.b ha hz hl hps nd hm hlt hdb he hpl
end
def Fd.okN{K:ZC}{st:Stmt}(X:Fd K x qual st N k)(hb:∀{cdv:Value}{A:Around}{outer:List Env}{s:Shared}{H:Hp}{E:XK}{F0:Hp}{g0:ZP}{σ0:St}{wf:∀a i q,g0 a=some (i,q)->i∈ps}(_:X.fd.code=cdv)(_:fD lev (A.deeper (envOfC qual (bA st) s.heap.objs.size X.f cdv)))(_:N.Nodup),
   AS (qJ (AW P w K) P w K mg base N qual (bA st) X.f cdv A outer s H E) ⟨F0,H,g0,ps,σ0,owp,wf⟩ owp owp owp owp rm (dG st) body)(h:İ N k (bA st)=true:=by decide +kernel)(hN:↥(owp.length=N.length)):X.Ok P w mg base (lev+1) ps owp rm (aR owp.length ps rm body):=by
 rw[hN];exact X.okD (CG h) (λa b=>hb a b (CG h).nd) hN
def Fd.okM{K:ZC}{st:Stmt}(X:Fd K x qual st N k)(owe:ZH)(hb:∀{cdv:Value}{A:Around}{outer:List Env}{s:Shared}{H:Hp}{E:XK}{F0:Hp}{g0:ZP}{σ0:St}{wf:∀a i q,g0 a=some (i,q)->i∈ps}(_:X.fd.code=cdv)(_:fD lev (A.deeper (envOfC qual (bA st) s.heap.objs.size X.f cdv)))(_:N.Nodup),
   AS (qJ (AW P w K) P w K mg base N qual (bA st) X.f cdv A outer s H E) ⟨F0,H,g0,ps,σ0,owp,wf⟩ owp owe owe owe rm (dG st) body)(h:İ N k (bA st)=true:=by decide +kernel)(hN:↥(owp.length=N.length)):X.Ok P w mg base (lev+1) ps owp rm (aR owp.length ps rm body):=by
 rw[hN];exact X.okE owe (CG h) (λa b=>hb a b (CG h).nd) hN
def ŕ:ZG->Str->Nat->Option Nat
 |[],_,_=>none
 |y::ys,x,k=>if y == x then some k else ŕ ys x (k+1)
def OS:∀{N:ZG}{x:Str}{k i:Nat},ŕ N x k=some i->∃j,i=k+j/\N[j]?=some x
 |y::ys,x,k,i,h=>by
  unfold ŕ at h;by_cases e:(y == x)=true
  .rw[Â e]at h
   cases h;exact⟨0,rfl,congrArg some (eq_of_beq e)⟩
  .rw[Ä e]at h
   let⟨j,e1,e2⟩:=OS h;exact⟨j+1,∅,e2⟩
def rL{α:Type}(r:Expr->Option α):List Expr->Option (List α)
 |[]=>some []
 |e::es=>(r e).bind λf=>(rL r es).bind λfs=>some (f::fs)
def aP5:Operator->Option (D->D->ZL)
 |.Add=>some G6
 |.Sub=>some ŧ
 |.Mult=>some QD
 |.Mod=>some wE
 |_=>none
def aP6:Const->Option (M D)
 |.int i=>some (dC (.int i))
 |.str x=>some (dC (.str x))
 |.none=>some (dC .none)
 |_=>none
def aOY:NameKind->Bool
 |.globalImplicit=>false
 |.globalExplicit=>false
 |_=>true
def aP7(N:ZG)(nm:List (Str×NameKind))(ow:ZH)(x:Str):(Option (M D)):=(nm.lookup x).bind λk=>(ŕ N x 0).bind λi=>if aOY k && ow.getD i 0 == 0 && !(x == "__debug__") && !(x == "__classdict__")then some (aK i)else none
def rE(N:ZG)(nm:List (Str×NameKind))(ow:ZH):Nat->Expr->Option (M D)
 |0,_=>none
 |n+1,e=>match e with
  |.Name x _=>aP7 N nm ow x
  |.Constant c _ _=>aP6 c
  |.BinOp a o b _=>(aP5 o).bind λg=>(rE N nm ow n a).bind λf=>(rE N nm ow n b).bind λh=>some (fC g f h)
  |.Subscript a b _=>(rE N nm ow n a).bind λf=>(rE N nm ow n b).bind λh=>some (fC eK f h)
  |.Tuple es _ _=>(rL (rE N nm ow n) es).bind λfs=>some (K9 fs)
  |_=>none
def ob{α β:Type}{x:Option α}{f:α->Option β}{b:β}(h:x.bind f=some b):∃a,x=some a/\f a=some b:=Option.bind_eq_some_iff.mp h
section
variable {X:Cx}{Z:cB}{ow:ZH}{e:Expr}{f:M D}
structure ŵ(X:Cx)(Z:cB)(ow:ZH)(e:Expr)(f:M D):Prop where
 de:DE X Z ow 0 e f
 st:∀es,starEach (e::es) X.env=(false,eval e X.env)::starEach es X.env
 ix:oM e
def Ŷ(h:∀e f,r e=some f->ŵ X Z ow e f):∀{es:List Expr}{fs:List (M D)},rL r es=some fs->DV X Z ow es fs
 |[],fs,q=>by cases q;exact bH
 |e::es,fs,q=>by
  let⟨f,h1,q⟩:=ob q;let⟨gs,h2,q⟩:=ob q;cases q;exact aI (h _ _ h1).de (Ŷ h h2) ((h _ _ h1).st _)
def ϧ{r:Expr->Option (M D)}(h:∀e f,r e=some f->ŵ X Z ow e f):∀{es:List Expr}{as:List Arg},rL (λe=>(r e).bind λf=>some (Arg.val f)) es=some as->DA X Z ow es as
 |[],as,q=>by cases q;exact bS
 |e::es,as,q=>by
  let⟨a,h1,q⟩:=ob q;let⟨bs,h2,q⟩:=ob q;let⟨f,h3,q1⟩:=ob h1;cases q;cases q1;exact aJ (h _ _ h3).de (ϧ h h2) ((h _ _ h3).st _)
def OT(S:aS Z ow):∀(n:Nat)(e:Expr)(f:M D),rE X.N X.env.scope.names ow n e=some f->ŵ X Z ow e f
 |n+1,e,f,h=>by
  have ih:=OT S n;cases e with
  |Name x p=>
   refine⟨?_,λ_=>rfl,λ_ _=>rfl⟩;let⟨k,hk,h⟩:=ob h;let⟨i,hi,h⟩:=ob h;split at h
   .rename_i q
    cases h;let⟨j,rfl,hj⟩:=OS hi;simp![æ,Bool.not_eq_true',beq_iff_eq,Nat.zero_add]at q⊢;refine aT j q.1.1.2 hj ?_ q.1.2 q.2;have q:=q.1.1.1;cases k<;>cases q
    .exact .inl hk
    .exact .inr (.inl hk)
    .exact .inr (.inr hk)
   .cases h
  |Constant c k p=>
   refine⟨?_,λ_=>rfl,λ_ _=>rfl⟩;cases c<;>cases h
   all_goals first|exact aL|exact fL|exact fI
  |BinOp a o b p=>
   let⟨g,h1,h⟩:=ob h;let⟨f1,h2,h⟩:=ob h;let⟨f2,h3,h⟩:=ob h;cases h;have a:=(ih _ _ h2).de;have b:=(ih _ _ h3).de;refine⟨?_,λ_=>rfl,λ_ _=>rfl⟩;cases o<;>cases h1
   all_goals first|exact bM S a b|exact nF S a b|exact gH S a b|exact iZ S a b
  |Subscript a b p=>
   let⟨f1,h2,h⟩:=ob h;let⟨f2,h3,h⟩:=ob h;cases h;exact⟨eI S (ih _ _ h2).de (ih _ _ h3).de (ih _ _ h3).ix,λ_=>rfl,λ_ _=>rfl⟩
  |Tuple es k p=>
   let⟨fs,h2,h⟩:=ob h;cases h;exact⟨cZ (Ŷ ih h2),λ_=>rfl,λ_ _=>rfl⟩
  |_=>cases h
def rx(S:aS Z ow:=by exact aG)(h:↥(rE X.N X.env.scope.names ow 9 e=some f)):DE X Z ow 0 e f:=(OT S 9 e f h).de
def rv{es:List Expr}{fs:List (M D)}(S:aS Z ow:=by exact aG)(h:↥(rL (rE X.N X.env.scope.names ow 9) es=some fs)):DV X Z ow es fs:=Ŷ (OT S 9) h
def ra{es:List Expr}{as:List Arg}(S:aS Z ow:=by exact aG)(h:↥(rL (λe=>(rE X.N X.env.scope.names ow 9 e).bind λf=>some (Arg.val f)) es=some as)):DA X Z ow es as:=ϧ (OT S 9) h
end
section
end
section
end
section
def W0(k x:D):(Option (ZL)):=match x with
 |.dict Á=>if (Á.all λkv=>(dO kv.1).isSome)=true then (match dO k with
  |some ky=>some (jV ky Á)
  |none=>none)else none
 |_=>none
def vU(n:Bool)(k x:D):ZL:=(W0 k x).map λr=>.bool (r.isSome != n)
def W1{K:ZC}(e:W0 k x=some r)(hk:bG K F k y)(hx:bG K F x v)(hs:aM F H):∃a o,v=.ref a/\A8 H a y o/\((r=none/\o=none)\/∃d w,r=some d/\o=some w/\bG K F d w):=by
 unfold W0 at e;split at e
 .rename_i Á
  split at e
  .rename_i hall
   split at e
   .rename_i ky e4
    cases e;let⟨a,ms,ds,vs,rfl,l1,rfl,hF,hr⟩:=ON hx hall;obtain rfl:=EU e4 hk;refine⟨a,qR (ms.zip vs) ky,rfl,A8.k (hs _ _ hF),?_⟩;rcases uR (k:=ky) l1 hr with ⟨h1,h2⟩|⟨d,w,h1,h2,h3⟩
    .exact .inl ⟨h1,h2⟩
    .exact .inr ⟨d,w,h1,h2,h3⟩
   .cases e
  .cases e
 .cases e
def W2(h:tD X Z ow 0 (fC (vU n) fk fx) σ H Q):tD X Z ow 0 fk σ H λy H1=>tD X Z ow 0 fx σ H1 λx H2=>∃a o,x=.ref a/\A8 H2 a y o/\Q (.bl (o.isSome != n)) H2:=by
 let⟨F,δ,R,h⟩:=h;unfold fC at h;sleep 3;cases e:fk δ with
 |stuck=>sleep 1
 |err x δ1=>rw[e]at h;exact h
 |ok d1 δ1=>
  rw[e]at h;simp![Res.bind]at h;intro y H1 F1 R1 s1;refine⟨F1,δ1,R1.rel,?_⟩;cases e2:fx δ1 with
  |stuck=>rw[e2]at h;exact h.elim
  |err x δ2=>rw[e2]at h;exact iQ.mono h s1
  |ok d2 δ2=>
   rw[e2]at h;simp![Res.bind]at h;intro v H2 F2 R2 s2;unfold vU at h;cases e3:W0 d1 d2 with
   |none=>rw[e3]at h;exact h.elim
   |some r=>
    rw[e3]at h;let⟨a,o,rfl,hg,hr⟩:=W1 e3 (s2.rep _ _ R1.rep) R2.rep R2.rel.sub;have eo:o.isSome=r.isSome:=by
     rcases hr with ⟨rfl,rfl⟩|⟨d,w,rfl,rfl,_⟩<;>rfl
    refine⟨a,o,rfl,hg,?_⟩;rw[eo];exact h _ H2 F2 (R2.rel.x iM) (s1.trans' s2)
def aO0(hu:X.A.units+64<cLine)(hi:DE X Z ow 0 i fk)(ho:DE X Z ow 0 o fx)(h1:↥(behindInMarks .In o=false)):DE X Z ow 0 (.Compare i [.In] [o] pos) (fC (vU false) fk fx):=
 PE.mono (aFY (WB ∅ hi ho) h1) λσ H Q h=>by
  have:=W2 h;simp![Bool.bne_false]at this;exact this
def aIU(hu:X.A.units+64<cLine)(hi:DE X Z ow 0 i fk)(ho:DE X Z ow 0 o fx)(h1:↥(behindInMarks .In o=false)):DT X Z ow (.Compare i [.In] [o] pos) (dB (fC (vU false) fk fx)):=
 (aFZ (WB ∅ hi ho) h1).mono λσ H Q h=>by
  have:=W2 (T2 h);simp![Bool.bne_false]at this;exact this
end
section
variable {c i:Nat}{F H:Hp}{g:ZP}{K:ZC}
def bC.lstC(h:bC K F H g i c p d v)(hk:kd c=0)(h0:c≠0):∃(a:Addr)(ds:ZI)(vs:List V),d=.list ds/\v=.ref a/\g a=some (i,p)/\H a=some (.lst vs)/\F a=none/\ds.length=vs.length /\
   ∀(k:Nat)(d':D)(v':V),ds[k]?=some d'->vs[k]?=some v'->bC K F H g i (ch c k) (p++[k]) d' v':=by
 cases c with
 |zero=>exact absurd rfl h0
 |succ c=>
  let⟨ds,vs,cs,nd,hc,hl,r⟩:=h.open;rw[hk]at nd;let⟨a,rfl,rfl,rfl⟩:=nd;let⟨a1,a2,a3⟩:=hc _ (ì.mpr rfl);exact⟨a,ds,vs,rfl,rfl,by simpa using a1,a2,a3,hl,r⟩
def bC.mkC{p:ZH}{a:Addr}{ds:ZI}{vs:List V}(hk:kd c=0)(h0:c≠0)(a1:g a=some (i,p))(a2:H a=some (.lst vs))(a3:F a=none)(hl:ds.length=vs.length)(r:∀(k:Nat)(d':D)(v':V),ds[k]?=some d'->vs[k]?=some v'->bC K F H g i (ch c k) (p++[k]) d' v'):bC K F H g i c p 'r' (.ref a):=by
 cases c with
 |zero=>exact absurd rfl h0
 |succ c=>
  refine bC.shut (ds:=ds) (vs:=vs) (cs:=[(a,[],.lst vs)]) (by rw[hk];exact⟨a,rfl,rfl,rfl⟩) (λx hx=>?_) hl r
  rw[ì.mp hx];exact⟨by simpa using a1,a2,a3⟩
end
section
end
section
end
section
end
section
def OU(f:M D):M Bool:=λδ=>(f δ).bind λd δ1=>match d with
 |.list ds=>.ok (!ds.isEmpty) δ1
 |_=>.stuck
def aIV(h:DE X Z ow 0 e f)(he: ~~~(∀whole,isTrue e X.env whole=(do let v <- whole;standAt e.pos;holding [v] (truthy v)))):DT X Z ow e (OU f):=(S9 h he).mono λσ H Q h=>by
 let⟨F,δ,R,h⟩:=h;unfold OU at h;sleep 3;cases e:f δ with
 |stuck=>sleep 1
 |err x δ1=>rw[e]at h;exact h
 |ok d δ1=>
  rw[e]at h;simp![Res.bind]at h;intro v H1 F1 R1 s1;split at h
  .rename_i ds
   let⟨l,vs,rfl,hx,rx⟩:=kE R1.rep;refine⟨!ds.isEmpty,?_,h H1 F1 R1.rel s1⟩;refine .inl ⟨vs,R1.rel.sub.seq hx,?_⟩;have:=rx.len
   grind
  .exact h.elim
def aIW{δ:DS}{Q:Bool->ZO}{ds:ZI}{δ1:DS}(h:f δ=.ok 'r' δ1)(q:Q (!ds.isEmpty) δ1):aW (OU f) δ Q:=by
 unfold aW OU;rw[h];exact q
end
section
variable {X:Cx}{Z:cB}{ow ol ox:ZH}{rm:Nat}{pos spos:Pos}
def aCJ(i:Nat){x:Str}{p q:Pos}{id:String}(S:aS Z ow)(slot:Slot "list" name id)(hty:typeOf (.builtin id)=pure (.type "method_descriptor"))(hmr:ę X id r)(hm:D1 X r op)(ho:↥(ow.getD i 0=1))(hN:↥'q')(hv:#v[AR X.env.scope x])(hd:⇑(Zdb x))(hcd:⇑(Zcd x))(hbase:↥(attributeBase 'd' name X.env (eval 'd' X.env)=eval 'd' X.env))(hline:↥((q.endLine == pos.line)=true)):
  DE X Z ow 0 (.Call (.Attribute 'd' name q) [] [] pos) (AX i op []):=PE.mono (DN PySem.F.plainAttrs_list slot hty hmr (dM hN hv hd hcd) hbase hline) λσ H Q h=>by
 let⟨v,e1,h0,F,δ,R,h⟩:=NB (fs:=[]) S ho hm h;exact⟨v,e1,h0,h [] H F R 'm' iW⟩
def nN(i:Nat):M Fl:=λδ=>match δ[i]? with
 |some (some (.list _))=>.ok .next (δ.set i none)
 |_=>.stuck
def aCK(i:Nat){x:Str}{p q:Pos}(hi0:⇑(ow.getD i 0≠0))(hkd:↥(kd (ow.getD i 0)=0))(hN:↥'q')(hv:#v[AR X.env.scope x])(hd:⇑(Zdb x))(hcd:⇑(Zcd x))(hbase:↥(attributeBase 'd' "clear" X.env (eval 'd' X.env)=eval 'd' X.env))(hline:↥((q.endLine == pos.line)=true))(hs:↥(swapsWith (.Call (.Attribute 'd' "clear" q) [] [] pos) none spos.line X.env=pure false)):
  xK X Z ow ow ol ox rm (.Expr (.Call (.Attribute 'd' "clear" q) [] [] pos) spos) (nN i):=PS.mono (DB (DN PySem.F.plainAttrs_list PySem.F.slot_list_clear PySem.F.type_list_clear GU (dM hN hv hd hcd) hbase hline) hs) λDn σ H h=>by
 let⟨F,δ,⟨g,R⟩,h⟩:=h;unfold nN at h;split at h
 .rename_i ds e0
  let⟨v,w1,o⟩:=R.slot i _ e0;let⟨a,ds',vs,d1,rfl,a1,a2,a3,l1,r⟩:=o.lstC hkd hi0;exact⟨_,w1,.inl ⟨rfl,vs,eV.of a2⟩,a,vs,rfl,rfl,a2,h σ _ F ⟨g,R.kill a1 a3⟩ 'm'⟩
 .exact h.elim
def LR(i:Nat):M Fl:=λδ=>.ok .next (δ.set i none)
def bV.fgt{K:ZC}(hi:i∉Z.ps)(R:bV K Z ow g F H σ δ):bV K Z (ow.set i n) g F H σ (δ.set i none):=by
 have R:=R.forget (j:=i);refine⟨R.sub,R.f0,R.kept,R.new,R.there,R.lab,R.len,λk hk=>?_,λk d e=>?_⟩
 .have:i≠k:=λz=>hi (by rw[z];exact hk)
  rw[Ë,Ù this,<- Ë];exact R.par k hk
 .have:i≠k:=λz=>by
   subst z;by_cases hl:i<δ.length
   .rw[â hl]at e;cases e
   .rw[à (by rw[Ö];lia)]at e;cases e
  rw[Ë,Ù this,<- Ë];exact R.slot k d e
def OV(i n:Nat)(hi:↥(Z.ps.contains i=false)):AS X Z ow (ow.set i n) ol ox rm [] (LR i):=C8.mono C9 λDn σ H h=>by
 let⟨F,δ,⟨g,R⟩,h⟩:=h;exact h σ H F ⟨g,R.fgt (dA hi)⟩ 'm'
end
end L2
namespace L2
open PySem PySem.Spec
section
end
end L2
set_option maxRecDepth 100000
set_option maxHeartbeats 4000000
open L2 in
seal DE DT xK AS DV DA DI DO SN PG ĭ Ċ ī PW
namespace Toy
open PySem L2
@[inline]def top(i:Nat):Stmt:=PySem.Challenge.pw_keel_k72_stowed.main.body.getD i (.Pass ⟨0,0,0,0⟩)
abbrev qT:Stmt:=top 7
abbrev qU:ZG:=["one","other","rest"]
abbrev LS:Stmt:=top 8
abbrev LU:ZG:=["top","bottom","divisor"]
abbrev aIX:Stmt:=top 9
abbrev aIY:ZG:=["one","other"]
abbrev aCL:Stmt:=top 10
abbrev aCM:ZG:=["one","other"]
abbrev EZ:Stmt:=top 13
abbrev E0:ZG:=["rooms","lines","tank","room","line"]
abbrev Q3:Stmt:=top 14
abbrev Q5:ZG:=["line","pivot_line","column","scale","step","share","numbers"]
def s8:(["one","other","line","pivot_line","column","scale","step","share","numbers"]:ZG).Nodup:=by decide +kernel
abbrev W3:Stmt:=top 15
abbrev W4:ZG:=["pivot_line","column","scale","numbers"]
abbrev qC:Stmt:=top 16
abbrev A9:ZG:=["table","below"]
def k7:(["place","line","table","below"]:ZG).Nodup:=by decide +kernel
abbrev E2:Stmt:=top 17
abbrev E3:ZG:=["table","line","column","best","one","other"]
abbrev E4:Stmt:=top 19
abbrev E5:ZG:=["table","line","best","column"]
abbrev LV:Stmt:=top 20
abbrev LW:ZG:=["table","rows","shares","first_row","first_room","parts"]
abbrev IF:Stmt:=top 21
abbrev IG:ZG:=["table","line","shares","number","share"]
abbrev IH:Stmt:=top 22
abbrev II:ZG:=["table","rows","place","shares"]
abbrev IJ:Stmt:=top 23
abbrev IK:ZG:=["table","rows","rooms","reached","number","line","fills"]
abbrev uT:Stmt:=WR (top 12) 0
abbrev uU:ZG:=["self","rows","rooms"]
def iG:(["row","top","self","rows","rooms"]:ZG).Nodup:=by decide +kernel
abbrev E6:Stmt:=WR (top 12) 1
abbrev E7:ZG:=["self","place","column","pivot_line","lines","freed"]
abbrev aCN:Stmt:=top 24
abbrev aCO:ZG:=["rows","rooms","table","place","column"]
abbrev aCP:Stmt:=top 29
abbrev aCQ:ZG:=["sums","weight","place"]
abbrev Q6:Stmt:=top 30
abbrev Q7:ZG:=["ship","cargo","own","sums","stack","boxes","t","box","place"]
abbrev BB:Stmt:=top 31
abbrev BC:ZG:=["tanks","axis","high","sums"]
abbrev E8:Stmt:=top 32
abbrev E9:ZG:=["tanks","axis","low","sums"]
abbrev Q8:Stmt:=top 33
abbrev Q9:ZG:=["ship","cargo","bounds","tanks","sums"]
abbrev LX:Stmt:=top 35
abbrev LY:ZG:=["ship"]
abbrev RA:Stmt:=top 36
abbrev RB:ZG:=["ship","cargo"]
abbrev RC:Stmt:=top 39
abbrev RD:ZG:=["thing"]
abbrev LZ:Stmt:=top 40
abbrev L0:ZG:=["ship","s","other","one","two"]
abbrev IL:Stmt:=top 42
abbrev IN:ZG:=["box","names"]
abbrev s9:Stmt:=top 43
abbrev tE:ZG:=["stack","s","boxes","rules","above","t","box"]
abbrev W5:Stmt:=top 44
abbrev W6:ZG:=["ship","one","other"]
abbrev yQ:Stmt:=top 45
abbrev yR:ZG:=["cargo","placed","s","boxes","t","box"]
abbrev yS:Stmt:=top 46
abbrev yT:ZG:=["ship","cargo","rules","placed","number","one","other"]
abbrev W7:Stmt:=top 47
abbrev W8:ZG:=["ship","cargo","rules","s","boxes"]
abbrev XA:Stmt:=top 49
abbrev XB:ZG:=["cargo"]
def IP:(["boxes","cargo"]:ZG).Nodup:=by decide +kernel
abbrev RE:Stmt:=top 50
abbrev RF:ZG:=["cargo","step","box","behind"]
abbrev L3:Stmt:=top 51
abbrev L4:ZG:=["cargo","names","boxes","box"]
abbrev L5:Stmt:=top 52
abbrev L6:ZG:=["ship","cargo","rules"]
abbrev L7:Stmt:=top 54
abbrev L8:ZG:=["port","ports"]
abbrev yU:Stmt:=top 55
abbrev yV:ZG:=["cargo","s","box","ports","place"]
abbrev XC:Stmt:=top 56
abbrev XD:ZG:=["fills","reached","fill"]
abbrev XE:Stmt:=top 57
abbrev XF:ZG:=["cargo","s","box"]
abbrev FA:Stmt:=top 58
abbrev FC:ZG:=["ship","cargo","box","ports","offers","s","told"]
abbrev pQ:Stmt:=top 59
abbrev pR:ZG:=["one","other"]
abbrev IQ:Stmt:=top 61
abbrev IR:ZG:=["ship","cargo","box","ports","best","offer"]
abbrev XG:Stmt:=top 62
abbrev XH:ZG:=["ship","cargo","boxes","ports","behind","box"]
abbrev IS:Stmt:=top 64
abbrev IT:ZG:=["_law_script","_law_k"]
abbrev XI:Stmt:=top 65
abbrev XJ:ZG:=["_law_script","_law_k","_law_many"]
abbrev RH:Stmt:=top 66
abbrev RI:ZG:=["_law_script","_law_k","_law_many"]
abbrev RJ:Stmt:=top 67
abbrev RK:ZG:=["_law_script","_law_k","_law_many"]
abbrev XL:Stmt:=top 68
abbrev XM:ZG:=["_law_script","_law_k","_law_n","_law_letters","_law_many","_law_spot","_law_base","_law_sign"]
abbrev RL:Stmt:=top 69
abbrev RM:ZG:=["_law_script"]
abbrev RN:Stmt:=top 70
abbrev RO:ZG:=["_law_script","_law_s","_law_along","_law_across","_law_high","_law_most","_law_name_here"]
abbrev XN:Stmt:=top 71
abbrev XO:ZG:=["_law_script","_law_k","_law_along","_law_across","_law_room"]
abbrev XQ:Stmt:=top 72
abbrev XR:ZG:=["_law_script","_law_scale_here","_law_own","_law_long","_law_wide","_law_most","_law_bounds","_law_stacks","_law_tanks","_law_apart","_law_k","_law_one","_law_other_here"]
abbrev aCR:Stmt:=top 73
abbrev aCS:ZG:=["_law_script","_law_n","_law_scale_here","_law_port","_law_kind","_law_bears"]
abbrev RP:Stmt:=top 74
abbrev RQ:ZG:=["_law_script","_law_ship_here","_law_many","_law_cargo_here","_law_n"]
def FD:(["_law_stack_here","_law_script","_law_ship_here","_law_many","_law_cargo_here","_law_n"]:ZG).Nodup:=by decide +kernel
abbrev IU:Stmt:=top 75
abbrev yW:ZG:=["_law_found","_law_due_here","_law_kind","_law_k"]
def uV:iJ yW (yW.take 2) (bA IU):=CG (by decide +kernel)
abbrev L9:Stmt:=top 76
abbrev MA:ZG:=["_law_one","_law_other_here","_law_left"]
abbrev XS:Stmt:=top 77
abbrev XU:ZG:=["_law_fractions","_law_bottom","_law_one"]
abbrev IV:Stmt:=top 78
abbrev IW:ZG:=["_law_ship_here","_law_cargo_here","_law_own","_law_told","_law_stack_here","_law_boxes","_law_t","_law_weight"]
abbrev XV:Stmt:=top 79
abbrev XW:ZG:=["_law_ship_here","_law_cargo_here","_law_w","_law_b","_law_tanks"]
abbrev XX:Stmt:=top 80
abbrev XY:ZG:=["_law_ports_here","_law_port"]
abbrev aCT:Stmt:=top 81
abbrev aCU:ZG:=["_law_cargo_here","_law_s","_law_box_here","_law_behind"]
def MB:(["_law_boxes","_law_cargo_here","_law_s","_law_box_here","_law_behind"]:ZG).Nodup:=by decide +kernel
abbrev XZ:Stmt:=top 82
abbrev X1:ZG:=["_law_one","_law_other_here"]
abbrev RR:Stmt:=top 83
abbrev RS:ZG:=["_law_ship_here","_law_cargo_here","_law_told","_law_over_here"]
abbrev X2:Stmt:=top 84
abbrev X3:ZG:=["_law_ship_here","_law_cargo_here","_law_box_here","_law_ports_here","_law_best_here","_law_s","_law_behind","_law_water_here","_law_mine","_law_many"]
abbrev RT:Stmt:=top 85
abbrev RU:ZG:=["_law_script","_law_ports_here","_law_k"]
abbrev FE:Stmt:=top 86
abbrev FF:ZG:=["_law_cargo_here","_law_names","_law_boxes"]
abbrev aCV:Stmt:=top 87
abbrev aCW:ZG:=["_law_ship_here","_law_cargo_here","_law_boxes","_law_ports_here","_law_here","_law_names","_law_box_here","_law_s"]
abbrev Ϩ:Stmt:=top 88
abbrev X4:ZG:=["_law_script","_law_ship_here","_law_many","_law_cargo_here","_law_boxes","_law_last","_law_ports_here","_law_due_here","_law_handed","_law_row","_law_word","_law_found","_law_stack_here"]
def fJ:iJ X4 (X4.take 1) (bA Ϩ):=CG (by decide +kernel)
def X5:(["_law_n","_law_script","_law_ship_here","_law_many","_law_cargo_here","_law_boxes","_law_last","_law_ports_here","_law_due_here","_law_handed","_law_row","_law_word","_law_found","_law_stack_here"]:ZG).Nodup:=by decide +kernel
def X6:(["_law_stack_here","_law_script","_law_ship_here","_law_many","_law_cargo_here","_law_boxes","_law_last","_law_ports_here","_law_due_here","_law_handed","_law_row","_law_word","_law_found","._law_stack_here"]:ZG).Nodup:=by decide +kernel
abbrev aO1:Pos:=(DU (dG qC)).getD ⟨0,0,0,0⟩
set_option genInjectivity false in
set_option genSizeOf false in
structure Txt(K:ZC)(mg:ZD) where
 x0:Fg K mg "greatest_divisor" qT qU 2
 x1:Fg K mg "fraction" LS LU 2
 x2:Fg K mg "plus" aIX aIY 2
 x3:Fg K mg "under" aCL aCM 2
 x4:Fg K mg "room_lines" EZ E0 1
 x5:Fg K mg "cleared" Q3 Q5 4
 x6:Fg K mg "turned" W3 W4 3
 x7:Fg K mg "place_below" qC A9 1
 x8:Fa K mg "goes_ahead_least" "goes_ahead" E2 E3 4
 x9:Fg K mg "column_for" E4 E5 2
 x10:Fg K mg "parts_of" LV LW 3
 x11:Fg K mg "shares_of" IF IG 2
 x12:Fg K mg "told_none" IH II 3
 x13:Fg K mg "told_fill" IJ IK 3
 x14:Fd K "__init__" "Table.__init__" uT uU 3
 x15:Fd K "swap" "Table.swap" E6 E7 3
 x16:Fg K mg "least" aCN aCO 2
 x17:Fg K mg "added" aCP aCQ 3
 x18:Fg K mg "weights" Q6 Q7 2
 x19:Fg K mg "row_of_high" BB BC 4
 x20:Fg K mg "row_of_low" E8 E9 4
 x21:Fg K mg "rows_of" Q8 Q9 2
 x22:Fg K mg "rooms_of" LX LY 1
 x23:Fg K mg "ballast" RA RB 2
 x24:Fg K mg "is_name" RC RD 1
 x25:Fg K mg "apart_by" LZ L0 3
 x26:Fg K mg "check_box" IL IN 2
 x27:Fg K mg "broken_in_stack" s9 tE 3
 x28:Fg K mg "far_of" W5 W6 3
 x29:Fg K mg "placed_boxes" yQ yR 1
 x30:Fg K mg "broken_apart" yS yT 2
 x31:Fg K mg "broken" W7 W8 2
 x32:Fg K mg "copied" XA XB 1
 x33:Fg K mg "stepped" RE RF 3
 x34:Fg K mg "names_in" L3 L4 1
 x35:Fg K mg "standing" L5 L6 2
 x36:Fg K mg "place_of" L7 L8 2
 x37:Fg K mg "overstanding" yU yV 4
 x38:Fg K mg "sum_of" XC XD 1
 x39:Fg K mg "put_on" XE XF 3
 x40:Fg K mg "offers_for" FA FC 4
 x41:Fa K mg "goes_ahead_advice" "goes_ahead" pQ pR 2
 x42:Fg K mg "stack_for" IQ IR 4
 x43:Fg K mg "stowed" XG XH 4
 x44:Fg K mg "_law_cell_at" IS IT 2
 x45:Fg K mg "_law_draw" XI XJ 3
 x46:Fg K mg "_law_other" RH RI 3
 x47:Fg K mg "_law_third" RJ RK 3
 x48:Fg K mg "_law_name" XL XM 3
 x49:Fg K mg "_law_scale" RL RM 1
 x50:Fg K mg "_law_stack" RN RO 2
 x51:Fg K mg "_law_tank" XN XO 2
 x52:Fg K mg "_law_ship" XQ XR 1
 x53:Fg K mg "_law_box" aCR aCS 2
 x54:Fg K mg "_law_cargo" RP RQ 3
 x55:Fg K mg "_law_same" IU yW 2
 x56:Fg K mg "_law_common" L9 MA 2
 x57:Fg K mg "_law_over" XS XU 1
 x58:Fg K mg "_law_weights" IV IW 2
 x59:Fg K mg "_law_rows" XV XW 2
 x60:Fg K mg "_law_turn" XX XY 2
 x61:Fg K mg "_law_put" aCT aCU 3
 x62:Fg K mg "_law_less" XZ X1 2
 x63:Fg K mg "_law_water" RR RS 2
 x64:Fg K mg "_law_best" X2 X3 4
 x65:Fg K mg "_law_ports" RT RU 1
 x66:Fg K mg "_law_names_of" FE FF 1
 x67:Fg K mg "_law_due" aCV aCW 4
 x68:Fg K mg "law" Ϩ X4 1
 c_Table:Addr
 n_Table:W.nsIn K mainGlobals "Table"=some (some (.ref c_Table))
 q_Table:mg "Table"=some (.ref c_Table)
 cl_Table:SK K c_Table
 x84:V3 K "Table" "free"
 x85:V3 K "Table" "goal"
 x86:V3 K "Table" "held"
 x87:V3 K "Table" "lines"
 x88:V3 K "Table" "scale"
 mk_Table:Mk K c_Table x14.f
 me_Table_swap:ľ K c_Table "swap" x15.f
 lamC:Addr
 lamP:Addr
 lamE:jO K=some (lamC,lamP,aO1)
 lamF:x7.fd.code=.ref lamC
 x69:mg "abs"=none
 x70:mg "all"=none
 x71:mg "bool"=none
 x72:mg "enumerate"=none
 x73:mg "int"=none
 x74:mg "isinstance"=none
 x75:mg "len"=none
 x76:mg "list"=none
 x77:mg "max"=none
 x78:mg "min"=none
 x79:mg "range"=none
 x80:mg "str"=none
 x81:mg "sum"=none
 x82:mg "tuple"=none
 x83:mg "zip"=none
 g_ABOVE:∃t,mg "ABOVE"=some (.int 3 t)
 g_ACROSS:∃t,mg "ACROSS"=some (.int 2 t)
 g_ALONG:∃t,mg "ALONG"=some (.int 1 t)
 g_LONGEST_NAME:∃t,mg "LONGEST_NAME"=some (.int 8 t)
 c_NoName:Addr
 n_NoName:W.nsIn K mainGlobals "NoName"=some (some (.ref c_NoName))
 q_NoName:mg "NoName"=some (.ref c_NoName)
 e_NoName:W.excIn K c_NoName [.type "ValueError",.type "Exception",.type "BaseException",.type "object"] "ValueError.__new__"=true
 x_NoName:ŋ K c_NoName
 c_NoNumber:Addr
 n_NoNumber:W.nsIn K mainGlobals "NoNumber"=some (some (.ref c_NoNumber))
 q_NoNumber:mg "NoNumber"=some (.ref c_NoNumber)
 e_NoNumber:W.excIn K c_NoNumber [.type "ValueError",.type "Exception",.type "BaseException",.type "object"] "ValueError.__new__"=true
 x_NoNumber:ŋ K c_NoNumber
 c_NoStack:Addr
 n_NoStack:W.nsIn K mainGlobals "NoStack"=some (some (.ref c_NoStack))
 q_NoStack:mg "NoStack"=some (.ref c_NoStack)
 e_NoStack:W.excIn K c_NoStack [.type "ValueError",.type "Exception",.type "BaseException",.type "object"] "ValueError.__new__"=true
 x_NoStack:ŋ K c_NoStack
 c_NoWeight:Addr
 n_NoWeight:W.nsIn K mainGlobals "NoWeight"=some (some (.ref c_NoWeight))
 q_NoWeight:mg "NoWeight"=some (.ref c_NoWeight)
 e_NoWeight:W.excIn K c_NoWeight [.type "ValueError",.type "Exception",.type "BaseException",.type "object"] "ValueError.__new__"=true
 x_NoWeight:ŋ K c_NoWeight
 m_NoName_NoName:W.exmOne K (.ref c_NoName) (.ref c_NoName)=some true
 m_NoName_NoStack:W.exmOne K (.ref c_NoName) (.ref c_NoStack)=some false
 m_NoNumber_NoName:W.exmOne K (.ref c_NoNumber) (.ref c_NoName)=some false
 m_NoNumber_NoStack:W.exmOne K (.ref c_NoNumber) (.ref c_NoStack)=some false
 m_NoStack_NoName:W.exmOne K (.ref c_NoStack) (.ref c_NoName)=some false
 m_NoStack_NoStack:W.exmOne K (.ref c_NoStack) (.ref c_NoStack)=some true
 m_NoWeight_NoName:W.exmOne K (.ref c_NoWeight) (.ref c_NoName)=some false
 m_NoWeight_NoStack:W.exmOne K (.ref c_NoWeight) (.ref c_NoStack)=some false
def yX(fn:ZI->Res D):M Fl:=
  (bO (gF (dB (rP (p9 .tuple .list) (aK 1)))
   (bO (cE 2 (Ģ (dB (rP (gJ .tuple) (aK 1))) (rP (gJ .tuple) (aK 0)) (rP (gJ .list) (aK 0))))
   (bO (gF (AV (mU (dB (aK 2))) (dB (fC AZ (xJ qN [(aK 0)]) (xJ qN [(aK 1)]))))
    (kC (dC (.bool false)))
    iX)
   (bO (jR (eB 3) (uG [(xJ qN [(aK 1)])])
    (gF (mU (dB (bP fn [.val (fC eK (aK 0) (aK 3)),.val (fC eK (aK 1) (aK 3))])))
     (kC (dC (.bool false)))
     iX))
   (kC (dC 'l')))))
   iX)
  (bO (gF (dB (rP (gJ .str) (aK 1)))
   (kC (mV (rP (gJ .str) (aK 0)) (fC G7 (aK 0) (aK 1))))
   iX)
  (kC (mV (rP (gJ .int) (aK 0)) (mV (BU (rP (gJ .bool) (aK 0))) (fC G7 (aK 0) (aK 1)))))))
def nO:Nat->ZI->Res D
 |0=>λ_=>.stuck
 |n+1=>aR 4 [] 0 (yX (nO n))
abbrev Dq{x:Str}{st:Stmt}{N:ZG}{k:Nat}(p:∀{K mg},Txt K mg->Fg K mg x st N k)(lev:Nat)(ps ow:ZH)(rm:Nat):={b:M Fl // ∀{P:Program}{w:World}{K:ZC}{mg:ZD}{base:Heap}(T:Txt K mg)(_:sY K mg base),(p T).Ok P w mg base lev ps ow rm (aR ow.length ps rm b)}
open PySem.Spec PyProof.Rows in
def mq{x:Str}{st:Stmt}{N:ZG}{k lev rm:Nat}{p:∀{K mg},Txt K mg->Fg K mg x st N k}{ps ow:ZH}{b:M Fl}(h:∀{P:Program}{w:World}{K:ZC}{mg:ZD}{base:Heap}(T:Txt K mg)(_:sY K mg base){cdv:Value}{A:Around}{outer:List Env}{s:Shared}{H:Hp}{E:XK}{F0:Hp}{g0:ZP}{σ0:L2.St}{wf:∀a i q,g0 a=some (i,q)->i∈ps}(_:(p T).fd.code=cdv)(_:fD lev (A.deeper (envOfC x (bA st) s.heap.objs.size (p T).f cdv)))(_:N.Nodup),
  AS (qJ (AW P w K) P w K mg base N x (bA st) (p T).f cdv A outer s H E) ⟨F0,H,g0,ps,σ0,ow,wf⟩ ow ow ow ow rm (dG st) b)(hs:İ N k (bA st)=true:=by decide +kernel)(hN:↥(ow.length=N.length)):(Dq p (lev+1) ps ow rm):=⟨b,λT B=>(p T).okN (λa c d=>h T B a c d) hs hN⟩
abbrev Dn(R:∀(_:Program)(_:World)(K:ZC)(mg:ZD)(_:Heap),Txt K mg->M Fl->Prop):={b:M Fl // ∀{P:Program}{w:World}{K:ZC}{mg:ZD}{base:Heap}(T:Txt K mg)(_:sY K mg base),R P w K mg base T b}
local macro_rules| `(no_index $x:ident)=>`(haveI h:($x).1=?p:=(by unfold $x;dsimp![mq,List.length_cons,List.length_nil,List.set_cons_zero,List.set_cons_succ,List.getD,List.getElem?_cons_zero,List.getElem?_cons_succ,Option.getD_some,List.replicate_succ,List.replicate_zero,List.cons_append,List.nil_append,Nat.reduceAdd];exact rfl);?p)
section
variable {P:Program}{w:World}{K:ZC}{mg:ZD}{base:Heap}
def jD:(Dq Txt.x0 1 [] [0,0,0] 0):=mq λT B=>λhcd hr nd=>(aA (xN PassesOwn.leaving (bE aG (qK hr.units) xS rx aL (aZ _)) (aA (aF 2 aG rx nd) (aA (aF 0 aG rx nd) (aD (aF 1 aG rx nd))))) (aD (aO rx)))
def qV:M Fl:=no_index jD
def jE:ZI->Res D:=aR 3 [] 0 qV
def l5:(Dq Txt.x1 2 [] [0,0,0] 0):=mq λT B=>λhcd hr nd=>(aA (b9 (bE aG (j9 hr.units) p6 rx aL (aZ _)) (aD (g9 aG PySem.F.excBase_ValueError rfl T.n_NoNumber T.q_NoNumber T.e_NoNumber rfl rv)) bB) (aA (aF 2 aG (aB (fn:=jE) T.x0 (jD.2 T B) hr (aJ (gZ aG rR EA rfl T.x69 DP rv) (aJ (gZ aG rR EA rfl T.x69 DP rv) bS))) nd) (aA (b9 (bE aG jM jQ rx aL (aZ _)) (aD (aF 2 aG (iA rx) nd)) bB) (aD (aO (cZ (aI (sH aG rx rx) (aI (sH aG rx rx) bH))))))))
def qW:M Fl:=no_index l5
def gN:ZI->Res D:=aR 3 [] 0 qW
def X7:(Dq Txt.x2 3 [] [0,0] 0):=mq λT B=>λhcd hr nd=>(aD (aO (aB (fn:=gN) T.x1 (l5.2 T B) hr ra)))
def MC:M Fl:=no_index X7
def MD:ZI->Res D:=aR 2 [] 0 MC
def OW:(Dq Txt.x3 1 [] [0,0] 0):=mq λT B=>λhcd hr nd=>(aD (aO (kB aG jM jQ rx rx (aZ _))))
def FG:M Fl:=no_index OW
def FH:ZI->Res D:=aR 2 [] 0 FG
def tF:(Dq Txt.x4 1 [] [0,0,0,0,0] 0):=mq λT B=>λhcd hr nd=>(aA (aF 1 aG (dW aG bH) nd) (aA (fY 2 3 nd (jU rfl T.x72 rx) (aA (aF 4 aG (aG3 aG (bW aG (d8 "other" (bQ rx) (λC fp s H=>bT) (λC fp s H=>aL))) (bW aG (dW aG rv))) nd) (aA (nD 4 aG aL rx) (cP 4 (aD (cL (dX 1 aG rx))))))) (cP 1 (aD (aO rx)))))
def l6:M Fl:=no_index tF
def tG:ZI->Res D:=aR 5 [] 0 l6
def uW:(Dq Txt.x5 1 [] [0,0,0,0,0,0,0] 0):=mq λT B=>λhcd hr nd=>(aA (aF 4 aG (iA rx) nd) (aA (aF 5 aG rx nd) (aA (fX 6 (xs:=[ "one" ,"other" ]) aG aG rfl nd (xX rfl T.x83 rx rx) (λC fp s H=>(DC rfl (gX (c9 (i:=0) s8 rfl (Or.inl rfl)) (gX (c9 (i:=1) s8 rfl (Or.inl rfl)) wH)))) (EF (is:=[0,1]) aG (by intro i hi;simp![Ï,ä,or_false]at hi;rcases hi with rfl|rfl<;>exact⟨⋯,dA rfl,⋯,rfl⟩) rfl) (λC fp s H=>bT) (λC fp s H=>(sH aG rx rx))) (aA (nD 6 aG rx rx) (cP 6 (aD (aO rx)))))))
def uX:M Fl:=no_index uW
def uY:ZI->Res D:=aR 7 [] 0 uX
def IX:(Dq Txt.x6 1 [] [0,0,0,0] 0):=mq λT B=>λhcd hr nd=>(aA (gK 3 "one" nd (bQ rx) (λC fp s H=>bT) (λC fp s H=>(iA rx))) (aA (nD 3 aG (iA rx) rx) (cP 3 (aD (aO rx)))))
def yY:M Fl:=no_index IX
def IY:ZI->Res D:=aR 4 [] 0 yY
def kH:(Dq Txt.x7 1 [] [0,0] 0):=mq λT B=>λhcd hr nd=>(aA (fX 1 (xs:=[ "place" ,"line" ]) aG aG rfl nd (jU rfl T.x72 (d9 "Table" T.x87 rx)) (λC fp s H=>(DC rfl (gX (c9 (i:=0) k7 rfl (Or.inl rfl)) (gX (c9 (i:=1) k7 rfl (Or.inl rfl)) wH)))) (EF (is:=[0,1]) aG (by intro i hi;simp![Ï,ä,or_false]at hi;rcases hi with rfl|rfl<;>exact⟨⋯,dA rfl,⋯,rfl⟩) rfl) (λC fp s H=>(wJ (bE aG jM jQ (eI aG rx (iA aL)) aL (aZ _)))) (λC fp s H=>rx)) (aD (aO (uI 2 (λF H σ=>(QZ 0 "Table" (hr.mono (ò _)) rfl rfl T.x78 B T.lamE (hcd.symm.trans T.lamF) T.x86 rx ⟨by ac_nf0,rfl,rfl,rfl,rfl⟩ (λ_ _ _ _=>rfl) ⋯ ⋯ ⋯ ⋯))))))
def kJ:M Fl:=no_index kH
def cH:ZI->Res D:=aR 2 [] 0 kJ
def tH:(Dn λP w K mg base T b=>T.x8.Ok P w mg base 1 [] [0,0,0,0,0,0] 0 (aR 6 [] 0 b)):=⟨_,λT B=>T.x8.okN λhcd hr nd=>(aA (aF 4 aG (gH aG (eI aG (d9 "Table" T.x85 rx) rx) (iA rx)) nd) (aA (aF 5 aG (gH aG (eI aG (d9 "Table" T.x85 rx) rx) (iA rx)) nd) (aD (aO (aK2 (kB aG jM jQ rx rx (aZ _)) (xQ (xR (kB aG (j9 hr.units) p6 rx rx (aZ _)) (xQ (kB aG jM jQ (eI aG (d9 "Table" T.x84 rx) rx) (eI aG (d9 "Table" T.x84 rx) rx) (aZ _))))))))))⟩
def l7:M Fl:=no_index tH
def tJ:ZI->Res D:=aR 6 [] 0 l7
def tK:(Dq Txt.x9 2 [] [0,0,0,0] 0):=mq λT B=>λhcd hr nd=>(aA (aF 2 aG fI nd) (aA (dQ 3 nd (cU rfl T.x79 (cQ aG rfl T.x75 (d9 "Table" T.x84 rx))) (aD (b9 (gT (K8 (bE aG jM jQ rx aL (aZ _)) (D7 (gT (vL (bE aG (m6.or m5) vP rx fI (aZ _)) (qO (fU (IE (fn:=tJ) T.x8 (tH.2 T B) hr ra)))))))) (aD (aF 2 aG rx nd)) bB))) (aD (aO rx))))
def iP:M Fl:=no_index tK
def l8:ZI->Res D:=aR 4 [] 0 iP
def qX:(Dq Txt.x10 3 [] [0,0,0,0,0,0] 0):=mq λT B=>λhcd hr nd=>(aA (aF 3 aG (cQ aG rfl T.x75 (d9 "Table" T.x84 rx)) nd) (aA (aF 4 aG (bM aG rx (cQ aG rfl T.x75 rx)) nd) (aA (gK 5 "number" nd (cU rfl T.x79 (bM aG rx (cQ aG rfl T.x75 (d9 "Table" T.x84 rx)))) (λC fp s H=>bT) (λC fp s H=>(aB (fn:=gN) T.x1 (l5.2 T B) hr (aJ (OO hr.units rx rx aL) (aJ (d9 "Table" T.x88 rx) bS))))) (aD (aO (cZ (aI (bW aG (UZ 5 aG (jT rx) (jT rx))) (aI (bW aG (UZ 5 aG (jT rx) oW)) bH))))))))
def qY:M Fl:=no_index qX
def qZ:ZI->Res D:=aR 6 [] 0 qY
def nQ:(Dq Txt.x11 1 [] [0,0,0,0,0] 30):=mq λT B=>λhcd hr nd=>(aA (aF 2 aG (ET aG) nd) (aA (fY 3 4 nd (xX rfl T.x83 (d9 "Table" T.x84 rx) (bW aG (nH aG wI EB rx oW (jT (iA aL))))) (aD (wN 2 hr.units rx rx))) (aD (aO (sQ 2 aG)))))
def nR:M Fl:=no_index nQ
def nS:ZI->Res D:=aR 5 [] 30 nR
def vV:(Dq Txt.x12 4 [] [0,0,0,0] 0):=mq λT B=>λhcd hr nd=>(aA (aF 3 aG (aB (fn:=nS) T.x11 (nQ.2 T B) hr (aJ rx (aJ (eI aG (d9 "Table" T.x87 rx) rx) bS))) nd) (aA (wN 3 hr.units (d9 "Table" T.x88 rx) (eI aG (d9 "Table" T.x86 rx) rx)) (cP 3 (aD (aO (cZ (aI fL (aI (aB (fn:=qZ) T.x10 (qX.2 T B) hr ra) bH))))))))
def nT:M Fl:=no_index vV
def nU:ZI->Res D:=aR 4 [] 0 nT
def vW:(Dq Txt.x13 4 [] [0,0,0,0,0,0,0] 0):=mq λT B=>λhcd hr nd=>(aA (aF 3 aG (ET aG) nd) (aA (fY 4 5 nd (xX rfl T.x83 (d9 "Table" T.x86 rx) (d9 "Table" T.x87 rx)) (aD (wN 3 hr.units (eI aG rx (iA aL)) rx))) (cP 3 (aA (gK 6 "number" nd (cU rfl T.x79 (cQ aG rfl T.x75 rx)) (λC fp s H=>bT) (λC fp s H=>(aB (fn:=gN) T.x1 (l5.2 T B) hr (aJ (OO hr.units rx rx aL) (aJ (d9 "Table" T.x88 rx) bS))))) (cP 6 (aD (aO (cZ (aI fL (aI rx (aI (aB (fn:=qZ) T.x10 (qX.2 T B) hr (aJ rx (aJ rx (aJ (bW aG (aB (fn:=nS) T.x11 (nQ.2 T B) hr (aJ rx (aJ (d9 "Table" T.x85 rx) bS)))) bS)))) bH)))))))))))
def nV:M Fl:=no_index vW
def nW:ZI->Res D:=aR 7 [] 0 nV
def k8:(Dn λP w K mg base T b=>T.x14.Ok P w mg base 2 [0] [20,0,0] 0 (aR 3 [0] 0 b)):=⟨_,λT B=>T.x14.okN λhcd hr nd=>(aA (nL 0 "Table" aG T.x88 aL) (aA (nL 0 "Table" aG T.x84 (WJ aG rfl rfl T.x76 rfl T.x79 (cQ aG rfl T.x75 rx))) (aA (nL 0 "Table" aG T.x86 (WK aG rfl rfl T.x76 rfl T.x79 (cQ aG rfl T.x75 rx) (bM aG (bM aG (cQ aG rfl T.x75 rx) (cQ aG rfl T.x75 rx)) (cQ aG rfl T.x75 rx)))) (aA (nL 0 "Table" aG T.x87 (bM aG (bW aG (HA (xs:=[ "row" ,"top" ]) aG aG rfl (bQ rx) (λC fp s H=>(DC rfl (gX (c9 (i:=0) iG rfl (Or.inl rfl)) (gX (c9 (i:=1) iG rfl (Or.inl rfl)) wH)))) (EF (is:=[0,1]) aG (by intro i hi;simp![Ï,ä,or_false]at hi;rcases hi with rfl|rfl<;>exact⟨⋯,dA rfl,⋯,rfl⟩) rfl) (λC fp s H=>bT) (λC fp s H=>(bM aG (bW aG (iR aG fE oV rfl T.x76 gS rv)) (bW aG (dW aG rv)))))) (aB (fn:=tG) T.x4 (tF.2 T B) hr ra))) (aD (nL 0 "Table" aG T.x85 (bM aG (bW aG (d8 "room" (bQ rx) (λC fp s H=>bT) (λC fp s H=>aL))) (bW aG (dW aG rv)))))))))⟩
def gO:M Fl:=no_index k8
def k9:ZI->Res D:=aR 3 [0] 0 gO
def tL(T:Txt K mg)(B:sY K mg base):T.x14.Ok P w mg base 2 [0] [20,0,0] 0 k9:=k8.2 T B
def tN:(Dn λP w K mg base T b=>T.x15.Ok P w mg base 2 [0] [20,0,0,0,0,0] 0 (aR 6 [0] 0 b)):=⟨_,λT B=>T.x15.okN λhcd hr nd=>(aA (aF 3 aG (eI aG (oZ 0 "Table" T.x87) rx) nd) (aA (gK 4 "line" nd (bQ (oZ 0 "Table" T.x87)) (λC fp s H=>bT) (λC fp s H=>(aB (fn:=uY) T.x5 (uW.2 T B) hr (aJ rx (aJ rx (aJ rx (aJ (oZ 1 "Table" T.x88) bS))))))) (aA (nD 4 aG (aB (fn:=IY) T.x6 (IX.2 T B) hr (aJ rx (aJ rx (aJ (oZ 0 "Table" T.x88) bS)))) rx) (aA (nL 0 "Table" aG T.x85 (aB (fn:=uY) T.x5 (uW.2 T B) hr (aJ (oZ 0 "Table" T.x85) (aJ rx (aJ rx (aJ (oZ 0 "Table" T.x88) bS)))))) (cP 4 (aA (nL 0 "Table" aG T.x87 rx) (aA (nL 0 "Table" aG T.x88 (iA rx)) (aA (aF 5 aG (uI 6 (λF H σ=>(eI aG (d9 "Table" T.x86 rx) rx))) nd) (aA (B6 0 6 "Table" aG T.x86 (uI 6 (λF H σ=>(eI aG (d9 "Table" T.x84 rx) rx))) (λF H σ=>rx)) (aD (B6 0 6 "Table" aG T.x84 rx (λF H σ=>rx))))))))))))⟩
def l9:M Fl:=no_index tN
def mB:ZI->Res D:=aR 6 [0] 0 l9
def BD(T:Txt K mg)(B:sY K mg base):T.x15.Ok P w mg base 2 [0] [20,0,0,0,0,0] 0 mB:=tN.2 T B
def FI:(Dq Txt.x16 5 [] [0,0,0,0,0] 0):=mq λT B=>λhcd hr nd=>(aA (aF 2 aG (aCA 5 aG ⟨T.n_Table,T.cl_Table⟩ T.mk_Table (tL T B) (hr.mono ⋯) (by rfl) T.q_Table T.x14.b ra 20) nd) (aA (aF 3 aG (uI 5 (λF H σ=>(aB (fn:=cH) T.x7 (kH.2 T B) hr ra))) nd) (aA (xN PassesOwn.leaving (bE aG (aAX.or aAJ) UH rx fI (aZ _)) (aA (aF 4 aG (uI 5 (λF H σ=>(aB (fn:=l8) T.x9 (tK.2 T B) hr (aJ rx (aJ (eI aG (d9 "Table" T.x87 rx) rx) bS))))) nd) (aA (b9 (bE aG (m6.or m5) vP rx fI (aZ _)) (cP 2 (aD (aO (aB (fn:=nU) T.x12 (vV.2 T B) hr ra)))) bB) (aA (cL (aB9 2 aG ⟨T.n_Table,T.cl_Table⟩ T.me_Table_swap (BD T B) (hr.mono ⋯) T.x15.b ra)) (aD (aF 3 aG (uI 5 (λF H σ=>(aB (fn:=cH) T.x7 (kH.2 T B) hr ra))) nd)))))) (cP 2 (aD (aO (aB (fn:=nW) T.x13 (vW.2 T B) hr ra)))))))
def FJ:M Fl:=no_index FI
def pC:ZI->Res D:=aR 5 [] 0 FJ
def FK:(Dq Txt.x17 1 [] [0,0,0] 0):=mq λT B=>λhcd hr nd=>(aD (aO rx))
def FL:M Fl:=no_index FK
def wP:ZI->Res D:=aR 3 [] 0 FL
def CH:(Dq Txt.x18 2 [] [0,0,0,0,0,0,0,0,0] 0):=mq λT B=>λhcd hr nd=>(aA (aF 2 aG rx nd) (aA (aF 3 aG (aB (fn:=wP) T.x17 (FK.2 T B) hr (aJ rx (aJ rx (aJ (nH aG TK UL rx (jT aL) oW) bS)))) nd) (aA (fY 4 5 nd (xX rfl T.x83 rx rx) (aD (fY 6 7 nd (jU rfl T.x72 rx) (aA (aF 8 aG rx nd) (aD (aF 3 aG (aB (fn:=wP) T.x17 (FK.2 T B) hr ra) nd)))))) (aD (aO rx)))))
def uZ:M Fl:=no_index CH
def CI:ZI->Res D:=aR 9 [] 0 uZ
def gU:(Dq Txt.x19 1 [] [0,0,0,0] 0):=mq λT B=>λhcd hr nd=>(aD (aO (cZ (aI (bW aG (d8 "tank" (bQ rx) (λC fp s H=>bT) (λC fp s H=>rx))) rv))))
def kK:M Fl:=no_index gU
def gW:ZI->Res D:=aR 4 [] 0 kK
def mC:(Dq Txt.x20 1 [] [0,0,0,0] 0):=mq λT B=>λhcd hr nd=>(aD (aO (cZ (aI (bW aG (d8 "tank" (bQ rx) (λC fp s H=>bT) (λC fp s H=>rx))) rv))))
def mD:M Fl:=no_index mC
def mE:ZI->Res D:=aR 4 [] 0 mD
def CJ:(Dq Txt.x21 3 [] [0,0,0,0,0] 0):=mq λT B=>λhcd hr nd=>(aA (aF 2 aG rx nd) (aA (aF 3 aG rx nd) (aA (aF 4 aG (aB (fn:=CI) T.x18 (CH.2 T B) hr ra) nd) (aD (aO (bW aG (dW aG (aI (aB (fn:=gW) T.x19 (gU.2 T B) hr (aJ rx (aJ (oX rfl T.g_ALONG) ra))) (aI (aB (fn:=mE) T.x20 (mC.2 T B) hr (aJ rx (aJ (oX rfl T.g_ALONG) ra))) (aI (aB (fn:=gW) T.x19 (gU.2 T B) hr (aJ rx (aJ (oX rfl T.g_ACROSS) ra))) (aI (aB (fn:=mE) T.x20 (mC.2 T B) hr (aJ rx (aJ (oX rfl T.g_ACROSS) ra))) (aI (aB (fn:=gW) T.x19 (gU.2 T B) hr (aJ rx (aJ (oX rfl T.g_ABOVE) ra))) (aI (cZ (aI (bW aG (d8 "tank" (bQ rx) (λC fp s H=>bT) (λC fp s H=>aL))) rv)) bH)))))))))))))
def u0:M Fl:=no_index CJ
def u1:ZI->Res D:=aR 5 [] 0 u0
def yZ:(Dq Txt.x22 1 [] [0] 0):=mq λT B=>λhcd hr nd=>(aD (aO (bW aG (d8 "tank" (bQ rx) (λC fp s H=>bT) (λC fp s H=>rx)))))
def rA:M Fl:=no_index yZ
def rB:ZI->Res D:=aR 1 [] 0 rA
def CK:(Dq Txt.x23 6 [] [0,0] 0):=mq λT B=>λhcd hr nd=>(aD (aO (aB (fn:=pC) T.x16 (FI.2 T B) hr (aJ (aB (fn:=u1) T.x21 (CJ.2 T B) hr ra) (aJ (aB (fn:=rB) T.x22 (yZ.2 T B) hr ra) bS)))))
def u2:M Fl:=no_index CK
def CL:ZI->Res D:=aR 2 [] 0 u2
def pE:(Dq Txt.x24 1 [] [0] 0):=mq λT B=>λhcd hr nd=>(aA (b9 (qL (fU (lW .str rfl rfl T.x74 rfl T.x80 DQ rx))) (aD (aO xI)) bB) (aD (aO (xR (G8 aG Β Υ Β Υ aL (cQ aG rfl T.x75 rx) (oX rfl T.g_LONGEST_NAME)) (xQ (gZ aG (HB rfl) aHG rfl T.x70 aGU (aI (bW aG (d8 "sign" (aHD rx) (λC fp s H=>bT) (λC fp s H=>(G8 aG BV UN BV UN fL rx fL)))) bH)))))))
def pF:M Fl:=no_index pE
def gQ:ZI->Res D:=aR 1 [] 0 pF
def y0:(Dq Txt.x25 1 [] [0,0,0,0,0] 0):=mq λT B=>λhcd hr nd=>(aA (aF 3 aG rx nd) (aA (aF 4 aG rx nd) (aD (aO (bM aG (gZ aG rR EA rfl T.x69 DP rv) (gZ aG rR EA rfl T.x69 DP rv))))))
def rC:M Fl:=no_index y0
def y8:ZI->Res D:=aR 5 [] 0 rC
def vX:(Dq Txt.x26 2 [] [0,0] 0):=mq λT B=>λhcd hr nd=>(aA (b9 (qL (fU (aB (fn:=gQ) T.x24 (pE.2 T B) hr ra))) (aD (g9 aG PySem.F.excBase_ValueError rfl T.n_NoName T.q_NoName T.e_NoName rfl rv)) bB) (aA (b9 (aIU hr.units rx rx) (aD (g9 aG PySem.F.excBase_ValueError rfl T.n_NoName T.q_NoName T.e_NoName rfl rv)) bB) (aA (b9 (bE aG jM jQ rx aL (aZ _)) (aD (g9 aG PySem.F.excBase_ValueError rfl T.n_NoWeight T.q_NoWeight T.e_NoWeight rfl rv)) bB) (aA (b9 (qL (fU (aB (fn:=gQ) T.x24 (pE.2 T B) hr ra))) (aD (g9 aG PySem.F.excBase_ValueError rfl T.n_NoName T.q_NoName T.e_NoName rfl rv)) bB) (aA (b9 (qL (fU (aB (fn:=gQ) T.x24 (pE.2 T B) hr ra))) (aD (g9 aG PySem.F.excBase_ValueError rfl T.n_NoName T.q_NoName T.e_NoName rfl rv)) bB) (aD (b9 (bE aG jM jQ rx aL (aZ _)) (aD (g9 aG PySem.F.excBase_ValueError rfl T.n_NoWeight T.q_NoWeight T.e_NoWeight rfl rv)) bB)))))))
def jW:M Fl:=no_index vX
def hG:ZI->Res D:=aR 2 [] 0 jW
def jX:(Dq Txt.x27 1 [] [0,0,0,0,0,0,0] 0):=mq λT B=>λhcd hr nd=>(aA (aF 3 aG (dW aG bH) nd) (aA (aF 4 aG (gZ aG (sK rfl) UV rfl T.x81 U4 (aI (bW aG (d8 "box" (bQ rx) (λC fp s H=>bT) (λC fp s H=>rx))) bH)) nd) (aA (b9 (bE aG vE vO (cQ aG rfl T.x75 rx) rx (aZ _)) (aD (cL (dX 3 aG rx))) bB) (aA (b9 (bE aG vE vO rx rx (aZ _)) (aD (cL (dX 3 aG rx))) bB) (aA (fY 5 6 nd (jU rfl T.x72 rx) (aA (aF 4 aG rx nd) (aD (b9 (bE aG vE vO rx rx (aZ _)) (aD (cL (dX 3 aG rx))) bB)))) (cP 3 (aD (aO rx))))))))
def f6:M Fl:=no_index jX
def jY:ZI->Res D:=aR 7 [] 0 f6
def IZ:(Dq Txt.x28 1 [] [0,0,0] 0):=mq λT B=>λhcd hr nd=>(aD (aO (aB1 rfl rfl T.x77 (bW aG (d8 "row" (bQ rx) (λC fp s H=>(wJ (bE aG (aIA hr.units) aIB (nH aG TK UL rx oW (jT aL)) rx (by with_unfolding_all rfl)))) (λC fp s H=>rx))) aL)))
def y9:M Fl:=no_index IZ
def I8:ZI->Res D:=aR 3 [] 0 y9
def nX:(Dq Txt.x29 1 [] [0,0,0,0,0,0] 0):=mq λT B=>λhcd hr nd=>(aA (aF 1 aG (dW aG bH) nd) (aA (fY 2 3 nd (jU rfl T.x72 rx) (aD (fY 4 5 nd (jU rfl T.x72 rx) (aD (cL (dX 1 aG rx)))))) (cP 1 (aD (aO rx)))))
def jF:M Fl:=no_index nX
def nY:ZI->Res D:=aR 6 [] 0 jF
def nZ:(Dq Txt.x30 2 [] [0,0,0,0,0,0,0] 0):=mq λT B=>λhcd hr nd=>(aA (aF 2 aG (dW aG bH) nd) (aA (aF 3 aG (aB (fn:=nY) T.x29 (nX.2 T B) hr ra) nd) (aA (fY 4 5 nd (jU rfl T.x72 rx) (aD (dQ 6 nd (bQ (bW aG (nH aG wI EB rx (jT rx) oW))) (aD (b9 (bE aG vE vO (aB (fn:=I8) T.x28 (IZ.2 T B) hr ra) (aB (fn:=y8) T.x25 (y0.2 T B) hr ra) (aZ _)) (aD (cL (dX 2 aG rx))) bB))))) (cP 2 (aD (aO rx))))))
def jG:M Fl:=no_index nZ
def n5:ZI->Res D:=aR 7 [] 0 jG
def zC:(Dq Txt.x31 3 [] [0,0,0,0,0] 0):=mq λT B=>λhcd hr nd=>(aA (aF 2 aG (dW aG bH) nd) (aA (fY 3 4 nd (jU rfl T.x72 rx) (aD (cL (D2 2 aG PySem.F.slot_list_extend PySem.F.type_list_extend EH qP (aI (aB (fn:=jY) T.x27 (jX.2 T B) hr ra) bH))))) (aA (cL (D2 2 aG PySem.F.slot_list_extend PySem.F.type_list_extend EH qP (aI (aB (fn:=n5) T.x30 (nZ.2 T B) hr ra) bH))) (cP 2 (aD (aO rx))))))
def zD:M Fl:=no_index zC
def n6:ZI->Res D:=aR 5 [] 0 zD
def zE:(Dq Txt.x32 1 [] [0] 2):=mq λT B=>λhcd hr nd=>(aD (aO (QQ (xs:=[ "boxes" ]) 2 aG aG rfl (bQ rx) (λC fp s H=>(c9 (i:=0) IP rfl (Or.inl rfl))) (g8 aG ⋯ (dA rfl) ⋯ rfl) (λC fp s H F1 H1 σ1=>(iR aG fE oV rfl T.x76 gS rv)))))
def zF:M Fl:=no_index zE
def zG:ZI->Res D:=aR 1 [] 2 zF
def CN:(Dq Txt.x33 2 [] [0,0,0,0] 2):=mq λT B=>λhcd hr nd=>(aA (aF 3 aG (aB (fn:=zG) T.x32 (zE.2 T B) hr ra) nd) (aA (b9 (bE aG (j9 hr.units) p6 rx fL (aZ _)) (aD (cL (VS 3 4 PySem.F.slot_list_pop PySem.F.type_list_pop TR N7 (λF H σ=>rx)))) (aD (cL (EO 3 4 PySem.F.slot_list_append PySem.F.type_list_append oN lU (λF H σ=>rx) (λF H σ=>rv))))) (aD (aO (sQ 3 aG)))))
def u3:M Fl:=no_index CN
def CO:ZI->Res D:=aR 4 [] 2 u3
def zH:(Dq Txt.x34 1 [] [0,0,0,0] 30):=mq λT B=>λhcd hr nd=>(aA (aF 1 aG (ET aG) nd) (aA (dQ 2 nd (bQ rx) (aD (dQ 3 nd (bQ rx) (aD (wN 1 hr.units xI rx))))) (aD (aO (sQ 1 aG)))))
def rD:M Fl:=no_index zH
def zI:ZI->Res D:=aR 4 [] 30 rD
def zJ:(Dq Txt.x35 7 [] [0,0,0] 0):=mq λT B=>λhcd hr nd=>(aA (aF 2 aG (aB (fn:=n6) T.x31 (zC.2 T B) hr ra) nd) (aA (b9 (aIV rx) (aD (aO rx)) bB) (aD (aO (aB (fn:=CL) T.x23 (CK.2 T B) hr ra)))))
def rF:M Fl:=no_index zJ
def mF:ZI->Res D:=aR 3 [] 0 rF
def rG:(Dq Txt.x36 1 [] [0,0] 0):=mq λT B=>λhcd hr nd=>(aD (aO (Ξ (bE aG uB LG rx rx (by with_unfolding_all rfl)) (HM rx rx) (cQ aG rfl T.x75 rx))))
def rH:M Fl:=no_index rG
def rJ:ZI->Res D:=aR 2 [] 0 rH
def n9:(Dq Txt.x37 2 [] [0,0,0,0,0] 0):=mq λT B=>λhcd hr nd=>(aA (aF 4 aG (aB (fn:=rJ) T.x36 (rG.2 T B) hr ra) nd) (aD (aO (cQ aG rfl T.x75 (bW aG (d8 "other" (bQ rx) (λC fp s H=>(wJ (bE aG jM jQ (aB (fn:=rJ) T.x36 (rG.2 T B) hr ra) rx (aZ _)))) (λC fp s H=>rx)))))))
def jH:M Fl:=no_index n9
def jI:ZI->Res D:=aR 5 [] 0 jH
def I9:(Dq Txt.x38 4 [] [0,0,0] 0):=mq λT B=>λhcd hr nd=>(aA (aF 1 aG rx nd) (aA (dQ 2 nd (bQ rx) (aD (aF 1 aG (aB (fn:=MD) T.x2 (X7.2 T B) hr ra) nd))) (aD (aO rx))))
def zK:M Fl:=no_index I9
def JA:ZI->Res D:=aR 3 [] 0 zK
def zL:(Dq Txt.x39 3 [] [0,0,0] 2):=mq λT B=>λhcd hr nd=>(aD (aO (aB (fn:=CO) T.x33 (CN.2 T B) hr ra)))
def zM:M Fl:=no_index zL
def oA:ZI->Res D:=aR 3 [] 2 zM
def tO:(Dq Txt.x40 8 [] [0,0,0,0,0,0,0] 0):=mq λT B=>λhcd hr nd=>(aA (aF 4 aG (dW aG bH) nd) (aA (dQ 5 nd (cU rfl T.x79 (cQ aG rfl T.x75 rx)) (aA (aF 6 aG (aB (fn:=mF) T.x35 (zJ.2 T B) hr (aJ rx (aJ (bW aG (aB (fn:=oA) T.x39 (zL.2 T B) hr ra)) bS))) nd) (aD (b9 (bE aG (j9 hr.units) p6 rx fL (aZ _)) (aD (cL (dX 4 aG (cZ (aI rx (aI (aB (fn:=jI) T.x37 (n9.2 T B) hr ra) (aI (aB (fn:=JA) T.x38 (I9.2 T B) hr ra) bH))))))) bB)))) (cP 4 (aD (aO rx)))))
def mG:M Fl:=no_index tO
def mH:ZI->Res D:=aR 7 [] 0 mG
def iH:(Dn λP w K mg base T b=>T.x41.Ok P w mg base 2 [] [0,0] 0 (aR 2 [] 0 b)):=⟨_,λT B=>T.x41.okN λhcd hr nd=>(aA (b9 (bE aG (qK hr.units) xS rx rx (aZ _)) (aD (aO (kB aG jM jQ rx rx (aZ _)))) bB) (aD (aO (aB (fn:=FH) T.x3 (OW.2 T B) hr ra))))⟩
def fK:M Fl:=no_index iH
def dR:ZI->Res D:=aR 2 [] 0 fK
def vY:(Dq Txt.x42 9 [] [0,0,0,0,0,0] 0):=mq λT B=>λhcd hr nd=>(aA (cL (aB (fn:=hG) T.x26 (vX.2 T B) hr (aJ rx (aJ (bW aG (aB (fn:=zI) T.x34 (zH.2 T B) hr ra)) bS)))) (aA (aF 4 aG fI nd) (aA (dQ 5 nd (bQ (aB (fn:=mH) T.x40 (tO.2 T B) hr ra)) (aD (b9 (gT (vL (bE aG (m6.or m5) vP rx fI (aZ _)) (qO (fU (IE (fn:=dR) T.x41 (iH.2 T B) hr ra))))) (aD (aF 4 aG rx nd)) bB))) (aA (b9 (bE aG (m6.or m5) vP rx fI (aZ _)) (aD (g9 aG PySem.F.excBase_ValueError rfl T.n_NoStack T.q_NoStack T.e_NoStack rfl rv)) bB) (aD (aO rx))))))
def eZ:M Fl:=no_index vY
def cT:ZI->Res D:=aR 6 [] 0 eZ
def JB:(Dq Txt.x43 10 [] [0,0,0,0,0,0] 2):=mq λT B=>λhcd hr nd=>(aA (aF 4 aG (aB (fn:=zG) T.x32 (zE.2 T B) hr ra) nd) (aA (dQ 5 nd (bQ rx) (cP 4 (aD (aF 4 aG (aB (fn:=oA) T.x39 (zL.2 T B) hr (aJ rx (aJ (aB (fn:=cT) T.x42 (vY.2 T B) hr ra) ra))) nd)))) (aD (aO (sQ 4 aG)))))
def lB:M Fl:=no_index JB
def f7:ZI->Res D:=aR 6 [] 2 lB
def jZ:(Dq Txt.x44 1 [] [0,0] 0):=mq λT B=>λhcd hr nd=>(aA (b9 (bE aG jM jQ rx (cQ aG rfl T.x75 rx) (aZ _)) (aD (aO rx)) bB) (aD (aO aL)))
def oB:M Fl:=no_index jZ
def j0:ZI->Res D:=aR 2 [] 0 oB
def c7:(Dq Txt.x45 2 [] [0,0,0] 0):=mq λT B=>λhcd hr nd=>(aD (aO (iZ aG (iZ aG (gH aG (bM aG (iZ aG (aB (fn:=j0) T.x44 (jZ.2 T B) hr ra) aL) rx) aL) aL) rx)))
def zN:M Fl:=no_index c7
def cF:ZI->Res D:=aR 3 [] 0 zN
def cW:(Dq Txt.x46 2 [] [0,0,0] 0):=mq λT B=>λhcd hr nd=>(aD (aO (iZ aG (iZ aG (gH aG (bM aG (bM aG (iZ aG (aB (fn:=j0) T.x44 (jZ.2 T B) hr ra) aL) rx) aL) aL) aL) rx)))
def u4:M Fl:=no_index cW
def cX:ZI->Res D:=aR 3 [] 0 u4
def cN:(Dq Txt.x47 2 [] [0,0,0] 0):=mq λT B=>λhcd hr nd=>(aD (aO (iZ aG (iZ aG (gH aG (bM aG (bM aG (iZ aG (aB (fn:=j0) T.x44 (jZ.2 T B) hr ra) aL) rx) aL) aL) aL) rx)))
def u5:M Fl:=no_index cN
def cO:ZI->Res D:=aR 3 [] 0 u5
def f9:(Dq Txt.x48 3 [] [0,0,0,0,0,0,0,0] 0):=mq λT B=>λhcd hr nd=>(aA (aF 3 aG fL nd) (aA (aF 4 aG (bM aG aL (aB (fn:=cO) T.x47 (cN.2 T B) hr ra)) nd) (aA (aF 5 aG (aB (fn:=cX) T.x46 (cW.2 T B) hr ra) nd) (aA (aF 6 aG (eI aG rx (aB (fn:=cF) T.x45 (c7.2 T B) hr ra)) nd) (aA (aF 7 aG (eI aG rx (iZ aG (bM aG rx (aB (fn:=cX) T.x46 (cW.2 T B) hr ra)) aL)) nd) (aD (aO (bM aG (bM aG (OB aG rx rx) rx) (OB aG rx rx)))))))))
def zO:M Fl:=no_index f9
def gA:ZI->Res D:=aR 8 [] 0 zO
def lC:(Dq Txt.x49 3 [] [0] 0):=mq λT B=>λhcd hr nd=>(aD (aO (eI aG (bW aG (dW aG (aI aL (aI aL (aI aL (aI (aG5 aG aL aL) bH)))))) (aB (fn:=cF) T.x45 (c7.2 T B) hr ra))))
def u6:M Fl:=no_index lC
def lD:ZI->Res D:=aR 1 [] 0 u6
def CP:(Dq Txt.x50 4 [] [0,0,0,0,0,0,0] 0):=mq λT B=>λhcd hr nd=>(aA (aF 2 aG (nF aG (aB (fn:=cF) T.x45 (c7.2 T B) hr ra) aL) nd) (aA (aF 3 aG (nF aG (aB (fn:=cX) T.x46 (cW.2 T B) hr ra) aL) nd) (aA (aF 4 aG (bM aG aL (aB (fn:=cO) T.x47 (cN.2 T B) hr ra)) nd) (aA (aF 5 aG (gH aG (aB (fn:=lD) T.x49 (lC.2 T B) hr ra) (bM aG aL (aB (fn:=cX) T.x46 (cW.2 T B) hr ra))) nd) (aA (aF 6 aG (aB (fn:=gA) T.x48 (f9.2 T B) hr ra) nd) (aD (aO (cZ (aI rx (aI rx (aI rx (aI (aB (fn:=cO) T.x47 (cN.2 T B) hr ra) (aI (bM aG aL (aB (fn:=cF) T.x45 (c7.2 T B) hr ra)) rv)))))))))))))
def u7:M Fl:=no_index CP
def CQ:ZI->Res D:=aR 7 [] 0 u7
def JC:(Dq Txt.x51 4 [] [0,0,0,0,0] 0):=mq λT B=>λhcd hr nd=>(aA (aF 2 aG (nF aG (aB (fn:=cF) T.x45 (c7.2 T B) hr ra) aL) nd) (aA (aF 3 aG (nF aG (aB (fn:=cX) T.x46 (cW.2 T B) hr ra) aL) nd) (aA (aF 4 aG (gH aG (aB (fn:=lD) T.x49 (lC.2 T B) hr ra) (bM aG aL (aB (fn:=cF) T.x45 (c7.2 T B) hr ra))) nd) (aD (aO (cZ (aI (aB (fn:=gA) T.x48 (f9.2 T B) hr ra) (aI rx (aI rx (aI (nF aG (aB (fn:=cO) T.x47 (cN.2 T B) hr ra) aL) rv))))))))))
def zP:M Fl:=no_index JC
def JD:ZI->Res D:=aR 5 [] 0 zP
def JE:(Dq Txt.x52 5 [] [0,0,0,0,0,0,0,0,0,0,0,0,0] 0):=mq λT B=>λhcd hr nd=>(aA (aF 1 aG (aB (fn:=lD) T.x49 (lC.2 T B) hr ra) nd) (aA (aF 2 aG (cZ (aI (gH aG rx (bM aG aL (aB (fn:=cF) T.x45 (c7.2 T B) hr ra))) (aI (nF aG (aB (fn:=cX) T.x46 (cW.2 T B) hr ra) aL) (aI (nF aG (aB (fn:=cO) T.x47 (cN.2 T B) hr ra) aL) rv)))) nd) (aA (aF 3 aG (bM aG aL (aB (fn:=cO) T.x47 (cN.2 T B) hr ra)) nd) (aA (aF 4 aG (bM aG aL (aB (fn:=cO) T.x47 (cN.2 T B) hr ra)) nd) (aA (aF 5 aG (gH aG rx (bM aG aL (aB (fn:=cX) T.x46 (cW.2 T B) hr ra))) nd) (aA (aF 6 aG (cZ (aI rx (aI rx (aI rx (aI (bM aG rx (aB (fn:=cF) T.x45 (c7.2 T B) hr ra)) (aI (bM aG aL (aB (fn:=cO) T.x47 (cN.2 T B) hr ra)) rv)))))) nd) (aA (gK 7 "_law_s" nd (cU rfl T.x79 (bM aG aL (aB (fn:=cF) T.x45 (c7.2 T B) hr ra))) (λC fp s H=>bT) (λC fp s H=>(aB (fn:=CQ) T.x50 (CP.2 T B) hr ra))) (aA (gK 8 "_law_k" nd (cU rfl T.x79 (aB (fn:=cX) T.x46 (cW.2 T B) hr ra)) (λC fp s H=>bT) (λC fp s H=>(aB (fn:=JD) T.x51 (JC.2 T B) hr ra))) (aA (aF 9 aG (dW aG bH) nd) (aA (dQ 10 nd (cU rfl T.x79 (eI aG (bW aG (dW aG rv)) (aB (fn:=cO) T.x47 (cN.2 T B) hr ra))) (aA (aF 11 aG (aB (fn:=gA) T.x48 (f9.2 T B) hr (aJ rx (aJ aL (aJ (aB (fn:=cF) T.x45 (c7.2 T B) hr ra) bS)))) nd) (aA (aF 12 aG (aB (fn:=gA) T.x48 (f9.2 T B) hr (aJ rx (aJ aL (aJ (aB (fn:=cX) T.x46 (cW.2 T B) hr ra) bS)))) nd) (aD (cL (dX 9 aG (cZ (aI rx (aI rx (aI (bM aG aL (aB (fn:=cO) T.x47 (cN.2 T B) hr ra)) bH)))))))))) (cP 7 (cP 8 (cP 9 (aD (aO rx)))))))))))))))
def zQ:M Fl:=no_index JE
def zR:ZI->Res D:=aR 13 [] 0 zQ
def wQ:(Dq Txt.x53 4 [] [0,0,0,0,0,0] 0):=mq λT B=>λhcd hr nd=>(aA (aF 2 aG (aB (fn:=lD) T.x49 (lC.2 T B) hr ra) nd) (aA (aF 3 aG (aB (fn:=gA) T.x48 (f9.2 T B) hr (aJ rx (aJ aL (aJ (aB (fn:=cX) T.x46 (cW.2 T B) hr ra) bS)))) nd) (aA (aF 4 aG (aB (fn:=gA) T.x48 (f9.2 T B) hr (aJ rx (aJ aL (aJ (eI aG (bW aG (dW aG rv)) (aB (fn:=cO) T.x47 (cN.2 T B) hr ra)) bS)))) nd) (aA (aF 5 aG (gH aG rx (aB (fn:=cX) T.x46 (cW.2 T B) hr ra)) nd) (aA (b9 (bE aG vE vO rx rx (aZ _)) (aD (aF 5 aG rx nd)) bB) (aD (aO (cZ (aI (aB (fn:=gA) T.x48 (f9.2 T B) hr ra) (aI (gH aG rx (bM aG aL (aB (fn:=cF) T.x45 (c7.2 T B) hr ra))) rv))))))))))
def FM:M Fl:=no_index wQ
def pG:ZI->Res D:=aR 6 [] 0 FM
def CS:(Dq Txt.x54 5 [] [0,0,0,0,0] 0):=mq λT B=>λhcd hr nd=>(aA (p8 3 (xs:=[ "_law_stack_here" ]) 6 aG aG rfl nd (bQ rx) (λC fp s H=>(c9 (i:=0) FD rfl (Or.inl rfl))) (g8 aG ⋯ (dA rfl) ⋯ rfl) (λC fp s H F1 H1 σ1=>(dW aG bH))) (aA (dQ 4 nd (cU rfl T.x79 rx) (aD (cL (EO 3 5 PySem.F.slot_list_append PySem.F.type_list_append oN lU (λF H σ=>(aB (fn:=cO) T.x47 (cN.2 T B) hr (aJ rx (aJ rx (aJ (cQ aG rfl T.x75 rx) bS))))) (λF H σ=>(aI (aB (fn:=pG) T.x53 (wQ.2 T B) hr ra) bH)))))) (cP 3 (aD (aO rx)))))
def u8:M Fl:=no_index CS
def pH:ZI->Res D:=aR 5 [] 0 u8
def CT(T:Txt K mg)(B:sY K mg base):∀n,T.x55.Ok P w mg base (n+1) [] [0,0,0,0] 0 (nO n)
 |0=>VW
 |n+1=>T.x55.okD uV λhcd hr=>(aA (b9 (fU (aB4 .tuple .list rfl T.x74 rfl T.x82 xA rfl T.x76 gS (aT 1)))
   (aA (aF 2 aG (Ξ (fU (lW .tuple rfl rfl T.x74 rfl T.x82 xA (aT 1))) (lW .tuple rfl rfl T.x74 rfl T.x82 xA (aT 0)) (lW .list rfl rfl T.x74 rfl T.x76 gS (aT 0))) uV.nd)
   (aA (b9 (gT (vL (qL (fU (aT 2))) (qO (bE aG (qK hr.units) xS (cQ aG rfl T.x75 (aT 0)) (cQ aG rfl T.x75 (aT 1)) (aZ _)))))
    (aD (aO xI))
    bB)
   (aA (D8 PassesOwn.leaving rfl (cU rfl T.x79 (cQ aG rfl T.x75 (aT 1))) (c9 (i:=3) uV.nd rfl (by ac_nf0)) (DY aG (dA rfl) ⋯ rfl)
    (aD (b9 (qL (fU (aB T.x55 (CT T B n) hr (aJ (eI aG (aT 0) (aT 3)) (aJ (eI aG (aT 1) (aT 3)) bS)) (È _))))
     (aD (aO xI))
     bB)))
   (aD (aO xI)))))
   bB)
  (aA (b9 (fU (lW .str rfl rfl T.x74 rfl T.x80 DQ (aT 1)))
   (aD (aO (xR (lW .str rfl rfl T.x74 rfl T.x80 DQ (aT 0)) (xQ (kB aG (j9 hr.units) p6 (aT 0) (aT 1) (aZ _))))))
   bB)
  (aD (aO (xR (lW .int rfl rfl T.x74 rfl T.x73 aGV (aT 0)) (xR (aG7 (lW .bool rfl rfl T.x74 rfl T.x71 aAV (aT 0))) (xQ (kB aG (j9 hr.units) p6 (aT 0) (aT 1) (aZ _)))))))))
def zS:(Dq Txt.x56 1 [] [0,0,0] 0):=mq λT B=>λhcd hr nd=>(aA (xN PassesOwn.leaving (bE aG vE vO rx aL (aZ _)) (aA (aF 2 aG rx nd) (aA (aF 0 aG rx nd) (aD (aF 1 aG rx nd))))) (aD (aO rx)))
def ME:M Fl:=no_index zS
def zT:ZI->Res D:=aR 3 [] 0 ME
def JF:(Dq Txt.x57 2 [] [0,0,0] 0):=mq λT B=>λhcd hr nd=>(aA (aF 1 aG aL nd) (aA (dQ 2 nd (bQ rx) (aD (aF 1 aG (sH aG rx (aB (fn:=zT) T.x56 (zS.2 T B) hr ra)) nd))) (aD (aO (bM aG (bW aG (d8 "_law_one" (bQ rx) (λC fp s H=>bT) (λC fp s H=>(gH aG rx (sH aG rx rx))))) (bW aG (dW aG rv)))))))
def zU:M Fl:=no_index JF
def JG:ZI->Res D:=aR 3 [] 0 zU
def vZ:(Dq Txt.x58 1 [] [0,0,0,0,0,0,0,0] 0):=mq λT B=>λhcd hr nd=>(aA (aF 2 aG rx nd) (aA (aF 3 aG (dW aG rv) nd) (aA (fY 4 5 nd (xX rfl T.x83 rx rx) (aD (dQ 6 nd (cU rfl T.x79 (cQ aG rfl T.x75 rx)) (aA (aF 7 aG rx nd) (aA (nD 3 aG (bM aG (D4 3 aL) rx) aL) (aA (nD 3 aG (bM aG (D4 3 aL) rx) aL) (aA (nD 3 aG (bM aG (D4 3 aL) rx) aL) (aD (nD 3 aG (bM aG (D4 3 aL) rx) aL))))))))) (cP 3 (aD (aO rx))))))
def oC:M Fl:=no_index vZ
def v5:ZI->Res D:=aR 8 [] 0 oC
def JH:(Dq Txt.x59 2 [] [0,0,0,0,0] 0):=mq λT B=>λhcd hr nd=>(aA (aF 2 aG (aB (fn:=v5) T.x58 (vZ.2 T B) hr ra) nd) (aA (aF 3 aG rx nd) (aA (aF 4 aG rx nd) (aD (aO (bW aG (dW aG (aI (cZ (aI 'p' rv)) (aI (cZ (aI 'p' rv)) (aI (cZ (aI 'p' rv)) (aI (cZ (aI 'p' rv)) (aI (cZ (aI 'p' rv)) (aI (cZ (aI (bW aG (d8 "_law_tank_here" (bQ rx) (λC fp s H=>bT) (λC fp s H=>aL))) rv)) bH)))))))))))))
def zV:M Fl:=no_index JH
def oE:ZI->Res D:=aR 5 [] 0 zV
def zW:(Dq Txt.x60 1 [] [0,0] 0):=mq λT B=>λhcd hr nd=>(aA (b9 (bE aG uB LG rx rx (by with_unfolding_all rfl)) (aD (aO (HM rx rx))) bB) (aD (aO (cQ aG rfl T.x75 rx))))
def zX:M Fl:=no_index zW
def zY:ZI->Res D:=aR 2 [] 0 zX
def FN:(Dq Txt.x61 1 [] [0,0,0,0] 0):=mq λT B=>λhcd hr nd=>(aA (p8 3 (xs:=[ "_law_boxes" ]) 5 aG aG rfl nd (bQ rx) (λC fp s H=>(c9 (i:=0) MB rfl (Or.inl rfl))) (g8 aG ⋯ (dA rfl) ⋯ rfl) (λC fp s H F1 H1 σ1=>(iR aG fE oV rfl T.x76 gS rv))) (aA (cL (EO 3 4 PySem.F.slot_list_append PySem.F.type_list_append oN lU (λF H σ=>rx) (λF H σ=>rv))) (cP 3 (aD (aO rx)))))
def FO:M Fl:=no_index FN
def FP:ZI->Res D:=aR 4 [] 0 FO
def JI:(Dq Txt.x62 1 [] [0,0] 0):=mq λT B=>λhcd hr nd=>(aD (aO (kB aG jM jQ rx rx (aZ _))))
def zZ:M Fl:=no_index JI
def z6:ZI->Res D:=aR 2 [] 0 zZ
def CU:(Dq Txt.x63 6 [] [0,0,0,0] 0):=mq λT B=>λhcd hr nd=>(aA (aF 2 aG (aB (fn:=pC) T.x16 (FI.2 T B) hr (aJ (aB (fn:=oE) T.x59 (JH.2 T B) hr ra) (aJ 'p' bS))) nd) (aA (b9 (bE aG (qK hr.units) xS rx fL (aZ _)) (aD (aO fI)) bB) (aA (aF 3 aG (aB (fn:=JG) T.x57 (JF.2 T B) hr ra) nd) (aD (aO (cZ (aI (gZ aG (sK rfl) UV rfl T.x81 U4 (aI (bW aG (nH aG wI EB rx oW (jT (iA aL)))) bH)) (aI (eI aG rx (iA aL)) bH))))))))
def lE:M Fl:=no_index CU
def lF:ZI->Res D:=aR 4 [] 0 lE
def JJ:(Dq Txt.x64 7 [] [0,0,0,0,0,0,0,0,0,0] 0):=mq λT B=>λhcd hr nd=>(aA (aF 4 aG fI nd) (aA (dQ 5 nd (cU rfl T.x79 (cQ aG rfl T.x75 rx)) (aA (aF 6 aG (aB (fn:=FP) T.x61 (FN.2 T B) hr ra) nd) (aA (aF 7 aG (aB (fn:=lF) T.x63 (CU.2 T B) hr ra) nd) (aA (b9 (gT (vL (bE aG (m6.or m5) vP rx fI (aZ _)) (qO (bE aG vE vO (cQ aG rfl T.x75 (aB (fn:=n6) T.x31 (zC.2 T B) hr ra)) aL (aZ _))))) (aD GY) bB) (aA (aF 8 aG (aB (fn:=zY) T.x60 (zW.2 T B) hr ra) nd) (aA (aF 9 aG (cQ aG rfl T.x75 (bW aG (d8 "_law_other_here" (bQ rx) (λC fp s H=>(wJ (bE aG jM jQ (aB (fn:=zY) T.x60 (zW.2 T B) hr ra) rx (aZ _)))) (λC fp s H=>rx)))) nd) (aD (b9 (gT (vL (bE aG (m6.or m5) vP rx fI (aZ _)) (vL (bE aG jM jQ rx rx (aZ _)) (qO (gT (K8 (bE aG (j9 hr.units) p6 rx rx (aZ _)) (D7 (fU (aB (fn:=z6) T.x62 (JI.2 T B) hr ra))))))))) (aD (aF 4 aG rx nd)) bB)))))))) (aA (b9 (bE aG (m6.or m5) vP rx fI (aZ _)) (aD (aO fI)) bB) (aD (aO rx)))))
def z7:M Fl:=no_index JJ
def oF:ZI->Res D:=aR 10 [] 0 z7
def CV:(Dq Txt.x65 4 [] [0,0,0] 0):=mq λT B=>λhcd hr nd=>(aA (aF 1 aG (dW aG bH) nd) (aA (dQ 2 nd (cU rfl T.x79 (aB (fn:=cX) T.x46 (cW.2 T B) hr ra)) (aD (cL (dX 1 aG (aB (fn:=gA) T.x48 (f9.2 T B) hr (aJ rx (aJ aL (aJ (aB (fn:=cO) T.x47 (cN.2 T B) hr ra) bS)))))))) (cP 1 (aD (aO rx)))))
def u9:M Fl:=no_index CV
def vA:ZI->Res D:=aR 3 [] 0 u9
def tP:(Dq Txt.x66 1 [] [0,0,0] 1):=mq λT B=>λhcd hr nd=>(aA (aF 1 aG (dW aG bH) nd) (aA (dQ 2 nd (bQ rx) (aD (cL (D2 1 aG PySem.F.slot_list_extend PySem.F.type_list_extend EH qP (aI (bW aG (d8 "_law_box_here" (bQ rx) (λC fp s H=>bT) (λC fp s H=>rx))) bH))))) (aD (aO (sQ 1 aG)))))
def mJ:M Fl:=no_index tP
def tQ:ZI->Res D:=aR 3 [] 1 mJ
def OX:(Dq Txt.x67 8 [] [0,0,0,0,0,0,0,0] 0):=mq λT B=>λhcd hr nd=>(aA (aF 4 aG rx nd) (aA (aF 5 aG (aB (fn:=tQ) T.x66 (tP.2 T B) hr ra) nd) (aA (dQ 6 nd (bQ rx) (aA (b9 (UY 8 (λF H σ=>(bE aG uB LG rx rx (by with_unfolding_all rfl)))) (aD (aO fL)) bB) (aA (aF 7 aG (aB (fn:=oF) T.x64 (JJ.2 T B) hr ra) nd) (aA (b9 (bE aG (m6.or m5) vP rx fI (aZ _)) (aD (aO fL)) bB) (aA (aF 4 aG (aB (fn:=FP) T.x61 (FN.2 T B) hr ra) nd) (aD (cL (dX 5 aG rx)))))))) (aD (aO rx)))))
def FQ:M Fl:=no_index OX
def FR:ZI->Res D:=aR 8 [] 0 FQ
def X8:M Fl:=
  (bO (cE 1 (bP zR [.val (aK 0)]))
  (bO (cE 2 (bP cF [.val (aK 0),.val (dC (.int 19)),.val (dC (.int 4))]))
  (bO (cE 3 (bP pH [.val (aK 0),.val (aK 1),.val (aK 2)]))
  (bO (cE 4 (dY 1 (eB 0) (uG [(bP cF [.val (aK 0),.val (dC (.int 37)),.val (dC (.int 5))])]) dZ (bP pG [.val (aK 1),.val (fC G6 (aK 3) (aK 0))])))
  (bO (gF (BQ (dB (fC ě (BT 4) (dC (.int 0)))) (dB (fC G7 (bP cF [.val (aK 0),.val (dC (.int 38)),.val (dC (.int 6))]) (dC (.int 1)))))
   (bO (cE 5 (AX 4 VT []))
   (sE (AX 4 G5 [(K9 [(fC eK (bP pG [.val (aK 0),.val (dC (.int 0))]) (dC (.int 0))),(fC eK (aK 5) (dC (.int 1))),(fC eK (aK 5) (dC (.int 2))),(fC eK (aK 5) (dC (.int 3))),(fC eK (aK 5) (dC (.int 4)))])])))
   iX)
  (bO (cE 6 (bP vA [.val (aK 0)]))
  (bO (cE 7 (bP FR [.val (aK 1),.val (aK 3),.val (aK 4),.val (aK 6)]))
  (bO (cE 8 (dY 1 (eB 0) (iB (aK 3)) dZ (xJ jS [(aK 0)])))
  (bO (cE 9 (xJ jS [(aK 4)]))
  (bO (cE 10 (dC (.str "")))
  (bO (cE 11 (dC .none))
  (bO (QL
   (cE 11 (bP f7 [.val (aK 1),.val (aK 8),.val (aK 9),.val (xJ jS [(aK 6)])]))
   (λnm=>nI (NL [("NoName",true),("NoNumber",false),("NoStack",false),("NoWeight",false)] nm)
   (bO (cE 10 (dC (.str "name")))
    (LR 11))
   ((λnm=>nI (NL [("NoName",false),("NoNumber",false),("NoStack",true),("NoWeight",false)] nm)
   (bO (cE 10 (dC (.str "stack")))
    (LR 11))
   ((λ_=>ED) nm)) nm)))
  (bO (gF (AV (dB (fC AZ (aK 8) (aK 3))) (dB (fC AZ (aK 9) (aK 4))))
   (kC (dC (.bool false)))
   iX)
  (bO (gF (dB (rP (gJ .str) (aK 7)))
   (kC (fC G7 (aK 10) (aK 7)))
   iX)
  (bO (gF (HF (AV (dB (fC AZ (aK 10) (dC (.str "")))) (mU (dB (bP (nO 4) [.val (aK 11),.val (aK 7)])))))
   (kC (dC (.bool false)))
   iX)
  (bO (V0 11 12)
  (bO (nN 11)
  (kC (fC G7 (aK 8) (aK 3))))))))))))))))))))
def JK:ZI->Res D:=aR 13 [] 0 X8
def aIZ(T:Txt K mg)(B:sY K mg base):T.x68.Ok P w mg base 11 [] [0,0,0,0,0,0,0,0,0,0,0,0,0] 0 JK:=T.x68.okD fJ λhcd hr=>(aA (aF 1 aG (aB (fn:=zR) T.x52 (JE.2 T B) hr (aJ (aT 0) bS)) fJ.nd)
  (aA (aF 2 aG (aB (fn:=cF) T.x45 (c7.2 T B) hr (aJ (aT 0) (aJ aL (aJ aL bS)))) fJ.nd)
  (aA (aF 3 aG (aB (fn:=pH) T.x54 (CS.2 T B) hr (aJ (aT 0) (aJ (aT 1) (aJ (aT 2) bS)))) fJ.nd)
  (aA (fX 4 (xs:=["_law_n"]) aG aG rfl fJ.nd (cU rfl T.x79 (aB (fn:=cF) T.x45 (c7.2 T B) hr (aJ (aT 0) (aJ aL (aJ aL bS))))) (λC fp s H=>(c9 (i:=0) X5 rfl (Or.inl rfl))) (g8 aG ⋯ (dA rfl) ⋯ rfl) (λC fp s H=>bT) (λC fp s H=>(aB (fn:=pG) T.x53 (wQ.2 T B) hr (aJ (aT 1) (aJ (bM aG (aT 3) (aT 0)) bS)))))
  (aA (b9 (gT (K8 (bE aG vE vO (aA6 4 rfl T.x75) aL (aZ _)) (D7 (bE aG (j9 hr.units) p6 (aB (fn:=cF) T.x45 (c7.2 T B) hr (aJ (aT 0) (aJ aL (aJ aL bS)))) aL (aZ _)))))
   (aA (aF 5 aG (aCJ 4 aG PySem.F.slot_list_pop PySem.F.type_list_pop TR N7) fJ.nd)
   (aD (cL (dX 4 aG (cZ (aI (eI aG (aB (fn:=pG) T.x53 (wQ.2 T B) hr (aJ (aT 0) (aJ aL bS))) aL) (aI (eI aG (aT 5) aL) (aI (eI aG (aT 5) aL) (aI (eI aG (aT 5) aL) (aI (eI aG (aT 5) aL) bH))))))))))
   bB)
  (aA (aF 6 aG (aB (fn:=vA) T.x65 (CV.2 T B) hr (aJ (aT 0) bS)) fJ.nd)
  (cP 4 (aA (aF 7 aG (aB (fn:=FR) T.x67 (OX.2 T B) hr (aJ (aT 1) (aJ (aT 3) (aJ (aT 4) (aJ (aT 6) bS))))) fJ.nd)
  (aA (fX 8 (xs:=["_law_stack_here"]) aG aG rfl fJ.nd (bQ (aT 3)) (λC fp s H=>(c9 (i:=0) X6 rfl (Or.inl rfl))) (g8 aG ⋯ (dA rfl) ⋯ rfl) (λC fp s H=>bT) (λC fp s H=>(bW aG (iR aG fE oV rfl T.x76 gS (aI (aT 0) bH)))))
  (aA (aF 9 aG (bW aG (iR aG fE oV rfl T.x76 gS (aI (aT 4) bH))) fJ.nd)
  (aA (aF 10 aG fL fJ.nd)
  (aA (aF 11 aG fI fJ.nd)
  (cP 8 (aA (aHL [] rfl rfl (λK E1 pn g F H σ=>
   (aD (aF 11 aG (aB (fn:=f7) T.x43 (JB.2 T B) hr (aJ (aT 1) (aJ (aT 8) (aJ (aT 9) (aJ (bW aG (iR aG fE oV rfl T.x76 gS (aI (aT 6) bH))) bS))))) fJ.nd)))
   (NM rfl T.q_NoName (U1 (l:=[("NoName",true),("NoNumber",false),("NoStack",false),("NoWeight",false)]) (by intro p hp;simp![Ï,ä,or_false]at hp;rcases hp with rfl|rfl|rfl|rfl;exact⟨_,T.n_NoName,T.m_NoName_NoName⟩;exact⟨_,T.n_NoNumber,T.m_NoNumber_NoName⟩;exact⟨_,T.n_NoStack,T.m_NoStack_NoName⟩;exact⟨_,T.n_NoWeight,T.m_NoWeight_NoName⟩)) (λa=>
   (aA (aF 10 aG fL fJ.nd)
    (OV 11 2))) (NM rfl T.q_NoStack (U1 (l:=[("NoName",false),("NoNumber",false),("NoStack",true),("NoWeight",false)]) (by intro p hp;simp![Ï,ä,or_false]at hp;rcases hp with rfl|rfl|rfl|rfl;exact⟨_,T.n_NoName,T.m_NoName_NoStack⟩;exact⟨_,T.n_NoNumber,T.m_NoNumber_NoStack⟩;exact⟨_,T.n_NoStack,T.m_NoStack_NoStack⟩;exact⟨_,T.n_NoWeight,T.m_NoWeight_NoStack⟩)) (λa=>
   (aA (aF 10 aG fL fJ.nd)
    (OV 11 2))) aHK)) (aK7 rfl) (aHM rfl))
  (aA (b9 (gT (vL (bE aG (qK hr.units) xS (aT 8) (aT 3) (aZ _)) (qO (bE aG (qK hr.units) xS (aT 9) (aT 4) (aZ _)))))
   (aD (aO xI))
   bB)
  (aA (b9 (fU (lW .str rfl rfl T.x74 rfl T.x80 DQ (aT 7)))
   (aD (aO (kB aG (j9 hr.units) p6 (aT 10) (aT 7) (aZ _))))
   bB)
  (aA (b9 (UY 13 (λF H σ=>(gT (vL (bE aG (qK hr.units) xS (aT 10) fL (aZ _)) (qO (qL (fU (aB T.x55 (CT T B 4) hr (aJ (aT 11) (aJ (aT 7) bS))))))))))
   (aD (aO xI))
   bB)
  (aA (aIE 11 12 PassesOwn.leaving rfl fJ.nd)
  (aA (aCK 11)
  (aD (aO (kB aG (j9 hr.units) p6 (aT 8) (aT 3) (aZ _)))))))))))))))))))))))
end
end Toy
open L2 in
seal xJ fC rP aK dC bD cK bP K9 LA gF bO cE jR dY uG iB A6 xY AX UC UD BT dB mU AV BQ BU UF mV Ģ ŭ sE kC eS bK aW aR ģ kF
open PySem L2
local macro_rules| `(tactic|dsimp? [$as,*])=>`(tactic|simp![aP2,aOK,aOL,aOM,aLN,aOJ,aON,aOO,aOP,aLH,aLI,aOF,ϐ,aOG,aOH,aH6,aH7,aLL,aLM,aOI,aOE,aLA,aHU,k_set,k_fill,aHV,aHW,aLB,Ω,aHX,aHY,U8,aHZ,aH0,aH1,aH2,aH3,aH4,aH5,aBU,aBV,eG,aU,bY,fV,Nat.reduceAdd,Nat.reduceLT,Nat.reduceLeDiff,↓reduceIte,$as,*])
local macro_rules| `(tactic|ac_nf)=>`(tactic|first|exact aKT ∅ ∅|exact aKU ∅ ∅)
namespace Sx
abbrev j5:=Nat->Int
def sumN:Nat->(Nat->Int)->Int
 |0,_=>0
 |n+1,f=>sumN n f+f n
def bF:∀{n:Nat}{f g:Nat->Int},(∀i,i<n->f i=g i)->sumN n f=sumN n g
 |0,_,_,_=>rfl
 |n+1,f,g,h=>by
  rw[sumN,sumN,bF (n:=n) λi hi=>h i 'i',h n (by exact ê _)]
def jJ:∀{n:Nat}{f g:Nat->Int},sumN n (λi=>f i+g i)=sumN n f+sumN n g
 |0,_,_=>rfl
 |n+1,f,g=>by
  rw[sumN,sumN,sumN,jJ];lia
def eQ:∀{n:Nat}{a:Int}{f:Nat->Int},sumN n (λi=>a*f i)=a*sumN n f
 |0,a,_=>by simp[sumN]
 |n+1,a,f=>by
  rw[sumN,sumN,eQ,Int.mul_add]
def fS:∀{n:Nat}{f:Nat->Int},(∀i,i<n->f i=0)->sumN n f=0
 |0,_,_=>rfl
 |n+1,f,h=>by
  rw[sumN,fS (n:=n) λi hi=>h i 'i',h n (by exact ê _)];rfl
def c8 :∀{n:Nat}{f:Nat->Int},k<n->(∀i,i<n->i≠k->f i=0)->sumN n f=f k
 |0,_,hk,_=>by grind
 |n+1,f,hk,h=>by
  rw[sumN];by_cases e:k=n
  .subst e
   rw[fS λi hi=>h i 'i' (by exact Ì ‹_›)];lia
  .rw[c8 (n:=n) ∅ λi hi hne=>h i 'i' hne,h n (by exact ê _) (λz=>e z.symm)]
   lia
def z8(hkl:k≠l):∀{n:Nat}{f:Nat->Int},k<n->l<n->(∀i,i<n->i≠k->i≠l->f i=0)->sumN n f=f k+f l
 |0,_,hk,_,_=>by grind
 |n+1,f,hk,hl,h=>by
  rw[sumN];by_cases e:k=n
  .subst e
   rw[c8 (k:=l) ∅ λi hi hne=>h i 'i' (by exact Ì ‹_›) hne];lia
  .by_cases e2:l=n
   .subst e2
    rw[c8 (k:=k) ∅ λi hi hne=>h i 'i' hne (by exact Ì ‹_›)]
   .rw[z8 hkl (n:=n) ∅ ∅ λi hi h1 h2=>h i 'i' h1 h2,h n (by exact ê _) (λz=>e z.symm) (λz=>e2 z.symm)]
    lia
def CW:∀{n m:Nat}{f:Nat->Nat->Int},sumN n (λi=>sumN m (f i))=sumN m (λj=>sumN n (λi=>f i j))
 |0,m,f=>(fS λ_ _=>rfl).symm
 |n+1,m,f=>by
  rw[sumN,CW (n:=n),<- jJ];rfl
def ċ(i:Nat):Int:=if i % 2=0 then 1 else -1
def X9(i:Nat):ċ (i+1)=-ċ i:=by
 unfold ċ
 grind
def skip(i r:Nat):Nat:=if r<i then r else r+1
def fH(M:Nat->j5)(i:Nat):Nat->j5:=λr c=>M (skip i r) (c+1)
def dL:Nat->(Nat->j5)->Int
 |0,_=>1
 |n+1,M=>sumN (n+1) λi=>ċ i*M i 0*dL n (fH M i)
def lG:∀{n:Nat}{M M':Nat->j5},(∀r c,r<n->c<n->M r c=M' r c)->dL n M=dL n M'
 |0,_,_,_=>rfl
 |n+1,M,M',h=>by
  rw[dL,dL];refine bF λi hi=>?_;rw[h i 0 hi (by exact ù _),lG (n:=n) (M:=fH M i) (M':=fH M' i) λr c hr hc=>?_];unfold fH;refine h _ _ ?_ 'i';unfold skip;split<;>lia
def aY(M:Nat->j5)(k:Nat)(w:j5):Nat->j5:=λr=>if r=k then w else M r
def aP{M:Nat->j5}:aY M k w k=w:=Â rfl
def aH{M:Nat->j5}(h:r≠k):aY M k w r=M r:=Ä h
def C7{M:Nat->j5}:aY (aY M k u) k w=aY M k w:=by
 funext r;unfold aY;split<;>rfl
def eR{M:Nat->j5}(h:k≠l):aY (aY M k u) l w=aY (aY M l w) k u:=by
 funext r;unfold aY
 grind
def hJ{M:Nat->j5}:aY M k (M k)=M:=by
 funext r;unfold aY
 grind
def YA(i k:Nat):Nat:=if k<i then k else k-1
def mK{M:Nat->j5}(h:i≠k):fH (aY M k w) i=aY (fH M i) (YA i k) (λc=>w (c+1)):=by
 funext r c;unfold fH aY skip YA;by_cases h1:r<i
 .rw[Â h1]
  by_cases h2:k<i
  .rw[Â h2]
   by_cases h3:r=k
   all_goals simp_all
  .rw[Ä h2,Ä ∅,Ä ∅]
   simp![h1,if_true]
 .rw[Ä h1]
  by_cases h2:k<i
  .rw[Â h2,Ä ∅,Ä ∅]
   simp![h1,if_false]
  .rw[Ä h2]
   by_cases h3:r+1=k
   .rw[Â h3,Â ∅]
   .rw[Ä h3,Ä ∅]
    simp![h1,if_false]
def mL{M:Nat->j5}:fH (aY M k w) k=fH M k:=by
 funext r c;unfold fH aY skip
 grind
def tR:∀{n:Nat}{M:Nat->j5}{k:Nat}{u v:j5}{a b:Int},k<n->dL n (aY M k λc=>a*u c+b*v c)=a*dL n (aY M k u)+b*dL n (aY M k v)
 |0,_,_,_,_,_,_,h=>by grind
 |n+1,M,k,u,v,a,b,h=>by
  rw[dL,dL,dL,<- eQ,<- eQ,<- jJ];refine bF λi hi=>?_;by_cases e:i=k
  .subst e
   rw[aP,aP,aP,mL,mL,mL]
   grind
  .rw[aH e,aH e,aH e,mK e,mK e,mK e]
   have hd:YA i k<n:=by unfold YA;split<;>lia
   have:=tR (n:=n) (M:=fH M i) (k:=YA i k) (u:=λc=>u (c+1)) (v:=λc=>v (c+1)) (a:=a) (b:=b) hd;rw[this]
   grind
def wR:∀{n:Nat}{M:Nat->j5}{k:Nat},k+1<n->(∀c,M k c=M (k+1) c)->dL n M=0
 |0,_,_,h,_=>by grind
 |n+1,M,k,h,he=>by
  rw[dL,z8 (k:=k) (l:=k+1) ∅ 'a' 't' λi hi h1 h2=>?_]
  .have em:fH M k=fH M (k+1):=by
    funext r c;unfold fH skip;by_cases h1:r<k
    .grind
    .grind
   rw[em,he 0,X9]
   grind
  .have hz:dL n (fH M i)=0:=by
    by_cases hk:k+1<i
    .refine wR (n:=n) (k:=k) ∅ λc=>?_
     unfold fH skip
     grind
    .refine wR (n:=n) (k:=k-1) ∅ λc=>?_
     unfold fH skip
     grind
   rw[hz];lia
def pJ{M:Nat->j5}(h:k<n):dL n (aY M k λc=>u c+v c)=dL n (aY M k u)+dL n (aY M k v):=by
 have:=tR (M:=M) (u:=u) (v:=v) (a:=1) (b:=1) h
 grind
def RV{M:Nat->j5}(h:k+1<n)(u v:j5):dL n (aY (aY M k u) (k+1) v)=-dL n (aY (aY M k v) (k+1) u):=by
 have z:∀w,dL n (aY (aY M k w) (k+1) w)=0:=λw=>wR h λc=>by rw[aH ∅,aP,aP]
 have h1:=z λc=>u c+v c;rw[pJ h,eR ∅,pJ 'a',eR (u:=λc=>u c+v c) ∅,pJ 'a']at h1;have zu:=z u;have zv:=z v;rw[eR ∅]at zu zv;have e1:dL n (aY (aY M k u) (k+1) v)=dL n (aY (aY M (k+1) v) k u):=by rw[eR ∅]
 have e2:dL n (aY (aY M k v) (k+1) u)=dL n (aY (aY M (k+1) u) k v):=by rw[eR ∅]
 rw[e1,e2];lia
def MF:∀(d:Nat){n:Nat}{M:Nat->j5}{i j:Nat},j=i+d+1->j<n->(∀c,M i c=M j c)->dL n M=0
 |0,n,M,i,j,e,h,he=>by
  subst e;exact wR (k:=i) 't' he
 |d+1,n,M,i,j,e,h,he=>by
  -- Ç j-1 and j change places
  have hj:j-1+1=j:=by lia
  have e1:M=aY (aY M (j-1) (M (j-1))) (j-1+1) (M j):=by
   rw[hJ,hj,hJ]
  rw[e1,RV ∅];have:=MF d (n:=n) (M:=aY (aY M (j-1) (M j)) (j-1+1) (M (j-1))) (i:=i) (j:=j-1) ∅ ∅ λc=>by
   rw[aH ∅,aH ∅,aH ∅,aP];exact he c
  rw[this];rfl
def wS{n:Nat}{M:Nat->j5}{i j:Nat}(hi:i<n)(hj:j<n)(hne:i≠j)(he:∀c,M i c=M j c):dL n M=0:=by
 by_cases h:i<j
 .exact MF (j-i-1) ∅ hj he
 .exact MF (i-j-1) (i:=j) (j:=i) ∅ hi λc=>(he c).symm
def JL{M:Nat->j5}(hi:i<n)(hj:j<n)(hne:i≠j)(u v:j5):dL n (aY (aY M i u) j v)=-dL n (aY (aY M i v) j u):=by
 have z:∀w,dL n (aY (aY M i w) j w)=0:=λw=>wS hi hj hne λc=>by rw[aH hne,aP,aP]
 have h1:=z λc=>u c+v c;rw[pJ hj,eR hne,pJ hi,eR (u:=λc=>u c+v c) hne,pJ hi]at h1;have zu:=z u;have zv:=z v;rw[eR hne]at zu zv;have e1:dL n (aY (aY M i u) j v)=dL n (aY (aY M j v) i u):=by rw[eR hne]
 have e2:dL n (aY (aY M i v) j u)=dL n (aY (aY M j u) i v):=by rw[eR hne]
 rw[e1,e2];lia
def JM{M:Nat->j5}(h:k<n):dL n (aY M k λ_=>0)=0:=by
 have:=tR (M:=M) (k:=k) (u:=λ_=>0) (v:=λ_=>0) (a:=0) (b:=0) h;simpa using this
def aCY{M:Nat->j5}(h:k<n):dL n (aY M k λc=>a*u c)=a*dL n (aY M k u):=by
 have:=tR (M:=M) (k:=k) (u:=u) (v:=λ_=>0) (a:=a) (b:=0) h
 grind
def wT{M:Nat->j5}(h:k<n):∀{m:Nat}{w:Nat->Int}{f:Nat->j5},dL n (aY M k λc=>sumN m λl=>w l*f l c)=sumN m λl=>w l*dL n (aY M k (f l))
 |0,w,f=>JM h
 |m+1,w,f=>by
  have:=tR (M:=M) (k:=k) (u:=λc=>sumN m λl=>w l*f l c) (v:=f m) (a:=1) (b:=w m) h;simp![Int.one_mul]at this;rw[sumN,<- wT h];exact this
def aL6(hc:c<n)(hj:j<n)(hne:c≠j)(cr:∀x,x<n->dL n f*h x=sumN n λl=>dL n (aY f l h)*f l x):
  dL n f*dL n (aY (aY f c h) j u)=dL n (aY f c h)*dL n (aY f j u)-dL n (aY f j h)*dL n (aY f c u):=by
 have e1:dL n f*dL n (aY (aY f c h) j u)=dL n (aY (aY f j u) c λx=>dL n f*h x):=by
  rw[aCY hc,eR hne]
 have e2:dL n (aY (aY f j u) c λx=>dL n f*h x)=dL n (aY (aY f j u) c λx=>sumN n λl=>dL n (aY f l h)*f l x):=by
  refine lG λr x hr hx=>?_;by_cases hrc:r=c
  .subst hrc
   rw[aP,aP];exact cr x hx
  .rw[aH hrc,aH hrc]
 rw[e1,e2,wT hc,z8 hne hc hj λl hl h1 h2=>?_]
 .have a1:aY (aY f j u) c (f c)=aY f j u:=by
   rw[eR (Í hne),hJ]
  have a2:dL n (aY (aY f j u) c (f j))=-dL n (aY f c u):=by
   rw[JL hj hc (Í hne),hJ]
  rw[a1,a2]
  grind
 .have:dL n (aY (aY f j u) c (f l))=0:=wS hc hl (λz=>h1 z.symm) λx=>by rw[aP,aH h1,aH h2]
  rw[this];lia
end Sx
namespace Sx
structure Tab where
 s:Int
 f:Nat->Nat
 h:Nat->Nat
 L:Nat->Nat->Int
structure Pr where
 n:Nat
 k:Nat
 N:Nat
 a:Nat->j5
 c:Nat->Int
def Tab.F(P:Pr)(T:Tab):Nat->j5:=λj=>P.a (T.f j)
structure Inv(P:Pr)(σ:Int)(T:Tab):Prop where
 sg:σ*σ=1
 pos:0<T.s
 sd:T.s=σ*dL P.n (T.F P)
 ld:∀r,r<=P.k->∀j,j<P.n->T.L r j=-σ*dL P.n (aY (T.F P) j (P.a (T.h r)))
 lc:∀r,r<=P.k->T.L r P.n=T.s*P.c (T.h r)+sumN P.n λj=>T.L r j*P.c (T.f j)
 cr:∀r,r<=P.k->∀x,x<P.n->T.s*P.a (T.h r) x+(sumN P.n λj=>T.L r j*P.a (T.f j) x)=0
 fi:∀i j,i<P.n->j<P.n->T.f i=T.f j->i=j
 hi:∀r q,r<=P.k->q<=P.k->T.h r=T.h q->r=q
 fh:∀j r,j<P.n->r<=P.k->T.f j≠T.h r
 hk:T.h P.k=P.N
 all:∀u,u<P.N->(∃j,j<P.n/\T.f j=u)\/∃r,r<P.k/\T.h r=u
 fN:∀j,j<P.n->T.f j<P.N
 hN:∀r,r<P.k->T.h r<P.N
 dual:∀j,j<P.n->0<=T.L P.k j
def swap(T:Tab)(p d:Nat):Tab where
 s:=-T.L p d
 f:=λj=>if j=d then T.h p else T.f j
 h:=λr=>if r=p then T.f d else T.h r
 L:=λr j=>if r=p then (if j=d then -T.s else -T.L p j)else (if j=d then T.L r d else (-T.L p d*T.L r j+T.L r d*T.L p j)/T.s)
section
def YB:(swap T p d).F P=aY (T.F P) d (P.a (T.h p)):=by
 funext j;unfold Tab.F swap aY;dsimp only;split<;>rfl
def OY{n:Nat}{w:Nat->Int}{wu wh s:Int}{wf l p l':Nat->Int}{d:Nat}(hd:d<n)(hs:∀j,j<n->j≠d->s*l' j=-p d*l j+l d*p j)(hl:l' d=l d):
  s*(-p d*wu+sumN n λj=>l' j*(if j=d then wh else wf j))=-p d*(s*wu+sumN n λj=>l j*wf j)+l d*(s*wh+sumN n λj=>p j*wf j):=by
 have e1:s*(sumN n λj=>l' j*(if j=d then wh else wf j))=sumN n λj=>(-p d*(l j*wf j)+l d*(p j*wf j))+(if j=d then s*l d*wh else 0):=by
  rw[<- eQ];refine bF λj hj=>?_;by_cases e:j=d
  .grind
  .grind
 have e2:(sumN n λj=>if j=d then s*l d*wh else 0)=s*l d*wh:=by
  rw[c8 (k:=d) hd λi _ hne=>Ä hne,Â rfl]
 rw[jJ,jJ,eQ,eQ,e2]at e1
 grind
def JN{n:Nat}{wh s:Int}{wf p:Nat->Int}{d:Nat}(hd:d<n):
  -p d*wf d+(sumN n λj=>(if j=d then -s else -p j)*(if j=d then wh else wf j))=-(s*wh+sumN n λj=>p j*wf j):=by
 have e1:(sumN n λj=>(if j=d then -s else -p j)*(if j=d then wh else wf j))=sumN n λj=>(-1)*(p j*wf j)+(if j=d then p d*wf d-s*wh else 0):=by
  refine bF λj hj=>?_;by_cases e:j=d
  .grind
  .grind
 have e2:(sumN n λj=>if j=d then p d*wf d-s*wh else 0)=p d*wf d-s*wh:=by
  rw[c8 (k:=d) hd λi _ hne=>Ä hne,Â rfl]
 rw[e1,jJ,eQ,e2]
 grind
def Inv.det_s(I:Inv P σ T):dL P.n (T.F P)=σ*T.s:=by
 rw[I.sd,<- Int.mul_assoc,I.sg,Int.one_mul]
def Inv.det_l(I:Inv P σ T)(hr:r<=P.k)(hj:j<P.n):dL P.n (aY (T.F P) j (P.a (T.h r)))=-σ*T.L r j:=by
 rw[I.ld r hr j hj,<- Int.mul_assoc];have:-σ*-σ=1:=by have:=I.sg;grind
 rw[this,Int.one_mul]
def Inv.cramer(I:Inv P σ T)(hr:r<=P.k)(x:Nat)(hx:x<P.n):dL P.n (T.F P)*P.a (T.h r) x=sumN P.n λl=>dL P.n (aY (T.F P) l (P.a (T.h r)))*T.F P l x:=by
 have e:(sumN P.n λl=>dL P.n (aY (T.F P) l (P.a (T.h r)))*T.F P l x)=sumN P.n λl=>-σ*(T.L r l*P.a (T.f l) x):=bF λl hl=>by
  rw[I.det_l hr hl,Int.mul_assoc];rfl
 rw[e,eQ,I.det_s];have:=I.cr r hr x hx
 grind
def Inv.exact(I:Inv P σ T) (hp:p<P.k) (hd:d<P.n) (hr:r<=P.k) (hj:j<P.n) (hne:j≠d):
  T.s*(-σ*dL P.n (aY (aY (T.F P) d (P.a (T.h p))) j (P.a (T.h r))))=-T.L p d*T.L r j+T.L r d*T.L p j:=by
 have pl:=aL6 (u:=P.a (T.h r)) hd hj (Í hne) (I.cramer (r:=p) 'a');rw[I.det_s,I.det_l 'a' hd,I.det_l hr hj,I.det_l 'a' hj,I.det_l hr hd]at pl;have sg:=I.sg
 grind
def Inv.quot(I:Inv P σ T)(hp:p<P.k)(hd:d<P.n)(hr:r<=P.k)(hrp:r≠p)(hj:j<P.n)(hne:j≠d):
  T.s*(swap T p d).L r j=-T.L p d*T.L r j+T.L r d*T.L p j/\(swap T p d).L r j=-σ*dL P.n (aY (aY (T.F P) d (P.a (T.h p))) j (P.a (T.h r))):=by
 have e:=I.exact hp hd hr hj hne;have q:(swap T p d).L r j=-σ*dL P.n (aY (aY (T.F P) d (P.a (T.h p))) j (P.a (T.h r))):=by
  show (if r=p then (if j=d then -T.s else -T.L p j)else (if j=d then T.L r d else (-T.L p d*T.L r j+T.L r d*T.L p j)/T.s))=_;rw[Ä hrp,Ä hne,<- e,Int.mul_ediv_cancel_left _ (by have:=I.pos;exact Int.ne_of_gt ‹_›)]
 exact⟨by rw[q,e],q⟩
def tU(hrp:r≠p):(swap T p d).L r d=T.L r d:=by
 show (if r=p then (if d=d then -T.s else -T.L p d)else (if d=d then T.L r d else (-T.L p d*T.L r d+T.L r d*T.L p d)/T.s))=_;rw[Ä hrp,Â rfl]
def FS:(swap T p d).L p j=if j=d then -T.s else -T.L p j:=by
 show (if p=p then (if j=d then -T.s else -T.L p j)else _)=_;rw[Â rfl]
def fP:(swap T p d).f j=if j=d then T.h p else T.f j:=rfl
def gR:(swap T p d).h r=if r=p then T.f d else T.h r:=rfl
def Inv.quotN(I:Inv P σ T)(hp:p<P.k)(hd:d<P.n)(hr:r<=P.k)(hrp:r≠p):
  T.s*(swap T p d).L r P.n=-T.L p d*T.L r P.n+T.L r d*T.L p P.n/\(swap T p d).L r P.n=-T.L p d*P.c (T.h r)+sumN P.n λj=>(swap T p d).L r j*P.c ((swap T p d).f j):=by
 have e:=OY (w:=λ_=>0) (wu:=P.c (T.h r)) (wh:=P.c (T.h p)) (s:=T.s) (wf:=λj=>P.c (T.f j)) (l:=T.L r) (p:=T.L p) (l':=(swap T p d).L r) hd (λj hj hne=>(I.quot hp hd hr hrp hj hne).1) (tU hrp);rw[<- I.lc r hr,<- I.lc p 'a']at e;have ew:(sumN P.n λj=>(swap T p d).L r j*(if j=d then P.c (T.h p)else P.c (T.f j)))=sumN P.n λj=>(swap T p d).L r j*P.c ((swap T p d).f j):=bF λj _=>by
  rw[fP];split<;>rfl
 rw[ew]at e;have q:(swap T p d).L r P.n=-T.L p d*P.c (T.h r)+sumN P.n λj=>(swap T p d).L r j*P.c ((swap T p d).f j):=by
  show (if r=p then (if P.n=d then -T.s else -T.L p P.n)else (if P.n=d then T.L r d else (-T.L p d*T.L r P.n+T.L r d*T.L p P.n)/T.s))=_;rw[Ä hrp,Ä (by exact Ü ‹_›),<- e,Int.mul_ediv_cancel_left _ (by have:=I.pos;exact Int.ne_of_gt ‹_›)]
 exact⟨by rw[q,e],q⟩
def Inv.swap(I:Inv P σ T)(hp:p<P.k)(hd:d<P.n)(hneg:T.L p d<0)(hmin:∀j,j<P.n->T.L p j<0->T.L P.k d*-T.L p j<=T.L P.k j*-T.L p d):Inv P σ (swap T p d):=by
 have sg:=I.sg;have pos:=I.pos;have hdh:∀r,r<=P.k->T.f d≠T.h r:=λr hr=>I.fh d r hd hr;refine⟨sg,?_,?_,?_,?_,?_,?_,?_,?_,?_,?_,?_,?_,?_⟩
 .show 0 < -T.L p d
  lia
 .show -T.L p d=_
  rw[YB,I.det_l 'a' hd]
  grind
 .intro r hr j hj
  rw[YB];by_cases hrp:r=p
  .subst hrp
   rw[FS,gR,Â rfl];by_cases hjd:j=d
   .subst hjd
    rw[Â rfl,C7];have:aY (T.F P) j (P.a (T.f j))=T.F P:=hJ;rw[this,I.det_s,<- Int.mul_assoc]
    grind
   .rw[Ä hjd,JL hd hj (Í hjd)]
    have:aY (T.F P) d (P.a (T.f d))=T.F P:=hJ;rw[this,I.det_l 't' hj]
    grind
  .rw[gR,Ä hrp]
   by_cases hjd:j=d
   .subst hjd
    rw[tU hrp,C7];exact I.ld r hr j hj
   .exact(I.quot hp hd hr hrp hj hjd).2
 .intro r hr
  by_cases hrp:r=p
  .subst hrp
   have e:=JN (wh:=P.c (T.h r)) (s:=T.s) (wf:=λj=>P.c (T.f j)) (p:=T.L r) hd;rw[<- I.lc r hr]at e;show (if r=r then (if P.n=d then -T.s else -T.L r P.n)else _)=_;rw[Â rfl,Ä (by exact Ü ‹_›),gR,Â rfl,<- e];show _=-T.L r d*_+_;congr 1;refine bF λj hj=>?_;rw[FS,fP];split<;>rfl
  .rw[gR,Ä hrp]
   exact(I.quotN hp hd hr hrp).2
 .intro r hr x hx
  by_cases hrp:r=p
  .subst hrp
   have e:=JN (wh:=P.a (T.h r) x) (s:=T.s) (wf:=λj=>P.a (T.f j) x) (p:=T.L r) hd;rw[I.cr r hr x hx]at e;rw[gR,Â rfl];show -T.L r d*_+_=_;have ew:(sumN P.n λj=>(Sx.swap T r d).L r j*P.a ((Sx.swap T r d).f j) x)=sumN P.n λj=>(if j=d then -T.s else -T.L r j)*(if j=d then P.a (T.h r) x else P.a (T.f j) x):=bF λj _=>by
    rw[FS,fP];split<;>rfl
   rw[ew,e];rfl
  .have e:=OY (w:=λ_=>0) (wu:=P.a (T.h r) x) (wh:=P.a (T.h p) x) (s:=T.s) (wf:=λj=>P.a (T.f j) x) (l:=T.L r) (p:=T.L p) (l':=(Sx.swap T p d).L r) hd (λj hj hne=>(I.quot hp hd hr hrp hj hne).1) (tU hrp)
   rw[I.cr r hr x hx,I.cr p 'a' x hx]at e;rw[gR,Ä hrp];have ew:(sumN P.n λj=>(Sx.swap T p d).L r j*P.a ((Sx.swap T p d).f j) x)=sumN P.n λj=>(Sx.swap T p d).L r j*(if j=d then P.a (T.h p) x else P.a (T.f j) x):=bF λj _=>by
    rw[fP];split<;>rfl
   show -T.L p d*_+_=_;rw[ew];have e:T.s*(-T.L p d*P.a (T.h r) x+sumN P.n λj=>(Sx.swap T p d).L r j*(if j=d then P.a (T.h p) x else P.a (T.f j) x))=0:=by rw[e];lia
   rcases Int.mul_eq_zero.mp e with z|z
   .lia
   .exact z
 .intro i j hi hj e
  rw[fP,fP]at e;split at e
  .split at e
   .lia
   .exact absurd e.symm (I.fh j p hj 'a')
  .split at e
   .exact absurd e (I.fh i p hi 'a')
   .exact I.fi i j hi hj e
 .intro r q hr hq e
  rw[gR,gR]at e;split at e
  .grind
  .split at e
   .grind
   .exact I.hi r q hr hq e
 .intro j r hj hr e
  rw[fP,gR]at e;split at e
  .split at e
   .grind
   .rename_i hrp
    exact hrp (I.hi p r 'a' hr e).symm
  .split at e
   .rename_i hjd _
    exact hjd (I.fi j d hj hd e)
   .exact I.fh j r hj hr e
 .rw[gR,Ä (by exact Ü ‹_›)]
  exact I.hk
 .intro u hu
  rcases I.all u hu with ⟨j,hj,e⟩|⟨r,hr,e⟩
  .by_cases hjd:j=d
   .subst hjd
    exact .inr ⟨p,hp,by rw[gR,Â rfl];exact e⟩
   .exact .inl ⟨j,hj,by rw[fP,Ä hjd];exact e⟩
  .by_cases hrp:r=p
   .subst hrp
    exact .inl ⟨d,hd,by rw[fP,Â rfl];exact e⟩
   .exact .inr ⟨r,hr,by rw[gR,Ä hrp];exact e⟩
 .intro j hj
  rw[fP];split
  .exact I.hN p hp
  .exact I.fN j hj
 .intro r hr
  rw[gR];split
  .exact I.fN d hd
  .exact I.hN r hr
 .intro j hj
  by_cases hjd:j=d
  .subst hjd
   rw[tU (by exact Ü ‹_›)];exact I.dual j hj
  .have e:=(I.quot hp hd (r:=P.k) (È _) (by exact Ü ‹_›) hj hjd).1
   have g1:=I.dual j hj;have g2:=I.dual d hd;have hge:0<=-T.L p d*T.L P.k j+T.L P.k d*T.L p j:=by
    by_cases hn:T.L p j<0
    .grind
    .have a1:0<=-T.L p d*T.L P.k j:=Int.mul_nonneg ∅ g1
     have a2:0<=T.L P.k d*T.L p j:=Int.mul_nonneg g2 (by exact Int.not_lt.mp ‹_›);lia
   rw[<- e]at hge;exact Int.nonneg_of_mul_nonneg_right hge pos |> λz=>by first|exact z|lia
end
end Sx
namespace Sx
section
def Inv.indep(I:Inv P σ T){w:Nat->Int}(h:∀x,x<P.n->(sumN P.n λi=>w i*P.a (T.f i) x)=0)(i:Nat)(hi:i<P.n):w i=0:=by
 have e1:dL P.n (aY (T.F P) i λx=>sumN P.n λl=>w l*T.F P l x)=0:=by
  rw[<- JM (M:=T.F P) hi];refine lG λr x hr hx=>?_;by_cases e:r=i
  .subst e
   rw[aP,aP];exact h x hx
  .rw[aH e,aH e]
 rw[wT hi,c8 (k:=i) hi λl hl hne=>?_]at e1
 .rw[hJ,I.det_s]at e1
  rcases Int.mul_eq_zero.mp e1 with z|z
  .exact z
  .rcases Int.mul_eq_zero.mp z with z|z
   .have:=I.sg
    grind
   .have:=I.pos
    lia
 .have:dL P.n (aY (T.F P) i (T.F P l))=0:=wS hi hl (λz=>hne z.symm) λx=>by rw[aP,aH hne]
  rw[this];lia
structure At(P:Pr)(T:Tab)(u:Nat)(E:Nat->Int)(V:Int):Prop where
 a:∀x,x<P.n->T.s*P.a u x+(sumN P.n λi=>E i*P.a (T.f i) x)=0
 c:T.s*P.c u+(sumN P.n λi=>E i*P.c (T.f i))=V
def Inv.at_held(I:Inv P σ T)(hr:r<=P.k):At P T (T.h r) (T.L r) (T.L r P.n):=⟨I.cr r hr,(I.lc r hr).symm⟩
def FT(hj:j<P.n):At P T (T.f j) (λi=>if i=j then -T.s else 0) 0:=by
 refine⟨λx _=>?_,?_⟩
 .rw[c8 (k:=j) hj λi _ hne=>by rw[Ä hne];lia,Â rfl]
  grind
 .rw[c8 (k:=j) hj λi _ hne=>by rw[Ä hne];lia,Â rfl]
  grind
def Inv.eval(I:Inv P σ T){ρ:Nat->Int}{u:Nat->Nat}{E:Nat->Nat->Int}{V:Nat->Int}(hat:∀t,t<q->At P T (u t) (E t) (V t))(ha:∀x,x<P.n->(sumN q λt=>ρ t*P.a (u t) x)=0)(hc:(sumN q λt=>ρ t*P.c (u t))=ρ0):
  (sumN q λt=>ρ t*V t)=T.s*ρ0:=by
 have lin:∀b:Nat->Int,(sumN P.n λi=>(sumN q λt=>ρ t*E t i)*b i)=sumN q λt=>ρ t*sumN P.n λi=>E t i*b i:=λb=>by
  have e1:(sumN P.n λi=>(sumN q λt=>ρ t*E t i)*b i)=sumN P.n λi=>sumN q λt=>ρ t*(E t i*b i):=bF λi _=>by
   rw[Int.mul_comm,<- eQ]
   grind
  rw[e1,CW];exact bF λt _=>eQ
 have w0:∀i,i<P.n->(sumN q λt=>ρ t*E t i)=0:=λi hi=>I.indep (w:=λi=>sumN q λt=>ρ t*E t i) (λx hx=>by
  rw[lin λi=>P.a (T.f i) x];have e2:(sumN q λt=>ρ t*sumN P.n λi=>E t i*P.a (T.f i) x)=sumN q λt=>-T.s*(ρ t*P.a (u t) x):=bF λt ht=>by
   have:=(hat t ht).a x hx
   grind
  rw[e2,eQ,ha x hx];lia) i hi
 have e4:(sumN q λt=>ρ t*V t)=sumN q λt=>T.s*(ρ t*P.c (u t))+ρ t*sumN P.n λi=>E t i*P.c (T.f i):=bF λt ht=>by
  rw[<- (hat t ht).c]
  grind
 rw[e4,jJ,eQ,hc,<- lin λi=>P.c (T.f i),fS λi hi=>by rw[w0 i hi];lia];lia
def OZ:∀{n:Nat}{g:Nat->Int},sumN n g<0->∃m,m<n/\g m<0
 |0,_,h=>by simp[sumN]at h
 |n+1,g,h=>by
  rw[sumN]at h;by_cases c:g n<0
  .grind
  .obtain⟨m,hm,e⟩:=OZ (n:=n) (g:=g) ∅
   grind
structure Ch(P:Pr)(T:Tab)(p d:Nat):Prop where
 hp:p<P.k
 neg:T.L p P.n<0
 first:∀r,r<P.k->T.L r P.n<0->T.h p<=T.h r
 hd:d<P.n
 dneg:T.L p d<0
 best:∀j,j<P.n->T.L p j<0->T.L P.k d*-T.L p j<T.L P.k j*-T.L p d\/(T.L P.k d*-T.L p j=T.L P.k j*-T.L p d/\T.f d<=T.f j)
def Ch.inv(C:Ch P T p d)(I:Inv P σ T):Inv P σ (swap T p d):=I.swap C.hp C.hd C.dneg λj hj hn=>by
 rcases C.best j hj hn with h|h<;>lia
def Fr(P:Pr)(T:Tab)(u:Nat):Prop:=∃j,j<P.n/\T.f j=u
def NZ(P:Pr)(T:Tab)(u:Nat):Prop:=∃j,j<P.n/\T.f j=u/\T.L P.k j≠0
def tW(C:Ch P T p d)(I:Inv P σ T)(u:Nat):Fr P (swap T p d) u↔u=T.h p\/(Fr P T u/\u≠T.f d):=by
 constructor
 .rintro⟨j,hj,e⟩
  rw[fP]at e;split at e
  .exact .inl e.symm
  .rename_i hjd
   refine .inr ⟨⟨j,hj,e⟩,λz=>hjd (I.fi j d hj C.hd ?_)⟩;rw[e,z]
 .rintro(rfl|⟨⟨j,hj,rfl⟩,hne⟩)
  .exact⟨d,C.hd,by rw[fP,Â rfl]⟩
  .exact⟨j,hj,by rw[fP,Ä λz=>hne (by rw[z])]⟩
def aCZ(C:Ch P T p d)(I:Inv P σ T)(hz:T.L P.k d=0)(u:Nat):NZ P (swap T p d) u↔NZ P T u:=by
 have pos:=I.pos;have step:∀j,j<P.n->j≠d->((swap T p d).L P.k j≠0↔T.L P.k j≠0):=λj hj hjd=>by
  have e:=(I.quot C.hp C.hd (r:=P.k) (È _) (by have:=C.hp;exact Ü ‹_›) hj hjd).1;rw[hz,Int.zero_mul,Int.add_zero]at e;have dn:=C.dneg;constructor
  .intro h z
   rw[z,Int.mul_zero]at e;rcases Int.mul_eq_zero.mp e with z|z
   .lia
   .exact h z
  .intro h z
   rw[z,Int.mul_zero]at e;rcases Int.mul_eq_zero.mp e.symm with z|z
   .lia
   .exact h z
 have ed:(swap T p d).L P.k d=0:=by rw[tU (by have:=C.hp;exact Ü ‹_›)];exact hz
 constructor
 .rintro⟨j,hj,e,hnz⟩
  rw[fP]at e;by_cases hjd:j=d
  .grind
  .rw[Ä hjd]at e
   exact⟨j,hj,e,(step j hj hjd).mp hnz⟩
 .rintro⟨j,hj,e,hnz⟩
  by_cases hjd:j=d
  .grind
  .exact⟨j,hj,by rw[fP,Ä hjd];exact e,(step j hj hjd).mpr hnz⟩
def Inv.held_nz(I:Inv P σ T)(hr:r<=P.k):¬NZ P T (T.h r):=λzQ=>by let⟨j,hj,e,_⟩:=zQ;exact I.fh j r hj hr e
def Inv.not_fr(I:Inv P σ T)(hr:r<=P.k):¬Fr P T (T.h r):=λzQ=>by let⟨j,hj,e⟩:=zQ;exact I.fh j r hj hr e
end
structure wG(P:Pr)(σ:Int)(T:Nat->Tab)(p d:Nat->Nat)(l:Nat):Prop where
 inv:Inv P σ (T 0)
 ch:∀i,i<l->Ch P (T i) (p i) (d i)
 next:∀i,i<l->T (i+1)=swap (T i) (p i) (d i)
section
def wG.inv_at(R:wG P σ T p d l):∀i,i<=l->Inv P σ (T i)
 |0,_=>R.inv
 |i+1,h=>by
  rw[R.next i 't'];exact(R.ch i 't').inv (R.inv_at i 'a')
structure ĥ(P:Pr)(T:Nat->Tab)(p d:Nat->Nat)(x y t:Nat):Prop where
 e:∀m,x<=m->m<y->(T m).h (p m)<t
 g:∀m,x<=m->m<y->(T m).f (d m)<t
 z:∀m,x<=m->m<y->(T m).L P.k (d m)=0
def ĥ.fr(R:wG P σ T p d l)(S:ĥ P T p d x y t)(hy:y<=l)(hu:t<=u):∀m,x<=m->m<=y->(Fr P (T m) u↔Fr P (T x) u):=by
 intro m hx
 induction m with
 |zero=>grind
 |succ m ih=>
  intro hm;by_cases e:x=m+1
  .rw[e]
  .have h1:=S.e m ∅ 't'
   have h2:=S.g m ∅ 't';rw[<- ih ∅ 'a',R.next m 'i',tW (R.ch m 'i') (R.inv_at m 'i')]
   grind
def ĥ.nz(R:wG P σ T p d l)(S:ĥ P T p d x y t)(hy:y<=l):∀m,x<=m->m<=y->(NZ P (T m) u↔NZ P (T x) u):=by
 intro m hx
 induction m with
 |zero=>grind
 |succ m ih=>
  intro hm;by_cases e:x=m+1
  .rw[e]
  .rw[<- ih ∅ 'a',R.next m 'i']
   exact aCZ (R.ch m 'i') (R.inv_at m 'i') (S.z m ∅ 't') u
theorem O0(R:wG P σ T p d l)(S:ĥ P T p d x y (t+1))(hy:y<=l)(hi:x<=i)(hi2:i<y)(hj:x<=j)(hj2:j<y)(hA:(T i).h (p i)=t)(hB:(T j).f (d j)=t):False:=by
 have IA:=R.inv_at i 'i';have IB:=R.inv_at j 'i';have CA:=R.ch i 'i';have CB:=R.ch j 'i';have pB:=CB.hp
 -- where an unknown stands at A
 have stand:∀u,u<P.N->∃E V,At P (T i) u E V/\((Fr P (T i) u/\V=0)\/∃r,r<P.k/\(T i).h r=u/\V=(T i).L r P.n):=λu hu=>by
  rcases IA.all u hu with ⟨m,hm,e⟩|⟨r,hr,e⟩
  .exact⟨_,0,by rw[<- e];exact FT hm,.inl ⟨⟨m,hm,e⟩,rfl⟩⟩
  .exact⟨_,_,by rw[<- e];exact IA.at_held 'a',.inr ⟨r,hr,e,rfl⟩⟩
 -- the unknowns of B's line
 let u:Nat->Nat:=λm=>if m<P.n then (T j).f m else (T j).h (p j);let ρ:Nat->Int:=λm=>if m<P.n then (T j).L (p j) m else (T j).s;have uN:∀m,u m<P.N:=λm=>by
  show (if m<P.n then (T j).f m else (T j).h (p j))<P.N;split
  .rename_i h;exact IB.fN m h
  .exact IB.hN _ pB
 have ev:=IA.eval (q:=P.n+1) (ρ:=ρ) (u:=u) (E:=λm=>(stand (u m) (uN m)).choose) (V:=λm=>(stand (u m) (uN m)).choose_spec.choose) (ρ0:=(T j).L (p j) P.n) (λm _=>(stand (u m) (uN m)).choose_spec.choose_spec.1) (λx hx=>by
  have e:=IB.cr (p j) 'a' x hx;rw[sumN];have e1:(sumN P.n λm=>ρ m*P.a (u m) x)=sumN P.n λm=>(T j).L (p j) m*P.a ((T j).f m) x:=bF λm hm=>by
   grind
  grind) (by
  have e:=IB.lc (p j) 'a';rw[sumN];have e1:(sumN P.n λm=>ρ m*P.c (u m))=sumN P.n λm=>(T j).L (p j) m*P.c ((T j).f m):=bF λm hm=>by
   grind
  grind)
 have neg:(T i).s*(T j).L (p j) P.n<0:=Int.mul_neg_of_pos_of_neg IA.pos CB.neg;rw[<- ev]at neg;let⟨m,hm,hneg⟩:=OZ neg;have st:=(stand (u m) (uN m)).choose_spec.choose_spec.2;generalize (stand (u m) (uN m)).choose_spec.choose=V at st hneg
 -- it is held at A
 rcases st with ⟨_,hV⟩|⟨r,hr,hru,hV⟩
 .grind
 .have notA:¬Fr P (T i) (u m):=by rw[<- hru];exact IA.not_fr 'a'
  have fromA:V<0->t<=u m:=λhv=>by
   rw[<- hA,<- hru];exact CA.first r hr (by rw[<- hV];exact hv)
  by_cases hmn:m<P.n
  .have eu:u m=(T j).f m:=Â hmn
   have eρ:ρ m=(T j).L (p j) m:=Â hmn;rw[eρ]at hneg;have frB:Fr P (T j) (u m):=⟨m,hmn,eu.symm⟩
   -- it has moved
   have le:u m<=t:=by
    refine Nat.le_of_not_lt λgt=>?_;have h1:=S.fr R hy (u:=u m) 't' i hi 'a';have h2:=S.fr R hy (u:=u m) 't' j hj 'a';exact notA (h1.mpr (h2.mp frB))
   by_cases hv:V<0
   .have:=fromA hv
    have et:(T j).f m=(T j).f (d j):=by rw[hB,<- eu];exact Nat.le_antisymm ‹_› ‹_›
    have:=IB.fi m (d j) hmn CB.hd et;rw[this]at hneg;have dn:=CB.dneg;have:=Int.mul_pos_of_neg_of_neg dn hv;lia
   .have hv0:0<V:=by
     rcases Int.lt_trichotomy V 0 with z|z|z
     .contradiction
     .grind
     .exact z
    have ln:(T j).L (p j) m<0:=by
     refine Int.not_le.mp λz=>?_;have:=Int.mul_nonneg z (ñ hv0);lia
    have ne:u m≠t:=λz=>by
     have hrp:r=p i:=IA.hi r (p i) 'a' (by have:=CA.hp;exact É ‹_›) (by rw[hru,hA,z]);rw[hV,hrp]at hv0;have:=CA.neg;lia
    have zB:=S.z j hj hj2;have nzA:¬NZ P (T i) (u m):=by rw[<- hru];exact IA.held_nz 'a'
    have nzB:¬NZ P (T j) (u m):=λz=>nzA ((S.nz R hy i hi 'a').mpr ((S.nz R hy j hj 'a').mp z));have gz:(T j).L P.k m=0:=ā λz=>nzB ⟨m,hmn,eu.symm,z⟩;rcases CB.best m hmn ln with h|h
    all_goals grind
  .have eu:u m=(T j).h (p j):=Ä hmn
   have eρ:ρ m=(T j).s:=Ä hmn;rw[eρ]at hneg;have sB:=IB.pos;have hv:V<0:=by
    refine Int.not_le.mp λz=>?_;have:=Int.mul_nonneg (ñ sB) z;lia
   have h1:=fromA hv;have h2:=S.e j hj hj2;have et:(T j).f (d j)=(T j).h (p j):=by rw[hB,<- eu];lia
   exact IB.fh (d j) (p j) CB.hd 'a' et
end
end Sx
namespace Sx
section
variable {P:Pr}{σ:Int}{T:Nat->Tab}{p d:Nat->Nat}{l:Nat}
def ϩ(R:wG P σ T p d l):∀(n x:Nat),x+n<=l->Fr P (T x) t->¬Fr P (T (x+n)) t->∃m,x<=m/\m<x+n/\(T m).f (d m)=t
 |0,x,_,h1,h2=>absurd h1 h2
 |n+1,x,hl,h1,h2=>by
  by_cases c:Fr P (T (x+n)) t
  .refine⟨x+n,by exact Nat.le_add_right _ _,by exact ê _,?_⟩
   refine ā λhne=>h2 ?_;rw[<- Nat.add_assoc,R.next (x+n) 't',tW (R.ch _ 't') (R.inv_at _ 'a')]
   grind
  .obtain⟨m,h3,h4,h5⟩:=ϩ R n x 'a' h1 c
   grind
def Ϫ(R:wG P σ T p d l):∀(n x:Nat),x+n<=l->¬Fr P (T x) t->Fr P (T (x+n)) t->∃m,x<=m/\m<x+n/\(T m).h (p m)=t
 |0,x,_,h1,h2=>absurd h2 h1
 |n+1,x,hl,h1,h2=>by
  by_cases c:Fr P (T (x+n)) t
  .obtain⟨m,h3,h4,h5⟩:=Ϫ R n x 'a' h1 c
   grind
  .refine⟨x+n,by exact Nat.le_add_right _ _,by exact ê _,?_⟩
   rw[<- Nat.add_assoc,R.next (x+n) 't',tW (R.ch _ 't') (R.inv_at _ 'a')]at h2
   grind
def bd:Nat->Nat
 |0=>0
 |t+1=>2*bd t+1
def ϫ(R:wG P σ T p d l):∀(t x y:Nat),y<=l->ĥ P T p d x y t->y-x<=bd t
 |0,x,y,hy,S=>by
  by_cases h:x<y
  .exact absurd (S.e x (È _) h) ∅
  .rw[bd];lia
 |t+1,x,y,hy,S=>by
  have sub:∀x' y',x<=x'->y'<=y->(∀m,x'<=m->m<y'->(T m).h (p m)≠t/\(T m).f (d m)≠t)->y'-x'<=bd t:=λx' y' h1 h2 h3=>ϫ R t x' y' 'i' ⟨λm a b=>by
   have:=S.e m 'i' 'i'
   grind,λm a b=>by
   have:=S.g m 'i' 'i'
   grind,λm a b=>S.z m 'i' 'i'⟩
  by_cases ex:∃m,x<=m/\m<y/\((T m).h (p m)=t\/(T m).f (d m)=t)
  .obtain⟨m0,a0,b0,c0⟩:=ex
   have no2:∀m m',x<=m->m<m'->m'<y->((T m).h (p m)=t\/(T m).f (d m)=t)->((T m').h (p m')=t\/(T m').f (d m')=t)->False:=by
    intro m m' h1 h2 h3 c c';have IM:=R.inv_at m ∅;have CM:=R.ch m ∅;have IM':=R.inv_at m' 'i';have CM':=R.ch m' 'i';rcases c with c|c
    .rcases c' with c'|c'
     ·-- freed twice
      have f1:Fr P (T (m+1)) t:=by
       rw[R.next m ∅,tW CM IM];exact .inl c.symm
      have f2:¬Fr P (T (m+1+(m'-(m+1)))) t:=by
       rw[show m+1+(m'-(m+1))=m' by lia,<- c'];exact IM'.not_fr (by have:=CM'.hp;exact É ‹_›)
      let⟨q,q1,q2,q3⟩:=ϩ R (m'-(m+1)) (m+1) ∅ f1 f2;exact O0 R S hy h1 ∅ ∅ ∅ c q3
     .exact O0 R S hy h1 'i' ∅ h3 c c'
    .rcases c' with c'|c'
     .exact O0 R S hy ∅ h3 h1 'i' c' c
     .have f1:¬Fr P (T (m+1)) t:=by
       rw[R.next m ∅,tW CM IM];rintro(h|h)
       .exact IM.fh (d m) (p m) CM.hd (by have:=CM.hp;exact É ‹_›) (by rw[c,h])
       .exact h.2 c.symm
      have f2:Fr P (T (m+1+(m'-(m+1)))) t:=by
       rw[show m+1+(m'-(m+1))=m' by lia];exact⟨d m',CM'.hd,c'⟩
      let⟨q,q1,q2,q3⟩:=Ϫ R (m'-(m+1)) (m+1) ∅ f1 f2;exact O0 R S hy ∅ ∅ h1 ∅ q3 c
   have l1:=sub x m0 (È _) 'a' λm a b=>⟨λz=>no2 m m0 a b b0 (.inl z) c0,λz=>no2 m m0 a b b0 (.inr z) c0⟩;have l2:=sub (m0+1) y 'i' (È _) λm a b=>⟨λz=>no2 m0 m a0 't' b c0 (.inl z),λz=>no2 m0 m a0 't' b c0 (.inr z)⟩;rw[bd];lia
  .have:=sub x y (È _) (È _) λm a b=>⟨λz=>ex ⟨m,a,b,.inl z⟩,λz=>ex ⟨m,a,b,.inr z⟩⟩
   rw[bd];lia
def wG.fN(R:wG P σ T p d l)(hy:y<=l)(hz:∀m,x<=m->m<y->(T m).L P.k (d m)=0):y-x<=bd P.N:=ϫ R P.N x y hy ⟨λm a b=>(R.inv_at m 'i').hN _ (R.ch m 'i').hp,λm a b=>(R.inv_at m 'i').fN _ (R.ch m 'i').hd,hz⟩
def Ϭ(R:wG P σ T p d l)(hi:i<l):(T (i+1)).L P.k P.n*(T i).s=(T i).L P.k P.n*(T (i+1)).s+(T i).L P.k (d i)*(T i).L (p i) P.n:=by
 have I:=R.inv_at i 'a';have C:=R.ch i hi;have e:=(I.quotN C.hp C.hd (r:=P.k) (È _) (by have:=C.hp;exact Ü ‹_›)).1;rw[R.next i hi];show _=_*-(T i).L (p i) (d i)+_
 grind
def aI0{k0 k1 k2 s0 s1 s2 w:Int}(p0:0<s0)(p1:0<s1)(p2:0<s2)(e:k2*s1=k1*s2+w)(ih:k1*s0<=k0*s1)(le:w<=0):k2*s0<=k0*s2:=by
 have b1:k2*s0*s1=(k1*s0)*s2+w*s0:=by
  rw[Int.mul_right_comm,e,Int.add_mul,Int.mul_right_comm]
 have b2:(k1*s0)*s2<=(k0*s1)*s2:=ė ih (ñ p2);have b3:w*s0<=0:=Int.mul_nonpos_of_nonpos_of_nonneg le (ñ p0);rw[Int.mul_right_comm k0]at b2;have a1:k2*s0*s1<=k0*s2*s1:=by lia
 exact Int.le_of_mul_le_mul_right a1 p1
def aI1{k0 k1 k2 k3 s0 s1 s2 s3 w:Int}(p0:0<s0)(p1:0<s1)(p2:0<s2)(p3:0<s3)(b:k3*s2<=k2*s3)(e:k2*s1=k1*s2+w)(a:k1*s0<=k0*s1)(lt:w<0):k3*s0<k0*s3:=by
 -- k3 s2<=k2 s3;k2 s1=k1 s2+w;k1 s0<=k0 s1
 have s12:0<s1*s2:=Int.mul_pos p1 p2;have a1:k3*s0*(s1*s2)<k0*s3*(s1*s2):=by
  have b1:k3*s0*(s1*s2)=(k3*s2)*(s0*s1):=by grind
  have b2:(k3*s2)*(s0*s1)<=(k2*s3)*(s0*s1):=ė b (ñ (Int.mul_pos p0 p1));have b3:(k2*s3)*(s0*s1)=(k2*s1)*(s0*s3):=by grind
  have b4:(k2*s1)*(s0*s3)=(k1*s0)*(s2*s3)+w*(s0*s3):=by rw[e];grind
  have b5:(k1*s0)*(s2*s3)<=(k0*s1)*(s2*s3):=ė a (ñ (Int.mul_pos p2 p3));have b6:w*(s0*s3)<0:=Int.mul_neg_of_neg_of_pos lt (Int.mul_pos p0 p3);have b7:(k0*s1)*(s2*s3)=k0*s3*(s1*s2):=by grind
  lia
 simp_all
def FU(R:wG P σ T p d l):∀n,i+n<=l->(T (i+n)).L P.k P.n*(T i).s<=(T i).L P.k P.n*(T (i+n)).s
 |0,_=>Int.le_refl _
 |n+1,h=>by
  have ih:=FU R n (i:=i) 'a';have e:=Ϭ R (i:=i+n) 't';have C:=R.ch (i+n) 't';have I:=R.inv_at (i+n) 'a';have I0:=R.inv_at i ∅;have I1:=R.inv_at (i+n+1) 't';have g:=I.dual _ C.hd;have neg:=C.neg;have p0:=I0.pos;have p1:=I.pos;have p2:=I1.pos;have le:(T (i+n)).L P.k (d (i+n))*(T (i+n)).L (p (i+n)) P.n<=0:=Int.mul_nonpos_of_nonneg_of_nonpos g (by exact ñ ‹_›);rw[<- Nat.add_assoc];exact aI0 p0 p1 p2 e ih le
def aC0(R:wG P σ T p d l)(h1:i<=m)(h2:m<j)(h3:j<=l)(hnz:(T m).L P.k (d m)≠0):(T j).L P.k P.n*(T i).s<(T i).L P.k P.n*(T j).s:=by
 have a:=FU R (i:=i) (m-i) ∅;have b:=FU R (i:=m+1) (j-(m+1)) ∅;rw[show i+(m-i)=m by lia]at a;rw[show m+1+(j-(m+1))=j by lia]at b;have e:=Ϭ R (i:=m) 'i';have C:=R.ch m 'i';have I:=R.inv_at m 'i';have p0:=(R.inv_at i ∅).pos;have p1:=I.pos;have p2:=(R.inv_at (m+1) 'i').pos;have p3:=(R.inv_at j 't').pos;have g:=I.dual _ C.hd;have neg:=C.neg;have lt:(T m).L P.k (d m)*(T m).L (p m) P.n<0:=Int.mul_neg_of_pos_of_neg ∅ neg;exact aI1 p0 p1 p2 p3 b e a lt
def RW(IA:Inv P σ A)(IB:Inv P σ B)(h:∀u,u<P.N->Fr P B u->Fr P A u):B.s*A.L P.k P.n=A.s*B.L P.k P.n:=by
 let u:Nat->Nat:=λm=>if m<P.n then B.f m else P.N;let ρ:Nat->Int:=λm=>if m<P.n then B.L P.k m else B.s;have stand:∀m,m<P.n+1->∃E,At P A (u m) E (if m<P.n then 0 else A.L P.k P.n):=λm hm=>by
  by_cases c:m<P.n
  .obtain⟨j,hj,e⟩:=h (B.f m) (IB.fN m c) ⟨m,c,rfl⟩
   refine⟨λi=>if i=j then -A.s else 0,?_⟩;rw[Â c];show At P A (if m<P.n then B.f m else P.N) _ 0;rw[Â c,<- e];exact FT hj
  .refine⟨A.L P.k,?_⟩
   rw[Ä c];show At P A (if m<P.n then B.f m else P.N) _ _;rw[Ä c,<- IA.hk];exact IA.at_held (È _)
 have ev:=IA.eval (q:=P.n+1) (ρ:=ρ) (u:=u) (E:=λm=>open Classical in if hm:m<P.n+1 then (stand m hm).choose else λ_=>0) (V:=λm=>if m<P.n then 0 else A.L P.k P.n) (ρ0:=B.L P.k P.n) (λm hm=>by
  grind) (λx hx=>by
  have e:=IB.cr P.k (È _) x hx;rw[IB.hk]at e;rw[sumN];have e1:(sumN P.n λm=>ρ m*P.a (u m) x)=sumN P.n λm=>B.L P.k m*P.a (B.f m) x:=bF λm hm=>by
   grind
  grind) (by
  have e:=IB.lc P.k (È _);rw[IB.hk]at e;rw[sumN];have e1:(sumN P.n λm=>ρ m*P.c (u m))=sumN P.n λm=>B.L P.k m*P.c (B.f m):=bF λm hm=>by
   grind
  grind)
 rw[sumN,fS λm hm=>by rw[Â hm];lia]at ev
 grind
def ϭ:∀(M:Nat)(g:Nat->Nat),(∀i,i<=M->g i<M)->∃i j,i<j/\j<=M/\g i=g j
 |0,g,h=>absurd (h 0 (È _)) ∅
 |M+1,g,h=>by
  by_cases ex:∃i,i<=M/\g i=g (M+1)
  .obtain⟨i,hi,e⟩:=ex
   exact⟨i,M+1,by grind,by exact ê _,e⟩
  .have hv:=h (M+1) (by exact ê _)
   let⟨i,j,h1,h2,h3⟩:=ϭ M (λi=>if g i=M then g (M+1)else g i) λi hi=>by
    grind
   refine⟨i,j,h1,by grind,?_⟩
   grind
def code(b:Nat->Bool):Nat->Nat
 |0=>0
 |n+1=>2*code b n+(if b n=true then 1 else 0)
def O1 :∀n,code b n<2^n
 |0=>by simp[code]
 |n+1=>by
  have:=O1 (b:=b) n;rw[code,Nat.pow_succ];split<;>lia
def JO :∀n,code b n=code b' n->∀u,u<n->b u=b' u
 |0,_,u,hu=>by grind
 |n+1,e,u,hu=>by
  rw[code,code]at e;have hb:b n=b' n/\code b n=code b' n:=by
   cases h1:b n<;>cases h2:b' n<;>rw[h1,h2]at e<;>simp at e⊢<;>lia
  by_cases c:u=n
  .subst c;exact hb.1
  .exact JO n hb.2 u ∅
def most(N:Nat):Nat:=(2^N+1)*(bd N+1)
def wG.most(R:wG P σ T p d l):l<Sx.most P.N:=by
 refine Nat.lt_of_not_le λhl=>?_
 -- in each window the goal falls once
 have win:∀w,w<=2^P.N->∃m,w*(bd P.N+1)<=m/\m<(w+1)*(bd P.N+1)/\(T m).L P.k (d m)≠0:=λw hw=>by
  refine ā λno=>?_;have hle:(w+1)*(bd P.N+1)<=Sx.most P.N:=Nat.mul_le_mul_right _ 'i';have:=R.fN (x:=w*(bd P.N+1)) (y:=(w+1)*(bd P.N+1)) 'i' λm a b=>ā λz=>no ⟨m,a,b,z⟩
  grind
 let mm:Nat->Nat:=λw=>open Classical in if hw:w<=2^P.N then (win w hw).choose else 0;have mmS:∀w,w<=2^P.N->w*(bd P.N+1)<=mm w/\mm w<(w+1)*(bd P.N+1)/\(T (mm w)).L P.k (d (mm w))≠0:=λw hw=>by
  grind
 let fb:Nat->Nat->Bool:=λw u=>open Classical in decide (Fr P (T (mm w)) u);let⟨i,j,h1,h2,h3⟩:=ϭ (2^P.N) (λw=>code (fb w) P.N) λw _=>O1 P.N;have si:=mmS i 'i';have sj:=mmS j h2;have hij:(i+1)*(bd P.N+1)<=j*(bd P.N+1):=Nat.mul_le_mul_right _ 't';have hjl:(j+1)*(bd P.N+1)<=Sx.most P.N:=Nat.mul_le_mul_right _ 'i';have fl:=aC0 R (i:=mm i) (m:=mm i) (j:=mm j) (È _) ∅ ∅ si.2.2;have sg:=RW (R.inv_at (mm i) ∅) (R.inv_at (mm j) ∅) λu hu hf=>by
  have e:=JO P.N h3 u hu
  grind
 grind
end
end Sx
namespace Sx
def shr(n:Nat)(f:Nat->Nat)(w:Nat->Int)(u:Nat):Int:=sumN n λj=>if f j=u then w j else 0
def shr_at(hf:∀i j,i<n->j<n->f i=f j->i=j)(hj:j<n):shr n f w (f j)=w j:=by
 unfold shr;rw[c8 (k:=j) hj λi hi hne=>Ä λz=>hne (hf i j hi hj z),Â rfl]
def shr_no(h:∀j,j<n->f j≠u):shr n f w u=0:=fS λj hj=>Ä (h j hj)
structure Lp where
 n:Nat
 m:Nat
 row:Nat->j5
 top:Nat->Int
 room:Nat->Int
def Lp.pr(Q:Lp):Pr where
 n:=Q.n
 k:=Q.m+Q.n
 N:=Q.n+Q.m+Q.n
 a:=λu x=>if u<Q.n then (if x=u then -1 else 0)else if u<Q.n+Q.m then Q.row (u-Q.n) x else if u<Q.n+Q.m+Q.n then (if x=u-(Q.n+Q.m)then 1 else 0)else 1
 c:=λu=>if u<Q.n then 0 else if u<Q.n+Q.m then Q.top (u-Q.n)else if u<Q.n+Q.m+Q.n then Q.room (u-(Q.n+Q.m))else 0
def Lp.start(Q:Lp):Tab where
 s:=1
 f:=λj=>j
 h:=λr=>Q.n+r
 L:=λr j=>if j<Q.n then Q.pr.a (Q.n+r) j else Q.pr.c (Q.n+r)
section
variable {Q:Lp}
def z9(h:i<Q.n):Q.pr.a i x=if x=i then -1 else 0:=Â h
def Ϯ(h:r<Q.m):Q.pr.a (Q.n+r) x=Q.row r x:=by
 show (if Q.n+r<Q.n then _ else if Q.n+r<Q.n+Q.m then Q.row (Q.n+r-Q.n) x else _)=_
 grind
def YC(h:i<Q.n):Q.pr.a (Q.n+Q.m+i) x=if x=i then 1 else 0:=by
 show (if Q.n+Q.m+i<Q.n then _ else if Q.n+Q.m+i<Q.n+Q.m then _ else if Q.n+Q.m+i<Q.n+Q.m+Q.n then (if x=Q.n+Q.m+i-(Q.n+Q.m)then (1:Int)else 0)else _)=_
 grind
def MG:Q.pr.a Q.pr.N x=1:=by
 show (if Q.n+Q.m+Q.n<Q.n then _ else if Q.n+Q.m+Q.n<Q.n+Q.m then _ else if Q.n+Q.m+Q.n<Q.n+Q.m+Q.n then _ else (1:Int))=_
 grind
def YD(h:i<Q.n):Q.pr.c i=0:=Â h
def ϯ(h:r<Q.m):Q.pr.c (Q.n+r)=Q.top r:=by
 show (if Q.n+r<Q.n then _ else if Q.n+r<Q.n+Q.m then Q.top (Q.n+r-Q.n)else _)=_
 grind
def YE(h:i<Q.n):Q.pr.c (Q.n+Q.m+i)=Q.room i:=by
 show (if Q.n+Q.m+i<Q.n then _ else if Q.n+Q.m+i<Q.n+Q.m then _ else if Q.n+Q.m+i<Q.n+Q.m+Q.n then Q.room (Q.n+Q.m+i-(Q.n+Q.m))else _)=_
 grind
def YF:Q.pr.c Q.pr.N=0:=by
 show (if Q.n+Q.m+Q.n<Q.n then _ else if Q.n+Q.m+Q.n<Q.n+Q.m then _ else if Q.n+Q.m+Q.n<Q.n+Q.m+Q.n then _ else (0:Int))=_
 grind
def aC1:∀n:Nat,dL (n+1) (λj x=>if x=j then -1 else 0)=-dL n (λj x=>if x=j then -1 else 0):=λn=>by
 rw[dL,c8 (k:=0) (by exact ù _) λi hi hne=>by
  grind]
 have e:fH (λj x=>if x=j then (-1:Int)else 0) 0=λj x=>if x=j then -1 else 0:=by
  funext r c;unfold fH skip;rw[Ä ∅];by_cases h:c=r
  .grind
  .grind
 rw[e];show ċ 0*(if 0=0 then -1 else 0)*_=_;rw[Â rfl];show 1*-1*_=_;lia
def YG:∀n:Nat,dL n (λj x=>if x=j then -1 else 0)*dL n (λj x=>if x=j then -1 else 0)=1
 |0=>rfl
 |n+1=>by
  rw[aC1];have:=YG n
  grind
def Lp.inv(Q:Lp):Inv Q.pr (dL Q.n (λj x=>if x=j then -1 else 0)) Q.start:=by
 have sq:=YG Q.n;have eF:∀M:Nat->j5,(∀j x,j<Q.n->M j x=if x=j then -1 else 0)->dL Q.n M=dL Q.n (λj x=>if x=j then -1 else 0):=λM h=>lG λr c hr _=>h r c hr;have hF:∀j x,j<Q.n->Q.start.F Q.pr j x=if x=j then -1 else 0:=λj x hj=>z9 hj;have dF:=eF (Q.start.F Q.pr) hF;have dU:∀(j:Nat)(v:j5),j<Q.n->dL Q.n (aY (Q.start.F Q.pr) j v)=-v j*dL Q.n (λj x=>if x=j then -1 else 0):=λj v hj=>by
  have e1:dL Q.n (aY (Q.start.F Q.pr) j v)=dL Q.n (aY (Q.start.F Q.pr) j λx=>sumN Q.n λl=>-v l*Q.start.F Q.pr l x):=lG λr x hr hx=>by
   by_cases e:r=j
   .subst e
    rw[aP,aP,c8 (k:=x) hx λl hl hne=>by grind,hF x x hx,Â rfl];lia
   .rw[aH e,aH e]
  rw[e1,wT hj,c8 (k:=j) hj λl hl hne=>?_,hJ,dF];have:dL Q.n (aY (Q.start.F Q.pr) j (Q.start.F Q.pr l))=0:=wS hj hl (λz=>hne z.symm) λx=>by rw[aP,aH hne]
  rw[this];lia
 have Lj:∀r j,j<Q.n->Q.start.L r j=Q.pr.a (Q.n+r) j:=λr j hj=>Â hj;have Ln:∀r,Q.start.L r Q.n=Q.pr.c (Q.n+r):=λr=>Ä ∅;have kN:Q.pr.k=Q.m+Q.n:=rfl;have NN:Q.pr.N=Q.n+Q.m+Q.n:=rfl;have nn:Q.pr.n=Q.n:=rfl;refine⟨sq,by show (0:Int)<1;decide,?_,?_,?_,?_,?_,?_,?_,?_,?_,?_,?_,?_⟩
 .show (1:Int)=_*dL Q.n (Q.start.F Q.pr)
  rw[dF,sq]
 .intro r _ j hj
  rw[Lj r j hj];show _=_*dL Q.n (aY (Q.start.F Q.pr) j (Q.pr.a (Q.n+r)));rw[dU j _ hj]
  grind
 .intro r _
  show Q.start.L r Q.n=1*Q.pr.c (Q.n+r)+sumN Q.n λj=>Q.start.L r j*Q.pr.c j;rw[Ln,fS λj hj=>by rw[YD hj];lia];lia
 .intro r _ x hx
  show 1*Q.pr.a (Q.n+r) x+(sumN Q.n λj=>Q.start.L r j*Q.pr.a j x)=0;have hx:x<Q.n:=hx;rw[c8 (k:=x) hx λl hl hne=>by rw[z9 hl,Ä λz=>hne z.symm];lia,z9 hx,Â rfl,Lj r x hx];lia
 .exact λi j _ _ e=>e
 .intro r q _ _ e
  have e:Q.n+r=Q.n+q:=e;lia
 .intro j r hj _ e
  have e:j=Q.n+r:=e
  grind
 .show Q.n+(Q.m+Q.n)=Q.n+Q.m+Q.n
  lia
 .intro u hu
  rw[NN]at hu;by_cases h:u<Q.n
  .exact .inl ⟨u,h,rfl⟩
  .refine .inr ⟨u-Q.n,by rw[kN];lia,?_⟩
   show Q.n+(u-Q.n)=u;lia
 .intro j hj
  show j<Q.n+Q.m+Q.n
  grind
 .intro r hr
  show Q.n+r<Q.n+Q.m+Q.n
  grind
 .intro j hj
  rw[Lj _ j hj];have:Q.n+Q.pr.k=Q.pr.N:=by rw[kN,NN];lia
  rw[this,MG];decide
variable {σ:Int}{T:Tab}
def val(P:Pr)(T:Tab)(u:Nat):Int:=shr P.k T.h (λr=>T.L r P.n) u
def MH(I:Inv Q.pr σ T)(hu:u<Q.pr.N):∃E,At Q.pr T u E (val Q.pr T u):=by
 rcases I.all u hu with ⟨j,hj,e⟩|⟨r,hr,e⟩
 .have:val Q.pr T u=0:=shr_no λr hr z=>I.fh j r hj 'a' (by rw[e,z])
  rw[this,<- e];exact⟨_,FT hj⟩
 .have:val Q.pr T u=T.L r Q.pr.n:=by
   unfold val;rw[<- e];exact shr_at (λi j hi hj z=>I.hi i j 'a' 'a' z) hr
  rw[this,<- e];exact⟨_,I.at_held 'a'⟩
def aMA(I:Inv Q.pr σ T):(∀r,r<Q.m->val Q.pr T (Q.n+r)+(sumN Q.n λx=>Q.row r x*val Q.pr T x)=T.s*Q.top r)/\(∀i,i<Q.n->val Q.pr T (Q.n+Q.m+i)+val Q.pr T i=T.s*Q.room i)/\T.L Q.pr.k Q.n+(sumN Q.n λx=>val Q.pr T x)=0:=by
 have fillN:∀x,x<Q.n->x<Q.pr.N:=λx hx=>by show x<Q.n+Q.m+Q.n;lia
 -- a relation of the aMA and one more
 have rel:∀(u:Nat)(E:Nat->Int)(V:Int)(w:Nat->Int)(ρ0:Int),At Q.pr T u E V->(∀x,x<Q.n->Q.pr.a u x=w x)->Q.pr.c u=ρ0->V+(sumN Q.n λx=>w x*val Q.pr T x)=T.s*ρ0:=λu E V w ρ0 hA ha hc=>by
  have ev:=I.eval (q:=Q.n+1) (ρ:=λm=>if m<Q.n then w m else 1) (u:=λm=>if m<Q.n then m else u) (E:=λm=>open Classical in if hm:m<Q.n then (MH I (fillN m hm)).choose else E) (V:=λm=>if m<Q.n then val Q.pr T m else V) (ρ0:=ρ0) (λm hm=>by
   grind) (λx hx=>by
   have hx:x<Q.n:=hx;rw[sumN,Ä ∅,Ä ∅,ha x hx,c8 (k:=x) hx λm hm hne=>by rw[Â hm,Â hm,z9 hm,Ä λz=>hne z.symm];lia,Â hx,Â hx,z9 hx,Â rfl];lia) (by
   rw[sumN,Ä ∅,Ä ∅,hc,fS λm hm=>by rw[Â hm,Â hm,YD hm];lia];lia)
  rw[sumN,Ä ∅,Ä ∅]at ev;have e1:(sumN Q.n λm=>(if m<Q.n then w m else 1)*(if m<Q.n then val Q.pr T m else V))=sumN Q.n λx=>w x*val Q.pr T x:=bF λm hm=>by rw[Â hm,Â hm]
  rw[e1]at ev;lia
 refine⟨λr hr=>?_,λi hi=>?_,?_⟩
 .obtain⟨E,hA⟩:=MH I (u:=Q.n+r) (by show Q.n+r<Q.n+Q.m+Q.n;lia)
  exact rel _ E _ (Q.row r) (Q.top r) hA (λx _=>Ϯ hr) (ϯ hr)
 .obtain⟨E,hA⟩:=MH I (u:=Q.n+Q.m+i) (by show Q.n+Q.m+i<Q.n+Q.m+Q.n;lia)
  have:=rel _ E _ (λx=>if x=i then 1 else 0) (Q.room i) hA (λx _=>YC hi) (YE hi);rw[c8 (k:=i) hi λx _ hne=>by rw[Ä hne];lia,Â rfl]at this;lia
 .have hA:=I.at_held (r:=Q.pr.k) (È _)
  rw[I.hk]at hA;have:=rel _ _ _ (λ_=>1) 0 hA (λx _=>MG) YF;have e:(sumN Q.n λx=>1*val Q.pr T x)=sumN Q.n λx=>val Q.pr T x:=bF λx _=>by lia
  rw[e]at this;have this:T.L Q.pr.k Q.n+(sumN Q.n λx=>val Q.pr T x)=T.s*0:=this;lia
end
end Sx
namespace Sx
def simplex_ind{P:Pr}{σ:Int}{Good:Tab->Prop}(step:∀T,Inv P σ T->(∀p d,Ch P T p d->Good (swap T p d))->Good T)(T:Tab)(I:Inv P σ T):Good T:=by
 refine ā λh=>?_;have nx:∀B:{T:Tab // Inv P σ T/\¬Good T},∃pd:Nat×Nat,Ch P B.1 pd.1 pd.2/\¬Good (swap B.1 pd.1 pd.2):=λB=>by
  refine ā λz=>B.2.2 (step B.1 B.2.1 λp d C=>?_);exact ā λg=>z ⟨(p,d),C,g⟩
 let nxt:{T:Tab // Inv P σ T/\¬Good T}->{T:Tab // Inv P σ T/\¬Good T}:=λB=>⟨swap B.1 (nx B).choose.1 (nx B).choose.2,(nx B).choose_spec.1.inv B.2.1,(nx B).choose_spec.2⟩;let sq:Nat->{T:Tab // Inv P σ T/\¬Good T}:=λi=>Nat.rec ⟨T,I,h⟩ (λ_ B=>nxt B) i;have R:wG P σ (λi=>(sq i).1) (λi=>(nx (sq i)).choose.1) (λi=>(nx (sq i)).choose.2) (most P.N):=⟨I,λi _=>(nx (sq i)).choose_spec.1,λi _=>rfl⟩;exact absurd R.most (ö _)
structure LT where
 s:Int
 free:ZK
 held:ZK
 lines:List (ZK)
 goal:ZK
structure LnR(n:Nat)(ln:ZK)(g:Nat->Int):Prop where
 len:ln.length=n+1
 at':∀j,j<=n->ln[j]?=some (g j)
def LnR.getD(h:LnR n ln g)(hj:j<=n):ln.getD j 0=g j:=by
 rw[Ë,h.at' j hj];rfl
structure Rp(P:Pr)(L:LT)(T:Tab):Prop where
 s:L.s=T.s
 fl:L.free.length=P.n
 hl:L.held.length=P.k
 ll:L.lines.length=P.k
 f:∀j,j<P.n->L.free[j]?=some (T.f j:Int)
 h:∀r,r<P.k->L.held[r]?=some (T.h r:Int)
 l:∀r,r<P.k->∃ln,L.lines[r]?=some ln/\LnR P.n ln (T.L r)
 g:LnR P.n L.goal (T.L P.k)
def clearL(ln pv:ZK)(d:Nat)(s:Int):ZK:=(List.zipWith (λone other=>(-pv.getD d 0*one+ln.getD d 0*other)/s) ln pv).set d (ln.getD d 0)
def turnL(pv:ZK)(d:Nat)(s:Int):ZK:=(pv.map λx=>-x).set d (-s)
def swapL(L:LT)(p d:Nat):LT where
 s:=-(L.lines.getD p []).getD d 0
 free:=L.free.set d (L.held.getD p 0)
 held:=L.held.set p (L.free.getD d 0)
 lines:=(L.lines.map λln=>clearL ln (L.lines.getD p []) d L.s).set p (turnL (L.lines.getD p []) d L.s)
 goal:=clearL L.goal (L.lines.getD p []) d L.s
def JP{ln pv:ZK}(ha:LnR n ln a)(hb:LnR n pv b)(hd:d<=n):LnR n (clearL ln pv d s) λj=>if j=d then a d else (-b d*a j+a d*b j)/s:=by
 refine⟨by unfold clearL;rw[Ö,List.length_zipWith,ha.len,hb.len,Nat.min_self],λj hj=>?_⟩
 unfold clearL;rw[Ď,ha.getD hd,hb.getD hd];by_cases e:d=j
 .rw[Â e,Â (by rw[List.length_zipWith,ha.len,hb.len,Nat.min_self];exact Nat.lt_succ_of_le ‹_›)]
  grind
 .rw[Ä e,List.getElem?_zipWith,ha.at' j hj,hb.at' j hj]
  show _=some (if j=d then _ else _);rw[Ä (Í e)]
def aC2{pv:ZK}(hb:LnR n pv b)(hd:d<=n):LnR n (turnL pv d s) λj=>if j=d then -s else -b j:=by
 refine⟨by unfold turnL;rw[Ö,Æ,hb.len],λj hj=>?_⟩
 unfold turnL;rw[Ď];by_cases e:d=j
 .rw[Â e,Â (by rw[Æ,hb.len];exact Nat.lt_succ_of_le ‹_›)]
  grind
 .rw[Ä e,Ñ,hb.at' j hj]
  grind
def Rp.swap(R:Rp P L T)(hp:p<P.k)(hd:d<P.n):Rp P (swapL L p d) (swap T p d):=by
 let⟨pv,e1,e2⟩:=R.l p hp;have eP:L.lines.getD p []=pv:=by rw[Ë,e1];rfl
 have eH:L.held.getD p 0=T.h p:=by rw[Ë,R.h p hp];rfl
 have eF:L.free.getD d 0=T.f d:=by rw[Ë,R.f d hd];rfl
 refine⟨?_,by show (L.free.set _ _).length=_;rw[Ö,R.fl],by show (L.held.set _ _).length=_;rw[Ö,R.hl],by show ((L.lines.map _).set _ _).length=_;rw[Ö,Æ,R.ll],λj hj=>?_,λr hr=>?_,λr hr=>?_,?_⟩
 .show -(L.lines.getD p []).getD d 0=-T.L p d
  rw[eP,e2.getD 'a']
 .show (L.free.set d (L.held.getD p 0))[j]?=some ((if j=d then T.h p else T.f j:Nat):Int)
  rw[Ď,eH];by_cases e:d=j
  .rw[Â e,Â (by rw[R.fl];assumption),Â e.symm]
  .rw[Ä e,Ä (Í e),R.f j hj]
 .show (L.held.set p (L.free.getD d 0))[r]?=some ((if r=p then T.f d else T.h r:Nat):Int)
  rw[Ď,eF];by_cases e:p=r
  .rw[Â e,Â (by rw[R.hl];assumption),Â e.symm]
  .rw[Ä e,Ä (Í e),R.h r hr]
 .show ∃ln,((L.lines.map λln=>clearL ln (L.lines.getD p []) d L.s).set p (turnL (L.lines.getD p []) d L.s))[r]?=some ln/\LnR P.n ln (λj=>if r=p then (if j=d then -T.s else -T.L p j)else (if j=d then T.L r d else (-T.L p d*T.L r j+T.L r d*T.L p j)/T.s))
  rw[Ď,eP,R.s];by_cases e:p=r
  .rw[Â e,Â 'i']
   refine⟨_,rfl,?_⟩;have:=aC2 (s:=T.s) e2 (d:=d) 'a'
   grind
  .obtain⟨ln,h1,h2⟩:=R.l r hr
   rw[Ä e,Ñ,h1];refine⟨_,rfl,?_⟩;simp![Ä (Í e)];exact JP h2 e2 'a'
 .show LnR P.n (clearL L.goal (L.lines.getD p []) d L.s) (λj=>if P.k=p then (if j=d then -T.s else -T.L p j)else (if j=d then T.L P.k d else (-T.L p d*T.L P.k j+T.L P.k d*T.L p j)/T.s))
  simp![Ä (show ¬P.k=p by exact Ü ‹_›)];rw[eP,R.s];exact JP R.g e2 'a'
def startL(Ç:ZE)(Ã:ZK):LT where
 s:=1
 free:=(List.range Ã.length).map λ(i:Nat)=>(i:Int)
 held:=(List.range (Ç.length+Ã.length)).map λ(i:Nat)=>((Ã.length+i:Nat):Int)
 lines:=(Ç.map λr=>r.1++[r.2])++(List.range Ã.length).map λ(i:Nat)=>((List.replicate Ã.length 0).set i 1)++[Ã.getD i 0]
 goal:=List.replicate Ã.length 1++[0]
def lpOf(Ç:ZE)(Ã:ZK):Lp where
 n:=Ã.length
 m:=Ç.length
 row:=λr x=>(Ç.getD r ([],0)).1.getD x 0
 top:=λr=>(Ç.getD r ([],0)).2
 room:=λi=>Ã.getD i 0
def LnR.snoc{v:Nat->Int}(h1:a.length=n)(h2:∀j,j<n->a[j]?=some (v j))(h3:v n=b):LnR n (a++[b]) v:=⟨by rw[Ò,h1];rfl,λj hj=>by
 by_cases c:j<n
 .rw[ó (by rw[h1];exact c)]
  exact h2 j c
 .obtain rfl:n=j:=Nat.le_antisymm (ã.mp c) hj
  rw[ç (by rw[h1];exact È _),h1,Nat.sub_self,h3];rfl⟩
def start_ok(hr:∀r∈Ç,r.1.length=Ã.length):Rp (lpOf Ç Ã).pr (startL Ç Ã) (lpOf Ç Ã).start:=by
 have L1:∀r j,j<Ã.length->(lpOf Ç Ã).start.L r j=(lpOf Ç Ã).pr.a (Ã.length+r) j:=λr j hj=>Â hj;have L2:∀r,(lpOf Ç Ã).start.L r Ã.length=(lpOf Ç Ã).pr.c (Ã.length+r):=λr=>Ä (ö _);have lm:(Ç.map λr=>r.1++[r.2]).length=Ç.length:=Æ ..;have lr:∀{f:Nat->ZK},((List.range Ã.length).map f).length=Ã.length:=λ{f}=>by rw[Æ,List.length_range]
 refine⟨rfl,by show ((List.range _).map _).length=Ã.length;rw[Æ,List.length_range],by show ((List.range _).map _).length=Ç.length+Ã.length;rw[Æ,List.length_range],by show List.length (_++_)=Ç.length+Ã.length;rw[Ò,lm,lr],λj hj=>?_,λr hr'=>?_,λr hr'=>?_,?_⟩
 .show ((List.range Ã.length).map _)[j]?=_
  rw[Ñ,ú (n:=Ã.length) hj];rfl
 .show ((List.range (Ç.length+Ã.length)).map _)[r]?=_
  rw[Ñ,ú (n:=Ç.length+Ã.length) hr'];rfl
 .show ∃ln,(List.append _ _)[r]?=some ln/\LnR Ã.length ln _
  rw[List.append_eq];by_cases c:r<Ç.length
  .have hg:Ç.getD r ([],0)=Ç[r]:=by rw[Ë,Ê c];rfl
   have hl:=hr Ç[r] (ý c);rw[ó (by rw[lm];exact c),Ñ,Ê c];refine⟨_,rfl,LnR.snoc hl (λj hj=>?_) ?_⟩
   .rw[L1 r j hj,show (lpOf Ç Ã).pr.a (Ã.length+r) j=_ from Ϯ (Q:=lpOf Ç Ã) c]
    show _=some ((Ç.getD r ([],0)).1.getD j 0);rw[hg,Ë,Ê (by rw[hl];exact hj)];rfl
   .rw[L2,show (lpOf Ç Ã).pr.c (Ã.length+r)=_ from ϯ (Q:=lpOf Ç Ã) c]
    show (Ç.getD r ([],0)).2=_;rw[hg]
  .obtain⟨i,rfl⟩:=Nat.exists_eq_add_of_le (ã.mp c)
   have ci:i<Ã.length:=Nat.lt_of_add_lt_add_left hr';rw[ç (by rw[lm];exact Nat.le_add_right _ _),lm,Nat.add_sub_cancel_left,Ñ,ú ci];refine⟨_,rfl,LnR.snoc (by rw[Ö,ï]) (λj hj=>?_) ?_⟩
   .rw[L1 _ j hj,<- Nat.add_assoc,show (lpOf Ç Ã).pr.a (Ã.length+Ç.length+i) j=_ from YC (Q:=lpOf Ç Ã) ci,Ď,Ą,ï]
    by_cases e:i=j
    .rw[Â e,Â ci,Â e.symm]
    .rw[Ä e,Â hj,Ä (Í e)]
   .rw[L2,<- Nat.add_assoc,show (lpOf Ç Ã).pr.c (Ã.length+Ç.length+i)=_ from YE (Q:=lpOf Ç Ã) ci]
    rfl
 .have eN:Ã.length+(lpOf Ç Ã).pr.k=(lpOf Ç Ã).pr.N:=(Nat.add_assoc _ _ _).symm
  refine LnR.snoc (n:=Ã.length) (ï ..) (λj hj=>?_) ?_
  .rw[L1 _ j hj,eN,MG,Ą,Â hj]
  .rw[L2,eN,YF]
end Sx
namespace Sx
def BestC(G l:Nat->Int)(f:Nat->Nat)(j:Nat):Option Nat->Prop
 |none=>∀i,i<j->0<=l i
 |some b=>b<j/\l b<0/\∀i,i<j->l i<0->(G b*-l i<G i*-l b\/(G b*-l i=G i*-l b/\f b<=f i))
section
def BestC.zero:BestC G l f 0 none:=λi hi=>by grind
def BestC.skip(h:BestC G l f j o)(hj:¬l j<0):BestC G l f (j+1) o:=by
 cases o with
 |none=>
  intro i hi;by_cases e:i=j
  .grind
  .exact h i ∅
 |some b=>
  let⟨h1,h2,h3⟩:=h;refine⟨by grind,h2,λi hi hn=>?_⟩
  grind
def BestC.first(h:BestC G l f j none)(hj:l j<0):BestC G l f (j+1) (some j):=by
 refine⟨by exact ê _,hj,λi hi hn=>?_⟩;by_cases e:i=j
 .grind
 .exact absurd (h i ∅) ∅
def BestC.worse(h:BestC G l f j (some b))(na:¬(G j*-l b<G b*-l j\/(G j*-l b=G b*-l j/\f j<f b))):BestC G l f (j+1) (some b):=by
 let⟨h1,h2,h3⟩:=h;refine⟨by grind,h2,λi hi hn=>?_⟩;by_cases e:i=j
 .subst e
  generalize hx:G i*-l b=x at na⊢;generalize hy:G b*-l i=y at na⊢;omega
 .exact h3 i ∅ hn
def CY{A B C a b c:Int}(ha:0<a)(hb:0<b)(hc:0<c)(h1:A*b<=B*a)(h2:B*c<=C*b):A*c<=C*a:=by
 have e1:A*b*c<=B*a*c:=ė h1 (by exact ñ ‹_›);have e2:B*c*a<=C*b*a:=ė h2 (by exact ñ ‹_›);have e3:(A*c)*b<=(C*a)*b:=by
  have p1:A*b*c=(A*c)*b:=by grind
  have p2:B*a*c=B*c*a:=by grind
  have p3:C*b*a=(C*a)*b:=by grind
  lia
 simp_all
def RY{A B C a b c:Int}(ha:0<a)(hb:0<b)(hc:0<c)(h1:A*b<=B*a)(h2:B*c<=C*b)(h:A*b<B*a\/B*c<C*b):A*c<C*a:=by
 have p1:A*b*c=(A*c)*b:=by grind
 have p2:B*a*c=B*c*a:=by grind
 have p3:C*b*a=(C*a)*b:=by grind
 have e1:A*b*c<=B*a*c:=ė h1 (by exact ñ ‹_›);have e2:B*c*a<=C*b*a:=ė h2 (by exact ñ ‹_›);have e3:(A*c)*b<(C*a)*b:=by
  rcases h with h|h
  .have e4:A*b*c<B*a*c:=Int.mul_lt_mul_of_pos_right h hc
   lia
  .have e4:B*c*a<C*b*a:=Int.mul_lt_mul_of_pos_right h ha
   lia
 simp_all
def BestC.better(h:BestC G l f j (some b))(hj:l j<0)(ha:G j*-l b<G b*-l j\/(G j*-l b=G b*-l j/\f j<f b)):BestC G l f (j+1) (some j):=by
 let⟨h1,h2,h3⟩:=h;refine⟨by exact ê _,hj,λi hi hn=>?_⟩;by_cases e:i=j
 .grind
 .have q:=h3 i ∅ hn
  have L1:G j*-l b<=G b*-l j:=by rcases ha with z|z<;>lia
  have L2:G b*-l i<=G i*-l b:=by rcases q with z|z<;>lia
  by_cases s:G j*-l b<G b*-l j\/G b*-l i<G i*-l b
  .exact .inl (RY ∅ ∅ ∅ L1 L2 s)
  .have s1:G j*-l b=G b*-l j:=by lia
   have s2:G b*-l i=G i*-l b:=by lia
   have le:=CY ∅ ∅ ∅ L1 L2;have ge:=CY (A:=G i) (B:=G b) (C:=G j) (a:=-l i) (b:=-l b) (c:=-l j) ∅ ∅ ∅ ∅ ∅;refine .inr ⟨by omega,?_⟩
   grind
end
def ch_of(hp:p<P.k)(neg:T.L p P.n<0)(first:∀r,r<P.k->T.L r P.n<0->T.h p<=T.h r)(hb:BestC (T.L P.k) (T.L p) T.f P.n (some d)):Ch P T p d:=⟨hp,neg,first,hb.1,hb.2.1,hb.2.2⟩
end Sx
namespace Sx
def AA{X:Int}(hX:0<=X):∀{n:Nat}{f:Nat->Int},(∀i,i<n->(f i).natAbs<=X.natAbs)->(sumN n f).natAbs<=n*X.natAbs
 |0,_,_=>by simp[sumN]
 |n+1,f,h=>by
  rw[sumN];have h1:=AA hX (n:=n) (f:=f) λi hi=>h i (by exact Nat.lt_succ_of_lt ‹_›);have h2:=h n (by exact ê _);have h3:=Int.natAbs_add_le (sumN n f) (f n);rw[Nat.add_mul];lia
def aC3(i:Nat):(ċ i).natAbs=1:=by
 unfold ċ;split<;>rfl
def fac:Nat->Nat
 |0=>1
 |n+1=>(n+1)*fac n
def FV :∀{n:Nat}{M:Nat->j5},(∀r c,r<n->c<n->(M r c).natAbs<=B)->(dL n M).natAbs<=fac n*B^n
 |0,M,_=>by simp[dL,fac]
 |n+1,M,h=>by
  rw[dL];have key:∀i,i<n+1->(ċ i*M i 0*dL n (fH M i)).natAbs<=((B*(fac n*B^n):Nat):Int).natAbs:=λi hi=>by
   have ih:=FV (B:=B) (n:=n) (M:=fH M i) λr c hr hc=>by
    unfold fH;refine h _ _ ?_ (by exact Nat.succ_lt_succ ‹_›);unfold skip;split<;>lia
   rw[ą,ą,Int.natAbs_natCast];have h1:(ċ i).natAbs=1:=aC3 i;rw[h1,Nat.one_mul];exact Nat.mul_le_mul (h i 0 hi (by exact ù _)) ih
  have:=AA (X:=((B*(fac n*B^n):Nat):Int)) ∅ key;rw[Int.natAbs_natCast]at this;refine Ø this (õ ?_);rw[fac,Nat.pow_succ]
  grind
theorem Inv.small(I:Inv P σ T)(ha:∀u x,u<=P.N->x<P.n->(P.a u x).natAbs<=A)(hc:∀u,u<=P.N->(P.c u).natAbs<=C):
  T.s.natAbs<=fac P.n*A^P.n/\(∀r j,r<=P.k->j<P.n->(T.L r j).natAbs<=fac P.n*A^P.n)/\∀r,r<=P.k->(T.L r P.n).natAbs<=(P.n+1)*(fac P.n*A^P.n*C):=by
 have sg:σ.natAbs=1:=by
  have:=congrArg Int.natAbs I.sg;rw[ą]at this;have h1:(1:Int).natAbs=1:=rfl;rw[h1]at this;exact Nat.eq_one_of_mul_eq_one_left this
 have hN:∀r,r<=P.k->T.h r<=P.N:=λr hr=>by
  by_cases e:r=P.k
  .rw[e,I.hk];exact È _
  .exact É (I.hN r (by exact Nat.lt_of_le_of_ne ‹_› ‹_›))
 have hs:T.s.natAbs<=fac P.n*A^P.n:=by
  rw[I.sd,ą,sg,Nat.one_mul];exact FV λr c hr hcn=>ha _ _ (É (I.fN r hr)) hcn
 have hl:∀r j,r<=P.k->j<P.n->(T.L r j).natAbs<=fac P.n*A^P.n:=λr j hr hj=>by
  rw[I.ld r hr j hj,ą,Int.natAbs_neg,sg,Nat.one_mul];refine FV λq c hq hcn=>?_;by_cases e:q=j
  .subst e;rw[aP];exact ha _ _ (hN r hr) hcn
  .rw[aH e];exact ha _ _ (É (I.fN q hq)) hcn
 refine⟨hs,hl,λr hr=>?_⟩;rw[I.lc r hr];have h1:(T.s*P.c (T.h r)).natAbs<=fac P.n*A^P.n*C:=by
  rw[ą];exact Nat.mul_le_mul hs (hc _ (hN r hr))
 have h2:=AA (X:=((fac P.n*A^P.n*C:Nat):Int)) ∅ (n:=P.n) (f:=λj=>T.L r j*P.c (T.f j)) λj hj=>by
  rw[ą,Int.natAbs_natCast];exact Nat.mul_le_mul (hl r j hr hj) (hc _ (É (I.fN j hj)))
 rw[Int.natAbs_natCast]at h2;have h3:=Int.natAbs_add_le (T.s*P.c (T.h r)) (sumN P.n λj=>T.L r j*P.c (T.f j));rw[Nat.add_mul];lia
end Sx
namespace L2
open PySem PySem.Spec
def rK(h:∀(K M L:ZO)(S:D->ZO),(∀δ,I δ->K δ)->(∀d δ,R d δ->S d δ)->bK u δ K M L S):bK u δ I N C R:=h I N C R (λ_=>id) λ_ _=>id
def fG{d:D}(h:aW f δ λa δ1=>a=d/\δ1=δ2):f δ=.ok d δ2:=by
 let⟨a,δ1,e,rfl,rfl⟩:=h.ex;exact e
end L2
namespace Toy
open PySem L2
def xC(a b:Nat):Nat.gcd b (a % b)=Nat.gcd a b:=by
 rw[Nat.gcd_comm b,<- Nat.gcd_rec,Nat.gcd_comm]
def O2{a b:Nat}(h:0<b):wE (.int a) (.int b)=some (.int ((a % b:Nat):Int)):=by
 rw[HC ∅];rfl
def O3:∀(n a b:Nat)(o:ZL),b<=n->∃o',eS (dB (fC AZ (aK 1) (dC (.int 0)))) (bO (cE 2 (fC wE (aK 0) (aK 1))) (bO (cE 0 (aK 1)) (cE 1 (aK 2)))) [some (.int a),some (.int b),o]=.ok .next [some (.int (Nat.gcd a b:Nat)),some (.int 0),o']
 |n,a,0,o,_=>⟨o,by
  rw[dH];have:dB (fC AZ (aK 1) (dC (.int 0))) [some (.int a),some (.int (0:Nat)),o]=.ok false [some (.int a),some (.int (0:Nat)),o]:=sJ (i5 (cM rfl) i6 rfl);rw[this,Nat.gcd_zero_right];rfl⟩
 |0,a,b+1,o,h=>absurd h (by exact absurd ‹_› (Nat.not_lt_zero _))
 |n+1,a,b+1,o,h=>by
  let⟨o',ih⟩:=O3 n (b+1) (a % (b+1)) (some (.int ((a % (b+1):Nat):Int))) (by have:=Nat.mod_lt a (show 0<b+1 by exact ù _);lia);refine⟨o',?_⟩;rw[dH];have c:dB (fC AZ (aK 1) (dC (.int 0))) [some (.int a),some (.int (b+1:Nat)),o]=.ok true [some (.int a),some (.int (b+1:Nat)),o]:=by
   refine sJ (i5 (cM rfl) i6 ?_);rw[NG];have:¬((b+1:Nat):Int)=0:=by lia
   simp;assumption
  rw[c];simp![aX,if_true];have e:bO (cE 2 (fC wE (aK 0) (aK 1))) (bO (cE 0 (aK 1)) (cE 1 (aK 2))) [some (.int a),some (.int (b+1:Nat)),o]=.ok .next [some (.int (b+1:Nat)),some (.int ((a % (b+1):Nat):Int)),some (.int ((a % (b+1):Nat):Int))]:=by
   simp![bO,cE,fC,aK,List.getElem?_cons_zero,List.getElem?_cons_succ,aX,O2 (show 0<b+1 by exact ù _)];rfl
  rw[e];simp![aX];rw[ih,xC]
def aI2(hb:body=bO (eS (dB (fC AZ (aK 1) (dC (.int 0)))) (bO (cE 2 (fC wE (aK 0) (aK 1))) (bO (cE 0 (aK 1)) (cE 1 (aK 2))))) (kC (aK 0)))(a b:Nat):aR 3 [] 0 body [.int a,.int b]=.ok (.int (Nat.gcd a b:Nat)) []:=by
 subst hb;let⟨o,h⟩:=O3 b a b none (È _);sleep 2;refine LF (bK.of (fl:=.next) h ?_);dsimp![NK];exact UT (aW.of (cM rfl) ⟨rfl,rfl⟩)
def aMB(a b:Nat):jE [.int a,.int b]=.ok (.int (Nat.gcd a b:Nat)) []:=aI2 rfl a b
def fr(p:Int×Int):D:=.tuple [.int p.1,.int p.2]
abbrev mZ(ps:ZF):D:=.list (ps.map fr)
def dv(t b:Int):Int:=if b<0 then -(Nat.gcd t.natAbs b.natAbs:Int)else (Nat.gcd t.natAbs b.natAbs:Int)
def v6(hb:b≠0)(hl:(dv t b).natAbs.log2<9000):gN [.int t,.int b]=.ok (.tuple [.int (t.fdiv (dv t b)),.int (b.fdiv (dv t b))]) []:=by
 have hg:0<Nat.gcd t.natAbs b.natAbs:=Nat.gcd_pos_of_pos_right _ ∅;have h0:dv t b≠0:=by unfold dv;split<;>lia
 have f1:∀i:Int,xP (.int i) (.int (dv t b))=some (.int (i.fdiv (dv t b))):=λi=>Â ⟨h0,hl⟩;sleep 2;rfl';unfold qW;dsimp? [hb,aMB,decide_eq_true_eq];by_cases hn:b<0
 .have e:dv t b=-(Nat.gcd t.natAbs b.natAbs:Int):=by unfold dv;rw[Â hn]
  rw[e]at f1⊢;dsimp? [hn,f1]
 .have e:dv t b=(Nat.gcd t.natAbs b.natAbs:Int):=by unfold dv;rw[Ä hn]
  rw[e]at f1⊢;dsimp? [hn,f1]
def aC4(hb:b≠0)(ft:bZ n t)(fb:bZ n b)(hn:n<=9000):∃x y,gN [.int t,.int b]=.ok (fr (x,y)) []/\0<y/\x*b=t*y/\Int.gcd x y=1/\bZ n x/\bZ n y:=by
 have hd:dv t b=(if b<0 then -(Int.gcd t b:Int)else (Int.gcd t b:Int)):=rfl;have gl:(Int.gcd t b:Int).natAbs<=b.natAbs:=by
  have:=Int.gcd_le_natAbs_right (a:=t) hb;assumption
 have hl:(dv t b).natAbs.log2<9000:=by
  have fg:bZ n (Int.gcd t b:Int):=fb.le gl;rw[hd];split
  .exact fg.neg.log2 hn
  .exact fg.log2 hn
 have fe:=v6 hb hl;refine⟨KH t b t,KH t b b,?_,M1 hb,BN t b,aAY hb,?_,?_⟩
 .rw[fe,hd,kR (Int.gcd_dvd_left t b),kR (Int.gcd_dvd_right t b)]
  rfl
 .rw[<- kR (Int.gcd_dvd_left t b)];exact ft.fdiv
 .rw[<- kR (Int.gcd_dvd_right t b)];exact fb.fdiv
end Toy
namespace L2
open PySem PySem.Spec
def AB{α:Type}{enc g:α->D}{e:M D}{δ:DS}:∀{xs:List α}{acc:ZI}{o:ZL},(∀x∈xs,e (some (enc x)::δ)=.ok (g x) (some (enc x)::δ))->acc.length+xs.length<=sizeLine->∃o',bU (eB 0) dZ e (xs.map enc) acc (o::δ)=.ok (acc++xs.map g) (o'::δ)
 |[],acc,o,_,_=>⟨o,by simp[bU]⟩
 |x::xs,acc,o,h,hl=>by
  have hd:=h x Õ;rw[Ý]at hl;let⟨o',ih⟩:=AB (xs:=xs) (acc:=acc++[g x]) (o:=some (enc x)) (λy hy=>h y (Ó _ hy)) (by simp;lia);refine⟨o',?_⟩;rw[Ð];unfold bU;have e1:eB 0 (enc x) (o::δ)=some (some (enc x)::δ):=by simp[eB]
  rw[e1];show Res.bind (dZ (some (enc x)::δ)) _=_;simp![dZ,Res.bind,if_true,hd];rw[Â ∅,ih];simp
def bR{α:Type}{enc g:α->D}{xs:List α}{f:M (ZI)}{e:M D}{δ:DS}(hf:f δ=.ok (xs.map enc) δ)(hl:xs.length<=1000)(he:∀x∈xs,aW e (some (enc x)::δ) λa δ1=>a=g x/\δ1=some (enc x)::δ):dY 1 (eB 0) f dZ e δ=.ok (.list (xs.map g)) δ:=by
 unfold dY;rw[hf];let⟨o',h⟩:=AB (acc:=[]) (o:=none) (λx hx=>dJ (he x hx)) (Ø (by simpa using hl) (show 1000<=sizeLine by decide));simp![Res.bind];rw[show List.replicate 1 (none:ZL)++δ=none::δ from rfl,h];simp
def CZ{α:Type}{enc A B g:α->D}{xs:List α}{f:M (ZI)}{e:M D}{δ:DS}(hE:∀x,enc x=.tuple [A x,B x])(hf:f δ=.ok (xs.map enc) δ)(hl:xs.length<=1000)(he:∀x∈xs,aW e (some (A x)::some (B x)::δ) λv δ1=>v=g x/\δ1=some (A x)::some (B x)::δ):dY 2 (uD [0,1]) f dZ e δ=.ok (.list (xs.map g)) δ:=by
 have main:∀(xs:List α)(acc:ZI)(o1 o2:ZL),(∀x∈xs,e (some (A x)::some (B x)::δ)=.ok (g x) (some (A x)::some (B x)::δ))->acc.length+xs.length<=sizeLine->∃o1' o2',bU (uD [0,1]) dZ e (xs.map enc) acc (o1::o2::δ)=.ok (acc++xs.map g) (o1'::o2'::δ):=by
  intro xs
  induction xs with
  |nil=>exact λacc o1 o2 _ _=>⟨o1,o2,by simp[bU]⟩
  |cons x xs ih=>
   intro acc o1 o2 h hl;have hd:=h x Õ;rw[Ý]at hl;let⟨o1',o2',ih⟩:=ih (acc++[g x]) (some (A x)) (some (B x)) (λy hy=>h y (Ó _ hy)) (by simp;lia);refine⟨o1',o2',?_⟩;rw[Ð];unfold bU;have e1:uD [0,1] (enc x) (o1::o2::δ)=some (some (A x)::some (B x)::δ):=by rw[hE];simp[uD,eB]
   rw[e1];show Res.bind (dZ (some (A x)::some (B x)::δ)) _=_;simp![dZ,Res.bind,if_true,hd];rw[Â ∅,ih];simp
 unfold dY;rw[hf];let⟨o1,o2,h⟩:=main xs [] none none (λx hx=>dJ (he x hx)) (Ø (by simpa using hl) (show 1000<=sizeLine by decide));simp![Res.bind];rw[show List.replicate 2 (none:ZL)++δ=none::none::δ from rfl,h];simp
def cJ(h:aW f δ λa δ1=>a=.list ds/\δ1=δ):iB f δ=.ok ds δ:=by
 unfold iB;rw[dJ h];rfl
def O4{α:Type}{h:α->Bool}:∀{xs:List α},sI (xs.map λx=>.bool (h x))=some (xs.map h)
 |[]=>rfl
 |x::xs=>by
  show (sI (xs.map λx=>PyData.bool (h x))).map (h x::·)=_;rw[O4];rfl
def YH{α:Type}{enc A B g:α->D}{h:α->Bool}{xs:List α}{f:M (ZI)}{t:M Bool}{e:M D}{δ:DS}(hE:∀x,enc x=.tuple [A x,B x])(hf:f δ=.ok (xs.map enc) δ)(hl:xs.length<=1000)(ht:∀x∈xs,aW t (some (A x)::some (B x)::δ) λb δ1=>b=h x/\δ1=some (A x)::some (B x)::δ)(he:∀x∈xs,aW e (some (A x)::some (B x)::δ) λv δ1=>v=g x/\δ1=some (A x)::some (B x)::δ):dY 2 (uD [0,1]) f t e δ=.ok (.list ((xs.filter h).map g)) δ:=by
 have main:∀(xs:List α)(acc:ZI)(o1 o2:ZL),(∀x∈xs,t (some (A x)::some (B x)::δ)=.ok (h x) (some (A x)::some (B x)::δ))->(∀x∈xs,e (some (A x)::some (B x)::δ)=.ok (g x) (some (A x)::some (B x)::δ))->acc.length+xs.length<=sizeLine->∃o1' o2',bU (uD [0,1]) t e (xs.map enc) acc (o1::o2::δ)=.ok (acc++(xs.filter h).map g) (o1'::o2'::δ):=by
  intro xs
  induction xs with
  |nil=>exact λacc o1 o2 _ _ _=>⟨o1,o2,by simp[bU]⟩
  |cons x xs ih=>
   intro acc o1 o2 ht he hl;have hd:=ht x Õ;have hv:=he x Õ;rw[Ý]at hl;have e1:uD [0,1] (enc x) (o1::o2::δ)=some (some (A x)::some (B x)::δ):=by rw[hE];simp[uD,eB]
   cases hk:h x with
   |true=>
    let⟨o1',o2',ih⟩:=ih (acc++[g x]) (some (A x)) (some (B x)) (λy hy=>ht y (Ó _ hy)) (λy hy=>he y (Ó _ hy)) (by simp;lia);refine⟨o1',o2',?_⟩;rw[Ð];unfold bU;rw[e1];simp![hd,hk,Res.bind,if_true,hv];rw[Â ∅,ih];simp[hk]
   |false=>
    let⟨o1',o2',ih⟩:=ih acc (some (A x)) (some (B x)) (λy hy=>ht y (Ó _ hy)) (λy hy=>he y (Ó _ hy)) 'a';refine⟨o1',o2',?_⟩;rw[Ð];unfold bU;rw[e1];simp![hd,hk,Res.bind,Bool.false_eq_true,if_false];rw[Â ∅,ih];simp[hk]
 unfold dY;rw[hf];let⟨o1,o2,q⟩:=main xs [] none none (λx hx=>by
  let⟨b,δ1,e,rfl,rfl⟩:=(ht x hx).ex;exact e) (λx hx=>dJ (he x hx)) (Ø (by simpa using hl) (show 1000<=sizeLine by decide))
 simp![Res.bind];rw[show List.replicate 2 (none:ZL)++δ=none::none::δ from rfl,q];simp
end L2
namespace Toy
open PySem L2
def ixN_lt'(h:k<n):lN n (k:Int)=some k:=by
 unfold lN;rw[Â ∅,Â ∅,ø]
def eX{j:Nat}{x:α}(h:l[j]?=some x):atI l (j:Int)=some x:=by
 unfold atI;rw[ixN_lt' (Î.mp h).1];exact h
def RZ{l:ZK}{j:Nat}(h:l[j]?=some x):eK (.list (l.map PyData.int)) (.int (j:Int))=some (.int x):=by
 show atI (l.map PyData.int) (j:Int)=_;refine eX ?_;rw[Ñ,h];rfl
def YI{l:ZK}(hl:l.length=n+1)(h:l[n]?=some x):eK (.list (l.map PyData.int)) (.int (-1))=some (.int x):=by
 show atI (l.map PyData.int) (-1)=_;have e:lN (l.map PyData.int).length (-1)=some n:=by
  unfold lN;rw[Æ,Ä ⋯,Â ∅];congr 1;lia
 unfold atI;rw[e];show (l.map PyData.int)[n]?=_;rw[Ñ,h];rfl
def ŷ{l:List (ZK)}{j:Nat}(h:l[j]?=some x):eK (.list (l.map λx=>.list (x.map PyData.int))) (.int (j:Int))=some (.list (x.map PyData.int)):=by
 show atI (l.map λx=>PyData.list (x.map PyData.int)) (j:Int)=_;refine eX ?_;rw[Ñ,h];rfl
def YJ{as bs:ZK}(h1:aW f δ λa δ1=>a=.list (as.map PyData.int)/\δ1=δ)(h2:aW g δ λa δ1=>a=.list (bs.map PyData.int)/\δ1=δ):A6 f g δ=.ok ((as.zip bs).map λp=>.tuple [.int p.1,.int p.2]) δ:=by
 have e1:=dJ h1;have e2:=dJ h2;unfold A6;simp![bD,e1,e2,aX];congr 1;unfold nJ;rw[List.zipWith_map,List.zip_eq_zipWith,List.map_zipWith]
def O5{ds os:ZI}(h:bK body (ds.map some++List.replicate (m0-ds.length) none) (λδ=>fV δ ps=some os) (λ_=>False) (λ_=>False) λ_ _=>False):aR m0 ps 0 body ds=.ok .none (os.map some):=by
 let⟨fl,δ1,e,q⟩:=h.ex;cases fl with
 |next=>unfold aR;rw[e];dsimp only;rw[Â rfl,q]
 |ret r=>sleep 4
 |brk=>sleep 4
 |cont=>sleep 4
section
variable {n d:Nat}{pv:ZK}{a b:Nat->Int}{s:Int}
def AC(ha:Sx.LnR n ln a)(hb:Sx.LnR n pv b)(hd:d<=n)(hs:0<s)(hn:n<=900)(fa:∀j,j<=n->bZ 4000 (a j))(fb:∀j,j<=n->bZ 4000 (b j))(fs:bZ 4000 s):uY [.list (ln.map .int),.list (pv.map .int),.int (d:Int),.int s]=.ok (.list ((Sx.clearL ln pv d s).map .int)) []:=by
 have e1:=RZ (hb.at' d hd);have e2:=RZ (ha.at' d hd);have ga:ln.getD d 0=a d:=ha.getD hd;have gb:pv.getD d 0=b d:=hb.getD hd;sleep 2;rfl';unfold uX;dsimp? [e1,e2];refine aW.of (CZ (xs:=ln.zip pv) (enc:=λp=>.tuple [.int p.1,.int p.2]) (A:=λp=>.int p.1) (B:=λp=>.int p.2) (g:=λp=>.int ((-b d*p.1+a d*p.2)/s)) (λ_=>rfl) (YJ (by dsimp? []) (by dsimp? [])) (by rw[ë,ha.len];lia) λp hp=>?_) ?_
 .obtain⟨j,hj,ej⟩:=List.getElem_of_mem hp
  rw[ë,ha.len,hb.len,Nat.min_self]at hj;have p1:ln[j]?=some p.1:=by
   rw[<- ej,List.getElem_zip,Ê (by rw[ha.len];exact hj)]
  have p2:pv[j]?=some p.2:=by
   rw[<- ej,List.getElem_zip,Ê (by rw[hb.len];exact hj)]
  rw[ha.at' j (by exact Nat.le_of_lt_succ ‹_›)]at p1;rw[hb.at' j (by exact Nat.le_of_lt_succ ‹_›)]at p2;have q1:bZ 4000 p.1:=by rw[<- Option.some.inj p1];exact fa j (by exact Nat.le_of_lt_succ ‹_›)
  have q2:bZ 4000 p.2:=by rw[<- Option.some.inj p2];exact fb j (by exact Nat.le_of_lt_succ ‹_›)
  dsimp? [(fb d hd).neg.mulOk q1,(fa d hd).mulOk q2,aBW hs (fs.mono ⋯)]
 .have el:((ln.zip pv).map λp=>PyData.int ((-b d*p.1+a d*p.2)/s)).length=n+1:=by rw[Æ,ë,ha.len,hb.len,Nat.min_self]
  have ei:=ixN_lt' (show d<((ln.zip pv).map λp=>PyData.int ((-b d*p.1+a d*p.2)/s)).length by rw[el];exact Nat.lt_succ_of_le ‹_›);dsimp? [ei];unfold Sx.clearL;rw[ga,gb,List.map_set,List.zip_eq_zipWith,List.map_zipWith,List.map_zipWith]
def R8(hb:Sx.LnR n pv b)(hd:d<=n)(hn:n<=900):IY [.list (pv.map .int),.int (d:Int),.int s]=.ok (.list ((Sx.turnL pv d s).map .int)) []:=by
 sleep 2;rfl';unfold yY;dsimp? [];refine aW.of (bR (xs:=pv) (enc:=PyData.int) (g:=λx=>.int (-x)) (cJ (by dsimp? [])) (by rw[hb.len];lia) λp hp=>by dsimp? []) ?_;have ei:=ixN_lt' (show d<(pv.map λx=>PyData.int (-x)).length by rw[Æ,hb.len];exact Nat.lt_succ_of_le ‹_›);dsimp? [ei];unfold Sx.turnL;rw[List.map_set,î];rfl
end
def tb(s f h l g:D):D:=.dict [(.none,.str "Table"),(.str "scale",s),(.str "free",f),(.str "held",h),(.str "lines",l),(.str "goal",g)]
section
def AD:gM "Table" "scale" (tb s f h l g)=some s:=by with_unfolding_all rfl
def pK:gM "Table" "free" (tb s f h l g)=some f:=by with_unfolding_all rfl
def wU:gM "Table" "held" (tb s f h l g)=some h:=by with_unfolding_all rfl
def tX:gM "Table" "lines" (tb s f h l g)=some l:=by with_unfolding_all rfl
def O6:gM "Table" "goal" (tb s f h l g)=some g:=by with_unfolding_all rfl
def JQ:CF 20 "Table" "scale" (tb s f h l g)=some s:=by with_unfolding_all rfl
def JR:CF 20 "Table" "lines" (tb s f h l g)=some l:=by with_unfolding_all rfl
def aC5:CF 20 "Table" "goal" (tb s f h l g)=some g:=by with_unfolding_all rfl
def YK:nM 20 0 "Table" "scale" y (tb s f h l g)=some (tb y f h l g):=by with_unfolding_all rfl
def YL:nM 20 0 "Table" "lines" y (tb s f h l g)=some (tb s f h y g):=by with_unfolding_all rfl
def aC6:nM 20 0 "Table" "goal" y (tb s f h l g)=some (tb s f h l y):=by with_unfolding_all rfl
def aC7(e:lN hs.length i=some j):yL 20 "Table" "held" (.int i) v (tb s f (.list hs) l g)=some (tb s f (.list (hs.set j v)) l g):=by
 have:yL 20 "Table" "held" (.int i) v (tb s f (.list hs) l g)=(match lN hs.length i with
  |some j=>some (tb s f (.list (hs.set j v)) l g)
  |none=>none):=by with_unfolding_all rfl
 rw[this,e]
def aC8(e:lN hs.length i=some j):yL 20 "Table" "free" (.int i) v (tb s (.list hs) h l g)=some (tb s (.list (hs.set j v)) h l g):=by
 have:yL 20 "Table" "free" (.int i) v (tb s (.list hs) h l g)=(match lN hs.length i with
  |some j=>some (tb s (.list (hs.set j v)) h l g)
  |none=>none):=by with_unfolding_all rfl
 rw[this,e]
def aC9:yM "Table" "swap" (tb s f h l g):=⟨rfl,by with_unfolding_all rfl⟩
end
abbrev R9(l:List (ZK)):D:=.list (l.map λx=>.list (x.map PyData.int))
def cG(L:Sx.LT):D:=tb (.int L.s) (.list (L.free.map .int)) (.list (L.held.map .int)) (R9 L.lines) (.list (L.goal.map .int))
structure Ok(P:Sx.Pr)(L:Sx.LT)(T:Sx.Tab):Prop where
 rp:Sx.Rp P L T
 pos:0<T.s
 fs:bZ 4000 T.s
 fl:∀r j,r<=P.k->j<=P.n->bZ 4000 (T.L r j)
 n:P.n<=900
 k:P.k<=900
def aDA(K:Ok P L T)(hp:p<P.k)(hd:d<P.n):mB [cG L,.int (p:Int),.int (d:Int)]=.ok .none [some (cG (Sx.swapL L p d))]:=by
 have R:=K.rp;let⟨pv,e1,e2⟩:=R.l p hp;have eP:L.lines.getD p []=pv:=by rw[Ë,e1];rfl
 have eH:L.held.getD p 0=T.h p:=by rw[Ë,R.h p hp];rfl
 have eF:L.free.getD d 0=T.f d:=by rw[Ë,R.f d hd];rfl
 have hs:0<L.s:=by rw[R.s];exact K.pos
 have fs:bZ 4000 L.s:=by rw[R.s];exact K.fs
 have i1:=ŷ e1;have i2:=RZ (e2.at' d 'a');have i3:=RZ (R.h p hp);have i4:=RZ (R.f d hd);have fp:∀j,j<=P.n->bZ 4000 (T.L p j):=λj hj=>K.fl p j 'a' hj;have cg:=AC (d:=d) (s:=L.s) R.g e2 'a' hs K.n (λj hj=>K.fl P.k j (È _) hj) fp fs;have ct:=R8 (s:=L.s) e2 (d:=d) 'a' K.n;refine O5 (os:=[cG (Sx.swapL L p d)]) ?_;rfl';unfold l9 cG;dsimp? [EV,JR,i1];refine aW.of (bR (xs:=L.lines) (enc:=λx=>.list (x.map PyData.int)) (g:=λln=>.list ((Sx.clearL ln pv d L.s).map PyData.int)) (cJ (by dsimp? [EV,JR])) (by rw[R.ll];have:=K.k;lia) λln hln=>?_) ?_
 .obtain⟨r,hr,er⟩:=List.getElem_of_mem hln
  rw[R.ll]at hr;let⟨ln',q1,q2⟩:=R.l r hr;have:ln'=ln:=by
   rw[Ê (by rw[R.ll];exact hr),er]at q1;exact(Option.some.inj q1).symm
  subst this;have cl:=AC (d:=d) (s:=L.s) q2 e2 'a' hs K.n (λj hj=>K.fl r j 'a' hj) fp fs;dsimp? [EV,JQ,cl]
 .have el:(L.lines.map λln=>PyData.list ((Sx.clearL ln pv d L.s).map PyData.int)).length=P.k:=by rw[Æ,R.ll]
  have ei:=ixN_lt' (show p<(L.lines.map λln=>PyData.list ((Sx.clearL ln pv d L.s).map PyData.int)).length by rw[el];assumption);have ih:=ixN_lt' (show p<(L.held.map PyData.int).length by rw[Æ,R.hl];assumption);have jf:=ixN_lt' (show d<(L.free.map PyData.int).length by rw[Æ,R.fl];assumption);dsimp? [EV,JQ,ct,ei,aC5,cg,yO,aC6,YL,i2,YK,yP,WZ,wU,i3,pK,i4,WW,aC7 ih,aC8 jf];unfold Sx.swapL;rw[eP,eH,eF,e2.getD (by exact É ‹_›:d<=P.n)];simp![R9,List.map_set,î,Function.comp_def]
def rM :∀(l:List (α×Int))(o:Option (α×Int)),match dD o l with
  |none=>o=none/\l=[]
  |some m=>(o=some m\/m∈l)/\(∀x∈l,m.2<=x.2)/\∀x,o=some x->m.2<=x.2
 |[],o=>by
  rw[pA];cases o with
  |none=>exact⟨rfl,rfl⟩
  |some m=>exact⟨.inl rfl,λx hx=>(by cases hx),λx e=>by cases e;exact Int.le_refl _⟩
 |y::ys,none=>by
  have ih:=rM ys (some y);rw[show dD none (y::ys)=dD (some y) ys from rfl];cases e:dD (some y) ys with
  |none=>rw[e]at ih;exact absurd ih.1 'f'
  |some m=>
   rw[e]at ih;let⟨h1,h2,h3⟩:=ih;refine⟨.inr ?_,λx hx=>?_,λx e=>by cases e⟩
   .rcases h1 with h|h
    .cases h;exact Õ
    .exact Ó _ h
   .rcases Ï.mp hx with rfl|hx
    .exact h3 _ rfl
    .exact h2 x hx
 |y::ys,some z=>by
  have ih:=rM ys (some (if y.2<z.2 then y else z));rw[show dD (some z) (y::ys)=dD (some (if y.2<z.2 then y else z)) ys from rfl];cases e:dD (some (if y.2<z.2 then y else z)) ys with
  |none=>rw[e]at ih;exact absurd ih.1 'f'
  |some m=>
   rw[e]at ih;let⟨h1,h2,h3⟩:=ih;have h4:=h3 _ rfl;refine⟨?_,λx hx=>?_,λx e=>?_⟩
   .rcases h1 with h|h
    .have h:=Option.some.inj h
     split at h
     .subst h;exact .inr Õ
     .subst h;exact .inl rfl
    .exact .inr (Ó _ h)
   .rcases Ï.mp hx with rfl|hx
    .split at h4<;>lia
    .exact h2 x hx
   .cases e
    split at h4<;>lia
def AE{α:Type}{u k:α->Int}:∀{xs:List α},(∀x∈xs,atI hs (u x)=some (k x))->iC hs (xs.map u)=some (xs.map k)
 |[],_=>rfl
 |x::xs,h=>by
  rw[Ð,Ð];unfold iC;rw[h x Õ,AE λy hy=>h y (Ó _ hy)]
def O7{α:Type}{enc:α->D}{xs:List α}(h:aW f δ λa δ1=>a=.list (xs.map enc)/\δ1=δ):xY f δ=.ok ((xs.zipIdx.map λp=>(p.2,p.1)).map λp:Nat×α=>.tuple [.int (p.1:Int),enc p.2]) δ:=by
 have e:=dJ h;unfold xY;simp![bD,e,aX];congr 1;unfold fR;rw[List.mapIdx_eq_zipIdx_map,î,List.zipIdx_map,î];rfl
def JS{α:Type}{xs:List α}{p:Nat×α}:p∈xs.zipIdx.map (λp=>(p.2,p.1))↔xs[p.1]?=some p.2:=by
 rw[Þ];constructor
 .rintro⟨q,hq,rfl⟩
  exact List.mem_zipIdx_iff_getElem?.mp hq
 .intro h
  exact⟨(p.2,p.1),List.mem_zipIdx_iff_getElem?.mpr h,rfl⟩
def AF(K:Ok P L T):
  ((∀r,r<P.k->0<=T.L r P.n)/\cH [cG L]=.ok .none [])\/∃p,p<P.k/\T.L p P.n<0/\(∀r,r<P.k->T.L r P.n<0->T.h p<=T.h r)/\cH [cG L]=.ok (.int (p:Int)) []:=by
 have R:=K.rp;let xs:List (Nat×ZK):=L.lines.zipIdx.map λp=>(p.2,p.1);let ys:=xs.filter λp=>decide (p.2.getD P.n 0<0);have hx:∀p∈xs,p.1<P.k/\p.2.length=P.n+1/\p.2[P.n]?=some (T.L p.1 P.n)/\p.2.getD P.n 0=T.L p.1 P.n:=λp hp=>by
  have e:=JS.mp hp;have hk:p.1<P.k:=by have:=(Î.mp e).1;rw[R.ll]at this;exact this
  let⟨ln,q1,q2⟩:=R.l p.1 hk;rw[e]at q1;have:ln=p.2:=(Option.some.inj q1).symm;subst this;exact⟨hk,q2.len,q2.at' _ (È _),q2.getD (È _)⟩
 have hall:∀r,r<P.k->∃ln,(r,ln)∈xs/\ln.getD P.n 0=T.L r P.n:=λr hr=>by
  let⟨ln,q1,q2⟩:=R.l r hr;exact⟨ln,JS.mpr q1,q2.getD (È _)⟩
 have ek:iC L.held (ys.map λp=>(p.1:Int))=some (ys.map λp=>(T.h p.1:Int)):=AE λp hp=>by
  have:=hx p (List.mem_filter.mp hp).1;exact eX (R.h p.1 this.1)
 have em:ID "Table" "held" (.list (ys.map λp=>PyData.int (p.1:Int))) (cG L)=some ((dD none (ys.map λp=>((p.1:Int),(T.h p.1:Int)))).elim .none λm=>.int m.1):=by
  unfold ID cG;dsimp only;rw[wU];dsimp only;have e1:(ys.map λp=>PyData.int (p.1:Int))=(ys.map λp=>(p.1:Int)).map PyData.int:=by rw[î];rfl
  rw[i7,e1,i7];dsimp only;rw[ek];dsimp only;rw[List.zip_map']
 have main:∀r:D,(EE r).isSome=true->(dD none (ys.map λp=>((p.1:Int),(T.h p.1:Int)))).elim PyData.none (λm=>.int m.1)=r->cH [cG L]=.ok r []:=λr hr er=>by
  refine aQ (os:=[]) ?_;rfl';unfold kJ;dsimp? [];refine aW.of (YH (xs:=xs) (enc:=λp=>.tuple [.int (p.1:Int),.list (p.2.map PyData.int)]) (A:=λp=>.int (p.1:Int)) (B:=λp=>.list (p.2.map PyData.int)) (g:=λp=>.int (p.1:Int)) (h:=λp=>decide (p.2.getD P.n 0<0)) (λ_=>rfl) (O7 (enc:=λx=>.list (x.map PyData.int)) (xs:=L.lines) (by unfold cG;dsimp? [tX])) (by
   show xs.length<=1000;have:=K.k;simp![xs,Æ,List.length_zipIdx,R.ll];lia) (λp hp=>by
   let⟨h1,h2,h3,h4⟩:=hx p hp;dsimp? [YI h2 h3,h4]) (λp hp=>by dsimp? [])) ?_
  dsimp? [WY,yP];rw[show (List.map (λp:Nat×ZK=>PyData.int (p.1:Int)) (xs.filter λp=>decide (p.2.getD P.n 0<0)))=ys.map λp=>PyData.int (p.1:Int)from rfl,em,er];dsimp? [];exact⟨hr,rfl,rfl⟩
 have sp:=rM (ys.map λp=>((p.1:Int),(T.h p.1:Int))) none;cases eb:dD none (ys.map λp=>((p.1:Int),(T.h p.1:Int)))with
 |none=>
  rw[eb]at sp;refine .inl ⟨λr hr=>?_,main .none rfl (by rw[eb];rfl)⟩;let⟨ln,h1,h2⟩:=hall r hr;by_cases c:T.L r P.n<0
  .exfalso
   have hm:(r,ln)∈ys:=List.mem_filter.mpr ⟨h1,decide_eq_true (by show ln.getD P.n 0<0;lia)⟩;have:ys=[]:=by simpa using sp.2
   rw[this]at hm;cases hm
  .exact Int.not_lt.mp ‹_›
 |some m=>
  rw[eb]at sp;let⟨h1,h2,_⟩:=sp;rcases h1 with h1|h1
  .cases h1
  .obtain⟨p,hp,rfl⟩:=Þ.mp h1
   let⟨m1,m2⟩:=List.mem_filter.mp hp;let⟨a1,_,_,a4⟩:=hx p m1;refine .inr ⟨p.1,a1,?_,λr hr hn=>?_,main (.int (p.1:Int)) rfl (by rw[eb];rfl)⟩
   .have:=of_decide_eq_true m2
    lia
   .obtain⟨ln,b1,b2⟩:=hall r hr
    have hm:(r,ln)∈ys:=List.mem_filter.mpr ⟨b1,decide_eq_true (by show ln.getD P.n 0<0;lia)⟩;have:=h2 _ (List.mem_map_of_mem (f:=λp:Nat×ZK=>((p.1:Int),(T.h p.1:Int))) hm);dsimp only at this;lia
def YM(K:Ok P L T){pv:ZK}(hp:p<P.k)(e2:Sx.LnR P.n pv (T.L p))(hc:c<P.n)(hb:b<P.n):
  tJ [cG L,.list (pv.map .int),.int (c:Int),.int (b:Int)]=.ok (.bool (decide (T.L P.k c*-T.L p b<T.L P.k b*-T.L p c\/(T.L P.k c*-T.L p b=T.L P.k b*-T.L p c/\T.f c<T.f b)))) []:=by
 have R:=K.rp;have g1:=RZ (R.g.at' c 'a');have g2:=RZ (R.g.at' b 'a');have l1:=RZ (e2.at' c 'a');have l2:=RZ (e2.at' b 'a');have f1:=RZ (R.f c hc);have f2:=RZ (R.f b hb);have m1:IntMulOk (T.L P.k c) (-T.L p b):=(K.fl P.k c (È _) 'a').mulOk (K.fl p b 'a' 'a').neg;have m2:IntMulOk (T.L P.k b) (-T.L p c):=(K.fl P.k b (È _) 'a').mulOk (K.fl p c 'a' 'a').neg;sleep 2;rfl';unfold l7 cG;dsimp? [O6,g1,g2,l1,l2,m1,m2];generalize T.L P.k c*-T.L p b=x;generalize T.L P.k b*-T.L p c=y;have ef:((T.f c:Int)<(T.f b:Int))↔T.f c<T.f b:=by lia
 by_cases h1:x<y
 .dsimp? [h1,decide_true]
  simp
 .by_cases h2:x=y
  .subst h2
   dsimp? [h1,decide_false,decide_true,pK,f1,f2];simp![ef];simp
  .dsimp? [h1,h2,decide_false]
   simp
def ϰ:UG .none .none=some 'l':=rfl
def Ÿ:UG (.int i) .none=some (.bool false):=rfl
def aMD:xT .none .none=some (.bool false):=rfl
def aME:xT (.int i) .none=some 'l':=rfl
def oD:Option Nat->D
 |none=>.none
 |some d=>.int (d:Int)
def SA(K:Ok P L T){pv:ZK}(hp:p<P.k)(e2:Sx.LnR P.n pv (T.L p)):∃o,Sx.BestC (T.L P.k) (T.L p) T.f P.n o/\l8 [cG L,.list (pv.map .int)]=.ok (oD o) []:=by
 have R:=K.rp;have main:=iF (m0:=4) (rm:=0) (body:=iP) (ds:=[cG L,.list (pv.map .int)]) (P:=λr=>∃o,Sx.BestC (T.L P.k) (T.L p) T.f P.n o/\r=oD o) (by
  rfl';unfold iP;dsimp? [];refine uJ (j:=P.n) (δ1:=_) (λk δ=>∃o o3,Sx.BestC (T.L P.k) (T.L p) T.f k o/\δ=[some (cG L),some (.list (pv.map .int)),some (oD o),o3]) (fG (by unfold cG;dsimp? [pK,Æ,R.fl];rfl)) (by have:=K.n;lia) ⟨none,none,Sx.BestC.zero,rfl⟩ ?_ ?_
  .rintro k δ hk ⟨o,o3,hB,rfl⟩
   refine⟨_,rfl,?_⟩;have l1:=RZ (e2.at' k 'a');by_cases hn:T.L p k<0
   .cases o with
    |none=>
     dsimp? [l1,hn,decide_true,oD,ϰ];exact⟨some k,_,hB.first hn,rfl⟩
    |some b=>
     have ha:=YM K hp e2 (c:=k) (b:=b) hk (by have:=hB.1;exact Nat.lt_trans ‹_› ‹_›);by_cases hh:T.L P.k k*-T.L p b<T.L P.k b*-T.L p k\/(T.L P.k k*-T.L p b=T.L P.k b*-T.L p k/\T.f k<T.f b)
     .rw[decide_eq_true hh]at ha
      dsimp? [l1,hn,decide_true,oD,Ÿ,ha];exact⟨some k,_,hB.better hn hh,rfl⟩
     .rw[decide_eq_false hh]at ha
      dsimp? [l1,hn,decide_true,oD,Ÿ,ha];exact⟨some b,_,hB.worse hh,rfl⟩
   .dsimp? [l1,hn,decide_false]
    exact⟨o,_,hB.skip hn,rfl⟩
  .rintro δ ⟨o,o3,hB,rfl⟩
   dsimp? [];exact⟨o,hB,rfl⟩)
 let⟨r,e,o,hB,rfl⟩:=main;exact⟨o,hB,e⟩
def dI(Á:ZF):D:=.dict (Á.map λp=>(.int p.1,.int p.2))
def gI(Á:ZF)(u:Int):(Option Int):=(Á.find? λp=>p.1 == u).map (·.2)
section
def O8(h:∀p∈Á,p.1≠u)(hl:Á.length<sizeLine):yN (.int u) (.int w) (dI Á)=some (dI (Á++[(u,w)])):=by
 unfold yN dI;show (if (Á.map λp=>(PyData.int p.1,PyData.int p.2)).length<sizeLine then some (PyData.dict (LP (.inl u) (.int w) (Á.map λp=>(PyData.int p.1,PyData.int p.2))))else none)=_;rw[Â (by rw[Æ];exact hl)];unfold LP;have e:((Á.map λp=>(PyData.int p.1,PyData.int p.2)).any λkv=>decide (dO kv.1=some (.inl u)))=false:=by
  rw[List.any_eq_false];intro x hx;let⟨p,hp,rfl⟩:=Þ.mp hx;have:=h p hp;simp![dO,Option.some.injEq,Sum.inl.injEq,decide_eq_true_eq];exact this
 rw[Ä (by rw[e];simp)];simp[GH]
def YN:OP (dI Á) (.int u) z=some (((gI Á u).map PyData.int).getD z):=by
 unfold OP dI;show some ((jV (.inl u) (Á.map λp=>(PyData.int p.1,PyData.int p.2))).getD z)=_;congr 2;unfold jV gI;rw[List.find?_map,Option.map_map,Option.map_map];have e:((λkv:D×D=>decide (dO kv.1=some (Sum.inl u)))∘λp:Int×Int=>(PyData.int p.1,PyData.int p.2))=λp=>p.1 == u:=by
  funext p;simp![Function.comp,dO,Option.some.injEq,Sum.inl.injEq];by_cases c:p.1=u
  .simp[c]
  .simp[c]
 rw[e];rfl
def YO:dctD' (dI Á)=true:=by
 show (Á.map λp=>(PyData.int p.1,PyData.int p.2)).all (λkv=>(dO kv.1).isSome)=true;rw[List.all_map,é];intro p _;rfl
def aDB(hd:(Á.map (·.1)).Nodup)(h:(u,w)∈Á):gI Á u=some w:=by
 induction Á with
 |nil=>cases h
 |cons p r ih=>
  rw[Ð,List.nodup_cons]at hd;unfold gI;rw[Ă];rcases Ï.mp h with rfl|h
  .simp
  .have:p.1≠u:=λe=>hd.1 (by rw[e];exact List.mem_map_of_mem (f:=(·.1)) h)
   rw[beq_eq_false_iff_ne.mpr this];exact ih hd.2 h
def aDC(h:∀p∈Á,p.1≠u):gI Á u=none:=by
 unfold gI;rw[List.find?_eq_none.mpr λp hp=>by simpa using h p hp];rfl
end
def MI{fs ws:ZK}(hf:fs.length=n)(hw:ws.length=n)(ef:∀j,j<n->fs[j]?=some (f j:Int))(ew:∀j,j<n->ws[j]?=some (w j))(inj:∀i j,i<n->j<n->f i=f j->i=j)(u:Nat):
  (gI (fs.zip ws) (u:Int)).getD 0=Sx.shr n f w u/\(gI (fs.zip ws) (u:Int)=none↔∀j,j<n->f j≠u):=by
 have hz:∀j,j<n->(fs.zip ws)[j]?=some ((f j:Int),w j):=λj hj=>by
  rw[Ę];exact⟨ef j hj,ew j hj⟩
 have hl:(fs.zip ws).length=n:=by rw[ë,hf,hw,Nat.min_self]
 have hm:∀p∈fs.zip ws,∃j,j<n/\p=((f j:Int),w j):=λp hp=>by
  let⟨j,hj,e⟩:=List.getElem_of_mem hp;rw[hl]at hj;have:=hz j hj;rw[Ê (by rw[hl];exact hj),e]at this;exact⟨j,hj,Option.some.inj this⟩
 have nd:((fs.zip ws).map (·.1)).Nodup:=by
  refine List.pairwise_iff_getElem.mpr λi j hi hj hij e=>?_;rw[Æ,hl]at hi hj;have ei:((fs.zip ws).map (·.1))[i]?=some (f i:Int):=by rw[Ñ,hz i hi];rfl
  have ej:((fs.zip ws).map (·.1))[j]?=some (f j:Int):=by rw[Ñ,hz j hj];rfl
  rw[Ê (by rw[Æ,hl];exact hi),e,<- Ê,ej]at ei;have:=Option.some.inj ei;have:=inj i j hi hj ∅;lia
 by_cases c:∃j,j<n/\f j=u
 .obtain⟨j,hj,rfl⟩:=c
  have e:gI (fs.zip ws) (f j:Int)=some (w j):=aDB nd (Ā (hz j hj));rw[e,Sx.shr_at inj hj];exact⟨rfl,by simp;exact⟨j,hj,rfl⟩⟩
 .have hn:∀j,j<n->f j≠u:=λj hj e=>c ⟨j,hj,e⟩
  have e:gI (fs.zip ws) (u:Int)=none:=aDC λp hp=>by
   let⟨j,hj,rfl⟩:=hm p hp;show (f j:Int)≠(u:Int);have:=hn j hj;lia
  rw[e,Sx.shr_no hn];exact⟨rfl,by simp;exact hn⟩
def YQ(h:ds.length=n+1):A1 'r' none (some (-1))=some (.list (ds.take n)):=by
 have e1:HT.sIx ds.length 0 none=0:=rfl;have e2:HT.sIx ds.length ds.length (some (-1))=n:=by
  unfold HT.sIx;simp[h];lia
 show some (PyData.list ((ds.drop (HT.sIx ds.length 0 none)).take (HT.sIx ds.length ds.length (some (-1))-HT.sIx ds.length 0 none)))=_;rw[e1,e2,List.drop_zero,Nat.sub_zero]
def JT{fs:ZK}{f:Nat->Nat}(hf:fs.length=n)(ef:∀j,j<n->fs[j]?=some (f j:Int))(inj:∀i j,i<n->j<n->f i=f j->i=j)(hn:n<=900)(hk:(fs.zip ws)[k]?=some (u,w)):
  yN (.int u) (.int w) (dI ((fs.zip ws).take k))=some (dI ((fs.zip ws).take (k+1))):=by
 have hkl:=(Î.mp hk).1;rw[ë]at hkl;have hu:fs[k]?=some u:=(Ę.mp hk).1;rw[O8 (λp hp=>?_) (by
  rw[ü,ë,hf];have:900<sizeLine:=by decide
  lia)]
 .rw[List.take_add_one,hk]
  rfl
 .obtain⟨i,hi,e⟩:=List.getElem_of_mem hp
  rw[ü,ë]at hi;have e2:(fs.zip ws)[i]?=some p:=by
   rw[List.getElem_take]at e;rw[Ê (by rw[ë];lia),e]
  have hp1:fs[i]?=some p.1:=(Ę.mp e2).1;rw[ef i ∅]at hp1;rw[ef k ∅]at hu;intro z;have:=inj i k ∅ ∅ (by have:=Option.some.inj hp1;have:=Option.some.inj hu;lia);lia
def C0(K:Ok P L T)(I:Sx.Inv P σ T)(e2:Sx.LnR P.n ln w):nS [cG L,.list (ln.map .int)]=.ok (dI (L.free.zip (ln.take P.n))) []:=by
 have R:=K.rp;have el:(L.free.zip (ln.take P.n)).length=P.n:=by rw[ë,R.fl,ü,e2.len];lia
 refine aQ (os:=[]) ?_;rfl';unfold nR;dsimp? [];have hz:A6 (rP (gM "Table" "free") (aK 0)) (ģ A1 (aK 1) none (some (rP Ũ (dC (.int 1))))) [some (cG L),some (.list (ln.map .int)),some (kU [] []),none,none]=.ok ((L.free.zip (ln.take P.n)).map λp=>.tuple [.int p.1,.int p.2]) [some (cG L),some (.list (ln.map .int)),some (kU [] []),none,none]:=YJ (by unfold cG;dsimp? [pK]) (by
  have:=YQ (ds:=ln.map PyData.int) (n:=P.n) (by rw[Æ,e2.len]);dsimp? [VO,uK,uL,B3,this];rw[List.map_take])
 refine dN (λk δ=>∃o3 o4,δ=[some (cG L),some (.list (ln.map .int)),some (dI ((L.free.zip (ln.take P.n)).take k)),o3,o4]) hz ⟨none,none,rfl⟩ ?_ ?_
 .rintro k d δ hk ⟨o3,o4,rfl⟩
  rw[Ñ]at hk;cases e:(L.free.zip (ln.take P.n))[k]? with
  |none=>rw[e]at hk;cases hk
  |some p=>
   rw[e]at hk;cases hk;refine⟨_,rfl,?_⟩;have pt:=JT R.fl R.f I.fi K.n e;dsimp? [EY,pt];exact⟨_,_,rfl⟩
 .rintro δ ⟨o3,o4,rfl⟩
  rw[Æ,List.take_length];dsimp? [uM]
def oG(t b:Int):(Int×Int):=(KH t b t,KH t b b)
def YR(hb:b≠0)(fb:bZ 9000 b):gN [.int t,.int b]=.ok (fr (oG t b)) []:=by
 have hd:dv t b=(if b<0 then -(Int.gcd t b:Int)else (Int.gcd t b:Int)):=rfl;have gl:(Int.gcd t b:Int).natAbs<=b.natAbs:=by
  have:=Int.gcd_le_natAbs_right (a:=t) hb;assumption
 have hl:(dv t b).natAbs.log2<9000:=by
  have fg:bZ 9000 (Int.gcd t b:Int):=fb.le gl;rw[hd];split
  .exact fg.neg.log2
  .exact fg.log2
 rw[v6 hb hl,hd,kR (Int.gcd_dvd_left t b),kR (Int.gcd_dvd_right t b)];rfl
def aDD{a b:Nat}(h:a+b<=ds.length):A1 'r' (some (a:Int)) (some ((a+b:Nat):Int))=some (.list ((ds.drop a).take b)):=by
 have e1:HT.sIx ds.length 0 (some (a:Int))=a:=by rw[HT.sIx_nat];lia
 have e2:HT.sIx ds.length ds.length (some ((a+b:Nat):Int))=a+b:=by rw[HT.sIx_nat];lia
 show some (PyData.list ((ds.drop (HT.sIx ds.length 0 (some (a:Int)))).take (HT.sIx ds.length ds.length (some ((a+b:Nat):Int))-HT.sIx ds.length 0 (some (a:Int)))))=_;rw[e1,e2,Nat.add_sub_cancel_left]
def Ĕ(n m:Nat)(y:Nat->Int)(s:Int):D:=.tuple [.list ((List.range m).map λr=>fr (oG (y (n+r)) s)),.list ((List.range n).map λi=>fr (oG (y (n+m+i)) s))]
def JU(K:Ok P L T)(hm:rs.length=m)(hk:P.k=m+P.n)(hy:∀u,u<P.n+m+P.n->(gI Á (u:Int)).getD 0=y u):qZ [cG L,.list rs,dI Á]=.ok (Ĕ P.n m y T.s) []:=by
 have R:=K.rp;have kn:=K.k;have nn:=K.n;have hs0:T.s≠0:=by have:=K.pos;exact Int.ne_of_gt ‹_›
 sleep 2;rfl';unfold qY;unfold cG;dsimp? [pK,Æ,R.fl,hm];refine aW.of (yA (n:=((P.n+m+P.n:Nat):Int)) (g:=λu=>fr (oG (y u) T.s)) (dJ (by dsimp? [pK,Æ,R.fl];simp)) ∅ ∅ λk hk=>?_) ?_
 .have hk:k<P.n+m+P.n:=by lia
  have e:=hy k hk;have g0:((gI Á (k:Int)).map PyData.int).getD (.int 0)=.int (y k):=by
   rw[<- e];cases gI Á (k:Int)<;>rfl
  dsimp? [WX,YO,YN,g0,AD,R.s,YR hs0 (K.fs.mono ⋯)]
 .rw[ø]
  have c1:=aDD (ds:=(List.range (P.n+m+P.n)).map λu=>fr (oG (y u) T.s)) (a:=P.n) (b:=m) 'f';have c2:=yB (ds:=(List.range (P.n+m+P.n)).map λu=>fr (oG (y u) T.s)) (k:=P.n+m) 'f';have ec:((P.n+m:Nat):Int)=(P.n:Int)+(m:Int):=by simp
  rw[ec]at c1 c2;dsimp? [aLT,uK,uL,B3,c1,c2];unfold Ĕ;have d1:(((List.range (P.n+m+P.n)).map λu=>fr (oG (y u) T.s)).drop P.n).take m=(List.range m).map λr=>fr (oG (y (P.n+r)) T.s):=by
   refine List.ext_getElem? λj=>?_;rw[List.getElem?_take];split
   .rename_i hj
    rw[List.getElem?_drop,Ñ,ú ∅,Ñ,ú hj];rfl
   .rw[à (by simp;exact ã.mp ‹_›)]
  have d2:((List.range (P.n+m+P.n)).map λu=>fr (oG (y u) T.s)).drop (P.n+m)=(List.range P.n).map λi=>fr (oG (y (P.n+m+i)) T.s):=by
   refine List.ext_getElem? λj=>?_;rw[List.getElem?_drop];by_cases hj:j<P.n
   .rw[Ñ,ú ∅,Ñ,ú hj]
    rfl
   .rw[à (by simp;exact ã.mp ‹_›),à (by simp;exact ã.mp ‹_›)]
  rw[d1,d2]
theorem O9(e2:Sx.LnR n ln w):(ln.take n).length=n/\∀j,j<n->(ln.take n)[j]?=some (w j):=
 ⟨by rw[ü,e2.len];lia,λj hj=>by rw[List.getElem?_take,Â hj];exact e2.at' j 'a'⟩
def aDE(K:Ok P L T)(I:Sx.Inv P σ T)(hm:rs.length=m)(hk:P.k=m+P.n)(hp:p<P.k):
  nU [cG L,.list rs,.int (p:Int)]=.ok (.tuple [.str "none",Ĕ P.n m (λu=>if u=T.h p then T.s else Sx.shr P.n T.f (T.L p) u) T.s]) []:=by
 have R:=K.rp;let⟨pv,e1,e2⟩:=R.l p hp;have i1:=ŷ e1;have i2:=RZ (R.h p hp);have sh:=C0 K I e2;let⟨t1,t2⟩:=O9 e2;have gs:=λu=>MI R.fl t1 R.f t2 I.fi u;have hnew:∀q∈L.free.zip (pv.take P.n),q.1≠(T.h p:Int):=λq hq z=>by
  have h1:=(gs (T.h p)).2.mpr λj hj=>I.fh j p hj 'a';have h2:gI (L.free.zip (pv.take P.n)) (T.h p:Int)≠none:=by
   unfold gI;intro y;rw[Option.map_eq_none_iff,List.find?_eq_none]at y;exact y q hq (by simp[z])
  exact h2 h1
 have hzl:(L.free.zip (pv.take P.n)).length=P.n:=by rw[ë,R.fl,t1,Nat.min_self]
 have pn:=O8 (w:=L.s) hnew (by rw[hzl];have:=K.n;have:900<sizeLine:=⋯;exact û ‹_› ‹_›)
 have pe:=JU K hm hk (Á:=L.free.zip (pv.take P.n)++[((T.h p:Int),L.s)]) (y:=λu=>if u=T.h p then T.s else Sx.shr P.n T.f (T.L p) u) λu _=>by
  have e:gI (L.free.zip (pv.take P.n)++[((T.h p:Int),L.s)]) (u:Int)=(gI (L.free.zip (pv.take P.n)) (u:Int)).or (if (T.h p:Int)=(u:Int)then some L.s else none):=by
   unfold gI;rw[List.find?_append,Option.map_or,List.find?_singleton];congr 1;by_cases c:(T.h p:Int)=(u:Int)
   .simp[c]
   .simp[c]
  rw[e];by_cases c:u=T.h p
  .subst c
   rw[(gs (T.h p)).2.mpr λj hj=>I.fh j p hj 'a',Â rfl,Â rfl,R.s];rfl
  .rw[Ä c,Ä ∅,Option.or_none]
   exact(gs u).1
 sleep 2;rfl';unfold nT;have tl:gM "Table" "lines" (cG L)=some (R9 L.lines):=tX;have th:gM "Table" "held" (cG L)=some (.list (L.held.map .int)):=wU;have ts:gM "Table" "scale" (cG L)=some (.int L.s):=AD;dsimp? [tl,i1,sh,ts,EY,th,i2,pn,pe]
def aDF(K:Ok P L T)(I:Sx.Inv P σ T){Ã:ZK}(hm:rs.length=m)(hk:P.k=m+P.n)(hr:Ã.length=P.n):
  nW [cG L,.list rs,.list (Ã.map .int)]=.ok (.tuple [.str "fill",.list ((List.range P.n).map λx=>fr (oG (Sx.val P T x) T.s)),Ĕ P.n m (λu=>Sx.shr P.n T.f (T.L P.k) u) T.s]) []:=by
 have R:=K.rp;have kk:=K.k;have hs0:T.s≠0:=by have:=K.pos;exact Int.ne_of_gt ‹_›
 have sh:=C0 K I R.g;let⟨t1,t2⟩:=O9 R.g;have gs:=λu=>MI R.fl t1 R.f t2 I.fi u;have pe:=JU K hm hk (Á:=L.free.zip (L.goal.take P.n)) (y:=λu=>Sx.shr P.n T.f (T.L P.k) u) λu _=>(gs u).1;let ws:ZK:=L.lines.map λln=>ln.getD P.n 0;have wl:ws.length=P.k:=by simp![ws,Æ,R.ll]
 have wa:∀r,r<P.k->ws[r]?=some (T.L r P.n):=λr hr=>by
  let⟨ln,q1,q2⟩:=R.l r hr;simp![ws,Ñ,q1,Option.map_some,q2.getD (È _)]
 have hv:=λu=>MI R.hl wl R.h wa (λi j hi hj e=>I.hi i j 'a' 'a' e) u;sleep 2;rfl';unfold nV;have tl:gM "Table" "lines" (cG L)=some (R9 L.lines):=tX;have th:gM "Table" "held" (cG L)=some (.list (L.held.map .int)):=wU;have ts:gM "Table" "scale" (cG L)=some (.int L.s):=AD;have tg:gM "Table" "goal" (cG L)=some (.list (L.goal.map .int)):=O6;dsimp? [];have hz:A6 (rP (gM "Table" "held") (aK 0)) (rP (gM "Table" "lines") (aK 0)) [some (cG L),some (.list rs),some (.list (Ã.map .int)),some (kU [] []),none,none,none]=.ok ((L.held.zip L.lines).map λp=>.tuple [.int p.1,.list (p.2.map PyData.int)]) [some (cG L),some (.list rs),some (.list (Ã.map .int)),some (kU [] []),none,none,none]:=by
  have e1:rP (gM "Table" "held") (aK 0) [some (cG L),some (.list rs),some (.list (Ã.map .int)),some (kU [] []),none,none,none]=.ok (.list (L.held.map .int)) [some (cG L),some (.list rs),some (.list (Ã.map .int)),some (kU [] []),none,none,none]:=dJ (by dsimp? [th]);have e2:rP (gM "Table" "lines") (aK 0) [some (cG L),some (.list rs),some (.list (Ã.map .int)),some (kU [] []),none,none,none]=.ok (R9 L.lines) [some (cG L),some (.list rs),some (.list (Ã.map .int)),some (kU [] []),none,none,none]:=dJ (by dsimp? [tl]);unfold A6;simp![bD,e1,e2,aX];congr 1;unfold nJ;rw[List.zipWith_map,List.zip_eq_zipWith,List.map_zipWith]
 refine dN (λk δ=>∃o4 o5,δ=[some (cG L),some (.list rs),some (.list (Ã.map .int)),some (dI ((L.held.zip ws).take k)),o4,o5,none]) hz ⟨none,none,rfl⟩ ?_ ?_
 .rintro k d δ hkd ⟨o4,o5,rfl⟩
  rw[Ñ]at hkd;cases e:(L.held.zip L.lines)[k]? with
  |none=>rw[e]at hkd;cases hkd
  |some q=>
   rw[e]at hkd;cases hkd;let⟨q1,q2⟩:=Ę.mp e;have hk':k<P.k:=by have:=(Î.mp q1).1;rw[R.hl]at this;exact this
   let⟨ln,l1,l2⟩:=R.l k hk';rw[q2]at l1;have el:ln=q.2:=(Option.some.inj l1).symm;subst el;refine⟨_,rfl,?_⟩;have ez:(L.held.zip ws)[k]?=some (q.1,T.L k P.n):=by rw[Ę];exact⟨q1,wa k hk'⟩
   have pt:=JT R.hl R.h (λi j hi hj e=>I.hi i j 'a' 'a' e) kk ez;have il:=YI l2.len (l2.at' P.n (È _));dsimp? [EY,il,pt];exact⟨_,_,rfl⟩
 .rintro δ ⟨o4,o5,rfl⟩
  rw[Æ,ë,R.hl,R.ll,Nat.min_self,List.take_of_length_le (by rw[ë,R.hl,wl];lia)];dsimp? [];refine aW.of (yA (n:=(P.n:Int)) (g:=λu=>fr (oG (Sx.val P T u) T.s)) (dJ (by dsimp? [Æ,hr])) ∅ (by have:=K.n;lia) λk hk=>?_) ?_
  .have e:=(hv k).1
   have g0:((gI (L.held.zip ws) (k:Int)).map PyData.int).getD (.int 0)=.int (Sx.val P T k):=by
    unfold Sx.val;rw[<- e];cases gI (L.held.zip ws) (k:Int)<;>rfl
   dsimp? [WX,YO,YN,g0,ts,R.s,YR hs0 (K.fs.mono ⋯)]
  .rw[ø]
   dsimp? [tg,sh,pe]
def aMF(h:aW c δ λb δ1=>if b=true then bK u δ1 (λδ2=>bK (eS c u) δ2 N B C R) N (λδ2=>bK (eS c u) δ2 N B C R) R else N δ1):bK (eS c u) δ N B C R:=by
 let⟨b,δ1,e,q⟩:=h.ex;cases b with
 |false=>
  refine bK.of (fl:=.next) (by rw[dH,e];rfl) ?_;exact(by simpa using q:N δ1)
 |true=>
  rw[Â rfl]at q;let⟨fl,δ2,e2,q2⟩:=q.ex;cases fl with
  |next=>
   let⟨fl3,δ3,e3,q3⟩:=bK.ex q2;exact bK.of (fl:=fl3) (by rw[dH,e];simp![aX,if_true,e2];exact e3) q3
  |cont=>
   let⟨fl3,δ3,e3,q3⟩:=bK.ex q2;exact bK.of (fl:=fl3) (by rw[dH,e];simp![aX,if_true,e2];exact e3) q3
  |brk=>exact bK.of (fl:=.next) (by rw[dH,e];simp![aX,if_true,e2]) q2
  |ret r=>exact bK.of (fl:=.ret r) (by rw[dH,e];simp![aX,if_true,e2]) q2
def Ğ(Ã:ZK)(i:Nat):D:=.list ((((List.replicate Ã.length (0:Int)).set i 1)++[Ã.getD i 0]).map PyData.int)
def YS(hn:Ã.length<=900):tG [.list (Ã.map .int)]=.ok (.list ((List.range Ã.length).map (Ğ Ã))) []:=by
 sleep 2;rfl';unfold l6;dsimp? [];refine dN (λk δ=>∃o2 o3 o4,δ=[some (.list (Ã.map .int)),some (.list ((List.range k).map (Ğ Ã))),o2,o3,o4]) (O7 (enc:=PyData.int) (xs:=Ã) (by dsimp? [])) ⟨none,none,none,rfl⟩ ?_ ?_
 .rintro k d δ hk ⟨o2,o3,o4,rfl⟩
  have hk0:=(Î.mp hk).1;simp![Æ,List.length_zipIdx]at hk0;have ed:d=.tuple [.int (k:Int),.int (Ã.getD k 0)]:=by
   rw[Ñ,Ñ,List.getElem?_zipIdx,Ê hk0]at hk;simp![Option.map_some,Option.some.injEq]at hk;rw[<- hk,Ë,Ê hk0];simp
  subst ed;refine⟨_,rfl,?_⟩;dsimp? [];refine aW.of (bR (xs:=Ã) (enc:=PyData.int) (g:=λ_=>.int 0) (cJ (by dsimp? [])) ∅ λx _=>by dsimp? []) ?_;have ei:=ixN_lt' (show k<((Ã.map λ_=>PyData.int 0)++[PyData.int (Ã.getD k 0)]).length by simp;exact Nat.lt_succ_of_lt ‹_›);have er:(List.range (k+1)).map (Ğ Ã)=(List.range k).map (Ğ Ã)++[Ğ Ã k]:=by rw[List.range_succ,ß];rfl
  rw[er];have e0:(Ã.map λ_=>PyData.int 0)=(List.replicate Ã.length (0:Int)).map PyData.int:=by
   rw[List.map_replicate];exact List.map_const' ..
  have el:(((Ã.map λ_=>PyData.int 0)++[PyData.int (Ã.getD k 0)]).set k (.int 1))=(((List.replicate Ã.length (0:Int)).set k 1)++[Ã.getD k 0]).map PyData.int:=by
   rw[e0,List.set_append_left _ _ (by simpa using hk0),ß,List.map_set];rfl
  have cat:UE (.list (Ã.map λ_=>PyData.int 0)) (.list [PyData.int (Ã.getD k 0)])=some (.list ((Ã.map λ_=>PyData.int 0)++[PyData.int (Ã.getD k 0)])):=Â (by
   simp![Æ,Ý,List.length_nil];have:901<=sizeLine:=by decide
   exact û ‹_› ‹_›)
  dsimp? [cat,ei,el];refine⟨by have:900<sizeLine:=⋯;simp![Æ,List.length_range];lia,_,_,_,rfl⟩
 .rintro δ ⟨o2,o3,o4,rfl⟩
  simp![Æ,List.length_zipIdx];dsimp? []
def aP8:nM 20 0 "Table" "scale" s (dS "Table" [] [])=some (.dict [(.none,.str "Table"),(.str "scale",s)]):=by with_unfolding_all rfl
def aP9:nM 20 1 "Table" "free" f (.dict [(.none,.str "Table"),(.str "scale",s)])=some (.dict [(.none,.str "Table"),(.str "scale",s),(.str "free",f)]):=by with_unfolding_all rfl
def aQA:nM 20 1 "Table" "held" h (.dict [(.none,.str "Table"),(.str "scale",s),(.str "free",f)])=some (.dict [(.none,.str "Table"),(.str "scale",s),(.str "free",f),(.str "held",h)]):=by with_unfolding_all rfl
def aQB:nM 20 0 "Table" "lines" l (.dict [(.none,.str "Table"),(.str "scale",s),(.str "free",f),(.str "held",h)])=some (.dict [(.none,.str "Table"),(.str "scale",s),(.str "free",f),(.str "held",h),(.str "lines",l)]):=by with_unfolding_all rfl
def aQC:nM 20 0 "Table" "goal" g (.dict [(.none,.str "Table"),(.str "scale",s),(.str "free",f),(.str "held",h),(.str "lines",l)])=some (tb s f h l g):=by with_unfolding_all rfl
def aQD{n:Nat}(h:n<=1000):mX [.int (n:Int)]=some (0,n):=by
 unfold mX;dsimp only;rw[Â ⟨∅,∅⟩,ø]
def aQE{n m:Nat}(h:n+m<=1000):mX [.int (n:Int),.int ((n+m:Nat):Int)]=some ((n:Int),m):=by
 unfold mX;dsimp only;rw[Â ⟨∅,∅,∅,∅⟩];have e:((((n+m:Nat):Int))-(n:Int)).toNat=m:=by lia
 rw[e]
def Ź(h:n<=1000):n<=sizeLine:=Ø h (show 1000<=sizeLine by decide)
def YT(h:mX ds=some (lo,n))(hn:n<=1000):Ĥ ds=some (.list (kX lo n)):=by
 unfold Ĥ;rw[h];exact Â (Ź hn)
def aQF{n:Nat}(h:n<=1000):Ĥ [.int (n:Int)]=some (.list (((List.range n).map λ(i:Nat)=>(i:Int)).map PyData.int)):=by
 rw[YT (aQD h) h];have e:kX 0 n=((List.range n).map λ(i:Nat)=>(i:Int)).map PyData.int:=by
  unfold kX;rw[î];refine List.map_congr_left λk _=>?_;show PyData.int (0+(k:Int))=.int (k:Int);rw[Int.zero_add]
 rw[e]
def aQG{n m:Nat}(h:n+m<=1000):Ĥ [.int (n:Int),.int ((n+m:Nat):Int)]=some (.list (((List.range m).map λ(i:Nat)=>((n+i:Nat):Int)).map PyData.int)):=by
 rw[YT (aQE h) ∅];have e:kX (n:Int) m=((List.range m).map λ(i:Nat)=>((n+i:Nat):Int)).map PyData.int:=by
  unfold kX;rw[î];refine List.map_congr_left λk _=>?_;show PyData.int ((n:Int)+(k:Int))=.int ((n+k:Nat):Int);rw[Int.natCast_add]
 rw[e]
def ı(r:ZK×Int):D:=.tuple [.list (r.1.map PyData.int),.int r.2]
abbrev SB(rs:ZE):D:=.list (rs.map ı)
def aDG(hm:Ç.length<=300)(hn:Ã.length<=300)(hr:∀r∈Ç,r.1.length=Ã.length):k9 [dS "Table" [] [],SB Ç,.list (Ã.map .int)]=.ok .none [some (cG (Sx.startL Ç Ã))]:=by
 have sz:1000<=sizeLine:=by decide
 refine O5 (os:=[cG (Sx.startL Ç Ã)]) ?_;rfl';unfold gO;have e1:=aQF (n:=Ã.length) ∅;have e2:=aQG (n:=Ã.length) (m:=Ç.length+Ã.length) ∅;have e3:((Ã.length+(Ç.length+Ã.length):Nat):Int)=(Ã.length:Int)+(Ç.length:Int)+(Ã.length:Int):=by lia
 rw[e3]at e2;have er:=YS (Ã:=Ã) ∅;dsimp? [yO,aP8,aIR,Æ,e1,aP9,e2,aQA,SB];refine aW.of (CZ (xs:=Ç) (enc:=ı) (A:=λr=>.list (r.1.map PyData.int)) (B:=λr=>.int r.2) (g:=λr=>.list ((r.1++[r.2]).map PyData.int)) (λ_=>rfl) (cJ (by dsimp? [])) ∅ λr hr'=>?_) ?_
 .have hl:=hr r hr'
  have ll:∀l:ZI,jS [.list l]=some (.list l):=λ_=>rfl;dsimp? [ll,Æ,ß,Ð,List.map_nil,Ý,List.length_nil];exact Ź ∅
 .dsimp? [er,Æ,List.length_range]
  refine⟨∅,?_⟩;dsimp? [aQB,yO];refine aW.of (bR (xs:=Ã) (enc:=PyData.int) (g:=λ_=>.int 1) (cJ (by dsimp? [])) ∅ λx _=>by dsimp? []) ?_;have g1:(Ã.map λ_=>PyData.int 1)++[PyData.int 0]=(List.replicate Ã.length (1:Int)++[0]).map PyData.int:=by
   have e0:(Ã.map λ_=>PyData.int 1)=List.replicate Ã.length (PyData.int 1):=List.map_const' ..;rw[ß,List.map_replicate,e0,Ð,List.map_nil]
  have g2:(Ç.map λr=>PyData.list ((r.1++[r.2]).map PyData.int))++(List.range Ã.length).map (Ğ Ã)=((Ç.map λr=>r.1++[r.2])++(List.range Ã.length).map λ(i:Nat)=>((List.replicate Ã.length (0:Int)).set i 1)++[Ã.getD i 0]).map λx=>PyData.list (x.map PyData.int):=by
   rw[ß,î,î];congr 1
  have fin:tb (.int 1) (.list (((List.range Ã.length).map λ(i:Nat)=>(i:Int)).map PyData.int)) (.list (((List.range (Ç.length+Ã.length)).map λ(i:Nat)=>((Ã.length+i:Nat):Int)).map PyData.int)) (.list ((Ç.map λr=>PyData.list ((r.1++[r.2]).map PyData.int))++(List.range Ã.length).map (Ğ Ã))) (.list ((Ã.map λ_=>PyData.int 1)++[PyData.int 0]))=cG (Sx.startL Ç Ã):=by
   rw[g1,g2];rfl
  dsimp? [Æ,Ý,List.length_nil];refine⟨Ź ∅,?_⟩;dsimp? [aQC,fin]
structure Č(Ç:ZE)(Ã:ZK)(A C:Nat):Prop where
 len:∀r∈Ç,r.1.length=Ã.length
 m:Ç.length<=300
 n:Ã.length<=300
 a1:1<=A
 a:∀r∈Ç,∀x∈r.1,x.natAbs<=A
 c:∀r∈Ç,r.2.natAbs<=C
 cr:∀x∈Ã,x.natAbs<=C
 f1:Sx.fac Ã.length*A^Ã.length<2^4000
 f2:(Ã.length+1)*(Sx.fac Ã.length*A^Ã.length*C)<2^4000
section
def JV{l:ZK}(h:∀y∈l,y.natAbs<=A):(l.getD x 0).natAbs<=A:=by
 rw[Ë];cases e:l[x]? with
 |none=>simp
 |some y=>exact h y (Ā e)
def Č.pa(b:Č Ç Ã A C)(u x:Nat):((Sx.lpOf Ç Ã).pr.a u x).natAbs<=A:=by
 have a1:=b.a1;have h0:(0:Int).natAbs<=A:=by simp
 have h1:(1:Int).natAbs<=A:=by simpa using a1
 have h2:(-1:Int).natAbs<=A:=by simpa using a1
 show (if u<Ã.length then (if x=u then -1 else 0)else if u<Ã.length+Ç.length then (Ç.getD (u-Ã.length) ([],0)).1.getD x 0 else if u<Ã.length+Ç.length+Ã.length then (if x=u-(Ã.length+Ç.length)then 1 else 0)else 1:Int).natAbs<=A;split
 .split
  .exact h2
  .exact h0
 .split
  .refine JV λy hy=>?_
   rw[Ë]at hy;cases e:Ç[u-Ã.length]? with
   |none=>rw[e]at hy;cases hy
   |some r=>rw[e]at hy;exact b.a r (Ā e) y hy
  .split
   .split
    .exact h1
    .exact h0
   .exact h1
def Č.pc(b:Č Ç Ã A C)(u:Nat):((Sx.lpOf Ç Ã).pr.c u).natAbs<=C:=by
 have h0:(0:Int).natAbs<=C:=by simp
 show (if u<Ã.length then 0 else if u<Ã.length+Ç.length then (Ç.getD (u-Ã.length) ([],0)).2 else if u<Ã.length+Ç.length+Ã.length then Ã.getD (u-(Ã.length+Ç.length)) 0 else 0:Int).natAbs<=C;split
 .exact h0
 .split
  .rw[Ë]
   cases e:Ç[u-Ã.length]? with
   |none=>exact h0
   |some r=>exact b.c r (Ā e)
  .split
   .exact JV b.cr
   .exact h0
def Č.ok(b:Č Ç Ã A C)(I:Sx.Inv (Sx.lpOf Ç Ã).pr σ T)(R:Sx.Rp (Sx.lpOf Ç Ã).pr L T):Ok (Sx.lpOf Ç Ã).pr L T:=by
 let⟨h1,h2,h3⟩:=I.small (A:=A) (C:=C) (λu x _ _=>b.pa u x) (λu _=>b.pc u);have bm:=b.m;have bn:=b.n;refine⟨R,I.pos,û h1 b.f1,λr j hr hj=>?_,?_,?_⟩
 .by_cases e:j<(Sx.lpOf Ç Ã).pr.n
  .exact û (h2 r j hr e) b.f1
  .have e:j=(Sx.lpOf Ç Ã).pr.n:=by lia
   subst e;exact û (h3 r hr) b.f2
 .show Ã.length<=900
  lia
 .show Ç.length+Ã.length<=900
  lia
end
def aMH(Q:Sx.Lp)(T:Sx.Tab):D:=.tuple [.str "fill",.list ((List.range Q.n).map λx=>fr (oG (Sx.val Q.pr T x) T.s)),Ĕ Q.n Q.m (λu=>Sx.shr Q.n T.f (T.L Q.pr.k) u) T.s]
def aMI(Q:Sx.Lp)(T:Sx.Tab)(p:Nat):D:=.tuple [.str "none",Ĕ Q.n Q.m (λu=>if u=T.h p then T.s else Sx.shr Q.n T.f (T.L p) u) T.s]
def ϱ(Q:Sx.Lp)(r:D):Prop:=∃T σ,Sx.Inv Q.pr σ T/\(((∀r,r<Q.pr.k->0<=T.L r Q.n)/\r=aMH Q T)\/∃p,p<Q.pr.k/\T.L p Q.n<0/\(∀j,j<Q.n->0<=T.L p j)/\r=aMI Q T p)
def ϲ(Ç:ZE)(Ã:ZK)(T:Sx.Tab):Prop:=∀(L:Sx.LT),Sx.Rp (Sx.lpOf Ç Ã).pr L T->∀(o4:ZL)(pl:D),cH [cG L]=.ok pl [] ->
   bK (bO (eS (dB (fC xT (aK 3) (dC .none)))
   (bO (cE 4 (QJ (bP l8 [.val (aK 2),.val (fC eK (rP (gM "Table" "lines") (aK 2)) (aK 3))])))
   (bO (gF (dB (fC UG (aK 4) (dC .none)))
    (kC (bP nU [.val (aK 2),.val (aK 0),.val (aK 3)]))
    iX)
   (bO (sE (yE 2 "Table" "swap" mB [.val (aK 3),.val (aK 4)]))
   (cE 3 (QJ (bP cH [.val (aK 2)])))))))
  (kC (bP nW [.val (aK 2),.val (aK 0),.val (aK 1)]))) [some (SB Ç),some (.list (Ã.map .int)),some (cG L),some pl,o4] (λ_=>False) (λ_=>False) (λ_=>False) λr _=>ϱ (Sx.lpOf Ç Ã) r
def aDI(b:Č Ç Ã A C)(T:Sx.Tab)(I:Sx.Inv (Sx.lpOf Ç Ã).pr σ T):ϲ Ç Ã T:=by
 refine Sx.simplex_ind (Good:=ϲ Ç Ã) ?_ T I;clear I T;intro T I ih L R o4 pl hpl;have K:=b.ok I R;have hk:(Sx.lpOf Ç Ã).pr.k=Ç.length+(Sx.lpOf Ç Ã).pr.n:=rfl;have hm:(Ç.map ı).length=Ç.length:=Æ _;have tl:gM "Table" "lines" (cG L)=some (R9 L.lines):=tX;rw[BZ];refine aMF ?_;rcases AF K with ⟨all,e⟩|⟨p,hp,neg,first,e⟩
 .rw[e]at hpl
  cases hpl;have fe:=aDF K I (rs:=Ç.map ı) (Ã:=Ã) hm hk rfl;dsimp? [aMD,Bool.false_eq_true,if_false,fe];exact⟨T,σ,I,.inl ⟨all,rfl⟩⟩
 .rw[e]at hpl
  cases hpl;let⟨pv,e1,e2⟩:=R.l p hp;let⟨o,hB,ec⟩:=SA K hp e2;have i1:=ŷ e1;dsimp? [aME,if_true,tl,i1,ec,yP];cases o with
  |none=>
   have ne:=aDE K I (rs:=Ç.map ı) hm hk hp;simp![oD,aIS];dsimp? [ϰ,ne];exact⟨T,σ,I,.inr ⟨p,hp,neg,hB,rfl⟩⟩
  |some d=>
   have C:=Sx.ch_of hp neg first hB
   have R':=R.swap hp C.hd;have I':=C.inv I;have K':=b.ok I' R';have sw:=aDA K hp C.hd;obtain⟨pl',ep,hv⟩:∃pl',cH [cG (Sx.swapL L p d)]=.ok pl' []/\(EE pl').isSome=true:=by
    rcases AF K' with ⟨_,e⟩|⟨q,_,_,_,e⟩
    .exact⟨_,e,rfl⟩
    .exact⟨_,e,rfl⟩
   have nx:=ih p d C (Sx.swapL L p d) R' (some (.int (d:Int))) pl' ep;rw[BZ]at nx;simp![oD,WZ];have tm:yM "Table" "swap" (cG L):=aC9;dsimp? [Ÿ,aIP,tm,true_and,sw,ep,yP];refine⟨hv,?_⟩;dsimp? [];exact nx
def YU(b:Č Ç Ã A C):∃r,pC [SB Ç,.list (Ã.map .int)]=.ok r []/\ϱ (Sx.lpOf Ç Ã) r:=by
 have bm:=b.m;have bn:=b.n;have R:=Sx.start_ok b.len;have I:=(Sx.lpOf Ç Ã).inv;have K:=b.ok I R;have ie:=aDG (Ç:=Ç) (Ã:=Ã) 't' 't' b.len;obtain⟨pl,ep,hv⟩:∃pl,cH [cG (Sx.startL Ç Ã)]=.ok pl []/\(EE pl).isSome=true:=by
  rcases AF K with ⟨_,e⟩|⟨q,_,_,_,e⟩
  .exact⟨_,e,rfl⟩
  .exact⟨_,e,rfl⟩
 have wk:=aDI b _ I (Sx.startL Ç Ã) R none pl ep;refine iF (m0:=5) (rm:=0) ?_;rfl';unfold FJ;dsimp? [aIQ];unfold WV;refine⟨_,_,rfl,ie,?_⟩;dsimp? [ep,yP];refine⟨hv,?_⟩;dsimp? [];rw[BZ]at wk;exact wk
abbrev iL(ns:ZK):D:=.list (ns.map PyData.int)
def MJ(r:ZK×Int):D:=.tuple [iL r.1,.int r.2]
abbrev JW(rs:ZE):D:=.list (rs.map MJ)
def v7(b:Nat)(ps:ZF):Prop:=∀p∈ps,0<p.2/\bZ b p.1/\bZ b p.2
def ϳ(a:Nat)(ns:ZK):Prop:=∀n∈ns,bZ a n
def ź:bZ n 0:=by show (0:Int).natAbs<2^n;simp;exact Nat.two_pow_pos n
def Ŗ(h:1<=n):bZ n 1:=by
 show (1:Int).natAbs<2^n;have:2^1<=2^n:=Nat.pow_le_pow_right ⋯ h;simp;exact Ü ‹_›
def v7.at(h:v7 b ps)(hb:1<=b)(k:Nat):0<(ps.getD k (0,1)).2/\bZ b (ps.getD k (0,1)).1/\bZ b (ps.getD k (0,1)).2:=by
 rw[Ë];cases e:ps[k]? with
 |none=>exact⟨⋯,ź,Ŗ hb⟩
 |some p=>exact h p (Ā e)
def aDK{ns:ZK}(h:k<ns.length):atI (ns.map PyData.int) (k:Int)=some (.int (ns.getD k 0)):=by
 refine eX ?_;rw[Ñ,Ê h,Ë,Ê h];rfl
end Toy
namespace L2
open PySem PySem.Spec
end L2
namespace Toy
open PySem L2
section
def aDL(h:0<b):0<(oG t b).2:=M1 (by exact Int.ne_of_gt ‹_›)
def C1:(oG t b).1*b=t*(oG t b).2:=BN t b
def PB(h:bZ n x):bZ n (KH t b x):=by
 unfold KH;split
 .exact h.div.neg
 .exact h.div
def aDM(ht:bZ n t)(hb:bZ n b):bZ n (oG t b).1/\bZ n (oG t b).2:=⟨PB ht,PB hb⟩
end
def qs(n:Nat)(y:Nat->Int)(s:Int):ZF:=(List.range n).map λx=>oG (y x) s
section
def YV:(qs n y s).length=n:=by unfold qs;simp
def PD(h:k<n):(qs n y s).getD k (0,1)=oG (y k) s:=by
 unfold qs;rw[Ë,Ñ,ú h];rfl
def aDN(hs:0<s)(fs:bZ b s)(fy:∀x,x<n->bZ b (y x)):v7 b (qs n y s):=λp hp=>by
 unfold qs at hp;let⟨x,hx,rfl⟩:=Þ.mp hp;exact⟨aDL hs,aDM (fy x (List.mem_range.mp hx)) fs⟩
def aI6:mZ (qs n y s)=.list ((List.range n).map λx=>fr (oG (y x) s)):=by
 unfold mZ qs;rw[î];rfl
end
section
abbrev Ĳ(Ç:ZE)(Ã:ZK):Sx.Lp:=Sx.lpOf Ç Ã
abbrev y1(Ç:ZE)(Ã:ZK)(y:Nat->Int)(i:Nat):Int:=y (Ã.length+Ç.length+i)
end
section
end
end Toy
namespace L2
open PySem PySem.Spec
def FW(P:ZO)(h1:bK u δ P B C R)(h2:∀δ1,P δ1->bK v δ1 N B C R):bK (bO u v) δ N B C R:=by
 rw[BZ];let⟨fl,δ1,e,q⟩:=h1.ex;refine .of e ?_;cases fl with
 |next=>exact h2 _ q
 |_=>exact q
def seq_assoc:bO a (bO b c)=bO (bO a b) c:=by
 funext δ;unfold bO;cases a δ with
 |stuck=>rfl
 |err x d=>rfl
 |ok fl d=>cases fl<;>rfl
end L2
namespace Toy
open PySem L2
def ϣ:Į true (.str "fill") (.tuple [.str "fill",.str "none"])=some (.bool false):=by with_unfolding_all rfl
def aO4:G7 (.str "fill") (.str "fill")=some 'l':=by with_unfolding_all rfl
def aO5:AZ (.str "fill") (.str "fill")=some (.bool false):=by with_unfolding_all rfl
def aO6:AZ (.str "none") (.str "fill")=some 'l':=by with_unfolding_all rfl
end Toy
namespace L2
open PySem PySem.Spec
section
end
def bN{i:Nat}{δ:DS}(h1:δ[i]?=some (some (.list as))):iB (aK i) δ=.ok as δ:=by
 simp![iB,cM h1,aX]
def PF(h:aW (bD [f,g]) δ λds δ1=>ds=[.list as,.list bs]/\δ1=δ):A6 f g δ=.ok (nJ as bs) δ:=by
 let⟨ds,δ1,e,rfl,rfl⟩:=h.ex;unfold A6;rw[e,aX]
def pL{i:Nat}{δ:DS}(h1:δ[i]?=some (some (.list as))):xY (aK i) δ=.ok (fR as) δ:=by
 simp![xY,bD,cM h1,aX]
def PH(h:as.length=bs.length):(nJ as bs).length=as.length:=by simp[nJ,h]
def lH:(fR as).length=as.length:=by simp[fR]
def fO:iB (LA [dC a,dC b]) δ=.ok [a,b] δ:=by
 simp![iB,LA,bD,i6,aX];rw[Â (show [a,b].length<=sizeLine from Ø (show 2<=1000 by decide) ⋯)];rfl
def vB{α:Type}{enc g:α->D}{h:α->Bool}{t:M Bool}{e:M D}{δ:DS}:∀{xs:List α}{acc:ZI}{o:ZL},(∀x∈xs,t (some (enc x)::δ)=.ok (h x) (some (enc x)::δ))->(∀x∈xs,e (some (enc x)::δ)=.ok (g x) (some (enc x)::δ))->acc.length+xs.length<=sizeLine->∃o',bU (eB 0) t e (xs.map enc) acc (o::δ)=.ok (acc++(xs.filter h).map g) (o'::δ)
 |[],acc,o,_,_,_=>⟨o,by simp[bU]⟩
 |x::xs,acc,o,ht,he,hl=>by
  have hd:=ht x Õ;have hv:=he x Õ;rw[Ý]at hl;have e1:eB 0 (enc x) (o::δ)=some (some (enc x)::δ):=by simp[eB]
  cases hk:h x with
  |true=>
   let⟨o',ih⟩:=vB (xs:=xs) (acc:=acc++[g x]) (o:=some (enc x)) (λy hy=>ht y (Ó _ hy)) (λy hy=>he y (Ó _ hy)) (by simp;lia);refine⟨o',?_⟩;rw[Ð];unfold bU;rw[e1];simp![hd,hk,Res.bind,if_true,hv];rw[Â ∅,ih];simp[hk]
  |false=>
   let⟨o',ih⟩:=vB (xs:=xs) (acc:=acc) (o:=some (enc x)) (λy hy=>ht y (Ó _ hy)) (λy hy=>he y (Ó _ hy)) ∅;refine⟨o',?_⟩;rw[Ð];unfold bU;rw[e1];simp![hd,hk,Res.bind,Bool.false_eq_true,if_false];rw[Â ∅,ih];simp[hk]
def FX{α:Type}{enc g:α->D}{h:α->Bool}{f:M (ZI)}{t:M Bool}{e:M D}{δ:DS}{xs:List α}(hf:f δ=.ok (xs.map enc) δ)(hl:xs.length<=1000)(ht:∀x∈xs,aW t (some (enc x)::δ) λb δ1=>b=h x/\δ1=some (enc x)::δ)(he:∀x∈xs,aW e (some (enc x)::δ) λa δ1=>a=g x/\δ1=some (enc x)::δ):dY 1 (eB 0) f t e δ=.ok (.list ((xs.filter h).map g)) δ:=by
 unfold dY;rw[hf];let⟨o',q⟩:=vB (h:=h) (t:=t) (acc:=[]) (o:=none) (λx hx=>by
  let⟨b,δ1,e,rfl,rfl⟩:=(ht x hx).ex;exact e) (λx hx=>dJ (he x hx)) (by rw[List.length_nil,Nat.zero_add];exact Ø hl (show 1000<=sizeLine by decide))
 simp![Res.bind];rw[show List.replicate 1 (none:ZL)++δ=none::δ from rfl,q];simp
def ϴ{n:Nat}{k:Int}(h0:0<=k)(h1:k<n):lN n k=some k.toNat:=by
 unfold lN;rw[Â ∅,Â ∅]
def aML{as:List α}(h0:0<=k)(h1:k.toNat<as.length):atI as k=some as[k.toNat]:=by
 have e:k=(k.toNat:Int):=by lia
 have:=Ŵ (as:=as) (k:=k.toNat) h1;rw[<- e]at this;exact this
def aDO(h:c<1000):PyData.strOk ⟨#[c]⟩=true:=by
 show (#[c]:Array Nat).all (·<0x110000)=true;simp;lia
def C2(h:x.length+y.length<=1000):G6 (.str x) (.str y)=some (.str (x++y)):=by
 have hz:sizeLine=2^24:=rfl;have:D6 (.str x) (.str y)=some (.str (x++y)):=Â ∅;unfold G6;rw[this];rfl
def hZ{x y:Str}:(x++y).length=x.length+y.length:=by
 show (x.cps++y.cps).size=_;rw[Array.size_append];rfl
def AG(hx:PyData.strOk x=true)(hy:PyData.strOk y=true):PyData.strOk (x++y)=true:=by
 show (x.cps++y.cps).all (·<0x110000)=true;rw[Array.all_append,show x.cps.all (·<0x110000)=true from hx,show y.cps.all (·<0x110000)=true from hy];rfl
def v8(s:String):PyData.strOk (Str.ofString s)=true:=by
 rw[Str.ofString_eq_toList];show ((s.toList.map Char.toNat).toArray).all (·<0x110000)=true;rw[List.all_toArray,é];intro x hx;let⟨c,_,rfl⟩:=Þ.mp hx;have:=c.valid;rw[decide_eq_true_eq];rcases this with h|h
 .exact Nat.lt_trans h ⋯
 .exact h.2
structure cR(z:Str):Prop where
 len:z.length<=8
 ok:PyData.strOk z=true
def cR.sh(h:cR z):Sh 1 (.str z):=by
 have hz:sizeLine=2^24:=rfl;have:=h.len;exact⟨by simp[PyData.canLay0,h.ok],by simp[PyData.depth]⟩
def ϵ(hx:cR x)(hy:cR y):G7 (.str x) (.str y)=some (.bool (x == y)):=by
 unfold G7;rw[Â ⟨hx.sh.shaped ⋯,hy.sh.shaped ⋯⟩];rfl
end L2
namespace Toy
open PySem L2
structure St where
 nm:Str
 x:Int
 y:Int
 z:Int
 t:Int
 h:Int
 m:Int
structure Bx where
 nm:Str
 w:Int
 p:Str
 k:Str
 b:Int
structure Tk where
 nm:Str
 x:Int
 y:Int
 z:Int
 r:Int
def kL(s:St):D:=.tuple [.str s.nm,.int s.x,.int s.y,.int s.z,.int s.t,.int s.h,.int s.m]
def cC(b:Bx):D:=.tuple [.str b.nm,.int b.w,.str b.p,.str b.k,.int b.b]
def kM(t:Tk):D:=.tuple [.str t.nm,.int t.x,.int t.y,.int t.z,.int t.r]
def aN(bs:List Bx):D:=.list (bs.map cC)
def kP(x:Int):Prop:=-1000000000<=x/\x<=1000000000
structure FY(s:St):Prop where
 nm:cR s.nm
 x:kP s.x
 y:kP s.y
 z:kP s.z
 t:kP s.t
structure FZ(s:Tk):Prop where
 nm:cR s.nm
 x:kP s.x
 y:kP s.y
 z:kP s.z
 r:0<=s.r/\s.r<=1000000000
structure aI7(b:Bx):Prop where
 nm:cR b.nm
 p:cR b.p
 k:cR b.k
 w:1<=b.w/\b.w<=1000000000
structure qS(own:Int×Int×Int×Int)(ss:List St)(cs:List (List Bx))(ts:List Tk):Prop where
 o0:1<=own.1/\own.1<=1000000000
 o1:kP own.2.1/\kP own.2.2.1/\kP own.2.2.2
 ls:ss.length<=10
 lc:cs.length=ss.length
 lb:∀c∈cs,c.length<=30
 lt:ts.length<=4
 gs:∀s∈ss,FY s
 gb:∀c∈cs,∀b∈c,aI7 b
 gt:∀t∈ts,FZ t
def mM(o:Int×Int×Int×Int):D:=.tuple [.int o.1,.int o.2.1,.int o.2.2.1,.int o.2.2.2]
abbrev Q4:=Int×Int×Int×Int
def T4:List Q4->Q4
 |[]=>(0,0,0,0)
 |p::l=>(p.1+(T4 l).1,p.1*p.2.1+(T4 l).2.1,p.1*p.2.2.1+(T4 l).2.2.1,p.1*p.2.2.2+(T4 l).2.2.2)
def YW:∀(l m:List Q4),T4 (l++m)=((T4 l).1+(T4 m).1,(T4 l).2.1+(T4 m).2.1,(T4 l).2.2.1+(T4 m).2.2.1,(T4 l).2.2.2+(T4 m).2.2.2)
 |[],m=>by simp[T4]
 |p::l,m=>by
  rw[List.cons_append,T4,YW l m,T4];simp![Int.add_assoc]
def PJ(l:List Q4)(p:Q4):T4 (l++[p])=((T4 l).1+p.1,(T4 l).2.1+p.1*p.2.1,(T4 l).2.2.1+p.1*p.2.2.1,(T4 l).2.2.2+p.1*p.2.2.2):=by
 rw[YW];simp[T4]
def t7:St:=⟨"",0,0,0,0,0,0⟩
def wV:Bx:=⟨"",0,"","",0⟩
def aQH:Tk:=⟨"",0,0,0,0⟩
def F7(s:St)(bs:List Bx)(t:Nat):(List Q4):=(List.range t).map λ(j:Nat)=>((bs.getD j wV).w,s.x,s.y,s.z+(j:Int)*s.t)
def mY(ss:List St)(cs:List (List Bx))(k:Nat):(List Q4):=((List.range k).map λj=>F7 (ss.getD j t7) (cs.getD j []) (cs.getD j []).length).flatten
def JX:F7 s bs (t+1)=F7 s bs t++[((bs.getD t wV).w,s.x,s.y,s.z+(t:Int)*s.t)]:=by
 unfold F7;rw[List.range_succ,ß];rfl
def AH:mY ss cs (k+1)=mY ss cs k++F7 (ss.getD k t7) (cs.getD k []) (cs.getD k []).length:=by
 unfold mY;rw[List.range_succ,ß,List.flatten_append];simp
def eY{α:Type}{l:List α}{d:α}(h:k<l.length):l[k]?=some (l.getD k d):=by
 rw[Ë,Ê h];rfl
def bX{α:Type}{l:List α}{d:α}(h:k<l.length):l.getD k d∈l:=Ā (eY h)
def AI{α:Type}{enc:α->D}{l:List α}{d:α}(h:k<l.length):atI (l.map enc) (k:Int)=some (enc (l.getD k d)):=by
 refine eX ?_;rw[Ñ,eY (d:=d) h];rfl
def MK(q:Q4):D:=.tuple [.int q.1,.int q.2.1,.int q.2.2.1,.int q.2.2.2]
def Sm(x:Int):Prop:=-18446744073709551616<x/\x<18446744073709551616
def JY(hw:Sm w):wP [MK q,.int w,.tuple [.int x,.int y,.int z]]=.ok (MK (q.1+w,q.2.1+w*x,q.2.2.1+w*y,q.2.2.2+w*z)) []:=by
 let⟨h1,h2⟩:=hw;sleep 2;rfl';unfold FL;dsimp? [MK];exact⟨by ac_nf,by ac_nf,by ac_nf⟩
def JZ{α β:Type}{f:α->D}{g:β->D}{as:List α}{bs:List β}{a0:α}{b0:β}{k:Nat}{d:D}(h:(nJ (as.map f) (bs.map g))[k]?=some d):k<as.length/\k<bs.length/\d=.tuple [f (as.getD k a0),g (bs.getD k b0)]:=by
 have hi:=(Î.mp h).1;simp![nJ,List.length_zipWith,Æ]at hi;have h1:k<as.length:=by lia
 have h2:k<bs.length:=by lia
 refine⟨h1,h2,?_⟩;rw[nJ,List.getElem?_zipWith,Ñ,Ñ,eY (d:=a0) h1,eY (d:=b0) h2]at h;simp![Option.map_some,Option.some.injEq]at h;rw[<- h]
def iS{α:Type}{f:α->D}{as:List α}{a0:α}{k:Nat}{d:D}(h:(fR (as.map f))[k]?=some d):k<as.length/\d=.tuple [.int (k:Int),f (as.getD k a0)]:=by
 have hi:=(Î.mp h).1;simp![fR,List.length_mapIdx,Æ]at hi;refine⟨hi,?_⟩;rw[fR,List.getElem?_mapIdx,Ñ,eY (d:=a0) hi]at h;simp![Option.map_some,Option.some.injEq]at h;rw[<- h]
def aMM:Ň (.tuple (a::l)) (some 1) none=some (.tuple l):=by
 show (if HT.sIx (l.length+1) 0 (some ((1:Nat):Int))=0/\HT.sIx (l.length+1) (l.length+1) none=l.length+1 then none else some (PyData.tuple (A0 (a::l) (some ((1:Nat):Int)) none)))=_;rw[HT.sIx_nat,Ä ∅];have:=yB (ds:=a::l) (k:=1) 'f';have:=PyData.list.inj (Option.some.inj this);rw[this];rfl
section
variable {own:Q4}{ss:List St}{cs:List (List Bx)}{ts:List Tk}{bd ap tk:D}
def ML(M:qS own ss cs ts):CI [.tuple [mM own,bd,.list (ss.map kL),tk,ap],.list 'c']=.ok (MK 's') []:=by
 have lc:=M.lc;have ls:=M.ls;have o0:=M.o0;sleep 2;rfl';unfold uZ;have e0:=JY (q:=(0,0,0,0)) (w:=own.1) (x:=own.2.1) (y:=own.2.2.1) (z:=own.2.2.2) (by unfold Sm;lia);have z0:((0+own.1,0+own.1*own.2.1,0+own.1*own.2.2.1,0+own.1*own.2.2.2):Q4)=T4 [own]:=by simp[T4]
 rw[z0]at e0;have e0':wP [.tuple [.int 0,.int 0,.int 0,.int 0],.int own.1,.tuple [.int own.2.1,.int own.2.2.1,.int own.2.2.2]]=.ok (MK (T4 [own])) []:=e0;dsimp? [mM,VO,uK,uL,B3,aMM,e0'];refine dN (ds:=nJ (ss.map kL) 'c') (δ1:=_) (λk δ=>∃o4 o5 o6 o7 o8,δ=[some (.tuple [.tuple [.int own.1,.int own.2.1,.int own.2.2.1,.int own.2.2.2],bd,.list (ss.map kL),tk,ap]),some 'j',some (.tuple [.int own.1,.int own.2.1,.int own.2.2.1,.int own.2.2.2]),some (MK (T4 (own::mY ss cs k))),o4,o5,o6,o7,o8]) (PF (by dsimp? [])) ⟨_,_,_,_,_,by simp[mY];exact⟨rfl,rfl,rfl,rfl,rfl⟩⟩ ?_ ?_
 .rintro k d δ hk ⟨o4,o5,o6,o7,o8,rfl⟩
  let⟨k1,k2,rfl⟩:=JZ (a0:=t7) (b0:=[]) hk;have gb:=M.gb _ (bX (d:=[]) k2);refine⟨_,rfl,?_⟩;refine dN (ds:=fR ((cs.getD k []).map cC)) (λt δ=>∃o6 o7 o8,δ=[some (.tuple [.tuple [.int own.1,.int own.2.1,.int own.2.2.1,.int own.2.2.2],bd,.list (ss.map kL),tk,ap]),some 'j',some (.tuple [.int own.1,.int own.2.1,.int own.2.2.1,.int own.2.2.2]),some (MK (T4 (own::mY ss cs k++F7 (ss.getD k t7) (cs.getD k []) t))),some (kL (ss.getD k t7)),some (aN (cs.getD k [])),o6,o7,o8]) (pL rfl) ⟨_,_,_,by simp[F7];exact⟨rfl,rfl,rfl⟩⟩ ?_ ?_
  .rintro t d δ ht ⟨o6,o7,o8,rfl⟩
   let⟨t1,rfl⟩:=iS (a0:=wV) ht;have gw:=gb _ (bX (d:=wV) t1);generalize hs:ss.getD k t7=s at *;generalize hb:(cs.getD k []).getD t wV=b at *;have e1:=JY (q:=T4 (own::mY ss cs k++F7 s (cs.getD k []) t)) (w:=b.w) (x:=s.x) (y:=s.y) (z:=s.z+(t:Int)*s.t) (by unfold Sm;have:=gw.w;lia);have lb:=M.lb _ (bX (d:=[]) k2);refine⟨_,rfl,?_⟩;dsimp? [kL,cC,e1];have eT:T4 (own::mY ss cs k++F7 s (cs.getD k []) (t+1))=((T4 (own::mY ss cs k++F7 s (cs.getD k []) t)).1+b.w,(T4 (own::mY ss cs k++F7 s (cs.getD k []) t)).2.1+b.w*s.x,(T4 (own::mY ss cs k++F7 s (cs.getD k []) t)).2.2.1+b.w*s.y,(T4 (own::mY ss cs k++F7 s (cs.getD k []) t)).2.2.2+b.w*(s.z+(t:Int)*s.t)):=by
    rw[JX,<- List.append_assoc,PJ,hb]
   rw[eT];exact⟨by ac_nf,_,_,_,rfl⟩
  .rintro δ ⟨o6,o7,o8,rfl⟩
   rw[lH,Æ,AH];exact⟨_,_,_,_,_,rfl⟩
 .rintro δ ⟨o4,o5,o6,o7,o8,rfl⟩
  rw[PH (by simp[lc]),Æ];dsimp? []
end
section
variable {own:Q4}{ss:List St}{cs:List (List Bx)}{ts:List Tk}
def C3:(ts.map λt=>PyData.int (f t))=(ts.map f).map PyData.int:=by simp
def F9{g:Tk->Int}(hl:ts.length<=10)(hg:∀t:Tk,atI [PyData.str t.nm,.int t.x,.int t.y,.int t.z,.int t.r] axis=some (.int (g t)))(hq:atI [PyData.int q.1,.int q.2.1,.int q.2.2.1,.int q.2.2.2] axis=some (.int qa))(hh:kP high):
  gW [.list (ts.map kM),.int axis,.int high,MK q]=.ok (MJ (ts.map λt=>g t-high,high*q.1-qa)) []:=by
 unfold kP at hh;sleep 2;rfl';unfold kK;dsimp? [];refine aW.of (bR (enc:=kM) (xs:=ts) (g:=λt=>.int (g t-high)) (bN rfl) ∅ λt _=>?_) ?_
 .dsimp? [kM,hg]
 .rw[C3]
  dsimp? [MK,hq,MJ];exact(by ac_nf)
def YX{g:Tk->Int}(hl:ts.length<=10)(hg:∀t:Tk,atI [PyData.str t.nm,.int t.x,.int t.y,.int t.z,.int t.r] axis=some (.int (g t)))(hq:atI [PyData.int q.1,.int q.2.1,.int q.2.2.1,.int q.2.2.2] axis=some (.int qa))(hh:kP low):
  mE [.list (ts.map kM),.int axis,.int low,MK q]=.ok (MJ (ts.map λt=>low-g t,qa-low*q.1)) []:=by
 unfold kP at hh;sleep 2;rfl';unfold mD;dsimp? [];refine aW.of (bR (enc:=kM) (xs:=ts) (g:=λt=>.int (low-g t)) (bN rfl) ∅ λt _=>?_) ?_
 .dsimp? [kM,hg]
 .rw[C3]
  dsimp? [MK,hq,MJ];exact(by ac_nf)
structure MM where
 b0:Int
 b1:Int
 b2:Int
 b3:Int
 b4:Int
 b5:Int
structure tY(b:MM):Prop where
 b0:kP b.b0
 b1:kP b.b1
 b2:kP b.b2
 b3:kP b.b3
 b4:kP b.b4
 b5:kP b.b5
def BE(b:MM):D:=.tuple [.int b.b0,.int b.b1,.int b.b2,.int b.b3,.int b.b4,.int b.b5]
def v9(ts:List Tk)(b:MM)(q:Q4):ZE:=
 [(ts.map λt=>t.x-b.b1,b.b1*q.1-q.2.1),(ts.map λt=>b.b0-t.x,q.2.1-b.b0*q.1),(ts.map λt=>t.y-b.b3,b.b3*q.1-q.2.2.1),(ts.map λt=>b.b2-t.y,q.2.2.1-b.b2*q.1),(ts.map λt=>t.z-b.b4,b.b4*q.1-q.2.2.2),(ts.map λ_=>1,b.b5-q.1)]
def aDP(M:qS own ss cs ts)(g:tY b):u1 [.tuple [mM own,BE b,.list (ss.map kL),.list (ts.map kM),ap],.list 'c']=.ok (.list ((v9 ts b 's').map MJ)) []:=by
 have lt:ts.length<=10:=Ø M.lt ⋯;have e0:=ML (bd:=BE b) (tk:=.list (ts.map kM)) (ap:=ap) M;generalize T4 (own::mY ss cs ss.length)=q at *;have h1:=F9 (ts:=ts) (axis:=1) (g:=λt=>t.x) (q:=q) (qa:=q.2.1) lt (λ_=>B1) B1 g.b1;have h2:=YX (ts:=ts) (axis:=1) (g:=λt=>t.x) (q:=q) (qa:=q.2.1) lt (λ_=>B1) B1 g.b0;have h3:=F9 (ts:=ts) (axis:=2) (g:=λt=>t.y) (q:=q) (qa:=q.2.2.1) lt (λ_=>B2) B2 g.b3;have h4:=YX (ts:=ts) (axis:=2) (g:=λt=>t.y) (q:=q) (qa:=q.2.2.1) lt (λ_=>B2) B2 g.b2;have h5:=F9 (ts:=ts) (axis:=3) (g:=λt=>t.z) (q:=q) (qa:=q.2.2.2) lt (λ_=>N1) N1 g.b4;sleep 2;rfl';unfold u0;dsimp? [e0];simp![BE];dsimp? [h1,h2,h3,h4,h5];refine aW.of (bR (enc:=kM) (xs:=ts) (g:=λ_=>.int 1) (bN rfl) ∅ λt _=>by dsimp? []) ?_;rw[C3 (f:=λ_=>1)];dsimp? [MK];rfl
def MN(lt:ts.length<=10):rB [.tuple [A,B,C,.list (ts.map kM),E]]=.ok (iL (ts.map λt=>t.r)) []:=by
 sleep 2;rfl';unfold rA;dsimp? [];refine aW.of (bR (enc:=kM) (xs:=ts) (g:=λt=>.int t.r) (cJ (by dsimp? [])) ∅ λt _=>by dsimp? [kM]) ?_;rw[C3];exact⟨rfl,rfl⟩
end
section
variable {own:Q4}{ss:List St}{cs:List (List Bx)}{ts:List Tk}
def Ϸ(h1:-1000000000<=x)(h2:x<=1000000000):bZ 30 x:=by show x.natAbs<2^30;lia
def kP.fit(h:kP x):bZ 30 x:=Ϸ h.1 h.2
def PK:∀l:List Q4,T4 l=((l.map λq=>q.1).sum,(l.map λq=>q.1*q.2.1).sum,(l.map λq=>q.1*q.2.2.1).sum,(l.map λq=>q.1*q.2.2.2).sum)
 |[]=>rfl
 |p::l=>by rw[T4,PK l];simp
def PL(M:qS own ss cs ts):∀k,k<=ss.length->(mY ss cs k).length<=30*k
 |0,_=>by simp[mY]
 |k+1,hk=>by
  have ih:=PL M k ∅;have lc:=M.lc;have lb:=M.lb _ (bX (d:=[]) (show k<cs.length by lia));rw[AH,Ò];have:(F7 (ss.getD k t7) (cs.getD k []) (cs.getD k []).length).length=(cs.getD k []).length:=by simp[F7]
  lia
structure aQI(p:Q4):Prop where
 w:1<=p.1/\p.1<=1000000000
 x:bZ 40 p.2.1
 y:bZ 40 p.2.2.1
 z:bZ 40 p.2.2.2
def aI8(M:qS own ss cs ts):∀p∈own::mY ss cs ss.length,aQI p:=λp hp=>by
 rcases Ï.mp hp with rfl|hp
 .have:=M.o1
  exact⟨M.o0,this.1.fit.mono ⋯,this.2.1.fit.mono ⋯,this.2.2.fit.mono ⋯⟩
 .unfold mY at hp
  let⟨l,hl,hq⟩:=List.mem_flatten.mp hp;let⟨j,hj,rfl⟩:=Þ.mp hl;have hj:=List.mem_range.mp hj;unfold F7 at hq;let⟨t,ht,rfl⟩:=Þ.mp hq;have ht:=List.mem_range.mp ht;have lc:=M.lc;have hc:j<cs.length:=by lia
  have gb:=M.gb _ (bX (d:=[]) hc) _ (bX (d:=wV) ht);have lb:=M.lb _ (bX (d:=[]) hc);have gs:=M.gs _ (bX (d:=t7) hj);refine⟨gb.w,gs.x.fit.mono ⋯,gs.y.fit.mono ⋯,?_⟩;have h1:=gs.z;have h2:=gs.t;unfold kP at h1 h2;have ht':(t:Int)<=30:=by lia
  have e1:(t:Int)*(ss.getD j t7).t<=30*1000000000:=by
   have a1:=Int.mul_le_mul_of_nonneg_left h2.2 (show (0:Int)<=(t:Int) by lia);lia
  have e2:-(30*1000000000)<=(t:Int)*(ss.getD j t7).t:=by
   have a1:=Int.mul_le_mul_of_nonneg_left h2.1 (show (0:Int)<=(t:Int) by lia);lia
  show ((ss.getD j t7).z+(t:Int)*(ss.getD j t7).t).natAbs<2^40;lia
open Classical in
end
def YY :∀xs:ZK,(∀x∈xs,bZ m x)->xs.sum.natAbs<=xs.length*2^m
 |[],_=>ò _
 |x::xs,h=>by
  have h1:x.natAbs<2^m:=h x Õ;have h2:=YY xs λq hq=>h q (Ó _ hq);rw[List.sum_cons,Ý,Nat.succ_mul];have:=Int.natAbs_add_le x xs.sum;lia
def PM{xs:ZK}(hl:xs.length<512)(hn:m+9=n)(h:∀x∈xs,bZ m x):bZ n xs.sum:=by
 subst hn;have:=YY xs h;have h2:=Nat.two_pow_pos m;show _<2^(m+9);rw[Nat.pow_add,Nat.mul_comm];exact û this ((Nat.mul_lt_mul_right h2).mpr hl)
section
variable {own:Q4}{ss:List St}{cs:List (List Bx)}{ts:List Tk}
def aI9(M:qS own ss cs ts):bZ 80 's'.1/\bZ 80 's'.2.1/\bZ 80 's'.2.2.1/\bZ 80 's'.2.2.2:=by
 have ls:=M.ls;have len:=PL M ss.length (È _);have al:=aI8 M;rw[PK];have l1:(own::mY ss cs ss.length).length<512:=by rw[Ý];lia
 generalize own::mY ss cs ss.length=L at *;have w:∀p∈L,bZ 30 p.1:=λp hp=>Ϸ (by have:=(al p hp).w;lia) (al p hp).w.2;have main:∀f:Q4->Int,(∀p∈L,bZ 71 (f p))->bZ 80 (L.map f).sum:=λf hf=>PM (m:=71) (by rw[Æ];exact l1) rfl λx hx=>by
  let⟨p,hp,rfl⟩:=Þ.mp hx;exact hf p hp
 exact⟨main _ λp hp=>(w p hp).mono ⋯,main _ λp hp=>(w p hp).mul (al p hp).x ⋯,main _ λp hp=>(w p hp).mul (al p hp).y ⋯,main _ λp hp=>(w p hp).mul (al p hp).z ⋯⟩
structure W9(Ç:ZE)(Ã:ZK):Prop where
 n:Ã.length<=4
 m:Ç.length<=8
 rw:∀r∈Ç,r.1.length=Ã.length/\ϳ 40 r.1/\bZ 120 r.2
 ro:∀r∈Ã,0<=r/\r<=1000000000
def aDQ(M:qS own ss cs ts)(g:tY b):W9 (v9 ts b 's') (ts.map λt=>t.r):=by
 let⟨f0,f1,f2,f3⟩:=aI9 M;have mp:∀(h:Tk->Int),(∀t∈ts,bZ 31 (h t))->ϳ 40 (ts.map h):=λh hh x hx=>by
  let⟨t,ht,rfl⟩:=Þ.mp hx;exact(hh t ht).mono ⋯
 generalize T4 (own::mY ss cs ss.length)=q at *;refine⟨by rw[Æ];exact M.lt,Nat.le_of_ble_eq_true rfl,λr hr=>?_,λr hr=>?_⟩
 .unfold v9 at hr
  simp![Ï,ä,or_false]at hr;rcases hr with rfl|rfl|rfl|rfl|rfl|rfl
  .exact⟨by simp,mp _ λt ht=>(M.gt t ht).x.fit.sub g.b1.fit ⋯,(g.b1.fit.mul f0 (k:=110) ⋯).sub f1 ⋯⟩
  .exact⟨by simp,mp _ λt ht=>g.b0.fit.sub (M.gt t ht).x.fit ⋯,f1.sub (g.b0.fit.mul f0 (k:=110) ⋯) ⋯⟩
  .exact⟨by simp,mp _ λt ht=>(M.gt t ht).y.fit.sub g.b3.fit ⋯,(g.b3.fit.mul f0 (k:=110) ⋯).sub f2 ⋯⟩
  .exact⟨by simp,mp _ λt ht=>g.b2.fit.sub (M.gt t ht).y.fit ⋯,f2.sub (g.b2.fit.mul f0 (k:=110) ⋯) ⋯⟩
  .exact⟨by simp,mp _ λt ht=>(M.gt t ht).z.fit.sub g.b4.fit ⋯,(g.b4.fit.mul f0 (k:=110) ⋯).sub f3 ⋯⟩
  .exact⟨by simp,mp _ λt ht=>Ŗ ⋯,g.b5.fit.sub f0 ⋯⟩
 .obtain⟨t,ht,rfl⟩:=Þ.mp hr
  exact(M.gt t ht).r
end
def aDR(inj:∀i j,i<n->j<n->f i=f j->i=j)(hw:∀j,j<n->bZ b (w j))(u:Nat):bZ b (Sx.shr n f w u):=by
 by_cases c:∃j,j<n/\f j=u
 .obtain⟨j,hj,rfl⟩:=c
  rw[Sx.shr_at inj hj];exact hw j hj
 .rw[Sx.shr_no λj hj e=>c ⟨j,hj,e⟩]
  exact ź
section
def W9.bnd(W:W9 Ç Ã):Č Ç Ã (2^40) (2^120)/\Sx.fac Ã.length*(2^40)^Ã.length<2^300/\(Ã.length+1)*(Sx.fac Ã.length*(2^40)^Ã.length*2^120)<2^300:=by
 have n4:=W.n;have r8:=W.m;have hh:Sx.fac Ã.length*(2^40)^Ã.length<2^300/\(Ã.length+1)*(Sx.fac Ã.length*(2^40)^Ã.length*2^120)<2^300:=by
  have:Ã.length=0\/Ã.length=1\/Ã.length=2\/Ã.length=3\/Ã.length=4:=by lia
  rcases this with h|h|h|h|h<;>rw[h]<;>decide
 have up:(2:Nat)^300<2^4000:=by decide
 refine⟨⟨λr hr=>(W.rw r hr).1,∅,∅,⋯,λr hr x hx=>É ((W.rw r hr).2.1 x hx),λr hr=>É (W.rw r hr).2.2,λx hx=>?_,Nat.lt_trans hh.1 up,Nat.lt_trans hh.2 up⟩,hh⟩;have:=W.ro x hx;have h70:(1000000000:Nat)<=2^120:=by decide
 lia
theorem W9.fit(W:W9 Ç Ã)(I:Sx.Inv (Ĳ Ç Ã).pr σ T):bZ 300 T.s/\∀r j,r<=(Ĳ Ç Ã).pr.k->j<=Ã.length->bZ 300 (T.L r j):=by
 let⟨b,h1,h2⟩:=W.bnd;let⟨i1,i2,i3⟩:=I.small (A:=2^40) (C:=2^120) (λu x _ _=>b.pa u x) (λu _=>b.pc u);refine⟨û i1 h1,λr j hr hj=>?_⟩;by_cases e:j<Ã.length
 .exact û (i2 r j hr e) h1
 .obtain rfl:j=Ã.length:=by lia
  exact û (i3 r hr) h2
end
section
def cell(ns:ZK)(k:Int):Int:=ns.getD k.toNat 0
def GA(h0:0<=k):j0 [iL ns,.int k]=.ok (.int (cell ns k)) []:=by
 sleep 2;rfl';unfold oB;by_cases h:k<(ns.length:Int)
 .have e:k=(k.toNat:Int):=by lia
  have e2:=aDK (ns:=ns) (k:=k.toNat) ∅;rw[<- e]at e2;dsimp? [Æ,h,decide_true,e2,cell]
 .have e:cell ns k=0:=by unfold cell;rw[Ë,à ∅];rfl
  dsimp? [Æ,h,decide_false,Bool.false_eq_true,e]
def dr(ns:ZK)(k m:Int):Int:=(cell ns k % 1000003+k*k)*48271 % 999983 % m
def ot(ns:ZK)(k m:Int):Int:=(cell ns k % 1000033+7*k+1)*69621 % 1000003 % m
def th(ns:ZK)(k m:Int):Int:=(cell ns k % 1000037+11*k+5)*16807 % 999979 % m
def iI(h:0<m):0<=dr ns k m/\dr ns k m<m:=⟨Int.emod_nonneg _ ∅,Int.emod_lt_of_pos _ h⟩
def lI(h:0<m):0<=ot ns k m/\ot ns k m<m:=⟨Int.emod_nonneg _ ∅,Int.emod_lt_of_pos _ h⟩
def lJ(h:0<m):0<=th ns k m/\th ns k m<m:=⟨Int.emod_nonneg _ ∅,Int.emod_lt_of_pos _ h⟩
def lK(h0:0<=k)(h1:k<=1000)(h:0<m):cF [iL ns,.int k,.int m]=.ok (.int (dr ns k m)) []:=by
 sleep 2;rfl';unfold zN;dsimp? [GA h0,N0,Int.reduceLT,h,dr];exact⟨by ac_nf,by ac_nf⟩
def oH(h0:0<=k)(h1:k<=1000)(h:0<m):cX [iL ns,.int k,.int m]=.ok (.int (ot ns k m)) []:=by
 sleep 2;rfl';unfold u4;dsimp? [GA h0,N0,Int.reduceLT,h,ot];exact⟨by ac_nf,by ac_nf⟩
def qD(h0:0<=k)(h1:k<=1000)(h:0<m):cO [iL ns,.int k,.int m]=.ok (.int (th ns k m)) []:=by
 sleep 2;rfl';unfold u5;dsimp? [GA h0,N0,Int.reduceLT,h,th];exact⟨by ac_nf,by ac_nf⟩
def jL(i:Int):Str:=⟨#[97+i.toNat]⟩
def YZ:∀n<26,(match eK (.str "abcdefghijklmnopqrstuvwxyz") (.int (n:Nat))with|some (.str z)=>z.cps == #[97+n]|_=>false)=true:=by decide +kernel
def wW(h0:0<=i)(h1:i<26):eK (.str "abcdefghijklmnopqrstuvwxyz") (.int i)=some (.str (jL i))/\(jL i).length=1/\PyData.strOk (jL i)=true:=by
 refine⟨?_,rfl,aDO ∅⟩;have h:=YZ i.toNat ∅;rw[Int.toNat_of_nonneg h0]at h;split at h
 .rename_i z e
  rw[e];unfold jL;congr 2;cases z;exact congrArg Str.mk (beq_iff_eq.mp h)
 .cases h
def nm(ns:ZK)(k n:Int):Str:=
 iN (jL (dr ns k 26)) (ot ns k (1+th ns k 8))++jL ((7*n+ot ns (k+1) 26) % 26)++iN (jL (dr ns k 26)) (1+th ns k 8-1-ot ns k (1+th ns k 8))
def J1:(jL (dr ns k 26)).length=1/\PyData.strOk (jL (dr ns k 26))=true/\(jL ((7*n+ot ns (k+1) 26) % 26)).length=1/\PyData.strOk (jL ((7*n+ot ns (k+1) 26) % 26))=true:=by
 have h1:=iI (ns:=ns) (k:=k) (m:=26) ⋯;have a:=wW h1.1 h1.2;have b:=wW (i:=(7*n+ot ns (k+1) 26) % 26) ∅ ∅;exact⟨a.2.1,a.2.2,b.2.1,b.2.2⟩
def j6:cR (nm ns k n):=by
 let⟨a1,a2,b1,b2⟩:=J1 (ns:=ns) (k:=k) (n:=n);have h1:=lJ (ns:=ns) (k:=k) (m:=8) ⋯;have h2:=lI (ns:=ns) (k:=k) (m:=1+th ns k 8) ∅;unfold nm;refine⟨?_,AG (AG (N9 a2) b2) (N9 a2)⟩;rw[hZ,hZ,jB,jB,a1,b1];lia
def j7(h0:0<=k)(h1:k<=900)(n0:0<=n)(n1:n<=1000):gA [iL ns,.int k,.int n]=.ok (.str (nm ns k n)) []:=by
 sleep 2;rfl';unfold zO;have t1:=lJ (ns:=ns) (k:=k) (m:=8) ⋯;have t2:=lI (ns:=ns) (k:=k) (m:=1+th ns k 8) ∅;have t3:=iI (ns:=ns) (k:=k) (m:=26) ⋯;have p1:=wW t3.1 t3.2;have p2:=wW (i:=(7*n+ot ns (k+1) 26) % 26) ∅ ∅;have e1:=qD (ns:=ns) (k:=k) (m:=8) h0 ∅ ⋯;have e2:=oH (ns:=ns) (k:=k) (m:=1+th ns k 8) h0 ∅ ∅;have e3:=lK (ns:=ns) (k:=k) (m:=26) h0 ∅ ⋯;have e4:=oH (ns:=ns) (k:=k+1) (m:=26) ∅ ∅ ⋯;have en:nm ns k n=iN (jL (dr ns k 26)) (ot ns k (1+th ns k 8))++jL ((7*n+ot ns (k+1) 26) % 26)++iN (jL (dr ns k 26)) (1+th ns k 8-1-ot ns k (1+th ns k 8)):=rfl;rw[en];clear en;generalize jL (dr ns k 26)=x at *;generalize jL ((7*n+ot ns (k+1) 26) % 26)=y at *;have l1:=jB (x:=x) (n:=ot ns k (1+th ns k 8));have l2:=jB (x:=x) (n:=1+th ns k 8-1-ot ns k (1+th ns k 8));have r1:=Ϟ (i:=x) (n:=ot ns k (1+th ns k 8)) ∅ ∅ ∅;have r2:=Ϟ (i:=x) (n:=1+th ns k 8-1-ot ns k (1+th ns k 8)) ∅ ∅ ∅;rw[p1.2.1,Nat.mul_one]at l1 l2;have s1:=C2 (x:=iN x (ot ns k (1+th ns k 8))) (y:=y) ∅;have l3:(iN x (ot ns k (1+th ns k 8))++y).length=_:=hZ;have s2:=C2 (x:=iN x (ot ns k (1+th ns k 8))++y) (y:=iN x (1+th ns k 8-1-ot ns k (1+th ns k 8))) ∅;dsimp? [e1,e2,e3,e4,p1.1,p2.1,N0,Int.reduceLT,r1,r2,s1,s2];exact(by ac_nf)
def wA(ns:ZK):Int:=if dr ns 0 4=2 then 997 else if dr ns 0 4=3 then 1000000 else 1
def rN:1<=wA ns/\wA ns<=1000000:=by
 unfold wA;split
 .decide
 .split<;>decide
def aQJ:ń (.int 10) (.int 6)=some (.int 1000000):=by
 rw[aBE (aPW ∅ ∅ ⋯)];rfl
def oJ:lD [iL ns]=.ok (.int (wA ns)) []:=by
 sleep 2;rfl';unfold u6;have t:=iI (ns:=ns) (k:=0) (m:=4) ⋯;have e:atI [PyData.int 1,.int 1,.int 997,.int 1000000] (dr ns 0 4)=some (.int (wA ns)):=by
  unfold wA;have:dr ns 0 4=0\/dr ns 0 4=1\/dr ns 0 4=2\/dr ns 0 4=3:=by lia
  rcases this with z|z|z|z<;>rw[z]<;>rfl
 dsimp? [aQJ,lK,Int.reduceLE,Int.reduceLT,e]
structure AJ(b:Bx):Prop where
 nm:cR b.nm
 p:cR b.p
 k:cR b.k
def kd(ns:ZK)(n:Int):Int:=if th ns (20+n) 6=4 then 1 else if th ns (20+n) 6=5 then 2 else 0
def ĳ(ns:ZK)(n:Int):Int:=if wA ns*ot ns (21+n) 90>9*wA ns then wA ns*ot ns (21+n) 90+40*wA ns else wA ns*ot ns (21+n) 90
def bx(ns:ZK)(n:Int):Bx:=⟨nm ns 16 n,wA ns*(1+dr ns (20+n) 20),nm ns 17 (ot ns (20+n) 4),nm ns 18 (kd ns n),ĳ ns n⟩
def aDS:AJ (bx ns n):=⟨j6,j6,j6⟩
def MO(n0:0<=n)(n1:n<=100):pG [iL ns,.int n]=.ok (cC (bx ns n)) []:=by
 sleep 2;rfl';unfold FM;have s:=rN (ns:=ns);have t1:=lI (ns:=ns) (k:=20+n) (m:=4) ⋯;have t2:=lJ (ns:=ns) (k:=20+n) (m:=6) ⋯;have t3:=lI (ns:=ns) (k:=21+n) (m:=90) ⋯;have t4:=iI (ns:=ns) (k:=20+n) (m:=20) ⋯;have e1:=oH (ns:=ns) (k:=20+n) (m:=4) ∅ ∅ ⋯;have e2:=qD (ns:=ns) (k:=20+n) (m:=6) ∅ ∅ ⋯;have e3:=oH (ns:=ns) (k:=21+n) (m:=90) ∅ ∅ ⋯;have e4:=lK (ns:=ns) (k:=20+n) (m:=20) ∅ ∅ ⋯;have ek:atI [PyData.int 0,.int 0,.int 0,.int 0,.int 1,.int 2] (th ns (20+n) 6)=some (.int (kd ns n)):=by
  unfold kd;have:th ns (20+n) 6=0\/th ns (20+n) 6=1\/th ns (20+n) 6=2\/th ns (20+n) 6=3\/th ns (20+n) 6=4\/th ns (20+n) 6=5:=by lia
  rcases this with z|z|z|z|z|z<;>rw[z]<;>rfl
 have k0:0<=kd ns n/\kd ns n<=2:=by unfold kd;split<;>(try split)<;>lia
 have n1:=j7 (ns:=ns) (k:=17) (n:=ot ns (20+n) 4) ⋯ ⋯ ∅ ∅;have n2:=j7 (ns:=ns) (k:=18) (n:=kd ns n) ⋯ ⋯ ∅ ∅;have n3:=j7 (ns:=ns) (k:=16) (n:=n) ⋯ ⋯ ∅ ∅;by_cases c:wA ns*ot ns (21+n) 90>9*wA ns
 .have eb:ĳ ns n=wA ns*ot ns (21+n) 90+40*wA ns:=Â c
  have c':9*wA ns<wA ns*ot ns (21+n) 90:=c;dsimp? [oJ,e1,e2,e3,e4,ek,n1,n2,n3,c',decide_true,cC,bx,eb];exact⟨by ac_nf,by ac_nf,by ac_nf,by ac_nf⟩
 .have eb:ĳ ns n=wA ns*ot ns (21+n) 90:=Ä c
  have c':¬9*wA ns<wA ns*ot ns (21+n) 90:=c;dsimp? [oJ,e1,e2,e3,e4,ek,n1,n2,n3,c',decide_false,Bool.false_eq_true,cC,bx,eb];exact⟨by ac_nf,by ac_nf,by ac_nf⟩
end
section
variable {cs:List (List Bx)}
def vC(lc:cs.length<=100):zG [.list 'c']=.ok 'j' []:=by
 sleep 2;rfl';unfold zF;dsimp? [];refine aW.of (bR (enc:=aN) (xs:=cs) (g:=aN) (cJ (by dsimp? [])) ∅ λx _=>by dsimp? [aN,EM]) ?_;dsimp? []
def Y0(s0:0<=s)(s1:s.toNat<cs.length):lN 'c'.length s=some s.toNat/\'c'[s.toNat]?=some (.list ((cs[s.toNat]).map cC)):=by
 refine⟨ϴ s0 (by rw[Æ];lia),?_⟩;rw[Ñ,Ê s1];rfl
def SC(gw:cR w)(hw:(w == "off")=false)(lc:cs.length<=100)(s0:0<=s)(s1:s.toNat<cs.length)(l1:(cs[s.toNat]).length<=100):CO [.list 'c',.tuple [.str w,.int s,x],cC b]=.ok (.list ((cs.set s.toNat (cs[s.toNat]++[b])).map aN)) []:=by
 have hz:sizeLine=2^24:=rfl;sleep 2;rfl';unfold u3;let⟨e1,e2⟩:=Y0 s0 s1;have eh:KJ [0,0,0,2] [some 'j',some (.tuple [.str w,.int s,x]),some (cC b),some 'j']=[some 'j',some (.tuple [.str w,.int s,x]),some (cC b),none]:=rfl;have go:cR "off":=⟨⋯,v8 _⟩;dsimp? [vC lc,ϵ gw go,hw,LL,LM e1 e2,eh,qQ,uM];refine⟨by rw[Æ];lia,?_⟩;simp[List.map_set,aN]
end
def tZ(m:M Fl)(δ:DS)(N:ZO)(E:D->Prop):Prop:=match m δ with
 |.ok .next δ1=>N δ1
 |.err x _=>E x
 |_=>False
def Ħ:Option Str->Res D
 |none=>.ok .none []
 |some x=>.err (.str x) []
section
variable {u:M Fl}{δ:DS}{N:ZO}{E:D->Prop}
def AK(h:tZ u δ (λδ1=>tZ v δ1 N E) E):tZ (bO u v) δ N E:=by
 unfold tZ bO at *;cases e:u δ with
 |stuck=>rw[e]at h;exact h
 |err x d=>rw[e]at h;exact h
 |ok fl δ1=>
  rw[e]at h;cases fl<;>first|exact h|exact h.elim
def Ĵ(h:bK u δ N (λ_=>False) (λ_=>False) (λ_ _=>False)):tZ u δ N E:=by
 unfold bK at h;unfold tZ;cases e:u δ with
 |stuck=>sleep 1
 |err x d=>sleep 1
 |ok fl δ1=>
  rw[e]at h;cases fl<;>first|exact h|exact h.elim
def aO7(h:aW c δ λb δ1=>if b=true then tZ u δ1 N E else tZ v δ1 N E):tZ (gF c u v) δ N E:=by
 unfold aW at h;unfold tZ gF;cases e:c δ with
 |stuck=>sleep 1
 |err x d=>sleep 1
 |ok b δ1=>
  rw[e]at h;simp![Res.bind];cases b<;>exact h
def aDT(h:aW (bD fs) δ λds _=>ds.length<=1000/\E (.str x)):tZ (kG x fs) δ N E:=by
 unfold aW at h;unfold tZ kG;cases e:bD fs δ with
 |stuck=>sleep 1
 |err x d=>sleep 1
 |ok ds δ1=>
  rw[e]at h;simp![Res.bind,Â h.1];exact h.2
def aJA{fn:ZI->Res D}{as:List L2.Arg}(ho:aU as=[])(h:aW (cK as) δ λods δ1=>∃ds o,eG δ1 as ods=some ds/\fn ds=Ħ o/\o.elim (N δ1) λx=>E (.str x)):tZ (sE (bP fn as)) δ N E:=by
 unfold aW at h;unfold tZ sE bP;cases e:cK as δ with
 |stuck=>sleep 1
 |err x d=>sleep 1
 |ok ods δ1=>
  rw[e]at h;let⟨ds,o,h1,h2,h3⟩:=h;simp![Res.bind,h1,h2,ho];cases o<;>exact h3
def Y1{set:D->DS->Option DS}(I:Nat->ZO){ds:ZI}(hs:∀(k:Nat)(d:D)(δ:DS),ds[k]?=some d->I k δ->∃δ1,set d δ=some δ1/\tZ u δ1 (I (k+1)) E)(hN:∀δ,I ds.length δ->N δ):
  ∀(n k:Nat)(δ:DS),n+k=ds.length->I k δ->tZ (fQ set u (ds.drop k)) δ N E
 |0,k,δ,hk,h=>by
  have e:k=ds.length:=by lia
  subst e;rw[List.drop_length];exact hN δ h
 |n+1,k,δ,hk,h=>by
  have hlt:k<ds.length:=by lia
  rw[ÿ hlt];let⟨δ1,e1,h1⟩:=hs k ds[k] δ (Ê hlt) h;have ih:=Y1 I hs hN n (k+1);unfold tZ at h1 ih⊢;unfold fQ;simp![e1];cases e:u δ1 with
  |stuck=>rw[e]at h1;exact h1.elim
  |err x d=>rw[e]at h1;exact h1
  |ok fl δ2=>
   rw[e]at h1;cases fl<;>first|exact h1.elim|exact ih δ2 ∅ h1
def aMP{set:D->DS->Option DS}(I:Nat->ZO){ds:ZI}(hg:aW g δ λes δ1=>es=ds/\I 0 δ1)(hs:∀(k:Nat)(d:D)(δ:DS),ds[k]?=some d->I k δ->∃δ1,set d δ=some δ1/\tZ u δ1 (I (k+1)) E)(hN:∀δ,I ds.length δ->N δ):tZ (jR set g u) δ N E:=by
 unfold aW at hg;cases e:g δ with
 |stuck=>rw[e]at hg;exact hg.elim
 |err x d=>rw[e]at hg;exact hg.elim
 |ok es δ1=>
  rw[e]at hg;let⟨rfl,h0⟩:=hg;have:=Y1 I hs hN es.length 0 δ1 ∅ h0;rw[List.drop_zero]at this;unfold tZ jR at *;rw[e];exact this
def ϸ(o:Option Str)(h:tZ u (ds.map some++List.replicate (m-ds.length) none) (λ_=>o=none) (λy=>o.map PyData.str=some y)):aR m [] 0 u ds=Ħ o:=by
 unfold tZ at h;unfold aR;cases e:u (ds.map some++List.replicate (m-ds.length) none)with
 |stuck=>sleep 1
 |err y d=>
  rw[e]at h;cases o with
  |none=>cases h
  |some z=>cases h;rfl
 |ok fl d=>
  rw[e]at h;cases fl<;>first|exact h.elim|(cases h;rfl)
end
def C4(zs:ZG):D:=.dict (zs.map λz=>(.str z,.bool true))
def aJB(zs:ZG):((zs.map λz=>((.str z,.bool true):D×D)).all λkv=>(dO kv.1).isSome)=true:=by
 rw[é];intro kv h;let⟨z,_,rfl⟩:=Þ.mp h;rfl
def Y2(z:Str):∀zs:ZG,jV (.inr z) (zs.map λz=>((.str z,.bool true):D×D))=if z∈zs then some 'l'else none
 |[]=>rfl
 |y::zs=>by
  have ih:=Y2 z zs;unfold jV at ih⊢;rw[Ð,Ă];by_cases e:y=z
  .subst e
   rw[Â Õ];simp[dO]
  .have:decide (dO (PyData.str y)=some (Sum.inr z))=false:=decide_eq_false λh=>e (by cases h;rfl)
   rw[this];rw[ih];by_cases h:z∈zs
   .rw[Â h,Â (Ó _ h)]
   .rw[Ä h,Ä λq=>(Ï.mp q).elim (λq=>e q.symm) h]
def aMR:vU false (.str z) (C4 zs)=some (.bool (decide (z∈zs))):=by
 unfold vU W0 C4;dsimp only;rw[Â (aJB zs)];show (some (jV (.inr z) _)).map _=_;rw[Y2];by_cases h:z∈zs
 .rw[Â h,decide_eq_true h];rfl
 .rw[Ä h,decide_eq_false h];rfl
def aJC(hz:z∉zs)(hl:zs.length<=1000):yN (.str z) 'l' (C4 zs)=some (C4 (zs++[z])):=by
 have hs:sizeLine=16777216:=by decide
 unfold yN C4;dsimp only;show (if _ then _ else _)=_;rw[Â (by rw[Æ];omega)];unfold LP;have:((zs.map λz=>((.str z,.bool true):D×D)).any λkv=>decide (dO kv.1=some (Sum.inr z)))=false:=by
  rw[List.any_eq_false];intro kv h;let⟨y,hy,rfl⟩:=Þ.mp h;intro q;have q:=of_decide_eq_true q;cases q;exact hz hy
 rw[this,ß];rfl
def Z7(c:Nat):Bool:=decide (97<=c/\c<=122)
def aMS:∀c<128,((!decide ((⟨#[c]⟩:Str).cps.toList<(Str.ofString "a").cps.toList)) && (!decide ((Str.ofString "z").cps.toList<(⟨#[c]⟩:Str).cps.toList)))=Z7 c:=by decide +kernel
def GI(z:Str):Bool:=decide (1<=z.length/\z.length<=8) && z.cps.toList.all Z7
def Ż:D->D
 |.str z=>.bool (z.cps.toList.all Z7)
 |_=>.none
def name_ev'(hz:z.length<=100)(hs:∀c∈z.cps.toList,c<128):gQ [.str z]=.ok (.bool (GI z)) []:=by
 have hl:qN [.str z]=some (.int z.length):=UR rfl (Ø hz ⋯);have hc:∀δ:DS,dY 1 (eB 0) (xU (aK 0)) dZ (nG ĝ ĝ (dC (.str "a")) (aK 0) (dC (.str "z"))) (some (.str z)::δ)=.ok (.list (z.cps.toList.map λc=>.bool (Z7 c))) (some (.str z)::δ):=λδ=>by
  have hg:∀d∈mW z,(nG ĝ ĝ (dC (.str "a")) (aK 0) (dC (.str "z"))) (some d::some (.str z)::δ)=.ok (Ż d) (some d::some (.str z)::δ):=λd hd=>by
   unfold mW at hd;let⟨c,hc,rfl⟩:=Þ.mp hd;have:=aMS c (hs c hc);simp![nG,dC,aX,aK,List.getElem?_cons_zero,ĝ,Ż,List.all_cons,List.all_nil,Bool.and_true];cases h1:(!decide ((⟨#[c]⟩:Str).cps.toList<(Str.ofString "a").cps.toList))with
   |true=>rw[h1,Bool.true_and]at this;rw[this]
   |false=>rw[h1,Bool.false_and]at this;rw[<- this]
  have:=BX (f:=xU (aK 0)) (δ:=some (.str z)::δ) (δ1:=some (.str z)::δ) (ds:=mW z) (by simp[xU,aK,Res.bind]) hg (by unfold mW;rw[Æ];exact Ø hz ⋯)
  rw[this];unfold mW;rw[î];congr 2;apply List.map_congr_left;intro c _;simp[Ż]
 have ha:Ŭ [.list (z.cps.toList.map λc=>.bool (Z7 c))]=some (.bool (z.cps.toList.all Z7)):=by
  show (sI _).map _=_;rw[O4];simp
 have hsi:gJ .str (.str z)=some 'l':=rfl;have hni:mU (dB (rP (gJ .str) (aK 0))) [some (.str z)]=.ok false [some (.str z)]:=HD (b:=true) (sJ (aHH (cM rfl) hsi));have e0:pF [some (.str z)]=.ok (.ret (.bool (GI z))) [some (.str z)]:=by
  unfold pF;rw[NH (δ1:=[some (.str z)]) (by rw[US (δ1:=[some (.str z)]) hni];rfl)];refine NJ ?_;have hlen:xJ qN [aK 0] [some (.str z)]=.ok (.int z.length) [some (.str z)]:=NI (cM rfl) hl;unfold GI;by_cases h:1<=z.length/\z.length<=8
  .rw[aBG (δ1:=[some (.str z)]),decide_eq_true h,Bool.true_and]
   .exact NI (hc []) ha
   .simp![nG,i6,aX,hlen,Ņ,Z5]
    rw[decide_eq_true (show (1:Int)<=z.length by lia),decide_eq_true (show (z.length:Int)<=8 by lia)]
  .rw[aBH (δ1:=[some (.str z)]),decide_eq_false h,Bool.false_and]
   simp![nG,i6,aX,hlen,Ņ,Z5];by_cases h1:(1:Int)<=z.length
   .rw[decide_eq_true h1,decide_eq_false (show ¬(z.length:Int)<=8 by lia)]
   .rw[decide_eq_false h1]
 show (match pF [some (.str z)]with|_=>_)=_;unfold gQ aR;simp[e0,fV]
def AL{i:Int}(_:0<=i)(_:i<26):jL i=⟨#[97+i.toNat]⟩:=rfl
def PN{x y:Str}(hx:x.cps.toList.all p=true)(hy:y.cps.toList.all p=true):(x++y).cps.toList.all p=true:=by
 show ((x.cps++y.cps).toList).all p=true;rw[Array.toList_append,List.all_append,hx,hy];rfl
def PP(hx:x.toList.all p=true):∀(n:Nat)(a:Array Nat),a.toList.all p=true->((List.replicate n x).foldl (·++·) a).toList.all p=true
 |0,_,h=>h
 |n+1,a,h=>by
  rw[List.replicate_succ,List.foldl_cons];exact PP hx n _ (by rw[Array.toList_append,List.all_append,h,hx];rfl)
def Y3(h0:0<=i)(h1:i<26):(jL i).cps.toList.all Z7=true:=by
 rw[AL h0 h1];simp![List.all_cons,List.all_nil,Bool.and_true,Z7];exact decide_eq_true ∅
section
def MP:GI (nm ns k n)=true:=by
 let⟨a1,a2,b1,b2⟩:=J1 (ns:=ns) (k:=k) (n:=n);have h1:=lJ (ns:=ns) (k:=k) (m:=8) ⋯;have h2:=lI (ns:=ns) (k:=k) (m:=1+th ns k 8) ∅;have h3:=iI (ns:=ns) (k:=k) (m:=26) ⋯;have e1:=Y3 h3.1 h3.2;have e2:=Y3 (i:=(7*n+ot ns (k+1) 26) % 26) ∅ ∅;have r:∀j,(iN (jL (dr ns k 26)) j).cps.toList.all Z7=true:=λj=>PP e1 _ _ rfl;have l:(nm ns k n).length=_:=hZ;rw[hZ,jB,jB,a1,b1]at l;unfold GI;rw[decide_eq_true ∅,show (nm ns k n).cps.toList.all Z7=true from PN (PN (r _) e2) (r _)];rfl
def GB(h:GI z=true):z.length<=100/\∀c∈z.cps.toList,c<128:=by
 unfold GI at h;rw[æ,decide_eq_true_eq,é]at h;refine⟨∅,λc hc=>?_⟩;have:=of_decide_eq_true (h.2 c hc);lia
def aJD(n0:0<=n)(n1:n<26)(m0:0<=m)(m1:m<26)(h:nm ns k n=nm ns k m):n=m:=by
 have cv:(nm ns k n).cps.toList=(nm ns k m).cps.toList:=by rw[h]
 have e:∀j,(nm ns k j).cps.toList=(iN (jL (dr ns k 26)) (ot ns k (1+th ns k 8))).cps.toList++(jL ((7*j+ot ns (k+1) 26) % 26)).cps.toList++(iN (jL (dr ns k 26)) (1+th ns k 8-1-ot ns k (1+th ns k 8))).cps.toList:=λj=>by
  show ((_++_:Array Nat)++_).toList=_;rw[Array.toList_append,Array.toList_append]
 rw[e,e]at cv;have cv:=List.append_cancel_left (List.append_cancel_right cv);rw[AL ∅ ∅,AL ∅ ∅]at cv;have cv:97+((7*n+ot ns (k+1) 26) % 26).toNat=97+((7*m+ot ns (k+1) 26) % 26).toNat:=(List.cons.inj cv).1;clear e h;generalize ot ns (k+1) 26=c at *;have q:(7*n+c) % 26=(7*m+c) % 26:=by lia
 have h1:7*(n-m)=26*((7*n+c)/26-(7*m+c)/26):=by lia
 generalize (7*n+c)/26-(7*m+c)/26=t at *;have h2:n-m=26*(15*t-4*(n-m)):=by lia
 generalize 15*t-4*(n-m)=u at *;lia
end
end Toy
namespace L2
open PySem PySem.Spec
def GC{α:Type}{enc:α->D}{P:α->Prop}(x0:α){f e:M D}{δ:DS}{n:Int}{Q:D->ZO}(hf:aW f δ λa δ1=>a=.int n/\δ1=δ)(h0:0<=n)(h1:n<=1000)(he:∀k:Nat,(k:Int)<n->∃x,P x/\aW e (some (.int k)::δ) λa δ1=>a=enc x/\δ1=some (.int k)::δ)(hq:∀xs:List α,(xs.length:Int)=n->(∀x∈xs,P x)->Q (.list (xs.map enc)) δ):aW (dY 1 (eB 0) (uG [f]) dZ e) δ Q:=by
 obtain⟨c,hc⟩:∃c:Nat->α,∀k:Nat,(k:Int)<n->P (c k)/\aW e (some (.int k)::δ) λa δ1=>a=enc (c k)/\δ1=some (.int k)::δ:=⟨λk=>open Classical in if h:(k:Int)<n then (he k h).choose else x0,λk hk=>by
  dsimp only;rw[dif_pos hk];exact(he k hk).choose_spec⟩
 have:=yA (f:=f) (e:=e) (δ:=δ) (n:=n) (g:=λk=>enc (c k)) (dJ hf) h0 ∅ λk hk=>(hc k hk).2;refine aW.of this ?_;have q:=hq ((List.range n.toNat).map c) (by simp;lia) λx hx=>by
  let⟨k,hk,rfl⟩:=Þ.mp hx;exact(hc k (by have:=List.mem_range.mp hk;lia)).1
 rw[î]at q;exact q
end L2
namespace Toy
open PySem L2
structure Ap where
 x:Str
 y:Str
 n:Int
def ğ(a:Ap):D:=.tuple [.str a.x,.str a.y,.int a.n]
abbrev wX(own:Q4)(b:MM)(ss:List St)(ts:List Tk)(as:List Ap):D:=.tuple [mM own,BE b,.list (ss.map kL),.list (ts.map kM),.list (as.map ğ)]
structure ħ(own:Q4)(b:MM)(ss:List St)(ts:List Tk)(as:List Ap):Prop where
 o0:1<=own.1/\own.1<=1000000000
 o1:kP own.2.1/\kP own.2.2.1/\kP own.2.2.2
 b:tY b
 ls:1<=ss.length/\ss.length<=4
 lt:ts.length<=3
 la:as.length<=3
 gs:∀s∈ss,FY s
 gt:∀t∈ts,FZ t
 ga:∀a∈as,cR a.x/\cR a.y
def oK{α:Type}{P:α->Prop}{l:List α}{x:α}(h:∀y∈l,P y)(hx:P x):∀y∈l++[x],P y:=λy hy=>by
 rcases ă.mp hy with z|z
 .exact h y z
 .rw[ì.mp z]
  exact hx
section
def qE(h0:-1000<=x)(h1:x<=1000):kP x:=⟨∅,∅⟩
def PQ(h:0<=v/\v<x)(g:0<=w/\w<y)(a:x<=100)(b:y<=100):kP (v-3)/\kP (v-2)/\kP (0-(1+v))/\kP (1+v)/\kP (1+v+w)/\kP (4+v)/\kP (v-10)/\kP v/\kP (v-40):=⟨qE ∅ ∅,qE ∅ ∅,qE ∅ ∅,qE ∅ ∅,qE ∅ ∅,qE ∅ ∅,qE ∅ ∅,qE ∅ ∅,qE ∅ ∅⟩
def Ġ{v w x a:Int}(h:0<=v/\v<x)(e:w+x=a+1)(hw:1<=w):1<=w+v/\0<=w+v/\w+v<=a:=⟨∅,∅,∅⟩
def AM(h0:0<=x)(h1:x<=m)(hm:m<=1000):0<=wA ns*x/\wA ns*x<=1000000000:=by
 have s:=rN (ns:=ns);have a:=Int.mul_nonneg (show 0<=wA ns by lia) h0;have b:=Int.mul_le_mul s.2 (show x<=1000 by lia) h0 ⋯;exact⟨a,∅⟩
def PR(h:1<=x):1<=wA ns*x:=Int.mul_pos (a:=wA ns) (b:=x) (by have:=rN (ns:=ns);lia) h
def aDU(h:0<=x/\x<=1000000000):kP x:=⟨∅,h.2⟩
def aMT(n0:0<=n)(n1:n<=100):∃d,CQ [iL ns,.int n]=.ok d []/\∃s,d=kL s/\FY s:=by
 refine iF ?_;rfl';unfold u7;have s:=rN (ns:=ns);have e1:=λm(h:0<m)=>lK (ns:=ns) (k:=2+n) (m:=m) ∅ ∅ h;have e2:=λm(h:0<m)=>oH (ns:=ns) (k:=2+n) (m:=m) ∅ ∅ h;have e3:=λm(h:0<m)=>qD (ns:=ns) (k:=6+n) (m:=m) ∅ ∅ h;have e4:=λm(h:0<m)=>oH (ns:=ns) (k:=6+n) (m:=m) ∅ ∅ h;have e5:=λm(h:0<m)=>qD (ns:=ns) (k:=2+n) (m:=m) ∅ ∅ h;have e6:=λm(h:0<m)=>lK (ns:=ns) (k:=6+n) (m:=m) ∅ ∅ h;have n3:=j7 (ns:=ns) (k:=14) (n:=n) ⋯ ⋯ ∅ ∅;have l1:=iI (ns:=ns) (k:=2+n) (m:=21) ⋯;have l2:=lI (ns:=ns) (k:=2+n) (m:=21) ⋯;have l3:=lJ (ns:=ns) (k:=2+n) (m:=5) ⋯;have l4:=iI (ns:=ns) (k:=6+n) (m:=3) ⋯;dsimp? [oJ,e1,e2,e3,e4,e5,e6,n3,Int.reduceLT];exact⟨by ac_nf,⟨_,_,_,_,_,_,_⟩,rfl,j6,(PQ l1 l1 ⋯ ⋯).2.2.2.2.2.2.1,(PQ l2 l2 ⋯ ⋯).2.2.2.2.2.2.1,(PQ l3 l3 ⋯ ⋯).2.2.2.2.2.2.2.1,(PQ l4 l4 ⋯ ⋯).2.2.2.1⟩
def aMU(n0:0<=n)(n1:n<=100):∃d,JD [iL ns,.int n]=.ok d []/\∃t,d=kM t/\FZ t:=by
 refine iF ?_;rfl';unfold zP;have s:=rN (ns:=ns);have e1:=λm(h:0<m)=>lK (ns:=ns) (k:=10+n) (m:=m) ∅ ∅ h;have e2:=λm(h:0<m)=>oH (ns:=ns) (k:=10+n) (m:=m) ∅ ∅ h;have e5:=λm(h:0<m)=>qD (ns:=ns) (k:=10+n) (m:=m) ∅ ∅ h;have e6:=λm(h:0<m)=>lK (ns:=ns) (k:=13+n) (m:=m) ∅ ∅ h;have n3:=j7 (ns:=ns) (k:=15) (n:=n) ⋯ ⋯ ∅ ∅;have l1:=iI (ns:=ns) (k:=10+n) (m:=81) ⋯;have l2:=lI (ns:=ns) (k:=10+n) (m:=81) ⋯;have l3:=lJ (ns:=ns) (k:=10+n) (m:=5) ⋯;have l4:=iI (ns:=ns) (k:=13+n) (m:=60) ⋯;dsimp? [oJ,e1,e2,e5,e6,n3,Int.reduceLT];exact⟨by ac_nf,⟨_,_,_,_,_⟩,rfl,j6,(PQ l1 l1 ⋯ ⋯).2.2.2.2.2.2.2.2,(PQ l2 l2 ⋯ ⋯).2.2.2.2.2.2.2.2,(PQ l3 l3 ⋯ ⋯).2.1,AM (Ġ l4 (a:=60) rfl ⋯).2.1 (Ġ l4 (a:=60) rfl ⋯).2.2 ⋯⟩
def aDV:∃r,zR [iL ns]=.ok r []/\∃own b ss ts as,r=wX own b ss ts as/\ħ own b ss ts as:=by
 refine iF ?_;rfl';unfold zQ;have hz:sizeLine=2^24:=rfl;have s:=rN (ns:=ns);have q1:=iI (ns:=ns) (k:=1) (m:=4) ⋯;have q2:=lI (ns:=ns) (k:=1) (m:=4) ⋯;have q3:=lJ (ns:=ns) (k:=1) (m:=5) ⋯;have d0:=iI (ns:=ns) (k:=13) (m:=80) ⋯;have d1:=lI (ns:=ns) (k:=13) (m:=7) ⋯;have d2:=lJ (ns:=ns) (k:=13) (m:=5) ⋯;have d3:=lJ (ns:=ns) (k:=14) (m:=6) ⋯;have d4:=lJ (ns:=ns) (k:=15) (m:=6) ⋯;have d5:=iI (ns:=ns) (k:=15) (m:=2) ⋯;have d6:=lJ (ns:=ns) (k:=0) (m:=9) ⋯;have d7:=lI (ns:=ns) (k:=0) (m:=200) ⋯;rw[L2.seq_assoc,L2.seq_assoc,L2.seq_assoc,L2.seq_assoc,L2.seq_assoc];refine FW (λδ=>∃(own:Q4)(b:MM)(o1 o3 o4 o5:ZL),((1<=own.1/\own.1<=1000000000)/\(kP own.2.1/\kP own.2.2.1/\kP own.2.2.2)/\tY b)/\δ=[some (iL ns),o1,some (mM own),o3,o4,o5,some (BE b),none,none,none,none,none,none]) ?_ ?_
 .refine rK λK _ _ _ hK _=>?_
  dsimp? [oJ,lK,oH,qD,Int.reduceLE,Int.reduceLT];exact⟨by ac_nf,by ac_nf,hK _ ⟨(_,_,_,_),⟨_,_,_,_,_,_⟩,_,_,_,_,⟨⟨PR (Ġ d0 (w:=40) (a:=119) rfl ⋯).1,(AM (m:=119) (Ġ d0 (a:=119) rfl ⋯).2.1 (Ġ d0 (a:=119) rfl ⋯).2.2 ⋯).2⟩,⟨(PQ d1 d1 ⋯ ⋯).1,(PQ d2 d2 ⋯ ⋯).2.1,qE (x:=2) ⋯ ⋯⟩,(PQ d3 d3 ⋯ ⋯).2.2.1,(PQ d3 d3 ⋯ ⋯).2.2.2.1,(PQ d4 d4 ⋯ ⋯).2.2.1,(PQ d4 d5 ⋯ ⋯).2.2.2.2.1,(PQ d6 d6 ⋯ ⋯).2.2.2.2.2.1,aDU (AM (ns:=ns) (x:=120+ot ns 0 200) (m:=319) (Ġ d7 (a:=319) rfl ⋯).2.1 (Ġ d7 (a:=319) rfl ⋯).2.2 ⋯)⟩,rfl⟩⟩
 rintro δ ⟨own,b,o1,o3,o4,o5,ho,rfl⟩;dsimp? [];refine GC (enc:=kL) (P:=FY) t7 (n:=1+dr ns 1 4) (by dsimp? [lK,Int.reduceLE,Int.reduceLT]) ∅ ∅ (λk hk=>?_) λss ls gs=>?_
 .obtain⟨d,ed,t,rfl,g⟩:=aMT (ns:=ns) (n:=(k:Int)) ∅ ∅
  exact⟨t,g,by dsimp? [ed]⟩
 dsimp? [];refine GC (enc:=kM) (P:=FZ) aQH (n:=ot ns 1 4) (by dsimp? [oH,Int.reduceLE,Int.reduceLT]) ∅ ∅ (λk hk=>?_) λts lt gt=>?_
 .obtain⟨d,ed,t,rfl,g⟩:=aMU (ns:=ns) (n:=(k:Int)) ∅ ∅
  exact⟨t,g,by dsimp? [ed]⟩
 dsimp? [];obtain⟨r,er,r0,r1⟩:∃r:Int,atI [PyData.int 0,.int 0,.int 0,.int 1,.int 2] (th ns 1 5)=some (.int r)/\0<=r/\r<=2:=by
  have:th ns 1 5=0\/th ns 1 5=1\/th ns 1 5=2\/th ns 1 5=3\/th ns 1 5=4:=by lia
  rcases this with z|z|z|z|z<;>rw[z]<;>exact⟨_,rfl,⋯,⋯⟩
 refine wK (j:=r) (δ1:=_) (λk δ=>∃(as:List Ap)(p1 p2 p3:ZL),δ=[some (iL ns),o1,some (mM own),o3,o4,o5,some (BE b),some (.list (ss.map kL)),some (.list (ts.map kM)),some (.list (as.map ğ)),p1,p2,p3]/\as.length=k/\∀a∈as,cR a.x/\cR a.y) (fG (by dsimp? [qD,Int.reduceLE,Int.reduceLT,er];rfl)) ∅ ∅ ⟨[],none,none,none,rfl,rfl,λa ha=>by cases ha⟩ ?_ ?_
 .rintro k δ hk ⟨as,p1,p2,p3,rfl,la,ga⟩
  refine⟨_,rfl,?_⟩;refine rK λK _ _ _ hK _=>?_;have d1:=iI (ns:=ns) (k:=17+(k:Int)) (m:=3) ⋯;have d2:=lI (ns:=ns) (k:=17+(k:Int)) (m:=3) ⋯;have e1:=lK (ns:=ns) (k:=17+(k:Int)) (m:=3) ∅ ∅ ⋯;have e2:=oH (ns:=ns) (k:=17+(k:Int)) (m:=3) ∅ ∅ ⋯;have e3:=qD (ns:=ns) (k:=17+(k:Int)) (m:=9) ∅ ∅ ⋯;have n1:=j7 (ns:=ns) (k:=18) (n:=dr ns (17+(k:Int)) 3) ⋯ ⋯ ∅ ∅;have n2:=j7 (ns:=ns) (k:=18) (n:=ot ns (17+(k:Int)) 3) ⋯ ⋯ ∅ ∅;dsimp? [e1,e2,e3,n1,n2,Æ];exact⟨∅,hK _ ⟨as++[⟨_,_,_⟩],_,_,_,by rw[ß];rfl,by rw[Ò,la];rfl,oK ga ⟨j6,j6⟩⟩⟩
 .rintro δ ⟨as,p1,p2,p3,rfl,la,ga⟩
  dsimp? [];exact⟨own,b,ss,ts,as,rfl,ho.1,ho.2.1,ho.2.2,∅,∅,∅,gs,gt,ga⟩
end
def Ϲ(ha:Sh 1 (.str a))(hb:Sh 1 (.str b))(hp:Sh 1 (.str p))(hq:Sh 1 (.str q)):∃r:Bool,į (.tuple [.str p,.str q]) (.tuple [.tuple [.str a,.str b],.tuple [.str b,.str a]])=some (.bool r):=by
 have s:∀{x y:Str},Sh 1 (.str x)->Sh 1 (.str y)->Sh 2 (.tuple [.str x,.str y]):=λhx hy=>LI λd hd=>by
  simp![Ï,ä,or_false]at hd;rcases hd with rfl|rfl<;>assumption
 have h1:=(s hp hq).shaped ⋯;have h2:SeqAt.shaped (.tuple [.tuple [.str a,.str b],.tuple [.str b,.str a]])=true:=Sh.shaped (k:=3) (LI λx hx=>by
  simp![Ï,ä,or_false]at hx;rcases hx with rfl|rfl
  .exact s ha hb
  .exact s hb ha) ⋯
 unfold į;simp![wL];rw[Â ⟨h1,h2⟩];exact⟨_,rfl⟩
def SD(h:∃r,aR m [] 0 u ds=.ok r []/\∃L,r=.list L):∃L,aR m [] 0 u ds=.ok (.list L) []:=by
 let⟨r,e,L,rfl⟩:=h;exact⟨L,e⟩
def MQ(hl:bs.length<=100):∃r,jY [kL st,.int s,aN bs]=.ok r []/\∃L,r=.list L/\L.length<=bs.length+2:=by
 have e24:sizeLine=2^24:=rfl;refine iF ?_;rfl';unfold f6;rw[L2.seq_assoc,L2.seq_assoc,L2.seq_assoc];refine FW (λδ=>∃(L:ZI)(w:Int),L.length<=2/\δ=[some (kL st),some (.int s),some (aN bs),some (.list L),some (.int w),none,none]) ?_ ?_
 .dsimp? []
  refine aW.of (bR (enc:=cC) (xs:=bs) (g:=λb=>.int b.w) (bN rfl) ∅ λb _=>by dsimp? [cC]) ?_;have es:ň [.list (bs.map λb=>PyData.int b.w)]=some (.int (bs.map λb=>b.w).sum):=by
   rw[show (bs.map λb=>PyData.int b.w)=(bs.map λb=>b.w).map PyData.int by simp,ϛ]
  have eb:aN bs=.list (bs.map cC):=rfl;generalize (bs.map λb=>b.w).sum=W at *;by_cases c1:st.h<(bs.length:Int)<;>by_cases c2:st.m<W
  .dsimp? [es,kL,eb,Æ,c1,c2,decide_true,List.nil_append]
   exact⟨∅,∅,_,_,by simp,rfl⟩
  .dsimp? [es,kL,eb,Æ,c1,c2,decide_true,decide_false,Bool.false_eq_true,List.nil_append]
   exact⟨∅,_,_,by simp,rfl⟩
  .dsimp? [es,kL,eb,Æ,c1,c2,decide_true,decide_false,Bool.false_eq_true,List.nil_append]
   exact⟨∅,_,_,by simp,rfl⟩
  .dsimp? [es,kL,eb,Æ,c1,c2,decide_false,Bool.false_eq_true]
   exact⟨_,_,by simp,rfl⟩
 rintro _ ⟨L,w,lL,rfl⟩;refine FW (λδ=>∃(L:ZI)(o4 o5 o6:ZL),L.length<=bs.length+2/\δ=[some (kL st),some (.int s),some (aN bs),some (.list L),o4,o5,o6]) ?_ ?_
 .refine dN (ds:=fR (bs.map cC)) (δ1:=_) (λt δ=>∃(L:ZI)(w:Int)(o5 o6:ZL),L.length<=t+2/\δ=[some (kL st),some (.int s),some (aN bs),some (.list L),some (.int w),o5,o6]) (pL rfl) ⟨L,w,none,none,∅,rfl⟩ ?_ ?_
  .rintro t d δ ht ⟨L,w,o5,o6,lL,rfl⟩
   let⟨t1,rfl⟩:=iS (a0:=wV) ht;refine⟨_,rfl,?_⟩;generalize bs.getD t wV=bt at *;by_cases c:bt.b<w-bt.w
   .dsimp? [cC,c,decide_true]
    exact⟨∅,_,_,_,_,by rw[Ò,í];lia,rfl⟩
   .dsimp? [cC,c,decide_false,Bool.false_eq_true]
    exact⟨_,_,_,_,∅,rfl⟩
  .rintro δ ⟨L,w,o5,o6,lL,rfl⟩
   rw[lH,Æ]at lL;exact⟨L,_,_,_,lL,rfl⟩
 rintro _ ⟨L,o4,o5,o6,lL,rfl⟩;dsimp? [];exact lL
section
variable {own:Q4}{b:MM}{ss:List St}{cs:List (List Bx)}{ts:List Tk}{as:List Ap}
def Y4(la:as.length<=10)(ga:∀a∈as,cR a.x/\cR a.y)(hx:cR x)(hy:cR y):∃r,I8 [wX own b ss ts as,.str x,.str y]=.ok r []/\∃n:Int,r=.int n:=by
 refine iF ?_;rfl';unfold y9;have i4:eK (wX own b ss ts as) (.int 4)=some (.list (as.map ğ)):=rfl;have ct:∀x y z:D,Ň (.tuple [x,y,z]) none (some 2)=some (.tuple [x,y]):=λ_ _ _=>rfl;obtain⟨h,hh⟩:∃h:Ap->Bool,∀a∈as,į (.tuple [.str a.x,.str a.y]) (.tuple [.tuple [.str x,.str y],.tuple [.str y,.str x]])=some (.bool (h a)):=by
  refine⟨λa=>open Classical in if q:a∈as then (Ϲ hx.sh hy.sh (ga a q).1.sh (ga a q).2.sh).choose else false,λa q=>?_⟩;dsimp only;rw[dif_pos q];exact(Ϲ hx.sh hy.sh (ga a q).1.sh (ga a q).2.sh).choose_spec
 have em:∃n:Int,N5 (.list ((as.filter h).map λr=>PyData.int r.n)) (.int 0)=some (.int n):=by
  rw[show ((as.filter h).map λr=>PyData.int r.n)=((as.filter h).map λr=>r.n).map PyData.int by simp];refine⟨(fZ none ((as.filter h).map λr=>r.n)).getD 0,?_⟩;show (c6 _).map _=_;rw[i7];rfl
 let⟨n,em⟩:=em;generalize wX own b ss ts as=sh at *;dsimp? [aH9];refine aW.of (FX (enc:=ğ) (xs:=as) (h:=h) (g:=λr=>.int r.n) (cJ (by dsimp? [i4])) ∅ (λr hr=>?_) λr hr=>by dsimp? [ğ]) ?_
 .dsimp? [ğ,VO,uK,uL,B3,ct,hh r hr]
 .dsimp? [em]
  exact⟨n,rfl⟩
def Y5(hi:i<ss.length)(hj:j<ss.length):∃n:Int,y8 [wX own b ss ts as,.int i,.int j]=.ok (.int n) []:=by
 refine⟨(((ss.getD i t7).x-(ss.getD j t7).x).natAbs:Int)+(((ss.getD i t7).y-(ss.getD j t7).y).natAbs:Int),aQ (os:=[]) ?_⟩;rfl';unfold rC;dsimp? [AI (enc:=kL) (l:=ss) (d:=t7) hi,AI (enc:=kL) (l:=ss) (d:=t7) hj,kL]
def ż(n:Nat)(d:D):Prop:=∃(i j:Nat)(z:Str),i<n/\cR z/\d=.tuple [.int i,.int j,.str z]
def SE(lc:cs.length<=10)(gc:∀c∈cs,c.length<=30/\∀b∈c,AJ b):∃r,nY [.list 'c']=.ok r []/\∃P,r=.list P/\P.length<=300/\∀d∈P,ż cs.length d:=by
 have e24:sizeLine=2^24:=rfl;refine iF ?_;rfl';unfold jF;dsimp? [];refine dN (ds:=fR 'c') (δ1:=_) (λk δ=>∃P o2 o3 o4 o5,δ=[some 'j',some (.list P),o2,o3,o4,o5]/\P.length<=30*k/\∀d∈P,ż cs.length d) (pL rfl) ⟨[],_,_,_,_,rfl,by simp,by simp⟩ ?_ ?_
 .rintro k d δ hk ⟨P,o2,o3,o4,o5,rfl,lP,gP⟩
  let⟨k1,rfl⟩:=iS (a0:=[]) hk;let⟨lb1,gb1⟩:=gc _ (bX (d:=[]) k1);refine⟨_,rfl,?_⟩;generalize cs.getD k []=bs at *;refine dN (ds:=fR (bs.map cC)) (δ1:=_) (λt δ=>∃P o4 o5,δ=[some 'j',some (.list P),some (.int k),some (aN bs),o4,o5]/\P.length<=30*k+t/\∀d∈P,ż cs.length d) (pL rfl) ⟨P,_,_,rfl,∅,gP⟩ ?_ ?_
  .rintro t d δ ht ⟨P,o4,o5,rfl,lP,gP⟩
   let⟨t1,rfl⟩:=iS (a0:=wV) ht;have gk:=(gb1 _ (bX (d:=wV) t1)).k;refine⟨_,rfl,?_⟩;generalize bs.getD t wV=bt at *;dsimp? [cC];refine⟨∅,_,_,_,rfl,by rw[Ò,í];lia,oK gP ⟨k,t,_,k1,gk,rfl⟩⟩
  .rintro δ ⟨P,o4,o5,rfl,lP,gP⟩
   rw[lH,Æ]at lP;exact⟨P,_,_,_,_,rfl,∅,gP⟩
 .rintro δ ⟨P,o2,o3,o4,o5,rfl,lP,gP⟩
  rw[lH,Æ]at lP;dsimp? [];exact⟨∅,gP⟩
def J2(la:as.length<=10)(ga:∀a∈as,cR a.x/\cR a.y)(ls:cs.length=ss.length)(lc:cs.length<=10)(gc:∀c∈cs,c.length<=30/\∀b∈c,AJ b):∃r,n5 [wX own b ss ts as,.list 'c']=.ok r []/\∃L,r=.list L/\L.length<=90000:=by
 have e24:sizeLine=2^24:=rfl;let⟨r,eP,P,rfl,lP,gP⟩:=SE lc gc;have fs:=λ(x y:Str)hx hy=>Y4 (own:=own) (b:=b) (ss:=ss) (ts:=ts) (as:=as) (x:=x) (y:=y) la ga hx hy;have ap:=λ(i j:Nat)hi hj=>Y5 (own:=own) (b:=b) (ss:=ss) (ts:=ts) (as:=as) (i:=i) (j:=j) hi hj;generalize wX own b ss ts as=sh at *;refine iF ?_;rfl';unfold jG;dsimp? [eP];refine dN (ds:=fR P) (δ1:=_) (λk δ=>∃L o4 o5 o6,L.length<=300*k/\δ=[some sh,some 'j',some (.list L),some (.list P),o4,o5,o6]) (pL rfl) ⟨[],_,_,_,by simp,rfl⟩ ?_ ?_
 .rintro k d δ hk ⟨L,o4,o5,o6,lL,rfl⟩
  have eid:P=P.map id:=by simp
  rw[eid]at hk;let⟨k1,rfl⟩:=iS (a0:=.none) hk;refine⟨_,rfl,?_⟩;let⟨i,j,z,hi,gz,e1⟩:=gP _ (bX (d:=.none) k1);simp![id,e1];have ct:A1 (.list P) (some ((k:Int)+1)) none=some (.list (P.drop (k+1))):=yB (k:=k+1) ∅;refine dN (ds:=P.drop (k+1)) (δ1:=_) (λt δ=>∃L o6,L.length<=300*k+t/\δ=[some sh,some 'j',some (.list L),some (.list P),some (.int k),some (.tuple [.int i,.int j,.str z]),o6]) (cJ (by dsimp? [VO,uK,uL,B3,ct])) ⟨L,_,∅,rfl⟩ ?_ ?_
  .rintro t d δ ht ⟨L,o6,lL,rfl⟩
   have ht1:=(Î.mp ht).1;rw[List.length_drop]at ht1;let⟨i2,j2,z2,hi2,gz2,rfl⟩:=gP d (List.mem_of_mem_drop (Ā ht));refine⟨_,rfl,?_⟩;let⟨n,en⟩:=ap i i2 ∅ ∅;let⟨_,ef,m,rfl⟩:=fs z z2 gz gz2;by_cases c:n<m
   .dsimp? [ef,en,c,decide_true]
    exact⟨∅,_,_,by rw[Ò,í];lia,rfl⟩
   .dsimp? [ef,en,c,decide_false,Bool.false_eq_true]
    exact⟨_,_,∅,rfl⟩
  .rintro δ ⟨L,o6,lL,rfl⟩
   rw[List.length_drop]at lL;exact⟨L,_,_,_,∅,rfl⟩
 .rintro δ ⟨L,o4,o5,o6,lL,rfl⟩
  rw[lH]at lL;dsimp? [];lia
def J3(la:as.length<=10)(ga:∀a∈as,cR a.x/\cR a.y)(ls:cs.length=ss.length)(lc:cs.length<=10)(gc:∀c∈cs,c.length<=30/\∀b∈c,AJ b):∃L,n6 [wX own b ss ts as,.list 'c']=.ok (.list L) []:=by
 have e24:sizeLine=2^24:=rfl;let⟨r,ea,A,rfl,lA⟩:=J2 (own:=own) (b:=b) (ts:=ts) la ga ls lc gc;have i2:eK (wX own b ss ts as) (.int 2)=some (.list (ss.map kL)):=rfl;generalize wX own b ss ts as=sh at *;refine SD (iF ?_);rfl';unfold zD;dsimp? [];refine dN (ds:=fR 'c') (δ1:=_) (λk δ=>∃L o3 o4,L.length<=32*k/\δ=[some sh,some 'j',some (.list L),o3,o4]) (pL rfl) ⟨[],_,_,by simp,rfl⟩ ?_ ?_
 .rintro k d δ hk ⟨L,o3,o4,lL,rfl⟩
  let⟨k1,rfl⟩:=iS (a0:=[]) hk;have lb1:=(gc _ (bX (d:=[]) k1)).1;refine⟨_,rfl,?_⟩;let⟨_,e1,L1,rfl,l1⟩:=MQ (st:=ss.getD k t7) (s:=(k:Int)) (bs:=cs.getD k []) ∅;dsimp? [i2,AI (enc:=kL) (l:=ss) (d:=t7) (show k<ss.length by lia),e1,LJ];exact⟨∅,_,_,_,by rw[Ò];lia,rfl⟩
 .rintro δ ⟨L,o3,o4,lL,rfl⟩
  rw[lH,Æ]at lL;dsimp? [ea,LJ];exact⟨∅,_,rfl⟩
end
section
end
section
def Y6(cs:List (List Bx)):Prop:=∀c∈cs,c.length<=30/\∀b∈c,AJ b/\1<=b.w/\b.w<=1000000000
def aDW(S:ħ own b ss ts as)(lc:cs.length=ss.length)(gc:Y6 cs):qS own ss cs ts:=
 ⟨S.o0,S.o1,by have:=S.ls;lia,lc,λc hc=>(gc c hc).1,by have:=S.lt;lia,S.gs,λc hc b hb=>by have:=(gc c hc).2 b hb;exact⟨this.1.nm,this.1.p,this.1.k,this.2⟩,S.gt⟩
end
def aDX(hb:0<b)(hd:0<d)(fa:bZ m a)(fb:bZ m b)(fc:bZ n c)(fd:bZ n d)(h:m+n+1<=9000):
  ∃x y,MD [fr (a,b),fr (c,d)]=.ok (fr (x,y)) []/\0<y/\x*(b*d)=(a*d+c*b)*y/\Int.gcd x y=1/\bZ (m+n+1) x/\bZ (m+n+1) y:=by
 let⟨x,y,e,r⟩:=aC4 (t:=a*d+c*b) (b:=b*d) (n:=m+n+1) (Int.ne_of_gt (Int.mul_pos hb hd)) ((fa.mul fd (È _)).add (fc.mul fb (È _)) ∅) (fb.mul fd ∅) h;refine⟨x,y,aQ (os:=[]) ?_,r⟩;rfl';unfold MC;dsimp? [e,fr];exact⟨fa.mulOk fd ∅,fc.mulOk fb ∅,fb.mulOk fd ∅⟩
def Y7(fa:bZ n a)(fb:bZ n b)(fc:bZ n c)(fd:bZ n d)(h:n<=60000000):FH [fr (a,b),fr (c,d)]=.ok (.bool (decide (a*d<c*b))) []:=by
 sleep 2;rfl';unfold FG;dsimp? [fr];exact⟨fa.mulOk fd ∅,fc.mulOk fb ∅⟩
def aDY(fa:bZ n a)(fb:bZ n b)(fc:bZ n c)(fd:bZ n d)(h:n<=60000000):z6 [fr (a,b),fr (c,d)]=.ok (.bool (decide (a*d<c*b))) []:=by
 sleep 2;rfl';unfold zZ;dsimp? [fr];exact⟨fa.mulOk fd ∅,fc.mulOk fb ∅⟩
structure ĕ(Z S:Int)(p:Int×Int):Prop where
 pos:0<p.2
 eq:p.1*S=Z*p.2
 f1:bZ 4000 p.1
 f2:bZ 4000 p.2
def ĕ.lt(hS:0<S)(hS':0<S')(h:ĕ Z S p)(h':ĕ Z' S' p'):p.1*p'.2<p'.1*p.2↔Z*S'<Z'*S:=by
 have hp:=h.pos;have hp':=h'.pos;have e:=h.eq;have e':=h'.eq;have k1:0<S*S':=Int.mul_pos hS hS';have k2:0<p.2*p'.2:=Int.mul_pos hp hp';have q1:p.1*p'.2*(S*S')=Z*S'*(p.2*p'.2):=by
  have:p.1*p'.2*(S*S')=(p.1*S)*(p'.2*S'):=by grind
  rw[this,e]
  grind
 have q2:p'.1*p.2*(S*S')=Z'*S*(p.2*p'.2):=by
  have:p'.1*p.2*(S*S')=(p'.1*S')*(p.2*S):=by grind
  rw[this,e']
  grind
 constructor
 .intro c
  have:=Int.mul_lt_mul_of_pos_right c k1;rw[q1,q2]at this;exact Int.lt_of_mul_lt_mul_right this (ñ k2)
 .intro c
  have:=Int.mul_lt_mul_of_pos_right c k2;rw[<- q1,<- q2]at this;exact Int.lt_of_mul_lt_mul_right this (ñ k1)
section
def Y8(hs:0<s)(gp:v7 300 (qs n z s))(hn:n<=10):∃r,JA [mZ (qs n z s)]=.ok r []/\∃p,r=fr p/\ĕ (Sx.sumN n z) s p:=by
 have ql:(qs n z s).length=n:=YV;refine iF ?_;rfl';unfold zK;dsimp? [];refine dN (ds:=(qs n z s).map fr) (δ1:=_) (λk δ=>∃(p:Int×Int)(o:ZL),0<p.2/\p.1*s=Sx.sumN k z*p.2/\bZ (2+301*k) p.1/\bZ (2+301*k) p.2/\δ=[some (mZ (qs n z s)),some (fr p),o]) (bN rfl) ⟨(0,1),none,⋯,by simp[Sx.sumN],ź,Ŗ ⋯,rfl⟩ ?_ ?_
 .rintro k d δ hk ⟨p,o,p0,pe,f1,f2,rfl⟩
  have k1:k<n:=by have:=(Î.mp hk).1;rwa [Æ,ql]at this
  rw[Ñ,eY (d:=((0:Int),(1:Int))) (by rw[ql];exact k1),PD k1]at hk;cases hk;let⟨g0,g1,g2⟩:=gp.at ⋯ k;rw[PD k1]at g0 g1 g2;have c:=C1 (t:=z k) (b:=s);refine⟨_,rfl,?_⟩;generalize oG (z k) s=q at *;let⟨x,y,e,hy,hx,_,fx,fy⟩:=aDX (a:=p.1) (b:=p.2) (c:=q.1) (d:=q.2) p0 g0 f1 f2 g1 g2 ∅;have e:MD [fr p,fr q]=.ok (fr (x,y)) []:=e;dsimp? [e];refine⟨(x,y),_,hy,?_,fx.mono ∅,fy.mono ∅,rfl⟩;show x*s=(Sx.sumN k z+z k)*y;have h1:x*s*(p.2*q.2)=(Sx.sumN k z+z k)*y*(p.2*q.2):=by
   have:x*s*(p.2*q.2)=(x*(p.2*q.2))*s:=by grind
   rw[this,hx];have:(p.1*q.2+q.1*p.2)*y*s=((p.1*s)*q.2+(q.1*s)*p.2)*y:=by grind
   rw[this,pe,c]
   grind
  exact Int.eq_of_mul_eq_mul_right (Int.ne_of_gt (Int.mul_pos p0 g0)) h1
 .rintro δ ⟨p,o,p0,pe,f1,f2,rfl⟩
  rw[Æ,ql]at pe f1 f2;dsimp? [];exact⟨p,rfl,p0,pe,f1.mono ∅,f2.mono ∅⟩
end
def J4:∀(n a b:Nat)(o:ZL),b<=n->∃o',eS (dB (fC ě (aK 1) (dC (.int 0)))) (bO (cE 2 (fC wE (aK 0) (aK 1))) (bO (cE 0 (aK 1)) (cE 1 (aK 2)))) [some (.int a),some (.int b),o]=.ok .next [some (.int (Nat.gcd a b:Nat)),some (.int 0),o']
 |n,a,0,o,_=>⟨o,by
  rw[dH];have:dB (fC ě (aK 1) (dC (.int 0))) [some (.int a),some (.int (0:Nat)),o]=.ok false [some (.int a),some (.int (0:Nat)),o]:=sJ (i5 (cM rfl) i6 rfl);rw[this,Nat.gcd_zero_right];rfl⟩
 |0,a,b+1,o,h=>absurd h (Nat.not_succ_le_zero _)
 |n+1,a,b+1,o,h=>by
  let⟨o',ih⟩:=J4 n (b+1) (a % (b+1)) (some (.int ((a % (b+1):Nat):Int))) (by have:=Nat.mod_lt a (show 0<b+1 by exact ù _);lia);refine⟨o',?_⟩;rw[dH];have c:dB (fC ě (aK 1) (dC (.int 0))) [some (.int a),some (.int (b+1:Nat)),o]=.ok true [some (.int a),some (.int (b+1:Nat)),o]:=by
   refine sJ (i5 (cM rfl) i6 ?_);rw[ϐ,decide_eq_true ∅]
  rw[c];simp![aX,if_true];have e:bO (cE 2 (fC wE (aK 0) (aK 1))) (bO (cE 0 (aK 1)) (cE 1 (aK 2))) [some (.int a),some (.int (b+1:Nat)),o]=.ok .next [some (.int (b+1:Nat)),some (.int ((a % (b+1):Nat):Int)),some (.int ((a % (b+1):Nat):Int))]:=by
   simp![bO,cE,fC,aK,List.getElem?_cons_zero,List.getElem?_cons_succ,aX,O2 (show 0<b+1 by exact ù _)];rfl
  rw[e];simp![aX];rw[ih,xC]
def aDZ(hb:body=bO (eS (dB (fC ě (aK 1) (dC (.int 0)))) (bO (cE 2 (fC wE (aK 0) (aK 1))) (bO (cE 0 (aK 1)) (cE 1 (aK 2))))) (kC (aK 0)))(a b:Nat):aR 3 [] 0 body [.int a,.int b]=.ok (.int (Nat.gcd a b:Nat)) []:=by
 subst hb;let⟨o,h⟩:=J4 b a b none (È _);sleep 2;refine LF (bK.of (fl:=.next) h ?_);dsimp![NK];exact UT (aW.of (cM rfl) ⟨rfl,rfl⟩)
def aJH(a b:Nat):zT [.int a,.int b]=.ok (.int (Nat.gcd a b:Nat)) []:=aDZ rfl a b
section
variable {n:Nat}
def C5 :∀n,((List.range n).map f).sum=Sx.sumN n f
 |0=>rfl
 |n+1=>by rw[List.range_succ,ß,List.sum_append,C5 n];simp[Sx.sumN]
def aD0(hs:0<s)(gp:v7 300 (qs n z s))(hn:n<=10):∃r,JG [mZ (qs n z s)]=.ok r []/\∃(B:Int)(xs:ZK),r=iL (xs++[B])/\xs.length=n/\0<B/\bZ 3400 B/\xs.sum*s=Sx.sumN n z*B/\bZ 3900 xs.sum:=by
 have hz:sizeLine=2^24:=rfl;have ql:(qs n z s).length=n:=YV;refine iF ?_;rfl';unfold zU;dsimp? [];refine dN (ds:=(qs n z s).map fr) (δ1:=_) (λk δ=>∃(B:Nat)(o:ZL),0<B/\(∀x,x<k->(oG (z x) s).2∣(B:Int))/\bZ (2+300*k) (B:Int)/\δ=[some (mZ (qs n z s)),some (.int (B:Int)),o]) (bN rfl) ⟨1,none,⋯,λx hx=>by lia,Ŗ ⋯,rfl⟩ ?_ ?_
 .rintro k d δ hk ⟨B,o,B0,dB,fB,rfl⟩
  have k1:k<n:=by have:=(Î.mp hk).1;rwa [Æ,ql]at this
  rw[Ñ,eY (d:=((0:Int),(1:Int))) (by rw[ql];exact k1),PD k1]at hk;cases hk;let⟨g0,g1,g2⟩:=gp.at ⋯ k;rw[PD k1]at g0 g1 g2;refine⟨_,rfl,?_⟩;have dk:∀x,x<k+1->(oG (z x) s).2∣((Nat.lcm B (oG (z k) s).2.natAbs:Nat):Int):=λx hx=>by
   by_cases h:x=k
   .subst h
    exact Int.natAbs_dvd.mp (Int.natCast_dvd_natCast.mpr (Nat.dvd_lcm_right _ _))
   .exact Int.dvd_trans (dB x ∅) (Int.natCast_dvd_natCast.mpr (Nat.dvd_lcm_left _ _))
  generalize oG (z k) s=q at *;obtain⟨m,hm⟩:∃m:Nat,q.2=(m:Int):=⟨q.2.toNat,∅⟩;have e1:=aJH B m;have m0:0<m:=by lia
  have gp0:0<Nat.gcd B m:=Nat.gcd_pos_of_pos_right _ m0;have fg:bZ 300 ((Nat.gcd B m:Nat):Int):=g2.le (by rw[hm];simp;exact Nat.gcd_le_right _ m0);have e2:xP (.int ((B:Int)*(m:Int))) (.int ((Nat.gcd B m:Nat):Int))=some (.int ((Nat.lcm B m:Nat):Int)):=by
   rw[uH ∅ (fg.log2 ⋯)];rfl
  have fl:bZ (2+300*(k+1)) ((Nat.lcm B m:Nat):Int):=by
   have:bZ (2+300*(k+1)) ((B:Int)*q.2):=fB.mul g2 ∅;refine this.le ?_;rw[hm,ą];simp;exact Nat.div_le_self _ _
  rw[hm]at dk;have i1:eK (fr q) (.int 1)=some (.int (m:Int)):=by rw[<- hm];rfl
  dsimp? [i1,e1,e2];rw[hm]at g2;exact⟨fB.mulOk g2 ∅,Nat.lcm B m,_,Nat.lcm_pos B0 m0,dk,fl,rfl⟩
 .rintro δ ⟨B,o,B0,dB,fB,rfl⟩
  rw[Æ,ql]at dB fB;have fB:bZ 3400 (B:Int):=fB.mono ∅;dsimp? [];refine aW.of (bR (enc:=fr) (xs:=qs n z s) (g:=λp=>.int (p.1*((B:Int)/p.2))) (bN rfl) ∅ λp hp=>?_) ?_
  .obtain⟨p0,p1,p2⟩:=gp p hp
   have i0:eK (fr p) (.int 0)=some (.int p.1):=rfl;have i1:eK (fr p) (.int 1)=some (.int p.2):=rfl;have e2:xP (.int (B:Int)) (.int p.2)=some (.int ((B:Int)/p.2)):=uH p0 (p2.log2 ⋯);dsimp? [i0,i1,e2];exact p1.mulOk fB.div ⋯
  .dsimp? [U7,Æ]
   rw[ql];refine⟨∅,(B:Int),(qs n z s).map λp=>p.1*((B:Int)/p.2),?_,by rw[Æ,ql],∅,fB,?_,?_⟩
   .rw[ß,î]
    rfl
   .have e:((qs n z s).map λp=>p.1*((B:Int)/p.2))=(List.range n).map λx=>(oG (z x) s).1*((B:Int)/(oG (z x) s).2):=by
     unfold qs;rw[î];rfl
    rw[e,C5];have:∀k,k<=n->(Sx.sumN k λx=>(oG (z x) s).1*((B:Int)/(oG (z x) s).2))*s=Sx.sumN k z*(B:Int):=by
     intro k
     induction k with
     |zero=>intro _;simp[Sx.sumN]
     |succ k ih=>
      intro hk;have ih:=ih ∅;have c:=C1 (t:=z k) (b:=s);have d:=Int.ediv_mul_cancel (dB k ∅);show ((Sx.sumN k λx=>(oG (z x) s).1*((B:Int)/(oG (z x) s).2))+(oG (z k) s).1*((B:Int)/(oG (z k) s).2))*s=(Sx.sumN k z+z k)*(B:Int);rw[Int.add_mul,ih,Int.add_mul];congr 1;generalize oG (z k) s=q at *;have:q.1*((B:Int)/q.2)*s=(q.1*s)*((B:Int)/q.2):=by grind
      rw[this,c];have:z k*q.2*((B:Int)/q.2)=z k*((B:Int)/q.2*q.2):=by grind
      rw[this,d]
    exact this n (È _)
   .refine(PM (m:=3700) (n:=3709) (by rw[Æ,ql];lia) rfl λx hx=>?_).mono ⋯
    let⟨p,hp,rfl⟩:=Þ.mp hx;let⟨p0,p1,p2⟩:=gp p hp;exact p1.mul fB.div ⋯
end
section
variable {own:Q4}{ss:List St}{cs:List (List Bx)}{ts:List Tk}{bd ap tk:D}
abbrev č(q:Q4):D:=.list [.int q.1,.int q.2.1,.int q.2.2.1,.int q.2.2.2]
def J5(M:qS own ss cs ts):v5 [.tuple [mM own,bd,.list (ss.map kL),tk,ap],.list 'c']=.ok (č 's') []:=by
 have lc:=M.lc;have ls:=M.ls;have o0:=M.o0;have o1:=M.o1;unfold kP at o1;have i0:eK (.tuple [mM own,bd,.list (ss.map kL),tk,ap]) (.int 0)=some (mM own):=rfl;have i2:eK (.tuple [mM own,bd,.list (ss.map kL),tk,ap]) (.int 2)=some (.list (ss.map kL)):=rfl;generalize PyData.tuple [mM own,bd,.list (ss.map kL),tk,ap]=sh at *;sleep 2;rfl';unfold oC;dsimp? [i0,mM];refine⟨by ac_nf,by ac_nf,by ac_nf,?_⟩;have z0:T4 [own]=(own.1,own.1*own.2.1,own.1*own.2.2.1,own.1*own.2.2.2):=by simp[T4]
 refine dN (ds:=nJ (ss.map kL) 'c') (δ1:=_) (λk δ=>∃o4 o5 o6 o7,δ=[some sh,some 'j',some (.tuple [.int own.1,.int own.2.1,.int own.2.2.1,.int own.2.2.2]),some (č (T4 (own::mY ss cs k))),o4,o5,o6,o7]) (PF (by dsimp? [i2])) ⟨none,none,none,none,by rw[show mY ss cs 0=[]from rfl,z0]⟩ ?_ ?_
 .rintro k d δ hk ⟨o4,o5,o6,o7,rfl⟩
  let⟨k1,k2,rfl⟩:=JZ (a0:=t7) (b0:=[]) hk;have gb:=M.gb _ (bX (d:=[]) k2);have gs:=M.gs _ (bX (d:=t7) k1);have lb:=M.lb _ (bX (d:=[]) k2);refine⟨_,rfl,?_⟩;refine uJ (j:=(cs.getD k []).length) (δ1:=_) (λt δ=>∃o6 o7,δ=[some sh,some 'j',some (.tuple [.int own.1,.int own.2.1,.int own.2.2.1,.int own.2.2.2]),some (č (T4 (own::mY ss cs k++F7 (ss.getD k t7) (cs.getD k []) t))),some (kL (ss.getD k t7)),some (aN (cs.getD k [])),o6,o7]) (fG (by dsimp? [aN,Æ];rfl)) ∅ ⟨o6,o7,by rw[show F7 (ss.getD k t7) (cs.getD k []) 0=[]from rfl,ô];rfl⟩ ?_ ?_
  .rintro t δ ht ⟨o6,o7,rfl⟩
   have gw:=gb _ (bX (d:=wV) ht);have eb:atI ((cs.getD k []).map cC) (t:Int)=some (cC ((cs.getD k []).getD t wV)):=AI ht;refine⟨_,rfl,?_⟩;rw[JX,<- List.append_assoc,PJ];generalize hT:T4 (own::mY ss cs k++F7 (ss.getD k t7) (cs.getD k []) t)=q at *;generalize ss.getD k t7=s at *;generalize (cs.getD k []).getD t wV=b at *;have w:=gw.w;have gx:=gs.x;have gy:=gs.y;have gz:=gs.z;have gt:=gs.t;unfold kP at gx gy gz gt;generalize hB:(cs.getD k []).map cC=B at *;have s1:eK (kL s) (.int 1)=some (.int s.x):=rfl;have s2:eK (kL s) (.int 2)=some (.int s.y):=rfl;have s3:eK (kL s) (.int 3)=some (.int s.z):=rfl;have s4:eK (kL s) (.int 4)=some (.int s.t):=rfl;have b1:eK (cC b) (.int 1)=some (.int b.w):=rfl;have n0:lN 4 0=some 0:=rfl;have n1:lN 4 1=some 1:=rfl;have n2:lN 4 2=some 2:=rfl;have n3:lN 4 3=some 3:=rfl;dsimp? [aN,hB,eb,b1,s1,s2,s3,s4,č,n0,n1,n2,n3];exact⟨by ac_nf,by ac_nf,by ac_nf,by ac_nf,_,_,rfl⟩
  .rintro δ ⟨o6,o7,rfl⟩
   rw[AH];exact⟨_,_,_,_,rfl⟩
 .rintro δ ⟨o4,o5,o6,o7,rfl⟩
  rw[PH (by simp[lc]),Æ];dsimp? []
def Y9(M:qS own ss cs ts)(g:tY b):oE [.tuple [mM own,BE b,.list (ss.map kL),.list (ts.map kM),ap],.list 'c']=.ok (JW (v9 ts b 's')) []:=by
 have lt:=M.lt;have e0:=J5 (bd:=BE b) (tk:=.list (ts.map kM)) (ap:=ap) M;have i1:eK (.tuple [mM own,BE b,.list (ss.map kL),.list (ts.map kM),ap]) (.int 1)=some (BE b):=rfl;have i3:eK (.tuple [mM own,BE b,.list (ss.map kL),.list (ts.map kM),ap]) (.int 3)=some (.list (ts.map kM)):=rfl;generalize PyData.tuple [mM own,BE b,.list (ss.map kL),.list (ts.map kM),ap]=sh at *;generalize T4 (own::mY ss cs ss.length)=q at *;have x0:eK (č q) (.int 0)=some (.int q.1):=rfl;have x1:eK (č q) (.int 1)=some (.int q.2.1):=rfl;have x2:eK (č q) (.int 2)=some (.int q.2.2.1):=rfl;have x3:eK (č q) (.int 3)=some (.int q.2.2.2):=rfl;have b0:eK (BE b) (.int 0)=some (.int b.b0):=rfl;have b1:eK (BE b) (.int 1)=some (.int b.b1):=rfl;have b2:eK (BE b) (.int 2)=some (.int b.b2):=rfl;have b3:eK (BE b) (.int 3)=some (.int b.b3):=rfl;have b4:eK (BE b) (.int 4)=some (.int b.b4):=rfl;have b5:eK (BE b) (.int 5)=some (.int b.b5):=rfl;let⟨g0,g1,g2,g3,g4,g5⟩:=g;unfold kP at g0 g1 g2 g3 g4 g5;generalize č q=w at *;generalize BE b=bb at *;sleep 2;rfl';unfold zV;have t1:∀t:Tk,eK (kM t) (.int 1)=some (.int t.x):=λ_=>rfl;have t2:∀t:Tk,eK (kM t) (.int 2)=some (.int t.y):=λ_=>rfl;have t3:∀t:Tk,eK (kM t) (.int 3)=some (.int t.z):=λ_=>rfl;dsimp? [e0,i1,i3];refine aW.of (bR (enc:=kM) (xs:=ts) (g:=λt=>.int (t.x-b.b1)) (bN rfl) ∅ λt _=>by dsimp? [t1,b1]) ?_;dsimp? [b1,x0,x1];refine⟨by ac_nf,aW.of (bR (enc:=kM) (xs:=ts) (g:=λt=>.int (b.b0-t.x)) (bN rfl) ∅ λt _=>by dsimp? [t1,b0]) ?_⟩;dsimp? [b0,x0,x1];refine⟨by ac_nf,aW.of (bR (enc:=kM) (xs:=ts) (g:=λt=>.int (t.y-b.b3)) (bN rfl) ∅ λt _=>by dsimp? [t2,b3]) ?_⟩;dsimp? [b3,x0,x2];refine⟨by ac_nf,aW.of (bR (enc:=kM) (xs:=ts) (g:=λt=>.int (b.b2-t.y)) (bN rfl) ∅ λt _=>by dsimp? [t2,b2]) ?_⟩;dsimp? [b2,x0,x2];refine⟨by ac_nf,aW.of (bR (enc:=kM) (xs:=ts) (g:=λt=>.int (t.z-b.b4)) (bN rfl) ∅ λt _=>by dsimp? [t3,b4]) ?_⟩;dsimp? [b4,x0,x3];refine⟨by ac_nf,aW.of (bR (enc:=kM) (xs:=ts) (g:=λ_=>.int 1) (bN rfl) ∅ λt _=>by dsimp? []) ?_⟩;dsimp? [b5,x0];unfold v9;simp![Ð,List.map_nil,MJ,iL,î];rfl
end
def t0(n:Nat)(z:Nat->Int)(s:Int)(two:D):D:=.tuple [.str "fill",mZ (qs n z s),two]
def ZQ(two:D):D:=.tuple [.str "none",two]
def aO9(n:Nat)(r:D):Prop:=(∃z s two,r=t0 n z s two/\0<s/\v7 300 (qs n z s))\/∃two,r=ZQ two
section
def aMV(W:W9 Ç Ã):∃r,pC [JW Ç,iL Ã]=.ok r []/\aO9 Ã.length r:=by
 have n4:=W.n;let⟨b,_,_⟩:=W.bnd;let⟨r,el,T,σ,I,h⟩:=YU b;refine⟨r,el,?_⟩;let⟨fs,fl⟩:=W.fit I;rcases h with ⟨all,rfl⟩|⟨p,hp,hneg,ha,rfl⟩
 .have hv:∀u,bZ 300 (Sx.val (Ĳ Ç Ã).pr T u):=aDR (λi j hi hj e=>I.hi i j ∅ ∅ e) λr hr=>fl r _ ∅ (È _)
  exact .inl ⟨Sx.val (Ĳ Ç Ã).pr T,T.s,Ĕ Ã.length Ç.length (λu=>Sx.shr Ã.length T.f (T.L (Ĳ Ç Ã).pr.k) u) T.s,by unfold t0;rw[aI6];rfl,I.pos,aDN I.pos fs λx _=>hv x⟩
 .exact .inr ⟨Ĕ Ã.length Ç.length (λu=>if u=T.h p then T.s else Sx.shr Ã.length T.f (T.L p) u) T.s,rfl⟩
end
def aJI{L:ZI}{d:D}:atI (L++[d]) (-1)=some d:=by
 have e:lN (L++[d]).length (-1)=some L.length:=by
  unfold lN;rw[Ò,í,Ä ⋯,Â ∅];congr 1;lia
 unfold atI;rw[e];exact List.getElem?_concat_length
def aD2{L:ZI}{d:D}:A1 (.list (L++[d])) none (some (-1))=some (.list L):=by
 have e:HT.sIx (L++[d]).length (L++[d]).length (some (-1))=L.length:=by
  show (if (-1:Int)<0 then ((-1:Int)+((L++[d]).length:Int)).toNat else min (-1:Int).toNat (L++[d]).length)=_;rw[Â ⋯,Ò,í];lia
 show some (PyData.list (A0 (L++[d]) none (some (-1))))=_;unfold A0;rw[e,HT.sIx_none,List.drop_zero,Nat.sub_zero,List.take_left'];rfl
inductive How where
 |no
 |fill (z:Nat->Int) (s:Int)
section
variable {cs:List (List Bx)}{ts:List Tk}
abbrev MR(ts:List Tk):ZK:=ts.map λt=>t.r
def SF(sh:D)(n:Nat)(cs:List (List Bx)):How->Prop
 |.no=>(∃(k:Str)(x:D),(k="none"\/k="broken")/\mF [sh,.list 'c']=.ok (.tuple [.str k,x]) [])/\∃w L,lF [sh,.list 'c']=.ok w []/\n6 [sh,.list 'c']=.ok (.list L) []/\(w=.none\/(∃p,w=fr p)/\L≠[])
 |.fill z s=>0<s/\v7 300 (qs n z s)/\(∃u,mF [sh,.list 'c']=.ok (t0 n z s u) [])/\(∃p,lF [sh,.list 'c']=.ok (fr p) []/\ĕ (Sx.sumN n z) s p)/\n6 [sh,.list 'c']=.ok (.list []) []
def MS(h1:oE [sh,.list 'c']=.ok R [])(h3:eK sh (.int 3)=some (.list (ts.map kM)))(lt:ts.length<=10)(hl:pC [R,iL (MR ts)]=.ok (ZQ u) []):lF [sh,.list 'c']=.ok .none []:=by
 have x0:eK (ZQ u) (.int 0)=some (.str "none"):=rfl;have t4:∀t:Tk,eK (kM t) (.int 4)=some (.int t.r):=λ_=>rfl;sleep 2;rfl';unfold lE;dsimp? [h1];refine aW.of (bR (enc:=kM) (xs:=ts) (g:=λt=>.int t.r) (cJ (by dsimp? [h3])) ∅ λt _=>by dsimp? [t4]) ?_;rw[C3];dsimp? [hl,x0,aO6]
def MT(h1:oE [sh,.list 'c']=.ok R [])(h3:eK sh (.int 3)=some (.list (ts.map kM)))(lt:ts.length<=10)(hs:0<s)(gp:v7 300 (qs (MR ts).length z s))(hl:pC [R,iL (MR ts)]=.ok (t0 (MR ts).length z s u) []):∃r,lF [sh,.list 'c']=.ok r []/\∃p,r=fr p/\ĕ (Sx.sumN (MR ts).length z) s p:=by
 have e24:sizeLine=2^24:=rfl;have ln:(MR ts).length=ts.length:=Æ _;let⟨r,eo,B,xs,rfl,lx,B0,fB,hv,fx⟩:=aD0 hs gp ∅;have x0:eK (t0 (MR ts).length z s u) (.int 0)=some (.str "fill"):=rfl;have x1:eK (t0 (MR ts).length z s u) (.int 1)=some (mZ (qs (MR ts).length z s)):=rfl;have t4:∀t:Tk,eK (kM t) (.int 4)=some (.int t.r):=λ_=>rfl;generalize (MR ts).length=n at *;have eL:iL (xs++[B])=.list (xs.map PyData.int++[.int B]):=by unfold iL;rw[ß];rfl
 rw[eL]at eo;have c1:A1 (.list (xs.map PyData.int++[.int B])) none (some (-1))=some (.list (xs.map PyData.int)):=aD2;have c2:eK (.list (xs.map PyData.int++[.int B])) (.int (-1))=some (.int B):=aJI;generalize PyData.list (xs.map PyData.int++[.int B])=ol at *;refine iF ?_;rfl';unfold lE;dsimp? [h1];refine aW.of (bR (enc:=kM) (xs:=ts) (g:=λt=>.int t.r) (cJ (by dsimp? [h3])) ∅ λt _=>by dsimp? [t4]) ?_;rw[C3];dsimp? [hl,x0,aO5,Bool.false_eq_true,x1,eo,VO,uK,uL,B3,VJ,c1,c2,ϛ];exact⟨(xs.sum,B),rfl,B0,hv,fx.mono ⋯,fB.mono ⋯⟩
def ZR(S:ħ own b ss ts as)(lc:cs.length=ss.length)(gc:Y6 cs):∃h,SF (wX own b ss ts as) (MR ts).length cs h:=by
 have ls:=S.ls;have lt:=S.lt;have M:=aDW S lc gc;let⟨r,el,hr⟩:=aMV (aDQ M S.b);let⟨L,ek⟩:=J3 (own:=own) (b:=b) (ts:=ts) (by have:=S.la;lia) S.ga lc ∅ λc hc=>⟨(gc c hc).1,λx hx=>((gc c hc).2 x hx).1⟩;have e0:u1 [wX own b ss ts as,.list 'c']=.ok (JW (v9 ts b 's')) []:=aDP M S.b;have e1:rB [wX own b ss ts as]=.ok (iL (MR ts)) []:=MN ∅;have e2:oE [wX own b ss ts as,.list 'c']=.ok (JW (v9 ts b 's')) []:=Y9 M S.b;have i3:eK (wX own b ss ts as) (.int 3)=some (.list (ts.map kM)):=rfl;generalize JW (v9 ts b 's')=Ç at *;generalize wX own b ss ts as=sh at *;have eb:CL [sh,.list 'c']=.ok r []:=by
  sleep 2;rfl';unfold u2;dsimp? [e0,e1,el]
 have es:mF [sh,.list 'c']=.ok (if L.isEmpty then r else .tuple [.str "broken",.list L]) []:=by
  generalize hR:(if L.isEmpty then r else PyData.tuple [.str "broken",.list L])=R;sleep 2;rfl';unfold rF;dsimp? [ek];subst hR
  try rw[U8]
  try dsimp? []
  refine aIW (cM rfl) ?_;cases L with
  |nil=>dsimp? [List.isEmpty_nil,Bool.not_true,Bool.false_eq_true,eb]
  |cons x L=>dsimp? [List.isEmpty_cons,Bool.not_false]
 rcases hr with ⟨z,s,u,rfl,hs,gp⟩|⟨u,rfl⟩
 .obtain⟨w,ew,p,rfl,hv⟩:=MT e2 i3 ∅ hs gp el
  cases L with
  |nil=>exact⟨.fill z s,hs,gp,⟨u,es⟩,⟨p,ew,hv⟩,ek⟩
  |cons x L=>exact⟨.no,⟨"broken",_,.inr rfl,es⟩,_,_,ew,ek,.inr ⟨⟨p,rfl⟩,List.cons_ne_nil _ _⟩⟩
 .have ew:=MS e2 i3 ∅ el
  cases L with
  |nil=>exact⟨.no,⟨"none",_,.inl rfl,es⟩,_,_,ew,ek,.inl rfl⟩
  |cons x L=>exact⟨.no,⟨"broken",_,.inr rfl,es⟩,_,_,ew,ek,.inl rfl⟩
end
section
variable {ps:ZG}
def t6(ps:ZG)(p:Str):Nat:=ps.findIdx (· == p)
def sL(ps:ZG):D:=.list (ps.map PyData.str)
def GD:∀ps:ZG,A5 (ps.map PyData.str)=some (ps.map V.str)
 |[]=>rfl
 |p::ps=>by
  have:=GD ps;show (match EE (.str p),A5 (ps.map PyData.str)with|some v,some vs=>some (v::vs)|_,_=>none)=_;rw[this];rfl
def mO:Į false (.str p) (.list (ps.map PyData.str))=some (.bool (ps.any (· == p))):=by
 unfold Į;dsimp only;rw[GD];show some (PyData.bool (Ē (.str p) (ps.map V.str)))=_;unfold Ē;rw[List.any_map];rfl
def J6(h:ps.any (· == p)=true):VY (.list (ps.map PyData.str)) (.str p)=some (.int (t6 ps p)):=by
 unfold VY;dsimp only;rw[GD];dsimp![EE];have e:(ps.map V.str).findIdx? (λy=>MZ y (.str p))=ps.findIdx? (· == p):=by
  rw[List.findIdx?_map];rfl
 rw[e];have:ps.findIdx? (· == p)=some (t6 ps p):=by
  unfold t6;rw[List.findIdx?_eq_some_iff_findIdx_eq];refine⟨?_,rfl⟩;rw[List.findIdx_lt_length];simpa using h
 rw[this]
def AN(h:ps.any (· == p)=false):t6 ps p=ps.length:=by
 unfold t6;rw[List.findIdx_eq_length];intro x hx;have:=List.any_eq_false.mp h x hx;simpa using this
def AO:rJ [.str p,sL ps]=.ok (.int (t6 ps p)) []:=by
 sleep 2;rfl';unfold rH sL;cases h:ps.any (· == p)with
 |true=>
  dsimp? [mO,h,N8,J6 h];exact⟨_,rfl⟩
 |false=>
  dsimp? [mO,h,AN h,Æ]
def ov(ps:ZG)(b:Bx)(o:Bx):Bool:=decide ((t6 ps o.p:Int)<(t6 ps b.p:Int))
def SH{cs:List (List Bx)}(s0:0<=s)(s1:s.toNat<cs.length)(hl:(cs[s.toNat]).length<=50):jI [.list 'c',.int s,cC b,sL ps]=.ok (.int (((cs[s.toNat]).filter (ov ps b)).length:Int)) []:=by
 sleep 2;rfl';unfold jH;have e1:atI 'c' s=some (aN cs[s.toNat]):=by
  rw[aML s0 (by rw[Æ];exact s1),List.getElem_map]
 generalize cs[s.toNat]=c at *;dsimp? [cC,AO];refine aW.of (FX (enc:=cC) (xs:=c) (h:=ov ps b) (g:=cC) (cJ (by dsimp? [e1,aN])) ∅ (λo ho=>?_) λo ho=>by dsimp? []) ?_
 .dsimp? [cC,AO,ov]
 .dsimp? [Æ]
end
structure Of where
 s:Nat
 m:Nat
 Z:Int
 S:Int
def Ė(o b:Of):Bool:=decide (o.m<b.m) || (decide (o.m=b.m) && decide (o.Z*b.S<b.Z*o.S))
def ZS:Option Of->Of->Option Of
 |none,o=>some o
 |some b,o=>if Ė o b=true then some o else some b
def Z8(o:Of)(d:D):Prop:=∃p,d=.tuple [.int (o.s:Int),.int (o.m:Int),fr p]/\ĕ o.Z o.S p/\0<o.S
def ŗ(o:Of)(d:D):Prop:=∃p,d=.tuple [.int (o.m:Int),fr p,.int (o.s:Int)]/\ĕ o.Z o.S p/\0<o.S
def iU(R:Of->D->Prop):Option Of->D->Prop
 |none,d=>d=.none
 |some o,d=>R o d
def vD:List Of->ZI->Prop
 |[],ds=>ds=[]
 |o::os,ds=>∃d r,ds=d::r/\Z8 o d/\vD os r
def vD.add(h:Z8 o d):∀{os:List Of}{ds:ZI},vD os ds->vD (os++[o]) (ds++[d])
 |[],_,e=>by rw[show _=[]from e];exact⟨d,[],rfl,h,rfl⟩
 |_::os,_,⟨x,r,e,h1,h2⟩=>by rw[e];exact⟨x,_,rfl,h1,vD.add h h2⟩
def vD.len:∀{os:List Of}{ds:ZI},vD os ds->ds.length=os.length
 |[],_,e=>by rw[show _=[]from e];rfl
 |_::os,_,⟨x,r,e,h1,h2⟩=>by rw[e,Ý,Ý,vD.len h2]
def vD.at:∀{os:List Of}{ds:ZI}{k:Nat}{d:D},vD os ds->ds[k]?=some d->∃o,os[k]?=some o/\Z8 o d
 |[],_,k,d,e,h=>by rw[show _=[]from e]at h;simp at h
 |o::os,_,0,d,⟨x,r,e,h1,h2⟩,h=>by rw[e]at h;cases h;exact⟨o,rfl,h1⟩
 |o::os,_,k+1,d,⟨x,r,e,h1,h2⟩,h=>by rw[e]at h;exact vD.at (k:=k) h2 h
def aJJ(h1:Z8 o d)(h2:Z8 b e):dR [d,e]=.ok (.bool (Ė o b)) []:=by
 let⟨p,rfl,v,s⟩:=h1;let⟨q,rfl,v',s'⟩:=h2;have eu:=Y7 (a:=p.1) (b:=p.2) (c:=q.1) (d:=q.2) v.f1 v.f2 v'.f1 v'.f2 ⋯;have eu:FH [fr p,fr q]=.ok (.bool (decide (o.Z*b.S<b.Z*o.S))) []:=by
  rw[show fr p=fr (p.1,p.2)from rfl,show fr q=fr (q.1,q.2)from rfl,eu];congr 2;exact decide_eq_decide.mpr (v.lt s s' v')
 sleep 2;rfl';unfold fK Ė;by_cases c:o.m=b.m
 .have c1:decide ((o.m:Int)≠(b.m:Int))=false:=decide_eq_false ∅
  have c2:decide (o.m<b.m)=false:=decide_eq_false ∅;have c3:decide (o.m=b.m)=true:=decide_eq_true c;dsimp? [c1,Bool.false_eq_true,eu,c2,c3,Bool.true_and,Bool.false_or]
 .have c1:decide ((o.m:Int)≠(b.m:Int))=true:=decide_eq_true ∅
  have c2:decide (o.m=b.m)=false:=decide_eq_false c;have c3:decide ((o.m:Int)<(b.m:Int))=decide (o.m<b.m):=decide_eq_decide.mpr ∅;dsimp? [c1,c2,c3,Bool.false_and,Bool.or_false]
section
variable {ps:ZG}{cs:List (List Bx)}{b:Bx}{n:Nat}
abbrev put(cs:List (List Bx))(s:Nat)(b:Bx):List (List Bx):=cs.set s (cs.getD s []++[b])
def J7(hs:s<cs.length)(lc:cs.length<=100)(l1:∀c∈cs,c.length<=50):oA [.list 'c',.int (s:Int),cC b]=.ok (.list ((put cs s b).map aN)) []:=by
 have hs':((s:Nat):Int).toNat<cs.length:=by lia
 have e:cs[((s:Nat):Int).toNat]=cs.getD s []:=by
  have:=eY (d:=[]) hs';rw[Ê hs']at this;rw[Option.some.inj this,ø]
 have lg:=l1 _ (bX (d:=[]) hs);have h:=SC (w:="on") (x:=.str b.nm) (s:=(s:Int)) (b:=b) ⟨⋯,v8 _⟩ ⋯ lc ∅ hs' (by rw[e];lia);rw[e,ø]at h;have i0:eK (cC b) (.int 0)=some (.str b.nm):=rfl;generalize cC b=B at *;sleep 2;rfl';unfold zM;dsimp? [i0,h]
def PU(hs:s<cs.length)(lc:cs.length<=100)(l1:∀c∈cs,c.length<=50):FP [.list 'c',.int (s:Int),cC b]=.ok (.list ((put cs s b).map aN)) []:=by
 have hz:sizeLine=2^24:=rfl;let⟨e1,e2⟩:=Y0 (cs:=cs) (s:=(s:Int)) ∅ ∅;have e:cs[((s:Nat):Int).toNat]'∅=cs.getD s []:=by
  have:=eY (d:=[]) (show ((s:Nat):Int).toNat<cs.length by lia);rw[Ê ∅]at this;rw[Option.some.inj this,ø]
 have lg:=l1 _ (bX (d:=[]) hs);rw[e]at e2;rw[ø]at e1 e2;sleep 2;rfl';unfold FO;dsimp? [];refine aW.of (bR (enc:=aN) (xs:=cs) (g:=aN) (bN rfl) ∅ λx _=>by dsimp? [aN,EM]) ?_;have eh:KJ [0,0,0,2] [some 'j',some (.int (s:Int)),some (cC b),some 'j']=[some 'j',some (.int (s:Int)),some (cC b),none]:=rfl;dsimp? [LL,LM e1 e2,eh,qQ,uM];refine⟨by rw[Æ];lia,?_⟩;simp[put,List.map_set,aN]
def PV:zY [sL ps,.str p]=.ok (.int (t6 ps p)) []:=by
 sleep 2;rfl';unfold zX sL;cases h:ps.any (· == p)with
 |true=>
  dsimp? [mO,h,N8,J6 h];exact⟨_,rfl⟩
 |false=>
  dsimp? [mO,h,AN h,Æ,Bool.false_eq_true]
def ġ(cs:List (List Bx))(s:Nat)(b:Bx)(ps:ZG):Nat:=((cs.getD s []).filter (ov ps b)).length
def C6(n:Nat)(H:Nat->How)(cs:List (List Bx))(b:Bx)(ps:ZG):Nat->List Of
 |0=>[]
 |k+1=>C6 n H cs b ps k++(match H k with|.no=>[]|.fill z S=>[⟨k,ġ cs k b ps,Sx.sumN n z,S⟩])
def GE :∀k,(C6 n H cs b ps k).length<=k
 |0=>È _
 |k+1=>by
  have:=GE (H:=H) k;unfold C6;rw[Ò];cases H k with
  |no=>simp;lia
  |fill z S=>simp;lia
end
def lM:UG .none .none=some 'l':=rfl
def mP:UG (.tuple l) .none=some (.bool false):=rfl
section
def SI(hH:∀s,s<cs.length->SF sh n (put cs s b) (H s))(hn:n<=10)(lc:cs.length<=8)(l1:∀c∈cs,c.length<=50):∃r,mH [sh,.list 'c',cC b,sL ps]=.ok r []/\∃ds,r=.list ds/\vD (C6 n H cs b ps cs.length) ds:=by
 have e24:sizeLine=2^24:=rfl;have eO:∀s,s<cs.length->jI [.list 'c',.int (s:Int),cC b,sL ps]=.ok (.int (ġ cs s b ps:Int)) []:=λs hs=>by
  have hs':((s:Nat):Int).toNat<cs.length:=by lia
  have e:cs[((s:Nat):Int).toNat]=cs.getD s []:=by
   have:=eY (d:=[]) hs';rw[Ê hs']at this;rw[Option.some.inj this,ø]
  have:=SH (cs:=cs) (s:=(s:Int)) (b:=b) (ps:=ps) ∅ hs' (by rw[e];exact l1 _ (bX hs))
  rw[e]at this;exact this
 have eP:=λs(hs:s<cs.length)=>J7 (b:=b) hs ∅ l1;generalize cC b=B at *;refine iF ?_;rfl';unfold mG;dsimp? [];refine uJ (j:=cs.length) (δ1:=_) (λk δ=>∃(ds:ZI)(o5 o6:ZL),vD (C6 n H cs b ps k) ds/\δ=[some sh,some 'j',some B,some (sL ps),some 'r',o5,o6]) (fG (by dsimp? [Æ])) ∅ ⟨[],none,none,rfl,rfl⟩ ?_ ?_
 .rintro k δ hk ⟨ds,o5,o6,A,rfl⟩
  refine⟨_,rfl,?_⟩;have h:=hH k hk;have lA:=A.len;have lo:=GE (n:=n) (cs:=cs) (b:=b) (ps:=ps) (H:=H) k;refine rK λK _ _ _ hK _=>?_;have ek:C6 n H cs b ps (k+1)=C6 n H cs b ps k++(match H k with|.no=>[]|.fill z S=>[⟨k,ġ cs k b ps,Sx.sumN n z,S⟩]):=rfl;rw[ek]at hK;generalize C6 n H cs b ps k=os at *;cases hk2:H k with
  |no=>
   rw[hk2]at h hK;let⟨⟨kk,x,hkk,es⟩,_⟩:=h;have x0:eK (.tuple [.str kk,x]) (.int 0)=some (.str kk):=rfl;have q:G7 (.str kk) (.str "fill")=some (.bool false):=by rcases hkk with rfl|rfl<;>with_unfolding_all rfl
   dsimp? [eP k hk,es,x0,q,Bool.false_eq_true];exact hK _ ⟨ds,_,_,by rw[ô];exact A,rfl⟩
  |fill z S=>
   rw[hk2]at h hK;let⟨hs,gp,⟨u,es⟩,_,_⟩:=h;have x0:eK (t0 n z S u) (.int 0)=some (.str "fill"):=rfl;have x1:eK (t0 n z S u) (.int 1)=some (mZ (qs n z S)):=rfl;let⟨r,ev,p,rfl,hv⟩:=Y8 hs gp hn;generalize t0 n z S u=T at *;dsimp? [eP k hk,es,x0,aO4,x1,eO k hk,ev,qQ];exact⟨∅,hK _ ⟨_,_,_,A.add ⟨p,rfl,hv,hs⟩,rfl⟩⟩
 .rintro δ ⟨ds,o5,o6,A,rfl⟩
  dsimp? [];exact A
def eU(os:List Of):(Option Of):=os.foldl ZS none
def J8{os:List Of}:eU (os++[o])=ZS (eU os) o:=by unfold eU;rw[List.foldl_append];rfl
def Ž:Option Of->D
 |none=>.none
 |some o=>.int (o.s:Int)
def ZT(hH:∀s,s<cs.length->SF sh n (put cs s b) (H s))(lc:cs.length<=8)(l1:∀c∈cs,c.length<=50):oF [sh,.list 'c',cC b,sL ps]=.ok (Ž (eU (C6 n H cs b ps cs.length))) []:=by
 have e24:sizeLine=2^24:=rfl;have eP:=λs(hs:s<cs.length)=>PU (b:=b) hs ∅ l1;have i2:eK (cC b) (.int 2)=some (.str b.p):=rfl;have eC:∀s,s<cs.length->atI 'c' (s:Int)=some (aN (cs.getD s [])):=λs hs=>AI hs;generalize cC b=B at *;sleep 2;rfl';unfold z7;dsimp? [];refine uJ (j:=cs.length) (δ1:=_) (λk δ=>∃(d:D)(o5 o6 o7 o8 o9:ZL),iU ŗ (eU (C6 n H cs b ps k)) d/\δ=[some sh,some 'j',some B,some (sL ps),some d,o5,o6,o7,o8,o9]) (fG (by dsimp? [Æ])) ∅ ⟨.none,none,none,none,none,none,rfl,rfl⟩ ?_ ?_
 .rintro k δ hk ⟨d,o5,o6,o7,o8,o9,R,rfl⟩
  refine⟨_,rfl,?_⟩;have h:=hH k hk;have lk:=l1 _ (bX (d:=[]) hk);have ek:C6 n H cs b ps (k+1)=C6 n H cs b ps k++(match H k with|.no=>[]|.fill z S=>[⟨k,ġ cs k b ps,Sx.sumN n z,S⟩]):=rfl;rw[ek];have fin:∀(K:ZO),(∀δ,(∃(d:D)(o5 o6 o7 o8 o9:ZL),iU ŗ (eU (C6 n H cs b ps k++(match H k with|.no=>[]|.fill z S=>[⟨k,ġ cs k b ps,Sx.sumN n z,S⟩]))) d/\δ=[some sh,some 'j',some B,some (sL ps),some d,o5,o6,o7,o8,o9])->K δ)->(H k=.no)->∀o6 o7:ZL,K [some sh,some 'j',some B,some (sL ps),some d,some (.int (k:Int)),o6,o7,o8,o9]:=λK hK h0 o6 o7=>hK _ ⟨d,_,_,_,_,_,by rw[h0,ô];exact R,rfl⟩;cases hk2:H k with
  |no=>
   rw[hk2]at h;let⟨_,w,L,ew,ek,hw⟩:=h;rw[hk2]at fin;have fin:=fin _ (λ_ z=>z) rfl;rcases hw with rfl|⟨⟨p,rfl⟩,hL⟩
   .dsimp? [eP k hk,ew,lM]
    exact fin _ _
   .have lp:decide ((0:Int)<(L.length:Int))=true:=decide_eq_true (by have:=List.length_pos_iff.mpr hL;lia)
    dsimp? [eP k hk,ew,fr,mP,Bool.false_eq_true,ek,lp];exact fin _ _
  |fill z S=>
   rw[hk2]at h;let⟨hs,gp,_,⟨p,ew,hv⟩,ek⟩:=h;rw[J8];have lz:decide ((0:Int)<(([]:ZI).length:Int))=false:=rfl;have eo:ġ cs k b ps=((cs.getD k []).filter (ov ps b)).length:=rfl;have f1:=List.length_filter_le (ov ps b) (cs.getD k []);have aC:=eC k hk;generalize cs.getD k []=bs at *;refine rK λK _ L _ hK _=>?_;dsimp? [eP k hk,ew,fr,mP,Bool.false_eq_true,ek,lz,i2,PV];refine aW.of (FX (enc:=cC) (xs:=bs) (h:=ov ps b) (g:=cC) (cJ (by dsimp? [aC,aN])) ∅ (λo ho=>by dsimp? [cC,PV,ov]) λo ho=>by dsimp? []) ?_;dsimp? [Æ,<- eo];generalize ġ cs k b ps=m at *;have new:ŗ ⟨k,m,Sx.sumN n z,S⟩ (.tuple [.int (m:Int),fr p,.int (k:Int)]):=⟨p,rfl,hv,hs⟩;cases hb:eU (C6 n H cs b ps k)with
   |none=>
    rw[hb]at R hK;have R:d=.none:=R;subst R;dsimp? [lM];exact hK _ ⟨_,_,_,_,_,_,new,rfl⟩
   |some o=>
    rw[hb]at R hK;let⟨q,rfl,hv',hs'⟩:=R;have el:=aDY (a:=p.1) (b:=p.2) (c:=q.1) (d:=q.2) hv.f1 hv.f2 hv'.f1 hv'.f2 ⋯;have el:z6 [.tuple [.int p.1,.int p.2],fr q]=.ok (.bool (decide (Sx.sumN n z*o.S<o.Z*S))) []:=by
     rw[show PyData.tuple [.int p.1,.int p.2]=fr (p.1,p.2)from rfl,show fr q=fr (q.1,q.2)from rfl,el];congr 2;exact decide_eq_decide.mpr (hv.lt hs hs' hv')
    have old:ŗ o (.tuple [.int (o.m:Int),fr q,.int (o.s:Int)]):=⟨q,rfl,hv',hs'⟩;have ep:ZS (some o) ⟨k,m,Sx.sumN n z,S⟩=if Ė ⟨k,m,Sx.sumN n z,S⟩ o=true then some ⟨k,m,Sx.sumN n z,S⟩else some o:=rfl;have ea:Ė ⟨k,m,Sx.sumN n z,S⟩ o=(decide (m<o.m) || (decide (m=o.m) && decide (Sx.sumN n z*o.S<o.Z*S))):=rfl;rw[ep,ea]at hK;generalize decide (Sx.sumN n z*o.S<o.Z*S)=lq at *;generalize fr q=fq at *;by_cases c1:m<o.m
    .have d1:decide ((m:Int)<(o.m:Int))=true:=decide_eq_true ∅
     rw[decide_eq_true c1,Bool.true_or,Â rfl]at hK;dsimp? [mP,Bool.false_eq_true,d1];exact hK _ ⟨_,_,_,_,_,_,new,rfl⟩
    .have d1:decide ((m:Int)<(o.m:Int))=false:=decide_eq_false ∅
     rw[decide_eq_false c1,Bool.false_or]at hK;by_cases c2:m=o.m
     .have d2:decide ((m:Int)=(o.m:Int))=true:=decide_eq_true ∅
      rw[decide_eq_true c2,Bool.true_and]at hK;dsimp? [mP,Bool.false_eq_true,d1,VL,d2,el];cases lq with
      |true=>
       rw[Â rfl]at hK⊢;exact hK _ ⟨_,_,_,_,_,_,new,rfl⟩
      |false=>
       rw[Ä ⋯]at hK⊢;exact hK _ ⟨_,_,_,_,_,_,old,rfl⟩
     .have d2:decide ((m:Int)=(o.m:Int))=false:=decide_eq_false ∅
      rw[decide_eq_false c2,Bool.false_and,Ä ⋯]at hK;dsimp? [mP,Bool.false_eq_true,d1,VL,d2];exact hK _ ⟨_,_,_,_,_,_,old,rfl⟩
 .rintro δ ⟨d,o5,o6,o7,o8,o9,R,rfl⟩
  cases hb:eU (C6 n H cs b ps cs.length)with
  |none=>
   rw[hb]at R;have R:d=.none:=R;subst R;dsimp? [lM,Ž]
  |some o=>
   rw[hb]at R;let⟨p,rfl,_,_⟩:=R;dsimp? [mP,Bool.false_eq_true,Ž]
end
def aPA(δ:DS):Option Str->Res Fl
 |none=>.ok .next δ
 |some x=>.err (.str x) δ
def ĵ{c:M Bool}{v:M Fl}{x:Str}{m:D}{δ:DS}{b:Bool}(h:c δ=.ok b δ):bO (gF c (kG x [dC m]) iX) v δ=if b=true then .err (.str x) δ else v δ:=by
 have hr:kG x [dC m] δ=.err (.str x) δ:=by
  unfold kG;simp[bD,i6,Res.bind]
 unfold bO gF;rw[h];simp![Res.bind];cases b
 .rfl
 .simp[hr]
def aPB{c:M Bool}{x:Str}{m:D}{δ:DS}{b:Bool}(h:c δ=.ok b δ):gF c (kG x [dC m]) iX δ=if b=true then .err (.str x) δ else .ok .next δ:=by
 have hr:kG x [dC m] δ=.err (.str x) δ:=by
  unfold kG;simp[bD,i6,Res.bind]
 unfold gF;rw[h];simp![Res.bind];cases b
 .rfl
 .simp[hr]
def Ķ(z:Str):Prop:=z.length<=100/\∀c∈z.cps.toList,c<128
structure Ř(b:Bx):Prop where
 nm:Ķ b.nm
 p:Ķ b.p
 k:Ķ b.k
def aJM(h:Ķ z):gQ [.str z]=.ok (.bool (GI z)) []:=name_ev' h.1 h.2
def ZU(zs:ZG)(b:Bx):(Option Str):=if GI b.nm=false then some "NoName"else if b.nm∈zs then some "NoName"else if b.w<1 then some "NoWeight"else if GI b.p=false then some "NoName"else if GI b.k=false then some "NoName"else if b.b<0 then some "NoWeight"else none
def J9(A:Ř b):hG [cC b,C4 zs]=Ħ (ZU zs b):=by
 have i0:eK (cC b) (.int 0)=some (.str b.nm):=rfl;have i1:eK (cC b) (.int 1)=some (.int b.w):=rfl;have i2:eK (cC b) (.int 2)=some (.str b.p):=rfl;have i3:eK (cC b) (.int 3)=some (.str b.k):=rfl;have i4:eK (cC b) (.int 4)=some (.int b.b):=rfl;generalize cC b=T at *;have fin:∀r:Res Fl,jW [some T,some (C4 zs)]=r->r=aPA [some T,some (C4 zs)] (ZU zs b)->hG [T,C4 zs]=Ħ (ZU zs b):=λr e1 e2=>by
  unfold hG aR;show (match jW [some T,some (C4 zs)]with|.ok (.ret d) δ=>_|.ok .next δ=>_|.ok _ _=>_|.err x δ=>_|.stuck=>_)=_;rw[e1,e2];cases ZU zs b<;>rfl
 have cl:∀(j:Int)(z:Str),eK T (.int j)=some (.str z)->Ķ z->mU (dB (bP gQ [.val (fC eK (aK 0) (dC (.int j)))])) [some T,some (C4 zs)]=.ok (!GI z) [some T,some (C4 zs)]:=λj z hj hz=>
  HD (sJ (QI (i5 (cM rfl) i6 hj) (aJM hz)))
 refine fin _ rfl ?_;unfold jW ZU;have ci:dB (fC (vU false) (fC eK (aK 0) (dC (.int 0))) (aK 1)) [some T,some (C4 zs)]=.ok (decide (b.nm∈zs)) [some T,some (C4 zs)]:=sJ (i5 (op:=vU false) (i5 (δ:=[some T,some (C4 zs)]) (cM (i:=0) rfl) i6 i0) (cM (i:=1) rfl) aMR);rw[ĵ (cl 0 _ i0 A.nm)];cases h0:GI b.nm with
 |false=>rfl
 |true=>
 rw[Ä ⋯,Ä ⋯,ĵ ci];by_cases h1:b.nm∈zs
 .rw[decide_eq_true h1,Â rfl,Â h1];rfl
 rw[decide_eq_false h1,Ä ⋯,Ä h1,ĵ (b:=decide (b.w<1)) (sJ (i5 (i5 (cM rfl) i6 i1) i6 rfl))];by_cases h2:b.w<1
 .rw[decide_eq_true h2,Â rfl,Â h2];rfl
 rw[decide_eq_false h2,Ä ⋯,Ä h2,ĵ (cl 2 _ i2 A.p)];cases h3:GI b.p with
 |false=>rfl
 |true=>
 rw[Ä ⋯,Ä ⋯,ĵ (cl 3 _ i3 A.k)];cases h4:GI b.k with
 |false=>rfl
 |true=>
 rw[Ä ⋯,Ä ⋯,aPB (b:=decide (b.b<0)) (sJ (i5 (i5 (cM rfl) i6 i4) i6 rfl))];by_cases h5:b.b<0
 .rw[decide_eq_true h5,Â rfl,Â h5];rfl
 .rw[decide_eq_false h5,Ä ⋯,Ä h5];rfl
abbrev cA(bs:List Bx):ZG:=bs.map λb=>b.nm
def KA{cs:List (List Bx)}(nd:(cA cs.flatten).Nodup)(hl:cs.flatten.length<=300):zI [.list 'c']=.ok (C4 (cA cs.flatten)) []:=by
 sleep 2;rfl';unfold rD;dsimp? [];have e0:kU [] []=C4 (cA ([]:List (List Bx)).flatten):=rfl;rw[e0];have sub:∀k,∃rest,cs.flatten=(cs.take k).flatten++rest:=λk=>⟨(cs.drop k).flatten,by rw[<- List.flatten_append,List.take_append_drop]⟩;refine dN (ds:=cs.map aN) (δ1:=_) (λk δ=>∃o2 o3,δ=[some 'j',some (C4 (cA (cs.take k).flatten)),o2,o3]) (bN rfl) ⟨none,none,rfl⟩ ?_ ?_
 .rintro k d δ hk ⟨o2,o3,rfl⟩
  have k1:k<cs.length:=by have:=(Î.mp hk).1;rwa [Æ]at this
  rw[Ñ,eY (d:=[]) k1]at hk;cases hk;refine⟨_,rfl,?_⟩;have ek:(cs.take (k+1)).flatten=(cs.take k).flatten++cs.getD k []:=by
   rw[List.take_add_one,eY (d:=[]) k1,List.flatten_append];simp
  let⟨rest,er⟩:=sub (k+1);rw[ek]at er;rw[er]at nd hl;rw[ek];generalize (cs.take k).flatten=P at *;generalize cs.getD k []=bs at *;refine dN (ds:=bs.map cC) (δ1:=_) (λt δ=>∃o3,δ=[some 'j',some (C4 (cA (P++bs.take t))),some (aN bs),o3]) (bN rfl) ⟨o3,by rw[List.take_zero,ô];rfl⟩ ?_ ?_
  .rintro t d δ ht ⟨o3,rfl⟩
   have t1:t<bs.length:=by have:=(Î.mp ht).1;rwa [Æ]at this
   rw[Ñ,eY (d:=wV) t1]at ht;cases ht;have et:P++bs.take (t+1)=P++bs.take t++[bs.getD t wV]:=by rw[List.take_add_one,eY (d:=wV) t1,List.append_assoc];rfl
   have eb:bs=bs.take t++(bs.getD t wV::bs.drop (t+1)):=by
    have:=List.take_append_drop t bs;rw[ÿ t1]at this;rw[Ë,Ê t1];exact this.symm
   have ni:(bs.getD t wV).nm∉cA (P++bs.take t):=by
    rw[eb,<- List.append_assoc,List.append_assoc]at nd;have nd:((P++bs.take t).map (λb=>b.nm)++(bs.getD t wV::bs.drop (t+1)++rest).map λb=>b.nm).Nodup:=by rw[<- ß];exact nd
    have:=(List.nodup_append.mp nd).2.2;intro hm;exact this _ hm _ 'f' rfl
   have ln:(cA (P++bs.take t)).length<=1000:=by
    rw[Ò,Ò]at hl;rw[Æ,Ò,ü];lia
   refine⟨_,rfl,?_⟩;rw[et,show cA (P++bs.take t++[bs.getD t wV])=cA (P++bs.take t)++[(bs.getD t wV).nm]from ß];generalize bs.getD t wV=x at *;have i0:eK (cC x) (.int 0)=some (.str x.nm):=rfl;dsimp? [EY,i0,aJC ni ln];exact⟨_,rfl⟩
  .rintro δ ⟨o3,rfl⟩
   rw[Æ,List.take_length];exact⟨_,_,rfl⟩
 .rintro δ ⟨o2,o3,rfl⟩
  rw[Æ,List.take_length];dsimp? [uM]
section
variable {ps:ZG}{cs:List (List Bx)}{b:Bx}{sh:D}
def aPC:Option Of->Res D
 |none=>.err (.str "NoStack") []
 |some o=>.ok (.int (o.s:Int)) []
def aJN(nd:(cA cs.flatten).Nodup)(hl:cs.flatten.length<=300)(A:Ř b)(hc:ZU (cA cs.flatten) b=some e):cT [sh,.list 'c',cC b,sL ps]=.err (.str e) []:=by
 have en:=KA nd hl;have ec:=J9 (zs:=cA cs.flatten) A;rw[hc]at ec;generalize cC b=B at *;show aR 6 [] 0 eZ _=Ħ (some e);unfold eZ;refine ϸ (some e) ?_;show tZ _ [some sh,some 'j',some B,some (sL ps),none,none] _ _;refine AK (aJA rfl ?_);dsimp? [en];exact⟨_,_,rfl,ec,rfl⟩
def aMY(hH:∀s,s<cs.length->SF sh n (put cs s b) (H s))(hn:n<=10)(lc:cs.length<=8)(l1:∀c∈cs,c.length<=50)(nd:(cA cs.flatten).Nodup)(hl:cs.flatten.length<=300)(A:Ř b)(hc:ZU (cA cs.flatten) b=none):cT [sh,.list 'c',cC b,sL ps]=aPC (eU (C6 n H cs b ps cs.length)):=by
 have en:=KA nd hl;have ec:=J9 (zs:=cA cs.flatten) A;rw[hc]at ec;have ec:hG [cC b,C4 (cA cs.flatten)]=.ok .none []:=ec;let⟨r,eo,ds,rfl,A2⟩:=SI (ps:=ps) hH hn lc l1;have lA:=A2.len;have lo:=GE (n:=n) (cs:=cs) (b:=b) (ps:=ps) (H:=H) cs.length;generalize C6 n H cs b ps cs.length=os at *;generalize cC b=B at *;have key:∀(k:Nat)(d:D)(K Bk:ZO)(Rt:D->ZO),k<ds.length->iU Z8 (eU (os.take k)) d->(∀d',iU Z8 (eU (os.take (k+1))) d'->K [some sh,some 'j',some B,some (sL ps),some d',ds[k]?])->bK (gF (AV (dB (fC UG (aK 4) (dC .none))) (dB (bP dR [.val (aK 5),.val (aK 4)]))) (cE 4 (aK 5)) iX) [some sh,some 'j',some B,some (sL ps),some d,ds[k]?] K Bk K Rt:=by
  intro k d K Bk Rt hk R hK;let⟨o,eo2,ho⟩:=A2.at (Ê hk);have ko:k<os.length:=by lia
  have et:os.take (k+1)=os.take k++[o]:=by rw[List.take_add_one,eo2];rfl
  rw[et,J8]at hK;rw[Ê hk]at hK⊢;generalize ds[k]=e at *;cases hb:eU (os.take k)with
  |none=>
   rw[hb]at R hK;have R:d=.none:=R;subst R;dsimp? [lM];exact hK _ ho
  |some b'=>
   rw[hb]at R hK;have ea:=aJJ ho R;have ep:ZS (some b') o=if Ė o b'=true then some o else some b':=rfl;rw[ep]at hK;let⟨q,rfl,hv',hs'⟩:=id R;generalize hT:PyData.tuple [.int (b'.s:Int),.int (b'.m:Int),fr q]=T at *;have iT:UG T .none=some (.bool false):=by rw[<- hT];rfl
   cases hq:Ė o b' with
   |true=>
    rw[hq]at ea hK;rw[Â rfl]at hK;dsimp? [iT,Bool.false_eq_true,ea];exact hK _ ho
   |false=>
    rw[hq]at ea hK;rw[Ä ⋯]at hK;dsimp? [iT,Bool.false_eq_true,ea];exact hK _ R
 have loop:∀(N Bk C:ZO)(Rt:D->ZO),(∀d o5,iU Z8 (eU os) d->N [some sh,some 'j',some B,some (sL ps),some d,o5])->bK (jR (eB 5) (iB (bP mH [.val (aK 0),.val (aK 1),.val (aK 2),.val (aK 3)])) (gF (AV (dB (fC UG (aK 4) (dC .none))) (dB (bP dR [.val (aK 5),.val (aK 4)]))) (cE 4 (aK 5)) iX)) [some sh,some 'j',some B,some (sL ps),some .none,none] N Bk C Rt:=λN Bk C Rt hN=>by
  refine dN (ds:=ds) (δ1:=_) (λk δ=>∃d o5,iU Z8 (eU (os.take k)) d/\δ=[some sh,some 'j',some B,some (sL ps),some d,o5]) (cJ (by dsimp? [eo])) ⟨.none,none,rfl,rfl⟩ ?_ ?_
  .rintro k d δ hk ⟨d',o5,R,rfl⟩
   have k1:=(Î.mp hk).1;refine⟨[some sh,some 'j',some B,some (sL ps),some d',some d],rfl,?_⟩;have:=key k d' (λδ=>∃d o5,iU Z8 (eU (os.take (k+1))) d/\δ=[some sh,some 'j',some B,some (sL ps),some d,o5]) N Rt k1 R λd2 R2=>⟨d2,_,R2,rfl⟩;rw[hk]at this;exact this
  .rintro δ ⟨d,o5,R,rfl⟩
   rw[lA,List.take_length]at R;exact hN d o5 R
 cases hb:eU os with
 |none=>
  show aR 6 [] 0 eZ _=Ħ (some "NoStack");unfold eZ;refine ϸ (some "NoStack") ?_;show tZ _ [some sh,some 'j',some B,some (sL ps),none,none] _ _;refine AK (Ĵ ?_);dsimp? [en,ec];refine AK (Ĵ ?_);dsimp? [];refine AK (Ĵ (loop _ _ _ _ λd o5 R=>?_));rw[hb]at R;have R:d=.none:=R;subst R;refine AK (aO7 ?_);dsimp? [lM];refine aDT ?_;dsimp? []
 |some o=>
  sleep 2;rfl';unfold eZ;dsimp? [en,ec];refine loop _ _ _ _ λd o5 R=>?_;rw[hb]at R;let⟨q,rfl,_,_⟩:=R;dsimp? [mP,Bool.false_eq_true]
end
def ř(b:Bx):Prop:=AJ b/\1<=b.w/\b.w<=1000000000
def qF(cs:List (List Bx))(m:Nat):Prop:=∀c∈cs,c.length<=m/\∀b∈c,ř b
def qF.mono(h:qF cs m)(e:m<=n):qF cs n:=λc hc=>⟨Ø (h c hc).1 e,(h c hc).2⟩
def AQ :∀{cs:List (List Bx)}{j:Nat}(h:j<cs.length),((cs.set j (cs[j]++[x])).flatten).Perm (cs.flatten++[x])
 |c::cs,0,_=>by
  show ((c++[x])++cs.flatten).Perm ((c++cs.flatten)++[x]);rw[List.append_assoc,List.append_assoc];exact List.perm_append_comm.append_left c
 |c::cs,j+1,h=>by
  show (c++(cs.set j (cs[j]'(Nat.lt_of_succ_lt_succ h)++[x])).flatten).Perm ((c++cs.flatten)++[x]);rw[List.append_assoc];exact(AQ (Nat.lt_of_succ_lt_succ h)).append_left c
section
def aJO(lc:cs.length<=8)(g:qF cs m)(hm:m<=50):tQ [.list 'c']=.ok (.list ((cA cs.flatten).map PyData.str)) []:=by
 have hz:sizeLine=2^24:=rfl;sleep 2;rfl';unfold mJ;dsimp? [];refine dN (ds:=cs.map aN) (δ1:=_) (λk δ=>∃o2,((cs.take k).flatten).length<=50*k/\δ=[some 'j',some (.list ((cA (cs.take k).flatten).map PyData.str)),o2]) (bN rfl) ⟨none,È _,rfl⟩ ?_ ?_
 .rintro k d δ hk ⟨o2,l,rfl⟩
  have k1:k<cs.length:=by have:=(Î.mp hk).1;rwa [Æ]at this
  rw[Ñ,Ê k1]at hk;cases hk;refine⟨_,rfl,?_⟩;have gk:=(g _ (ý k1)).1;have ek:(cs.take (k+1)).flatten=(cs.take k).flatten++cs[k]:=by
   rw[List.take_succ_eq_append_getElem k1,List.flatten_append];simp
  rw[ek];generalize cs[k]=bs at *;generalize (cs.take k).flatten=P at *;refine rK λK _ _ _ hK _=>?_;dsimp? [];refine aW.of (bR (enc:=cC) (xs:=bs) (g:=λb=>.str b.nm) (cJ (by dsimp? [aN])) ∅ λx _=>by dsimp? [cC,VM]) ?_;dsimp? [LJ];rw[Æ,Æ,Æ];rw[Ò]at hK;refine⟨∅,hK _ ⟨some (aN bs),∅,?_⟩⟩;have:(cA (P++bs)).map PyData.str=(cA P).map PyData.str++bs.map λb=>.str b.nm:=by
   rw[show cA (P++bs)=cA P++cA bs from ß,ß,î (l:=bs)];rfl
  rw[this]
 .rintro δ ⟨o2,l,rfl⟩
  rw[Æ,List.take_length];dsimp? [uM]
end
section
def ZV:ř (bx ns n):=by
 have t:=iI (ns:=ns) (k:=20+n) (m:=20) ⋯;exact⟨aDS,PR ∅,(AM (m:=20) ∅ ∅ ⋯).2⟩
def aMZ:0<=(bx ns n).b:=by
 have t:=lI (ns:=ns) (k:=21+n) (m:=90) ⋯;have a:=(AM (ns:=ns) (m:=90) t.1 ∅ ⋯).1;have s:=rN (ns:=ns);show 0<=ĳ ns n;unfold ĳ;split<;>lia
def ZW(m0:0<=m)(m1:m<=10)(s0:1<=ss.length)(s1:ss.length<=50):∃r,pH [iL ns,.tuple [a,b,.list ss,c,d],.int m]=.ok r []/\∃cs:List (List Bx),r=.list 'c'/\cs.length=ss.length/\qF cs 10/\cs.flatten.Perm ((List.range m.toNat).map λi:Nat=>bx ns (i:Int)):=by
 refine iF ?_;rfl';unfold u8;have hz:sizeLine=2^24:=rfl;dsimp? [];refine aW.of (bR (enc:=id) (xs:=ss) (g:=λ_=>.list []) (cJ (by dsimp? [List.map_id])) ∅ λx _=>by dsimp? []) ?_;dsimp? [];refine wK (j:=m) (δ1:=_) (λk δ=>∃(cs:List (List Bx))(o4:ZL),δ=[some (iL ns),some (.tuple [a,b,.list ss,c,d]),some (.int m),some 'j',o4]/\cs.length=ss.length/\qF cs k/\cs.flatten.Perm ((List.range k).map λi:Nat=>bx ns (i:Int))) (fG (by dsimp? [];rfl)) ∅ ∅ ⟨ss.map λ_=>[],none,?_,by simp,λc hc=>?_,?_⟩ ?_ ?_
 .simp[aN]
 .obtain⟨_,_,rfl⟩:=Þ.mp hc
  exact⟨by simp,λb hb=>by cases hb⟩
 .simp
 .rintro k δ hk ⟨cs,o4,rfl,lc,gc,pc⟩
  refine⟨_,rfl,?_⟩;have t1:=lJ (ns:=ns) (k:=21+(k:Int)) (m:=(cs.length:Int)) ∅;have e1:=qD (ns:=ns) (k:=21+(k:Int)) (m:=(cs.length:Int)) ∅ ∅ ∅;have e2:=MO (ns:=ns) (n:=(k:Int)) ∅ ∅;generalize th ns (21+(k:Int)) (cs.length:Int)=j at *;have hj:j.toNat<cs.length:=by lia
  have eh:KJ [0,0,0,2,0] [some (iL ns),some (.tuple [a,b,.list ss,c,d]),some (.int m),some 'j',some (.int (k:Int))]=[some (iL ns),some (.tuple [a,b,.list ss,c,d]),some (.int m),none,some (.int (k:Int))]:=rfl;have ea:'c'[j.toNat]?=some (.list ((cs[j.toNat]).map cC)):=by rw[Ñ,Ê hj];rfl
  have gj:=gc _ (ý hj);dsimp? [LL,Æ,e1,LM (ϴ (n:='c'.length) (k:=j) t1.1 (by rw[Æ];exact t1.2)) ea,eh,e2,qQ];refine⟨∅,?_⟩;refine⟨cs.set j.toNat (cs[j.toNat]++[bx ns (k:Int)]),some (.int (k:Int)),?_,by rw[Ö];exact lc,λc hc=>?_,?_⟩
  .simp[List.map_set,aN]
  .rcases List.mem_or_eq_of_mem_set hc with h|rfl
   .exact⟨by have:=(gc c h).1;lia,(gc c h).2⟩
   .exact⟨by rw[Ò,í];lia,oK gj.2 ZV⟩
  .rw[List.range_succ,ß]
   exact(AQ hj).trans (pc.append_right _)
 .rintro δ ⟨cs,o4,rfl,lc,gc,pc⟩
  dsimp? [];exact⟨cs,rfl,lc,gc.mono ∅,pc⟩
end
section
def ZX:∃r,vA [iL ns]=.ok r []/\∃ps:ZG,r=sL ps/\ps.length<=6/\∀p∈ps,cR p:=by
 have e24:sizeLine=2^24:=rfl;have lo:=lI (ns:=ns) (k:=39) (m:=6) ⋯;have eo:=oH (ns:=ns) (k:=39) (m:=6) ⋯ ⋯ ⋯;refine iF ?_;rfl';unfold u9;dsimp? [];refine wK (j:=ot ns 39 6) (δ1:=_) (λk δ=>∃(ps:ZG)(o:ZL),ps.length=k/\(∀p∈ps,cR p)/\δ=[some (iL ns),some (.list (ps.map PyData.str)),o]) (fG (by dsimp? [eo];rfl)) ∅ ∅ ⟨[],none,rfl,λp hp=>(by cases hp),rfl⟩ ?_ ?_
 .rintro k δ hk ⟨ps,o,lp,gp,rfl⟩
  refine⟨_,rfl,?_⟩;have d1:=lJ (ns:=ns) (k:=40+(k:Int)) (m:=4) ⋯;have e1:=qD (ns:=ns) (k:=40+(k:Int)) (m:=4) ∅ ∅ ⋯;have e2:=j7 (ns:=ns) (k:=17) (n:=th ns (40+(k:Int)) 4) ⋯ ⋯ ∅ ∅;dsimp? [e1,e2,Æ,qQ];refine⟨∅,ps++[nm ns 17 (th ns (40+(k:Int)) 4)],some (.int (k:Int)),by rw[Ò,lp];rfl,oK gp j6,?_⟩;rw[ß];rfl
 .rintro δ ⟨ps,o,lp,gp,rfl⟩
  dsimp? [];exact⟨ps,rfl,∅,gp⟩
end
def Ϻ(g:AJ b):Sh 2 (cC b):=LI λd hd=>by
 simp![Ï,ä,or_false]at hd;rcases hd with rfl|rfl|rfl|rfl|rfl
 .exact g.nm.sh
 .exact VN
 .exact g.p.sh
 .exact g.k.sh
 .exact VN
def KB(h:qF cs m):Sh 4 'j':=EL λd hd=>by
 let⟨c,hc,rfl⟩:=Þ.mp hd;refine EL λd hd=>?_;let⟨b,hb,rfl⟩:=Þ.mp hd;exact Ϻ ((h c hc).2 b hb).1
def aD4(S:ħ own b ss ts as)(lc:cs.length=ss.length)(g:qF cs 20)(gx:ř x):∃H:Nat->How,∀s,s<cs.length->SF (wX own b ss ts as) (MR ts).length (put cs s x) (H s):=by
 have:∀s,∃h,s<cs.length->SF (wX own b ss ts as) (MR ts).length (put cs s x) h:=λs=>by
  by_cases hs:s<cs.length
  .have gp:Y6 (put cs s x):=λc hc=>by
    rcases List.mem_or_eq_of_mem_set hc with h|rfl
    .exact⟨by have:=(g c h).1;lia,λy hy=>(g c h).2 y hy⟩
    .have hm:cs.getD s []∈cs:=by rw[Ë,Ê hs];exact ý hs
     exact⟨by have:=(g _ hm).1;rw[Ò,í];lia,λy hy=>(ă.mp hy).elim (λh=>(g _ hm).2 y h) λh=>by rw[ì.mp h];exact gx⟩
   let⟨h,hh⟩:=ZR S (cs:=put cs s x) (by rw[Ö];exact lc) gp;exact⟨h,λ_=>hh⟩
  .exact⟨.no,λh=>absurd h hs⟩
 exact⟨λs=>Classical.choose (this s),λs=>Classical.choose_spec (this s)⟩
def SS:Nat->D->Prop
 |0,_=>False
 |_+1,.int _=>True
 |_+1,.str z=>cR z
 |j+1,.list ds=>ds.length<=1000/\∀d∈ds,SS j d
 |j+1,.tuple ds=>ds.length<=1000/\∀d∈ds,SS j d
 |_+1,_=>False
def SS.int:SS (j+1) (.int i):=True.intro
def SS.str(h:cR z):SS (j+1) (.str z):=h
def SS.list{ds:ZI}(l:ds.length<=1000)(h:∀d∈ds,SS j d):SS (j+1) 'r':=⟨l,h⟩
def SS.tup{ds:ZI}(l:ds.length<=1000)(h:∀d∈ds,SS j d):SS (j+1) (.tuple ds):=⟨l,h⟩
def GF:∀{j:Nat}{d:D},SS j d->nO j [d,d]=.ok 'l' []
 |0,_,h=>h.elim
 |j+1,d,h=>by
  sleep 2;show bK (yX (nO j)) [some d,some d,none,none] _ _ _ _;unfold yX;cases d with
  |int i=>
   have e1:p9 .tuple .list (.int i)=some (.bool false):=rfl;have e2:gJ .str (.int i)=some (.bool false):=rfl;have e3:gJ .int (.int i)=some 'l':=rfl;have e4:gJ .bool (.int i)=some (.bool false):=rfl;dsimp? [e1,e2,e3,e4,decide_true]
  |str z=>
   have e1:p9 .tuple .list (.str z)=some (.bool false):=rfl;have e2:gJ .str (.str z)=some 'l':=rfl;have gz:cR z:=h;dsimp? [e1,e2,ϵ gz gz,beq_self_eq_true]
  |list ds=>
   obtain⟨l1,l2⟩:ds.length<=1000/\∀x∈ds,SS j x:=h;have e1:p9 .tuple .list 'r'=some 'l':=rfl;have e2:gJ .tuple 'r'=some (.bool false):=rfl;have e3:gJ .list 'r'=some 'l':=rfl;have en:decide ((ds.length:Int)≠(ds.length:Int))=false:=by simp
   dsimp? [e1,e2,e3,en];refine uJ (j:=ds.length) (δ1:=_) (λk δ=>∃o,δ=[some 'r',some 'r',some 'l',o]) (fG (by dsimp? [])) l1 ⟨none,rfl⟩ ?_ ?_
   .rintro k δ hk ⟨o,rfl⟩
    refine⟨_,rfl,?_⟩;have es:=GF (l2 _ (ý hk));dsimp? [Ŵ hk,es];exact⟨_,rfl⟩
   .rintro δ ⟨o,rfl⟩
    dsimp? []
  |tuple ds=>
   obtain⟨l1,l2⟩:ds.length<=1000/\∀x∈ds,SS j x:=h;have e1:p9 .tuple .list (.tuple ds)=some 'l':=rfl;have e2:gJ .tuple (.tuple ds)=some 'l':=rfl;have en:decide ((ds.length:Int)≠(ds.length:Int))=false:=by simp
   dsimp? [e1,e2,en];refine uJ (j:=ds.length) (δ1:=_) (λk δ=>∃o,δ=[some (.tuple ds),some (.tuple ds),some 'l',o]) (fG (by dsimp? [])) l1 ⟨none,rfl⟩ ?_ ?_
   .rintro k δ hk ⟨o,rfl⟩
    refine⟨_,rfl,?_⟩;have es:=GF (l2 _ (ý hk));dsimp? [Ŵ hk,es];exact⟨_,rfl⟩
   .rintro δ ⟨o,rfl⟩
    dsimp? []
  |_=>exact absurd h (λz=>z)
structure KC(x:Bx):Prop where
 ok:ř x
 nm:GI x.nm=true
 p:GI x.p=true
 k:GI x.k=true
 b:0<=x.b
def sD:Option Nat->D
 |none=>.none
 |some s=>.int (s:Int)
def oR:Option Nat->Res D
 |none=>.err (.str "NoStack") []
 |some s=>.ok (.int (s:Int)) []
structure BP(sh:D)(ps:ZG)(cs:List (List Bx))(x:Bx)(o:Option Nat):Prop where
 l:oF [sh,.list 'c',cC x,sL ps]=.ok (sD o) []
 f:x.nm∉cA cs.flatten->cT [sh,.list 'c',cC x,sL ps]=oR o
 lt:∀s,o=some s->s<cs.length
section
variable {n m:Nat}{H:Nat->How}{cs:List (List Bx)}{b x:Bx}{ps:ZG}
def KC.asc(h:KC x):Ř x:=⟨GB h.nm,GB h.p,GB h.k⟩
def KC.ch(h:KC x)(hn:x.nm∉zs):ZU zs x=none:=by
 unfold ZU;rw[h.nm,Ä ⋯,Ä hn,Ä (by have:=h.ok.2.1;lia),h.p,Ä ⋯,h.k,Ä ⋯,Ä (by have:=h.b;lia)]
def KC.ch1(h:KC x)(hn:x.nm∈zs):ZU zs x=some ("NoName":Str):=by
 unfold ZU;rw[h.nm,Ä ⋯,Â hn]
def ZY :∀{k:Nat},o∈C6 n H cs b ps k->o.s<k
 |k+1,h=>by
  unfold C6 at h;rcases ă.mp h with h|h
  .have:=ZY h
   lia
  .cases e:H k with
   |no=>rw[e]at h;cases h
   |fill z S=>
    rw[e]at h;rw[ì.mp h];exact ê k
def KD :∀{os:List Of}{b:Option Of},os.foldl ZS b=some o->b=some o\/o∈os
 |[],b,h=>.inl h
 |a::os,b,h=>by
  rcases KD (os:=os) h with h|h
  .cases b with
   |none=>
    have:a=o:=Option.some.inj h;exact .inr (by rw[this];exact Õ)
   |some b=>
    have h:(if Ė a b=true then some a else some b)=some o:=h;split at h
    .cases h
     exact .inr Õ
    .exact .inl h
  .exact .inr (Ó _ h)
structure SG(n m:Nat)(cs:List (List Bx)):Prop where
 len:cs.length=n
 g:qF cs m
 nd:(cA cs.flatten).Nodup
 tot:cs.flatten.length<=10+m
def SG.mono(h:SG n m cs)(e:m<=k):SG n k cs:=⟨h.len,h.g.mono e,h.nd,by have:=h.tot;lia⟩
def KF(hs:s<cs.length):((put cs s x).flatten).Perm (cs.flatten++[x]):=by
 have:=AQ (x:=x) hs;have e:cs.getD s []=cs[s]:=by rw[Ë,Ê hs];rfl
 rw[<- e]at this;exact this
def PX(hs:s<cs.length):(cA (put cs s x).flatten).Perm (cA cs.flatten++[x.nm]):=by
 have:=(KF (x:=x) hs).map λb=>b.nm;rw[ß]at this;exact this
def SG.put(G:SG n m cs)(K:KC x)(hs:s<cs.length)(hn:x.nm∉cA cs.flatten):SG n (m+1) (put cs s x):=by
 refine⟨by rw[Ö];exact G.len,λc hc=>?_,(PX hs).nodup_iff.mpr (List.nodup_append.mpr ⟨G.nd,'f',λa ha b hb e=>hn (by rw[<- ì.mp hb,<- e];exact ha)⟩),?_⟩
 .rcases List.mem_or_eq_of_mem_set hc with h|rfl
  .exact⟨by have:=(G.g c h).1;lia,(G.g c h).2⟩
  .have hm:cs.getD s []∈cs:=by rw[Ë,Ê hs];exact ý hs
   exact⟨by have:=(G.g _ hm).1;rw[Ò,í];lia,λy hy=>(ă.mp hy).elim (λh=>(G.g _ hm).2 y h) λh=>by rw[ì.mp h];exact K.ok⟩
 .have:=(KF (x:=x) hs).length_eq
  rw[Ò,í]at this;have:=G.tot;lia
def aD5(S:ħ own bd ss ts as)(G:SG ss.length m cs)(hm:m<=20)(K:KC x):∃o,BP (wX own bd ss ts as) ps cs x o:=by
 have ls:=S.ls;have lt:=S.lt;have lc:=G.len;have l1:∀c∈cs,c.length<=50:=λc hc=>by have:=(G.g c hc).1;lia
 have hl:cs.flatten.length<=300:=by have:=G.tot;lia
 let⟨H,hH⟩:=aD4 S lc (G.g.mono hm) K.ok;have el:=ZT (ps:=ps) hH ∅ l1;have es:=λhn=>aMY (ps:=ps) hH (by rw[Æ];lia) ∅ l1 G.nd hl K.asc (K.ch hn);have hb:=λo(h:eU (C6 (MR ts).length H cs x ps cs.length)=some o)=>ZY ((KD h).resolve_left nofun);generalize eU _=o at el es hb;cases o with
 |none=>exact⟨none,el,es,nofun⟩
 |some o=>exact⟨some o.s,el,es,λs e=>by cases e;exact hb o rfl⟩
def wG(sh:D)(ps:ZG):List (List Bx)->List Bx->Option Str->List (List Bx)->Prop
 |cs,[],w,c=>w=none/\c=cs
 |cs,x::xs,w,c=>(x.nm∈cA cs.flatten/\w=some ("name":Str))\/(x.nm∉cA cs.flatten/\((BP sh ps cs x none/\w=some ("stack":Str))\/∃s,BP sh ps cs x (some s)/\wG sh ps (put cs s x) xs w c))
def KG(S:ħ own bd ss ts as):∀{xs:List Bx}{cs:List (List Bx)}{m:Nat},SG ss.length m cs->m+xs.length<=20->(∀x∈xs,KC x)->∃w c,wG (wX own bd ss ts as) ps cs xs w c/\SG ss.length (m+xs.length) c
 |[],cs,m,G,_,_=>⟨none,cs,⟨rfl,rfl⟩,G⟩
 |x::xs,cs,m,G,hm,hx=>by
  rw[Ý]at hm⊢;have K:=hx x Õ;by_cases hn:x.nm∈cA cs.flatten
  .exact⟨some ("name":Str),cs,.inl ⟨hn,rfl⟩,G.mono ∅⟩
  let⟨o,B⟩:=aD5 (ps:=ps) S G ∅ K;cases o with
  |none=>exact⟨some ("stack":Str),cs,.inr ⟨hn,.inl ⟨B,rfl⟩⟩,G.mono ∅⟩
  |some s=>
   let⟨w,c,R,G'⟩:=KG S (xs:=xs) (G.put K (B.lt s rfl) hn) ∅ λy hy=>hx y (Ó _ hy);exact⟨w,c,.inr ⟨hn,.inr ⟨s,B,R⟩⟩,G'.mono ∅⟩
end
def aM0(z:Str)(h:tZ u (ds.map some++List.replicate (m-ds.length) none) (λ_=>False) (λy=>y=.str z)):aR m [] rm u ds=.err (.str z) []:=by
 unfold tZ at h;unfold aR;cases e:u (ds.map some++List.replicate (m-ds.length) none)with
 |stuck=>sleep 1
 |err y d=>
  rw[e]at h;rw[show y=.str z from h];rfl
 |ok fl d=>
  rw[e]at h;cases fl<;>exact h.elim
abbrev Ś:M Fl:=cE 4 (bP oA [.val (aK 4),.val (bP cT [.val (aK 0),.val (aK 4),.val (aK 5),.val (aK 3)]),.val (aK 5)])
section
variable {sh c0 xs0 p cc X:D}{n m:Nat}{cs:List (List Bx)}{xs:List Bx}{x:Bx}{ps:ZG}
def PY{e:Str}{N:ZO}{E:D->Prop}(h:cT [sh,cc,X,p]=.err (.str e) [])(hE:E (.str e)):tZ Ś [some sh,some c0,some xs0,some p,some cc,some X] N E:=by
 have h2:bP cT [.val (aK 0),.val (aK 4),.val (aK 5),.val (aK 3)] [some sh,some c0,some xs0,some p,some cc,some X]=.err (.str e) [some sh,some c0,some xs0,some p,some cc,some X]:=by
  have:cK [.val (aK 0),.val (aK 4),.val (aK 5),.val (aK 3)] [some sh,some c0,some xs0,some p,some cc,some X]=.ok [some sh,some cc,some X,some p] [some sh,some c0,some xs0,some p,some cc,some X]:=by simp[cK,aK,Res.bind]
  unfold bP;rw[this];simp![Res.bind,eG,aU,Option.map];rw[h];rfl
 have h3:Ś [some sh,some c0,some xs0,some p,some cc,some X]=.err (.str e) [some sh,some c0,some xs0,some p,some cc,some X]:=by
  have:cK [.val (aK 4),.val (bP cT [.val (aK 0),.val (aK 4),.val (aK 5),.val (aK 3)]),.val (aK 5)] [some sh,some c0,some xs0,some p,some cc,some X]=.err (.str e) [some sh,some c0,some xs0,some p,some cc,some X]:=by simp[cK,aK,Res.bind,h2]
  unfold Ś cE;have:bP oA [.val (aK 4),.val (bP cT [.val (aK 0),.val (aK 4),.val (aK 5),.val (aK 3)]),.val (aK 5)] [some sh,some c0,some xs0,some p,some cc,some X]=.err (.str e) [some sh,some c0,some xs0,some p,some cc,some X]:=by
   unfold bP;unfold bP at this;rw[this];rfl
  rw[this];rfl
 unfold tZ;rw[h3];exact hE
def ZZ{s:Nat}{N B C:ZO}{R:D->ZO}(G:SG n m cs)(hn:n<=8)(hm:m<=50)(P:BP sh ps cs x (some s))(hx:x.nm∉cA cs.flatten)(h:N [some sh,some c0,some xs0,some (sL ps),some (.list ((put cs s x).map aN)),some (cC x)]):bK Ś [some sh,some c0,some xs0,some (sL ps),some 'j',some (cC x)] N B C R:=by
 have e1:cT [sh,.list 'c',cC x,sL ps]=.ok (.int (s:Int)) []:=P.f hx;have e2:=J7 (b:=x) (P.lt s rfl) (by have:=G.len;lia) λc hc=>by have:=(G.g c hc).1;lia
 generalize cC x=X at *;dsimp? [e1,e2];exact h
def ķ(w:Str):Str:=if w="name"then "NoName"else "NoStack"
def GG(hk:(xs.map cC)[k]?=some d):∃x,d=cC x/\x∈xs/\xs.drop k=x::xs.drop (k+1):=by
 have k1:k<xs.length:=by have:=(Î.mp hk).1;rwa [Æ]at this
 rw[Ñ,Ê k1]at hk;exact⟨xs[k],by cases hk;rfl,ý k1,ÿ k1⟩
def ϻ(sh c0:D)(ps:ZG)(n m:Nat)(xs:List Bx)(w:Option Str)(c:List (List Bx))(k:Nat)(δ:DS):Prop:=∃cs o5,SG n (m+k) cs/\wG sh ps cs (xs.drop k) w c/\δ=[some sh,some c0,some (.list (xs.map cC)),some (sL ps),some 'j',o5]
def SJ(G:SG n m cs)(hn:n<=8)(hm:m+xs.length<=20)(hx:∀x∈xs,KC x)(R:wG sh ps cs xs none c):f7 [sh,.list 'c',.list (xs.map cC),sL ps]=.ok (.list (c.map aN)) []:=by
 have lc:=G.len;have e0:=vC (cs:=cs) ∅;sleep 2;rfl';unfold lB;dsimp? [e0];generalize hc0:PyData.list 'c'=c0;refine dN (ds:=xs.map cC) (δ1:=_) (ϻ sh c0 ps n m xs none c) (bN rfl) ⟨cs,none,G,R,by rw[<- hc0]⟩ ?_ ?_
 .rintro k d δ hk ⟨cs,o5,G,R,rfl⟩
  have kl:k<xs.length:=by have:=(Î.mp hk).1;rwa [Æ]at this
  let⟨x,rfl,hm1,ed⟩:=GG hk;rw[ed]at R;refine⟨[some sh,some c0,some (.list (xs.map cC)),some (sL ps),some 'j',some (cC x)],rfl,?_⟩;rcases R with ⟨_,h⟩|⟨h1,⟨_,h⟩|⟨s,P,R⟩⟩
  .cases h
  .cases h
  .exact ZZ G hn ∅ P h1 ⟨_,_,G.put (hx x hm1) (P.lt s rfl) h1,R,rfl⟩
 .rintro δ ⟨cs,o5,G,R,rfl⟩
  rw[Æ,List.drop_length]at R;let⟨_,rfl⟩:=R;dsimp? [uM]
def MU(G:SG n m cs)(hn:n<=8)(hm:m+xs.length<=20)(hx:∀x∈xs,KC x)(R:wG sh ps cs xs (some z) c):f7 [sh,.list 'c',.list (xs.map cC),sL ps]=.err (.str (ķ z)) []:=by
 have lc:=G.len;have e0:=vC (cs:=cs) ∅;show aR 6 [] 2 lB _=_;refine aM0 (ķ z) ?_;show tZ lB [some sh,some 'j',some (.list (xs.map cC)),some (sL ps),none,none] _ _;unfold lB;generalize hc0:PyData.list 'c'=c0 at e0⊢;refine AK (Ĵ ?_);dsimp? [e0];subst hc0;generalize hc0:PyData.list 'c'=c0;refine AK (aMP (ds:=xs.map cC) (ϻ sh c0 ps n m xs (some z) c) (aW.of (bN rfl) ⟨rfl,cs,none,G,R,by rw[<- hc0]⟩) ?_ ?_)
 .rintro k d δ hk ⟨cs,o5,G,R,rfl⟩
  have kl:k<xs.length:=by have:=(Î.mp hk).1;rwa [Æ]at this
  let⟨x,rfl,hm1,ed⟩:=GG hk;rw[ed]at R;refine⟨[some sh,some c0,some (.list (xs.map cC)),some (sL ps),some 'j',some (cC x)],rfl,?_⟩;have K:=hx x hm1;rcases R with ⟨h1,h⟩|⟨h1,⟨P,h⟩|⟨s,P,R⟩⟩
  .cases h
   exact PY (aJN G.nd (by have:=G.tot;lia) K.asc (K.ch1 h1)) rfl
  .cases h
   exact PY (P.f h1) rfl
  .exact Ĵ (ZZ G hn ∅ P h1 ⟨_,_,G.put K (P.lt s rfl) h1,R,rfl⟩)
 .rintro δ ⟨cs,o5,G,R,rfl⟩
  rw[Æ,List.drop_length]at R;cases R.1
def Ĩ(w:Option Str)(c:List (List Bx)):D:=match w with
 |none=>.list (c.map aN)
 |some z=>.str z
def aJP(G:SG n m cs)(hn:n<=8)(hm:m+xs.length<=20)(hx:∀x∈xs,KC x)(R:wG sh ps cs xs w c):FR [sh,.list 'c',.list (xs.map cC),sL ps]=.ok (Ĩ w c) []:=by
 have e24:sizeLine=2^24:=rfl;have lc:=G.len;have e0:=aJO ∅ G.g ∅;generalize hW:Ĩ w c=W;sleep 2;rfl';unfold FQ;dsimp? [e0];generalize hc0:PyData.list 'c'=c0;refine dN (ds:=xs.map cC) (δ1:=_) (λk δ=>∃cs zs o6 o7,SG n (m+k) cs/\wG sh ps cs (xs.drop k) w c/\zs.Perm (cA cs.flatten)/\δ=[some sh,some c0,some (.list (xs.map cC)),some (sL ps),some 'j',some (.list (zs.map PyData.str)),o6,o7]) (bN rfl) ⟨cs,cA cs.flatten,none,none,G,R,.refl _,by rw[<- hc0]⟩ ?_ ?_
 .rintro k d δ hk ⟨cs,zs,o6,o7,G,R,pz,rfl⟩
  have kl:k<xs.length:=by have:=(Î.mp hk).1;rwa [Æ]at this
  let⟨x,rfl,hm1,ed⟩:=GG hk;rw[ed]at R;refine⟨_,rfl,?_⟩;have lz:zs.length<=100:=by rw[pz.length_eq,Æ];have:=G.tot;lia
  have i0:eK (cC x) (.int 0)=some (.str x.nm):=rfl;have mz:(zs.any (· == x.nm))=decide (x.nm∈cA cs.flatten):=by
   rw[Bool.eq_iff_iff,decide_eq_true_iff,<- pz.mem_iff,List.any_eq_true];exact⟨λ⟨y,h1,h2⟩=>by rw[<- eq_of_beq h2];exact h1,λh=>⟨_,h,beq_self_eq_true _⟩⟩
  refine rK λK _ _ S hK hS=>?_;rcases R with ⟨h1,h⟩|⟨h1,R⟩
  .have m1:decide (x.nm∈cA cs.flatten)=true:=decide_eq_true h1
   generalize cC x=X at *;subst h;dsimp? [EN,i0,mO,mz,m1];exact hS _ _ ⟨by rw[<- hW];rfl,rfl⟩
  .have m1:decide (x.nm∈cA cs.flatten)=false:=decide_eq_false h1
   rcases R with ⟨P,h⟩|⟨s,P,R⟩
   .have e1:oF [sh,.list 'c',cC x,sL ps]=.ok .none []:=P.l
    generalize cC x=X at *;subst h;dsimp? [EN,i0,mO,mz,m1,Bool.false_eq_true,e1,lM];exact hS _ _ ⟨by rw[<- hW];rfl,rfl⟩
   .have e1:oF [sh,.list 'c',cC x,sL ps]=.ok (.int (s:Int)) []:=P.l
    have e2:=PU (b:=x) (P.lt s rfl) (by have:=G.len;lia) λc hc=>by have:=(G.g c hc).1;lia
    have n0:UG (.int (s:Int)) .none=some (.bool false):=rfl;have hK':=λo6 o7=>hK _ ⟨put cs s x,zs++[x.nm],o6,o7,G.put (hx x hm1) (P.lt s rfl) h1,R,(pz.append_right [x.nm]).trans (PX (P.lt s rfl)).symm,rfl⟩;rw[ß]at hK';generalize cC x=X at *;dsimp? [EN,i0,mO,mz,m1,Bool.false_eq_true,e1,n0,e2,qQ,Æ];exact⟨∅,hK' _ _⟩
 .rintro δ ⟨cs,zs,o6,o7,G,R,pz,rfl⟩
  rw[Æ,List.drop_length]at R;let⟨rfl,rfl⟩:=R;dsimp? [];rw[<- hW];rfl
end
section
variable {a0 a1 a2 a3 a4 a7 a8 a9:D}{a5 a12:ZL}{l:ZI}{N B C:ZO}{R:D->ZO}
abbrev ś:M Fl:=QL (cE 11 (bP f7 [.val (aK 1),.val (aK 8),.val (aK 9),.val (xJ jS [(aK 6)])]))
 (λnm=>nI (NL [("NoName",true),("NoNumber",false),("NoStack",false),("NoWeight",false)] nm)
 (bO (cE 10 (dC (.str "name"))) (LR 11))
 ((λnm=>nI (NL [("NoName",false),("NoNumber",false),("NoStack",true),("NoWeight",false)] nm)
 (bO (cE 10 (dC (.str "stack"))) (LR 11))
 ((λ_=>ED) nm)) nm))
def aFQ(h:f7 [a1,a8,a9,.list l]=r)(hd:δ[1]?=some (some a1)/\δ[8]?=some (some a8)/\δ[9]?=some (some a9)/\δ[6]?=some (some (.list l))):bP f7 [.val (aK 1),.val (aK 8),.val (aK 9),.val (xJ jS [(aK 6)])] δ=(match r with|.ok d outs=>Res.ok d (bY [] (outs.filterMap id) δ)|.err x outs=>.err x (bY [] (outs.filterMap id) δ)|.stuck=>.stuck):=by
 have v1:aK 1 δ=.ok a1 δ:=cM hd.1;have v2:aK 8 δ=.ok a8 δ:=cM hd.2.1;have v3:aK 9 δ=.ok a9 δ:=cM hd.2.2.1;have v4:xJ jS [(aK 6)] δ=.ok (.list l) δ:=by
  have:aK 6 δ=.ok (.list l) δ:=cM hd.2.2.2;unfold xJ;simp[bD,this,Res.bind,jS]
 have:cK [.val (aK 1),.val (aK 8),.val (aK 9),.val (xJ jS [(aK 6)])] δ=.ok [some a1,some a8,some a9,some (.list l)] δ:=by simp[cK,Res.bind,v1,v2,v3,v4]
 unfold bP;rw[this];simp![Res.bind,eG,aU,Option.map];rw[h]
 all_goals (cases r<;>rfl)
abbrev ĩ(a0 a1 a2 a3 a4:D)(a5:ZL)(l:ZI)(a7 a8 a9:D)(w:Str)(a11 a12:ZL):DS:=[some a0,some a1,some a2,some a3,some a4,a5,some (.list l),some a7,some a8,some a9,some (.str w),a11,a12]
def aD8{d:D}(h:f7 [a1,a8,a9,.list l]=.ok d [])(hN:N (ĩ a0 a1 a2 a3 a4 a5 l a7 a8 a9 "" (some d) a12)):bK ś (ĩ a0 a1 a2 a3 a4 a5 l a7 a8 a9 "" (some .none) a12) N B C R:=by
 have hc:=aFQ (δ:=ĩ a0 a1 a2 a3 a4 a5 l a7 a8 a9 "" (some .none) a12) h ⟨rfl,rfl,rfl,rfl⟩;unfold bK ś QL cE;rw[hc];exact hN
def Z0{z:Str}(hz:z="name"\/z="stack")(h:f7 [a1,a8,a9,.list l]=.err (.str (ķ z)) [])(hN:N (ĩ a0 a1 a2 a3 a4 a5 l a7 a8 a9 z none a12)):bK ś (ĩ a0 a1 a2 a3 a4 a5 l a7 a8 a9 "" (some .none) a12) N B C R:=by
 have hc:=aFQ (δ:=ĩ a0 a1 a2 a3 a4 a5 l a7 a8 a9 "" (some .none) a12) h ⟨rfl,rfl,rfl,rfl⟩;unfold bK ś QL;have e3:(Str.ofString "NoStack" == Str.ofString "NoName")=false:=by decide
 have e4:(Str.ofString "NoStack" == Str.ofString "NoNumber")=false:=by decide
 rcases hz with rfl|rfl
 .rw[show ķ "name"="NoName" by decide]at hc
  simp[hc,bY,Res.bind,U0,nI,NL,List.lookup,cE,bO,LR,dC,e3,e4];exact hN
 .rw[show ķ "stack"="NoStack" by decide]at hc
  simp[hc,bY,Res.bind,U0,nI,NL,List.lookup,cE,bO,LR,dC,e3,e4];exact hN
end
def aM3:KC (bx ns n):=⟨ZV,MP,MP,MP,aMZ⟩
def Z1(g:qF cs m)(hm:m<=50)(lc:cs.length<=8):SS 4 'j':=.list (by rw[Æ];lia) λd hd=>by
 let⟨c,hc,rfl⟩:=Þ.mp hd;refine .list (by rw[Æ];have:=(g c hc).1;lia) λd hd=>?_
 let⟨x,hx,rfl⟩:=Þ.mp hd;have q:=((g c hc).2 x hx).1;refine .tup 'f' λd hd=>?_;simp![Ï,ä,or_false]at hd;rcases hd with rfl|rfl|rfl|rfl|rfl
 .exact .str q.nm
 .exact .int
 .exact .str q.p
 .exact .str q.k
 .exact .int
def aJQ{i j:Nat}{δ:DS}{N B C:ZO}{R:D->ZO}{ds:ZI}(h:δ[i]?=some (some 'r'))(hi:i≠j)(hj:j<δ.length)(q:N ((δ.set i (some (.list (List.replicate ds.length (.list []))))).set j none)):bK (V0 i j) δ N B C R:=by
 unfold bK V0;rw[h];dsimp only;rw[Â ⟨hi,hj⟩];exact q
def aD9{i:Nat}{δ:DS}{N B C:ZO}{R:D->ZO}{ds:ZI}(h:δ[i]?=some (some 'r'))(q:N (δ.set i none)):bK (nN i) δ N B C R:=by
 unfold bK nN;rw[h];exact q
def PZ :∀{xs:List Bx}{cs:List (List Bx)},wG sh ps cs xs (some z) c->z="name"\/z="stack"
 |[],_,h=>by cases h.1
 |_::_,_,h=>by
  rcases h with ⟨_,h⟩|⟨_,⟨_,h⟩|⟨s,_,h⟩⟩
  .exact .inl (Option.some.inj h)
  .exact .inr (Option.some.inj h)
  .exact PZ h
def Z2(ns:ZK)(hn:ns.length<=63):JK [.list (ns.map .int)]=.ok 'l' []:=by
 have e24:sizeLine=2^24:=rfl;let⟨r,e1,own,b,ss,ts,as,rfl,S⟩:=aDV (ns:=ns);have ls:=S.ls;have lt:=S.lt;have tM:=iI (ns:=ns) (k:=19) (m:=4) ⋯;have eM:=lK (ns:=ns) (k:=19) (m:=4) ⋯ ⋯ ⋯;obtain⟨M,hM⟩:∃M:Nat,dr ns 19 4=(M:Int):=⟨(dr ns 19 4).toNat,∅⟩;rw[hM]at eM tM;let⟨r,e2,cs,rfl,lc,gc,pc⟩:=ZW (ns:=ns) (m:=(M:Int)) (a:=mM own) (b:=BE b) (c:=.list (ts.map kM)) (d:=.list (as.map ğ)) (ss:=ss.map kL) ∅ ∅ (by rw[Æ];lia) (by rw[Æ];lia);rw[ø]at pc;have e2:pH [iL ns,wX own b ss ts as,.int (M:Int)]=.ok 'j' []:=e2;rw[Æ]at lc;have G:SG ss.length 10 cs:=⟨lc,gc,by
  have pn:(cA cs.flatten).Perm ((List.range M).map λi:Nat=>nm ns 16 (i:Int)):=by
   have:=pc.map λb=>b.nm;rw[î]at this;exact this
  exact pn.nodup_iff.mpr (List.pairwise_map.mpr (List.Pairwise.imp_of_mem (λ{x y}hx hy hxy e=>hxy (by
   have:=List.mem_range.mp hx;have:=List.mem_range.mp hy;have:=aJD ∅ ∅ ∅ ∅ e;lia)) List.nodup_range)),by rw[pc.length_eq,Æ,List.length_range];lia⟩
 let⟨r,e4,ps,rfl,lp,gp⟩:=ZX (ns:=ns);have t5:=iI (ns:=ns) (k:=37) (m:=5) ⋯;have e5:=lK (ns:=ns) (k:=37) (m:=5) ⋯ ⋯ ⋯;have e6:=lK (ns:=ns) (k:=38) (m:=6) ⋯ ⋯ ⋯;have eB0:=MO (ns:=ns) (n:=0) ⋯ ⋯;have cp:∀(δ:DS)(h:δ[3]?=some (some 'j')),dY 1 (eB 0) (iB (aK 3)) dZ (xJ jS [(aK 0)]) δ=.ok 'j' δ:=λδ h=>bR (enc:=aN) (xs:=cs) (g:=aN) (cJ (by dsimp? [h])) ∅ λx _=>by dsimp? [aN,EM]
 have shc:AZ 'j' 'j'=some (.bool false):=N3 (k:=4) (KB gc) ⋯;have shq:G7 'j' 'j'=some 'l':=aBX (k:=4) (KB gc) ⋯;have run:=λxs(h:∀x∈xs,KC x)(hl:10+xs.length<=20)=>KG (ps:=ps) S G hl h;generalize wX own b ss ts as=sh at *;have n8:ss.length<=8:=by lia
 generalize ss.length=n at *;sleep 2;rfl';unfold X8;rw[L2.seq_assoc,L2.seq_assoc,L2.seq_assoc,L2.seq_assoc];refine FW (λδ=>∃(xs:List Bx)(o5:ZL),(∀x∈xs,KC x)/\xs.length<=5/\δ=[some (iL ns),some sh,some (.int (M:Int)),some 'j',some (.list (xs.map cC)),o5,none,none,none,none,none,none,none]) ?_ ?_
 .refine rK λK _ _ _ hK _=>?_
  dsimp? [e1,eM,e2];refine GC (enc:=cC) (P:=KC) wV (by dsimp? [e5]) t5.1 ∅ (λk hk=>⟨bx ns ((M:Int)+(k:Int)),aM3,by
   have:=MO (ns:=ns) (n:=(M:Int)+(k:Int)) ∅ ∅;dsimp? [this]⟩) λxs lx hx=>?_
  cases hq:xs.reverse with
  |nil=>
   have:xs=[]:=List.reverse_eq_nil_iff.mp hq;subst this;dsimp? [List.map_nil,List.length_nil,Bool.false_eq_true];exact hK _ ⟨[],none,hx,⋯,rfl⟩
  |cons y ys=>
   have ex:xs=ys.reverse++[y]:=by rw[<- List.reverse_reverse xs,hq,List.reverse_cons]
   subst ex;generalize ys.reverse=zs at *;have l2:((zs++[y]).map cC).length=zs.length+1:=by simp
   rw[Ò,í]at lx;have q0:decide ((0:Int)<((zs.length+1:Nat):Int))=true:=decide_eq_true ∅;have ep:VT ((zs++[y]).map cC) []=some (cC y,zs.map cC):=by
    unfold VT;rw[ß];simp
   have Ky:=hx y 'f';have hz:∀x∈zs,KC x:=λx h=>hx x (Ć _ h);have i0:eK (cC (bx ns 0)) (.int 0)=some (.str (bx ns 0).nm):=rfl;have j1:eK (cC y) (.int 1)=some (.int y.w):=rfl;have j2:eK (cC y) (.int 2)=some (.str y.p):=rfl;have j3:eK (cC y) (.int 3)=some (.str y.k):=rfl;have j4:eK (cC y) (.int 4)=some (.int y.b):=rfl;have K0:=aM3 (ns:=ns) (n:=0);have hK':=hK [some (iL ns),some sh,some (.int (M:Int)),some 'j',some (.list (zs.map cC++[.tuple [.str (bx ns 0).nm,.int y.w,.str y.p,.str y.k,.int y.b]])),some (cC y),none,none,none,none,none,none,none] ⟨zs++[⟨(bx ns 0).nm,y.w,y.p,y.k,y.b⟩],some (cC y),oK hz ⟨⟨⟨K0.ok.1.nm,Ky.ok.1.p,Ky.ok.1.k⟩,Ky.ok.2⟩,K0.nm,Ky.p,Ky.k,Ky.b⟩,by rw[Ò,í];lia,by rw[ß];rfl⟩
   have hK2:=hK [some (iL ns),some sh,some (.int (M:Int)),some 'j',some (.list ((zs++[y]).map cC)),none,none,none,none,none,none,none,none] ⟨zs++[y],none,hx,by rw[Ò,í];lia,rfl⟩;generalize cC y=Y at *;generalize cC (bx ns 0)=X0 at *;generalize (zs++[y]).map cC=L at *;dsimp? [l2,q0,e6,VL];split
   .dsimp? [ep,eB0,i0,j1,j2,j3,j4,qQ,Æ]
    exact⟨∅,hK'⟩
   .exact hK2
 rintro _ ⟨xs,o5,hx,lx,rfl⟩;let⟨w,c,R,G'⟩:=run xs hx ∅;have eD:=aJP G n8 ∅ hx R;have shx:AZ (.list (xs.map cC)) (.list (xs.map cC))=some (.bool false):=N3 (k:=3) (EL λd hd=>by
  let⟨x,h,rfl⟩:=Þ.mp hd;exact Ϻ (hx x h).ok.1) ⋯
 have ll:jS [.list (xs.map cC)]=some (.list (xs.map cC)):=rfl;dsimp? [e4,eD];refine aW.of (cp _ rfl) ?_;dsimp? [ll];cases w with
 |none=>
  have es:=SJ G n8 ∅ hx R;have is:gJ .str (Ĩ none c)=some (.bool false):=rfl;have sm:=GF (Z1 G'.g ∅ (by rw[G'.len];exact n8));have q1:AZ (.str "") (.str "")=some (.bool false):=by with_unfolding_all rfl
  refine aD8 es ?_;have dc:Ĩ none c=.list (c.map aN):=rfl;rw[dc]at is⊢;dsimp? [shc,shx,Bool.false_eq_true,is,EN,q1,sm,Bool.not_true];refine aJQ rfl ⋯ (ê 12) ?_;dsimp? [];refine aD9 rfl ?_;dsimp? [shq]
 |some z=>
  have es:=MU G n8 ∅ hx R;have is:gJ .str (Ĩ (some z) c)=some 'l':=rfl;have hz:=PZ R;refine Z0 hz es ?_;have dc:Ĩ (some z) c=.str z:=rfl;have qz:G7 (.str z) (.str z)=some 'l':=by rcases hz with rfl|rfl<;>with_unfolding_all rfl
  rw[dc]at is⊢;dsimp? [shc,shx,Bool.false_eq_true,is,qz]
theorem all_mk{l:W.OpenLaw}(T:Txt K mg)(lnt:W.noTabs K=true)(hfa:mg "law"=some (.ref fa)):
  (W.noTabs K=true/\∃c P pos,jO K=some (c,P,pos))/\∃fd:FuncData,(∀(s:Shared)(v:Value),BindsTo s fd ⟨[v],[]⟩ [("_law_script",v)])/\∀base:Heap,K.In base->base.Ns mainGlobals mg->sY K mg base->qI l.prog w K mg base (AW l.prog w K) 11 fa fd ["_law_script"] (SO K ["_law_script"] [] [0,0,0,0,0,0,0,0,0,0,0,0,0] 0 JK):=by
 have e:=hfa.symm.trans T.x68.m;cases e;exact⟨⟨lnt,_,_,_,T.lamE⟩,T.x68.fd,λs v=>by
  let⟨_,_,_,_,_,_,_,_,_,e,_⟩:=T.x68.F.ex;rw[e];exact .of_eq rfl,λbase _ _ B=>aIZ T B⟩
def walk{l:W.OpenLaw}{q:Program}{loose:ZG}{XP:(ZD)->Heap->Prop}{YP:World->Heap->Prop}{d:DefRec}{K:Params->ZC}(hn:l.most=some 63)(hdf:d.params.defaults=[])(hY:∀(w:World)(h:Heap),YP w h->(K w.params).In h)(hrec:∃dl,(PyProof.Rows.recsOf q).find? (λe=>e.name == m9)=some dl)(F:∀(w:World)(mg:ZD)(fa:Addr)(h:Heap),(K w.params).In h->h.Ns mainGlobals mg->mg d.name=some (.ref fa) ->
   (W.noTabs (K w.params)=true/\∃c P pos,jO (K w.params)=some (c,P,pos))/\∃fd:FuncData,(∀(s:Shared)(u:Value),BindsTo s fd ⟨[u],[]⟩ [("_law_script",u)])/\∀base:Heap,(K w.params).In base->base.Ns mainGlobals mg->sY (K w.params) mg base->qI l.prog w (K w.params) mg base (AW l.prog w (K w.params)) 11 fa fd ["_law_script"] (SO (K w.params) ["_law_script"] [] [0,0,0,0,0,0,0,0,0,0,0,0,0] 0 JK)):
  W.WalkO q loose XP YP l.row.toRowW d [] (λf vs=>PySem.call f vs):=
 let ⟨_,hrec⟩:=hrec
 L2.walk_ofL (n:=63) (k:=11) (x:="_law_script") (CX:=λw=>AW l.prog w (K w.params)) (sp:=λw=>SO (K w.params) ["_law_script"] [] [0,0,0,0,0,0,0,0,0,0,0,0,0] 0 JK) hn ⋯ hdf ⟨rfl,⋯,⋯⟩ hY hrec F (λ_ _ a ns hl hL hS=>LQ hS (Z2 ns hl) hL) λ_ _ _ _ _ z=>QH z
@[inline]def aPQ{α:Type _}{β:Type _}(a:α)(_:β):α:=a
@[inline]def pv:Program:={PySem.Challenge.pw_keel_k72_stowed with main:={PySem.Challenge.pw_keel_k72_stowed.main with body:=[top 0,top 1,top 2,top 3,top 4,top 5,top 6,top 7,top 8,top 9,top 10,top 11,top 12,top 13,top 14,top 15,aPQ (top 16) (PySem.Stmt.FunctionDef (aPQ ("":Str) PySem.Expr.Lambda)),top 17,top 18,top 19,top 20,top 21,top 22,top 23,top 24,top 25,top 26,top 27,top 28,top 29,top 30,top 31,top 32,top 33,top 34,top 35,top 36,top 37,top 38,top 39,top 40,top 41,top 42,top 43,top 44,top 45,top 46,top 47,top 48,top 49,top 50,top 51,top 52,top 53,top 54,top 55,top 56,top 57,top 58,top 59,top 60,top 61,top 62,top 63,top 64,top 65,top 66,top 67,top 68,top 69,top 70,top 71,top 72,top 73,top 74,top 75,top 76,top 77,top 78,top 79,top 80,top 81,top 82,top 83,top 84,top 85,top 86,top 87,top 88]}}
@[inline]def rv:W.OpenLaw:={PySem.Challenge.rw_keel_k72_stowed with prog:=pv}
def aQK:PySem.Challenge.rw_keel_k72_stowed=rv:=by kernel_rfl
theorem tv(h:rv.Holds):PySem.Challenge.rw_keel_k72_stowed.Holds:=by rw[aQK];exact h
end Toy
namespace PySem.W.Fast
local macro_rules|`(seal $xs*)=>do return Lean.mkNullNode (<- xs.mapM λx=>`(command|theorem $(Lean.mkIdent (.mkSimple s!"tw{x.getId.toString.foldl (λa c=>let n:=c.toNat;a*62+(if n<58 then n+4 else if n<91 then n-65 else n-71)) 0}")):ident:True:=trivial))
seal Gdx4d6yEHel DNfGFJThiUA NjzONlgjEQ1 VJEFzrRCf7O V0VQtrTMARs OuyYStbAywr AiJZRSfykfr EzlrA6RoAUd K33XeAuw6vF MWh89H0J5rq IRPeh778XyD BdWC5EWLtFf IQCAiMPnn5F R0Dx2dPSDDK BM0i60YmSrw JCFNNUtHqV0 FpmU0RcB4ks FQj5upeJRXc HmLLieoMUQE LuQm1pX1A4D Q0Ok54z59sU CBxYrAj6z5x JVfnfOn3Sfg VPozkAxDlA9 GuyiMN3jH6m D8YuUuwEMGu CRg2aPZWxq4 OIKq2MWQ4Jr EgEWxxgfVOB U6ztAzHnUmw HA6LtsmvjaX AEd9Ituz0EH OAPi8xmPIds MJbEmS3KblA J8Y4noQnPpC Dsa1N8JkS4A GPIXz9Kr6q9 NJZdW2DZ2Tj VIiVUrbrdHq SB8Mcyszz3w Qivyl5CBydy FWe7O5g5zZG QOXjaFwEkx7 MeOrHWjGxkU HoH8GHU856C ArWIctKGS5v GW1Vxikbzh7 CSRaq0OHR6v PLEEZ7SLaly Qfz9X9gQMUL Qy6hOGzmzej BQ7WtUQ6shY P0T3qqj0J2K QQMGVM2I0Gx Uv9PCpcWfos VkOY4cObPTn LgFygDEqHqS KnluDXTYPj3 Hvp2Dtt4F6o Eew47ZzoIt7 SYotZZdj8T6 Ox3J9r5TPUa IFKfxhuyUtx B1nhWH84NnK TadlO3068yh Dve5dAzAbZB IUtbsUJtD1S P10Hj2EcLXO R0GJXWa0pyE GtjNguDM7p4 E2wurK3nKH9 Pn5wXNHEb4y MMhX9daVWHi Kx5z8URIDP3 LsrWfKIHFbJ Ch6vB2ypQXm MTMvXXBUHt9 GUumoxH0tGL K942tjP4IxU UkLM3JAD7zJ ICuESrBRg4C AZAsCFDJrRt SCjBIbZFmC9 JctatG3fKey B6a2ZgOEion OAVN197nf3O Bh9cUsHzWdW P0vrtlT77rM Af4VzdRqZ6j Qf2ek307A35 J2xrSR4y1up NjlfeLz5BHT HVuUUui4h62 ByaMSBleUQr SLGGPNT6YSw RxE5CpiATs0 VvdWpAzFDYk OxdiHoJA4h3 VKezJRq5XFO FJdj0jiIV0x OrSvSsZfWZk ILcWcurNYAK EUs9Q5OtoKo VmzlImCyYIC Fjw2HaModUw B671r88FxHB TziFtLJNihH MrPmtxQo5Lq Qhs0t70Ekp4 SXPUXIcAU4F FdL9L3AQHil SsedyJIP89g JaySUu6Csk0 VZg867LFzjE Cfv2Navwf7b DKQAqi6fFNp SdIx5oArngi StwEHlA3D4F E23mNtkOfL1 Oo2ekcyOavo PHMvCHGftbU OjX1im2d2cP SzwqeCntt6A Dlr8OvSeIbB GFKiAzz1yDa L9KgS6eTu36 MqkA4qrFAo2 AgcwC2YKCrI BOejeMOuWly Kcn72zB7slT Nh2xnF91Zwk HeMUs6vkkHp KmnzjzYqSpW GK0AtSehbG3 A1GmsvdC0jD NZf4Y4BwlCp MXaglI10l0w Jf0PxKkEbda KaT4Hzxz3rS DVMDubAAR35 Ntzxa11q7mC TRtsdzBQjZG MgObhLvUqOI K13ciy36hh7 J08W5lU7yP0 TWr5ooMxeMW QrytEQSKYNV AOjVZfyFB7h KnoLTtITMoW VK3NJlvGove Lh70SfVQqnl SnGEaD1PkUL ApAQ57Y5U8d AJkGalgZhXB JdnoYuX88xF Ic3DqUjNq03 IfoQdejHmv2 JRsl1QgFTq9 HyUGa6KVOhV Lsxxntv5bcx J89BvpPWeG5 G4xYVBMfFwD OhH5VHAa1ZY FkJM1w9KBCN FZTXf0z7adG RyDYHRiL21P G7zPL30fHLy Rlc044NqkyB SGiKvKMfgFi BYuDUF3useC RRoAZeNPEsw IYg4vpuLcoN ANJzBq4klIY NbWrBd15Tx8 BXbjztv7lcP HIASn83hA64 BhQcgdaAVPY UwM5uLIp2iy CujnJtDdYxy UQFruEOWq8w VfXU8XbIso8 UbuPCuyveUk CQWDgFr8Skt JHm0vcDu3FC TUWaKvD2YQr AlR7gC2of7l CobHVLXYXFy DaQC4x2bL4i IiFGWhYGGGt QgrdubSfQ6A J1UuXZMJV13 BC6tzqj6VAt PIIFxFx4Xtr RQnwoGEG0Bv Sh1LN4NrdgM Jql2QxKFtUX HoTk4hKcRij CjNFME3lsE1 NKTF1Hhsdcl GPM5lUuH7F6 LYoJMy222vG QuLzobi4bqC ABEdeDEXHEG Ezhn4dTJ6GX KwGQCO4R7wY DRzln4AlSiN Tbo0KZv7eD9 L5LLl7rZyDc Hkh7e4PVfob HZRBMEDFGnC SZOI7UZNfab Fn05EqrAfDo LOq6zMNL6XV QtDe2ej5onr SxzeRivMQ9g Sqhu42hBXz4 GhJc3HY9oJW UOAWO6hxesj PLvHBgIhbCR UgQbgJjCGCp MbAVCIuW1Qj PE4hgP0Xnoy F5cUDg2sXy3 BCr2gJMrURD I9avuELi90C RrqqY9MqA8N MJFvMw73kPF Brcn7G6jTQw ENAMqay2mgX UYC7YrMEi2c Cl59m6Z3Qb4 PqAZfG2IsOc IZDOlDQ1h4p MBtj6Yixu6G AcnZYTMITQp AsZ8qoedBcj GzMko3J2Q5j NlhrM72nZii Us5BNebZ3T3 A0O1iRii8d3 GOcymmHyims QC3huigAk0c OQsDcfWgRX7 UvlYh4qxFg0 RYiEhEKAHqW H6oZgC9grNk AeNvLYs5UqF DB0gRBHJrWT GbXKppcBmiU EIqAARw2M8H CDAbWNOALyC Pt5DFHm4IRT DkFXgMtOS4q OmVHoMfdsGi CUNbjKZEgSI LDyuUqBc0V8 VgBToxlIZdD DFpB73HAFUa JwQH25mhLT1 PlNQ9YMwAd5 GbUBqSPA14J T9XNYdFwrl2 L9gH9cpAgHQ VeVKSOaeuEv Rw2DKQPvxwd DqbLLSJUtKv CP3el62vDEn QL0qAANCSLZ LgVt7J3tpAA JI7lESPcFYb N2QcZHDyDOi U7xXhA4BdrQ NEldmkxJvIj VR0ijGLQL9i MdWIhZRJ2bk NvkznEPyVYi RDQ18MFbvY1 E4DYXQRZLgR TASzHSWJoo2 SMZPqIhY8Yf AP8G4KyOtJq EXVIwaxntUL GRivSW9gJ1V VYQs93AKpmH L0WCeHufL2W TONoYSVWV0o F1s5OW1dR8t MWyThtig2NH DPMSf0oPEr9 QRoRDkXu5dQ EJyyFgWjk6F LffqecRwhCG KxfxB2doBcH RtAirXxYj6S FwnnoUpOibv OkrMRVY7dCh PHGEhKmyqIW MJ5afoejv55 Tn5uq46f2u1 Gsa4w5R46p1 DZ7P5diS8xJ G68sgCnOj4J AZ3TVxNLAeb APeOKmTt8nh L9sCWSgvDra UdNnDck2gGk Rrd5QHdxFKD Df3VRBIsWVM T8cl4cpLEVS P5nAUyCjPD3 IkfAU9HHtA6 NQevU2AojSC JE6qEQ96jlj GuRA8jnPGXh LntZ829mgzG Co8FQAhhsiJ Uovh2V0kely JvduKxYDPzf Q4xscsyhv0I GkYTJxrWNDa JSzV12FXC5y Gu734C0wJUi BNurmPIV0hW PbHae7o3DLI N4OddvIMToC LsfqFmYblVE Us4claS6QCB JB1weiPtaX6 Qq3s5V1XOSW E50ufCbUas8 L6qfLE6lSpt D9Kx5tQIf80 JABRwQ9YlAE L8xTrHI1xJz KV3qOE50MOc F8q3MSv7e35 IV0Umi1G0bZ Aj6gMqxfA3y Px5ID2uFosl QZT9QSTcY9g UDraUU7x330 FDYcetgZtSd ETxM5HSIYa1 KskmX4CHTng H3Ude64gS6w CNalHnj23gL ThP5byDOG8T VZSwFuQuBvV KRMttcH0JDs NjOqACmvMyh BIV9o664IjB LINbsGgRSTh MgW8zWVzoLk T31nPfgXmXc JNJu3jccSXy QfGT9cVwCB0 SNm1Ld04xtH GCrlqBOlSjO RhvMGLwPB3a IMjf0t2lN3s Bmpfr4GjZSU DpjaTgs2KHr Aygnr9Fi8FO MnXPd8V82ty DPOTRozzl5G TNcByJvhmjO P6i2RhSdCcp ItUfMCCjtxG Cu6LuzWuZ6J RPQ6Zi7ogwL VXd8t8ZlZ65 JhvPriCSMis VPACgw8nRAl N9ErujxyxoG AS8ue1d7W6u I7pnZ29xrJg VJGi6Hjic9u J45Sp1s7cIw AWTknavLFDX CfgR9jg4u6v TkbwmvHlCLJ TgH97GF1WSt QTozxkcD2hv L4eD6dDI7es KBbvvxfm5oD T1MucYUyKn4 K7d89cMELF0 NMNhs9AsVUY VCxV0jIGZp7 Vawhp5OHM5v ANu79A98ccV C5mwlfEJrja Ig1DAv2cx1V LP9JFZ04rUI Vuvvprt0edO QCqSgdszreW T1zS6Xsuwrw GmSNFkPXUWj V5rHM2Q16Zn RGYW6m6ANUX BQj7lu6Ehnu Ak08p9Laut2 Cu7zsWJFDia RWjgQLuLAMt BiBKxOvPFjG P9OHg3Fpb4q EMtriO9TtTf UZ0HtvNZ5mt PWYpf2FRdXq V4mnZfA5tCF Qq4XkZY0R4g Agc2u28f8DL AY3KNgg3bVx NnvBZqTbdWD K7lkOkKC07L B27JlPttUM3 DuPu7FENZ7B Dl7CflN3cxZ GynB9ZLCSDi TA3dHEr9u5l Q4B8P8Mbvay S5dw2tz11k5 HrmbYuDmZGl F0MHrYec8Tq NWhrdDPE0tr RgxoYskc6n0 ICZZIjhbOH3 LDhS6ERbpMg FO5A8qsLhaw PCecURGVCUO J42qwGp44hs L3QdbGncbpX ESjGHchY8iI UoBJIG6q2Ay I8K7xYN5y8g QFqIttrn0cx EFkRYTCxMYF GTQhY31K5ml TtWM5vUgy4g HSBxlZ7AJEl JEPMoMncmRf VfFHqUzFLdv UVqE31EwrBX EvfjjJ8zRbv CRG3VNDfwCx BevAOm7KRjX G8vE2tRYvDx FnxchTxLSQR M2NEuYD4zyC URHz3HsFLEq DI0q78YEevg Th1R4UpCs6G VoSkgUsw3Bw EdNzbSMWObX Hp4k7pJY7TN SHa7PnZYxKR RR4wQXQfrCD Jp3TxgbyLXd Te7dEZaETog QpgDn17NK3T UxfHIO9zjHt R5D1bZYH2zc Upv7IDF6ZIa OXAtlHY3pqU USKxn6OYKGP G3TblVzNOdH TONm22FlOq3 O6t4uYMQIwL NpopUlbQLOl DTZQtPTJncg QJqEe7WHy2R
end PySem.W.Fast
open PySem PySem.W PyProof.Rows L2
set_option maxRecDepth 100000 in
set_option maxHeartbeats 0 in
theorem PySem.Challenge.cw_keel_k72_stowed_holds : PySem.Challenge.rw_keel_k72_stowed.Holds := by
 refine Toy.tv ?_
 w_on;o_law;k_head;(case hw=>w_witness2)
 k_fill
 refine Toy.walk (l:=Toy.rv) rfl rfl (λw h Y=>PySem.W.km_in_of Y) ?R ?F
 case R=>exact⟨_,rfl⟩
 case F=>
  intro w mg fa h KX G hmg;refine' Toy.all_mk (Toy.Txt.mk ?_ ?_ ?_ ?_ ?_ ?_ ?_ ⟨⟨?f8,_,?F8,SM.binds ?F8 ?b8⟩,PySem.W.mg_of KX G ?a8⟩ ?_ ?_ ?_ ?_ ?_ ?_ ⟨?f15,_,?F15,SM.binds ?F15 ?b15⟩ ⟨?f16,_,?F16,SM.binds ?F16 ?b16⟩ ?_ ?_ ?_ ?_ ?_ ?_ ?_ ?_ ?_ ?_ ?_ ?_ ?_ ?_ ?_ ?_ ?_ ?_ ?_ ?_ ?_ ?_ ?_ ?_ ?_ ?_ ?_ ?_ ?_ ?_ ?_ ?_ ?_ ?_ ?_ ?_ ?_ ?_ ?_ ?_ ?_ ?_ ?_ ?_ ?_ ?_ ?_ ?_ ?_ ?_ ?_ ?_ ?_ ?cc_Table ?nn_Table (PySem.W.mg_of KX G ?nn_Table) ⟨?pg_Table,?hd_Table,?po_Table,?sa_Table⟩ (yK ?nn_Table ⟨?pg_Table,?hd_Table,?po_Table,?sa_Table⟩ ?at_Table_free) (yK ?nn_Table ⟨?pg_Table,?hd_Table,?po_Table,?sa_Table⟩ ?at_Table_goal) (yK ?nn_Table ⟨?pg_Table,?hd_Table,?po_Table,?sa_Table⟩ ?at_Table_held) (yK ?nn_Table ⟨?pg_Table,?hd_Table,?po_Table,?sa_Table⟩ ?at_Table_lines) (yK ?nn_Table ⟨?pg_Table,?hd_Table,?po_Table,?sa_Table⟩ ?at_Table_scale) ⟨?km_Table,?a15,?i15,?kk_Table⟩ ⟨?a16,?i16,?k16⟩ ?lc ?lp (WU ?a8 ?F8 ?lcd ?lk ?lv rfl) ?lcd (aSD KX G ?_) (aSD KX G ?_) (aSD KX G ?_) (aSD KX G ?_) (aSD KX G ?_) (aSD KX G ?_) (aSD KX G ?_) (aSD KX G ?_) (aSD KX G ?_) (aSD KX G ?_) (aSD KX G ?_) (aSD KX G ?_) (aSD KX G ?_) (aSD KX G ?_) (aSD KX G ?_) (OQ KX G ?_) (OQ KX G ?_) (OQ KX G ?_) (OQ KX G ?_) _ ?nn_NoName (PySem.W.mg_of KX G ?nn_NoName) ?ee_NoName ⟨?_,?_,?_,?_,?_,?_,?_,?_⟩ _ ?nn_NoNumber (PySem.W.mg_of KX G ?nn_NoNumber) ?ee_NoNumber ⟨?_,?_,?_,?_,?_,?_,?_,?_⟩ _ ?nn_NoStack (PySem.W.mg_of KX G ?nn_NoStack) ?ee_NoStack ⟨?_,?_,?_,?_,?_,?_,?_,?_⟩ _ ?nn_NoWeight (PySem.W.mg_of KX G ?nn_NoWeight) ?ee_NoWeight ⟨?_,?_,?_,?_,?_,?_,?_,?_⟩ ?mm_NoName_NoName ?mm_NoName_NoStack ?mm_NoNumber_NoName ?mm_NoNumber_NoStack ?mm_NoStack_NoName ?mm_NoStack_NoStack ?mm_NoWeight_NoName ?mm_NoWeight_NoStack) ?lnt hmg
  any_goals (refine' aL3 KX G ?a ?l ?c ?k ?b;(case a=>k_is);(case l=>k_is);(case c=>k_is);(case k=>k_is);(case b=>(intro _ _ _ _ _ _ us hl;first|exact aOU hl λ_=>rfl|exact aOV hl λ_ _=>rfl|exact aOW hl λ_ _ _=>rfl|exact aOX hl λ_ _ _ _=>rfl)))
  any_goals (refine' aL4 KX G ?a ?l ?c ?k ?b;(case a=>k_is);(case l=>k_is);(case c=>k_is);(case k=>k_is);(case b=>(intro _ _ _ _ _ _ us hl;first|exact aOU hl λ_=>rfl|exact aOV hl λ_ _=>rfl|exact aOW hl λ_ _ _=>rfl|exact aOX hl λ_ _ _ _=>rfl)))
  all_goals try k_is
  all_goals try (unfold lO;k_is)
  all_goals try k_is
  all_goals try (refine' w9 ?l ?c ?k;(case l=>k_is);(case c=>k_is);(case k=>k_is))
  all_goals try (intro _ _ _ _ _ _ us hl;first|exact aOU hl λ_=>rfl|exact aOV hl λ_ _=>rfl|exact aOW hl λ_ _ _=>rfl|exact aOX hl λ_ _ _ _=>rfl)
  all_goals try (dsimp only;k_is)
  (case lnt=>first|kernel_rfl|k_is)
  all_goals try exact Option.isSome_iff_exists.mpr ⟨_,by k_is⟩
  (case lcd=>exact rfl);(case lk=>k_is);(case lv=>exact rfl)
  (case ee_NoName=>kernel_rfl)
  (case ee_NoNumber=>kernel_rfl)
  (case ee_NoStack=>kernel_rfl)
  (case ee_NoWeight=>kernel_rfl)
  (case mm_NoName_NoName=>kernel_rfl)
  (case mm_NoName_NoStack=>kernel_rfl)
  (case mm_NoNumber_NoName=>kernel_rfl)
  (case mm_NoNumber_NoStack=>kernel_rfl)
  (case mm_NoStack_NoName=>kernel_rfl)
  (case mm_NoStack_NoStack=>kernel_rfl)
  (case mm_NoWeight_NoName=>kernel_rfl)
  (case mm_NoWeight_NoStack=>kernel_rfl)
