import PyProof.Rows.All
import Wide.All
import OpenK.AllK
import Wide.FinOn
import Lean
import PyProof.EqAt
import PyProof.EqKinds
import PyProof.TupleCall
import KE.KTryMore
import PyProof.NsDelKeeps
import PyProof.ExcArgsOwn
import PyProof.ExcAttrAll.ValueError
import PyProof.ExcBaseAll.ValueError
import PyProof.CollectIter
import PyProof.ZipIter
import PyProof.EnumMake
import PyProof.EnumFor
import PyProof.Rows.FactsT2
import PyProof.Rows.EnumRows
import PyProof.ConsumeWalk
import PyProof.ListMulRoad
import PyProof.AutoListH
import PyProof.MinMaxWalk
import PyProof.WalkInts
import PyProof.Rows.CallKwBuiltin
import PyProof.Rows.Range3
import PyProof.P3In
import PyProof.FactsAll.list_3
import PyProof.EqAt
import PyProof.StrOps2
import KE.KRevIter
import PyProof.StrBlockI
import KE.KNest
import KE.KLam
import PyProof.ListRange
import PyProof.Rows.FStr
import PyProof.Rows.SortRev
import PySem.Challenge.RW_keel_k63_refused_calls

set_option autoImplicit true
set_option bootstrap.genMatcherCode false
set_option genSizeOf false
set_option Elab.async false
set_option linter.all false
set_option maxRecDepth 100000
theorem Ë:type_of% @List.getD_eq_getElem?_getD:=@List.getD_eq_getElem?_getD
theorem É:type_of% @List.getElem?_eq_getElem:=@List.getElem?_eq_getElem
theorem Å:type_of% @List.length_map:=@List.length_map
theorem È:type_of% @Nat.le_of_lt:=@Nat.le_of_lt
theorem Ó:type_of% @Nat.lt_of_lt_of_le:=@Nat.lt_of_lt_of_le
theorem Ç:type_of% @Nat.le_refl:=@Nat.le_refl
theorem Î:type_of% @List.getElem?_eq_some_iff:=@List.getElem?_eq_some_iff
theorem Ò:type_of% @List.mem_cons_of_mem:=@List.mem_cons_of_mem
theorem Ï:type_of% @List.getElem?_map:=@List.getElem?_map
theorem Ù:type_of% @List.mem_append_right:=@List.mem_append_right
theorem ã:type_of% @List.getElem?_append_right:=@List.getElem?_append_right
theorem Ê:type_of% @Nat.ne_of_lt:=@Nat.ne_of_lt
theorem ò:type_of% @Nat.lt_of_lt_of_eq:=@Nat.lt_of_lt_of_eq
theorem Ñ:type_of% @List.length_append:=@List.length_append
theorem Õ:type_of% @Nat.le_trans:=@Nat.le_trans
theorem Ú:type_of% @List.getElem?_set_ne:=@List.getElem?_set_ne
theorem å:type_of% @List.getElem?_eq_none:=@List.getElem?_eq_none
theorem ë:type_of% @List.size_toArray:=@List.size_toArray
theorem ï:type_of% @List.getElem?_append_left:=@List.getElem?_append_left
theorem Ö:type_of% @List.length_set:=@List.length_set
theorem í:type_of% @List.length_replicate:=@List.length_replicate
theorem Û:type_of% @Nat.ne_of_gt:=@Nat.ne_of_gt
theorem õ:type_of% @List.mem_of_getElem?:=@List.mem_of_getElem?
theorem é:type_of% @List.length_zip:=@List.length_zip
theorem ó:type_of% @Int.le_of_lt:=@Int.le_of_lt
theorem Ē:type_of% @Int.mul_le_mul_of_nonneg_right:=@Int.mul_le_mul_of_nonneg_right
theorem ð:type_of% @List.mem_singleton:=@List.mem_singleton
theorem Ü:type_of% @List.mem_map:=@List.mem_map
theorem þ:type_of% @List.mem_append:=@List.mem_append
theorem ÿ:type_of% @List.getElem?_range:=@List.getElem?_range
theorem ā:type_of% @List.getElem?_replicate:=@List.getElem?_replicate
theorem ä:type_of% @Nat.not_lt:=@Nat.not_lt
theorem Ĉ:type_of% @Nat.lt_of_le_of_lt:=@Nat.lt_of_le_of_lt
theorem ö:type_of% @Nat.le_of_eq:=@Nat.le_of_eq
theorem ē:type_of% @List.getElem?_zip_eq_some:=@List.getElem?_zip_eq_some
theorem ø:type_of% @Nat.lt_irrefl:=@Nat.lt_irrefl
theorem Ă:type_of% @List.getElem?_set:=@List.getElem?_set
theorem ù:type_of% @List.length_take:=@List.length_take
theorem ú:type_of% @Int.toNat_natCast:=@Int.toNat_natCast
theorem ĉ:type_of% @List.map_snd_zip:=@List.map_snd_zip
theorem Ċ:type_of% @List.map_fst_zip:=@List.map_fst_zip
theorem ă:type_of% @List.getElem_mem:=@List.getElem_mem
theorem ċ:type_of% @Nat.add_sub_cancel:=@Nat.add_sub_cancel
theorem ß:type_of% @List.map_append:=@List.map_append
theorem ü:type_of% @List.mem_append_left:=@List.mem_append_left
theorem æ:type_of% @List.all_eq_true:=@List.all_eq_true
theorem Ì:type_of% @List.mem_cons:=@List.mem_cons
theorem Ð:type_of% @List.map_cons:=@List.map_cons
theorem Ô:type_of% @List.mem_cons_self:=@List.mem_cons_self
theorem Ø:type_of% @List.not_mem_nil:=@List.not_mem_nil
theorem Ý:type_of% @List.length_cons:=@List.length_cons
theorem à:type_of% @List.zip_cons_cons:=@List.zip_cons_cons
theorem Þ:type_of% @Bool.false_ne_true:=@Bool.false_ne_true
theorem aQL:type_of% @PySem.W.mg_of:=@PySem.W.mg_of
theorem ç:type_of% @Nat.lt_succ_self:=@Nat.lt_succ_self
theorem á:type_of% @List.lookup_cons:=@List.lookup_cons
theorem Í:type_of% @Ne.symm:=@Ne.symm
theorem è:type_of% @List.getElem?_set_self:=@List.getElem?_set_self
theorem Ą:type_of% @Classical.byContradiction:=@Classical.byContradiction
theorem aQR:type_of% @PySem.W.mg_none_of:=@PySem.W.mg_none_of
theorem ô:type_of% @PySem.mem_of_lookup:=@PySem.mem_of_lookup
theorem â:type_of% @Bool.and_eq_true:=@Bool.and_eq_true
theorem ê:type_of% @List.map_map:=@List.map_map
theorem ì:type_of% @List.append_nil:=@List.append_nil
theorem Ā:type_of% @List.find?_cons:=@List.find?_cons
theorem û:type_of% @List.drop_eq_getElem_cons:=@List.drop_eq_getElem_cons
theorem ñ:type_of% @List.length_singleton:=@List.length_singleton
theorem î:type_of% @Nat.zero_le:=@Nat.zero_le
theorem Č:type_of% @List.length_drop:=@List.length_drop
theorem ý:type_of% @Nat.zero_lt_succ:=@Nat.zero_lt_succ
theorem Á:type_of% @if_pos:=@if_pos
theorem Â:type_of% @if_neg:=@if_neg
theorem Ä:type_of% @And.intro:=@And.intro
set_option compiler.extract_closed false
noncomputable section
abbrev Zdb(x:PySem.Str):Prop:=(x == ("__debug__":PySem.Str))=false
abbrev Zcd(x:PySem.Str):Prop:=(x == ("__classdict__":PySem.Str))=false
abbrev Zse(a:PySem.Expr)(l:List PySem.Expr)(v:PySem.Env):Prop:=PySem.starEach (a::l) v=(false,PySem.eval a v)::PySem.starEach l v
abbrev Zbt(p:PySem.Pos)(l:List PySem.Expr)(v:PySem.Env):Prop:=(PySem.backTo p (PySem.starEach l v)).any (·.1)=false
abbrev Zfi(e:PySem.Expr)(v:PySem.Env):Prop:=∀x,PySem.foldedSetIterable e v x=pure x
set_option hygiene false
local macro_rules|`(tactic|sleep 1)=>`(tactic|(rw[e]at h;exact h.elim))
local macro_rules|`(tactic|sleep 2)=>`(tactic|(refine⟨F,δ,R,?_⟩))
local macro_rules|`(tactic|sleep 3)=>`(tactic|(intro X hP hw hK hc i U s σ H E I hf st hg;subst hP hw hK))
local macro_rules|`(tactic|sleep 4)=>`(tactic|(refine aQ (os:=[]) ?_))
local macro_rules|`(tactic|sleep 5)=>`(tactic|(exact q.elim))
local macro_rules|`(tactic|sleep 6)=>`(tactic|(have ph:Inv X U σ H {s with heap:=s.heap.push {cls:=.type "list_iterator",data:=.fields #[.ref p,.int 0 0]}}:=I.kept (t':=s.toks) λb o e=>Heap.get?_push_of_some _ e))
set_option hygiene true
set_option hygiene false
local macro_rules|`('a')=>`((by exact È ‹_›))
local macro_rules|`('b')=>`((model X.prog X.w))
local macro_rules|`('c')=>`((.list (cs.map aR)))
local macro_rules|`('d')=>`((W.kla_obj "<lambda>" kM params body scope clos ((X.mg "__name__").getD .none) c' ctv))
local macro_rules|`('e')=>`((by simp))
local macro_rules|`('f')=>`((aT X xs scope C fp s H))
local macro_rules|`('g')=>`((.Name x p))
local macro_rules|`('h')=>`((List.replicate xs.length 0++ow))
local macro_rules|`('i')=>`((by grind))
local macro_rules|`('j')=>`((List.replicate m 0))
local macro_rules|`('k')=>`((aL.refl _))
local macro_rules|`('l')=>`((List.replicate k 0++ow))
local macro_rules|`('m')=>`((.ListComp elt [⟨tg,iter,ifs,0⟩] scope pos))
local macro_rules|`('n')=>`((aD (fZ aH PySem.F.excBase_ValueError rfl T.n_NoName T.q_NoName T.e_NoName rfl rv)))
local macro_rules|`('o')=>`((model prog w))
local macro_rules|`('p')=>`((.ref c_NoWeight))
local macro_rules|`('q')=>`((by assumption))
local macro_rules|`('r')=>`((Heap.lt_size e))
local macro_rules|`('s')=>`((X.N[i]?=some x))
local macro_rules|`('t')=>`((.ref c_NoStack))
local macro_rules|`('u')=>`((.bool true))
local macro_rules|`('v')=>`((some (A x)::some (B x)::δ))
local macro_rules|`('w')=>`((dL aH rfl T.x64 rx))
local macro_rules|`('x')=>`((.ref c_NoName))
set_option hygiene true
local macro_rules(kind:=Lean.Parser.Tactic.tacticLet__)|s=>do
 let d:=s.getArgs.back![0]
 unless d.isOfKind ``Lean.Parser.Term.letPatDecl do Lean.Macro.throwUnsupported
 let k:=Lean.Syntax.node .none
 let o:=k `null
 let m:=fun y=>k ``Lean.Parser.Tactic.rcasesPatMed #[o #[y]]
 `(tactic|obtain $(⟨m (d[0].rewriteBottomUp fun x=>
  if x.isIdent then k ``Lean.Parser.Tactic.rcasesPat.one #[x] else
  if x.isOfKind ``Lean.Parser.Term.hole then k ``Lean.Parser.Tactic.rcasesPat.ignore #[x[0]] else
  if x.isOfKind ``Lean.Parser.Term.anonymousCtor then k ``Lean.Parser.Tactic.rcasesPat.tuple #[x[0],o (x[1].getArgs.map fun y=>if y.isAtom then y else k ``Lean.Parser.Tactic.rcasesPatLo #[m y,o #[]]),x[2]] else x)⟩):rcasesPatMed:=$(⟨d[4]⟩))
local macro_rules(kind:=Lean.Parser.Command.declaration)|s=>do
 let d:=s[1];let y:=d[2][1][0][1]
 if d.isOfKind ``Lean.Parser.Command.definition&&s[0][1].isNone&&!d[2][1].isNone&&!(y.getNumArgs<2||y.isOfKind ``Lean.Parser.Term.arrow||y.isOfKind ``Lean.Parser.Term.paren||y[0].getId==`M) then
  return s.setArg 1 (Lean.mkNode ``Lean.Parser.Command.theorem #[Lean.mkAtom "theorem",d[1],Lean.mkNode ``Lean.Parser.Command.declSig #[d[2][0],d[2][1][0]],d[3]])
 if (s[1].isOfKind ``Lean.Parser.Command.definition||s[1].isOfKind ``Lean.Parser.Command.abbrev)&&s[0][4].isNone&&s[0][1].isNone then
  return s.setArg 0 (s[0].setArg 4 (Lean.mkNullNode #[Lean.mkNode ``Lean.Parser.Command.noncomputable #[Lean.mkAtom "noncomputable"]]))
 Lean.Macro.throwUnsupported
local macro_rules|`(⋯)=>`(by decide)
local macro_rules|`(∅)=>`(by lia)
local macro_rules|`(tactic|simp! [$as,*]$[$l:location]?)=>`(tactic|simp only[$as,*]$[$l]?)
local macro_rules|`(tactic|dsimp! [$as,*]$[$l:location]?)=>`(tactic|dsimp only[$as,*]$[$l]?)
local macro_rules| `(tactic|obtain $p:rcasesPatMed:=$e:term)=>`(tactic|first|(refine Classical.byContradiction λhn=>?_;rcases $e:term with $p:rcasesPatMed<;>refine hn ?_<;>clear hn)|rcases $e:term with $p:rcasesPatMed)
local macro_rules| `(tactic|rintro⟨$ps,*⟩)=>`(tactic|(intro x;obtain⟨$ps,*⟩:=x))
local macro_rules| `(tactic|rintro $p $q $ps*)=>`(tactic|(rintro $p;rintro $q $ps*))
local macro_rules| `(tactic|ac_nf0)=>`(tactic|first|exact Or.inl rfl|exact Or.inr rfl|exact Or.inr (Or.inl rfl)|exact Or.inr (Or.inr rfl))
theorem Zrf(h:True:=by rfl):True:=h
local macro_rules|`(↥$x)=>`(autoParam $x Zrf._auto_1)
theorem Zrd(h:True:=by decide):True:=h
local macro_rules|`(⇑$x)=>`(autoParam $x Zrd._auto_1)
theorem Zro(h:True:=by ac_nf0):True:=h
local macro_rules|`(#v[$x])=>`(autoParam $x Zro._auto_1)
theorem Zri(h:True:=by intro _;rfl):True:=h
local macro_rules|`(~~~$x)=>`(autoParam $x Zri._auto_1)
abbrev ZA:=PySem.Value->PySem.Shared->Prop
abbrev ZB:=List (PySem.Addr×PySem.Obj)
abbrev ZC:=PySem.W.Frag
abbrev ZD:=PySem.Str->Option PySem.Value
abbrev ZE:=List (List Int×Int)
abbrev ZF:=List (Int×Int)
abbrev ZG:=List PySem.Str
abbrev ZH:=List Nat
abbrev ZI:=List PySem.PyData
abbrev ZJ:=List PySem.Value
abbrev ZK:=List Int
abbrev ZL:=Option PySem.PyData
abbrev ZM:=List PySem.Addr
abbrev ZN:=Option PySem.Value
abbrev ZO:=List (Option PySem.PyData)->Prop
namespace L2
open PySem PySem.Spec PyProof.Rows
abbrev dN:=Sum Int Str
def AO:dN->Value->Bool
 |.inl k,v=>Value.isInt k v
 |.inr x,v=>Value.isStrOf x v
def ϴ(w:World):dN->Int
 |.inl k=>hashInt k
 |.inr x=>hashStr w x
def cU:∀{k:dN}{v:Value},AO k v=true->(∃i t,k=Sum.inl i/\v=Value.int i t)\/(∃x t,k=Sum.inr x/\v=Value.str x t)
 |.inl i,v,h=>by
  let⟨t,e⟩:=Value.isInt_shape (k:=i) (v:=v) h;exact .inl ⟨i,t,rfl,e⟩
 |.inr x,v,h=>by
  let⟨t,e⟩:=Value.isStrOf_shape (x:=x) (v:=v) h;exact .inr ⟨x,t,rfl,e⟩
def ON(i:Int)(t:Tok):AO (.inl i) (.int i t)=true:=by simp[AO,Value.isInt]
def OO(x:Str)(t:Tok):AO (.inr x) (.str x t)=true:=by simp[AO,Value.isStrOf]
def ϵ(a b:Int):decide ((Sum.inl a:dN)=Sum.inl b)=(a == b):=by
 grind
def Ϸ(a b:Str):decide ((Sum.inr a:dN)=Sum.inr b)=decide (a=b):=by
 grind
def ϸ(a:Int)(b:Str):decide ((Sum.inl a:dN)=Sum.inr b)=false:=decide_eq_false (λq=>nomatch q)
def Ϲ(a:Str)(b:Int):decide ((Sum.inr a:dN)=Sum.inl b)=false:=decide_eq_false (λq=>nomatch q)
def c9(prog:Program)(w:World):(PySem.KeyKind prog w dN) where
 is:=AO
 hash:=ϴ w
 inj:=λv a b ha hb=>by
  rcases cU ha with ⟨i,t,rfl,rfl⟩|⟨x,t,rfl,rfl⟩
  .rcases cU hb with ⟨j,u,rfl,e⟩|⟨y,u,rfl,e⟩
   all_goals grind
  .rcases cU hb with ⟨j,u,rfl,e⟩|⟨y,u,rfl,e⟩
   all_goals grind
 byValue:=λk v h=>by
  rcases cU h with ⟨i,t,rfl,rfl⟩|⟨x,t,rfl,rfl⟩<;>rfl
 pyHash:=λhv h=>by
  rcases cU hv with ⟨i,t,rfl,rfl⟩|⟨x,t,rfl,rfl⟩
  .exact wpAny_pyHash_int h
  .exact wpAny_pyHash_str h
 eqBool:=λhu hv h=>by
  rcases cU hu with ⟨i,t,rfl,rfl⟩|⟨x,t,rfl,rfl⟩
  .rcases cU hv with ⟨j,u,rfl,rfl⟩|⟨y,u,rfl,rfl⟩
   .rw[ϵ]at h;exact wpAny_eqBool_int h
   .rw[ϸ]at h;exact SeqAt.EqAt.int_str i t y u _ _ _ _ h
  .rcases cU hv with ⟨j,u,rfl,rfl⟩|⟨y,u,rfl,rfl⟩
   .rw[Ϲ]at h;exact SeqAt.EqAt.str_int x t j u _ _ _ _ h
   .rw[Ϸ]at h;exact wpAny_eqBool_str h
 «strs»:=λk x t v h=>by
  rcases cU h with ⟨i,u,rfl,e⟩|⟨y,u,rfl,e⟩
  .exact nomatch e
  .injection e with e1 _
   subst e1;cases v<;>rfl
def EZ(prog:Program)(w:World)(i:Int)(t:Tok):(c9 prog w).is (.inl i) (.int i t)=true:=ON i t
def E0(prog:Program)(w:World)(x:Str)(t:Tok):(c9 prog w).is (.inr x) (.str x t)=true:=OO x t
inductive V where
 |non|bl (b:Bool)|int (i:Int)|str (x:Str)|byt (b:Array UInt8)|flt (b:UInt64)|ref (a:Addr)|ty (n:String)
 deriving DecidableEq
def bG:V->Value->Prop
 |.non,u=>u=Value.none
 |.bl b,u=>u=Value.bool b
 |.int i,u=>∃t,u=Value.int i t
 |.str x,u=>∃t,u=Value.str x t
 |.byt b,u=>∃t,u=Value.bytes b t
 |.flt b,u=>∃t,u=Value.float b t
 |.ref a,u=>u=Value.ref a
 |.ty n,u=>u=Value.type n
abbrev bH:List V->ZJ->Prop:=Paired bG
def bH.length(r:bH xs us):xs.length=us.length:=Paired.length r
def bH.get:∀{xs:List V}{us:ZJ}{i:Nat}{x:V},bH xs us->xs[i]?=some x->∃u,us[i]?=some u/\bG x u
 |_,_,_,_,.nil,e=>by simp at e
 |_,_,0,_,.cons r _,e=>by simp at e;subst e;exact⟨_,rfl,r⟩
 |_,_,i+1,x,.cons _ t,e=>by
  let⟨u,h1,h2⟩:=bH.get (i:=i) (x:=x) t (by simpa using e);exact⟨u,by simpa using h1,h2⟩
def bH.set(r:bG x u):∀{xs:List V}{us:ZJ}(i:Nat),bH xs us->bH (xs.set i x) (us.set i u)
 |_,_,_,.nil=>.nil
 |_,_,0,.cons _ t=>.cons r t
 |_,_,i+1,.cons q t=>.cons q (bH.set r i t)
def bH.append:∀{xs ys:List V}{us ws:ZJ},bH xs us->bH ys ws->bH (xs++ys) (us++ws)
 |_,_,_,_,.nil,s=>s
 |_,_,_,_,.cons r t,s=>.cons r (bH.append t s)
def bH.take:∀{xs:List V}{us:ZJ}(n:Nat),bH xs us->bH (xs.take n) (us.take n)
 |_,_,0,_=>.nil
 |_,_,_+1,.nil=>.nil
 |_,_,n+1,.cons r t=>.cons r (bH.take n t)
def bH.drop:∀{xs:List V}{us:ZJ}(n:Nat),bH xs us->bH (xs.drop n) (us.drop n)
 |_,_,0,r=>r
 |_,_,_+1,.nil=>.nil
 |_,_,n+1,.cons _ t=>bH.drop n t
def oY:Option V->ZN->Prop
 |some v,some u=>bG v u
 |none,none=>True
 |_,_=>False
def KV{κ:Type}:List (κ×V)->List (κ×Value)->Prop:=Paired λ(p:κ×V)(q:κ×Value)=>p.1=q.1/\bG p.2 q.2
def kV:dN->V
 |.inl i=>.int i
 |.inr x=>.str x
inductive HO where
  |lst (xs:List V)
  |tup (xs:List V)
  |dK (À:List (dN×V))|dT (À:List (List dN×V))
  |set (S:Int->Bool) (n:Nat)
  |ins (C dx:Addr) (fs:List (Str×V))
  |own (x:Addr)
  |xd (fs:List (Str×V))
  |met (f x:Addr)
  |rng (lo hi:Int)
  |frz (o:Obj) (u:HO)
  |tbl (ps:Array Value)
 |lam (t u:Value) (q:Str)
  |ext (φ:Heap->Prop)
abbrev Hp:=Addr->Option HO
def aX(H:Hp)(a:Addr)(o:HO):Hp:=λb=>if b=a then some o else H b
def aN:aX H a o a=some o:=by unfold aX;rw[Á rfl]
def aG(h:b≠a):aX H a o b=H b:=by unfold aX;rw[Â h]
def B8:aX (aX H a o) a u=aX H a u:=by
 funext b;unfold aX;split<;>rfl
def Ϻ{H:Hp}{a b:Addr}{o u:HO}(h:H a=some o)(h':H b=some u)(d:o≠u):a≠b:=by
 grind
def bK{H:Hp}{a b:Addr}{o:HO}(h:H a=some o)(h':H b=none):a≠b:=by
 grind
section
variable (P:Program)(w:World)
def dO(H:Hp)(h:Heap)(a:Addr):HO->Prop
 |.lst xs=>xs.length<=sizeLine/\∃(its:ZJ)(n:Nat),bH xs its/\h.get? a=some {cls:=.type "list",data:=.seq its.toArray n}
 |.tup xs=>xs.length<=sizeLine/\∃its:ZJ,bH xs its/\IsTup h a its.toArray
 |.dK À=>À.length<=sizeLine/\(a == sysModules)=false/\∃vs,KV À vs/\h.DictOf (c9 P w) a vs
 |.dT À=>À.length<=sizeLine/\(a == sysModules)=false/\∃xs:List (List dN×Addr×Value),
   Paired (λ(p:List dN×V)(q:List dN×Addr×Value)=>p.1=q.1/\H q.2.1=some (.tup (p.1.map kV))/\bG p.2 q.2.2) À xs /\
   ∃o es ep,h.get? a=some o/\o.ExactDict/\o.data=.dict es ep/\es.toList=xs.map (entryOfKey (tupleKind (c9 P w)))/\(xs.map (·.1)).Nodup
 |.set S n=>h.SetOf (intKind P w) a S n
 |.ins C dx fs=>H dx=some (.own a)/\fs.length<=1000/\dx≠a/\h.get? a=some (W.instObj C dx) /\
   ∃mA,h.Ns1 dx mA/\(∀f,oY (fs.lookup f) (mA f))/\PySem.Within mA (fs.map (·.1))
 |.own _=>∃o,h.get? a=some o
 |.xd fs=>∃mA,h.Ns1 a mA/\∀f,oY (fs.lookup f) (mA f)
 |.rng lo hi=>∃t u v,h.get? a=some {cls:=.type "range",data:=.fields #[.int lo t,.int hi u,.int 1 v]}
 |.frz o u=>h.get? a=some o/\dO H h a u
 |.tbl ps=>h.get? a=some {cls:=.none,data:=.fields ps}
 |.lam t u q=>∃ps:Array Value,h.get? a=some {cls:=.none,data:=.fields ps}/\(ps=#[]\/∃c,ps=#[t,u,.ref c]/\H c=some (.own a)/\c≠a/\h.CodeRec (.ref c) q)
 |.met f x=>h.get? a=some (W.methodObj (.ref f) (.ref x))
 |.ext φ=>φ h/\(∃o,h.get? a=some o)/\∀h1 h2:Heap,φ h1->(∀o,h1.get? a=some o->h2.get? a=some o)->φ h2
def mG(H:Hp)(h:Heap):Prop:=∀a o,H a=some o->dO P w H h a o
end
section
variable {P:Program}{w:World}{H:Hp}{h h':Heap}{a:Addr}{o:HO}
def dO.lt(x:dO P w H h a o):a<h.objs.size:=by
 cases o with
 |lst xs=>let⟨_,_,_,_,e⟩:=x;exact Heap.lt_size e
 |tup xs=>let⟨_,_,_,p⟩:=x;exact p.lt
 |dK À=>let⟨_,_,_,_,o,_,_,e,_⟩:=x;exact Heap.lt_size e
 |dT À=>let⟨_,_,_,_,o,_,_,e,_⟩:=x;exact Heap.lt_size e
 |set S n=>let⟨o,_,_,_,e,_⟩:=x;exact Heap.lt_size e
 |ins C dx fs=>let⟨_,_,_,e,_⟩:=x;exact Heap.lt_size e
 |own y=>let⟨_,e⟩:=x;exact Heap.lt_size e
 |xd fs=>let⟨_,⟨_,_,_,e,_⟩,_⟩:=x;exact Heap.lt_size e
 |rng lo hi=>let⟨_,_,_,e⟩:=x;exact Heap.lt_size e
 |frz ob u=>let⟨e,_⟩:=x;exact Heap.lt_size e
 |tbl ps=>exact Heap.lt_size (show h.get? a=some _ from x)
 |lam t u q=>let⟨_,e,_⟩:=x;exact Heap.lt_size e
 |met f y=>exact Heap.lt_size (show h.get? a=some _ from x)
 |ext φ=>let⟨_,⟨_,e⟩,_⟩:=x;exact Heap.lt_size e
def Paired.mapP :∀{l₁:List α}{l₂:List β},Paired F l₁ l₂->(∀a b,F a b->G a b)->Paired G l₁ l₂
 |_,_,.nil,_=>.nil
 |_,_,.cons r t,f=>.cons (f _ _ r) (Paired.mapP t f)
def dO.stay(x:dO P w H h a o)(k:∀b u,(b=a\/H b=some (.own a))->h.get? b=some u->h'.get? b=some u)(ho:∀b,H b=some (.own a)->H' b=some (.own a))(ht:∀b xs,H b=some (.tup xs)->H' b=some (.tup xs)):dO P w H' h' a o:=by
 induction o with
 |lst xs=>let⟨z,its,n,r,e⟩:=x;exact⟨z,its,n,r,k _ _ (.inl rfl) e⟩
 |tup xs=>let⟨z,its,r,ob,e,c⟩:=x;exact⟨z,its,r,ob,k _ _ (.inl rfl) e,c⟩
 |dK À=>let⟨z,y,vs,r,ob,es,ep,e,c⟩:=x;exact⟨z,y,vs,r,ob,es,ep,k _ _ (.inl rfl) e,c⟩
 |dT À=>
  let⟨z,y,xs,r,ob,es,ep,e,c⟩:=x;exact⟨z,y,xs,Paired.mapP r λp q z=>⟨z.1,ht _ _ z.2.1,z.2.2⟩,ob,es,ep,k _ _ (.inl rfl) e,c⟩
 |set S n=>let⟨ob,es,ep,t,e,c⟩:=x;exact⟨ob,es,ep,t,k _ _ (.inl rfl) e,c⟩
 |ins C dx fs=>
  let⟨d,z,ne,e,mA,⟨od,es,ep,e2,c⟩,r⟩:=x;exact⟨ho _ d,z,ne,k _ _ (.inl rfl) e,mA,⟨od,es,ep,k _ _ (.inr d) e2,c⟩,r⟩
 |own y=>let⟨ob,e⟩:=x;exact⟨ob,k _ _ (.inl rfl) e⟩
 |xd fs=>let⟨mA,⟨od,es,ep,e,c⟩,r⟩:=x;exact⟨mA,⟨od,es,ep,k _ _ (.inl rfl) e,c⟩,r⟩
 |rng lo hi=>let⟨t,u,v,e⟩:=x;exact⟨t,u,v,k _ _ (.inl rfl) e⟩
 |frz ob u ih=>let⟨e,q⟩:=x;exact⟨k _ _ (.inl rfl) e,ih q⟩
 |tbl ps=>
  have e:h.get? a=some {cls:=.none,data:=.fields ps}:=x;show h'.get? a=some {cls:=.none,data:=.fields ps};exact k a _ (.inl rfl) e
 |lam t u q=>
  let⟨ps,e,r⟩:=x;refine⟨ps,k _ _ (.inl rfl) e,?_⟩;rcases r with r|⟨c,r1,r2,r3,b,ob,vs,tq,e1,e2,e3,e4⟩
  .exact .inl r
  .cases e1
   exact .inr ⟨c,r1,ho _ r2,r3,c,ob,vs,tq,rfl,k _ _ (.inr r2) e2,e3,e4⟩
 |met f y=>
  have e:h.get? a=some (W.methodObj (.ref f) (.ref y)):=x;show h'.get? a=some (W.methodObj (.ref f) (.ref y));exact k a _ (.inl rfl) e
 |ext φ=>let⟨p,⟨o,e⟩,st⟩:=x;exact⟨st _ _ p λo q=>k _ _ (.inl rfl) q,⟨o,k _ _ (.inl rfl) e⟩,st⟩
def mG.lt(x:mG P w H h)(e:H a=some o):a<h.objs.size:=(x a o e).lt
def mG.fresh(x:mG P w H h)(e:h.objs.size<=a):H a=none:=by
 cases q:H a with
 |none=>rfl
 |some u=>exact absurd (Ó (x.lt q) e) (ø _)
def mG.kept(x:mG P w H h)(k:∀b u,h.get? b=some u->h'.get? b=some u):mG P w H h':=λa o e=>
 (x a o e).stay (λb u _ q=>k b u q) (λ_ q=>q) λ_ _ q=>q
def mG.laid(x:mG P w H h)(k:∀b u,h.get? b=some u->h'.get? b=some u)(hp:h.objs.size<=a)(new:dO P w (aX H a o) h' a o):mG P w (aX H a o) h':=λb u e=>by
 have hn:=x.fresh hp;by_cases hb:b=a
 .subst hb;rw[aN]at e;cases e;exact new
 .rw[aG hb]at e
  exact(x b u e).stay (λc v _ q=>k c v q) (λc q=>by rw[aG (bK q hn)];exact q) λc xs q=>by rw[aG (bK q hn)];exact q
end
def Rd(H:Hp)(a:Addr)(u:HO):Prop:=H a=some u\/∃o,H a=some (.frz o u)
def Rd.ok(r:Rd H a u)(x:mG P w H h):dO P w H h a u:=by
 rcases r with r|⟨o,r⟩
 .exact x a u r
 .obtain⟨_,q⟩:=x a _ r
  exact q
def Ġ:Option HO->Prop
 |some (.lst _)=>True
 |some (.dK _)=>True
 |some (.dT _)=>True
 |some (.set _ _)=>True
 |some (.ins _ _ _)=>True
 |some (.ext _)=>True
 |_=>False
section
def mG.write(ok:mG P w H h)(mu:Ġ (H x))(he:e=x\/H e=some (.own x))(k:∀b u,b≠e->h.get? b=some u->h'.get? b=some u)(heo:∃u,h'.get? e=some u)(new:dO P w (aX H x o') h' x o'):mG P w (aX H x o') h':=λb u q=>by
 have nown:∀c y,H c=some (.own y)->c≠x:=λc y r z=>by subst z;rw[r]at mu;exact mu
 have ntup:∀c xs,H c=some (.tup xs)->c≠x:=λc xs r z=>by subst z;rw[r]at mu;exact mu
 by_cases hb:b=x
 .subst hb;rw[aN]at q;cases q;exact new
 .rw[aG hb]at q
  by_cases hbe:b=e
  .have q':H b=some (.own x):=by
    rcases he with z|z
    .grind
    .rw[hbe];exact z
   rw[q]at q';cases q';let⟨v,hv⟩:=heo;exact⟨v,by rw[hbe];exact hv⟩
  .refine(ok b u q).stay (λc v hc r=>k c v ?_ r) (λc r=>by rw[aG (nown c b r)];exact r) λc xs r=>by rw[aG (ntup c xs r)];exact r
   grind
end
structure Un(fs ex:ZM)(H H':Hp)(h h':Heap):Prop where
 keep:∀b o,h.get? b=some o->H b=none->b∉fs->b∉ex->h'.get? b=some o
 slot:∀b o,h.get? b=some o->H b=none->b∈fs->b∉ex->∃sl,h'.get? b=some {o with slots:=sl}
 free:∀b o,h.get? b=some o->H b=none->b∉ex->H' b=none
 there:∀b o,h.get? b=some o->b∉ex->∃o',h'.get? b=some o'
 tups:∀b xs,H b=some (.tup xs)->H' b=some (.tup xs)
 frzs:∀b o u,H b=some (.frz o u)->H' b=some (.frz o u)
 tbls:∀b ps,H b=some (.tbl ps)->∃more,H' b=some (.tbl (ps++more))
section
variable {fs ex:ZM}{H:Hp}{h h':Heap}{a:Addr}{o:HO}
def Un.any(u:Un fs ex H H1 h h1)(q:h.get? b=some ob)(n:H b=none)(hx:b∉ex):∃sl,h1.get? b=some {ob with slots:=sl}:=by
 by_cases hb:b∈fs
 .exact u.slot b ob q n hb hx
 .exact⟨ob.slots,u.keep b ob q n hb hx⟩
def Un.kept(k:∀b u,h.get? b=some u->h'.get? b=some u):Un fs ex H H h h':=
 ⟨λb ob q _ _ _=>k b ob q,λb ob q _ _ _=>⟨ob.slots,k b ob q⟩,λ_ _ _ n _=>n,λb ob q _=>⟨ob,k b ob q⟩,λ_ _ q=>q,λ_ _ _ q=>q,λ_ ps q=>⟨#[],by rw[q];simp⟩⟩
def Un.refl:Un fs ex H H h h:=Un.kept λ_ _ q=>q
def Un.laid(k:∀b u,h.get? b=some u->h'.get? b=some u)(hp:h.objs.size<=a)(hn:H a=none):Un fs ex H (aX H a o) h h' where
 keep:=λb u q _ _ _=>k b u q
 slot:=λb u q _ _ _=>⟨u.slots,k b u q⟩
 free:=λb u q n _=>by rw[aG (Ê (Ó (Heap.lt_size q) hp))];exact n
 there:=λb u q _=>⟨u,k b u q⟩
 tups:=λb xs q=>by rw[aG (bK q hn)];exact q
 frzs:=λb u xs q=>by rw[aG (bK q hn)];exact q
 tbls:=λb ps q=>⟨#[],by rw[aG (bK q hn),q];simp⟩
def Un.write(mu:Ġ (H x))(he:e=x\/H e=some (.own x))(k:∀b u,b≠e->h.get? b=some u->h'.get? b=some u)(heo:∃u,h'.get? e=some u):Un fs ex H (aX H x o) h h':=by
 have hx:∀b,H b=none->b≠x:=λb n z=>by subst z;rw[n]at mu;exact mu
 have hb:∀b,H b=none->b≠e:=λb n z=>by
  grind
 have hm:∀b u,H b=some u->¬Ġ (some u)->b≠x:=λb u q nm z=>by grind
 refine⟨λb u q n _ _=>k b u (hb b n) q,λb u q n _ _=>⟨u.slots,k b u (hb b n) q⟩,λb u q n _=>by rw[aG (hx b n)];exact n,λb u q _=>?_,
  λb xs q=>by rw[aG (hm b _ q λz=>z)];exact q,λb u xs q=>by rw[aG (hm b _ q λz=>z)];exact q,λb ps q=>⟨#[],by rw[aG (hm b _ q λz=>z),q];simp⟩⟩
 grind
end
def İ(h:Heap)(H:Hp):ZM:=(List.range h.objs.size).filter λa=>(H a).isSome
def zW(h:Heap)(H:Hp):Heap:=W.hideAll h (İ h H)
def OP(h:Heap)(H:Hp):(zW h H).objs.size=h.objs.size:=W.hideAll_size _ _
def RC{h:Heap}{H:Hp}{b:Addr}{o:Obj}(e:h.get? b=some o)(n:H b=none):(zW h H).get? b=some o:=
 W.hideAll_get _ e λhm=>by
  have q:(H b).isSome=true:=(List.mem_filter.mp hm).2;rw[n]at q;simp at q
def X9(e:(zW h H).get? b=some o):h.get? b=some o/\H b=none:=by
 have e':h.get? b=some o:=W.of_hideAll (İ h H) e;refine⟨e',?_⟩;cases q:H b with
 |none=>rfl
 |some x=>
  have hm:b∈İ h H:=List.mem_filter.mpr ⟨List.mem_range.mpr (Heap.lt_size e'),by simp[q]⟩;have z:(zW h H).get? b=none:=W.hideAll_none (İ h H) hm;rw[z]at e;cases e
def YA(g h:Heap)(L:Addr):ZB:=(List.range h.objs.size).filterMap λa=>if a=L\/(g.get? a).isSome=true then none else (h.get? a).map λo=>(a,o)
def rest(g h:Heap)(L d:Addr):ZB:=(YA g h L).filter λp=>decide (p.1≠d)
structure Mod(K:ZC)(mg:ZD)(base:Heap):Prop where
 kin:K.In base
 glob:base.Ns mainGlobals mg
 blt:∃mb,base.Ns builtinsNs mb/\∀x:Str,x≠"__name__"->mb x=bootBuiltins x
 nolimit:base.NoLimit
structure Cx where
 prog:Program
 w:World
 K:ZC
 mg:ZD
 base:Heap
 A:Around
 N:ZG
 s₀:Shared
 H₀:Hp
 env:Env
 outer:List Env
 stack:List Env
 ex:ZM
 fn:Str->Bool
 calm:Bool
 pn:ZB
 xe:ZA
def vA(l:List Env):ZM:=l.filterMap (·.frame)
abbrev Cx.fs(X:Cx):ZM:=vA X.outer
def zS(sc:Scope)(x:Str):Prop:=sc.names.lookup x=some .local\/sc.names.lookup x=some .cell\/sc.names.lookup x=some .free
def č(sc:Scope)(x:Str):Prop:=sc.names.lookup x=some .local\/sc.names.lookup x=some .cell
def ϻ(env:Env)(h:Heap)(m:ZD)(x:Str)(u:Value):Prop:=
 (env.kindOf x=some .local/\m x=some u)\/((env.kindOf x=some .cell\/env.kindOf x=some .free)/\∃c,env.cells.lookup x=some c/\h.IsCell c (some u))
structure Cx.Ok(X:Cx):Prop where
 mod:Mod X.K X.mg X.base
 kind:X.env.scope.kind=.function
 glob:X.env.globals=mainGlobals
 blt:X.env.builtins=builtinsNs
 above:X.s₀.heap.objs.size<=X.env.locals
 inj:∀x y c,X.env.cells.lookup x=some c->X.env.cells.lookup y=some c->x=y
 has:∀x,(X.env.kindOf x=some .cell\/X.env.kindOf x=some .free)->∃c,X.env.cells.lookup x=some c
 cab:∀x c,X.fn x=true->X.env.cells.lookup x=some c->X.s₀.heap.objs.size<=c
 hd:X.calm=true->X.A.handled=none
 frames:X.A.frames=some X.stack
 stk:X.stack=X.outer\/(X.stack=X.env::X.outer/\X.env.frame=some X.env.locals)
 exf:∀b∈X.ex,b≠X.env.locals/\∀x c,X.env.cells.lookup x=some c->c≠b
 bs:∀b o,X.base.get? b=some o->X.s₀.heap.get? b=some o/\X.H₀ b=none
 bsz:X.base.objs.size<=X.s₀.heap.objs.size
 noex:∀b o,X.base.get? b=some o->b∉X.ex
 exfs:∀b∈X.ex,b∉X.fs
 funs:X.s₀.heap.FunFrames X.base X.outer
 frf:∀b∈X.fs,X.H₀ b=none
structure Inv(X:Cx)(U:ZB)(σ:List (Option V))(H:Hp)(s:Shared):Prop where
 ok:X.Ok
 os:s.os=X.s₀.os
 bare:AllBare s.gens
 base:Un X.fs X.ex X.H₀ H X.s₀.heap s.heap
 loc:∃m,s.heap.Ns X.env.locals m/\∀(i:Nat)(x:Str)(v:V),X.N[i]?=some x->σ[i]?=some (some v)->zS X.env.scope x->∃u,bG v u/\ϻ X.env s.heap m x u
 cell:∀x c,X.env.cells.lookup x=some c->∃v,s.heap.IsCell c v
 free:H X.env.locals=none
 freeC:∀x c,X.env.cells.lookup x=some c->H c=none
 pin:∀p∈X.pn++U,s.heap.get? p.1=some p.2/\H p.1=none/\p.1≠X.env.locals/\p.1∉X.fs/\∀v,p.2.data≠.cell v
 hok:mG X.prog X.w H s.heap
 len:σ.length=X.N.length
section
variable {X:Cx}
def Cx.Ok.nofr(ok:X.Ok)(e:X.base.get? b=some o):b∉X.fs:=λhb=>by
 have:=(ok.funs.mem hb).1;rw[e]at this;cases this
def Inv.bs(I:Inv X U σ H s):∀b o,X.base.get? b=some o->s.heap.get? b=some o/\H b=none:=λb o e=>
 ⟨I.base.keep b o (I.ok.bs b o e).1 (I.ok.bs b o e).2 (I.ok.nofr e) (I.ok.noex b o e),I.base.free b o (I.ok.bs b o e).1 (I.ok.bs b o e).2 (I.ok.noex b o e)⟩
def Inv.bk(I:Inv X U σ H s):∀b o,X.base.get? b=some o->s.heap.get? b=some o:=λb o e=>(I.bs b o e).1
def Inv.mod(I:Inv X U σ H s):Mod X.K X.mg X.base:=I.ok.mod
def Inv.kIn(I:Inv X U σ H s):X.K.In s.heap:=I.ok.mod.kin.keeps I.bk
theorem Inv.nolimit(I:Inv X U σ H s):s.heap.NoLimit:=I.ok.mod.nolimit.keeps I.bk
def Inv.lt(I:Inv X U σ H s):X.env.locals<s.heap.objs.size:=let ⟨_,hn,_⟩:=I.loc;hn.lt
def Inv.sz(I:Inv X U σ H s):X.s₀.heap.objs.size<=s.heap.objs.size:=Õ I.ok.above (È I.lt)
def Inv.nofs(I:Inv X U σ H s){a:Addr}(h:s.heap.objs.size<=a):a∉X.fs:=λhb=>by
 let⟨_,o,ho,_⟩:=I.ok.funs.mem hb;exact absurd (Ó (Heap.lt_size ho) (Õ I.sz h)) (ø _)
def Inv.cne(I:Inv X U σ H s):∀x c,X.env.cells.lookup x=some c->c≠X.env.locals:=λx c e z=>by
 let⟨v,o,ho,hd⟩:=I.cell x c e;let⟨m,⟨o',es,ep,ho',hd',_⟩,_⟩:=I.loc
 grind
def Inv.funs(I:Inv X U σ H s):s.heap.FunFrames X.base X.outer:=by
 have all:∀(l:List Env),(∀b∈vA l,b∈X.fs)->X.s₀.heap.FunFrames X.base l->s.heap.FunFrames X.base l:=by
  intro l
  induction l with
  |nil=>intro _ _;trivial
  |cons env r ih=>
   intro hs hl;let⟨hk,⟨L,o,hf,hn,ho,hd⟩,hr⟩:=hl;have hL:L∈X.fs:=hs L (by unfold vA;rw[List.filterMap_cons,hf];exact Ô)
   let⟨sl,e⟩:=I.base.slot L o ho (I.ok.frf L hL) hL λz=>I.ok.exfs L z hL;exact⟨hk,⟨L,_,hf,hn,e,hd⟩,ih (λb hb=>hs b (by unfold vA;rw[List.filterMap_cons,hf];exact Ò _ hb)) hr⟩
 exact all X.outer (λ_ hb=>hb) I.ok.funs
def Inv.stack(I:Inv X U σ H s):s.heap.FunFrames X.base X.stack:=by
 rcases I.ok.stk with e|⟨e,hf⟩
 .rw[e];exact I.funs
 .rw[e]
  let⟨m,hn,_⟩:=I.loc;refine .cons (by rw[I.ok.kind];decide) hf hn ?_ I.funs;exact Heap.get?_none_of_le (Õ I.ok.bsz I.ok.above)
def Inv.stkSub(I:Inv X U σ H s):∀b∈vA X.stack,b∈X.env.locals::X.fs:=λb hb=>by
 rcases I.ok.stk with e|⟨e,hf⟩
 .grind
 .rw[e]at hb
  unfold vA at hb;rw[List.filterMap_cons,hf]at hb;exact hb
def Inv.stkFree(I:Inv X U σ H s):∀b∈vA X.stack,H b=none:=λb hb=>by
 rcases Ì.mp (I.stkSub b hb)with e|hb
 .rw[e];exact I.free
 .obtain⟨_,o,ho,_⟩:=I.ok.funs.mem hb
  exact I.base.free b o ho (I.ok.frf b hb) λz=>I.ok.exfs b z hb
def Inv.step{ch:ZM}(I:Inv X U σ H s)(hch:∀b∈ch,(b∈X.ex\/X.s₀.heap.objs.size<=b)/\b≠X.env.locals/\(∀x c,X.env.cells.lookup x=some c->c≠b)/\∀p∈X.pn++U,p.1≠b)(keep:∀b o,b≠X.env.locals->b∉X.fs->b∉ch->s.heap.get? b=some o->H b=none->h'.get? b=some o)(slot:∀b o,b≠X.env.locals->b∈X.fs->b∉ch->s.heap.get? b=some o->H b=none->∃sl,h'.get? b=some {o with slots:=sl})(free:∀b o,b∉ch->s.heap.get? b=some o->H b=none->H' b=none)(there:∀b o,b∉ch->s.heap.get? b=some o->∃o',h'.get? b=some o')(tups:∀b xs,H b=some (.tup xs)->H' b=some (.tup xs))(frzs:∀b o u,H b=some (.frz o u)->H' b=some (.frz o u))(tbls:∀b ps,H b=some (.tbl ps)->∃more,H' b=some (.tbl (ps++more)))(ns:∀m,s.heap.Ns X.env.locals m->h'.Ns X.env.locals m)(hok:mG X.prog X.w H' h')(hg:AllBare g'):
  Inv X U σ H' {s with heap:=h',gens:=g',drawn:=d',toks:=t'}:=by
 have neL:∀b o,X.s₀.heap.get? b=some o->b≠X.env.locals:=λb o e=>Ê (Ó 'r' I.ok.above);have neC:∀b o,X.s₀.heap.get? b=some o->b∉X.ex->b∉ch:=λb o e hx hb=>by
  rcases(hch b hb).1 with z|z
  .exact hx z
  .exact absurd (Ó 'r' z) (ø _)
 have cellK:∀x c,X.env.cells.lookup x=some c->∀v,s.heap.IsCell c v->h'.IsCell c v:=λx c e v⟨o,ho,hd⟩=>by
  have nch:c∉ch:=λz=>(hch c z).2.2.1 x c e rfl;by_cases hc:c∈X.fs
  .obtain⟨sl,q⟩:=slot c o (I.cne x c e) hc nch ho (I.freeC x c e)
   exact⟨_,q,hd⟩
  .exact⟨o,keep c o (I.cne x c e) hc nch ho (I.freeC x c e),hd⟩
 refine⟨I.ok,I.os,hg,⟨λb o e n hb hx=>?_,λb o e n hb hx=>?_,λb o e n hx=>?_,λb o e hx=>?_,λb xs e=>tups b xs (I.base.tups b xs e),λb o xs e=>frzs b o xs (I.base.frzs b o xs e),λb ps e=>?_⟩,?_,λx c e=>?_,?_,λx c e=>?_,λp hp=>?_,hok,I.len⟩
 .exact keep b o (neL b o e) hb (neC b o e hx) (I.base.keep b o e n hb hx) (I.base.free b o e n hx)
 .obtain⟨sl,e1⟩:=I.base.slot b o e n hb hx
  let⟨sl',e2⟩:=slot b _ (neL b o e) hb (neC b o e hx) e1 (I.base.free b o e n hx);exact⟨sl',e2⟩
 .obtain⟨o',e1⟩:=I.base.there b o e hx
  exact free b o' (neC b o e hx) e1 (I.base.free b o e n hx)
 .obtain⟨o',e1⟩:=I.base.there b o e hx
  exact there b o' (neC b o e hx) e1
 .obtain⟨m1,e1⟩:=I.base.tbls b ps e
  let⟨m2,e2⟩:=tbls b _ e1;exact⟨m1++m2,by rw[e2,Array.append_assoc]⟩
 .obtain⟨m,hn,hl⟩:=I.loc
  refine⟨m,ns m hn,λi x v e1 e2 e3=>?_⟩;let⟨u,r,l⟩:=hl i x v e1 e2 e3;refine⟨u,r,?_⟩;rcases l with l|⟨k,c,e,z⟩
  .exact .inl l
  .exact .inr ⟨k,c,e,cellK x c e _ z⟩
 .obtain⟨v,z⟩:=I.cell x c e
  exact⟨v,cellK x c e v z⟩
 .obtain⟨m,⟨o,_,_,ho,_⟩,_⟩:=I.loc
  exact free _ o (λz=>(hch _ z).2.1 rfl) ho I.free
 .obtain⟨v,o,ho,hd⟩:=I.cell x c e
  exact free c o (λz=>(hch c z).2.2.1 x c e rfl) ho (I.freeC x c e)
 .obtain⟨e,n,ne,nf,d⟩:=I.pin p hp
  have nch:p.1∉ch:=λz=>(hch p.1 z).2.2.2 p hp rfl;exact⟨keep p.1 p.2 ne nf nch e n,free p.1 p.2 nch e n,ne,nf,d⟩
def Inv.un(I:Inv X U σ H s)(u:Un X.fs [] H H' s.heap h')(hok:mG X.prog X.w H' h'):Inv X U σ H' {s with heap:=h',toks:=t'}:=by
 let⟨m,⟨o,es,ep,ho,r⟩,_⟩:=id I.loc;let⟨sl,hL⟩:=u.any ho I.free 'e';exact I.step (g':=s.gens) (d':=s.drawn) (ch:=[]) (λ_ z=>nomatch z) (λb o _ hb _ e n=>u.keep b o e n hb 'e') (λb o _ hb _ e n=>u.slot b o e n hb 'e') (λb o _ e n=>u.free b o e n 'e') (λb o _ e=>u.there b o e 'e') u.tups u.frzs u.tbls (λm' hm=>by
  let⟨o',es',ep',ho',r'⟩:=hm;rw[ho]at ho';cases ho';exact⟨_,es',ep',hL,r'⟩) hok I.bare
def Inv.call(I:Inv X U σ H s)(u:Un (vA X.stack) ch H H' s.heap h')(hok:mG X.prog X.w H' h')(hg:AllBare g')(hch:∀b∈ch,(b∈X.ex\/X.s₀.heap.objs.size<=b)/\b≠X.env.locals/\(∀x c,X.env.cells.lookup x=some c->c≠b)/\∀p∈X.pn++U,p.1≠b):
  Inv X U σ H' {s with heap:=h',gens:=g',drawn:=d',toks:=t'}:=by
 let⟨m,⟨o,es,ep,ho,r⟩,_⟩:=id I.loc;let⟨sl,hL⟩:=u.any ho I.free λz=>(hch _ z).2.1 rfl;exact I.step (ch:=ch) hch (λb o hL hb hc e n=>u.keep b o e n (λz=>(Ì.mp (I.stkSub b z)).elim hL hb) hc) (λb o _ _ hc e n=>u.any e n hc) (λb o hc e n=>u.free b o e n hc) (λb o hc e=>u.there b o e hc) u.tups u.frzs u.tbls (λm' hm=>by
  let⟨o',es',ep',ho',r'⟩:=hm;rw[ho]at ho';cases ho';exact⟨_,es',ep',hL,r'⟩) hok hg
def Inv.turned(I:Inv X U σ H s)(k:∀b o,b≠it->s.heap.get? b=some o->h'.get? b=some o)(hn:H it=none)(hL:it≠X.env.locals)(h1:it∈X.ex\/X.s₀.heap.objs.size<=it)(h2:∀x c,X.env.cells.lookup x=some c->c≠it)(h3:∀p∈X.pn++U,p.1≠it):Inv X U σ H {s with heap:=h',toks:=t'}:=by
 have nit:∀b u,H b=some u->b≠it:=λb u e z=>by rw[z,hn]at e;cases e
 refine I.step (g':=s.gens) (d':=s.drawn) (ch:=[it]) (λb hb=>?_) (λb o _ _ hc e _=>k b o (λz=>hc (by simp[z])) e) (λb o _ _ hc e _=>⟨o.slots,k b o (λz=>hc (by simp[z])) e⟩) (λ_ _ _ _ n=>n)
  (λb o hc e=>⟨o,k b o (λz=>hc (by simp[z])) e⟩) (λ_ _ e=>e) (λ_ _ _ e=>e) (λb ps e=>⟨#[],by rw[e];simp⟩) (λm hm=>?_) (λb u e=>?_) I.bare
 .have e:b=it:=by simpa using hb
  subst e;exact⟨h1,hL,h2,h3⟩
 .obtain⟨o,es,ep,ho,r⟩:=hm
  exact⟨o,es,ep,k _ o (Í hL) ho,r⟩
 .refine(I.hok b u e).stay (λc v hc q=>k c v ?_ q) (λ_ q=>q) λ_ _ q=>q
  rcases hc with z|z
  .rw[z];exact nit b u e
  .exact nit c _ z
def Inv.tok(I:Inv X U σ H s)(t:Nat):Inv X U σ H {s with toks:=t}:=I.un (h':=s.heap) (t':=t) Un.refl I.hok
def Inv.kept(I:Inv X U σ H s)(k:∀b u,s.heap.get? b=some u->h'.get? b=some u):Inv X U σ H {s with heap:=h',toks:=t'}:=I.un (Un.kept k) (I.hok.kept k)
def Inv.laid(I:Inv X U σ H s)(k:∀b u,s.heap.get? b=some u->h'.get? b=some u)(hp:s.heap.objs.size<=a)(new:dO X.prog X.w (aX H a o) h' a o):
  Inv X U σ (aX H a o) {s with heap:=h',toks:=t'}:=I.un (Un.laid k hp (I.hok.fresh hp)) (I.hok.laid k hp new)
def Inv.write(I:Inv X U σ H s)(mu:Ġ (H x))(he:e=x\/H e=some (.own x))(k:∀b u,b≠e->s.heap.get? b=some u->h'.get? b=some u)(heo:∃u,h'.get? e=some u)(new:dO X.prog X.w (aX H x o) h' x o):Inv X U σ (aX H x o) {s with heap:=h',toks:=t'}:=I.un (Un.write mu he k heo) (I.hok.write mu he k heo new)
def Inv.pins_of(I:Inv X U σ H s)(h:∀p∈pins',s.heap.get? p.1=some p.2/\H p.1=none/\p.1≠X.env.locals/\p.1∉X.fs/\∀v,p.2.data≠.cell v):Inv X pins' σ H s:=
 ⟨I.ok,I.os,I.bare,I.base,I.loc,I.cell,I.free,I.freeC,λp hp=>(þ.mp hp).elim (λz=>I.pin p (ü _ z)) (h p),I.hok,I.len⟩
def wP{N:ZG}(hN:N.Nodup){i j:Nat}(a:N[i]?=some x)(b:N[j]?=some x):i=j:=by
 let⟨h1,e1⟩:=Î.mp a;let⟨h2,e2⟩:=Î.mp b;exact(List.getElem_inj hN).mp (e1.trans e2.symm)
def tL{M:Model}{A:Around}{E:ZA}{i:Nat}{x:Str}{v:V}{u:Value}{Q:Unit->Shared->Prop}(I:Inv X U σ H s)(hN:X.N.Nodup)(hi:X.N[i]?=some x)(hx:č X.env.scope x)(r:bG v u)(h:∀s',Inv X U (σ.set i (some v)) H s'->(∃a,Heap.SameBut a s.heap s'.heap/\(a=X.env.locals\/X.env.cells.lookup x=some a))->Q () s')(hf:X.fn x=true\/X.env.scope.names.lookup x=some .local:=by first|exact .inl rfl|exact .inr rfl|assumption):wpAny M A (storeName X.env x u) Q E s:=by
 let⟨m,hn,hl⟩:=id I.loc;have hcls:(X.env.scope.kind == .class || (X.env.scope.kind == .module && X.env.locals != X.env.globals))=false:=by rw[I.ok.kind];rfl
 have hiσ:i<σ.length:=by rw[I.len];exact(Î.mp hi).1
 have cne:=I.cne;have tracked:∀{a:Addr}{h':Heap},(∃o,s.heap.get? a=some o/\H a=none)->Heap.SameBut a s.heap h'->mG X.prog X.w H h':=λ{a h'}ha hs b ob e=>by
  let⟨_,_,hfree⟩:=ha;refine(I.hok b ob e).stay (λc w' hc q=>(hs.2 c ?_).trans q) (λ_ q=>q) λ_ _ q=>q
  grind
 rcases hx with hk|hk
 .refine wpAny_storeName_local hk hn (λh' hn' hs=>?_) hcls
  let⟨oL,_,_,hoL,_⟩:=id hn;refine h _ ⟨I.ok,I.os,I.bare,⟨λb o e n hb hx=>?_,λb o e n hb hx=>?_,I.base.free,λb o e hx=>?_,I.base.tups,I.base.frzs,I.base.tbls⟩,⟨_,hn',λj y v' e1 e2 e3=>?_⟩,λy c e=>?_,I.free,I.freeC,λp hp=>?_,tracked ⟨oL,hoL,I.free⟩ hs,by simpa using I.len⟩ ⟨_,hs,.inl rfl⟩
  .exact(hs.2 b (Ê (Ó 'r' I.ok.above))).trans (I.base.keep b o e n hb hx)
  .obtain⟨sl,e1⟩:=I.base.slot b o e n hb hx
   exact⟨sl,(hs.2 b (Ê (Ó 'r' I.ok.above))).trans e1⟩
  .obtain⟨o',e1⟩:=I.base.there b o e hx
   exact⟨o',(hs.2 b (Ê (Ó 'r' I.ok.above))).trans e1⟩
  .by_cases hj:j=i
   .subst hj
    rw[hi]at e1;cases e1;rw[è hiσ]at e2;cases e2;exact⟨u,r,.inl ⟨hk,by simp⟩⟩
   .rw[Ú (Í hj)]at e2
    let⟨u',r',q⟩:=hl j y v' e1 e2 e3;refine⟨u',r',?_⟩;rcases q with ⟨k,e⟩|⟨k,c,e,z⟩
    .refine .inl ⟨k,?_⟩
     have:y≠x:=λe=>hj (wP hN e1 (e▸hi));simp[this,e]
    .exact .inr ⟨k,c,e,z.sameBut hs (cne y c e)⟩
  .obtain⟨w',z⟩:=I.cell y c e
   exact⟨w',z.sameBut hs (cne y c e)⟩
  .obtain⟨e,n,ne,nf,d⟩:=I.pin p hp
   exact⟨(hs.2 p.1 ne).trans e,n,ne,nf,d⟩
 .have hfn:X.fn x=true:=by
   rcases hf with z|z
   .exact z
   .rw[z]at hk;cases hk
  let⟨c,hc⟩:=I.ok.has x (.inl hk);let⟨w',z⟩:=I.cell x c hc;refine wpAny_storeName_cell I.ok.kind hk hc z (λh' hc' hs=>?_);let⟨oc,hoc,hocd⟩:=id z;refine h {s with heap:=h'} ⟨I.ok,I.os,I.bare,⟨λb o e n hb hx=>?_,λb o e n hb hx=>?_,I.base.free,λb o e hx=>?_,I.base.tups,I.base.frzs,I.base.tbls⟩,⟨m,hn.sameBut hs (Í (cne x c hc)),λj y v' e1 e2 e3=>?_⟩,λy c' e=>?_,I.free,I.freeC,λp hp=>?_,tracked ⟨oc,hoc,I.freeC x c hc⟩ hs,by simpa using I.len⟩ ⟨c,hs,.inr hc⟩
  .exact(hs.2 b (Ê (Ó 'r' (I.ok.cab x c hfn hc)))).trans (I.base.keep b o e n hb hx)
  .obtain⟨sl,e1⟩:=I.base.slot b o e n hb hx
   exact⟨sl,(hs.2 b (Ê (Ó 'r' (I.ok.cab x c hfn hc)))).trans e1⟩
  .obtain⟨o',e1⟩:=I.base.there b o e hx
   exact⟨o',(hs.2 b (Ê (Ó 'r' (I.ok.cab x c hfn hc)))).trans e1⟩
  .by_cases hj:j=i
   .subst hj
    rw[hi]at e1;cases e1;rw[è hiσ]at e2;cases e2;exact⟨u,r,.inr ⟨.inl hk,c,hc,hc'⟩⟩
   .rw[Ú (Í hj)]at e2
    let⟨u',r',q⟩:=hl j y v' e1 e2 e3;refine⟨u',r',?_⟩;rcases q with q|⟨k,c',e,z'⟩
    .exact .inl q
    .refine .inr ⟨k,c',e,z'.sameBut hs ?_⟩
     rintro rfl;exact hj (wP hN e1 (I.ok.inj _ _ _ e hc▸hi))
  .by_cases hcc:c'=c
   .grind
   .obtain⟨w2,z2⟩:=I.cell y c' e
    exact⟨w2,z2.sameBut hs hcc⟩
  .obtain⟨e,n,ne,nf,d⟩:=I.pin p hp
   refine⟨(hs.2 p.1 ?_).trans e,n,ne,nf,d⟩
   grind
def E2{M:Model}{A:Around}{E:ZA}{i:Nat}{x:Str}{v:V}{u:Value}{Q:Unit->Shared->Prop}(I:Inv X U σ H s)(hN:X.N.Nodup)(hi:X.N[i]?=some x)(hx:č X.env.scope x)(r:bG v u)(h:∀s',Inv X U (σ.set i (some v)) H s'->Q () s')(hf:X.fn x=true\/X.env.scope.names.lookup x=some .local:=by first|exact .inl rfl|exact .inr rfl|assumption):wpAny M A (storeName X.env x u) Q E s:=
 tL I hN hi hx r (λs' I' _=>h s' I') hf
def Inv.call'(I:Inv X U σ H s)(ho:s'.os=s.os)(u:Un (vA X.stack) ch H H' s.heap s'.heap)(hok:mG X.prog X.w H' s'.heap)(hg:AllBare s'.gens)(hch:∀b∈ch,(b∈X.ex\/X.s₀.heap.objs.size<=b)/\b≠X.env.locals/\(∀x c,X.env.cells.lookup x=some c->c≠b)/\∀p∈X.pn++U,p.1≠b):Inv X U σ H' s':=by
 let⟨h',g',d',t',o'⟩:=s';have e:o'=s.os:=ho;subst e;exact I.call (g':=g') (t':=t') (d':=d') u hok hg hch
end
abbrev XK:=Value->Option Addr->Hp->Prop
abbrev St:=List (Option V)
abbrev VK:=V->Hp->Prop
abbrev TE:=St->Hp->VK->Prop
abbrev TT:=St->Hp->(Bool->Hp->Prop)->Prop
abbrev TA:=St->Hp->(List V->Hp->Prop)->Prop
structure vT where
 nx:St->Hp->Prop
 rt:VK
 bk:St->Hp->Prop:=λ_ _=>False
 ct:St->Hp->Prop:=λ_ _=>False
abbrev TS:=vT->St->Hp->Prop
def EP(X:Cx)(U:ZB)(σ:St)(Q:VK)(u:Value)(s':Shared):Prop:=∃v H',Inv X U σ H' s'/\bG v u/\Q v H'
def TP(X:Cx)(U:ZB)(σ:St)(Q:Bool->Hp->Prop)(b:Bool)(s':Shared):Prop:=∃H',Inv X U σ H' s'/\Q b H'
def AP(X:Cx)(U:ZB)(σ:St)(Q:List V->Hp->Prop)(us:ZJ)(s':Shared):Prop:=∃vs H',Inv X U σ H' s'/\bH vs us/\Q vs H'
def SP(X:Cx)(U:ZB)(D:vT)(f:Flow)(s':Shared):Prop:=
 match f with
 |.next=>∃σ' H',Inv X U σ' H' s'/\D.nx σ' H'
 |.brk=>∃σ' H',Inv X U σ' H' s'/\D.bk σ' H'
 |.cont=>∃σ' H',Inv X U σ' H' s'/\D.ct σ' H'
 |.ret u=>∃v σ' H',Inv X U σ' H' s'/\bG v u/\D.rt v H'
def PE(X:Cx)(e:Expr)(t:TE):Prop:=
 ∀(U:ZB)(s:Shared)(σ:St)(H:Hp)(Q:VK),Inv X U σ H s->t σ H Q->wpAny 'b' X.A (eval e X.env) (EP X U σ Q) X.xe s
def PT(X:Cx)(e:Expr)(t:TT):Prop:=
 ∀(U:ZB)(s:Shared)(σ:St)(H:Hp)(Q:Bool->Hp->Prop),Inv X U σ H s->t σ H Q->wpAny 'b' X.A (isTrue e X.env (eval e X.env)) (TP X U σ Q) X.xe s
def PW(X:Cx)(e:Expr)(t:TT):Prop:=
 ∀(whole:Sem Value)(U:ZB)(s:Shared)(σ:St)(H:Hp)(Q:Bool->Hp->Prop),Inv X U σ H s->t σ H Q->wpAny 'b' X.A (isTrue e X.env whole) (TP X U σ Q) X.xe s
def PW.pt(h:PW X e t):PT X e t:=h _
def PA(X:Cx)(es:List Expr)(t:TA):Prop:=
 ∀(pos:Pos)(U:ZB)(s:Shared)(σ:St)(H:Hp)(Q:List V->Hp->Prop),Inv X U σ H s->t σ H Q->wpAny 'b' X.A (spliced (backTo pos (starEach es X.env))) (AP X U σ Q) X.xe s
def PS(X:Cx)(st:Stmt)(t:TS):Prop:=
 ∀(U:ZB)(s:Shared)(σ:St)(H:Hp)(D:vT),Inv X U σ H s->t D σ H->wpAny 'b' X.A (exec st X.env) (SP X U D) X.xe s
def EV(X:Cx)(st:List Stmt)(t:TS):Prop:=
 ∀(U:ZB)(s:Shared)(σ:St)(H:Hp)(D:vT),Inv X U σ H s->t D σ H->wpAny 'b' X.A (execs st X.env) (SP X U D) X.xe s
def cL{Q Q':α->Shared->Prop}(h:wpAny M A t Q E s)(hQ:∀a s,Q a s->Q' a s):wpAny M A t Q' E s:=wpAny_mono h hQ λ_ _ x=>x
section
variable {X:Cx}
def aOZ(ha:PE X a ta)(hb:PE X b tb){R:V->V->Hp->Prop}(I:Inv X U σ H s)(h:ta σ H λx H1=>tb σ H1 λy H2=>R x y H2){f:Value->Value->Sem α}(hf:∀v u s2 x y H2,Inv X U σ H2 s2->bG x v->bG y u->R x y H2->wpAny 'b' X.A (f v u) Q X.xe s2):
  wpAny 'b' X.A (eval a X.env) (λv s₁=>wpAny 'b' X.A (eval b X.env) (λu s₂=>wpAny 'b' X.A (f v u) Q X.xe s₂) X.xe s₁) X.xe s:=by
 refine cL (ha U s σ H _ I h) λv s1 zQ=>?_;let⟨x,H1,I1,r1,q1⟩:=zQ;refine cL (hb U s1 σ H1 _ I1 q1) λu s2 zQ=>?_;let⟨y,H2,I2,r2,q2⟩:=zQ;exact hf v u s2 x y H2 I2 r1 r2 q2
def RD(i:Nat):TE:=λσ H Q=>∃v,σ[i]?=some (some v)/\Q v H
def tC(v:V):TE:=λ_ H Q=>Q v H
def dA{pos:Pos}(hN:X.N[i]?=some x)(hv:zS X.env.scope x)(hd:⇑(Zdb x))(hcd:⇑(Zcd x)):PE X (.Name x pos) (RD i):=by
 intro U s σ H Q I h;let⟨v,e,h⟩:=h;let⟨m,hn,hl⟩:=I.loc;let⟨u,r,l⟩:=hl i x v hN e hv;have fin:EP X U σ Q u s:=⟨v,H,I,r,h⟩;rcases l with ⟨hk,hm⟩|⟨hk,c,hc,hcell⟩
 .exact wpAny_Name (wpAny_loadName_local I.ok.kind hk hn hm fin) hd
 .rcases hk with hk|hk
  .exact wpAny_Name (wpAny_loadName_cell I.ok.kind hk hc hcell fin) hd
  .exact wpAny_Name (wpAny_loadName_free I.ok.kind hk hc hcell fin hcd) hd
def aD9:PE X (.Constant (.int i) j pos) (tC (.int i)):=λ_ _ _ H _ I h=>wpAny_Constant_int ⟨.int i,H,I.tok _,⟨_,rfl⟩,h⟩
def aIB:PE X (.Constant (.bool b) j pos) (tC (.bl b)):=λ_ _ _ H _ I h=>Constant_bool ⟨.bl b,H,I,rfl,h⟩
def aEA:PE X (.Constant .none j pos) (tC .non):=λ_ _ _ H _ I h=>Constant_none ⟨.non,H,I,rfl,h⟩
def aEB:PE X (.Constant (.str x) j pos) (tC (.str x)):=λ_ _ _ H _ I h=>Calls.Constant_str ⟨.str x,H,I.tok _,⟨_,rfl⟩,h⟩
def Gl(X:Cx)(x:Str):Prop:=X.env.kindOf x=some .globalImplicit
def lH{E:ZA}{U:ZB}{s:Shared}{σ:St}{H:Hp}{x:Str}{u:Value}{pos:Pos}{Q:ZA}(I:Inv X U σ H s)(hg:Gl X x)(hm:X.mg x=some u)(h:Q u s)(hd:⇑(Zdb x)):wpAny 'b' X.A (eval (.Name x pos) X.env) Q E s:=
 Calls.Name_function_global I.ok.kind hg (Calls.loadGlobal_global (by rw[I.ok.glob];exact I.mod.glob.keeps I.bk) hm h) hd
def iT{E:ZA}{U:ZB}{s:Shared}{σ:St}{H:Hp}{x:Str}{u:Value}{pos:Pos}{Q:ZA}(I:Inv X U σ H s)(hg:Gl X x)(hm:X.mg x=none)(hv:bootBuiltins x=some u)(h:Q u s)(hn:⇑(x≠"__name__"))(hd:⇑(Zdb x)):wpAny 'b' X.A (eval (.Name x pos) X.env) Q E s:=by
 let⟨mb,h1,h2⟩:=I.mod.blt;exact Calls.Name_function_global I.ok.kind hg (Calls.loadGlobal_builtin (by rw[I.ok.glob];exact I.mod.glob.keeps I.bk) hm (by rw[I.ok.blt];exact h1.keeps I.bk) ((h2 x hn).trans hv) h) hd
def YB(hg:Gl X x)(hm:X.mg x=some u)(r:bG v u)(hd:⇑(Zdb x)):PE X (.Name x pos) (tC v):=
 λ_ _ _ H _ I h=>lH I hg hm ⟨v,H,I,r,h⟩ hd
def YC{pos:Pos}(hg:Gl X x)(hm:X.mg x=none)(hv:bootBuiltins x=some u)(r:bG v u)(hn:⇑(x≠"__name__"))(hd:⇑(Zdb x)):PE X (.Name x pos) (tC v):=
 λ_ _ _ H _ I h=>iT I hg hm hv ⟨v,H,I,r,h⟩ hn hd
variable {a b:Expr}{ta tb:TE}{pos:Pos}
def PC(X:Cx)(op:CmpOp)(a b:Expr)(t:TE):Prop:=
 ∀(U:ZB)(s:Shared)(σ:St)(H:Hp)(Q:VK),Inv X U σ H s->t σ H Q ->
  wpAny 'b' X.A (eval a X.env) (λv s₁=>wpAny 'b' X.A (eval b X.env) (λu s₂=>wpAny 'b' X.A (compareOp op v u) (EP X U σ Q) X.xe s₂) X.xe s₁) X.xe s
def E3(b:Expr)(h:op≠.In)(h2:op≠.NotIn):behindInMarks op b=false:=by
 have e1:(op == CmpOp.In)=false:=by cases op<;>first|rfl|exact absurd rfl h
 have e2:(op == CmpOp.NotIn)=false:=by cases op<;>first|rfl|exact absurd rfl h2
 cases b<;>simp[behindInMarks,e1,e2]
def tB(t:TE):TT:=λσ H Q=>t σ H λx H1=>∃c,x=.bl c/\Q c H1
def aEC(h:PC X op a b t)(h1:behindInMarks op b=false:=by first|exact E3 _ ⋯ ⋯|rfl):PE X (.Compare a [op] [b] pos) t:=λU s σ H Q I hw=>wpAny_Compare1 (h U s σ H Q I hw) h1
def aED(h:PC X op a b t)(h1:behindInMarks op b=false:=by first|exact E3 _ ⋯ ⋯|rfl):PT X (.Compare a [op] [b] pos) (tB t):=by
 intro U s σ H Q I hw;refine wpAny_isTrue_Compare1 (cL (h U s σ H _ I hw) λv s1 h1=>cL h1 λu s2 h2=>cL h2 λc s3 zQ=>?_) h1;let⟨x,H1,I1,r1,q1⟩:=zQ;let⟨d,rfl,q⟩:=q1;cases r1;exact wpAny_truthy_bool ⟨H1,I1,q⟩
def aEE(h:PE X e t)(he: ~~~(∀whole,isTrue e X.env whole=(do let v <- whole;standAt e.pos;holding [v] (truthy v)))):PT X e (tB t):=by
 intro U s σ H Q I hw;refine isTrue_plain (cL (h U s σ H _ I hw) λv s1 zQ=>?_) (he _);let⟨x,H1,I1,r1,q1⟩:=zQ;let⟨d,rfl,q⟩:=q1;cases r1;exact wpAny_truthy_bool ⟨H1,I1,q⟩
variable {tA tB':TT}{rest:List Expr}
def aLN(t u:TT):TT:=λσ H Q=>t σ H λc H1=>if c=true then u σ H1 Q else Q false H1
def aN5(t u:TT):TT:=λσ H Q=>t σ H λc H1=>if c=true then Q true H1 else u σ H1 Q
def aLO(t:TT):TT:=λσ H Q=>t σ H λc H1=>Q (!c) H1
def YD(ha:PT X a tA):PW X (.BoolOp .And [a] pos) tA:=by
 intro wh U s σ H Q I h;refine isTrue_and (cL (ha U s σ H Q I h) λc s1 e=>?_);cases c with
 |true=>exact isTrue_and_nil e
 |false=>exact e
def aEF(ha:PT X a tA):PW X (.BoolOp .Or [a] pos) tA:=by
 intro wh U s σ H Q I h;refine isTrue_or (cL (ha U s σ H Q I h) λc s1 e=>?_);cases c with
 |false=>exact isTrue_or_nil e
 |true=>exact e
def aEG(ha:PT X a tA)(hb:PW X (.BoolOp .And (b::rest) pos) tB'):PW X (.BoolOp .And (a::b::rest) pos) (aLN tA tB'):=by
 intro wh U s σ H Q I h;refine isTrue_and (cL (ha U s σ H _ I h) λc s1 zQ=>?_);let⟨H1,I1,q1⟩:=zQ;cases c with
 |true=>exact hb wh U s1 σ H1 Q I1 q1
 |false=>exact⟨H1,I1,q1⟩
def aIC(ha:PT X a tA)(hb:PW X (.BoolOp .Or (b::rest) pos) tB'):PW X (.BoolOp .Or (a::b::rest) pos) (aN5 tA tB'):=by
 intro wh U s σ H Q I h;refine isTrue_or (cL (ha U s σ H _ I h) λc s1 zQ=>?_);let⟨H1,I1,q1⟩:=zQ;cases c with
 |true=>exact⟨H1,I1,q1⟩
 |false=>exact hb wh U s1 σ H1 Q I1 q1
def aEH(ha:PT X a tA):PT X (.UnaryOp .Not a pos) (aLO tA):=by
 intro U s σ H Q I h;exact isTrue_not (ha U s σ H (λc H1=>Q (!c) H1) I h)
def aID(ta tb:TE):TE:=λσ H Q=>ta σ H λx H1=>∃c,x=.bl c/\if c=true then tb σ H1 Q else Q (.bl false) H1
def aLP(ta tb:TE):TE:=λσ H Q=>ta σ H λx H1=>∃c,x=.bl c/\if c=true then Q (.bl true) H1 else tb σ H1 Q
def aIE(ta:TE):TE:=λσ H Q=>ta σ H λx H1=>∃c,x=.bl c/\Q (.bl (!c)) H1
def aEI(h:PE X a t):PE X (.BoolOp op [a] pos) t:=λU s σ H Q I hw=>BoolOp_one (h U s σ H Q I hw)
def aEJ(ha:PE X a ta)(hb:PE X (.BoolOp .And (b::rest) pos) tb):PE X (.BoolOp .And (a::b::rest) pos) (aID ta tb):=by
 intro U s σ H Q I h;refine BoolOp_and (cL (ha U s σ H _ I h) λv s1 zQ=>?_);let⟨x,H1,I1,r1,q1⟩:=zQ;let⟨c,rfl,q1⟩:=q1;cases r1;refine wpAny_truthy_bool ?_;cases c with
 |true=>exact hb U s1 σ H1 Q I1 q1
 |false=>exact⟨.bl false,H1,I1,rfl,q1⟩
def aIF(ha:PE X a ta)(hb:PE X (.BoolOp .Or (b::rest) pos) tb):PE X (.BoolOp .Or (a::b::rest) pos) (aLP ta tb):=by
 intro U s σ H Q I h;refine BoolOp_or (cL (ha U s σ H _ I h) λv s1 zQ=>?_);let⟨x,H1,I1,r1,q1⟩:=zQ;let⟨c,rfl,q1⟩:=q1;cases r1;refine wpAny_truthy_bool ?_;cases c with
 |false=>exact hb U s1 σ H1 Q I1 q1
 |true=>exact⟨.bl true,H1,I1,rfl,q1⟩
def aEK(ha:PE X a ta):PE X (.UnaryOp .Not a pos) (aIE ta):=by
 intro U s σ H Q I h;refine UnaryOp_ (cL (ha U s σ H _ I h) λv s1 zQ=>?_);let⟨x,H1,I1,r1,q1⟩:=zQ;let⟨c,rfl,q1⟩:=q1;cases r1;exact not_of (wpAny_truthy_bool ⟨.bl (!c),H1,I1,rfl,q1⟩)
end
def eK(K:ZC)(H:Hp)(a:Addr)(xs:List V):Prop:=
 Rd H a (.lst xs) \/
  ∃(o:Obj)(its:Array Value)(n:Nat),K.lookup a=some o/\o.cls=.type "list"/\o.dict=none/\o.data=.seq its n/\its.size<=sizeLine/\bH xs its.toList
def qV(K:ZC)(H:Hp)(a:Addr)(xs:List V):Prop:=
 Rd H a (.tup xs) \/
  ∃(o:Obj)(its:Array Value)(n:Nat),K.lookup a=some o/\o.cls=.type "tuple"/\o.data=.seq its n/\its.size<=sizeLine/\bH xs its.toList
def aLQ:Value->Option V
 |.none=>some .non
 |.bool b=>some (.bl b)
 |.int i _=>some (.int i)
 |.str x _=>some (.str x)
 |.bytes b _=>some (.byt b)
 |.float b _=>some (.flt b)
 |.ref a=>some (.ref a)
 |.type n=>some (.ty n)
 |_=>none
def bG.abs(r:bG x u):aLQ u=some x:=by
 cases x with
 |non=>cases r;rfl
 |bl _=>cases r;rfl
 |int _=>let⟨t,rfl⟩:=r;rfl
 |str _=>let⟨t,rfl⟩:=r;rfl
 |byt _=>let⟨t,rfl⟩:=r;rfl
 |flt _=>let⟨t,rfl⟩:=r;rfl
 |ref _=>cases r;rfl
 |ty _=>cases r;rfl
def bG.inj(r:bG x u)(q:bG y u):x=y:=Option.some.inj (r.abs.symm.trans q.abs)
def bH.inj:∀{xs ys:List V}{us:ZJ},bH xs us->bH ys us->xs=ys
 |_,_,_,.nil,.nil=>rfl
 |_,_,_,.cons r t,.cons r' t'=>by rw[r.inj r',bH.inj t t']
section
variable {X:Cx}{U:ZB}{σ:St}{H:Hp}{s:Shared}{a:Addr}{xs ys:List V}
def eK.of{K:ZC}(h:H a=some (.lst xs)):eK K H a xs:=.inl (.inl h)
def qV.of{K:ZC}(h:H a=some (.tup xs)):qV K H a xs:=.inl (.inl h)
def Inv.list(I:Inv X U σ H s)(h:eK X.K H a xs):∃its:ZJ,bH xs its/\PlainL s.heap a its.toArray/\xs.length<=sizeLine:=by
 rcases h with h|⟨o,its,n,hk,hc,hd,hs,hz,r⟩
 .obtain⟨z,its,n,r,e⟩:=h.ok I.hok
  exact⟨its,r,⟨_,n,e,rfl,rfl,rfl⟩,z⟩
 .refine⟨its.toList,r,⟨o,n,I.kIn a o hk,hc,hd,by simpa using hs⟩,?_⟩
  have e:=r.length
  grind
def Inv.tuple(I:Inv X U σ H s)(h:qV X.K H a xs):∃its:ZJ,bH xs its/\IsTup s.heap a its.toArray/\xs.length<=sizeLine:=by
 rcases h with h|⟨o,its,n,hk,hc,hs,hz,r⟩
 .obtain⟨z,its,r,p⟩:=h.ok I.hok
  exact⟨its,r,p,z⟩
 .refine⟨its.toList,r,⟨o,I.kIn a o hk,hc,n,by simpa using hs⟩,?_⟩
  have e:=r.length
  grind
def Inv.list_inj(I:Inv X U σ H s)(h:eK X.K H a xs)(h':eK X.K H a ys):xs=ys:=by
 let⟨its,r,⟨o,n,e,_,_,d⟩,_⟩:=I.list h;let⟨its',r',⟨o',n',e',_,_,d'⟩,_⟩:=I.list h';rw[e]at e';cases e';rw[d]at d';injection d' with d1 _;have:its=its':=by simpa using congrArg Array.toList d1
 subst this;exact r.inj r'
def Inv.tuple_inj(I:Inv X U σ H s)(h:qV X.K H a xs)(h':qV X.K H a ys):xs=ys:=by
 let⟨its,r,⟨o,e,_,n,d⟩,_⟩:=I.tuple h;let⟨its',r',⟨o',e',_,n',d'⟩,_⟩:=I.tuple h';rw[e]at e';cases e';rw[d]at d';injection d' with d1 _;have:its=its':=by simpa using congrArg Array.toList d1
 subst this;exact r.inj r'
end
section
end
section
variable {X:Cx}{st:Stmt}{rest:List Stmt}{t u:TS}
def aIG:TS:=λD σ H=>D.nx σ H
def aLR(t u:TS):TS:=λD σ H=>t {D with nx:=u D} σ H
def LR:EV X [] aIG:=λ_ _ σ H _ I h=>wpAny_execs_nil ⟨σ,H,I,h⟩
def RE(h1:PS X st t)(h2:EV X rest u):EV X (st::rest) (aLR t u):=by
 intro U s σ H D I h;refine wpAny_execs_cons (cL (h1 U s σ H {D with nx:=u D} I h) λf s1 q=>?_);cases f with
 |next=>
  let⟨σ',H',I',q⟩:=q;exact h2 U s1 σ' H' D I' q
 |ret v=>exact q
 |brk=>exact q
 |cont=>exact q
def YE(h1:PS X st t):EV X [st] t:=by
 intro U s σ H D I h;refine wpAny_execs_cons (cL (h1 U s σ H D I h) λf s1 q=>?_);cases f with
 |next=>exact wpAny_execs_nil q
 |ret v=>exact q
 |brk=>exact q
 |cont=>exact q
def Inv.quiet(I:Inv X U σ H s):interactive X.env=false:=by simp[interactive,I.ok.kind]
def aIH(te:TE):TS:=λD σ H=>te σ H λ_ H1=>D.nx σ H1
def YF(he:PE X e te)(hs:↥(swapsWith e none pos.line X.env=pure false)):PS X (.Expr e pos) (aIH te):=by
 intro U s σ H D I h;exact wpAny_Expr_any (cL (he U s σ H _ I h) λv s1 zQ=>by let⟨x,H1,I1,r1,q1⟩:=zQ;exact ⟨σ,H1,I1,q1⟩) I.quiet hs
def aLS(te:TE):TS:=λD σ H=>te σ H D.rt
def aEL(he:PE X e te):PS X (.Return (some e) pos) (aLS te):=by
 intro U s σ H D I h;exact wpAny_Return_some (cL (he U s σ H _ I h) λv s1 zQ=>by let⟨x,H1,I1,r1,q1⟩:=zQ;exact ⟨x,σ,H1,I1,r1,q1⟩)
def aLT(c:TT)(t u:TS):TS:=λD σ H=>c σ H λb H1=>if b=true then t D σ H1 else u D σ H1
def aII(hc:PT X c tc)(ha:EV X a t)(hb:EV X b u):PS X (.If c a b pos) (aLT tc t u):=by
 intro U s σ H D I h;refine wpAny_If (cL (hc U s σ H _ I h) λd s1 zQ=>?_);let⟨H1,I1,q1⟩:=zQ;cases d with
 |true=>exact ha U s1 σ H1 D I1 q1
 |false=>exact hb U s1 σ H1 D I1 q1
end
abbrev TG:=V->St->Hp->(St->Hp->Prop)->Prop
abbrev RF:=List V->St->Hp->(St->Hp->Prop)->Prop
def PG(X:Cx)(target:Expr)(t:TG):Prop:=
 ∀(U:ZB)(s:Shared)(σ:St)(H:Hp)(v:V)(u:Value)(Q:St->Hp->Prop),Inv X U σ H s->bG v u->t v σ H Q ->
  wpAny 'b' X.A (assign target X.env u) (λ_ s'=>∃σ' H',Inv X U σ' H' s'/\Q σ' H') X.xe s
def ġ(X:Cx)(ts:List Expr)(t:RF):Prop:=
 ∀(U:ZB)(s:Shared)(σ:St)(H:Hp)(vs:List V)(us:ZJ)(Q:St->Hp->Prop),Inv X U σ H s->bH vs us->t vs σ H Q ->
  wpAny 'b' X.A (assignInOrder ((assignEach ts X.env).map (·.2)) us) (λ_ s'=>∃σ' H',Inv X U σ' H' s'/\Q σ' H') X.xe s
abbrev ŭ:=V->V->V->Hp->(Hp->Prop)->Prop
def Ů(X:Cx)(t:ŭ):Prop:=
 ∀(U:ZB)(s:Shared)(σ:St)(H:Hp)(o i v:V)(ov iv u:Value)(Q:Hp->Prop),Inv X U σ H s->bG o ov->bG i iv->bG v u->t o i v H Q ->
  wpAny 'b' X.A (setItem ov iv u) (λ_ s'=>∃H',Inv X U σ H' s'/\Q H') X.xe s
section
variable {X:Cx}{pos:Pos}
def pE(i:Nat):TG:=λv σ H Q=>Q (σ.set i (some v)) H
def cW(hN:X.N.Nodup)(hi:X.N[i]?=some x)(hx:č X.env.scope x)(hf:X.fn x=true\/X.env.scope.names.lookup x=some .local:=by first|exact .inl rfl|exact .inr rfl|assumption):PG X (.Name x pos) (pE i):=by
 intro U s σ H v u Q I r h;exact wpAny_assign_Name (E2 I hN hi hx r (λs' I'=>⟨_,H,I',h⟩) hf)
def RH:RF:=λvs σ H Q=>vs=[]/\Q σ H
def E4(t:TG)(u:RF):RF:=λvs σ H Q=>∃v r,vs=v::r/\t v σ H λσ' H'=>u r σ' H' Q
def n9:ġ X [] RH:=by
 intro U s σ H vs us Q I r h;let⟨e,h⟩:=h;subst e;cases r;exact assignInOrder_nil ⟨σ,H,I,h⟩
def dZ(h1:PG X e t)(h2:ġ X es u)(hs:↥((assignEach (e::es) X.env).map (·.2)=assign e X.env::(assignEach es X.env).map (·.2))):ġ X (e::es) (E4 t u):=by
 intro U s σ H vs us Q I r h;let⟨v,vr,e1,h⟩:=h;subst e1;cases r with
 |cons r rr=>
  rw[hs];refine assignInOrder_cons (cL (h1 U s σ H _ _ _ I r h) λ_ s1 zQ=>?_);let⟨σ1,H1,I1,q1⟩:=zQ;exact h2 U s1 σ1 H1 _ _ Q I1 rr q1
def Ņ(K:ZC)(n:Nat)(t:RF):TG:=λv σ H Q=>∃a xs,v=.ref a/\qV K H a xs/\xs.length=n/\t xs σ H Q
def tO{k:Nat}(hc:X.calm=true)(h:ġ X es t)(hn:↥((assignEach es X.env).length=n))(hst:↥((assignEach es X.env).findIdx? (·.1)=none)):PG X (.Tuple es k pos) (Ņ X.K n t):=by
 intro U s σ H v u Q I r hw;let⟨a,xs,e1,hq,hl,hw⟩:=hw;subst e1;cases r;let⟨its,rv,ht,hz⟩:=I.tuple hq;refine assign_Tuple_tuple (I.ok.hd hc) ht (by simp[hn,<- hl,rv.length]) hst λh' hx=>?_;have I1:Inv X U σ H {s with heap:=h'}:=I.kept (t':=s.toks) λb o e=>hx b o (Ê 'r') e;exact h U _ σ H xs _ Q I1 (by simpa using rv) hw
def aLU(to ti:TE)(t:ŭ):TG:=λv σ H Q=>to σ H λo H1=>ti σ H1 λi H2=>t o i v H2 λH3=>Q σ H3
def RI(ho:PE X o to)(hi:PE X i ti)(hs:Ů X t)(ha: ~~~(∀v,assign (.Subscript o i pos) X.env v=(do
   let ov <- holding [v] (eval o X.env);let iv <- holding [v,ov] (eval i X.env)
   standAt pos
   holding [v,ov,iv] (setItem ov iv v)
   release [v,ov,iv] []))):PG X (.Subscript o i pos) (aLU to ti t):=by
 intro U s σ H v u Q I r h;rw[ha];refine wpAny_bind (wpAny_holding (cL (ho U s σ H _ I h) λov s1 zQ=>?_));let⟨x,H1,I1,r1,q1⟩:=zQ;refine wpAny_bind (wpAny_holding (cL (hi U s1 σ H1 _ I1 q1) λiv s2 zQ=>?_));let⟨y,H2,I2,r2,q2⟩:=zQ;refine wpAny_bind (wpAny_standAt (wpAny_bind (wpAny_holding (cL (hs U s2 σ H2 x y v ov iv u _ I2 r1 r2 r q2) λ_ s3 zQ=>?_))));let⟨H3,I3,q3⟩:=zQ;exact wpAny_release ⟨σ,H3,I3,q3⟩
def YG(te:TE)(g:TG):TS:=λD σ H=>te σ H λx H1=>g x σ H1 D.nx
def RJ(he:PE X e te)(hg:PG X tg g)(hs:↥(swapsWithSole [tg] e pos.line X.env=pure false))(hw:↥(swappedStores [tg] e X.env=pure none))(h1:↥((assignEach [tg] X.env).map (·.2)=[assign tg X.env])):PS X (.Assign [tg] e pos) (YG te g):=by
 intro U s σ H D I h;refine wpAny_Assign_stores (cL (he U s σ H _ I h) λv s1 zQ=>?_) hs hw;let⟨x,H1,I1,r1,q1⟩:=zQ;rw[h1];exact cL (hg U s1 σ H1 x v _ I1 r1 q1) λ_ s2 q=>q
def aEO(hN:X.N.Nodup)(hi:X.N[i]?=some x)(hx:č X.env.scope x)(he:PE X e te)(hs:↥(swapsWith e (some (.Name x pos')) pos.line X.env=pure false))(hf:X.fn x=true\/X.env.scope.names.lookup x=some .local:=by first|exact .inl rfl|exact .inr rfl|assumption):
  PS X (.Assign [.Name x pos'] e pos) (YG te (pE i)):=by
 intro U s σ H D I h;refine wpAny_Assign_Name (cL (he U s σ H _ I h) λv s1 zQ=>?_) hs;let⟨y,H1,I1,r1,q1⟩:=zQ;exact E2 I1 hN hi hx r1 (λs2 I2=>⟨_,H1,I2,q1⟩) hf
end
section
def aEP(c:TT)(tb:TS):TS:=λD σ H=>∃W:Nat->St->Hp->Prop,(∃m,W m σ H)/\∀m σ H,W m σ H ->
 c σ H λb H1=>if b=true then ∃N:St->Hp->Prop,(∀σ' H',N σ' H'->∃m',m'<m/\W m' σ' H')/\tb {D with nx:=N,ct:=N,bk:=D.nx} σ H1 else D.nx σ H1
def RK(hp:PassesOwn 'b' X.A X.env X.xe)(hc:PT X c tc)(hb:EV X body tb):PS X (.While c body [] pos) (aEP tc tb):=by
 intro U s σ H D I h;let⟨W,⟨m0,w0⟩,turn⟩:=h;refine wpAny_While (codeAny_whileLoop (λn s'=>∃σ' H',Inv X U σ' H' s'/\W n σ' H') ?_ m0 ⟨σ,H,I,w0⟩);rintro n s1 ⟨σ1,H1,I1,w1⟩;refine wpAny_passesOwn hp (cL (hc U s1 σ1 H1 _ I1 (turn n σ1 H1 w1)) λb s2 zQ=>?_);let⟨H2,I2,q2⟩:=zQ;cases b with
 |true=>
  let⟨N,hN,q2⟩:=q2;rw[Á rfl];refine wpAny_passesOwn hp (cL (hb U s2 σ1 H2 _ I2 q2) λf s3 q3=>?_);cases f with
  |next=>
   let⟨σ3,H3,I3,n3⟩:=q3;let⟨m',hm,w3⟩:=hN σ3 H3 n3;exact⟨m',hm,σ3,H3,I3,w3⟩
  |cont=>
   let⟨σ3,H3,I3,n3⟩:=q3;let⟨m',hm,w3⟩:=hN σ3 H3 n3;exact⟨m',hm,σ3,H3,I3,w3⟩
  |brk=>exact q3
  |ret v=>exact q3
 |false=>
  rw[Â Þ];exact wpAny_execs_nil ⟨σ1,H2,I2,q2⟩
end
structure It where
 go:Nat->Hp->Prop
 yld:Nat->Hp->V->Hp->Prop
 stop:Nat->Hp->Prop
def vU(X:Cx)(U:ZB)(H:Hp)(b:Addr):Prop:=
 H b=none/\b≠X.env.locals/\b∉X.fs/\(b∈X.ex\/X.s₀.heap.objs.size<=b)/\(∀x c,X.env.cells.lookup x=some c->c≠b)/\∀p∈X.pn++U,p.1≠b
def Inv.fpOk{X:Cx}{U:ZB}{σ:St}{H H':Hp}{s:Shared}{b:Addr}(I:Inv X U σ H s)(hb:s.heap.objs.size<=b)(hn:H' b=none):vU X U H' b:=by
 refine⟨hn,Û (Ó I.lt hb),I.nofs hb,.inr (Õ I.sz hb),λx c e z=>?_,λp hp z=>?_⟩
 .obtain⟨v,q⟩:=I.cell x c e
  exact absurd (Ó q.lt (by rw[z];exact hb)) (ø _)
 .exact absurd (Ó (Heap.lt_size (I.pin p hp).1) (by rw[z];exact hb)) (ø _)
structure E5(P:Program)(w:World)(K:ZC)(tg:Expr)(J:It)(fp:ZM)(it:Addr)(tn:Nat->Heap->Prop):Prop where
 mem:it∈fp
 obj:∀i h,tn i h->∀b∈fp,∃o,h.get? b=some o/\∀v,o.data≠.cell v
 keep:∀i h h',tn i h->(∀b∈fp,∀o,h.get? b=some o->h'.get? b=some o)->tn i h'
 item:∀(X:Cx),X.prog=P->X.w=w->X.K=K->X.calm=true->∀(i:Nat)(U:ZB)(s:Shared)(σ:St)(H:Hp)(E:ZA),Inv X U σ H s->(∀b∈fp,vU X U H b)->tn i s.heap->J.go i H ->
  wpAny (model P w) X.A (pyNext (.ref it)) (λr s1=>∃u,r=some u /\
   wpAny (model P w) X.A (letOwnedTupleGo tg (.ref it) u) (λ_ s2=>∃x H',Inv X U σ H' s2/\bG x u/\J.yld i H x H'/\tn (i+1) s2.heap/\∀b∈fp,H' b=none) E s1) E s
 done:∀(X:Cx),X.prog=P->X.w=w->X.K=K->X.calm=true->∀(i:Nat)(U:ZB)(s:Shared)(σ:St)(H:Hp)(E:ZA),Inv X U σ H s->(∀b∈fp,vU X U H b)->tn i s.heap->J.stop i H ->
  wpAny (model P w) X.A (pyNext (.ref it)) (λr s1=>r=none/\Inv X U σ H s1) E s
 self:∀(A:Around)(i:Nat)(s:Shared)(Q:ZA)(E:ZA),tn i s.heap->Q (.ref it) s->wpAny (model P w) A (pyIter (.ref it)) Q E s
abbrev TI:=St->Hp->(It->Hp->Prop)->Prop
def ņ(X:Cx)(U:ZB)(σ:St)(tg:Expr)(R:It->Hp->Prop)(itv:Value)(s2:Shared):Prop:=
 ∃(it:Addr)(fp:ZM)(tn:Nat->Heap->Prop)(J:It)(H':Hp),itv=.ref it/\Inv X U σ H' s2/\E5 X.prog X.w X.K tg J fp it tn/\tn 0 s2.heap/\(∀b∈fp,vU X U H' b)/\R J H'
def PI(X:Cx)(tg iter:Expr)(wi:TI):Prop:=
 ∀(U:ZB)(s:Shared)(σ:St)(H:Hp)(R:It->Hp->Prop),Inv X U σ H s->wi σ H R ->
  wpAny 'b' X.A (eval iter X.env) (λv s1=>wpAny 'b' X.A (pyIter v) (ņ X U σ tg R) X.xe s1) X.xe s
def E6{M:Model}{A:Around}{E:ZA}{s:Shared}{tg:Expr}{it:Addr}{u:Value}{o:Obj}{n:String}{vs:Array Value}{Q:Unit->Shared->Prop}(ho:s.heap.get? it=some o)(hc:o.cls=.type n)(hd:o.data=.fields vs)(hn:["enumerate","zip","dict_itemiterator","dict_reverseitemiterator","odict_iterator","itertools.zip_longest","itertools.pairwise"].contains n=false)(hQ:Q () s):wpAny M A (letOwnedTupleGo tg (.ref it) u) Q E s:=by
 unfold letOwnedTupleGo;cases tg<;>first
  |exact wpAny_pure hQ
  | (cases u<;>first
    |exact wpAny_pure hQ
    | (refine wpAny_bind (wpAny_load ho ?_)
       rw[hc,hd];show wpAny M A (if (["enumerate","zip","dict_itemiterator","dict_reverseitemiterator","odict_iterator","itertools.zip_longest","itertools.pairwise"].contains n && vs[0]? == some (rawInt _))=true then _ else _) Q E s;rw[Â 'i'];exact wpAny_pure hQ))
def Ň(K:ZC)(a:Addr):It:=
 ⟨λi H=>∃xs x,eK K H a xs/\xs[i]?=some x,λi H x H'=>H'=H/\∀xs,eK K H a xs->xs[i]?=some x,λi H=>∃xs,eK K H a xs/\xs.length<=i⟩
def ň(K:ZC)(a:Addr):It:=
 ⟨λi H=>∃xs x,qV K H a xs/\xs[i]?=some x,λi H x H'=>H'=H/\∀xs,qV K H a xs->xs[i]?=some x,λi H=>∃xs,qV K H a xs/\xs.length<=i⟩
def ı(lo:Int)(n:Nat):It:=⟨λi _=>i<n,λi H x H'=>H'=H/\x=.int (lo+i),λi _=>n<=i⟩
def OQ{P:Program}{w:World}{K:ZC}{tg:Expr}(a it:Addr):E5 P w K tg (Ň K a) [it] it (λi h=>h.IsListIter it a i) where
 mem:=by simp
 obj:=λi h st b hb=>by
  have e:b=it:=by simpa using hb
  subst e;let⟨o,e,c,d⟩:=st;exact⟨o,e,λv z=>by rw[d]at z;cases z⟩
 keep:=λi h h' st k=>st.at λo e=>k it 'e' o e
 item:=by
  sleep 3;let⟨xs,x,hq,hx⟩:=hg;let⟨its,rv,p,hz⟩:=I.list hq;let⟨u,hu,ru⟩:=rv.get hx;let⟨f0,f1,f2,f3,f4,f5⟩:=hf it 'e';refine wpAny_pyNext_list_item st p.isList (x:=u) (by simpa using hu) λh' st' sb=>?_;have I1:Inv X U σ H {s with heap:=h'}:=I.turned (t':=s.toks) (λb o hb e=>(sb.2 b hb).trans e) f0 f1 f3 f4 f5;let⟨o,e,c,d⟩:=id st';exact⟨u,rfl,E6 (s:={s with heap:=h'}) e c d ⋯ ⟨x,H,I1,ru,⟨rfl,λys hy=>by rw[I.list_inj hy hq];exact hx⟩,st',λb hb=>(hf b hb).1⟩⟩
 done:=by
  sleep 3;let⟨xs,hq,hx⟩:=hg;let⟨its,rv,p,hz⟩:=I.list hq;let⟨f0,f1,f2,f3,f4,f5⟩:=hf it 'e';have hl:=rv.length;exact wpAny_pyNext_list_end (I.ok.hd hc) st p.isList (by simp;lia) λh' eb=>⟨rfl,I.turned (t':=s.toks) (λb o hb e=>eb b o hb e) f0 f1 f3 f4 f5⟩
 self:=λ_ _ _ _ _ st h=>wpAny_pyIter_listiter st h
def JD{P:Program}{w:World}{K:ZC}{tg:Expr}(a it:Addr):E5 P w K tg (ň K a) [it] it (λi h=>h.IsTupleIter it a i) where
 mem:=by simp
 obj:=λi h st b hb=>by
  have e:b=it:=by simpa using hb
  subst e;let⟨o,e,c,d⟩:=st
  grind
 keep:=λi h h' st k=>st.at λo e=>k it 'e' o e
 item:=by
  sleep 3;let⟨xs,x,hq,hx⟩:=hg;let⟨its,rv,p,hz⟩:=I.tuple hq;let⟨u,hu,ru⟩:=rv.get hx;let⟨f0,f1,f2,f3,f4,f5⟩:=hf it 'e';refine wpAny_pyNext_tuple_item st (show s.heap.IsTuple a its.toArray from p) (x:=u) (by simpa using hu) λh' st' sb=>?_;have I1:Inv X U σ H {s with heap:=h'}:=I.turned (t':=s.toks) (λb o hb e=>(sb.2 b hb).trans e) f0 f1 f3 f4 f5;let⟨o,e,c,d⟩:=id st';exact⟨u,rfl,E6 (s:={s with heap:=h'}) e c d ⋯ ⟨x,H,I1,ru,⟨rfl,λys hy=>by rw[I.tuple_inj hy hq];exact hx⟩,st',λb hb=>(hf b hb).1⟩⟩
 done:=by
  sleep 3;let⟨xs,hq,hx⟩:=hg;let⟨its,rv,p,hz⟩:=I.tuple hq;let⟨f0,f1,f2,f3,f4,f5⟩:=hf it 'e';have hl:=rv.length;exact wpAny_pyNext_tuple_end (I.ok.hd hc) st (show s.heap.IsTuple a its.toArray from p) (by simp;lia) λh' eb=>⟨rfl,I.turned (t':=s.toks) (λb o hb e=>eb b o hb e) f0 f1 f3 f4 f5⟩
 self:=λ_ _ _ _ _ st h=>wpAny_pyIter_tupleiter st h
def JE{P:Program}{w:World}{K:ZC}{tg:Expr}(it:Addr)(lo:Int)(n:Nat):E5 P w K tg (ı lo n) [it] it (λi h=>IsRangeIter h it (lo+(i:Nat)*1) ((n:Int)-(i:Nat)) 1) where
 mem:=by simp
 obj:=λi h st b hb=>by
  grind
 keep:=λi h h' st k=>k it 'e' _ st
 item:=by
  sleep 3;let⟨f0,f1,f2,f3,f4,f5⟩:=hf it 'e';have W:=Walks.range (prog:=X.prog) (w:=X.w) (I.ok.hd hc) it lo 1 n;refine W.item i s _ _ hg st λv h' tk hv st' kk=>?_;let⟨t,rfl⟩:=hv;have I1:Inv X U σ H {s with heap:=h',toks:=tk}:=I.turned (λb o hb e=>kk b o (by simpa using hb) e) f0 f1 f3 f4 f5;refine⟨_,rfl,E6 (s:={s with heap:=h',toks:=tk}) (n:="range_iterator") st' rfl rfl ⋯ ⟨.int (lo+i),H,I1,⟨t,?_⟩,⟨rfl,rfl⟩,st',λb hb=>(hf b hb).1⟩⟩;rw[Int.mul_one]
 done:=by
  sleep 3;let⟨f0,f1,f2,f3,f4,f5⟩:=hf it 'e';exact wpAny_pyNext_range_end (I.ok.hd hc) st (by have:n<=i:=hg;lia) λh' eb=>⟨rfl,I.turned (t':=s.toks) (λb o hb e=>eb b o hb e) f0 f1 f3 f4 f5⟩
 self:=λ_ _ _ _ _ st h=>wpAny_pyIter_rangeiter st h
section
def RL{U:ZB}{σ:St}{H:Hp}{s:Shared}{R:It->Hp->Prop}{E:ZA}{lo hi:Int}{t u v:Tok}{tk:Nat}(I:Inv X U σ H s)(h1:-(2^62)<=lo)(h2:lo<2^62)(h3:-(2^62)<=hi)(h4:hi<2^62)(q:R (ı lo (hi-lo).toNat) H):wpAny 'b' X.A (pyIter (.ref s.heap.objs.size)) (ņ X U σ tg R) E {s with heap:=s.heap.push {cls:=.type "range",data:=.fields #[.int lo t,.int hi u,.int 1 v]},toks:=tk}:=by
 refine wpAny_pyIter_range (IsRange.new ..) (small_one h1 h2 h3 h4) ?_;have I1:Inv X U σ H {s with heap:=s.heap.push {cls:=.type "range",data:=.fields #[.int lo t,.int hi u,.int 1 v]},toks:=tk}:=I.kept λb o e=>Heap.get?_push_of_some _ e;refine⟨(s.heap.push {cls:=.type "range",data:=.fields #[.int lo t,.int hi u,.int 1 v]}).objs.size,[(s.heap.push {cls:=.type "range",data:=.fields #[.int lo t,.int hi u,.int 1 v]}).objs.size],_,_,H,rfl,
  I1.kept (t':=tk) λb o e=>Heap.get?_push_of_some _ e,JE _ lo (hi-lo).toNat,?_,λb hb=>?_,q⟩
 .have e1:lo+((0:Nat):Int)*1=lo:=by simp
  have e2:(((hi-lo).toNat:Nat):Int)-((0:Nat):Int)=Builtin.Range.rangeSize lo hi 1:=by rw[rangeSize_one];split<;>lia
  show IsRangeIter _ _ (lo+((0:Nat):Int)*1) ((((hi-lo).toNat:Nat):Int)-((0:Nat):Int)) 1;rw[e1,e2];exact Heap.get?_push_size _ rfl
 .have e:b=(s.heap.push {cls:=.type "range",data:=.fields #[.int lo t,.int hi u,.int 1 v]}).objs.size:=by simpa using hb
  subst e;exact I1.fpOk (Ç _) (I1.hok.fresh (Ç _))
def aIL(ta:TA):TI:=λσ H R=>ta σ H λvs H1=>∃j:Int,vs=[.int j]/\-(2^62)<=j/\j<2^62/\R (ı 0 j.toNat) H1
def OS(hg:Gl X "range")(hm:X.mg "range"=none)(ha:PA X [a] ta)(hs:↥(starEach [a] X.env=[(false,eval a X.env)])):PI X tg (.Call (.Name "range" p) [a] [] pos) (aIL ta):=by
 intro U s σ H R I h;refine Call_ (iT I hg hm boot_range (PyProof.Rows.callWith_type1 (cL (ha pos U s σ H _ I h) λus s1 zQ=>?_) hs rfl));let⟨vs,H1,I1,r1,q1⟩:=zQ;let⟨j,e,q1,q2,q⟩:=q1;subst e;cases r1 with
 |cons r rr=>
  cases rr;let⟨t,rfl⟩:=r;exact call_range_1 (RL I1 ⋯ ⋯ q1 q2 (by simpa using q))
def aLY(wi:TI)(g:TG)(tb:TS):TS:=λD σ H=>wi σ H λJ H1=>∃W:Nat->Nat->St->Hp->Prop,(∃m,W 0 m σ H1)/\∀i m σ H,W i m σ H ->
 (J.stop i H/\D.nx σ H)\/(J.go i H/\∃N:St->Hp->Prop,(∀σ' H',N σ' H'->∃m',m'<m/\W (i+1) m' σ' H')/\∀x H',J.yld i H x H'->g x σ H' λσ2 H2=>tb {D with nx:=N,ct:=N,bk:=D.nx} σ2 H2)
def wQ(fp:ZM)(h:Heap):ZB:=fp.filterMap λb=>(h.get? b).map λo=>(b,o)
def pW(hb:b∈fp)(e:h.get? b=some o):(b,o)∈wQ fp h:=List.mem_filterMap.mpr ⟨b,hb,by rw[e];rfl⟩
def OT(hp:p∈wQ fp h):p.1∈fp/\h.get? p.1=some p.2:=by
 let⟨b,hb,e⟩:=List.mem_filterMap.mp hp;cases q:h.get? b with
 |none=>rw[q]at e;cases e
 |some o=>
  grind
def Inv.pinned(I:Inv X U σ H s)(hf:∀b∈fp,vU X U H b)(ho:∀b∈fp,∃o,s.heap.get? b=some o/\∀v,o.data≠.cell v):Inv X (U++wQ fp s.heap) σ H s:=
 I.pins_of λp hp=>(þ.mp hp).elim (λz=>I.pin p (Ù _ z)) λz=>by
  let⟨hb,e⟩:=OT z;let⟨f0,f1,f2,_⟩:=hf p.1 hb
  grind
def Inv.unpinned(I:Inv X (U++pl) σ H s):Inv X U σ H s:=I.pins_of λp hp=>I.pin p (Ù _ (ü _ hp))
def aEQ(hp:PassesOwn 'b' X.A X.env X.xe)(hc:X.calm=true)(hi:PI X tg iter wi)(hg:PG X tg g)(hb:EV X body tb)(hs: ~~~(Zfi iter X.env)):PS X (.For tg iter body [] pos) (aLY wi g tb):=by
 intro U s σ H D I h;refine wpAny_For (cL (hi U s σ H _ I h) λv s1 h1=>cL h1 λitv s2 h2=>?_) hs;let⟨it,fp,tn,J,H2,e,I2,T,st2,f2,W,⟨m0,w0⟩,turn⟩:=h2;subst e
 -- what stays true of the iterator's objects through the loop
 have stat:∀{H':Hp},(∀b∈fp,H' b=none)->∀b∈fp,vU X U H' b:=λhn b hb=>⟨hn b hb,(f2 b hb).2⟩;refine codeAny_forLoop_any (λn s'=>∃i σ' H',Inv X U σ' H' s'/\tn i s'.heap/\(∀b∈fp,H' b=none)/\W i n σ' H') ?_ m0 ⟨0,σ,H2,I2,st2,λb hb=>(f2 b hb).1,w0⟩;rintro n s3 ⟨i,σ3,H3,I3,st3,fr3,w3⟩;rcases turn i n σ3 H3 w3 with ⟨stop,qn⟩|⟨go,N,hN,step⟩
 .refine wpAny_passesOwn hp (cL (T.done X rfl rfl rfl hc i U s3 σ3 H3 X.xe I3 (stat fr3) st3 stop) λr s4 zQ=>?_);let⟨hr,I4⟩:=zQ
  subst hr;exact wpAny_execs_nil ⟨σ3,H3,I4,qn⟩
 .refine wpAny_passesOwn hp (cL (T.item X rfl rfl rfl hc i U s3 σ3 H3 X.xe I3 (stat fr3) st3 go) λr s4 zQ=>?_);let⟨u,hr,h4⟩:=zQ
  subst hr;refine wpAny_passesOwn hp (cL h4 λ_ s5 zQ=>?_);let⟨x,H5,I5,r5,y5,st5,fr5⟩:=zQ;have I5':=I5.pinned (stat fr5) (T.obj _ _ st5);refine wpAny_passesOwn hp (cL (hg _ s5 σ3 H5 x u _ I5' r5 (step x H5 y5)) λ_ s6 zQ=>?_);let⟨σ6,H6,I6,q6⟩:=zQ;refine wpAny_passesOwn hp (cL (hb _ s6 σ6 H6 _ I6 q6) λf s7 q7=>?_);have again:∀{σ7:St}{H7:Hp},Inv X (U++wQ fp s5.heap) σ7 H7 s7->N σ7 H7->∃m,m<n/\∃i σ' H',Inv X U σ' H' s7/\tn i s7.heap/\(∀b∈fp,H' b=none)/\W i m σ' H':=λ{σ7 H7}I7 n7=>by
   let⟨m',hm,w7⟩:=hN σ7 H7 n7;refine⟨m',hm,i+1,σ7,H7,I7.unpinned,T.keep _ _ _ st5 λb hb o e=>(I7.pin (b,o) (Ù _ (Ù _ (pW hb e)))).1,λb hb=>?_,w7⟩;let⟨o,e,d⟩:=T.obj _ _ st5 b hb;exact(I7.pin (b,o) (Ù _ (Ù _ (pW hb e)))).2.1
  cases f with
  |next=>let⟨σ7,H7,I7,n7⟩:=q7;exact again I7 n7
  |cont=>let⟨σ7,H7,I7,n7⟩:=q7;exact again I7 n7
  |brk=>let⟨σ7,H7,I7,q7⟩:=q7;exact⟨σ7,H7,I7.unpinned,q7⟩
  |ret v=>let⟨x7,σ7,H7,I7,r7,q7⟩:=q7;exact⟨x7,σ7,H7,I7.unpinned,r7,q7⟩
end
abbrev R2:=V->V->Hp->VK->Prop
def jG(X:Cx)(f:Value->Value->Sem Value)(r:R2):Prop:=
 ∀(U:ZB)(s:Shared)(σ:St)(H:Hp)(x y:V)(v u:Value)(Q:VK),Inv X U σ H s->bG x v->bG y u->r x y H Q ->
  wpAny 'b' X.A (f v u) (EP X U σ Q) X.xe s
def ŉ(X:Cx)(f:Value->Sem Value)(r:V->Hp->VK->Prop):Prop:=
 ∀(U:ZB)(s:Shared)(σ:St)(H:Hp)(x:V)(v:Value)(Q:VK),Inv X U σ H s->bG x v->r x H Q ->
  wpAny 'b' X.A (f v) (EP X U σ Q) X.xe s
def fP(X:Cx)(f:Value)(r:List V->Hp->VK->Prop):Prop:=
 ∀(U:ZB)(s:Shared)(σ:St)(H:Hp)(xs:List V)(us:ZJ)(Q:VK),Inv X U σ H s->bH xs us->r xs H Q ->
  wpAny 'b' X.A (call f us) (EP X U σ Q) X.xe s
def aL0(X:Cx)(r:V->Hp->(Bool->Hp->Prop)->Prop):Prop:=
 ∀(U:ZB)(s:Shared)(σ:St)(H:Hp)(x:V)(v:Value)(Q:Bool->Hp->Prop),Inv X U σ H s->bG x v->r x H Q ->
  wpAny 'b' X.A (truthy v) (TP X U σ Q) X.xe s
def Ģ(r:R2)(ta tb:TE):TE:=λσ H Q=>ta σ H λx H1=>tb σ H1 λy H2=>r x y H2 Q
def aN6(r:V->Hp->VK->Prop)(ta:TE):TE:=λσ H Q=>ta σ H λx H1=>r x H1 Q
def rI(C:Int->Int->Prop)(g:Int->Int->V):R2:=λx y H Q=>∃i j,x=.int i/\y=.int j/\C i j/\Q (g i j) H
def OU(g:Int->Int->V):R2:=λx y H Q=>∃i j,x=.int i/\y=.int j/\Q (g i j) H
def rU(g:Int->V):V->Hp->VK->Prop:=λx H Q=>∃i,x=.int i/\Q (g i) H
section
def Ŋ(ha:PE X a ta)(hb:PE X b tb){R:V->V->Hp->Prop}(I:Inv X U σ H s)(h:ta σ H λx H1=>tb σ H1 λy H2=>R x y H2){f:Value->Value->Sem Value}(hf:∀v u s2 x y H2,Inv X U σ H2 s2->bG x v->bG y u->R x y H2->wpAny 'b' X.A (f v u) Q X.xe s2):
  wpAny 'b' X.A (eval a X.env) (λv s₁=>wpAny 'b' X.A (eval b X.env) (λu s₂=>wpAny 'b' X.A (f v u) Q X.xe s₂) X.xe s₁) X.xe s:=by
 refine cL (ha U s σ H _ I h) λv s1 zQ=>?_;let⟨x,H1,I1,r1,q1⟩:=zQ;refine cL (hb U s1 σ H1 _ I1 q1) λu s2 zQ=>?_;let⟨y,H2,I2,r2,q2⟩:=zQ;exact hf v u s2 x y H2 I2 r1 r2 q2
def aIN(ho:jG X (binaryOp op) r)(ha:PE X a ta)(hb:PE X b tb):PE X (.BinOp a op b pos) (Ģ r ta tb):=by
 intro U s σ H Q I h;exact wpAny_BinOp (Ŋ ha hb I h λv u s2 x y H2 I2 rx ry q=>ho U s2 σ H2 x y v u Q I2 rx ry q)
def aIO(ho:ŉ X (unaryOp op) r)(ha:PE X a ta):PE X (.UnaryOp op a pos) (aN6 r ta):=by
 intro U s σ H Q I h;exact UnaryOp_ (cL (ha U s σ H _ I h) λv s1 zQ=>by let⟨x,H1,I1,r1,q1⟩:=zQ;exact ho U s1 σ H1 x v Q I1 r1 q1)
def Ĳ{f:Value->Value->Sem Value}{C:Int->Int->Prop}{g:Int->Int->Int}(rule:∀(i j:Int)(t u:Tok)(s:Shared)(Q:ZA)(E:ZA),C i j->Q (.int (g i j) s.toks) {s with toks:=s.toks+1}->wpAny 'b' X.A (f (.int i t) (.int j u)) Q E s):
  jG X f (rI C λi j=>.int (g i j)):=by
 intro U s σ H x y v u Q I rx ry h;let⟨i,j,rfl,rfl,hc,q⟩:=h;let⟨t,rfl⟩:=rx;let⟨t',rfl⟩:=ry;exact rule i j t t' s _ _ hc ⟨.int (g i j),H,I.tok _,⟨_,rfl⟩,q⟩
def ů{f:Value->Value->Sem Value}{g:Int->Int->Int}(rule:∀(i j:Int)(t u:Tok)(s:Shared)(Q:ZA)(E:ZA),Q (.int (g i j) s.toks) {s with toks:=s.toks+1}->wpAny 'b' X.A (f (.int i t) (.int j u)) Q E s):
  jG X f (OU λi j=>.int (g i j)):=by
 intro U s σ H x y v u Q I rx ry h;let⟨i,j,rfl,rfl,q⟩:=h;let⟨t,rfl⟩:=rx;let⟨t',rfl⟩:=ry;exact rule i j t t' s _ _ ⟨.int (g i j),H,I.tok _,⟨_,rfl⟩,q⟩
def YH{f:Value->Value->Sem Value}{g:Int->Int->Bool}(rule:∀(i j:Int)(t u:Tok)(s:Shared)(Q:ZA)(E:ZA),Q (.bool (g i j)) s->wpAny 'b' X.A (f (.int i t) (.int j u)) Q E s):
  jG X f (OU λi j=>.bl (g i j)):=by
 intro U s σ H x y v u Q I rx ry h;let⟨i,j,rfl,rfl,q⟩:=h;let⟨t,rfl⟩:=rx;let⟨t',rfl⟩:=ry;exact rule i j t t' s _ _ ⟨.bl (g i j),H,I,rfl,q⟩
def YI(i j:Int):Prop:=0<=j/\j<=1000000/\i.natAbs<2^64
def aES:jG X (binaryOp .Add) (OU λi j=>.int (i+j)):=ů λ_ _ _ _ _ _ _ q=>add_int q
def aET:jG X (binaryOp .Sub) (OU λi j=>.int (i-j)):=ů λ_ _ _ _ _ _ _ q=>sub_int q
def YJ:jG X (binaryOp .Mod) (rI (λ_ j=>j≠0) λi j=>.int (i.fmod j)):=Ĳ λ_ _ _ _ _ _ _ hc q=>mod_int' hc q
def aEU:jG X (binaryOp .Pow) (rI YI λi j=>.int (i^j.toNat)):=Ĳ λ_ _ _ _ _ _ _ hc q=>pow_int_small hc.1 hc.2.1 hc.2.2 q
def aN7{f:Value->Sem Value}{g:Int->Int}(rule:∀(i:Int)(t:Tok)(s:Shared)(Q:ZA)(E:ZA),Q (.int (g i) s.toks) {s with toks:=s.toks+1}->wpAny 'b' X.A (f (.int i t)) Q E s):
  ŉ X f (rU λi=>.int (g i)):=by
 intro U s σ H x v Q I rx h;let⟨i,rfl,q⟩:=h;let⟨t,rfl⟩:=rx;exact rule i t s _ _ ⟨.int (g i),H,I.tok _,⟨_,rfl⟩,q⟩
def aEV:ŉ X (unaryOp .USub) (rU λi=>.int (-i)):=aN7 λ_ _ _ _ _ q=>neg_int q
end
section
def mT{U:ZB}{σ:St}{H:Hp}{s:Shared}{Q:VK}{k k':Bool}(I:Inv X U σ H s)(q:Q (.bl k) H)(e:k=k'):EP X U σ Q (.bool k') s:=by
 subst e;exact⟨.bl k,H,I,rfl,q⟩
def jJ:jG X (compareOp .Lt) (OU λi j=>.bl (decide (i<j))):=YH λ_ _ _ _ _ _ _ q=>lt_int q
def RM:jG X (compareOp .LtE) (OU λi j=>.bl (decide (i<=j))):=YH λ_ _ _ _ _ _ _ q=>le_int q
def E7:jG X (compareOp .Gt) (OU λi j=>.bl (decide (j<i))):=YH λ_ _ _ _ _ _ _ q=>gt_int q
def aIQ:jG X (compareOp .GtE) (OU λi j=>.bl (decide (j<=i))):=YH λ_ _ _ _ _ _ _ q=>ge_int q
def RN:jG X (compareOp .Is) (λx y H Q=>y=.non/\Q (.bl (decide (x=.non))) H):=by
 intro U s σ H x y v u Q I rx ry h;let⟨rfl,q⟩:=h;cases ry;refine is_none_gen (mT I q ?_);cases x<;>first
  |(cases rx;rfl)
  |(let⟨t,rfl⟩:=rx;rfl)
def YK:jG X (compareOp .IsNot) (λx y H Q=>y=.non/\Q (.bl (!decide (x=.non))) H):=by
 intro U s σ H x y v u Q I rx ry h;let⟨rfl,q⟩:=h;cases ry;refine isnot_none_gen (mT I q ?_);cases x<;>first
  |(cases rx;rfl)
  |(let⟨t,rfl⟩:=rx;rfl)
def jG.or(h:jG X f r)(h':jG X f r'):jG X f (λx y H Q=>r x y H Q\/r' x y H Q):=by
 intro U s σ H x y v u Q I rx ry q;rcases q with q|q
 .exact h U s σ H x y v u Q I rx ry q
 .exact h' U s σ H x y v u Q I rx ry q
def bB(b:Expr)(h:⇑(op≠.In))(h2:⇑(op≠.NotIn)):behindInMarks op b=false:=by
 have e1:(op == CmpOp.In)=false:=by cases op<;>first|rfl|exact absurd rfl h
 have e2:(op == CmpOp.NotIn)=false:=by cases op<;>first|rfl|exact absurd rfl h2
 cases b<;>simp[behindInMarks,e1,e2]
def YL(ho:jG X (compareOp op) r)(ha:PE X a ta)(hb:PE X b tb)(hm:behindInMarks op b=false):PE X (.Compare a [op] [b] pos) (Ģ r ta tb):=by
 intro U s σ H Q I h;exact wpAny_Compare1 (Ŋ ha hb I h λv u s2 x y H2 I2 rx ry q=>ho U s2 σ H2 x y v u Q I2 rx ry q) hm
def Ű(t:TE):TT:=λσ H Q=>t σ H λx H'=>∃k,x=.bl k/\Q k H'
def YM(ho:jG X (compareOp op) r)(ha:PE X a ta)(hb:PE X b tb)(hm:behindInMarks op b=false):PT X (.Compare a [op] [b] pos) (Ű (Ģ r ta tb)):=by
 intro U s σ H Q I h;refine wpAny_isTrue_Compare1 (cL (ha U s σ H _ I h) λv s1⟨x,H1,I1,r1,q1⟩=>cL (hb U s1 σ H1 _ I1 q1) λu s2⟨y,H2,I2,r2,q2⟩=>
  cL (ho U s2 σ H2 x y v u _ I2 r1 r2 q2) λc s3⟨z,H3,I3,r3,k,e,q3⟩=>?_) hm
 subst e;cases r3;exact wpAny_truthy_bool ⟨H3,I3,q3⟩
def JF(r r':R2)(ta tb tc:TE):TE:=λσ H Q=>ta σ H λx H1=>tb σ H1 λy H2=>r x y H2 λz H3=>∃k,z=.bl k /\
 (if k=true then tc σ H3 λw' H4=>r' y w' H4 Q else Q (.bl false) H3)
def RO(ho:jG X (compareOp op) r)(ho':jG X (compareOp op') r')(ha:PE X a ta)(hb:PE X b tb)(hc:PE X c tc)(hm:lastMarks [op,op'] [b,c]=false:=by with_unfolding_all rfl):PE X (.Compare a [op,op'] [b,c] pos) (JF r r' ta tb tc):=by
 intro U s σ H Q I h;refine Compare_chain (cL (ha U s σ H _ I h) λv s1⟨x,H1,I1,r1,q1⟩=>chain_link (cL (hb U s1 σ H1 _ I1 q1) λu s2⟨y,H2,I2,r2,q2⟩=>
  cL (ho U s2 σ H2 x y v u _ I2 r1 r2 q2) λd s3⟨z,H3,I3,r3,k,e,q3⟩=>?_)) hm
 subst e;cases r3;refine wpAny_truthy_bool ?_;cases k with
 |false=>exact ite_ff ⟨.bl false,H3,I3,rfl,q3⟩
 |true=>exact ite_tt (chain_last (cL (hc U s3 σ H3 _ I3 q3) λw' s4 zQ=>by let⟨z',H4,I4,r4,q4⟩:=zQ;exact ho' U s4 σ H4 y z' u w' Q I4 r2 r4 q4))
def RP(ho:jG X (compareOp op) r)(ho':jG X (compareOp op') r')(ha:PE X a ta)(hb:PE X b tb)(hc:PE X c tc)(hm:lastMarks [op,op'] [b,c]=false:=by with_unfolding_all rfl):PT X (.Compare a [op,op'] [b,c] pos) (Ű (JF r r' ta tb tc)):=by
 intro U s σ H Q I h;refine isTrue_chain (cL (ha U s σ H _ I h) λv s1⟨x,H1,I1,r1,q1⟩=>test_link (cL (hb U s1 σ H1 _ I1 q1) λu s2⟨y,H2,I2,r2,q2⟩=>
  cL (ho U s2 σ H2 x y v u _ I2 r1 r2 q2) λd s3⟨z,H3,I3,r3,k,e,q3⟩=>?_)) hm
 subst e;cases r3;refine wpAny_truthy_bool ?_;cases k with
 |false=>
  let⟨k',e',q'⟩:=q3;cases e';exact ite_ff ⟨H3,I3,q'⟩
 |true=>
  refine ite_tt (test_last (cL (hc U s3 σ H3 _ I3 q3) λw' s4⟨z',H4,I4,r4,q4⟩=>cL (ho' U s4 σ H4 y z' u w' _ I4 r2 r4 q4) λd' s5 zQ=>?_));let⟨z2,H5,I5,r5,k2,e2,q5⟩:=zQ;subst e2;cases r5;exact wpAny_truthy_bool ⟨H5,I5,q5⟩
def ű(K:ZC)(x:V)(H:Hp)(k:Bool):Prop:=
 match x with
 |.non=>k=false
 |.bl b=>k=b
 |.int i=>k=(i != 0)
 |.str y=>y.length<=sizeLine/\k=((y.length:Int) != 0)
 |.byt y=>y.size<=sizeLine/\k=((y.size:Int) != 0)
 |.ref p=>(∃xs,eK K H p xs/\k=!xs.isEmpty)\/(∃xs,qV K H p xs/\k=!xs.isEmpty)\/∃À,H p=some (.dK À)/\k=!À.isEmpty
 |_=>False
def JG{vs:List (κ×Value)}(r:KV À vs):(!vs.isEmpty)=!À.isEmpty:=by
 cases r<;>rfl
def wR(r:bH xs its):(!its.toArray.isEmpty)=!xs.isEmpty:=by
 cases r<;>simp
def pX:(sizeLine:Nat)<2^63:=by rw[sizeLine_eq];decide
def aEW:aL0 X (λx H Q=>∃k,ű X.K x H k/\Q k H):=by
 intro U s σ H x v Q I rx h;let⟨k,e,q⟩:=h;have hl:=pX;have hs:sizeLine=16777216:=sizeLine_eq;cases x with
 |non=>
  cases rx;have e':k=false:=e;subst e';exact truthy_none ⟨H,I,q⟩
 |bl b=>
  cases rx;have e':k=b:=e;subst e';exact wpAny_truthy_bool ⟨H,I,q⟩
 |int i=>
  let⟨t,rfl⟩:=rx;have e':k=(i != 0):=e;subst e';exact PySem.P.truthy_int ⟨H,I,q⟩
 |str y=>
  let⟨t,rfl⟩:=rx;obtain⟨hy,e'⟩:y.length<=sizeLine/\k=((y.length:Int) != 0):=e;subst e';exact PySem.P.truthy_str ∅ ⟨H,I.tok _,q⟩
 |byt y=>
  let⟨t,rfl⟩:=rx;obtain⟨hy,e'⟩:y.size<=sizeLine/\k=((y.size:Int) != 0):=e;subst e';exact W.truthy_bytes ∅ ⟨H,I.tok _,q⟩
 |ref p=>
  cases rx;have e':(∃xs,eK X.K H p xs/\k=!xs.isEmpty)\/(∃xs,qV X.K H p xs/\k=!xs.isEmpty)\/∃À,H p=some (.dK À)/\k=!À.isEmpty:=e;rcases e' with ⟨xs,hx,e'⟩|⟨xs,hx,e'⟩|⟨À,hx,e'⟩
  .subst e'
   let⟨its,r,pl,hz⟩:=I.list hx;have hlen:=r.length;exact wpAny_truthy_list pl.isList 'i' ⟨H,I.tok _,by rw[wR r];exact q⟩
  .subst e'
   let⟨its,r,pl,hz⟩:=I.tuple hx;have hlen:=r.length;exact truthy_tuple pl 'i' ⟨H,I.tok _,by rw[wR r];exact q⟩
  .subst e'
   obtain⟨hz,hS,vs,r,m⟩:À.length<=sizeLine/\(p == sysModules)=false/\∃vs,KV À vs/\s.heap.DictOf (c9 X.prog X.w) p vs:=I.hok p _ hx;have hlen:À.length=vs.length:=Paired.length r;exact wpAny_truthy_dict hS m ∅ ⟨H,I.tok _,by rw[JG r];exact q⟩
 |_=>exact(show False from e).elim
def RQ(ha:PE X a ta)(he:∀whole,isTrue a X.env whole=(do let v <- whole;standAt a.pos;holding [v] (truthy v))):
  PT X a (λσ H Q=>ta σ H λx H'=>∃k,ű X.K x H' k/\Q k H'):=by
 intro U s σ H Q I h;exact isTrue_plain (cL (ha U s σ H _ I h) λv s1 zQ=>by let⟨x,H1,I1,r1,q1⟩:=zQ;exact aEW U s1 σ H1 x v Q I1 r1 q1) (he _)
def JH:jG X (binaryOp .Add) (λx y H Q=>∃i j,x=.str i/\y=.str j/\i.length+j.length<=sizeLine/\Q (.str (i++j)) H):=by
 intro U s σ H x y v u Q I rx ry h;let⟨i,j,rfl,rfl,hz,q⟩:=h;let⟨t,rfl⟩:=rx;let⟨t',rfl⟩:=ry;exact add_str (λt' tk=>⟨.str (i++j),H,I.tok _,⟨_,rfl⟩,q⟩) hz
def mU(r:bH [x] us):∃u,us=[u]/\bG x u:=by
 cases r with
 |cons r1 r2=>cases r2;exact⟨_,rfl,r1⟩
def RR(r:bH [x,y] us):∃u w',us=[u,w']/\bG x u/\bG y w':=by
 cases r with
 |cons r1 r2=>
  cases r2 with
  |cons r3 r4=>cases r4;exact⟨_,_,rfl,r1,r3⟩
def qY:fP X (.builtin "abs") (λxs H Q=>∃i,xs=[.int i]/\Q (.int (if i<0 then -i else i)) H):=by
 intro U s σ H xs us Q I r h;let⟨i,rfl,q⟩:=h;let⟨u,rfl,t,rfl⟩:=mU r;exact call_abs_int λu tk=>⟨.int (if i<0 then -i else i),H,I.tok _,⟨_,rfl⟩,q⟩
end
structure JI(h:Heap)(x dx C:Addr)(mA:ZD):Prop where
 obj:h.get? x=some (W.instObj C dx)
 ns:h.Ns1 dx mA
 ne:dx≠x
def OV{h:Heap}(n:h.Ns1 dx mA):∃od,h.get? dx=some od/\∀name,W.lookIn name od=some (mA name):=by
 let⟨o,es,ep,ho,hd,hk,_,hm⟩:=n;refine⟨o,ho,λname=>?_⟩;have e:=hm name;unfold nsFind findBy at e;rw[<- Array.find?_toList]at e;unfold W.lookIn;rw[hd];dsimp only;split
 .grind
 .rename_i q
  rw[q]at e;have a:es.toList.any (·.refKey)=false:=by
   rw[List.any_eq_false];intro y hy;let⟨z,t,hkey⟩:=hk y (Array.mem_toList_iff.mp hy);simp[DictEntry.refKey,hkey]
  grind
def JI.look(I:JI h x dx C mA):∃od,W.InstAt h x (W.instObj C dx) C (some od)/\∀name,W.lookIn name od=some (mA name):=
 let ⟨od,ho,hl⟩:=OV I.ns
 ⟨od,⟨I.obj,rfl,rfl,ho⟩,hl⟩
section
variable {prog:Program}{w:World}{A:Around}{E:ZA}{s:Shared}{K:ZC}{x dx C f:Addr}{mA:ZD}{name:Str}{v:Value}
def YN{expr:Bool}{Q:ZA}(X:K.In s.heap)(I:JI s.heap x dx C mA)(hg:W.plainGet K C name=true)(hh:W.hasDictIn K C=true)(ha:W.findIn K (.ref C) name=some none)(hv:mA name=some v)(hv':W.handedIn v=true)(h:Q v {s with toks:=s.toks+1}):
  wpAny 'o' A (getAttr (.ref x) name expr) Q E s:=by
 let⟨od,J,hl⟩:=I.look;exact W.get_value X J (W.plainGet_of hg).1 (W.findObj_own hh ha rfl (by rw[hl,hv])) hv' h
def RS{pl:Sem Bool}{Q:Value×ZJ->Shared->Prop}(X:K.In s.heap)(I:JI s.heap x dx C mA)(hg:W.plainGet K C name=true)(hf:W.findIn K (.ref C) name=some (some (.ref f)))(ht:W.isFn K (.ref f)=true)(hv:mA name=none)(h:Q (.ref f,[.ref x]) s):
  wpAny 'o' A (getMethod (.ref x) name pl) Q E s:=by
 let⟨od,J,hl⟩:=I.look;exact W.method_fn X J (W.plainGet_of hg).1 (W.plainGet_of hg).2 hf (beq_iff_eq.mp ht) (by show (W.lookIn name od).map (·.isSome)=some false;rw[hl,hv];rfl) h
def YO{ns:ZG}{Q:Unit->Shared->Prop}(X:K.In s.heap)(I:JI s.heap x dx C mA)(hs:W.findIn K (.ref C) "__setattr__"=some (some (.builtin "object.__setattr__")))(hp:W.plainOver K C=true)(ht:W.takerIn K C name=some none)(hh:W.hasDictIn K C=true)(hw:PySem.Within mA ns)(hsz:ns.length<=sizeLine)(h:∀h',JI h' x dx C (λy=>if y=name then some v else mA y)->Heap.SameBut dx s.heap h'->Q () {s with heap:=h',toks:=s.toks+2}):
  wpAny 'o' A (setAttr (.ref x) name v) Q E s:=by
 let⟨od,J,hl⟩:=I.look;refine W.set_plain X J hs (W.osa_open (s:={s with toks:=s.toks+1}) (r:=none) X J hp ht λb=>?_);let⟨cd,hc,hd'⟩:=W.any_some hh;have hx:s.heap.get? x=some ⟨.ref C,some dx,.plain,#[]⟩:=I.obj;refine wpAny_bind (wpAny_pure (wpAny_bind (wpAny_bind (wpAny_loadPart hx (wpAny_bind (W.Looks.here (s:={s with toks:=s.toks+1}) (W.looks_clsIn X hc) ?_))))));rw[hd'];refine wpAny_pure (a:=some dx) (wpAny_bind (wpAny_pure (wpAny_bind ?_)));refine wpAny_nsSet1 (s:={s with toks:=s.toks+1}) I.ns λh' hn2 hs2=>?_;let⟨oD,esD,epD,hoD,hdD,hcD⟩:=hn2.count (PySem.Within.cons name v hw);refine wpAny_bind (wpAny_lookBehind hoD (by rw[hdD];exact pastItsLine_dict (Õ hcD 'i')) ?_)
 exact wpAny_pure (h _ ⟨(hs2.2 _ (Í I.ne)).trans I.obj,hn2,I.ne⟩ hs2)
def RT(X:K.In s.heap)(hm:W.makesIn K C=true)(hi:W.findIn K (.ref C) "__init__"=some (some (.ref f)))(hf:W.typeIn K (.ref f)=some (.type "function"))(h:codeAny 'o' (A.under (.builtin "type.__call__" ⟨.ref C::vs,kw⟩)) (.call (.ref f) ⟨.ref (s.heap.objs.size+1)::vs,kw⟩) (W.InitBack (s.heap.objs.size+1) R)
   {s with heap:=(s.heap.push W.emptyDict).push (W.instObj C s.heap.objs.size)}):
  codeAny 'o' A (.call (.ref C) ⟨vs,kw⟩) R s:=by
 let⟨hh,g,d,t,os⟩:=s;exact W.make_core (W.makes_of X hm) (W.looks_findIn X hi) (λself=>W.bind_fn X self hf) (.inl rfl) h
end
def kK(f:Str)(v:V):List (Str×V)->List (Str×V)
 |[]=>[(f,v)]
 |(g,x)::r=>if g=f then (g,v)::r else (g,x)::kK f v r
def vB(f g:Str)(v:V):∀fs:List (Str×V),(kK f v fs).lookup g=if g=f then some v else fs.lookup g
 |[]=>by
  show List.lookup g [(f,v)]=_
  grind
 |(k,x)::r=>by
  have ih:=vB f g v r;rw[show kK f v ((k,x)::r)=(if k=f then (k,v)::r else (k,x)::kK f v r)from rfl]
  grind
def tP(f:Str)(v:V):∀fs:List (Str×V),f∈(kK f v fs).map (·.1)/\∀g,g∈fs.map (·.1)->g∈(kK f v fs).map (·.1)
 |[]=>⟨by simp[kK],λg h=>by simp at h⟩
 |(k,x)::r=>by
  let⟨i1,i2⟩:=tP f v r;rw[show kK f v ((k,x)::r)=(if k=f then (k,v)::r else (k,x)::kK f v r)from rfl]
  grind
def vC(f:Str)(v:V):∀fs:List (Str×V),(kK f v fs).length<=fs.length+1
 |[]=>by simp[kK]
 |(k,x)::r=>by
  have ih:=vC f v r;rw[show kK f v ((k,x)::r)=(if k=f then (k,v)::r else (k,x)::kK f v r)from rfl]
  grind
def oY.some_of(r:oY (some v) o):∃u,o=some u/\bG v u:=by
 cases o with
 |none=>exact(show False from r).elim
 |some u=>exact⟨u,rfl,r⟩
def oY.none_of(r:oY none o):o=none:=by
 cases o with
 |none=>rfl
 |some u=>exact(show False from r).elim
def OW(r:bG v u):W.handedIn u=true:=by
 cases v with
 |non=>cases (show u=Value.none from r);rfl
 |bl b=>cases (show u=Value.bool b from r);rfl
 |int i=>let⟨t,e⟩:=(show ∃t,u=Value.int i t from r);cases e;rfl
 |str x=>let⟨t,e⟩:=(show ∃t,u=Value.str x t from r);cases e;rfl
 |byt b=>let⟨t,e⟩:=(show ∃t,u=Value.bytes b t from r);cases e;rfl
 |flt b=>let⟨t,e⟩:=(show ∃t,u=Value.float b t from r);cases e;rfl
 |ref a=>cases (show u=Value.ref a from r);rfl
 |ty n=>cases (show u=Value.type n from r);rfl
section
def B9(hok:mG P w H h)(e:H a=some (.ins C dx fs)):∃mA,JI h a dx C mA/\(∀f,oY (fs.lookup f) (mA f))/\PySem.Within mA (fs.map (·.1))/\fs.length<=1000/\H dx=some (.own a):=by
 let⟨d,z,ne,ob,mA,n,r,q⟩:=(show dO P w H h a (.ins C dx fs)from hok a _ e);exact⟨mA,⟨ob,n,ne⟩,r,q,z,d⟩
end
structure Q5(K:ZC)(C:Addr):Prop where
 pg:W.plainGet K C Str.empty=true
 hd:W.hasDictIn K C=true
 po:W.plainOver K C=true
 sa:W.findIn K (.ref C) "__setattr__"=some (some (.builtin "object.__setattr__"))
def Q5.get{K:ZC}(c:Q5 K C)(f:Str):W.plainGet K C f=true:=c.pg
def lI(K:ZC)(C:Addr)(f:Str):Prop:=W.findIn K (.ref C) f=some none
def lI.taker{K:ZC}(n:lI K C f):W.takerIn K C f=some none:=by
 unfold W.takerIn;rw[show W.findIn K (.ref C) f=some none from n];rfl
structure YQ(K:ZC)(C:Addr)(m:Str)(f:Addr):Prop where
 at_:W.findIn K (.ref C) m=some (some (.ref f))
 fn:W.isFn K (.ref f)=true
 kp:W.keepIn K (.ref f)=true
section
variable {X:Cx}{U:ZB}{σ:St}{H:Hp}{s:Shared}{a C dx:Addr}{fs:List (Str×V)}{f:Str}{v:V}{A:Around}{E:ZA}
def JJ(I:Inv X U σ H s)(e:H a=some (.ins C dx fs))(c:Q5 X.K C)(n:lI X.K C f)(l:fs.lookup f=some v)(h:∀u s',Inv X U σ H s'->bG v u->Q u s'):wpAny 'b' A (getAttr (.ref a) f b) Q E s:=by
 let⟨mA,O,r,_,_,_⟩:=B9 I.hok e;let⟨u,hu,ru⟩:=oY.some_of (v:=v) (o:=mA f) (by rw[<- l];exact r f);exact YN I.kIn O (c.get f) c.hd n hu (OW ru) (h u _ (I.tok _) ru)
def JK{m:Str}{g:Addr}{pl:Sem Bool}{Q:Value×ZJ->Shared->Prop}(I:Inv X U σ H s)(e:H a=some (.ins C dx fs))(c:Q5 X.K C)(k:YQ X.K C m g)(l:fs.lookup m=none)(h:Q (.ref g,[.ref a]) s):wpAny 'b' A (getMethod (.ref a) m pl) Q E s:=by
 let⟨mA,O,r,_,_,_⟩:=B9 I.hok e;have hn:mA m=none:=oY.none_of (by rw[<- l];exact r m);exact RS I.kIn O (c.get m) k.at_ k.fn hn h
def JL{y:V}{u:Value}{Q:Unit->Shared->Prop}(I:Inv X U σ H s)(e:H a=some (.ins C dx fs))(c:Q5 X.K C)(n:lI X.K C f)(hl:fs.length<1000)(ry:bG y u)(h:∀s',Inv X U σ (aX H a (.ins C dx (kK f y fs))) s'->Q () s'):wpAny 'b' A (setAttr (.ref a) f u) Q E s:=by
 let⟨mA,O,r,wi,_,ho⟩:=B9 I.hok e;have hz:(fs.map (·.1)).length<=sizeLine:=by rw[Å,sizeLine_eq];lia
 refine YO I.kIn O c.sa c.po n.taker c.hd wi hz λh' O' sb=>h _ ?_;have hd:∃o,h'.get? dx=some o:=let ⟨o,_,_,e',_⟩:=O'.ns;⟨o,e'⟩
 refine I.write (x:=a) (e:=dx) (by rw[e];exact True.intro) (.inr ho) (λb q hb z=>(sb.2 b hb).trans z) hd ?_;refine⟨by rw[aG O.ne];exact ho,?_,O.ne,O'.obj,_,O'.ns,λg=>?_,λg hg=>?_⟩
 .have:=vC f y fs;exact Õ ‹_› ‹_›
 .show oY ((kK f y fs).lookup g) (if g=f then some u else mA g)
  rw[vB];by_cases q:g=f
  .rw[Á q,Á q];exact ry
  grind
 .by_cases q:g=f
  .rw[q];exact(tP f y fs).1
  .refine(tP f y fs).2 g (wi g λz=>hg ?_)
   grind
def Inv.made(I:Inv X U σ H s):Inv X U σ (aX (aX H s.heap.objs.size (.own (s.heap.objs.size+1))) (s.heap.objs.size+1) (.ins C s.heap.objs.size []))
  {s with heap:=(s.heap.push W.emptyDict).push (W.instObj C s.heap.objs.size)}:=by
 have e1:(s.heap.push W.emptyDict).get? s.heap.objs.size=some W.emptyDict:=Heap.get?_push_size s.heap rfl;have e2:((s.heap.push W.emptyDict).push (W.instObj C s.heap.objs.size)).get? (s.heap.objs.size+1)=some (W.instObj C s.heap.objs.size):=by
  have:=Heap.get?_push_size (s.heap.push W.emptyDict) (o:=W.instObj C s.heap.objs.size) rfl
  rwa [Heap.size_push]at this
 have e3:(s.heap.push W.emptyDict).Ns s.heap.objs.size (λ_=>none):=⟨W.emptyDict,#[],_,e1,rfl,(λe he=>absurd he 'e'),λ_=>rfl⟩;have I1:=I.laid (a:=s.heap.objs.size) (o:=.own (s.heap.objs.size+1)) (h':=s.heap.push W.emptyDict) (t':=s.toks) (λb u q=>Heap.get?_push_of_some _ q) (Ç _) ⟨_,e1⟩;refine I1.laid (a:=s.heap.objs.size+1) (o:=.ins C s.heap.objs.size []) (t':=s.toks) (λb u q=>Heap.get?_push_of_some _ q) (ö (Heap.size_push _ _)) ?_;have ne:s.heap.objs.size≠s.heap.objs.size+1:=Ê (ç _);refine⟨by rw[aG ne,aN],î _,ne,e2,λ_=>none,(Heap.Ns1.of_empty e3).at λo q=>Heap.get?_push_of_some _ q,λ_=>True.intro,λy hy=>absurd rfl hy⟩
def YR(hb:attributeBase e f env (eval e env)=eval e env)(h:wpAny 'o' A (eval e env) (λo s₁=>wpAny 'o' A (getAttr o f true) Q E s₁) E s):wpAny 'o' A (eval (.Attribute e f pos) env) Q E s:=
 Attribute_any_ h (by rw[arm_eval_Attribute,hb])
end
def aL1(K:ZC)(ta:TE)(f:Str):TE:=λσ H Q=>ta σ H λx H1=>∃a C dx fs v,x=.ref a/\H1 a=some (.ins C dx fs)/\Q5 K C/\lI K C f/\fs.lookup f=some v/\Q v H1
def aL2(K:ZC)(ta tv:TE)(f:Str):TS:=λD σ H=>tv σ H λy H1=>ta σ H1 λx H2=>∃a C dx fs,x=.ref a/\H2 a=some (.ins C dx fs)/\Q5 K C/\lI K C f/\fs.length<1000 /\
 D.nx σ (aX H2 a (.ins C dx (kK f y fs)))
section
def CC(he:PE X e ta)(hb:attributeBase e f X.env (eval e X.env)=eval e X.env):PE X (.Attribute e f pos) (aL1 X.K ta f):=by
 intro U s σ H Q I h;refine YR hb (cL (he U s σ H _ I h) λu s1 zQ=>?_);let⟨x,H1,I1,rx,a,C,dx,fs,v,ex,ea,c,n,l,q⟩:=zQ;subst ex;obtain rfl:u=Value.ref a:=rx;exact JJ I1 ea c n l λu' s2 I2 ru=>⟨v,H1,I2,ru,q⟩
def aEX(ha:PE X o ta)(hv:PE X value tv)(hs:swapsWith value (some (.Attribute o f pos')) pos.line X.env=pure false):PS X (.Assign [.Attribute o f pos'] value pos) (aL2 X.K ta tv f):=by
 intro U s σ H D I h;refine plainObj_wpAny_Assign_Attribute (cL (hv U s σ H _ I h) λu s1⟨y,H1,I1,ry,q⟩=>cL (ha U s1 σ H1 _ I1 q) λov s2 zQ=>?_) hs;let⟨x,H2,I2,rx,a,C,dx,fs,ex,ea,c,n,l,q2⟩:=zQ;subst ex;obtain rfl:ov=Value.ref a:=rx;exact JL I2 ea c n l ry λs3 I3=>⟨σ,_,I3,q2⟩
end
section
end
structure fC(k:Nat)(A:Around):Prop where
 hd:A.handled=none
 dp:A.depth+3*k+5<recursionLimit
 un:A.units+16*k+200<cLine
def fC.mono(r:fC k A)(h:j<=k):fC j A:=⟨r.hd,by have:=r.dp;lia,by have:=r.un;lia⟩
def fC.deeper(r:fC (k+1) A)(env:Env):fC k (A.deeper env):=
 ⟨r.hd,by have:=r.dp;show A.depth+1+3*k+5<_;lia,by have:=r.un;show A.units+3+16*k+200<_;lia⟩
def JM{A:Around}:(A.under (.builtin "type.__call__" ⟨.ref C::us,kw⟩)).depth=A.depth+1:=by
 first|rfl|simp[Around.under,Code.weight,Code.isCreation,Code.isGuard,Code.isCaller,Code.frames,Code.isFrame,guardIds]
def JN{A:Around}:(A.under (.builtin "type.__call__" ⟨.ref C::us,kw⟩)).units=A.units+1:=by
 first|rfl|simp[Around.under,Code.cUnits,Code.frames,Code.isFrame]
def fC.make(r:fC (k+1) A)(C:Addr)(us:ZJ)(kw:List (Str×Value)):fC k (A.under (.builtin "type.__call__" ⟨.ref C::us,kw⟩)):=
 ⟨r.hd,by have:=r.dp;rw[JM];lia,by have:=r.un;rw[JN];lia⟩
def fC.depth(r:fC k A):A.depth<recursionLimit:=by have:=r.dp;lia
def fC.units(r:fC k A):A.units+64<cLine:=by have:=r.un;lia
def ŋ:TA:=λ_ H Q=>Q [] H
def RU(ta:TE)(tr:TA):TA:=λσ H Q=>ta σ H λx H1=>tr σ H1 λxs H2=>Q (x::xs) H2
section
def iU:PA X [] ŋ:=λ_ _ _ _ H Q I h=>Calls.spliced_nil ⟨[],H,I,.nil,h⟩
def dW(ha:PE X e te)(hr:PA X es t)(hs:↥(Zse e es X.env)):PA X (e::es) (RU te t):=by
 intro pos U s σ H Q I h;rw[hs];show wpAny _ _ (spliced ((false,eval e X.env)::backTo pos (starEach es X.env))) _ _ s;refine Calls.spliced_cons (cL (ha U s σ H _ I h) λu s1 zQ=>?_);let⟨x,H1,I1,r1,q1⟩:=zQ;exact cL (hr pos U s1 σ H1 _ I1 q1) λus s2 zQ=>by let⟨xs,H2,I2,r2,q2⟩:=zQ;exact ⟨x::xs,H2,I2,.cons r1 r2,q2⟩
def aL3(t:TA):TE:=λσ H Q=>t σ H λxs H1=>xs.length<=sizeLine/\∀p,H1 p=none->Q (.ref p) (aX H1 p (.tup xs))
def aL4(t:TA):TE:=λσ H Q=>t σ H λxs H1=>xs.length<=sizeLine/\∀p,H1 p=none->Q (.ref p) (aX H1 p (.lst xs))
def RV(h:PA X es t):PE X (.Tuple es x1 pos) (aL3 t):=by
 intro U s σ H Q I hq;refine wpAny_Tuple_spliced (cL (h pos U s σ H _ I hq) λus s1⟨xs,H1,I1,r,z,q⟩=>⟨by rw[<- r.length];exact z,?_⟩);have hf:H1 s1.heap.objs.size=none:=I1.hok.fresh (Ç _);refine⟨.ref s1.heap.objs.size,aX H1 s1.heap.objs.size (.tup xs),I1.laid (t':=s1.toks) (λb u e=>Heap.get?_push_of_some _ e) (Ç _) ?_,rfl,q _ hf⟩;exact⟨z,us,r,⟨_,Heap.get?_push_size _ rfl,rfl,_,rfl⟩⟩
def aEZ(h:PA X es t):PE X (.List es pos) (aL4 t):=by
 intro U s σ H Q I hq;refine wpAny_List_spliced (cL (h pos U s σ H _ I hq) λus s1⟨xs,H1,I1,r,z,q⟩=>⟨by rw[<- r.length];exact z,?_⟩);have hf:H1 s1.heap.objs.size=none:=I1.hok.fresh (Ç _);refine⟨.ref s1.heap.objs.size,aX H1 s1.heap.objs.size (.lst xs),I1.laid (t':=s1.toks) (λb u e=>Heap.get?_push_of_some _ e) (Ç _) ?_,rfl,q _ hf⟩;exact⟨z,us,0,r,Heap.get?_push_size _ rfl⟩
end
abbrev Sp:=List V->Hp->VK->XK->Prop
abbrev RW:=List Env->Hp->Shared->XK->ZA
structure JO(P:Program)(w:World)(K:ZC)(mg:ZD)(base:Heap)(A:Around)(outer:List Env)(s:Shared)(H:Hp):Prop where
 frames:A.frames=some outer
 mod:Mod K mg base
 bs:∀b o,base.get? b=some o->s.heap.get? b=some o/\H b=none
 bsz:base.objs.size<=s.heap.objs.size
 funs:s.heap.FunFrames base outer
 frf:∀b∈vA outer,H b=none
 hok:mG P w H s.heap
 bare:AllBare s.gens
def CE(outer:List Env)(P:Program)(w:World)(H:Hp)(s:Shared)(Q:VK)(u:Value)(s':Shared):Prop:=
 ∃v H',s'.os=s.os/\AllBare s'.gens/\Un (vA outer) [] H H' s.heap s'.heap/\mG P w H' s'.heap/\bG v u/\Q v H'
def CR(CX:RW)(outer:List Env)(P:Program)(w:World)(H:Hp)(s:Shared)(Q:VK)(E:XK)(r:Result)(s':Shared):Prop:=
 match r with
 |.ok (.ret u)=>CE outer P w H s Q u s'
 |.ok _=>False
 |.error e=>CX outer H s E e s'
structure qZ(P:Program)(w:World)(K:ZC)(mg:ZD)(base:Heap)(CX:RW)(k:Nat)(f:Addr)(fd:FuncData)(ps:ZG)(sp:Sp):Prop where
 len:∀vs H Q E,sp vs H Q E->vs.length=ps.length
 run:∀(A:Around)(outer:List Env)(s:Shared)(H:Hp)(args:Args)(us:ZJ)(vs:List V)(Q:VK)(E:XK),fC k A->JO P w K mg base A outer s H->BindsTo s fd args (ps.zip us)->bH vs us->sp vs H Q E ->
  codeAny (model P w) A (.call (.ref f) args) (CR CX outer P w H s Q E) s
def JO.make{K:ZC}(e:JO P w K mg base A outer s H)(C:Addr)(us:ZJ)(kw:List (Str×Value)):
  JO P w K mg base (A.under (.builtin "type.__call__" ⟨.ref C::us,kw⟩)) outer s H:=⟨by first|exact e.frames|(simpa[Around.under,Code.envs,Code.isFrame,pushEnvs]using e.frames),e.mod,e.bs,e.bsz,e.funs,e.frf,e.hok,e.bare⟩
section
variable {X:Cx}{U:ZB}{σ:St}{H:Hp}{s s':Shared}
def Inv.env0(I:Inv X U σ H s):JO X.prog X.w X.K X.mg X.base X.A X.stack s H:=
 ⟨I.ok.frames,I.ok.mod,I.bs,Õ I.ok.bsz I.sz,I.stack,I.stkFree,I.hok,I.bare⟩
def Inv.after(I:Inv X U σ H s)(h:CE X.stack X.prog X.w H s Q u s'):EP X U σ Q u s':=by
 let⟨v,H',os,bare,un,hok,r,q⟩:=h;let⟨hh,g,d,t,os'⟩:=s';obtain rfl:os'=s.os:=os;exact⟨v,H',I.call (h':=hh) (g':=g) (d':=d) (t':=t) (ch:=[]) un hok bare (λb z=>absurd z 'e'),r,q⟩
end
def pF(K:ZC)(fd:FuncData)(ps:ZG)(ds:ZJ):Prop:=
 ∀(s:Shared)(us:ZJ),K.In s.heap->(us++ds).length=ps.length->BindsTo s fd ⟨us,[]⟩ (ps.zip (us++ds))
def pF.all{K:ZC}(h:∀us:ZJ,us.length=ps.length->bindArgs fd ⟨us,[]⟩=pure (ps.zip us)):pF K fd ps []:=λs us _ hl=>by
 rw[ì]at hl⊢;exact .of_eq (h us hl)
section
structure Mk(K:ZC)(C f:Addr):Prop where
 makes:W.makesIn K C=true
 init:W.findIn K (.ref C) "__init__"=some (some (.ref f))
 fn:W.isFn K (.ref f)=true
 kp:W.keepIn K (.ref C)=true
end
section
end
structure iM(N P:ZG)(sc:Scope):Prop where
 kind:sc.kind=.function
 co:sc.isCoroutine=false
 gen:sc.isGenerator=false
 nd:N.Nodup
 pre:N.take P.length=P
 par:∀x∈P,sc.names.lookup x=some .local\/sc.names.lookup x=some .cell
 nofree:∀y∈sc.names,y.2≠.free
def AQ{kindOf:Str->Option NameKind}:∀{binds:List (Str×Value)}{m:ZD},(∀v,(x,v)∉binds)->bindL kindOf binds m x=m x
 |[],_,_=>rfl
 |(n,v)::r,m,h=>by
  unfold bindL;rw[AQ λw hw=>h w (Ò _ hw)];split
  all_goals grind
def AR{kindOf:Str->Option NameKind}:∀{binds:List (Str×Value)}{m:ZD},(∀v,(x,v)∉binds)->bindC kindOf binds m x=m x
 |[],_,_=>rfl
 |(n,v)::r,m,h=>by
  unfold bindC;rw[AR λw hw=>h w (Ò _ hw)];split
  all_goals grind
def AS{kindOf:Str->Option NameKind}{x:Str}{v:Value}:∀{P:ZG}{vs:ZJ}{i:Nat}{m:ZD},P.Nodup->P[i]?=some x->vs[i]?=some v->kindOf x=some .local ->
  bindL kindOf (P.zip vs) m x=some v
 |[],_,_,_,_,h,_,_=>by simp at h
 |_::_,[],_,_,_,_,h,_=>by simp at h
 |p::P,w::vs,0,m,nd,h1,h2,hk=>by
  simp at h1 h2;subst h1;subst h2;show bindL kindOf ((p,w)::P.zip vs) m p=_;unfold bindL;rw[AQ λv hv=>(List.nodup_cons.mp nd).1 (List.of_mem_zip hv).1,Á hk];simp
 |p::P,w::vs,i+1,m,nd,h1,h2,hk=>by
  show bindL kindOf ((p,w)::P.zip vs) m x=_;unfold bindL;exact AS (i:=i) (List.nodup_cons.mp nd).2 (by simpa using h1) (by simpa using h2) hk
def AT{kindOf:Str->Option NameKind}{x:Str}{v:Value}:∀{P:ZG}{vs:ZJ}{i:Nat}{m:ZD},P.Nodup->P[i]?=some x->vs[i]?=some v->kindOf x≠some .local ->
  bindC kindOf (P.zip vs) m x=some v
 |[],_,_,_,_,h,_,_=>by simp at h
 |_::_,[],_,_,_,_,h,_=>by simp at h
 |p::P,w::vs,0,m,nd,h1,h2,hk=>by
  simp at h1 h2;subst h1;subst h2;show bindC kindOf ((p,w)::P.zip vs) m p=_;unfold bindC;rw[AR λv hv=>(List.nodup_cons.mp nd).1 (List.of_mem_zip hv).1,Â hk];simp
 |p::P,w::vs,i+1,m,nd,h1,h2,hk=>by
  show bindC kindOf ((p,w)::P.zip vs) m x=_;unfold bindC;exact AT (i:=i) (List.nodup_cons.mp nd).2 (by simpa using h1) (by simpa using h2) hk
def start(N:ZG)(vs:List V):St:=vs.map some++List.replicate (N.length-vs.length) none
def pY(CX:RW)(P:Program)(w:World)(K:ZC)(mg:ZD)(base:Heap)(N:ZG)(qual:Str)(scope:Scope)(f:Addr)(cd:Value)(A:Around)(outer:List Env)(s:Shared)(H:Hp)(E:XK):Cx where
 prog:=P
 w:=w
 K:=K
 mg:=mg
 base:=base
 A:=A.deeper (envOfC qual scope s.heap.objs.size f cd)
 N:=N
 s₀:=s
 H₀:=H
 env:=envOfC qual scope s.heap.objs.size f cd
 outer:=outer
 stack:=envOfC qual scope s.heap.objs.size f cd::outer
 ex:=[]
 calm:=true
 fn:=λ_=>true
 pn:=[]
 xe:=λe s'=>wpAny (model P w) (A.deeper (envOfC qual scope s.heap.objs.size f cd)) (leaving (envOfC qual scope s.heap.objs.size f cd) e) (λ_ s''=>CX outer H s E e s'') (λe' s''=>CX outer H s E e' s'') s'
def E8{sc:Scope}(h:sc.names.lookup x=some .cell):∃c,(cellsFrom n sc.names []).lookup x=some c:=by
 have q:=W.cellsFrom_some sc.names n [] (.inl h);exact Option.isSome_iff_exists.mp q
def OX{K:ZC}{outer:List Env}{s s1:Shared}{H:Hp}{E:XK}{us:ZJ}{vs:List V}(S:iM N ps scope)(hd:A.handled=none)(e0:JO P w K mg base A outer s H)(hl:vs.length=ps.length)(r:bH vs us)(x:InCallC s s.heap.objs.size (bindL (envOfC qual scope s.heap.objs.size f cd).kindOf (ps.zip us) λ_=>none) (cellsFrom (s.heap.objs.size+1) scope.names []) (bindC (envOfC qual scope s.heap.objs.size f cd).kindOf (ps.zip us) λ_=>none) s1):
  Inv (pY CX P w K mg base N qual scope f cd A outer s H E) [] (start N vs) H s1:=by
 have hpl:ps.length<=N.length:=by have:=congrArg List.length S.pre;rw[ù]at this;lia
 let⟨h1,tk,rfl,hk⟩:=x.done;have noA:∀b:Addr,b∉(pY CX P w K mg base N qual scope f cd A outer s H E).ex:=λb z=>absurd (show b∈([]:ZM)from z) 'e';refine⟨⟨e0.mod,S.kind,rfl,rfl,Ç _,λy z c h1 h2=>?_,λy hy=>?_,λy c _ h=>?_,λ_=>hd,Around.frames_deeper e0.frames,.inr ⟨rfl,rfl⟩,λb z=>absurd z (noA b),e0.bs,e0.bsz,λb _ _=>noA b,λb z=>absurd z (noA b),e0.funs,e0.frf⟩,
  rfl,e0.bare,Un.kept hk,⟨_,x.toInCall.ns,λi y v h1 h2 h3=>?_⟩,λy c h=>⟨_,x.cell y c h⟩,e0.hok.fresh (Ç _),λy c h=>?_,λp hp=>absurd (show p∈([]:ZB)from hp) 'e',e0.hok.kept hk,?_⟩
 .exact name_of_addr x.apart (ô h1) (ô h2)
 .have hy:scope.names.lookup y=some .cell\/scope.names.lookup y=some .free:=hy
  rcases hy with hy|hy
  .exact E8 hy
  .exact absurd rfl (S.nofree _ (ô hy))
 .exact È (x.above y c (ô h))
 .have hi:i<vs.length:=by
   unfold start at h2;by_cases hi:i<vs.length
   .exact hi
   .rw[ã (by simpa using hi)]at h2
    rw[ā]at h2;split at h2<;>cases h2
  have ha:vs[i]?=some v:=by
   unfold start at h2;rw[ï (by simpa using hi),Ï]at h2;cases e:vs[i]? with
   |none=>rw[e]at h2;cases h2
   |some a=>rw[e]at h2;cases h2;rfl
  let⟨u,hu,rv⟩:=r.get ha;have hp:ps[i]?=some y:=by
   rw[<- S.pre,List.getElem?_take_of_lt (by exact ò ‹_› ‹_›)];exact h1
  have ndP:ps.Nodup:=by rw[<- S.pre];exact S.nd.sublist (List.take_sublist _ _)
  refine⟨u,rv,?_⟩;rcases S.par y (õ hp)with k|k
  .exact .inl ⟨k,AS ndP hp hu k⟩
  .obtain⟨c,e⟩:=E8 (n:=s.heap.objs.size+1) k
   refine .inr ⟨.inl k,c,e,?_⟩;have q:=x.cell y c e;rw[AT ndP hp hu (by show scope.names.lookup y≠_;rw[k];decide)]at q
   exact q
 .exact e0.hok.fresh (È (x.above y c (ô h)))
 .unfold start
  show _=N.length;rw[Ñ,Å,í];lia
def aIS{K:ZC}{dV kV doc pm cdv ct oc:Value}{an od:Option Addr}{osl:Array (ZN)}{N ps:ZG}{sp:Sp}(lk:K.lookup f=some ⟨oc,od,.func (W.fnOf name qual params body scope dV kV doc pm an cdv ct),osl⟩)(hcd:W.codeIn K cdv qual=true)(S:iM N ps scope)(len:∀vs H Q E,sp vs H Q E->vs.length=ps.length)(hbody:∀(A:Around)(outer:List Env)(s:Shared)(H:Hp)(vs:List V)(Q:VK)(E:XK),fC k (A.deeper (envOfC qual scope s.heap.objs.size f cdv))->sp vs H Q E ->
   ∃t,EV (pY CX P w K mg base N qual scope f cdv A outer s H E) body t/\t {nx:=λ_ H'=>Q .non H',rt:=Q} (start N vs) H):
  qZ P w K mg base CX (k+1) f (W.fnOf name qual params body scope dV kV doc pm an cdv ct) ps sp:=by
 refine⟨len,λA outer s H args us vs Q E hr e0 hb r hsp=>?_⟩;have hl:=len _ _ _ _ hsp;have KX:K.In s.heap:=e0.mod.kin.keeps λb o e=>(e0.bs b o e).1;have lim:s.heap.NoLimit:=e0.mod.nolimit.keeps λb o e=>(e0.bs b o e).1;have hkind:∀y∈ps.zip us,scope.names.lookup y.1=some .local\/(scope.names.lookup y.1=some .cell/\((cellsFrom (s.heap.objs.size+1) scope.names []).lookup y.1).isSome=true):=λ⟨n,v⟩hy=>by
  rcases S.par n (List.of_mem_zip hy).1 with q|q
  .exact .inl q
  .exact .inr ⟨q,W.cellsFrom_some _ _ _ (.inl q)⟩
 refine codeAny_call_function hr.depth (KX _ _ lk) rfl S.co S.gen rfl (W.codeRec_of KX hcd) (hb _ _ _ _ ?_);refine wpAny_newFunctionEnv_cells S.kind hkind λenv he s1 x=>?_;subst he;refine⟨lim.keeps x.toInCall.keep,codeAny_func ?_⟩;let⟨t,ht,hq⟩:=hbody A outer s H vs Q E (hr.deeper _) hsp;have I:Inv (pY CX P w K mg base N qual scope f cdv A outer s H E) [] (start N vs) H s1:=OX S hr.hd e0 hl r x;refine wpAny_mono (ht [] s1 (start N vs) H _ I hq) (λfl s' hs=>?_) λe s' hs=>hs;have fin:∀{σ':St}{H':Hp}{v:V}{u:Value},Inv (pY CX P w K mg base N qual scope f cdv A outer s H E) [] σ' H' s'->bG v u->Q v H'->CE outer P w H s Q u s':=
  λ{σ' H' v u}J rv q=>⟨v,H',J.os,J.bare,J.base,J.hok,rv,q⟩
 cases fl with
 |ret u=>
  let⟨v,σ',H',J,rv,q⟩:=hs;exact fin J rv q
 |next=>
  let⟨σ',H',J,q⟩:=hs;exact fin (v:=V.non) (u:=Value.none) J rfl q
 |brk=>
  let⟨_,_,_,q⟩:=hs;exact False.elim q
 |cont=>
  let⟨_,_,_,q⟩:=hs;exact False.elim q
section
variable {X:Cx}{x:Str}{p pos:Pos}{e:Expr}{es:List Expr}{t:TA}{id T:String}{r:List V->Hp->VK->Prop}
def Ō(r:List V->Hp->VK->Prop)(t:TA):TE:=λσ H Q=>t σ H λvs H1=>r vs H1 Q
def mV(hc:fP X (.builtin id) r)(hg:Gl X x)(hm:X.mg x=none)(hv:bootBuiltins x=some (.builtin id))(ha:PA X (e::es) t)(hn:⇑(x≠"__name__"))(hdb:⇑(Zdb x))(he:↥(Zse e es X.env))(hpl:↥(Zbt pos es X.env)):PE X (.Call 'g' (e::es) [] pos) (Ō r t):=by
 intro U s σ H Q I h;refine wpAny_Call_Name_kw (iT I hg hm hv ?_ hn hdb);exact PyProof.Rows.callWith_builtin1 (cL (ha pos U s σ H _ I h) λus s1 zQ=>by let⟨vs,H1,I1,r1,q1⟩:=zQ;exact hc U s1 σ H1 vs us Q I1 r1 q1) he hpl
def tQ(hc:fP X (.type T) r)(hg:Gl X x)(hm:X.mg x=none)(hv:bootBuiltins x=some (.type T))(ha:PA X (e::es) t)(hn:⇑(x≠"__name__"))(hdb:⇑(Zdb x))(he:↥(Zse e es X.env))(hpl:↥(Zbt pos es X.env)):PE X (.Call 'g' (e::es) [] pos) (Ō r t):=by
 intro U s σ H Q I h;refine wpAny_Call_Name_kw (iT I hg hm hv ?_ hn hdb);exact PyProof.Rows.callWith_type1 (cL (ha pos U s σ H _ I h) λus s1 zQ=>by let⟨vs,H1,I1,r1,q1⟩:=zQ;exact hc U s1 σ H1 vs us Q I1 r1 q1) he hpl
end
end L2
namespace HT
open PySem PyProof.Rows
section
open PySem.SeqAt
open PySem.AutoSeq1 (wpAny_loadPart')
open PySem.MeetsSeq PySem.MeetsSeq2 PySem.MeetsSeq3
end
section
variable {prog:Program}{w:World}{A:Around}{E:ZA}{s:Shared}
def cat_tup{t b:Addr}{vs ws:ZJ}{Q:ZA}(ht:IsTup s.heap t vs.toArray)(hb:IsTup s.heap b ws.toArray)(hv:vs≠[])(h1:ws=[]->Q (.ref t) s)(h2:ws≠[]->Q (.ref s.heap.objs.size) {s with heap:=s.heap.push {cls:=.type "tuple",data:=.seq (vs++ws).toArray}})(hsz:vs.length+ws.length<=sizeLine):wpAny 'o' A (binaryOp .Add (.ref t) (.ref b)) Q E s:=by
 let⟨⟨cls,dd,data,sl⟩,ho,hc,n,hd⟩:=id ht;let⟨⟨cls2,dd2,data2,sl2⟩,ho2,hc2,n2,hd2⟩:=id hb;simp only at hc hd hc2 hd2;subst hc hd hc2 hd2;have e:vs.toArray++ws.toArray=(vs++ws).toArray:=by simp
 by_cases hw:ws=[]
 .exact concat_meets ⟨_,ho,rfl⟩ ⟨_,ho2,rfl⟩ noFill_tuple_add seq_tuple_add PySem.F.slot_tuple_add PySem.F.entry_tuple_add (PySem.F.args_tuple_add_2 _ _)
   (tuple_addW1 t b vs.toArray ws.toArray n n2 dd dd2 sl sl2 (by simpa using hv) (by simp[hw])) ⟨ho,ho2,h1 hw⟩
 .refine concat_meets ⟨_,ho,rfl⟩ ⟨_,ho2,rfl⟩ noFill_tuple_add seq_tuple_add PySem.F.slot_tuple_add PySem.F.entry_tuple_add (PySem.F.args_tuple_add_2 _ _)
   (tuple_addW2 t b vs.toArray ws.toArray n n2 dd dd2 sl sl2 (by simpa using hv) (by simpa using hw) 'i') ⟨ho,ho2,?_⟩
  rw[e];exact h2 hw
def sIx(n d:Nat):Option Int->Nat
 |none=>d
 |some v=>if v<0 then (v+(n:Int)).toNat else min v.toNat n
def sIx_none(n d:Nat):sIx n d none=d:=rfl
def sIx_nat(n d k:Nat):sIx n d (some (k:Int))=min k n:=by
 show (if (k:Int)<0 then ((k:Int)+(n:Int)).toNat else min (k:Int).toNat n)=min k n;rw[Â ∅,ú]
def aE0(n d:Nat)(hd:d<=n)(o:Option Int):sIx n d o<=n:=by
 cases o with
 |none=>exact hd
 |some v=>
  show (if v<0 then (v+(n:Int)).toNat else min v.toNat n)<=n;by_cases hv:v<0
  .rw[Á hv];lia
  .rw[Â hv];exact Nat.min_le_right _ _
def LS(v:Int)(n d:Nat):(if v<0 then max (v+(n:Int)) 0 else min v (n:Int))=((sIx n d (some v):Nat):Int):=by
 show (if v<0 then max (v+(n:Int)) 0 else min v (n:Int))=(((if v<0 then (v+(n:Int)).toNat else min v.toNat n):Nat):Int)
 grind
def JP(lo hi:Option Int)(n:Nat):Builtin.Slice.sliceAdjust lo hi 1 (n:Int)=(((sIx n 0 lo:Nat):Int),((sIx n n hi:Nat):Int)):=by
 have h1:¬((1:Int)<0):=by decide
 unfold Builtin.Slice.sliceAdjust;simp![h1,if_false];refine Prod.ext ?_ ?_
 .cases lo with
  |none=>rfl
  |some v=>exact LS v n 0
 .cases hi with
  |none=>rfl
  |some v=>exact LS v n n
def JQ(i j:Nat):Builtin.Slice.slicePlaces (i:Int) (j:Int) 1=j-i:=by
 unfold Builtin.Slice.slicePlaces;have h1:(1:Int)>0:=by decide
 simp![h1,if_true,Int.ediv_one];split<;>lia
def wS{v:Value}{o:Option Int}{Q:Option Int->Shared->Prop}(p:IsPart v o)(h:Q o s):wpAny 'o' A (Builtin.Slice.slicePartIndex v) Q E s:=by
 cases p with
 |none=>exact slicePart_none h
 |int i t=>exact slicePart_int h
def tR{sl:Addr}{vl vu:Value}{lo hi:Option Int}{n:Nat}{Q:Int×Int×Nat->Shared->Prop}(hs:s.heap.IsSliceOf sl vl vu .none)(pl:IsPart vl lo)(pu:IsPart vu hi)(h:Q (((sIx n 0 lo:Nat):Int),1,sIx n n hi-sIx n 0 lo) s):wpAny 'o' A (Builtin.Slice.sliceApplied (.ref sl) (pure (n:Int))) Q E s:=by
 let⟨os,hos,hcs,hds⟩:=id hs;unfold Builtin.Slice.sliceApplied Builtin.Slice.sliceFields;refine wpAny_bind (wpAny_bind (wpAny_field hos hds (x:=vl) rfl (wpAny_bind (wpAny_field hos hds (x:=vu) rfl (wpAny_bind (wpAny_field hos hds (x:=.none) rfl (wpAny_pure ?_)))))));refine wpAny_bind (slicePart_none ?_);show wpAny _ _ (if ((1:Int) == 0)=true then _ else _) _ _ s;rw[Â ⋯];refine wpAny_bind (wS pl (wpAny_bind (wS pu (wpAny_bind (wpAny_pure ?_)))));show wpAny _ _ (match Builtin.Slice.sliceAdjust lo hi 1 (n:Int)with|(lo,hi)=>pure (lo,(1:Int),Builtin.Slice.slicePlaces lo hi 1)) _ _ s;rw[JP lo hi n];show wpAny _ _ (pure (((sIx n 0 lo:Nat):Int),(1:Int),Builtin.Slice.slicePlaces ((sIx n 0 lo:Nat):Int) ((sIx n n hi:Nat):Int) 1)) _ _ s;rw[JQ];exact wpAny_pure h
def RY(xs:Array Value)(i k:Nat):((List.range k).filterMap λ(m:Nat)=>xs[((i:Int)+(m:Int)*1).toNat]?).toArray=((xs.toList.drop i).take k).toArray:=by
 have e:(λ(m:Nat)=>xs[((i:Int)+(m:Int)*1).toNat]?)=λm=>xs[i+m]?:=by
  funext m;have:((i:Int)+(m:Int)*1).toNat=i+m:=by lia
  rw[this]
 rw[e];have:=pick_run xs i k;rw[List.filterMap_map]at this;have e2:((λx=>xs[x]?)∘λx=>i+x)=λm=>xs[i+m]?:=rfl;rw[e2]at this;rw[this]
def getItem_tuple_cut{t sl:Addr}{items:Array Value}{vl vu:Value}{lo hi:Option Int}{Q:ZA}(ht:IsTup s.heap t items)(hs:s.heap.IsSliceOf sl vl vu .none)(pl:IsPart vl lo)(pu:IsPart vu hi)(hw:¬(sIx items.size 0 lo=0/\sIx items.size items.size hi=items.size))(h:Q (.ref s.heap.objs.size) {s with heap:=s.heap.push {cls:=.type "tuple",data:=.seq ((items.toList.drop (sIx items.size 0 lo)).take (sIx items.size items.size hi-sIx items.size 0 lo)).toArray}})(hsz:items.size<=sizeLine):wpAny 'o' A (getItem (.ref t) (.ref sl)) Q E s:=by
 have htake:sizeOk (.seq ((items.toList.drop (sIx items.size 0 lo)).take (sIx items.size items.size hi-sIx items.size 0 lo)).toArray):=by
  show ((items.toList.drop (sIx items.size 0 lo)).take (sIx items.size items.size hi-sIx items.size 0 lo)).toArray.size<=sizeLine;rw[ë,ù,Č,Array.length_toList];lia
 have hj:sIx items.size items.size hi<=items.size:=aE0 _ _ (Ç _) hi;let⟨os,hos,hcs,hds⟩:=id hs;have hTs:s.TypeIs (.ref sl) "slice":=⟨os,hos,hcs⟩;unfold getItem
 try with_reducible refine wpAny_holding ?_
 first|refine wpAny_bind (wpAny_pure ?_)|skip
 refine wpAny_bind (wpAny_sequenceKey ht.typeIs ⋯ ?_);refine wpAny_bind (wpAny_callSpecial?_slot (name:=Str.ofString "__getitem__") ht.typeIs PyProof.Rows.slot_tuple_getitem
  (wpAny_call_entry PyProof.Rows.slot_tuple_getitem ht.typeIs entry_tuple_getitem ?_ (args_tuple_getitem _ _)))
 show wpAny _ _ (Builtin.Tuple.tupleItemsOf (.ref t) >>= _) _ _ s;refine wpAny_bind (tupleItemsOf_ ht ?_);refine wpAny_bind (wpAny_typeOf hTs ?_);rw[Á ⋯];refine wpAny_bind (tR hs pl pu ?_);have hno:¬((((sIx items.size 0 lo:Nat):Int) == 0 && (1:Int) == 1 && (sIx items.size items.size hi-sIx items.size 0 lo) == items.size)=true):=by
  intro q;rw[â,â]at q;have q1:((sIx items.size 0 lo:Nat):Int)=0:=eq_of_beq q.1.1;have q2:sIx items.size items.size hi-sIx items.size 0 lo=items.size:=eq_of_beq q.2;exact hw ⟨∅,∅⟩
 show wpAny _ _ (if (((sIx items.size 0 lo:Nat):Int) == 0 && (1:Int) == 1 && (sIx items.size items.size hi-sIx items.size 0 lo) == items.size)=true then _ else _) _ _ s;rw[Â hno,RY]
 first
  |exact wpAny_bind (m:=Builtin.Tuple.tupleExact _) (wpAny_newObj_type (wpAny_pure ⟨_,rfl,wpAny_pure h⟩) htake)
  |exact wpAny_bind (m:=Builtin.Tuple.tupleExact _) (wpAny_newObj_type (wpAny_bind (wpAny_pure (wpAny_pure ⟨_,rfl,wpAny_pure h⟩))) htake)
  |exact wpAny_bind (wpAny_bind (m:=Builtin.Tuple.tupleExact _) (wpAny_newObj_type (wpAny_pure (wpAny_pure ⟨_,rfl,wpAny_pure h⟩)) htake))
  |exact wpAny_bind (wpAny_bind (m:=Builtin.Tuple.tupleExact _) (wpAny_newObj_type (wpAny_pure ⟨_,rfl,wpAny_pure h⟩) htake))
end
end HT
namespace L2
open PySem PySem.Spec PyProof.Rows
abbrev TO:=St->Hp->(Option Int->Hp->Prop)->Prop
def PO(X:Cx)(e:Option Expr)(t:TO):Prop:=
 ∀(U:ZB)(s:Shared)(σ:St)(H:Hp)(Q:Option Int->Hp->Prop),Inv X U σ H s->t σ H Q ->
  wpAny 'b' X.A (evalPart e X.env) (λu s'=>∃o H',Inv X U σ H' s'/\IsPart u o/\Q o H') X.xe s
def YS:TO:=λ_ H Q=>Q none H
def aIT(t:TE):TO:=λσ H Q=>t σ H λx H1=>∃i,x=.int i/\Q (some i) H1
section
variable {X:Cx}{e:Expr}{te:TE}{lo hi:Option Expr}{tl th:TO}{pos p2:Pos}
def YT:PO X none YS:=by
 intro U s σ H Q I h;rw[evalPart_none];exact wpAny_pure ⟨none,H,I,.none,h⟩
def YU(h:PE X e te):PO X (some e) (aIT te):=by
 intro U s σ H Q I hw;rw[evalPart_some];refine cL (h U s σ H _ I hw) λu s1 zQ=>?_;let⟨x,H1,I1,r1,q1⟩:=zQ;let⟨i,rfl,q⟩:=q1;let⟨t,rfl⟩:=r1;exact⟨some i,H1,I1,.int i t,q⟩
def ĳ(X:Cx)(r:V->Option Int->Option Int->Hp->VK->Prop):Prop:=
 ∀(U:ZB)(s:Shared)(σ:St)(H:Hp)(x:V)(v vl vu:Value)(lo hi:Option Int)(sl:Addr)(Q:VK),Inv X U σ H s->bG x v->s.heap.IsSliceOf sl vl vu .none->IsPart vl lo->IsPart vu hi->r x lo hi H Q ->
  ∃T id,typeLookup (.type T) "__getitem__"=pure (some (.builtin id))/\s.TypeIs v T/\wpAny 'b' X.A (getItem v (.ref sl)) (EP X U σ Q) X.xe s
def aN8(r:V->Option Int->Option Int->Hp->VK->Prop)(te:TE)(tl th:TO):TE:=λσ H Q=>te σ H λx H1=>tl σ H1 λl H2=>th σ H2 λu H3=>r x l u H3 Q
def E9(hr:ĳ X r)(he:PE X e te)(hl:PO X lo tl)(hu:PO X hi th):PE X (.Subscript e (.Slice lo hi none p2) pos) (aN8 r te tl th):=by
 intro U s σ H Q I h;refine Subscript_ (cL (he U s σ H _ I h) λv s1 zQ=>?_);let⟨x,H1,I1,r1,q1⟩:=zQ;refine wpAny_Slice (cL (hl U s1 σ H1 _ I1 q1) λvl s2⟨l,H2,I2,pl,q2⟩=>cL (hu U s2 σ H2 _ I2 q2) λvu s3 zQ=>?_);let⟨u,H3,I3,pu,q3⟩:=zQ;rw[evalPart_none];refine wpAny_pure ?_;have I4:Inv X U σ H3 {s3 with heap:=s3.heap.push {cls:=.type "slice",data:=.fields #[vl,vu,.none]}}:=I3.kept (t':=s3.toks) λb ob q=>Heap.get?_push_of_some _ q;let⟨T,id,hT,ht,hg⟩:=hr U {s3 with heap:=s3.heap.push {cls:=.type "slice",data:=.fields #[vl,vu,.none]}} σ H3 x v vl vu l u s3.heap.objs.size Q I4 r1 (Heap.IsSliceOf.new ..) pl pu q3;show wpAny 'b' X.A (subscriptTail e (.Slice lo hi none p2) v (.ref s3.heap.objs.size)) (EP X U σ Q) X.xe {s3 with heap:=s3.heap.push {cls:=.type "slice",data:=.fields #[vl,vu,.none]}};exact tail_any (ops:=[.ref s3.heap.objs.size,v]) ht hT hg (by with_unfolding_all rfl)
def CD(xs:List V)(lo hi:Option Int):(List V):=(xs.drop (HT.sIx xs.length 0 lo)).take (HT.sIx xs.length xs.length hi-HT.sIx xs.length 0 lo)
def vD(xs:List V)(lo hi:Option Int):(CD xs lo hi).length<=xs.length:=by
 unfold CD;rw[ù,Č];lia
def Ų(K:ZC):V->Option Int->Option Int->Hp->VK->Prop:=λx lo hi H Q=>∃a xs,x=.ref a/\qV K H a xs /\
 ¬(HT.sIx xs.length 0 lo=0/\HT.sIx xs.length xs.length hi=xs.length)/\∀p,H p=none->Q (.ref p) (aX H p (.tup (CD xs lo hi)))
def RZ:ĳ X (Ų X.K):=by
 intro U s σ H x v vl vu lo hi sl Q I rx hs pl pu h;let⟨a,xs,rfl,hx,hw,q⟩:=h;cases rx;let⟨its,r,ht,hz⟩:=I.tuple hx;have hlen:its.toArray.size=xs.length:=by rw[ë];exact r.length.symm
 refine⟨"tuple",_,PyProof.Rows.slot_tuple_getitem.lookup,ht.typeIs,?_⟩;refine HT.getItem_tuple_cut ht hs pl pu (by rw[hlen];exact hw) ?_ (by rw[hlen];exact hz);rw[hlen];refine⟨.ref s.heap.objs.size,_,I.laid (t':=s.toks) (o:=.tup (CD xs lo hi)) (λb ob q=>Heap.get?_push_of_some _ q) (Ç _) ?_,rfl,q _ (I.hok.fresh (Ç _))⟩;exact⟨Õ (vD xs lo hi) hz,_,(r.drop (HT.sIx xs.length 0 lo)).take (HT.sIx xs.length xs.length hi-HT.sIx xs.length 0 lo),IsTup.new _ _⟩
def ų(K:ZC):R2:=λx y H Q=>∃a b xs ys,x=.ref a/\y=.ref b/\qV K H a xs/\qV K H b ys/\xs≠[]/\xs.length+ys.length<=sizeLine /\
 (ys=[]->Q (.ref a) H)/\(ys≠[]->∀p,H p=none->Q (.ref p) (aX H p (.tup (xs++ys))))
def bH.nil_iff(r:bH xs us):us=[]↔xs=[]:=by
 cases r with
 |nil=>simp
 |cons _ _=>simp
def YV:jG X (binaryOp .Add) (ų X.K):=by
 intro U s σ H x y v u Q I rx ry h;let⟨a,b,xs,ys,rfl,rfl,ha,hb,hx,hz,q1,q2⟩:=h;cases rx;cases ry;let⟨its,r1,p1,_⟩:=I.tuple ha;let⟨its2,r2,p2,_⟩:=I.tuple hb;refine HT.cat_tup p1 p2 (λz=>hx (r1.nil_iff.mp z)) (λz=>⟨.ref a,H,I,rfl,q1 (r2.nil_iff.mp z)⟩) (λz=>?_) (by rw[<- r1.length,<- r2.length];exact hz);refine⟨.ref s.heap.objs.size,_,I.laid (t':=s.toks) (o:=.tup (xs++ys)) (λb ob q=>Heap.get?_push_of_some _ q) (Ç _) ?_,rfl,q2 (λw=>z (r2.nil_iff.mpr w)) _ (I.hok.fresh (Ç _))⟩;exact⟨by rw[Ñ];exact hz,_,r1.append r2,IsTup.new _ _⟩
end
def mO(n:Nat)(i:Int):(Option Nat):=if 0<=i then (if i<n then some i.toNat else none)else if -(n:Int)<=i then some (i+n).toNat else none
def atI{α:Type}(xs:List α)(i:Int):(Option α):=(mO xs.length i).bind λj=>xs[j]?
def LU(h:mO n i=some j):seqIndex? i n=some j/\j<n/\-(n:Int)<=i/\i<n:=by
 unfold mO at h;by_cases h0:0<=i
 .rw[Á h0]at h
  by_cases h1:i<n
  .rw[Á h1]at h
   have e:i.toNat=j:=Option.some.inj h;exact⟨by rw[seqIndex_of h0 h1,e],∅,∅,h1⟩
  grind
 .rw[Â h0]at h
  by_cases h1:-(n:Int)<=i
  .rw[Á h1]at h
   have e:(i+n).toNat=j:=Option.some.inj h;exact⟨by rw[seqIndex_neg (by exact Int.not_le.mp ‹_›) h1,e],∅,h1,∅⟩
  grind
def CF{v:α}(h:atI xs i=some v):∃j,seqIndex? i xs.length=some j/\xs[j]?=some v/\j<xs.length/\-(xs.length:Int)<=i/\i<xs.length:=by
 unfold atI at h;cases e:mO xs.length i with
 |none=>rw[e]at h;cases h
 |some j=>
  rw[e]at h;let⟨h1,h2,h3,h4⟩:=LU e;exact⟨j,h1,h,h2,h3,h4⟩
def eI{j:Nat}{v:α}(h:xs[j]?=some v):atI xs (j:Int)=some v:=by
 have hj:j<xs.length:=(Î.mp h).1;have e:mO xs.length (j:Int)=some j:=by
  unfold mO;rw[Á ∅,Á ∅];simp
 unfold atI;rw[e];exact h
def oA(b:Expr):Prop:=∀o i,subscripted b false o i=operate [o,i] (getItem o i)
def YW(X:Cx)(r:R2):Prop:=
 ∀(value slice:Expr)(U:ZB)(s:Shared)(σ:St)(H:Hp)(x y:V)(v u:Value)(Q:VK),Inv X U σ H s->bG x v->bG y u->r x y H Q ->
  subscripted slice false v u=operate [v,u] (getItem v u)->wpAny 'b' X.A (subscriptTail value slice v u) (EP X U σ Q) X.xe s
def ģ(X:Cx)(id:String)(r:V->List V->Hp->VK->Prop):Prop:=
 ∀(U:ZB)(s:Shared)(σ:St)(H:Hp)(x:V)(xs:List V)(v:Value)(us:ZJ)(Q:VK),Inv X U σ H s->bG x v->bH xs us->r x xs H Q ->
  wpAny 'b' X.A (call (.builtin id) (v::us)) (EP X U σ Q) X.xe s
section
variable {X:Cx}
def YW.or(h:YW X r)(h':YW X r'):YW X (λx y H Q=>r x y H Q\/r' x y H Q):=by
 intro value slice U s σ H x y v u Q I rx ry q hs;rcases q with q|q
 .exact h value slice U s σ H x y v u Q I rx ry q hs
 .exact h' value slice U s σ H x y v u Q I rx ry q hs
def FA(hr:YW X r)(ha:PE X a ta)(hb:PE X b tb)(hs:oA b):PE X (.Subscript a b pos) (Ģ r ta tb):=by
 intro U s σ H Q I h;exact Subscript_ (Ŋ ha hb I h λv u s2 x y H2 I2 rx ry q=>hr a b U s2 σ H2 x y v u Q I2 rx ry q (hs _ _))
def ō(K:ZC):R2:=λx y H Q=>∃p xs i v,x=.ref p/\y=.int i/\eK K H p xs/\atI xs i=some v/\Q v H
def Ŵ(K:ZC):R2:=λx y H Q=>∃p xs i v,x=.ref p/\y=.int i/\qV K H p xs/\atI xs i=some v/\Q v H
def ŵ:R2:=λx y H Q=>∃z i c,x=.str z/\y=.int i/\z.length<=sizeLine/\atI z.cps.toList i=some c/\Q (.str ⟨#[c]⟩) H
def rA:YW X (ō X.K):=by
 intro value slice U s σ H x y v u Q I rx ry h hs;let⟨p,xs,i,z,rfl,rfl,hq,he,q⟩:=h;cases rx;let⟨t,rfl⟩:=ry;let⟨its,r,pl,hz⟩:=I.list hq;let⟨j,h1,h2,h3,h4,h5⟩:=CF he;let⟨w,ew,rw'⟩:=r.get h2;have hl:=r.length;have hn:=pX;have fin:EP X U σ Q w s:=⟨z,H,I,rw',q⟩;by_cases h0:0<=i
 .have hj:i.toNat=j:=by
   rw[seqIndex_of h0 h5]at h1;exact Option.some.inj h1
  exact item_listR pl.isList h0 ∅ (by rw[hj];simpa using ew) fin hs
 .have hj:(i+(its.toArray.size:Int)).toNat=j:=by
   rw[seqIndex_neg (by exact Int.not_le.mp ‹_›) h4]at h1;rw[ë,<- hl];exact Option.some.inj h1
  exact subscriptTail_builtinR (x:=w) pl.isList.typeIs slot_list_getitem.lookup
   (wpAny_getItem_list_neg (Q:=λr s'=>r=w/\EP X U σ Q r s') pl.isList (by exact Int.not_le.mp ‹_›) 'i' ∅ (by rw[hj];simpa using ew) ⟨rfl,fin⟩) hs
def aE2:YW X (Ŵ X.K):=by
 intro value slice U s σ H x y v u Q I rx ry h hs;let⟨p,xs,i,z,rfl,rfl,hq,he,q⟩:=h;cases rx;let⟨t,rfl⟩:=ry;let⟨its,r,pl,hz⟩:=I.tuple hq;let⟨j,h1,h2,h3,h4,h5⟩:=CF he;let⟨w,ew,rw'⟩:=r.get h2;have hl:=r.length;have hn:=pX;have fin:EP X U σ Q w s:=⟨z,H,I,rw',q⟩;exact subscriptTail_builtinR (x:=w) pl.typeIs slot_tuple_getitem.lookup
  (getItem_tuple (j:=j) (Q:=λr s'=>r=w/\EP X U σ Q r s') pl ∅ ∅ 'i' (by simpa using ew) ⟨rfl,fin⟩) hs
def aE3:YW X ŵ:=by
 intro value slice U s σ H x y v u Q I rx ry h hs;let⟨z,i,c,rfl,rfl,hz,he,q⟩:=h;let⟨t,rfl⟩:=rx;let⟨t',rfl⟩:=ry;let⟨j,h1,h2,h3,h4,h5⟩:=CF he;have hl:z.cps.toList.length=z.length:=by simp[Str.length]
 rw[hl]at h1 h4 h5;have hn:=pX;exact tail_any (typeIs_str s z t) slot_str_getitem.lookup (getItem_str (c:=c) (by
  grind) (by rw[h1];simpa using h2) ⟨.str ⟨#[c]⟩,H,I.tok _,⟨_,rfl⟩,q⟩) hs
def Ŷ(K:ZC):R2:=λx y H Q=>ō K x y H Q\/Ŵ K x y H Q\/ŵ x y H Q
def aE4:YW X (Ŷ X.K):=rA.or (aE2.or aE3)
def JR(its:ZJ)(n j:Nat)(u:Value):Obj.mapSeq (·.setIfInBounds j u) {cls:=.type "list",data:=.seq its.toArray n}={cls:=.type "list",data:=.seq (its.set j u).toArray n}:=by
 simp[Obj.mapSeq]
def Inv.lst(I:Inv X U σ H s)(h:H p=some (.lst xs)):
  ∃(its:ZJ)(n:Nat),bH xs its/\s.heap.get? p=some {cls:=.type "list",data:=.seq its.toArray n}/\xs.length<=sizeLine:=by
 let⟨z,its,n,r,e⟩:=I.hok p _ h;exact⟨its,n,r,e,z⟩
def Inv.lstUpd{U:ZB}{σ:St}{H:Hp}{s:Shared}{p:Addr}{xs ys:List V}{its its':ZJ}{n n':Nat}{f:Obj->Obj}(I:Inv X U σ H s)(h:H p=some (.lst xs))(ho:s.heap.get? p=some {cls:=.type "list",data:=.seq its.toArray n})(hf:f {cls:=.type "list",data:=.seq its.toArray n}={cls:=.type "list",data:=.seq its'.toArray n'})(r:bH ys its')(hz:ys.length<=sizeLine)(t:Nat):
  Inv X U σ (aX H p (.lst ys)) {s with heap:=s.heap.update p f,toks:=t}:=by
 have e:(s.heap.update p f).get? p=some {cls:=.type "list",data:=.seq its'.toArray n'}:=by
  rw[Heap.get?_update_self f ho (by rw[hf]<;>rfl),hf]
 refine I.write (x:=p) (e:=p) (by rw[h];trivial) (.inl rfl) (λb u hb q=>(Heap.get?_update_other _ _ (Í hb)).trans q) ⟨_,e⟩ ?_;exact⟨hz,its',n',r,e⟩
def aIY:V->V->V->Hp->(Hp->Prop)->Prop:=λo i v H Q=>∃p xs k j,o=.ref p/\i=.int k/\H p=some (.lst xs)/\mO xs.length k=some j/\Q (aX H p (.lst (xs.set j v)))
def FC:Ů X aIY:=by
 intro U s σ H o i v ov iv u Q I ro ri rv h;let⟨p,xs,k,j,rfl,rfl,hp,hj,q⟩:=h;cases ro;let⟨t,rfl⟩:=ri;let⟨its,n,r,ho,hz⟩:=I.lst hp;let⟨h1,h2,h3,h4⟩:=LU hj;have hl:=r.length;have hn:=pX;have I':Inv X U σ (aX H p (.lst (xs.set j v))) {s with heap:=s.heap.update p (Obj.mapSeq (·.setIfInBounds j u))}:=
  I.lstUpd hp ho (JR its n j u) (r.set rv j) (by rw[Ö];exact hz) s.toks
 by_cases h0:0<=k
 .have hk:k.toNat=j:=by
   rw[seqIndex_of h0 h4]at h1;exact Option.some.inj h1
  exact W.ki_setAt ho h0 ∅ (by rw[ë,<- hl];exact h4) (by rw[hk];exact⟨_,I',q⟩)
 .have hk:(k+(its.toArray.size:Int)).toNat=j:=by
   rw[seqIndex_neg (by exact Int.not_le.mp ‹_›) h3]at h1;rw[ë,<- hl];exact Option.some.inj h1
  exact W.ki_setBack ho (by exact Int.not_le.mp ‹_›) (by rw[ë,<- hl];exact h3) ∅ (by rw[hk];exact⟨_,I',q⟩)
def CG(lo hi:Option Int)(n:Nat):(sliceBounds lo hi none n).1=((HT.sIx n 0 lo:Nat):Int)/\(sliceBounds lo hi none n).2.1=((HT.sIx n n hi:Nat):Int)/\(sliceBounds lo hi none n).2.2=1:=by
 refine⟨?_,?_,rfl⟩
 .cases lo with
  |none=>simp[sliceBounds,HT.sIx]
  |some i=>
   simp![sliceBounds,HT.sIx,Option.getD_none,show (1:Int)>0 by decide,if_true]
   grind
 .cases hi with
  |none=>simp[sliceBounds,HT.sIx]
  |some i=>
   simp![sliceBounds,HT.sIx,Option.getD_none,show (1:Int)>0 by decide,if_true]
   grind
def zX(its:ZJ)(lo hi:Option Int):slicePick its.toArray lo hi none=((its.drop (HT.sIx its.length 0 lo)).take (HT.sIx its.length its.length hi-HT.sIx its.length 0 lo)).toArray:=by
 let⟨h1,h2,h3⟩:=CG lo hi its.toArray.size;unfold slicePick;rw[h1,h2,h3];simp![sliceRange_one,pick_run,ë]<;>rfl
def ŷ(K:ZC):V->Option Int->Option Int->Hp->VK->Prop:=λx lo hi H Q=>∃a xs,x=.ref a/\eK K H a xs/\∀p,H p=none->Q (.ref p) (aX H p (.lst (CD xs lo hi)))
def v4:ĳ X (ŷ X.K):=by
 intro U s σ H x v vl vu lo hi sl Q I rx hs pl pu h;let⟨a,xs,rfl,hx,q⟩:=h;cases rx;let⟨its,r,ht,hz⟩:=I.list hx;have hlen:=r.length;refine⟨"list",_,slot_list_getitem.lookup,ht.isList.typeIs,?_⟩;refine wpAny_getItem_list_slice ht.isList hs pl pu .none 'e' ?_ 'i';rw[zX,<- hlen];refine⟨.ref s.heap.objs.size,_,I.laid (t':=s.toks) (o:=.lst (CD xs lo hi)) (λb ob q=>Heap.get?_push_of_some _ q) (Ç _) ?_,rfl,q _ (I.hok.fresh (Ç _))⟩;exact⟨Õ (vD xs lo hi) hz,_,0,(r.drop (HT.sIx xs.length 0 lo)).take (HT.sIx xs.length xs.length hi-HT.sIx xs.length 0 lo),Heap.get?_push_size _ rfl⟩
def pG:V->Bool
 |.non=>true
 |.bl _=>true
 |.int _=>true
 |.str _=>true
 |_=>false
def Ď:V->V->Bool
 |.non,.non=>true
 |.bl a,.bl b=>a == b
 |.bl a,.int b=>(if a then 1 else 0) == b
 |.int a,.bl b=>a == (if b then 1 else 0)
 |.int a,.int b=>a == b
 |.str a,.str b=>a == b
 |_,_=>false
def aE5(ry:bG y u)(rx:bG x v)(fy:pG y=true)(fx:pG x=true):SeqAt.EqAt A s u v (Ď y x):=by
 cases y with
 |non=>
  cases ry;cases x with
  |non=>cases rx;exact SeqAt.EqAt.same _
  |bl b=>cases rx;exact SeqAt.EqAt.none_bool b
  |int b=>let⟨t,rfl⟩:=rx;exact SeqAt.EqAt.none_int b t
  |str b=>let⟨t,rfl⟩:=rx;exact SeqAt.EqAt.none_str b t
  |_=>exact absurd (show false=true from fx) Þ
 |bl a=>
  cases ry;cases x with
  |non=>cases rx;exact SeqAt.EqAt.bool_none a
  |bl b=>cases rx;exact SeqAt.EqAt.bool_bool a b
  |int b=>let⟨t,rfl⟩:=rx;exact SeqAt.EqAt.bool_int a b t
  |str b=>let⟨t,rfl⟩:=rx;exact SeqAt.EqAt.bool_str a b t
  |_=>exact absurd (show false=true from fx) Þ
 |int a=>
  let⟨t',rfl⟩:=ry;cases x with
  |non=>cases rx;exact SeqAt.EqAt.int_none a t'
  |bl b=>cases rx;exact SeqAt.EqAt.int_bool a t' b
  |int b=>let⟨t,rfl⟩:=rx;exact SeqAt.EqAt.int_int a t' b t
  |str b=>let⟨t,rfl⟩:=rx;exact SeqAt.EqAt.int_str a t' b t
  |_=>exact absurd (show false=true from fx) Þ
 |str a=>
  let⟨t',rfl⟩:=ry;cases x with
  |non=>cases rx;exact SeqAt.EqAt.str_none a t'
  |bl b=>cases rx;exact SeqAt.EqAt.str_bool a t' b
  |int b=>let⟨t,rfl⟩:=rx;exact SeqAt.EqAt.str_int a t' b t
  |str b=>let⟨t,rfl⟩:=rx;exact SeqAt.EqAt.str_str a t' b t
  |_=>exact absurd (show false=true from fx) Þ
 |_=>exact absurd (show false=true from fy) Þ
def YX(x:V)(u:Value):Bool:=match u with
 |.none=>Ď .non x
 |.bool b=>Ď (.bl b) x
 |.int i _=>Ď (.int i) x
 |.str z _=>Ď (.str z) x
 |_=>false
def R8(r:bG y u)(f:pG y=true):YX x u=Ď y x:=by
 cases y with
 |non=>cases r;rfl
 |bl b=>cases r;rfl
 |int i=>let⟨t,rfl⟩:=r;rfl
 |str z=>let⟨t,rfl⟩:=r;rfl
 |_=>exact absurd (show false=true from f) Þ
def CH :∀{xs:List V}{us:ZJ},bH xs us->xs.all pG=true->us.any (YX x)=xs.any λy=>Ď y x
 |_,_,.nil,_=>rfl
 |y::xs,u::us,.cons r t,f=>by
  rw[List.all_cons,â]at f;rw[List.any_cons,List.any_cons,R8 r f.1,CH t f.2]
def wT(rx:bG x v)(fx:pG x=true):∀{xs:List V}{us:ZJ},bH xs us->xs.all pG=true->∀u∈us,SeqAt.EqAt A s u v (YX x u)
 |_,_,.nil,_=>λu hu=>by cases hu
 |y::xs,u::us,.cons r t,f=>λu' hu=>by
  rw[List.all_cons,â]at f;rcases Ì.mp hu with rfl|hu
  .rw[R8 r f.1];exact aE5 r rx f.1 fx
  .exact wT rx fx t f.2 u' hu
def ď(x:V)(xs:List V):Bool:=xs.any λy=>Ď y x
def Ÿ(K:ZC)(neg:Bool):R2:=λx y H Q=>∃p xs,y=.ref p/\(eK K H p xs\/qV K H p xs)/\pG x=true/\xs.all pG=true/\Q (.bl (if neg then !ď x xs else ď x xs)) H
def OY:jG X (compareOp .In) (Ÿ X.K false):=by
 intro U s σ H x y v u Q I rx ry h;let⟨p,xs,rfl,hq,fx,fs,q⟩:=h;cases ry;rcases hq with hq|hq
 .obtain⟨its,r,pl,hz⟩:=I.list hq
  refine SeqAt.in_listAt (YX x) pl.isList (λw hw=>wT rx fx r fs w (by simpa using hw)) ⟨.bl _,H,I,rfl,?_⟩;rw[show its.toArray.any (YX x)=its.any (YX x) by simp,CH r fs];exact q
 .obtain⟨its,r,pl,hz⟩:=I.tuple hq
  refine SeqAt.in_tupleAt (YX x) pl (λw hw=>wT rx fx r fs w (by simpa using hw)) ⟨.bl _,H,I,rfl,?_⟩;rw[show its.toArray.any (YX x)=its.any (YX x) by simp,CH r fs];exact q
def CI:jG X (compareOp .NotIn) (λx y H Q=>∃i j,x=.str i/\y=.str j/\Q (.bl (!(!(Builtin.Str.occurrences j i 0 j.length 1).isEmpty))) H):=by
 intro U s σ H x y v u Q I rx ry h;let⟨i,j,rfl,rfl,q⟩:=h;let⟨t,rfl⟩:=rx;let⟨t',rfl⟩:=ry;exact notIn_str ⟨.bl _,H,I,rfl,q⟩
def rB:fP X (.builtin "len") (λxs H Q=>∃p ys,xs=[.ref p]/\(eK X.K H p ys\/qV X.K H p ys)/\Q (.int ys.length) H):=by
 intro U s σ H xs us Q I r h;let⟨p,ys,rfl,hq,q⟩:=h;let⟨u,rfl,rx⟩:=mU r;cases rx;have hn:=pX;rcases hq with hq|hq
 .obtain⟨its,r',pl,hz⟩:=I.list hq
  have hlen:=r'.length;exact Calls.call_len_list pl.isList 'i' ⟨.int ys.length,H,I.tok _,⟨s.toks+1,by grind⟩,q⟩
 .obtain⟨its,r',pl,hz⟩:=I.tuple hq
  have hlen:=r'.length;exact len_tuple pl 'i' ⟨.int ys.length,H,I.tok _,⟨s.toks+1,by grind⟩,q⟩
def CJ:fP X (.builtin "len") (λxs H Q=>∃z,xs=[.str z]/\z.length<=sizeLine/\Q (.int z.length) H):=by
 intro U s σ H xs us Q I r h;let⟨z,rfl,hz,q⟩:=h;let⟨u,rfl,t,rfl⟩:=mU r;have hn:=pX;exact len_str ∅ ⟨.int z.length,H,I.tok _,⟨_,rfl⟩,q⟩
def fP.or(h:fP X f r)(h':fP X f r'):fP X f (λxs H Q=>r xs H Q\/r' xs H Q):=by
 intro U s σ H xs us Q I rs q;rcases q with q|q
 .exact h U s σ H xs us Q I rs q
 .exact h' U s σ H xs us Q I rs q
def lJ:fP X (.type "list") (λxs H Q=>∃p ys,xs=[.ref p]/\(eK X.K H p ys\/qV X.K H p ys)/\∀l,H l=none->Q (.ref l) (aX H l (.lst ys))):=by
 intro U s σ H xs us Q I r h;let⟨p,ys,rfl,hq,q⟩:=h;let⟨u,rfl,rx⟩:=mU r;cases rx;have fin:∀(its:ZJ),bH ys its->ys.length<=sizeLine->∀(h':Heap)(c':Nat),(∀b o',s.heap.get? b=some o'->h'.get? b=some o') ->
   h'.get? s.heap.objs.size=some {cls:=.type "list",dict:=none,data:=.seq its.toArray c',slots:=#[]}->EP X U σ Q (.ref s.heap.objs.size) {s with heap:=h'}:=λits r' hz h' c' kp e=>
  ⟨.ref s.heap.objs.size,_,I.laid (t':=s.toks) kp (Ç _) (show dO X.prog X.w _ h' _ (.lst ys)from⟨hz,its,c',r',e⟩),rfl,q _ (I.hok.fresh (Ç _))⟩
 rcases hq with hq|hq
 .obtain⟨its,r',pl,hz⟩:=I.list hq
  have hlen:=r'.length;let⟨o,ho,hc,n,hd⟩:=pl.isList;exact call_list_seq p (.inl rfl) ho hc hd (λh' c' kp e=>fin its r' hz h' c' kp e) 'i'
 .obtain⟨its,r',pl,hz⟩:=I.tuple hq
  have hlen:=r'.length;let⟨o,ho,hc,n,hd⟩:=pl;exact call_list_seq p (.inr rfl) ho hc hd (λh' c' kp e=>fin its r' hz h' c' kp e) 'i'
def Ĵ(K:ZC)(T:String)(x:V)(H:Hp):Prop:=match x with
 |.str _=>T="str"
 |.int _=>T="int"
 |.ref p=>(T="list"/\∃xs,eK K H p xs)\/(T="tuple"/\∃o,K.lookup p=some o/\o.cls=.type "tuple"/\o.dict=none) \/
   (T="dict"/\((∃À,H p=some (.dK À))\/∃À,H p=some (.dT À)))\/(T="set"/\∃S n,H p=some (.set S n))
 |_=>False
theorem R9(I:Inv X U σ H s)(r:bG x v)(ty:Ĵ X.K T x H):
  s.TypeIs v T/\∀a,v=.ref a->∃ob,s.heap.get? a=some ob/\ob.dict=none:=by
 cases x with
 |str z=>
  let⟨t,rfl⟩:=r;cases (show T="str"from ty);exact⟨typeIs_str s z t,λ_ e=>nomatch e⟩
 |int i=>
  let⟨t,rfl⟩:=r;cases (show T="int"from ty);exact⟨typeIs_int s i t,λ_ e=>nomatch e⟩
 |ref p=>
  cases r;rcases ty with ⟨rfl,xs,hq⟩|⟨rfl,o,hk,hc,hd⟩|⟨rfl,hk⟩|⟨rfl,S,n,hk⟩
  .obtain⟨its,_,pl,_⟩:=I.list hq
   refine⟨pl.isList.typeIs,λa e=>?_⟩;cases e;let⟨o,n,e,c,hd,_⟩:=pl;exact⟨o,e,hd⟩
  .refine⟨⟨o,I.kIn p o hk,hc⟩,λa e=>?_⟩
   cases e;exact⟨o,I.kIn _ o hk,hd⟩
  .have z:∃o,s.heap.get? p=some o/\o.ExactDict:=by
    rcases hk with ⟨À,hk⟩|⟨À,hk⟩
    .obtain⟨_,_,_,_,o,_,_,e,ex,_⟩:=I.hok p _ hk
     exact⟨o,e,ex⟩
    .obtain⟨_,_,_,_,o,_,_,e,ex,_⟩:=I.hok p _ hk
     exact⟨o,e,ex⟩
   let⟨o,e,ex⟩:=z;refine⟨⟨o,e,ex.1⟩,λa e2=>?_⟩;cases e2;exact⟨o,e,ex.2.1⟩
  .obtain⟨o,_,_,_,e,ex,_⟩:=I.hok p _ hk
   refine⟨⟨o,e,ex.1⟩,λa e2=>?_⟩;cases e2;exact⟨o,e,ex.2.1⟩
 |_=>exact False.elim ty
def aL6(K:ZC)(T:String)(r:V->List V->Hp->VK->Prop)(to:TE):TE:=λσ H Q=>to σ H λx H1=>Ĵ K T x H1/\r x [] H1 Q
def Ź(K:ZC)(T:String)(r:V->List V->Hp->VK->Prop)(to:TE)(t:TA):TE:=λσ H Q=>to σ H λx H1=>Ĵ K T x H1/\t σ H1 λxs H2=>r x xs H2 Q
variable {o e:Expr}{es:List Expr}{to:TE}{t:TA}{name:Str}{apos cpos:Pos}{T id:String}{r:V->List V->Hp->VK->Prop}
def aE6(pa:PlainAttrs T)(slot:Slot T name id)(hty:typeOf (.builtin id)=pure (.type "method_descriptor"))(hm:ģ X id r)(ho:PE X o to)(hbase:↥(attributeBase o name X.env (eval o X.env)=eval o X.env))(hline:↥((apos.endLine == cpos.line)=true)):PE X (.Call (.Attribute o name apos) [] [] cpos) (aL6 X.K T r to):=by
 intro U s σ H Q I h;refine wpAny_Call_method0_late hbase hline (cL (ho U s σ H _ I h) λv s1 zQ=>?_);let⟨x,H1,I1,r1,ty,q1⟩:=zQ;let⟨h1,h2⟩:=R9 I1 r1 ty;exact⟨T,id,pa,slot,hty,h1,h2,Calls.callWith_builtin rfl (PySem.evalArgs_none (hm U s1 σ H1 x [] v [] Q I1 r1 .nil q1))⟩
def ź(pa:PlainAttrs T)(slot:Slot T name id)(hty:typeOf (.builtin id)=pure (.type "method_descriptor"))(hm:ģ X id r)(ho:PE X o to)(ha:PA X (e::es) t)(hbase:↥(attributeBase o name X.env (eval o X.env)=eval o X.env))(hfew:↥(((backTo cpos (starEach (e::es) X.env)).all (λx=>!x.1) && (backToKw cpos (keywordEach [] X.env)).all (λx=>x.1.isSome)
   && decide ((e::es).length+([]:List Keyword).length+(if ([]:List Keyword).isEmpty then 0 else 1)<30))=true))(hline:↥((apos.endLine == cpos.line)=true))(hs:↥(Zse e es X.env))(hplain:↥(Zbt cpos es X.env)):
  PE X (.Call (.Attribute o name apos) (e::es) [] cpos) (Ź X.K T r to t):=by
 intro U s σ H Q I h;refine wpAny_Call_method_late hbase hfew hline rfl (cL (ho U s σ H _ I h) λv s1 zQ=>?_);let⟨x,H1,I1,r1,ty,q1⟩:=zQ;let⟨h1,h2⟩:=R9 I1 r1 ty;refine⟨T,id,pa,slot,hty,h1,h2,?_⟩;have hA:=ha cpos U s1 σ H1 _ I1 q1;rw[hs]at hA⊢;refine Calls.callWith_builtin (by show (false || (backTo cpos (starEach es X.env)).any (·.1))=false;rw[hplain]<;>rfl) (Calls.evalArgs_plain ?_)
 exact cL hA λus s2 zQ=>by let⟨vs,H2,I2,r2,q2⟩:=zQ;exact hm U s2 σ H2 x vs v us Q I2 r1 r2 q2
end
def Ŏ(X:Cx)(id:String)(r:V->List V->Hp->VK->Prop):Prop:=
 ∀(U:ZB)(s:Shared)(σ:St)(H:Hp)(x:V)(xs:List V)(v:Value)(us:ZJ)(Q:VK),Inv X U σ H s->bG x v->bH xs us->r x xs H Q ->
  wpAny 'b' X.A (call (.builtin id) (v::us)) (EP X U σ Q) X.xe s
def bH.one:∀{x:V}{us:ZJ},bH [x] us->∃u,us=[u]/\bG x u:=λh=>mU h
def bH.zero:∀{us:ZJ},bH [] us->us=[]
 |_,.nil=>rfl
def bH.dropLast(h:bH xs us):bH xs.dropLast us.dropLast:=by
 induction h with
 |nil=>exact .nil
 |cons r t ih=>
  cases t with
  |nil=>exact .nil
  |cons q t'=>exact .cons r ih
def JS{α:Type}(l:List α):l.eraseIdx (l.length-1)=l.dropLast:=by
 grind
section
variable {X:Cx}{U:ZB}{σ:St}{H:Hp}{s:Shared}{l:Addr}{xs ys:List V}
def Inv.lset{its its':ZJ}{n:Nat}{f:Array Value->Array Value}{t':Nat}(I:Inv X U σ H s)(hH:H l=some (.lst xs))(e:s.heap.get? l=some {cls:=.type "list",data:=.seq its.toArray n})(hf:f its.toArray=its'.toArray)(hv:bH ys its')(hz:ys.length<=sizeLine):
  Inv X U σ (aX H l (.lst ys)) {s with heap:=s.heap.update l (Obj.mapSeq f),toks:=t'}:=by
 have q:=PySem.IsL.update e f;rw[hf]at q;refine I.write (x:=l) (e:=l) (by rw[hH];exact trivial) (.inl rfl) (λb' u hb hu=>(Heap.get?_update_other s.heap (Obj.mapSeq f) (Í hb)).trans hu) ⟨_,q⟩ ?_;exact⟨hz,its',_,hv,q⟩
def Inv.lnew(I:Inv X U σ H s)(hv:bH ys its)(hz:ys.length<=sizeLine):
  Inv X U σ (aX H s.heap.objs.size (.lst ys)) {s with heap:=s.heap.push {cls:=.type "list",data:=.seq its.toArray},toks:=t'}:=
 I.laid (λ_ _ q=>Heap.get?_push_of_some _ q) (Ç _) ⟨hz,its,0,hv,Heap.get?_push_size _ rfl⟩
def Inv.fresh(I:Inv X U σ H s):H s.heap.objs.size=none:=I.hok.fresh (Ç _)
def Inv.lstM(I:Inv X U σ H s)(hH:H l=some (.lst xs)):xs.length<=sizeLine/\∃(its:ZJ)(n:Nat),bH xs its/\xs.length=its.length/\s.heap.get? l=some {cls:=.type "list",data:=.seq its.toArray n}:=by
 let⟨z,its,n,r,e⟩:=I.hok l _ hH;exact⟨z,its,n,r,r.length,e⟩
def SA(h:n<=sizeLine):Builtin.List.listTooLong n=false:=by
 unfold Builtin.List.listTooLong
 grind
end
section
def LV:V->List V->Hp->VK->Prop:=λx vs H Q=>∃l xs y,x=.ref l/\vs=[y]/\H l=some (.lst xs)/\xs.length<sizeLine/\Q .non (aX H l (.lst (xs++[y])))
def tU:Ŏ X "list.append" LV:=by
 intro U s σ H x vs v us Q I rx rv h;let⟨l,xs,y,rfl,rfl,hH,hz,q⟩:=h;cases rx;let⟨u,rfl,ru⟩:=rv.one;let⟨z,its,n,r,hl,e⟩:=I.lstM hH;refine call_meets F.slot_list_append ⟨_,e,rfl⟩ F.entry_list_append (F.args_list_append_2 _ _) (PySem.list_append l its.toArray n u (by rw[ë];lia)) ⟨e,?_⟩;refine⟨.non,_,I.lset (its':=its++[u]) hH e 'e' (r.append (.cons ru .nil)) ?_,rfl,q⟩;rw[Ñ,ñ];assumption
def Ż:V->List V->Hp->VK->Prop:=λx vs H Q=>∃l xs y,x=.ref l/\vs=[]/\H l=some (.lst xs)/\xs[xs.length-1]?=some y/\Q y (aX H l (.lst xs.dropLast))
def aE7:Ŏ X "list.pop" Ż:=by
 intro U s σ H x vs v us Q I rx rv h;let⟨l,xs,y,rfl,rfl,hH,hy,q⟩:=h;cases rx;have hus:=rv.zero;subst hus;let⟨z,its,n,r,hl,e⟩:=I.lstM hH;let⟨u,hu,ru⟩:=r.get hy;have hy':its.toArray[its.toArray.size-1]?=some u:=by
  show its.toArray[its.length-1]?=some u;rw[<- Array.getElem?_toList,<- hl];exact hu
 refine call_meets F.slot_list_pop ⟨_,e,rfl⟩ F.entry_list_pop (F.args_list_pop_1 _) (MeetsSeq.list_pop_last l its.toArray n u hy' (by rw[ë];lia)) ⟨e,?_⟩;refine⟨y,_,I.lset (its':=its.dropLast) hH e ?_ r.dropLast ?_,ru,q⟩
 .show its.toArray.eraseIdxIfInBounds (its.toArray.size-1)=its.dropLast.toArray
  rw[ë,List.eraseIdxIfInBounds_toArray,JS]
 .rw[List.length_dropLast]
  lia
end
section
end
section
end
end L2
namespace Att
open PySem PySem.W PySem.Calls PyProof.Rows
def vV :∀(ns:ZK)(vs:ZJ),WellAll P h vs (ns.map WData.int)->IntsAre vs ns:=by
 intro ns
 induction ns with
 |nil=>
  intro vs w;rw[List.map_nil]at w;cases w;exact .nil
 |cons n ns ih=>
  intro vs w;rw[Ð]at w;cases w with
  |cons a b=>
   cases a;exact .cons _ _ (ih _ b)
def OZ{l:OpenLaw}(hn:l.most=some n){vals:ZJ}(hpre:l.row.toRowW.claim.pre args=true)(hwl:WellAll P h vals args):
  ∃a vs ns,vals=[Value.ref a]/\args=[WData.list (ns.map WData.int)]/\h.get? a=some {cls:=.type "list",data:=.seq vs.toArray}/\IntsAre vs ns/\ns.length<=n:=by
 have hsh:WShape.hasAll [] args [.list .int]=true:=(pre_splitW hpre).1;have hc:l.pre.holds [] {args:=args}=true:=(pre_splitW hpre).2;let⟨d,r,rfl,h1,h2⟩:=hasAllW_cons hsh;obtain rfl:=hasAllW_nil h2;let⟨xs,rfl,h3⟩:=hasW_list h1;let⟨ns,rfl⟩:=items_int h3;have hlen:ns.length<=n:=by
  unfold OpenLaw.pre at hc;have h4:(WTm.not (.lt (.lit (.int (n:Int))) (.len (.arg 0)))).holds [] {args:=[.list (ns.map .int)]}=true:=by
   have h4:=(holds_andW hc).1;rw[hn]at h4;exact h4
  have h5:=condW_of h4 (w_not (w_lt w_lit (w_len_list (w_arg rfl))));rw[Å]at h5;refine Nat.le_of_not_lt λq=>?_;have q':(n:Int)<((ns.length:Nat):Int):=by lia
  first
   |grind
   |(simp at h5;lia)
 cases hwl with
 |cons w1 w2=>
  cases w2;cases w1 with
  |list ho hall=>exact⟨_,_,ns,rfl,rfl,ho,vV ns _ hall,hlen⟩
def O0(l:OpenLaw)(args:List WData):l.row.toRowW.claim.post args 'u' args=true:=
 postW_of (r:=l.row.toRowW) (X:=(true == true))
  (show WShape.has [] 'u' .bool=true by first|rfl|decide|simp[WShape.has,WShape.arms,WShape.armsAll])
  (show (WTm.eq .res (.lit 'u')).value [] {args:=args,res:=some 'u',after:=args}=some (.bool (true == true))from w_eq_bool (w_res rfl) w_lit) rfl
def attach_call{l:OpenLaw}{n:Nat}{q:Program}{loose:ZG}{XP:(ZD)->Heap->Prop}{YP:World->Heap->Prop}{d:DefRec}(hn:l.most=some n)(hdf:d.params.defaults=[])(call:∀(w:World)(s₀ s₁:Shared)(mg mb:ZD)(fa:Addr)(o:Obj)(pm cd doc:Value)(a:Addr)(vs:ZJ)(ns:ZK),
   Ground q loose [] XP w s₀ mg mb s₁.heap->YP w s₁.heap ->
   s₁.heap.get? fa=some o->o.data=.func (docDef d.name d.params d.body d.scope pm cd doc)->s₁.heap.CodeRec cd d.name->mg d.name=some (.ref fa) ->
   s₁.heap.get? a=some {cls:=.type "list",data:=.seq vs.toArray}->IntsAre vs ns->ns.length<=n->s₁.gens=#[] ->
   codeAny (model l.prog w) callerA (.call (.ref fa) ⟨[.ref a],[]⟩) (λr s'=>r=.ok (.ret 'u')/\OldK s₁.heap s'.heap/\s'.os=s₁.os/\AllBare s'.gens) s₁):
  WalkO q loose XP YP l.row.toRowW d [] (λf vs=>PySem.call f vs):=by
 intro w s₀ s₁ mg mb G Y fa o pm cd doc dV kV ho hd hcd hD hmg hg args vals as hpre hlay hrd hwl hlo;obtain rfl:dV=.none:=Dflts.none hD hdf;obtain rfl:kV=.none:=Dflts.noKw hD;let⟨a,vs,ns,rfl,rfl,hobj,hints,hlen⟩:=OZ hn hpre hwl;refine enter_call (codeAny_mono (call w s₀ s₁ mg mb fa o pm cd doc a vs ns G Y ho (fd_plain hd) hcd hmg hobj hints hlen hg) λr s' hq=>?_);let⟨rfl,h2,h3,h4⟩:=hq;exact⟨.inl ⟨.bool true,.bool true,[],rfl,λ_=>rfl,.bool true,O0 l _,λ_=>⟨List.Pairwise.nil,λ_ hm=>(nomatch hm)⟩⟩,h2,h3,h4⟩
section
end
end Att
namespace L2
open PySem PySem.Spec PyProof.Rows
def AU:∀{vs:ZJ}{ns:ZK},IntsAre vs ns->bH (ns.map V.int) vs
 |_,_,.nil=>.nil
 |_,_,.cons n t h=>.cons ⟨t,rfl⟩ (AU h)
def oB(s:Stmt):Arguments:=match s with
 |.FunctionDef _ a _ _ _ _ _ _ _ _=>a
 |_=>{posonlyargs:=[],args:=[],vararg:=none,kwonlyargs:=[],kw_defaults:=[],kwarg:=none,defaults:=[]}
def dX(s:Stmt):(List Stmt):=match s with
 |.FunctionDef _ _ b _ _ _ _ _ _ _=>b
 |_=>[]
def bC(s:Stmt):Scope:=match s with
 |.FunctionDef _ _ _ _ _ _ sc _ _ _=>sc
 |_=>{kind:=.function,names:=[],isGenerator:=false,isCoroutine:=false}
structure Q6(K:ZC)(x qual:Str)(st:Stmt)(f:Addr)(fd:FuncData):Prop where
 ex:∃(oc:Value)(od:Option Addr)(kV doc pm:Value)(an:Option Addr)(cdv ct:Value)(osl:Array (ZN)),
  fd=W.fnOf x qual (oB st) (dX st) (bC st) .none kV doc pm an cdv ct/\K.lookup f=some ⟨oc,od,.func fd,osl⟩/\W.codeIn K cdv qual=true
 kp:W.keepIn K (.ref f)=true
section
variable {K:ZC}
def Q6.binds{st:Stmt}(F:Q6 K x qual st f fd)(h:∀(kV doc pm:Value)(an:Option Addr)(cdv ct:Value)(us:ZJ),us.length=ps.length->bindArgs (W.fnOf x qual (oB st) (dX st) (bC st) .none kV doc pm an cdv ct) ⟨us,[]⟩=pure (ps.zip us)):pF K fd ps []:=by
 let⟨oc,od,kV,doc,pm,an,cdv,ct,osl,rfl,lk,hcd⟩:=F.ex;exact .all (h kV doc pm an cdv ct)
def JT{st:Stmt}{kV doc pm cdv ct:Value}(l:K.lookup f=some ⟨oc,od,.func (W.fnOf x qual (oB st) (dX st) (bC st) .none kV doc pm an cdv ct),osl⟩)(c:W.codeIn K cdv qual=true)(k:W.keepIn K (.ref f)=true):Q6 K x qual st f (W.fnOf x qual (oB st) (dX st) (bC st) .none kV doc pm an cdv ct):=⟨⟨oc,od,kV,doc,pm,an,cdv,ct,osl,rfl,l,c⟩,k⟩
end
section
variable {X:Cx}
def pv(i:Nat){pos:Pos}(hN:↥'s')(hv:#v[zS X.env.scope x])(hd:⇑(Zdb x))(hcd:⇑(Zcd x)):PE X (.Name x pos) (RD i):=dA hN hv hd hcd
end
def aL(H H':Hp):Prop:=∀b o,H b=some o->H' b=some o
def aL.refl(H:Hp):aL H H:=λ_ _ h=>h
def aL.seq{K:ZC}(e:aL H H')(h:eK K H a xs):eK K H' a xs:=by
 rcases h with (h|⟨o,h⟩)|h
 .exact .inl (.inl (e _ _ h))
 .exact .inl (.inr ⟨o,e _ _ h⟩)
 .exact .inr h
def SB:bootBuiltins "len"=some (.builtin "len"):=by decide +kernel
def CK:bootBuiltins "abs"=some (.builtin "abs"):=by decide +kernel
def SC:bootBuiltins "min"=some (.builtin "min"):=by decide +kernel
def j6:bootBuiltins "isinstance"=some (.builtin "isinstance"):=by decide +kernel
def aE8:bootBuiltins "all"=some (.builtin "all"):=by decide +kernel
def rC:bootBuiltins "list"=some (.type "list"):=by decide +kernel
def aE9:bootBuiltins "str"=some (.type "str"):=by decide +kernel
def fG(n:Nat)(x:Int):Prop:=x.natAbs<2^n
def fG.le(h:fG n y)(e:x.natAbs<=y.natAbs):fG n x:=Ĉ e h
def fG.mono(h:fG m x)(e:m<=n):fG n x:=Ó h (Nat.pow_le_pow_right ⋯ e)
def fG.neg(h:fG n x):fG n (-x):=h.le ∅
def fG.add(h:fG m x)(g:fG n y)(e:max m n+1<=k):fG k (x+y):=by
 have a:fG (max m n) x:=h.mono (Nat.le_max_left ..);have b:fG (max m n) y:=g.mono (Nat.le_max_right ..);have c:2^(max m n+1)=2^max m n+2^max m n:=by rw[Nat.pow_succ];lia
 have d:(x+y).natAbs<2^(max m n+1):=by
  rw[c];have:=Int.natAbs_add_le x y;unfold fG at a b;lia
 exact fG.mono (m:=max m n+1) d e
def fG.sub(h:fG m x)(g:fG n y)(e:max m n+1<=k):fG k (x-y):=by
 rw[Int.sub_eq_add_neg];exact h.add g.neg e
def fG.mul(h:fG m x)(g:fG n y)(e:m+n<=k):fG k (x*y):=by
 have d:(x*y).natAbs<2^(m+n):=by
  rw[Int.natAbs_mul,Nat.pow_add];exact Nat.mul_lt_mul'' h g
 exact fG.mono (m:=m+n) d e
def fG.mulOk(h:fG m x)(g:fG n y)(e:⇑(m+n<=134217728)):IntMulOk x y:=.of_le (intBits_le_iff.mpr h) (intBits_le_iff.mpr g) e
def fG.log2(h:fG n x)(e:⇑(n<=9000)):x.natAbs.log2<9000:=by
 by_cases h0:x.natAbs=0
 .rw[h0];decide
 .exact Ó ((Nat.log2_lt h0).mpr h) e
def aI1(h1:-(2^64)<i)(h2:i<2^64):IntMulOk i j:=.of_left (intBits_le_64 h1 h2)
def aI2(h1:-(2^64)<j)(h2:j<2^64):IntMulOk i j:=.of_right (intBits_le_64 h1 h2)
section
def YY:jG X (binaryOp .Mult) (rI IntMulOk λi j=>.int (i*j)):=Ĳ λ_ _ _ _ _ _ _ hc q=>mul_int q hc
def ż(_ j:Int):Prop:=j≠0/\j.natAbs.log2<9000
def SD:jG X (binaryOp .FloorDiv) (rI ż λi j=>.int (i.fdiv j)):=Ĳ λ_ _ _ _ _ _ _ hc q=>floordiv_int hc.1 q (.inl (PyProof.noPylong_of_log2 hc.2))
def SE:jG X (compareOp .Is) (λx y H Q=>∃c d,x=.bl c/\y=.bl d/\Q (.bl (c == d)) H):=by
 intro U s σ H x y v u Q I rx ry h;let⟨c,d,rfl,rfl,q⟩:=h;cases rx;cases ry;exact is_bool (mT I q rfl)
def YZ:jG X (compareOp .IsNot) (λx y H Q=>∃c d,x=.bl c/\y=.bl d/\Q (.bl (c != d)) H):=by
 intro U s σ H x y v u Q I rx ry h;let⟨c,d,rfl,rfl,q⟩:=h;cases rx;cases ry;exact isnot_bool (mT I q rfl)
def Ž{pos:Pos}(hg:Gl X x)(hm:X.mg x=none)(hv:bootBuiltins x=some (.type n))(hn:⇑(x≠"__name__"))(hd:⇑(Zdb x)):PE X (.Name x pos) (tC (.ty n)):=YC (v:=.ty n) hg hm hv rfl hn hd
end
def EW:dN->PyData
 |.inl i=>.int i
 |.inr x=>.str x
def aI3(K:ZC)(H:Hp)(a:Addr)(ks:List PyData)(xs:List V):Prop:=
 ∃(nm:Str)(fs:ZG)(C dx:Addr)(vs:List V),xs=.str nm::vs/\ks=.none::fs.map PyData.str/\fs.length=vs.length/\H a=some (.ins C dx (fs.zip vs))/\H dx=some (.own a)/\W.nsIn K mainGlobals nm=some (some (.ref C))
def aI4(H:Hp)(a:Addr)(ks:List PyData)(xs:List V):Prop:=∃(ms:List dN),ks=ms.map EW/\ms.length=xs.length/\H a=some (.dK (ms.zip xs))
mutual
def bI(K:ZC)(H:Hp):PyData->V->Prop
 |.none,v=>v=.non
 |.bool b,v=>v=.bl b
 |.int i,v=>v=.int i
 |.str x,v=>v=.str x
 |.list ds,v=>∃(a:Addr)(xs:List V),v=.ref a/\eK K H a xs/\aE K H ds xs
 |.tuple ds,v=>∃(a:Addr)(xs:List V),v=.ref a/\qV K H a xs/\aE K H ds xs
 |.dict À,v=>∃(a:Addr)(xs:List V),v=.ref a/\(aI3 K H a (À.map Prod.fst) xs\/aI4 H a (À.map Prod.fst) xs)/\iG K H À xs
def aE(K:ZC)(H:Hp):List PyData->List V->Prop
 |[],xs=>xs=[]
 |d::ds,xs=>∃(x:V)(r:List V),xs=x::r/\bI K H d x/\aE K H ds r
def iG(K:ZC)(H:Hp):List (PyData×PyData)->List V->Prop
 |[],xs=>xs=[]
 |(_,d)::ds,xs=>∃(x:V)(r:List V),xs=x::r/\bI K H d x/\iG K H ds r
end
section
mutual
def bI.reads(I:Inv X U σ H s):∀(d:PyData)(v:V)(u:Value),d.canLay0=true->bI X.K H d v->bG v u->∃as,Reads s.heap u d as
 |.none,v,u,_,h,r=>by
  unfold bI at h;subst h;cases (show u=Value.none from r);exact⟨_,.none⟩
 |.bool b,v,u,_,h,r=>by
  unfold bI at h;subst h;cases (show u=Value.bool b from r);exact⟨_,.bool b⟩
 |.int i,v,u,_,h,r=>by
  unfold bI at h;subst h;let⟨t,rfl⟩:=(show ∃t,u=Value.int i t from r);exact⟨_,.int i t⟩
 |.str x,v,u,_,h,r=>by
  unfold bI at h;subst h;let⟨t,rfl⟩:=(show ∃t,u=Value.str x t from r);exact⟨_,.str x t⟩
 |.list ds,v,u,l,h,r=>by
  unfold bI at h;let⟨a,xs,rfl,hs,ha⟩:=h;cases (show u=Value.ref a from r);let⟨its,rv,p,_⟩:=I.list hs;let⟨as,q⟩:=aE.reads I ds xs its (by simpa[PyData.canLay0]using l) ha rv;let⟨o,ho,hc,n,hd⟩:=p.isList;exact⟨_,.list ho hc hd (by simpa using q)⟩
 |.tuple ds,v,u,l,h,r=>by
  unfold bI at h;let⟨a,xs,rfl,hs,ha⟩:=h;cases (show u=Value.ref a from r);let⟨its,rv,p,_⟩:=I.tuple hs;let⟨as,q⟩:=aE.reads I ds xs its (by simpa[PyData.canLay0]using l) ha rv;let⟨o,ho,hc,n,hd⟩:=p;exact⟨_,.tuple ho hc hd (by simpa using q)⟩
 |.dict _,v,u,l,h,r=>by
  simp[PyData.canLay0]at l
def aE.reads(I:Inv X U σ H s):∀(ds:List PyData)(xs:List V)(us:ZJ),PyData.canLayAll0 ds=true->aE X.K H ds xs->bH xs us->∃as,ReadsAll s.heap us ds as
 |[],xs,us,_,h,r=>by
  unfold aE at h;subst h;cases r;exact⟨_,.nil⟩
 |d::ds,xs,us,l,h,r=>by
  unfold aE at h;let⟨x,t,rfl,hx,ht⟩:=h;simp![PyData.canLayAll0,â]at l;cases r with
  |cons rx rt=>
   let⟨as,p⟩:=bI.reads I d x _ l.1 hx rx;let⟨bs,q⟩:=aE.reads I ds t _ l.2 ht rt;exact⟨_,.cons p q⟩
end
end
def gM(h:SeqAt.shaped d=true):d.canLay0=true:=by
 unfold SeqAt.shaped at h;rw[â]at h;exact h.1
section
def dD(hu:X.A.units+64<cLine):jG X (compareOp .Eq) (λx y H Q=>∃d e,bI X.K H d x/\bI X.K H e y/\SeqAt.shaped d=true/\SeqAt.shaped e=true/\Q (.bl (PyData.eqv d e)) H):=by
 intro U s σ H x y v u Q I rx ry h;let⟨d,e,hd,he,sd,se,q⟩:=h;let⟨as,ra⟩:=bI.reads I d x v (gM sd) hd rx;let⟨bs,rb⟩:=bI.reads I e y u (gM se) he ry;exact SeqAt.compareEq_shaped ra rb sd se hu (mT I q rfl)
def tW(hu:X.A.units+64<cLine):jG X (compareOp .NotEq) (λx y H Q=>∃d e,bI X.K H d x/\bI X.K H e y/\SeqAt.shaped d=true/\SeqAt.shaped e=true/\Q (.bl (!PyData.eqv d e)) H):=by
 intro U s σ H x y v u Q I rx ry h;let⟨d,e,hd,he,sd,se,q⟩:=h;let⟨as,ra⟩:=bI.reads I d x v (gM sd) hd rx;let⟨bs,rb⟩:=bI.reads I e y u (gM se) he ry;exact SeqAt.compareNe_reads ra rb (SeqAt.canLay_of_shaped sd) (SeqAt.canLay_of_shaped se) (SeqAt.room_of_shaped sd hu) (mT I q rfl)
end
def cC{H:Hp}{p:Addr}(h:H p=none)(o:HO):aL H (aX H p o):=λb u q=>by rw[aG (bK q h)];exact q
def aL.seqT{K:ZC}(e:aL H H')(h:qV K H a xs):qV K H' a xs:=by
 rcases h with (h|⟨o,h⟩)|h
 .exact .inl (.inl (e _ _ h))
 .exact .inl (.inr ⟨o,e _ _ h⟩)
 .exact .inr h
mutual
def aL.rep{K:ZC}{H H':Hp}(e:aL H H'):∀(d:PyData)(v:V),bI K H d v->bI K H' d v
 |.none,v,h=>by unfold bI at h⊢;exact h
 |.bool b,v,h=>by unfold bI at h⊢;exact h
 |.int i,v,h=>by unfold bI at h⊢;exact h
 |.str x,v,h=>by unfold bI at h⊢;exact h
 |.list ds,v,h=>by
  unfold bI at h⊢;let⟨a,xs,rfl,hs,ha⟩:=h;exact⟨a,xs,rfl,e.seq hs,aL.repAll e ds xs ha⟩
 |.tuple ds,v,h=>by
  unfold bI at h⊢;let⟨a,xs,rfl,hs,ha⟩:=h;exact⟨a,xs,rfl,e.seqT hs,aL.repAll e ds xs ha⟩
 |.dict À,v,h=>by
  unfold bI at h⊢;let⟨a,xs,rfl,hs,ha⟩:=h;refine⟨a,xs,rfl,?_,aL.repKV e À xs ha⟩;rcases hs with ⟨nm,fs,C,dx,vs,h1,h2,h3,h4,h5,h6⟩|⟨ms,h1,h2,h3⟩
  .exact .inl ⟨nm,fs,C,dx,vs,h1,h2,h3,e _ _ h4,e _ _ h5,h6⟩
  .exact .inr ⟨ms,h1,h2,e _ _ h3⟩
def aL.repAll{K:ZC}{H H':Hp}(e:aL H H'):∀(ds:List PyData)(xs:List V),aE K H ds xs->aE K H' ds xs
 |[],xs,h=>by unfold aE at h⊢;exact h
 |d::ds,xs,h=>by
  unfold aE at h⊢;let⟨x,t,rfl,hx,ht⟩:=h;exact⟨x,t,rfl,aL.rep e d x hx,aL.repAll e ds t ht⟩
def aL.repKV{K:ZC}{H H':Hp}(e:aL H H'):∀(ds:List (PyData×PyData))(xs:List V),iG K H ds xs->iG K H' ds xs
 |[],xs,h=>by unfold iG at h⊢;exact h
 |(_,d)::ds,xs,h=>by
  unfold iG at h⊢;let⟨x,t,rfl,hx,ht⟩:=h;exact⟨x,t,rfl,aL.rep e d x hx,aL.repKV e ds t ht⟩
end
def wU{K:ZC}:∀{ks ds:List PyData}{xs:List V},ks.length=ds.length->aE K H ds xs->iG K H (ks.zip ds) xs
 |[],[],xs,_,h=>by unfold aE at h;unfold List.zip List.zipWith iG;exact h
 |k::ks,d::ds,xs,l,h=>by
  unfold aE at h;let⟨x,t,rfl,hx,ht⟩:=h;rw[à];unfold iG;exact⟨x,t,rfl,hx,wU (by simpa using l) ht⟩
def iG.all{K:ZC}:∀{À:List (PyData×PyData)}{xs:List V},iG K H À xs->aE K H (À.map Prod.snd) xs
 |[],xs,h=>by unfold iG at h;unfold List.map aE;exact h
 |(_,d)::ds,xs,h=>by
  unfold iG at h;let⟨x,t,rfl,hx,ht⟩:=h;rw[Ð];unfold aE;exact⟨x,t,rfl,hx,iG.all ht⟩
def ž(h:0<=j)(h1:j<=1000000)(h2:i.natAbs<2^64):YI i j:=⟨h,h1,h2⟩
def aFA{j:Nat}(h:k=(j:Int))(hj:j<n):mO n k=some j:=by
 unfold mO
 grind
def CL{j:Nat}{v:α}(e:k=(j:Int))(h:xs[j]?=some v):atI xs k=some v:=by
 rw[e];exact eI h
def Ě:(10:Int)^(9:Int).toNat=1000000000:=by decide +kernel
def ĵ(t b x:Int):Int:=if b<0 then -(x/(Int.gcd t b:Int))else x/(Int.gcd t b:Int)
def FD:Int.gcd b (a % b)=Int.gcd a b:=by
 rw[Int.emod_def,Int.gcd_sub_mul_left_right,Int.gcd_comm]
def FE(d:(Int.gcd t b:Int)∣x):x.fdiv (if b<0 then -(Int.gcd t b:Int)else (Int.gcd t b:Int))=ĵ t b x:=by
 unfold ĵ;split
 .rw[Int.fdiv_eq_ediv_of_dvd ((Int.neg_dvd).mpr d),Int.ediv_neg]
 .rw[Int.fdiv_eq_ediv_of_dvd d]
end L2
set_option maxRecDepth 100000
set_option maxHeartbeats 4000000
namespace L2
open PySem PySem.Spec PyProof.Rows
def gH(cells:List (Str×Addr)):List (Str×NameKind)->List (Str×Addr)->List (Str×Addr)
 |[],acc=>acc
 |(n,k)::r,acc=>if k == .free then (match cells.lookup n with|some a=>gH cells r ((n,a)::acc)|none=>gH cells r acc)else gH cells r acc
def freeIn(cells:List (Str×Addr))(names:List (Str×NameKind)):Prop:=∀n,(n,NameKind.free)∈names->∃c,cells.lookup n=some c
def tX :∀(names:List (Str×NameKind))(acc:List (Str×Addr)),freeIn env.cells names ->
  (forIn names acc λ(x:Str×NameKind)(cs:List (Str×Addr))=>(if x.2 == .free then do let c <- cellOf env x.1;pure (ForInStep.yield ((x.1,c)::cs))else pure (ForInStep.yield cs):Sem (ForInStep (List (Str×Addr)))))=pure (gH env.cells names acc)
 |[],acc,_=>by rfl
 |(n,k)::r,acc,h=>by
  have hr:freeIn env.cells r:=λm hm=>h m (Ò _ hm);rw[List.forIn_cons];unfold gH;cases hk:k == NameKind.free with
  |false=>
   rw[Â (by simp[hk]),Â 'e'];exact tX r acc hr
  |true=>
   rw[Á (by simp[hk]),Á rfl];have e:k=.free:=by cases k<;>first|rfl|exact absurd hk ⋯
   let⟨c,hc⟩:=h n (by rw[e];exact Ô);rw[hc];have e2:cellOf env n=pure c:=by unfold cellOf;rw[hc]
   rw[show cellOf env (n,k).1=pure c from e2];exact tX r ((n,c)::acc) hr
def LW(h:freeIn env.cells scope.names):closureFor scope env=pure (gH env.cells scope.names []):=by
 have e:=tX (env:=env) scope.names [] h;unfold closureFor;exact(congrArg (λm=>m >>= λcs=>(pure cs:Sem (List (Str×Addr)))) e).trans rfl
def oC :∀(names:List (Str×NameKind))(acc:List (Str×Addr)),(∀n c,(n,c)∈acc->cells.lookup n=some c)->(n,c)∈gH cells names acc->cells.lookup n=some c
 |[],acc,ha,h=>ha _ _ h
 |(m,k)::r,acc,ha,h=>by
  unfold gH at h;split at h
  .split at h
   .rename_i a hm
    refine oC r _ (λn' c' hn=>?_) h;rcases Ì.mp hn with e|hn
    .cases e;exact hm
    .exact ha _ _ hn
   .exact oC r _ ha h
  .exact oC r _ ha h
def rD{scope:Scope}(h:(gH cells scope.names []).lookup n=some c):cells.lookup n=some c:=
 oC scope.names [] (λ_ _ h=>absurd h 'e') (ô h)
def oE :∀(names:List (Str×NameKind))(acc:List (Str×Addr)),(n,c)∈acc->(n,c)∈gH cells names acc
 |[],_,h=>h
 |(m,k)::r,acc,h=>by
  unfold gH;split
  .split
   .exact oE r _ (Ò _ h)
   .exact oE r _ h
  .exact oE r _ h
def rF(hc:cells.lookup n=some c):∀(names:List (Str×NameKind))(acc:List (Str×Addr)),(n,NameKind.free)∈names->(n,c)∈gH cells names acc
 |(m,k)::r,acc,h=>by
  unfold gH;rcases Ì.mp h with e|h
  .cases e
   rw[Á ⋯,hc];exact oE r _ Ô
  .split
   .split
    .exact rF hc r _ h
    .exact rF hc r _ h
   .exact rF hc r _ h
def pH{α:Type}{c:α}:∀{l:List (Str×α)},(n,c)∈l->∃d,l.lookup n=some d
 |(m,d)::r,h=>by
  rw[á];cases e:n == m with
  |true=>exact⟨d,rfl⟩
  |false=>
   rcases Ì.mp h with q|q
   .cases q;simp at e
   .exact pH q
def wV{scope:Scope}(h:scope.names.lookup n=some .free)(hc:cells.lookup n=some c):(gH cells scope.names []).lookup n=some c:=by
 let⟨d,hd⟩:=pH (rF hc scope.names [] (ô h));have:=rD hd;rw[hc]at this;cases this;exact hd
def lK:(relabel scope env).names.lookup x=(scope.names.lookup x).map λk=>if (k == .free && env.scope.kind == .function && env.kindOf x == some .cell)then .cell else k:=by
 unfold relabel;show List.lookup x (scope.names.map _)=_
 induction scope.names with
 |nil=>rfl
 |cons p r ih=>
  let⟨n,k⟩:=p;show List.lookup x ((if (k == NameKind.free && env.scope.kind == .function && env.kindOf n == some .cell)=true then (n,NameKind.cell)else (n,k))::_)=_;cases hx:x == n with
  |true=>
   have e:x=n:=by simpa using hx
   subst e;cases hc:(k == NameKind.free && env.scope.kind == .function && env.kindOf x == some .cell)with
   |true=>rw[Á rfl,á,á];simp![beq_self_eq_true,Option.map_some,hc,if_true]
   |false=>rw[Â 'e',á,á];simp![beq_self_eq_true,Option.map_some,hc];rfl
  |false=>
   have e:∀k',List.lookup x ((n,k')::(r.map λ(n,k)=>if (k == NameKind.free && env.scope.kind == .function && env.kindOf n == some .cell)=true then (n,NameKind.cell)else (n,k)))=List.lookup x (r.map λ(n,k)=>if (k == NameKind.free && env.scope.kind == .function && env.kindOf n == some .cell)=true then (n,NameKind.cell)else (n,k)):=λk'=>by rw[á,hx]
   have e2:List.lookup x ((n,k)::r)=List.lookup x r:=by rw[á,hx]
   rw[e2,<- ih];split<;>exact e _
def mW(xs N:ZG):ZG:=N.map λn=>if xs.contains n then (".":Str)++n else n
def dY(N xs:ZG)(names onames:List (Str×NameKind)):Bool:=
 (names.all λp=>p.2 != .cell) && (names.all λp=>p.2 != .local || names.lookup p.1 == some .local) && (names.all λp=>p.2 != .free || (onames.lookup p.1 == some .cell || onames.lookup p.1 == some .free)) &&
  xs.all (λx=>names.lookup x == some .local) && ((mW xs N).zip N).all λp=>names.lookup p.1 == none || names.lookup p.1 == some .globalImplicit || (names.lookup p.1 == some .free && p.1 == p.2)
abbrev aT(X:Cx)(xs:ZG)(scope:Scope)(C:Addr)(fp:ZM)(s:Shared)(H:Hp):Cx:=
 {X with N:=xs++mW xs X.N,s₀:=s,H₀:=H,env:=compEnvC scope (gH X.env.cells scope.names []) C X.env,outer:=X.stack,ex:=fp,fn:=λ_=>false,pn:=[],xe:=λ_ _=>False}
section
variable {X:Cx}{U:ZB}{σ:St}{H H':Hp}{s s':Shared}{a:Addr}{o:HO}
def mG.adopt(x:mG P w H h)(hn:H a=none)(new:dO P w (aX H a o) h a o):mG P w (aX H a o) h:=λb u e=>by
 by_cases hb:b=a
 .subst hb;rw[aN]at e;cases e;exact new
 .rw[aG hb]at e
  exact(x b u e).stay (λ_ _ _ q=>q) (λc q=>by rw[aG (bK q hn)];exact q) λc xs q=>by rw[aG (bK q hn)];exact q
def Inv.adopt(I:Inv X U σ H s)(hn:H a=none)(ha:X.s₀.heap.objs.size<=a)(hL:a≠X.env.locals)(hc:∀x c,X.env.cells.lookup x=some c->c≠a)(hp:∀p∈X.pn++U,p.1≠a)(new:dO X.prog X.w (aX H a o) s.heap a o):Inv X U σ (aX H a o) s:=by
 refine⟨I.ok,I.os,I.bare,⟨I.base.keep,I.base.slot,λb u e n hx=>?_,I.base.there,λb xs e=>?_,λb u v e=>?_,λb ps e=>?_⟩,I.loc,I.cell,?_,λx c e=>?_,λp h=>?_,I.hok.adopt hn new,I.len⟩
 .rw[aG (Ê (Ó 'r' ha))];exact I.base.free b u e n hx
 .have q:=I.base.tups b xs e;rw[aG (bK q hn)];exact q
 .have q:=I.base.frzs b u v e;rw[aG (bK q hn)];exact q
 .obtain⟨more,q⟩:=I.base.tbls b ps e;exact⟨more,by rw[aG (bK q hn)];exact q⟩
 .rw[aG (Í hL)];exact I.free
 .rw[aG (hc x c e)];exact I.freeC x c e
 .obtain⟨e,n,ne,nf,d⟩:=I.pin p h
  exact⟨e,by rw[aG (hp p h)];exact n,ne,nf,d⟩
def vE(h:dY N xs names on=true):∀y∈names,y.2≠.cell:=λy hy e=>by
 unfold dY at h;simp![â,æ]at h;have:=h.1.1.1.1 y hy;rw[e]at this;exact absurd this ⋯
def rG(h:dY N xs names on=true):∀y∈names,y.2=.local->names.lookup y.1=some .local:=λy hy e=>by
 unfold dY at h;simp![â,æ]at h;have:=h.1.1.1.2 y hy;rw[e]at this;simpa using this
def vF(h:dY N xs names on=true):∀n,(n,NameKind.free)∈names->on.lookup n=some .cell\/on.lookup n=some .free:=λn hn=>by
 unfold dY at h;simp![â,æ]at h;have:=h.1.1.2 _ hn;simpa using this
def FF(h:dY N xs names on=true){i:Nat}(e:(mW xs N)[i]?=some y):(names.lookup y=some .free/\N[i]?=some y)\/names.lookup y=none\/names.lookup y=some .globalImplicit:=by
 unfold dY at h;simp![â]at h;have hl:(mW xs N).length=N.length:=by unfold mW;rw[Å]
 let⟨hi,ei⟩:=Î.mp e;have hz:((mW xs N).zip N)[i]?=some (y,N[i]):=by
  rw[ē];exact⟨e,É (by exact ò ‹_› ‹_›)⟩
 have q:=æ.mp h.2 _ (õ hz);simp![Bool.or_eq_true,â,beq_iff_eq]at q;rcases q with (q|q)|⟨q,q2⟩
 .exact .inr (.inl q)
 .exact .inr (.inr q)
 .exact .inl ⟨q,by rw[É (by exact ò ‹_› ‹_›),<- q2]⟩
def Inv.freeIn{scope:Scope}(I:Inv X U σ H s)(hok:dY X.N xs scope.names X.env.scope.names=true):freeIn X.env.cells scope.names:=λn hn=>I.ok.has n (vF hok n hn)
def FG(h:(relabel scope env).names.lookup x=some .cell\/(relabel scope env).names.lookup x=some .free)(hc:∀y∈scope.names,y.2≠.cell):scope.names.lookup x=some .free:=by
 rw[lK]at h;cases e:scope.names.lookup x with
 |none=>rw[e]at h;simp at h
 |some k=>
  rw[e]at h;cases k with
  |free=>rfl
  |cell=>exact absurd rfl (hc _ (ô e))
  |_=>simp at h
def Inv.block(I:Inv X U σ H s)(hok:dY X.N xs scope.names X.env.scope.names=true)(hk:scope.kind=.function)(hfp:∀b∈fp,vU X U H b)(hobj:∀b∈fp,∃o,s.heap.get? b=some o)(hC:s.heap.objs.size<=C)(hns:s'.heap.Ns C m)(keep:∀b o,s.heap.get? b=some o->s'.heap.get? b=some o)(hos:s'.os=s.os)(hg:AllBare s'.gens):
  Inv 'f' [] (List.replicate xs.length none++σ) H s':=by
 have hcell:=vE hok;have hno:∀x c,(gH X.env.cells scope.names []).lookup x=some c->X.env.cells.lookup x=some c:=λx c h=>rD h;have ltf:∀b∈fp,b<s.heap.objs.size:=λb hb=>let ⟨_,e⟩:=hobj b hb;Heap.lt_size e
 refine⟨⟨I.ok.mod,hk,I.ok.glob,I.ok.blt,hC,λx y c h1 h2=>I.ok.inj x y c (hno _ _ h1) (hno _ _ h2),λx hx=>?_,λx c h _=>absurd h 'e',I.ok.hd,I.ok.frames,.inl rfl,λb hb=>⟨?_,λx c h=>(hfp b hb).2.2.2.2.1 x c (hno _ _ h)⟩,I.bs,Õ I.ok.bsz I.sz,λb u e hb=>?_,λb hb hf=>?_,I.stack,I.stkFree⟩,
  hos,hg,Un.kept keep,⟨m,hns,λi x v e1 e2 e3=>?_⟩,λx c h=>?_,I.hok.fresh hC,λx c h=>I.freeC x c (hno _ _ h),λp hp=>absurd (show p∈([]:ZB)from hp) 'e',I.hok.kept keep,?_⟩
 .have hf:=FG (show (relabel scope X.env).names.lookup x=some .cell\/(relabel scope X.env).names.lookup x=some .free from hx) hcell
  let⟨c,hc⟩:=I.freeIn hok x (ô hf);exact⟨c,wV hf hc⟩
 .exact Ê (Ó (ltf b hb) hC)
 .rcases(hfp b hb).2.2.2.1 with z|z
  .exact I.ok.noex b u e z
  .exact absurd (Ó 'r' (Õ I.ok.bsz z)) (ø _)
 .rcases Ì.mp (I.stkSub b hf)with z|z
  .exact(hfp b hb).2.1 z
  .exact(hfp b hb).2.2.1 z
 .have e1:(xs++mW xs X.N)[i]?=some x:=e1
  by_cases hi:i<xs.length
  .rw[ï (by simpa using hi),ā,Á hi]at e2
   cases e2
  .rw[ã (by exact ä.mp ‹_›)]at e1
   rw[ã (by rw[í];exact ä.mp ‹_›),í]at e2;rcases FF hok e1 with ⟨q1,q2⟩|q|q
   .have kd:=vF hok x (ô q1)
    let⟨m0,_,hl⟩:=I.loc;let⟨u,ru,lk⟩:=hl _ x v q2 e2 (by rcases kd with z|z;exact .inr (.inl z);exact .inr (.inr z))
    refine⟨u,ru,.inr ⟨?_,?_⟩⟩
    .show (relabel scope X.env).names.lookup x=some .cell\/(relabel scope X.env).names.lookup x=some .free
     rw[lK,q1];by_cases hc:(NameKind.free == NameKind.free && X.env.scope.kind == .function && X.env.kindOf x == some .cell)=true
     .left;rw[Option.map_some,Á hc]
     .right;rw[Option.map_some,Â hc]
    .rcases lk with ⟨z,_⟩|⟨_,c,hc,hcell⟩
     .have z:X.env.scope.names.lookup x=some .local:=z
      rw[z]at kd;rcases kd with kd|kd<;>cases kd
     .refine⟨c,wV q1 hc,?_⟩
      let⟨oc,hoc,hd⟩:=hcell;exact⟨oc,keep _ _ hoc,hd⟩
   all_goals
    have e3:(relabel scope X.env).names.lookup x=some .local\/(relabel scope X.env).names.lookup x=some .cell\/(relabel scope X.env).names.lookup x=some .free:=e3;rw[lK,q]at e3;simp at e3
 .obtain⟨v,oc,hoc,hd⟩:=I.cell x c (hno _ _ h)
  exact⟨v,oc,keep _ _ hoc,hd⟩
 .show (List.replicate xs.length none++σ).length=(xs++mW xs X.N).length
  rw[Ñ,Ñ,í,I.len];unfold mW;rw[Å]
def Inv.unblock(I:Inv X U σ H s)(hfp:∀b∈fp,vU X U H b)(J:Inv 'f' pins' σ' H' s'):Inv X U σ H' s':=
 I.call' (ch:=fp) J.os J.base J.hok J.bare λb hb=>⟨(hfp b hb).2.2.2.1,(hfp b hb).2.1,(hfp b hb).2.2.2.2.1,(hfp b hb).2.2.2.2.2⟩
end
def mX{prog:Program}{w:World}{A:Around}{R:Result->Shared->Prop}{s:Shared}{elt target iter:Expr}{ifs:List Expr}{scope:Scope}{pos:Pos}{it acc:Value}{env:Env}(I:Nat->Shared->Prop)(turn:∀n s,I n s->wpAny 'o' A (pyNext it) (λr s₁=>match r with
   |none=>R (.ok .next) s₁
   |some v=>wpAny 'o' A (letOwnedTupleGo target it v) (λ_ s₁'=>wpAny 'o' A (assign target env v) (λ_ s₂=>
     wpAny 'o' A (forIn ifs true λc r=>if r=true then do let ok <- isTrue c env (eval c env);pure (ForInStep.yield ok)else pure (ForInStep.yield r)) (λok s₃=>
      if ok=true then wpAny 'o' A (eval elt env) (λx s₄=>
       wpAny 'o' A (call (.builtin "list.append") [acc,x]) (λ_ s₅=>∃m,m<n/\I m s₅) (λ_ _=>False) s₄) (λ_ _=>False) s₃
      else ∃m,m<n/\I m s₃) (λ_ _=>False) s₂) (λ_ _=>False) s₁') (λ_ _=>False) s₁) (λ_ _=>False) s)(n:Nat)(h:I n s):codeAny 'o' A (.compLoop (.ListComp elt [⟨target,iter,ifs,0⟩] scope pos) 0 it acc env) R s:=by
 refine codeAny_loop rfl I (λn s hI=>?_) n h;show wpAny _ A ((compTurn (.ListComp elt [⟨target,iter,ifs,0⟩] scope pos) 0 it acc env).onRaise (λx=>do noteFrame x env;theTreesLotGoes x)) _ _ s;refine wpAny_noted ?_;rw[compTurn_list];refine wpAny_bind (wpAny_standAt (wpAny_bind (wpAny_mono (turn n s hI) (λr s₁ h₁=>?_) λ_ _ h'=>h'.elim)));cases r with
 |none=>exact wpAny_pure h₁
 |some v=>
  refine wpAny_bind (wpAny_mono h₁ (λ_ s₁' h₁'=>?_) λ_ _ h'=>h'.elim);refine wpAny_bind (wpAny_mono h₁' (λ_ s₂ h₂=>wpAny_bind (wpAny_mono h₂ (λok s₃ h₃=>?_) λ_ _ h'=>h'.elim)) λ_ _ h'=>h'.elim);cases ok with
  |false=>exact wpAny_pure ⟨rfl,h₃⟩
  |true=>
   exact wpAny_bind (wpAny_bind (wpAny_mono h₃ (λx s₄ h₄=>wpAny_bind (wpAny_mono h₄ (λ_ s₅ h₅=>wpAny_pure (wpAny_pure ⟨rfl,h₅⟩)) λ_ _ h'=>h'.elim)) λ_ _ h'=>h'.elim))
def Q7(X:Cx)(ifs:List Expr)(t:TT):Prop:=
 ∀(U:ZB)(s:Shared)(σ:St)(H:Hp)(Q:Bool->Hp->Prop),Inv X U σ H s->t σ H Q ->
  wpAny 'b' X.A (forIn ifs true λc r=>if r=true then do let ok <- isTrue c X.env (eval c X.env);pure (ForInStep.yield ok)else pure (ForInStep.yield r)) (TP X U σ Q) X.xe s
def CN:Q7 X [] (λ_ H Q=>Q true H):=λ_ _ _ H _ I h=>wpAny_tests_nil ⟨H,I,h⟩
def Y0(h:PT X c t):Q7 X [c] t:=λU s σ H Q I hq=>wpAny_tests_one (h U s σ H Q I hq)
def LX(k:Nat)(wi:TI)(g:TG)(ti:TT)(te:TE):TE:=λσ H Q=>wi σ H λJ H1=>∃W:Nat->Nat->List V->St->Hp->Prop,(∃m,W 0 m [] (List.replicate k none++σ) H1)/\∀i m ys σ' H',W i m ys σ' H' ->
 (J.stop i H'/\∀p,H' p=none->Q (.ref p) (aX H' p (.lst ys))) \/
 (J.go i H'/\ys.length<sizeLine/\∃N:List V->St->Hp->Prop,(∀zs σ'' H'',N zs σ'' H''->∃m',m'<m/\W (i+1) m' zs σ'' H'') /\
  ∀x H2,J.yld i H' x H2->g x σ' H2 λσ2 H3=>ti σ2 H3 λb H4=>if b=true then te σ2 H4 λy H5=>N (ys++[y]) σ2 H5 else N ys σ2 H4)
section
variable {X:Cx}{pos:Pos}{tg elt iter:Expr}{ifs:List Expr}{scope:Scope}{xs:ZG}{wi:TI}{g:TG}{ti:TT}{te:TE}
def wW{U:ZB}{σ:St}{s:Shared}{Q:VK}{itv:Value}{E:ZA}{R:Value->Addr->Result->Shared->Prop}(hc:X.calm=true)(hk:scope.kind=.function)(hok:dY X.N xs scope.names X.env.scope.names=true)(hg:∀C fp s H,PG 'f' tg g)(hif:∀C fp s H,Q7 'f' ifs ti)(he:∀C fp s H,PE 'f' elt te)(h:ņ X U σ tg (λJ H1=>∃W:Nat->Nat->List V->St->Hp->Prop,(∃m,W 0 m [] (List.replicate xs.length none++σ) H1)/\∀i m ys σ' H',W i m ys σ' H' ->
   (J.stop i H'/\∀p,H' p=none->Q (.ref p) (aX H' p (.lst ys))) \/
   (J.go i H'/\ys.length<sizeLine/\∃N:List V->St->Hp->Prop,(∀zs σ'' H'',N zs σ'' H''->∃m',m'<m/\W (i+1) m' zs σ'' H'') /\
    ∀x H2,J.yld i H' x H2->g x σ' H2 λσ2 H3=>ti σ2 H3 λb H4=>if b=true then te σ2 H4 λy H5=>N (ys++[y]) σ2 H5 else N ys σ2 H4)) itv s)(hR:∀D C H' m s',Inv X U σ H' s'->Q (.ref D) H'->s'.heap.Ns C m->H' C=none->X.s₀.heap.objs.size<=C->C≠X.env.locals->(∀x c,X.env.cells.lookup x=some c->c≠C)->(∀p∈X.pn++U,p.1≠C)->R (.ref D) C (.ok .next) s'):
  wpAny 'b' X.A (newList []) (λacc s₃=>wpAny 'b' X.A (newFunctionEnv scope X.env.globals (gH X.env.cells scope.names []) [] X.env.qual none .none (some X.env)) (λcenv s₄=>
   codeAny 'b' X.A (.compStart 'm' 0 itv acc {cenv with scope:=relabel scope X.env}) (R acc cenv.locals) s₄) E s₃) E s:=by
 let⟨it,fp,tn,J,H1,rfl,I,T,st0,hfp,W,⟨m0,w0⟩,turn⟩:=h;have hcell:=vE hok;refine wpAny_newObj_type (wpAny_newFunctionEnv hcell (by intro y hy;simp at hy) (λh₁ hns₁ hsb₁=>?_) hk);dsimp only at hns₁ hsb₁⊢;generalize hH2:s.heap.push {cls:=.type "list",dict:=none,data:=.seq ([]:ZJ).toArray}=G2 at hns₁ hsb₁⊢;have hC:G2.objs.size=s.heap.objs.size+1:=by rw[<- hH2,Heap.size_push]
 have hDC:s.heap.objs.size≠G2.objs.size:=by rw[hC];exact Ê (ç _)
 have hCle:s.heap.objs.size<=G2.objs.size:=by rw[hC];exact Nat.le_succ _
 have old:∀b o,s.heap.get? b=some o->h₁.get? b=some o:=λb o e=>hsb₁.extBut b o (Ê (Ó 'r' hCle)) (Heap.get?_push_of_some _ (hH2▸Heap.get?_push_of_some _ e));have hacc:h₁.get? s.heap.objs.size=some {cls:=.type "list",data:=.seq ([]:ZJ).toArray 0}:=hsb₁.extBut _ _ hDC (Heap.get?_push_of_some _ (hH2▸Heap.get?_push_size _ rfl));have objs:∀b∈fp,∃o,s.heap.get? b=some o:=λb hb=>let ⟨o,e,_⟩:=T.obj 0 _ st0 b hb;⟨o,e⟩
 have ltf:∀b∈fp,b<s.heap.objs.size:=λb hb=>let ⟨_,e⟩:=objs b hb;Heap.lt_size e
 generalize hD:s.heap.objs.size=D at hC hDC hCle hacc ltf⊢;generalize hCC:G2.objs.size=C at hC hDC hCle hns₁ hsb₁⊢;have J0:Inv (aT X xs scope C fp s H1) [] (List.replicate xs.length none++σ) H1 {s with heap:=h₁,toks:=s.toks+([]:List (Str×Value)).length}:=
  I.block hok hk hfp objs (by rw[hD];exact hCle) hns₁ old rfl I.bare
 have cD:∀x c,X.env.cells.lookup x=some c->c≠D/\c≠C:=λx c h=>by
  let⟨v,q⟩:=I.cell x c h;have:=q.lt;rw[hD]at this;exact⟨Ê this,Ê (Ó this hCle)⟩
 have pD:∀p∈X.pn++U,p.1≠D/\p.1≠C:=λp hp=>by
  have:=Heap.lt_size (I.pin p hp).1;rw[hD]at this;exact⟨Ê this,Ê (Ó this hCle)⟩
 have lL:=I.lt;have lS:=I.sz;rw[hD]at lL lS;have lSC:X.s₀.heap.objs.size<=C:=Õ lS hCle;have lLD:D≠X.env.locals:=Û lL;have lLC:C≠X.env.locals:=Û (Ó lL hCle);have Dfs:D∉vA X.stack:=λz=>by
  let⟨_,o,ho,_⟩:=(I.stack).mem z;have:=Heap.lt_size ho;rw[hD]at this;exact ø _ this
 have fpb:∀{H':Hp}{ob:Obj},(∀b∈fp,H' b=none)->∀b∈fp,vU (aT X xs scope C fp s H1) [(D,ob)] H' b:=λ{H' ob}hn b hb=>
  ⟨hn b hb,Ê (Ó (ltf b hb) hCle),λz=>by
   rcases Ì.mp (I.stkSub b z)with z|z
   .exact(hfp b hb).2.1 z
   .exact(hfp b hb).2.2.1 z,.inl hb,λx c h=>(hfp b hb).2.2.2.2.1 x c (rD h),λp hp=>by
    have e:p=(D,ob):=by simpa using hp
    rw[e];exact Û (ltf b hb)⟩
 have loop:∀s₃:Shared,s₃={s with heap:=h₁,toks:=s.toks+([]:List (Str×Value)).length} ->
   codeAny 'b' X.A (.compLoop 'm' 0 (.ref it) (.ref D) (compEnvC scope (gH X.env.cells scope.names []) C X.env)) (R (.ref D) C) s₃:=by
  rintro s₃ rfl;refine mX (λn s'=>∃i σ' H' ys its k,Inv (aT X xs scope C fp s H1) [] σ' H' s'/\tn i s'.heap/\(∀b∈fp,H' b=none)/\W i n ys σ' H'/\bH ys its/\ys.length<=sizeLine /\
   s'.heap.get? D=some {cls:=.type "list",data:=.seq its.toArray k}/\H' D=none) ?_ m0 ⟨0,_,H1,[],[],0,J0,T.keep _ _ _ st0 λb hb o e=>old b o e,λb hb=>(hfp b hb).1,w0,.nil,î _,hacc,I.hok.fresh (by rw[hD];exact Ç _)⟩
  rintro n s1 ⟨i,σ1,K1,ys,its,k,I1,st1,fr1,w1,rv,hz,hd,nd⟩;have lys:=rv.length;generalize hob:({cls:=.type "list",data:=.seq its.toArray k}:Obj)=ob at hd;have I1':Inv (aT X xs scope C fp s H1) [(D,ob)] σ1 K1 s1:=I1.pins_of λp hp=>by
   have e:p=(D,ob):=by simpa using hp
   rw[e];exact⟨hd,nd,hDC,Dfs,λv=>by rw[<- hob];exact λz=>by cases z⟩
  rcases turn i n ys σ1 K1 w1 with ⟨stop,qn⟩|⟨go,hlt,N,hN,step⟩
  .refine cL (T.done (aT X xs scope C fp s H1) rfl rfl rfl hc i [(D,ob)] s1 σ1 K1 (λ_ _=>False) I1' (fpb fr1) st1 stop) λr s2 zQ=>?_;let⟨hr,I2⟩:=zQ
   subst hr;have un:=I.unblock hfp I2;have hd2:=(I2.pin (D,ob) 'e').1;let⟨m2,hn2,_⟩:=I2.loc;refine hR D C (aX K1 D (.lst ys)) m2 s2 (un.adopt nd lS lLD (λx c h=>(cD x c h).1) (λp hp=>(pD p hp).1) ⟨hz,its,k,rv,by rw[hob];exact hd2⟩) (qn D nd) hn2 ?_ lSC lLC (λx c h=>(cD x c h).2) λp hp=>(pD p hp).2;rw[aG (Í hDC)];exact I2.free
  .refine cL (T.item (aT X xs scope C fp s H1) rfl rfl rfl hc i [(D,ob)] s1 σ1 K1 (λ_ _=>False) I1' (fpb fr1) st1 go) λr s2 zQ=>?_;let⟨u,hr,h2⟩:=zQ
   subst hr;refine cL h2 λ_ s3 zQ=>?_;let⟨x,H3,I3,r3,y3,st3,fr3⟩:=zQ;have I3':=I3.pinned (fpb fr3) (T.obj _ _ st3);have again:∀{σ7:St}{H7:Hp}{s7:Shared},Inv (aT X xs scope C fp s H1) ([(D,ob)]++wQ fp s3.heap) σ7 H7 s7->Inv (aT X xs scope C fp s H1) [] σ7 H7 s7/\tn (i+1) s7.heap/\(∀b∈fp,H7 b=none)/\s7.heap.get? D=some ob/\H7 D=none:=λ{σ7 H7 s7}I7=>by
    have pi:∀b∈fp,∀o,s3.heap.get? b=some o->s7.heap.get? b=some o/\H7 b=none:=λb hb o e=>by
     have q:=I7.pin (b,o) (Ù _ (Ù _ (pW hb e)));exact⟨q.1,q.2.1⟩
    have pd:=I7.pin (D,ob) (Ù _ (ü _ 'e'));refine⟨I7.pins_of λp hp=>absurd hp 'e',T.keep _ _ _ st3 λb hb o e=>(pi b hb o e).1,λb hb=>?_,pd.1,pd.2.1⟩;let⟨o,e,_⟩:=T.obj _ _ st3 b hb;exact(pi b hb o e).2
   refine cL (hg C fp s H1 _ s3 σ1 H3 x u _ I3' r3 (step x H3 y3)) λ_ s4 zQ=>?_;let⟨σ4,H4,I4,q4⟩:=zQ;refine cL (hif C fp s H1 _ s4 σ4 H4 _ I4 q4) λb s5 zQ=>?_;let⟨H5,I5,q5⟩:=zQ;cases b with
   |false=>
    rw[Â Þ]at q5⊢;let⟨m',hm,w5⟩:=hN _ _ _ q5;let⟨a1,a2,a3,a4,a5⟩:=again I5;exact⟨m',hm,i+1,σ4,H5,ys,its,k,a1,a2,a3,w5,rv,hz,by rw[hob];exact a4,a5⟩
   |true=>
    rw[Á rfl]at q5⊢;refine cL (he C fp s H1 _ s5 σ4 H5 _ I5 q5) λy s6 zQ=>?_;let⟨yv,H6,I6,r6,q6⟩:=zQ;let⟨m',hm,w6⟩:=hN _ _ _ q6;let⟨a1,a2,a3,a4,a5⟩:=again I6;rw[<- hob]at a4;refine call_meets F.slot_list_append ⟨_,a4,rfl⟩ F.entry_list_append (F.args_list_append_2 _ _) (PySem.list_append D its.toArray k y (by rw[ë];lia)) ⟨a4,?_⟩;have qd:∃k',(s6.heap.update D (Obj.mapSeq λz=>z.push y)).get? D=some {cls:=.type "list",data:=.seq (its++[y]).toArray k'}:=by
     have e:(its++[y]).toArray=its.toArray.push y:=by simp
     rw[e];exact⟨_,PySem.IsL.update a4 λz=>z.push y⟩
    let⟨k',qd⟩:=qd;refine⟨m',hm,i+1,σ4,H6,ys++[yv],its++[y],k',a1.turned (it:=D) (t':=s6.toks) (λb o hb e=>(Heap.get?_update_other s6.heap _ (Í hb)).trans e) a5 hDC (.inr (ö hD)) (λx c h=>(cD x c (rD h)).1) (λp hp=>absurd (show p∈([]:ZB)from hp) 'e'),?_,a3,w6,rv.append (.cons r6 .nil),by rw[Ñ];exact hlt,qd,a5⟩;exact T.keep _ _ _ a2 λb hb o e=>(Heap.get?_update_other s6.heap _ (λz=>by rw[<- z]at hb;exact absurd (ltf D hb) (ø _))).trans e
 exact codeAny_compStart_list (loop _ rfl) (T.self _ 0 _ _ _ (T.keep _ _ _ st0 λb hb o e=>old b o e) (loop _ rfl))
def FH(hc:X.calm=true)(hi:PI X tg iter wi)(hg:∀C fp s H,PG 'f' tg g)(hif:∀C fp s H,Q7 'f' ifs ti)(he:∀C fp s H,PE 'f' elt te)(hk:↥(scope.kind=.function))(hok:↥(dY X.N xs scope.names X.env.scope.names=true))(hs: ~~~(Zfi iter X.env)):
  PE X 'm' (LX xs.length wi g ti te):=by
 intro U s σ H Q I h;rw[eval_ListComp];refine wpAny_comprehension_free (use:=none) rfl hs (LW (I.freeIn hok)) hk (rG hok) (cL (hi U s σ H _ I h) λv s1 h1=>cL h1 λitv s2 h2=>?_);refine wW (Q:=Q) hc hk hok hg hif he h2 λD C H' m s' I' q hn c1 c2 c3 c4 c5=>?_;exact⟨m,hn,λh' sb=>⟨.ref D,H',I'.turned (it:=C) (t':=s'.toks) (λb o hb e=>(sb.2 b hb).trans e) c1 c3 (.inr c2) c4 c5,rfl,q⟩⟩
def rH{pos' spos:Pos}(hc:X.calm=true)(hN:X.N.Nodup)(hx:X.N[i]?=some x)(hl:X.env.scope.names.lookup x=some .local)(hi:PI X tg iter wi)(hg:∀C fp s H,PG 'f' tg g)(hif:∀C fp s H,Q7 'f' ifs ti)(he:∀C fp s H,PE 'f' elt te)(hsw:↥(swapsWith 'm' (some (.Name x pos')) spos.line X.env=pure true))(hk:↥(scope.kind=.function))(hok:↥(dY X.N xs scope.names X.env.scope.names=true))(hs: ~~~(Zfi iter X.env)):
  PS X (.Assign [.Name x pos'] 'm' spos) (YG (LX xs.length wi g ti te) (pE i)):=by
 intro U s σ H D I h;rw[exec_Assign_Name_used _ _ _ _ hsw];refine wpAny_bind (wpAny_standAt (wpAny_bind ?_));show wpAny _ X.A (do let _ <- comprehension 'm' scope X.env _ (newList []) false (eval iter X.env) (some (assign (.Name x pos') X.env))) _ _ s;refine wpAny_bind (wpAny_mono (wpAny_comprehension_free (use:=some (assign (.Name x pos') X.env)) (Q:=λ_ s'=>SP X U D .next s') rfl hs (LW (I.freeIn hok)) hk (rG hok)
  (cL (hi U s σ H _ I h) λv s1 h1=>cL h1 λitv s2 h2=>?_)) (λ_ s' hq=>wpAny_pure (wpAny_pure hq)) λ_ _ e=>e)
 refine wW (Q:=λv H'=>D.nx (σ.set i (some v)) H') hc hk hok hg hif he h2 λD' C H' m s' I' q hn c1 c2 c3 c4 c5=>?_;show wpAny _ X.A (assign (.Name x pos') X.env (.ref D')) _ _ _;refine wpAny_assign_Name (tL I' hN hx (.inl hl) (v:=.ref D') rfl (λs'' I'' zQ=>?_) (.inr hl));let⟨a,sb,ha⟩:=zQ;have hCa:C≠a:=by
  rcases ha with e|e
  .rw[e];exact c3
  .exact Í (c4 _ _ e)
 exact⟨m,hn.sameBut sb hCa,λh' sb'=>⟨_,H',I''.turned (it:=C) (t':=s''.toks) (λb o hb e=>(sb'.2 b hb).trans e) c1 c3 (.inr c2) c4 c5,q⟩⟩
end
def mH(h:Heap)(e:Addr)(cls:Value)(ch:ZM):Prop:=
 ∃oe vs,h.get? e=some oe/\(oe.cls=cls/\oe.dict=none)/\oe.data=.fields vs/\1<vs.size /\
  ((vs[1]?=some .none/\ch=[e])\/∃T oT ts fl,vs[1]?=some (.ref T)/\ch=[e,T]/\T≠e/\h.get? T=some oT/\oT.data=.fields ts/\ts[3]?=some fl)
def wX(o:Obj)(f:Array Value->Array Value):(o.mapFields f).dict=o.dict:=by
 unfold Obj.mapFields;split<;>rfl
structure XT(fs ch:ZM)(h h':Heap):Prop where
 keep:∀b o,b∉ch->b∉fs->h.get? b=some o->h'.get? b=some o
 slot:∀b o,b∉ch->h.get? b=some o->∃sl,h'.get? b=some {o with slots:=sl}
 there:∀b o,h.get? b=some o->∃o',h'.get? b=some o'
def XT.refl:XT fs ch h h:=⟨λ_ _ _ _ e=>e,λ_ o _ e=>⟨o.slots,e⟩,λ_ o e=>⟨o,e⟩⟩
def XT.trans{fs ch ch':ZM}{h h1 h2:Heap}(a:XT fs ch h h1)(b:XT fs ch' h1 h2)(hc:∀x∈ch',x∈ch\/h.get? x=none):XT fs ch h h2 where
 keep:=λx o n1 n2 e=>b.keep x o (λm=>(hc x m).elim n1 λz=>by rw[z]at e;cases e) n2 (a.keep x o n1 n2 e)
 slot:=λx o n1 e=>by
  let⟨sl,e1⟩:=a.slot x o n1 e;let⟨sl2,e2⟩:=b.slot x _ (λm=>(hc x m).elim n1 λz=>by rw[z]at e;cases e) e1;exact⟨sl2,e2⟩
 there:=λx o e=>by
  let⟨o1,e1⟩:=a.there x o e;exact b.there x o1 e1
section
variable {M:Model}{A:Around}{E:ZA}{s:Shared}{base:Heap}{env:Env}{outer:List Env}{L e:Addr}{cls:Value}{ch:ZM}{Q:Unit->Shared->Prop}
def FunFrames.noFields{h:Heap}(hl:h.FunFrames base l)(he:h.get? e=some o)(hd:o.data=.fields vs):e∉vA l:=λhm=>by
 let⟨_,o',ho,hnf⟩:=hl.mem hm
 grind
def LY{oe:Obj}{vs:Array Value}{head:Value}{hadNext:Bool}(hfr:A.frames=some (env::outer))(hl:s.heap.FunFrames base (env::outer))(hf:env.frame=some L)(he:s.heap.get? e=some oe)(hd:oe.data=.fields vs)(hsz:1<vs.size)(h:∀h',XT (vA (env::outer)) [e] s.heap h'->(∃oe' vs' T oT ts,h'.get? e=some oe'/\(oe'.cls=oe.cls/\oe'.dict=oe.dict)/\oe'.data=.fields vs'/\1<vs'.size/\vs'[1]?=some (.ref T)/\T≠e/\s.heap.get? T=none/\s.heap.objs.size<=T/\h'.get? T=some oT/\oT.data=.fields ts/\ts[3]?=some (rawInt L))->Q () {s with heap:=h'}):
  wpAny M A (do let a <- frameOf env;let pl <- entryPlaceOf L hadNext;let b <- EntryCells.newEntry head a .none (rawInt L) .none pl;setField (.ref e) 1 b) Q E s:=by
 have hene:=FunFrames.noFields hl he hd;refine wpAny_bind (wpAny_frameOf_fun hfr hl hf λh₁ hs₁=>?_);refine wpAny_bind (wpAny_entryPlaceOf λpl hpl=>?_);unfold EntryCells.newEntry newFields;refine wpAny_bind (wpAny_newObj_type ?_ (hpl.sizeOk5 _ _ _ _ _));have he₁:h₁.get? e=some oe:=(hs₁.2.1 e hene).trans he;have he₂:=Heap.get?_push_of_some (h:=h₁) {cls:=.type "traceback",dict:=none,data:=.fields ([head,.ref L,.none,rawInt L,.none]++(if pl.isEmpty then List.replicate 6 Value.none else pl)).toArray} he₁;refine wpAny_setField he₂ hd hsz (h _ ?_ ?_)
 all_goals have hTe:h₁.objs.size≠e:=Û (Heap.lt_size he₁)
 all_goals have hd₃:=Obj.data_mapFields hd (·.setIfInBounds 1 (Value.ref h₁.objs.size))
 all_goals have he₃:=Heap.get?_update_self (Obj.mapFields (·.setIfInBounds 1 (Value.ref h₁.objs.size))) he₂ (Obj.isFreed_of_fields hd₃)
 .have keep:∀b o,b≠e->h₁.get? b=some o ->
   ((h₁.push {cls:=.type "traceback",dict:=none,data:=.fields ([head,.ref L,.none,rawInt L,.none]++(if pl.isEmpty then List.replicate 6 Value.none else pl)).toArray}).update e (Obj.mapFields (·.setIfInBounds 1 (Value.ref h₁.objs.size)))).get? b=some o:=
   λb o hbe hb=>by
    rw[Heap.get?_update_other _ _ (Í hbe)];exact Heap.get?_push_of_some _ hb
  refine⟨λb o n1 n2 q=>keep b o (by simpa using n1) ((hs₁.2.1 b n2).trans q),λb o n1 q=>?_,λb o q=>?_⟩
  .obtain⟨sl,q1⟩:=hs₁.2.2 b o q
   exact⟨sl,keep b _ (by simpa using n1) q1⟩
  .by_cases hb:b=e
   .subst hb;exact⟨_,he₃⟩
   .obtain⟨sl,q1⟩:=hs₁.2.2 b o q
    exact⟨_,keep b _ hb q1⟩
 .have hT₃:=(Heap.get?_update_other (h₁.push {cls:=.type "traceback",dict:=none,data:=.fields ([head,.ref L,.none,rawInt L,.none]++(if pl.isEmpty then List.replicate 6 Value.none else pl)).toArray})
   (Obj.mapFields (·.setIfInBounds 1 (Value.ref h₁.objs.size))) (Í hTe)).trans (Heap.get?_push_size h₁ rfl)
  have hsz1:s.heap.objs.size<=h₁.objs.size:=ö hs₁.1.symm;refine⟨_,_,h₁.objs.size,_,_,he₃,⟨Obj.cls_mapFields _ _,wX _ _⟩,hd₃,by simpa using hsz,by simp[hsz],hTe,?_,hsz1,hT₃,rfl,by first|(simp;done)|(rcases hpl with rfl|⟨_,_,_,_,_,_,_,rfl⟩<;>simp)⟩;cases q:s.heap.get? h₁.objs.size with
  |none=>rfl
  |some o=>exact absurd (Heap.lt_size q) (Nat.not_lt_of_le hsz1)
def wY(h0 h:Heap)(e:Addr)(cls:Value)(ch ch':ZM)(fl:Value):Prop:=
 ∃oe vs T oT ts,h.get? e=some oe/\(oe.cls=cls/\oe.dict=none)/\oe.data=.fields vs/\1<vs.size/\vs[1]?=some (.ref T)/\ch'=[e,T]/\T≠e/\h.get? T=some oT/\oT.data=.fields ts/\ts[3]?=some fl/\(T∈ch\/(h0.get? T=none/\h0.objs.size<=T))
def wY.exc(x:wY h0 h e cls ch ch' fl):mH h e cls ch':=by
 let⟨oe,vs,T,oT,ts,h1,h2,h3,h4,h5,h6,h7,h8,h9,h10,_⟩:=x;exact⟨oe,vs,h1,h2,h3,h4,.inr ⟨T,oT,ts,fl,h5,h6,h7,h8,h9,h10⟩⟩
def wY.new(x:wY h0 h e cls ch ch' fl)(he:e∈ch):∀b∈ch',b∈ch\/(h0.get? b=none/\h0.objs.size<=b):=by
 let⟨oe,vs,T,oT,ts,h1,h2,h3,h4,h5,h6,h7,h8,h9,h10,h11⟩:=x;subst h6;intro b hb;simp![Ì,Ø,or_false]at hb;rcases hb with rfl|rfl
 .exact .inl he
 .exact h11
def mH.mem(x:mH h e cls ch):e∈ch:=by
 obtain⟨_,_,_,_,_,_,⟨_,rfl⟩|⟨_,_,_,_,_,rfl,_⟩⟩:=x<;>simp
def FunFrames.xt(hl:h.FunFrames base l)(hx:XT (vA l) ch h h')(hc:∀b∈ch,∃o vs,h.get? b=some o/\o.data=.fields vs):h'.FunFrames base l:=
 hl.of_keeps λb o ho hn=>by
  let⟨sl,q⟩:=hx.slot b o (λm=>by grind) ho;exact⟨_,q,rfl⟩
def mH.recs(x:mH h e cls ch):∀b∈ch,∃o vs,h.get? b=some o/\o.data=.fields vs:=by
 obtain⟨oe,vs,h1,h2,h3,h4,⟨h5,rfl⟩|⟨T,oT,ts,fl,h5,rfl,h6,h7,h8,h9⟩⟩:=x
 all_goals grind
def SF(hfr:A.frames=some (env::outer))(hl:s.heap.FunFrames base (env::outer))(hf:env.frame=some L)(x:mH s.heap e cls ch)(h:∀h' ch',XT (vA (env::outer)) ch s.heap h'->wY s.heap h' e cls ch ch' (rawInt L)->Q () {s with heap:=h'}):wpAny M A (noteFrame (.ref e) env) Q E s:=by
 have hrec:=x.recs;obtain⟨oe,vs,he,⟨rfl,hdi⟩,hd,hsz,⟨h1,rfl⟩|⟨T,oT,ts,fl,h1,rfl,hTe,hT,hdT,h3⟩⟩:=x
 .unfold noteFrame
  simp![hf];refine wpAny_bind (wpAny_field he hd h1 ?_);rw[Â ⋯];refine LY hfr hl hf he hd hsz λh' xt m=>?_;let⟨oe',vs',T,oT,ts,q1,q2,q3,q4,q5,q6,q7,q8,q9,q10,q11⟩:=m;exact h h' [e,T] xt ⟨oe',vs',T,oT,ts,q1,⟨q2.1,q2.2.trans hdi⟩,q3,q4,q5,rfl,q6,q9,q10,q11,.inr ⟨q7,q8⟩⟩
 .unfold noteFrame
  simp![hf];refine wpAny_bind (wpAny_field he hd h1 ?_);rw[Á (show (Value.ref T != Value.none)=true from by simp)];refine wpAny_bind (wpAny_field hT hdT h3 ?_);by_cases hfl:fl=rawInt L
  .subst hfl
   rw[Á (show (rawInt L == rawInt L)=true from by simp)];exact wpAny_pure (h s.heap [e,T] XT.refl ⟨oe,vs,T,oT,ts,he,⟨rfl,hdi⟩,hd,hsz,h1,rfl,hTe,hT,hdT,h3,.inl 'e'⟩)
  .rw[Â (show ¬((fl == rawInt L)=true)from λz=>hfl (beq_iff_eq.mp z))]
   refine wpAny_bind (wpAny_setField hT hdT (Array.getElem?_eq_some_iff.mp h3).1 ?_);have other:∀b,b≠T->(s.heap.update T (Obj.mapFields (·.setIfInBounds 3 Value.none))).get? b=s.heap.get? b:=λb hb=>Heap.get?_update_other _ _ (Í hb);have hself:=Heap.get?_update_self (Obj.mapFields (·.setIfInBounds 3 Value.none)) hT (Obj.isFreed_of_fields (Obj.data_mapFields hdT _));have xt1:XT (vA (env::outer)) [e,T] s.heap (s.heap.update T (Obj.mapFields (·.setIfInBounds 3 Value.none))):=by
    refine⟨λb o n1 n2 q=>(other b (by simp at n1;exact n1.2)).trans q,λb o n1 q=>⟨o.slots,(other b (by simp at n1;exact n1.2)).trans q⟩,λb o q=>?_⟩;by_cases hb:b=T
    .grind
    .grind
   refine LY hfr (FunFrames.xt hl xt1 hrec) hf ((other e (Í hTe)).trans he) hd hsz λh' xt m=>?_;let⟨oe',vs',T',oT',ts',q1,q2,q3,q4,q5,q6,q7,q8,q9,q10,q11⟩:=m;have hn:s.heap.get? T'=none:=by
    cases z:s.heap.get? T' with
    |none=>rfl
    |some o=>
     grind
   have hs':s.heap.objs.size<=T':=by
    have q8:(s.heap.update T (Obj.mapFields (·.setIfInBounds 3 Value.none))).objs.size<=T':=q8
    rwa [Heap.size_after_update]at q8
   exact h h' [e,T'] (xt1.trans xt λb hb=>by grind) ⟨oe',vs',T',oT',ts',q1,⟨q2.1,q2.2.trans hdi⟩,q3,q4,q5,rfl,q6,q9,q10,q11,.inr ⟨hn,hs'⟩⟩
def rJ{fs:ZM}(x:mH s.heap e cls ch)(h:∀h',XT fs ch s.heap h'->mH h' e cls ch->Q () {s with heap:=h'}):wpAny M A (setFlight (.ref e) none) Q E s:=by
 obtain⟨oe,vs,he,⟨rfl,hdi⟩,hd,hsz,⟨h1,rfl⟩|⟨T,oT,ts,fl,h1,rfl,hTe,hT,hdT,h3⟩⟩:=x
 .unfold setFlight
  refine wpAny_bind (wpAny_field he hd h1 ?_);rw[Â ⋯];exact wpAny_pure (h s.heap XT.refl ⟨oe,vs,he,⟨rfl,hdi⟩,hd,hsz,.inl ⟨h1,rfl⟩⟩)
 .unfold setFlight
  refine wpAny_bind (wpAny_field he hd h1 ?_);rw[Á (show (Value.ref T != Value.none)=true from by simp)];have hsz3:=(Array.getElem?_eq_some_iff.mp h3).1;have other:∀b,b≠T->(s.heap.update T (Obj.mapFields (·.setIfInBounds 3 ((none:Option Addr).elim Value.none λf=>rawInt f)))).get? b=s.heap.get? b:=λb hb=>Heap.get?_update_other _ _ (Í hb);have hself:=Heap.get?_update_self (Obj.mapFields (·.setIfInBounds 3 ((none:Option Addr).elim Value.none λf=>rawInt f))) hT (Obj.isFreed_of_fields (Obj.data_mapFields hdT _));refine wpAny_setField hT hdT hsz3 (h _ ?_ ?_)
  .refine⟨λb o n1 n2 q=>(other b (by simp at n1;exact n1.2)).trans q,λb o n1 q=>⟨o.slots,(other b (by simp at n1;exact n1.2)).trans q⟩,λb o q=>?_⟩
   grind
  .exact⟨oe,vs,(other e (Í hTe)).trans he,⟨rfl,hdi⟩,hd,hsz,.inr ⟨T,_,_,_,h1,rfl,hTe,hself,Obj.data_mapFields hdT _,by simp[hsz3];rfl⟩⟩
def Y1(hfr:A.frames=some (env::outer))(hl:s.heap.FunFrames base (env::outer))(hf:env.frame=some L)(x:mH s.heap e cls ch)(h:∀h' ch',XT (vA (env::outer)) ch s.heap h'->mH h' e cls ch'->(∀b∈ch',b∈ch\/(s.heap.get? b=none/\s.heap.objs.size<=b))->Q () {s with heap:=h'}):wpAny M A (leaving env (.ref e)) Q E s:=by
 have hm:=x.mem;unfold leaving;refine wpAny_bind (SF hfr hl hf x λh1 ch1 xt1 m1=>?_);have hn:=m1.new hm;refine rJ (fs:=vA (env::outer)) m1.exc λh2 xt2 e2=>?_;exact h h2 ch1 (xt1.trans xt2 λb hb=>(hn b hb).imp id (·.1)) e2 hn
end
section
variable {X:Cx}{U:ZB}{σ:St}{H H':Hp}{s:Shared}{h':Heap}{ch:ZM}{b:Addr}
structure pJ(X:Cx)(U:ZB)(H:Hp)(b:Addr):Prop where
 un:H b=none
 new:b∈X.ex\/X.s₀.heap.get? b=none
 fr:b≠X.env.locals
 cell:∀x c,X.env.cells.lookup x=some c->c≠b
 pin:∀p∈X.pn++U,p.1≠b
def dO.there(x:dO P w H h a o):∃ob,h.get? a=some ob:=by
 cases o with
 |lst xs=>let⟨_,_,_,_,e⟩:=x;exact⟨_,e⟩
 |tup xs=>let⟨_,_,_,_,e,_⟩:=x;exact⟨_,e⟩
 |dK À=>let⟨_,_,_,_,o,_,_,e,_⟩:=x;exact⟨_,e⟩
 |dT À=>let⟨_,_,_,_,o,_,_,e,_⟩:=x;exact⟨_,e⟩
 |set S n=>let⟨o,_,_,_,e,_⟩:=x;exact⟨_,e⟩
 |ins C dx fs=>let⟨_,_,_,e,_⟩:=x;exact⟨_,e⟩
 |own y=>let⟨_,e⟩:=x;exact⟨_,e⟩
 |xd fs=>let⟨_,⟨_,_,_,e,_⟩,_⟩:=x;exact⟨_,e⟩
 |rng lo hi=>let⟨_,_,_,e⟩:=x;exact⟨_,e⟩
 |frz o u=>exact⟨_,x.1⟩
 |tbl ps=>exact⟨_,x⟩
 |lam t u q=>let⟨_,e,_⟩:=x;exact⟨_,e⟩
 |met f y=>exact⟨_,x⟩
 |ext φ=>exact x.2.1
def mG.none(x:mG P w H h)(e:h.get? a=Option.none):H a=Option.none:=by
 cases q:H a with
 |none=>rfl
 |some u=>
  let⟨o,z⟩:=(x a u q).there;rw[e]at z;cases z
def pJ.of(I:Inv X U σ H s)(hn:H' b=none)(h:s.heap.get? b=none):pJ X U H' b:=by
 refine⟨hn,?_,λe=>?_,λx c e z=>?_,λp hp z=>?_⟩
 .by_cases hx:b∈X.ex
  .exact .inl hx
  .refine .inr ?_
   cases q:X.s₀.heap.get? b with
   |none=>rfl
   |some o=>
    let⟨o',e⟩:=I.base.there b o q hx;rw[h]at e;cases e
 .obtain⟨m,⟨o,es,ep,ho,_⟩,_⟩:=I.loc
  grind
 .obtain⟨v,o,ho,_⟩:=I.cell x c e
  rw[z,h]at ho;cases ho
 .have:=(I.pin p hp).1
  grind
def XT.hok(I:Inv X U σ H s)(x:XT (vA X.stack) ch s.heap h')(hc:∀b∈ch,H b=none):mG X.prog X.w H h':=λa o e=>
 (I.hok a o e).stay (λb u hb q=>x.keep b u (λm=>by
  grind) (λm=>by
  have:=I.stkFree b m
  grind) q) (λ_ q=>q) λ_ _ q=>q
def Inv.xt(I:Inv X U σ H s)(x:XT (vA X.stack) ch s.heap h')(hc:∀b∈ch,pJ X U H b):Inv X U σ H {s with heap:=h'}:=by
 have nl:∀b o,X.s₀.heap.get? b=some o->b≠X.env.locals:=λb o q e=>ø _ (Ó (Heap.lt_size q) (by rw[e];exact I.ok.above));have nc:∀b o,X.s₀.heap.get? b=some o->b∉X.ex->b∉ch:=λb o q hx m=>by rw[(hc b m).new.resolve_left hx]at q;cases q
 have cells:∀c v,(∃y,X.env.cells.lookup y=some c)->s.heap.IsCell c v->h'.IsCell c v:=λc v⟨y,e⟩⟨o,ho,hd⟩=>by
  let⟨sl,q⟩:=x.slot c o (λm=>(hc c m).cell y c e rfl) ho;exact⟨_,q,hd⟩
 refine⟨I.ok,I.os,I.bare,⟨λb o q n hf hx=>x.keep b o (nc b o q hx) (λz=>(Ì.mp (I.stkSub b z)).elim (nl b o q) hf) (I.base.keep b o q n hf hx),λb o q n hf hx=>?_,I.base.free,λb o q hx=>?_,I.base.tups,I.base.frzs,I.base.tbls⟩,?_,λy c e=>?_,I.free,I.freeC,λp hp=>?_,x.hok I λb hb=>(hc b hb).un,I.len⟩
 .obtain⟨sl,e⟩:=I.base.slot b o q n hf hx
  let⟨sl2,e2⟩:=x.slot b _ (nc b o q hx) e;exact⟨sl2,e2⟩
 .obtain⟨o1,e1⟩:=I.base.there b o q hx
  exact x.there b o1 e1
 .obtain⟨m,⟨o,es,ep,ho,r⟩,hl⟩:=I.loc
  let⟨sl,q⟩:=x.slot X.env.locals o (λmm=>(hc _ mm).fr rfl) ho;refine⟨m,⟨_,es,ep,q,r⟩,λi y v e1 e2 e3=>?_⟩;let⟨u,r1,lk⟩:=hl i y v e1 e2 e3;refine⟨u,r1,?_⟩;rcases lk with lk|⟨lk,c,c1,c2⟩
  .exact .inl lk
  .exact .inr ⟨lk,c,c1,cells c _ ⟨y,c1⟩ c2⟩
 .obtain⟨v,q⟩:=I.cell y c e
  exact⟨v,cells c v ⟨y,e⟩ q⟩
 .obtain⟨e,n,ne,nf,d⟩:=I.pin p hp
  exact⟨x.keep p.1 p.2 (λm=>(hc p.1 m).pin p hp rfl) (λz=>(Ì.mp (I.stkSub p.1 z)).elim ne nf) e,n,ne,nf,d⟩
def SG(X:Cx)(U:ZB)(H:Hp)(s:Shared)(nm:Str)(e:Value):Prop:=
 ∃a cls ch,e=.ref a/\W.nsIn X.K mainGlobals nm=some (some cls)/\mH s.heap a cls ch/\∀b∈ch,pJ X U H b
end
abbrev D:=PyData
abbrev DS:=List (ZL)
inductive Res(α:Type) where
 |ok (a:α) (δ:DS)
 |err (x:D) (δ:DS)
 |stuck
def Res.bind{α β:Type}:Res α->(α->DS->Res β)->Res β
 |.ok a δ,k=>k a δ
 |.err x δ,_=>.err x δ
 |.stuck,_=>.stuck
abbrev M(α:Type):=DS->Res α
structure b8 where
 F0:Hp
 H0:Hp
 g0:Addr->Option (Nat×ZH)
 ps:ZH
 σ0:St
 owp:ZH
 wf:∀a i q,g0 a=some (i,q)->i∈ps
abbrev ŏ:=Nat×ZH
abbrev ZP:=Addr->Option ŏ
def kd:Nat->Nat
 |20=>2
 |30=>3
 |_=>0
def ch:Nat->Nat->Nat
 |20,1=>1
 |20,2=>1
 |20,_=>0
 |30,_=>0
 |n,_=>n-1
def dE(nm:Str)(fs:ZG)(ds:ZI):D:=.dict ((.none,.str nm)::(fs.map PyData.str).zip ds)
def kL(ms:List dN)(ds:ZI):D:=.dict ((ms.map EW).zip ds)
abbrev SH:=Addr×ZH×HO
def Nd(K:ZC)(k:Nat)(d:D)(ds:ZI)(v:V)(vs:List V)(cs:List SH):Prop:=match k with
 |0=>∃a,d=.list ds/\v=.ref a/\cs=[(a,[],.lst vs)]
 |1=>∃a,d=.tuple ds/\v=.ref a/\cs=[(a,[],.tup vs)]
 |2=>∃a nm fs C dx,d=dE nm fs ds/\v=.ref a/\fs.length=ds.length/\W.nsIn K mainGlobals nm=some (some (.ref C))/\cs=[(a,[],.ins C dx (fs.zip vs)),(dx,[1000],.own a)]
 |_=>∃a ms,d=kL ms ds/\v=.ref a/\ms.length=ds.length/\cs=[(a,[],.dK (ms.zip vs))]
def iN(K:ZC)(F H:Hp)(g:ZP)(i:Nat):Nat->Nat->ZH->D->V->Prop
 |_,0,_,d,v=>bI K F d v
 |0,_+1,_,_,_=>False
 |f+1,c+1,p,d,v=>∃(ds:ZI)(vs:List V)(cs:List SH),Nd K (kd (c+1)) d ds v vs cs/\(∀x∈cs,g x.1=some (i,p++x.2.1)/\H x.1=some x.2.2/\F x.1=none)/\ds.length=vs.length /\
   ∀(k:Nat)(d':D)(v':V),ds[k]?=some d'->vs[k]?=some v'->iN K F H g i f (ch (c+1) k) (p++[k]) d' v'
def bD(K:ZC)(F H:Hp)(g:ZP)(i:Nat)(n:Nat)(p:ZH)(d:D)(v:V):Prop:=iN K F H g i n n p d v
def mY:Str:="place_below"
def kM:Str:="place_below.<locals>.<lambda>"
def CO:List Stmt->Option Pos
 |[_,.Return (some (.Call _ _ (⟨_,.Lambda _ _ _ pos,_⟩::_) _)) _]=>some pos
 |_=>none
def jK(K:ZC):(Option (Addr×Addr×Pos)):=match W.nsIn K mainGlobals mY with
 |some (some (.ref f))=>(match K.lookup f with
  |some ⟨_,_,.func fd,_⟩=>(match fd.body,W.tabIn K mY with
   |.stmts b,some (c,P)=>(match CO b with
    |some pos=>some (c,P,pos)
    |none=>none)
   |_,_=>none)
  |_=>none)
 |_=>none
def X4(K:ZC)(F:Hp):Prop:=∀c P pos,jK K=some (c,P,pos)->F P=some (.lam (rawInt pos.line) (rawInt pos.col) kM)
def X4.mono{K:ZC}(h:X4 K F)(s:aL F F'):X4 K F':=λc P pos e=>s _ _ (h c P pos e)
def AV(K:ZC)(F0 F:Hp):Prop:=X4 K F0/\aL F0 F
def AV.trans'{K:ZC}(a:AV K H H1)(b:aL H1 H2):AV K H H2:=⟨a.1,λc o h=>b c o (a.2 c o h)⟩
def AV.lm{K:ZC}(a:AV K H H1):X4 K H1:=a.1.mono a.2
structure cA(K:ZC)(Z:b8)(ow:ZH)(g:ZP)(F H:Hp)(σ:St)(δ:DS):Prop where
 sub:aL F H
 f0:AV K Z.F0 F
 kept:∀b o,Z.g0 b=none->Z.H0 b=some o->H b=some o
 new:∀a,Z.F0 a=none->Z.H0 a≠none->F a=none
 there:∀b,Z.H0 b≠none->H b≠none
 lab:∀a i p,g a=some (i,p)->Z.H0 a=none\/∃q,Z.g0 a=some (i,q)
 len:δ.length=σ.length
 par:∀i∈Z.ps,σ[i]?=Z.σ0[i]?/\ow.getD i 0=Z.owp.getD i 0
 slot:∀(i:Nat)(d:D),δ[i]?=some (some d)->∃v,σ[i]?=some (some v)/\bD K F H g i (ow.getD i 0) [] d v
def cM(K:ZC)(Z:b8)(ow:ZH)(F H:Hp)(σ:St)(δ:DS):Prop:=∃g,cA K Z ow g F H σ δ
def gF(K:ZC)(Z:b8)(ow:ZH)(n:Nat)(d:D)(v:V)(F H:Hp)(σ:St)(δ:DS):Prop:=∃g,cA K Z ow g F H σ δ/\bD K F H g 1000 n [] d v
def aL.trans'(a:aL H H1)(b:aL H1 H2):aL H H2:=λc o h=>b c o (a c o h)
def aE.len{K:ZC}:∀{ds:ZI}{vs:List V},aE K F ds vs->ds.length=vs.length
 |[],vs,h=>by unfold aE at h;rw[h];rfl
 |d::ds,vs,h=>by
  unfold aE at h;let⟨x,r,rfl,_,h⟩:=h;rw[Ý,Ý,aE.len h]
def aE.get{K:ZC}:∀{ds:ZI}{vs:List V}{i:Nat}{d:D},aE K F ds vs->ds[i]?=some d->∃v,vs[i]?=some v/\bI K F d v
 |d::ds,vs,0,d',h,e=>by
  unfold aE at h
  grind
 |d::ds,vs,i+1,d',h,e=>by
  unfold aE at h;let⟨x,r,rfl,hx,h⟩:=h;exact aE.get (i:=i) h e
def aE.of{K:ZC}{ds:ZI}(hl:ds.length=vs.length)(h:∀(k:Nat)(d:D)(v:V),ds[k]?=some d->vs[k]?=some v->bI K F d v):aE K F ds vs:=by
 induction ds generalizing vs with
 |nil=>
  cases vs with
  |nil=>unfold aE;rfl
  |cons v vs=>cases hl
 |cons d ds ih=>
  cases vs with
  |nil=>cases hl
  |cons v vs=>
   unfold aE;exact⟨v,vs,rfl,h 0 d v rfl rfl,ih (Nat.succ.inj hl) λk d' v' e1 e2=>h (k+1) d' v' e1 e2⟩
def aE.both{K:ZC}{ds:ZI}(h:aE K F ds vs)(k:Nat)(d:D)(v:V)(e1:ds[k]?=some d)(e2:vs[k]?=some v):bI K F d v:=by
 let⟨v',e,r⟩:=h.get e1
 grind
def lM{K:ZC}:aE K F [] []:=by unfold aE;rfl
def lN{K:ZC}(h:bI K F d v)(t:aE K F ds vs):aE K F (d::ds) (v::vs):=by unfold aE;exact⟨v,vs,rfl,h,t⟩
def aE.app{K:ZC}:∀{ds es:ZI}{vs ws:List V},aE K F ds vs->aE K F es ws->aE K F (ds++es) (vs++ws)
 |[],es,vs,ws,h,t=>by unfold aE at h;rw[h];exact t
 |d::ds,es,vs,ws,h,t=>by
  unfold aE at h;let⟨x,r,rfl,hx,h⟩:=h;exact lN hx (aE.app h t)
def aE.take{K:ZC}(n:Nat)(h:aE K F ds vs):aE K F (ds.take n) (vs.take n):=
 aE.of (by rw[ù,ù,h.len]) λk d v e1 e2=>by
  rw[List.getElem?_take]at e1 e2;split at e1
  .rw[Á 'q']at e2;exact h.both k d v e1 e2
  .cases e1
def aE.drop{K:ZC}(n:Nat)(h:aE K F ds vs):aE K F (ds.drop n) (vs.drop n):=
 aE.of (by rw[Č,Č,h.len]) λk d v e1 e2=>by
  rw[List.getElem?_drop]at e1 e2;exact h.both _ d v e1 e2
def LZ:∀{c k:Nat},ch (c+1) k<=c:=by
 intro c k;unfold ch;split<;>lia
def iN.trans{K:ZC}{g g':ZP}(hF:aL F F')(h:∀a p o,g a=some (i,p)->H a=some o->F a=none->g' a=some (j,q++p)/\H' a=some o/\F' a=none)(r:iN K F H g i f c p d v):iN K F' H' g' j f c (q++p) d v:=by
 induction f generalizing c p d v with
 |zero=>
  cases c with
  |zero=>exact hF.rep d v r
  |succ c=>exact r.elim
 |succ f ih=>
  cases c with
  |zero=>exact hF.rep d v r
  |succ c=>
   let⟨ds,vs,cs,nd,hc,hl,r⟩:=r;refine⟨ds,vs,cs,nd,λx hx=>?_,hl,λk d' v' q1 q2=>?_⟩
   .obtain⟨a1,a2,a3⟩:=hc x hx
    rw[List.append_assoc];exact h _ _ _ a1 a2 a3
   .rw[List.append_assoc]
    exact ih (r k d' v' q1 q2)
def iN.fuel{K:ZC}(h1:c<=f)(h2:c<=f')(r:iN K F H g i f c p d v):iN K F H g i f' c p d v:=by
 induction f generalizing c f' p d v with
 |zero=>
  cases c with
  |zero=>unfold iN at r⊢;exact r
  |succ c=>exact r.elim
 |succ f ih=>
  cases c with
  |zero=>unfold iN at r⊢;exact r
  |succ c=>
   cases f' with
   |zero=>exact absurd h2 (Nat.not_succ_le_zero _)
   |succ f'=>
    let⟨ds,vs,cs,nd,hc,hl,r⟩:=r;exact⟨ds,vs,cs,nd,hc,hl,λk d' v' q1 q2=>ih (Õ LZ (Nat.le_of_succ_le_succ h1)) (Õ LZ (Nat.le_of_succ_le_succ h2)) (r k d' v' q1 q2)⟩
def bD.open{K:ZC}(h:bD K F H g i (c+1) p d v):
  ∃(ds:ZI)(vs:List V)(cs:List SH),Nd K (kd (c+1)) d ds v vs cs/\(∀x∈cs,g x.1=some (i,p++x.2.1)/\H x.1=some x.2.2/\F x.1=none)/\ds.length=vs.length /\
   ∀(k:Nat)(d':D)(v':V),ds[k]?=some d'->vs[k]?=some v'->bD K F H g i (ch (c+1) k) (p++[k]) d' v':=by
 let⟨ds,vs,cs,nd,hc,hl,r⟩:=h;exact⟨ds,vs,cs,nd,hc,hl,λk d' v' q1 q2=>iN.fuel LZ (Ç _) (r k d' v' q1 q2)⟩
def bD.shut{K:ZC}{F H:Hp}{g:ZP}{i c:Nat}{p:ZH}{d:D}{v:V}{ds:ZI}{vs:List V}{cs:List SH}(nd:Nd K (kd (c+1)) d ds v vs cs)(hc:∀x∈cs,g x.1=some (i,p++x.2.1)/\H x.1=some x.2.2/\F x.1=none)(hl:ds.length=vs.length)(r:∀(k:Nat)(d':D)(v':V),ds[k]?=some d'->vs[k]?=some v'->bD K F H g i (ch (c+1) k) (p++[k]) d' v'):bD K F H g i (c+1) p d v:=
 ⟨ds,vs,cs,nd,hc,hl,λk d' v' q1 q2=>iN.fuel (Ç _) LZ (r k d' v' q1 q2)⟩
def bD.lst{K:ZC}{i c m:Nat}(h:bD K F H g i (c+1) p d v)(hk:↥(kd (c+1)=0))(hm:∀k,ch (c+1) k=m:=by intro k;rfl):
  ∃(a:Addr)(ds:ZI)(vs:List V),d=.list ds/\v=.ref a/\g a=some (i,p)/\H a=some (.lst vs)/\F a=none/\ds.length=vs.length /\
   ∀(k:Nat)(d':D)(v':V),ds[k]?=some d'->vs[k]?=some v'->bD K F H g i m (p++[k]) d' v':=by
 let⟨ds,vs,cs,nd,hc,hl,r⟩:=h.open;rw[hk]at nd;let⟨a,rfl,rfl,rfl⟩:=nd;let⟨a1,a2,a3⟩:=hc _ (ð.mpr rfl);exact⟨a,ds,vs,rfl,rfl,by simpa using a1,a2,a3,hl,λk d' v' q1 q2=>by rw[<- hm k];exact r k d' v' q1 q2⟩
def bD.mkL{K:ZC}{g:ZP}(h:∃(a:Addr)(ds:ZI)(vs:List V),d=.list ds/\v=.ref a/\g a=some (i,p)/\H a=some (.lst vs)/\F a=none/\ds.length=vs.length /\
   ∀(k:Nat)(d':D)(v':V),ds[k]?=some d'->vs[k]?=some v'->bD K F H g i m (p++[k]) d' v')(hk:↥(kd (c+1)=0))(hm:∀k,ch (c+1) k=m:=by intro k;rfl):bD K F H g i (c+1) p d v:=by
 let⟨a,ds,vs,e1,e2,e3,e4,e5,e6,h⟩:=h;refine bD.shut (ds:=ds) (vs:=vs) (cs:=[(a,[],.lst vs)]) (by rw[hk];exact⟨a,e1,e2,rfl⟩) (λx hx=>?_) e6 λk d' v' q1 q2=>by rw[hm k];exact h k d' v' q1 q2
 rw[ð.mp hx];exact⟨by simpa using e3,e4,e5⟩
def bD.keepJ{K:ZC}{g g':ZP}(hF:aL F F')(h:∀a p o,g a=some (i,p)->H a=some o->F a=none->g' a=some (j,p)/\H' a=some o/\F' a=none)(r:bD K F H g i n p d v):bD K F' H' g' j n p d v:=
 iN.trans (q:=[]) hF h r
def bD.mono{K:ZC}(hF:aL F F')(hg:∀a l,l.1=i->g a=some l->g' a=some l)(hn:∀a l,l.1=i->g a=some l->F a=none->F' a=none)(hH:∀a l o,l.1=i->g a=some l->H a=some o->H' a=some o)(r:bD K F H g i n p d v):bD K F' H' g' i n p d v:=r.keepJ hF λa p o e1 e2 e3=>⟨hg a _ rfl e1,hH a _ _ rfl e1 e2,hn a _ rfl e1 e3⟩
def bD.relab{K:ZC}{g g':ZP}(hg:∀a p,g a=some (i,p)->g' a=some (j,p))(r:bD K F H g i n p d v):bD K F H g' j n p d v:=
 r.keepJ (λ_ _ z=>z) λa p o e1 e2 e3=>⟨hg a p e1,e2,e3⟩
def Nd.rep{K:ZC}{F:Hp}{k:Nat}{d:D}{ds:ZI}{v:V}{vs:List V}{cs:List SH}(nd:Nd K k d ds v vs cs)(hc:∀x∈cs,F x.1=some x.2.2)(hl:ds.length=vs.length)(r:aE K F ds vs):bI K F d v:=by
 unfold Nd at nd;split at nd
 .obtain⟨a,rfl,rfl,rfl⟩:=nd
  unfold bI;exact⟨a,vs,rfl,eK.of (hc _ (ð.mpr rfl)),r⟩
 .obtain⟨a,rfl,rfl,rfl⟩:=nd
  unfold bI;exact⟨a,vs,rfl,qV.of (hc _ (ð.mpr rfl)),r⟩
 .obtain⟨a,nm,fs,C,dx,rfl,rfl,hfl,hC,rfl⟩:=nd
  have h1:=hc _ (Ô);have h2:=hc _ (Ò _ (ð.mpr rfl));unfold dE bI;refine⟨a,.str nm::vs,rfl,.inl ⟨nm,fs,C,dx,vs,rfl,?_,by grind,h1,h2,hC⟩,?_⟩
  .rw[Ð,Ċ 'i']
  .unfold iG
   exact⟨_,_,rfl,by unfold bI;rfl,wU 'i' r⟩
 .obtain⟨a,ms,rfl,rfl,hm,rfl⟩:=nd
  unfold kL bI;refine⟨a,vs,rfl,.inr ⟨ms,?_,by grind,hc _ (ð.mpr rfl)⟩,wU 'i' r⟩;rw[Ċ 'i']
def iN.froze{K:ZC}{g:ZP}(hF:aL F F')(h:∀a p o,g a=some (i,p)->H a=some o->F a=none->F' a=some o):
  ∀{f c:Nat}{p:ZH}{d:D}{v:V},iN K F H g i f c p d v->bI K F' d v
 |0,0,_,d,v,r=>hF.rep d v r
 |_+1,0,_,d,v,r=>hF.rep d v r
 |_+1,_+1,p,d,v,⟨ds,vs,cs,nd,hc,hl,r⟩=>nd.rep (λx hx=>by
   let⟨a1,a2,a3⟩:=hc x hx;exact h _ _ _ a1 a2 a3) hl (aE.of hl λk d' v' q1 q2=>iN.froze hF h (r k d' v' q1 q2))
def X5(g:ZP)(i:Nat)(F H:Hp):Hp:=λb=>open Classical in if ∃p,g b=some (i,p)then (if F b=none then H b else F b)else F b
def aFB{g:ZP}{i:Nat}{F H:Hp}{b:Addr}{p:ZH}(h:g b=some (i,p))(hn:F b=none):X5 g i F H b=H b:=by
 unfold X5;rw[Á ⟨p,h⟩,Á hn]
def L5{g:ZP}{i:Nat}{F H:Hp}{b:Addr}(h:∀p,g b≠some (i,p)):X5 g i F H b=F b:=by
 unfold X5;rw[Â λzQ=>by let⟨p,e⟩:=zQ;exact h p e]
def mZ:aL F (X5 g i F H):=λb o e=>by
 unfold X5
 simp_all
def Y2(hs:aL F H):aL (X5 g i F H) H:=λb o e=>by
 unfold X5 at e;split at e
 .split at e
  .exact e
  .exact hs b o e
 .exact hs b o e
def bD.freeze{K:ZC}(r:bD K F H g i n p d v):bI K (X5 g i F H) d v:=
 iN.froze mZ (λa p o e1 e2 e3=>by rw[aFB e1 e3];exact e2) r
section
variable {K:ZC}{Z:b8}{ow:ZH}{g:ZP}{F H:Hp}{σ:St}{δ:DS}
def Ĕ(g:ZP)(i:Nat):ZP:=λb=>open Classical in if ∃p,g b=some (i,p)then none else g b
def JU{g:ZP}{i:Nat}{a:Addr}{l:ŏ}(h:l.1≠i)(e:g a=some l):Ĕ g i a=some l:=by
 unfold Ĕ
 grind
def JV(e:Ĕ g i a=some l):g a=some l/\l.1≠i:=by
 unfold Ĕ at e;split at e
 all_goals grind
def cA.freeze(R:cA K Z ow g F H σ δ)(i:Nat)(hP:i∉Z.ps):cA K Z (ow.set i 0) (Ĕ g i) (X5 g i F H) H σ δ:=by
 refine⟨Y2 R.sub,R.f0.trans' mZ,R.kept,λa h1 h2=>?_,R.there,λa j p e=>R.lab a j p (JV e).1,R.len,λj hj=>⟨(R.par j hj).1,?_⟩,λj d e=>?_⟩
 .have q:∀p,g a≠some (i,p):=λp e=>(R.lab a i p e).elim h2 λ⟨q,z⟩=>hP (Z.wf a i q z)
  rw[L5 q];exact R.new a h1 h2
 .have:j≠i:=λe=>hP (by rw[<- e];exact hj)
  rw[Ë,Ú (Í this),<- Ë];exact(R.par j hj).2
 .obtain⟨v,e1,o⟩:=R.slot j d e
  refine⟨v,e1,?_⟩;by_cases hj:j=i
  .subst hj
   have:(ow.set j 0).getD j 0=0:=by
    rw[Ë,Ă];split
    .split<;>rfl
    .grind
   rw[this];exact o.freeze
  .have:(ow.set i 0).getD j 0=ow.getD j 0:=by rw[Ë,Ë,Ú (Í hj)]
   rw[this];exact o.mono mZ (λa l hl e=>JU (by rw[hl];exact hj) e) (λa l hl e hn=>by rw[L5 (λp q=>by grind)];exact hn) λ_ _ _ _ _ h=>h
structure aO(Z:b8)(ow:ZH):Prop where
 ow:ow.length<=1000
 ps:1000∉Z.ps
def gF.freeze(S:aO Z ow)(R:gF K Z ow n d v F H σ δ):∃F',aL F F'/\gF K Z ow 0 d v F' H σ δ:=by
 let⟨g,R,o⟩:=R;have R':=R.freeze 1000 S.ps;rw[List.set_eq_of_length_le S.ow]at R';exact⟨_,mZ,_,R',o.freeze⟩
def gF.rel(R:gF K Z ow n d v F H σ δ):cM K Z ow F H σ δ:=let ⟨g,R,_⟩:=R;⟨g,R⟩
def gF.rep(R:gF K Z ow 0 d v F H σ δ):bI K F d v:=let ⟨_,_,o⟩:=R;o
def cM.x(R:cM K Z ow F H σ δ)(h:bI K F d v):gF K Z ow 0 d v F H σ δ:=let ⟨g,R⟩:=R;⟨g,R,h⟩
def cM.sub(R:cM K Z ow F H σ δ):aL F H:=let ⟨_,R⟩:=R;R.sub
def cA.laid(R:cA K Z ow g F H σ δ)(hp:H p=none):cA K Z ow g (aX F p o) (aX H p o) σ δ:=by
 have fp:F p=none:=by
  cases e:F p with
  |none=>rfl
  |some u=>rw[R.sub p u e]at hp;cases hp
 have z:Z.H0 p=none:=by
  cases e:Z.H0 p with
  |none=>rfl
  |some u=>exact absurd hp (R.there p (by rw[e];simp))
 refine⟨λb u e=>?_,R.f0.trans' (cC fp o),λb u n e=>?_,λa h1 h2=>?_,λb h=>?_,R.lab,R.len,R.par,λi d e=>?_⟩
 .by_cases hb:b=p
  .subst hb;rw[aN]at e⊢;exact e
  .rw[aG hb]at e⊢;exact R.sub b u e
 .have:b≠p:=λq=>by rw[q,z]at e;cases e
  rw[aG this];exact R.kept b u n e
 .have:a≠p:=λq=>h2 (by rw[q,z])
  rw[aG this];exact R.new a h1 h2
 .have:b≠p:=λq=>h (by rw[q,z])
  rw[aG this];exact R.there b h
 .obtain⟨v,e1,ho⟩:=R.slot i d e
  refine⟨v,e1,?_⟩;refine ho.keepJ (cC fp o) λa q u e1 e2 e3=>?_;have:a≠p:=λz=>by rw[z,hp]at e2;cases e2
  exact⟨e1,by rw[aG this];exact e2,by rw[aG this];exact e3⟩
def cM.laid(R:cM K Z ow F H σ δ)(hp:H p=none):cM K Z ow (aX F p o) (aX H p o) σ δ:=let ⟨g,R⟩:=R;⟨g,R.laid hp⟩
def cM.fnone(R:cM K Z ow F H σ δ)(hp:H p=none):F p=none:=by
 cases e:F p with
 |none=>rfl
 |some u=>rw[R.sub p u e]at hp;cases hp
def cM.newList(S:aO Z ow)(R:cM K Z ow F H σ δ)(hp:H p=none)(h:aE K F ds vs):gF K Z ow 1 (.list ds) (.ref p) F (aX H p (.lst vs)) σ δ:=by
 have fp:=R.fnone hp;let⟨g,R⟩:=R;have z:Z.H0 p=none:=by
  cases e:Z.H0 p with
  |none=>rfl
  |some u=>exact absurd hp (R.there p (by rw[e];simp))
 refine⟨λb=>if b=p then some (1000,[])else Ĕ g 1000 b,⟨R.sub.trans' (cC hp _),R.f0,λb u n e=>?_,R.new,λb h=>?_,λa i q e=>?_,R.len,R.par,λi d e=>?_⟩,?_⟩
 .have:b≠p:=λq=>by rw[q,z]at e;cases e
  rw[aG this];exact R.kept b u n e
 .have:b≠p:=λq=>h (by rw[q,z])
  rw[aG this];exact R.there b h
 .split at e
  .rename_i q;rw[q];exact .inl z
  .exact R.lab a i q (JV e).1
 .obtain⟨v,e1,o⟩:=R.slot i d e
  refine⟨v,e1,?_⟩;by_cases hi:ow.getD i 0=0
  .rw[hi]at o⊢;exact o
  .have hi':i<1000:=by
    by_cases hl:i<ow.length
    .exact Ó hl S.ow
    .exact absurd (by rw[Ë,å (by exact ä.mp ‹_›)];rfl) hi
   refine o.keepJ (λ_ _ z=>z) λa q u e1 e2 e3=>?_;have:a≠p:=λz=>by rw[z,hp]at e2;cases e2
   exact⟨by rw[Â this];exact JU (by show i≠1000;exact Ê ‹_›) e1,by rw[aG this];exact e2,e3⟩
 .refine bD.mkL (m:=0) ?_
  exact⟨p,ds,vs,rfl,rfl,by rw[Á rfl],aN,fp,h.len,λk d' v' q1 q2=>h.both k d' v' q1 q2⟩
end
def PE.mono(h:PE X e t)(hm:∀σ H Q,t' σ H Q->t σ H Q):PE X e t':=λU s σ H Q I q=>h U s σ H Q I (hm σ H Q q)
def PT.mono(h:PT X e t)(hm:∀σ H Q,t' σ H Q->t σ H Q):PT X e t':=λU s σ H Q I q=>h U s σ H Q I (hm σ H Q q)
def PA.mono(h:PA X es t)(hm:∀σ H Q,t' σ H Q->t σ H Q):PA X es t':=λpos U s σ H Q I q=>h pos U s σ H Q I (hm σ H Q q)
def PS.mono{st:Stmt}(h:PS X st t)(hm:∀D σ H,t' D σ H->t D σ H):PS X st t':=λU s σ H D I q=>h U s σ H D I (hm D σ H q)
def EV.mono{st:List Stmt}(h:EV X st t)(hm:∀D σ H,t' D σ H->t D σ H):EV X st t':=λU s σ H D I q=>h U s σ H D I (hm D σ H q)
def XP(X:Cx)(Z:b8)(U:ZB)(F:Hp)(x:D)(δ:DS)(e:Value)(s:Shared):Prop:=
 ∃nm H F' σ,x=.str nm/\Inv X U σ H s/\cM X.K Z Z.owp F' H σ δ/\aL F F'/\SG X U H s nm e
structure iV(X:Cx)(Z:b8)(ow:ZH)(F:Hp)(x:D)(δ:DS):Prop where
 out:∀U e s,XP X Z U F x δ e s->X.xe e s
def iV.mono(h:iV X Z ow F x δ)(s:aL F F'):iV X Z ow F' x δ:=⟨λU e st z=>by
 let⟨nm,H,F1,σ,h1,h2,h3,h4,h5⟩:=z;exact h.out U e st ⟨nm,H,F1,σ,h1,h2,h3,s.trans' h4,h5⟩⟩
def iV.cast(h:iV X Z ox F x δ):iV X Z ow F x δ:=⟨h.out⟩
def X6(Z:b8):Bool:=(List.range Z.owp.length).all λi=>Z.ps.contains i || Z.owp.getD i 0 == 0
def aFD(h:X6 Z=true)(hi:i∉Z.ps):Z.owp.getD i 0=0:=by
 by_cases hl:i<Z.owp.length
 .have:=æ.mp h i (List.mem_range.mpr hl)
  grind
 grind
section
variable {K:ZC}{Z:b8}{ow:ZH}{g:ZP}{F H:Hp}{σ:St}{δ:DS}
def Y3(ps:ZH)(g:ZP)(F H:Hp):Hp:=λb=>open Classical in if ∃i p,g b=some (i,p)/\i∉ps then (if F b=none then H b else F b)else F b
def SI(ps:ZH)(g:ZP):ZP:=λb=>open Classical in if ∃i p,g b=some (i,p)/\i∉ps then none else g b
def rK:aL F (Y3 ps g F H):=λb o e=>by
 unfold Y3
 simp_all
def Y4(hs:aL F H):aL (Y3 ps g F H) H:=λb o e=>by
 unfold Y3 at e;split at e
 .split at e
  .exact e
  .exact hs b o e
 .exact hs b o e
def bD.freezeN(hi:i∉ps)(r:bD K F H g i n p d v):bI K (Y3 ps g F H) d v:=
 iN.froze rK (λa p o e1 e2 e3=>by unfold Y3;rw[Á ⟨i,p,e1,hi⟩,Á e3];exact e2) r
def cM.toP(hz:X6 Z=true)(R:cM K Z ow F H σ δ):∃F',aL F F'/\cM K Z Z.owp F' H σ δ:=by
 let⟨g,R⟩:=R;refine⟨Y3 Z.ps g F H,rK,SI Z.ps g,Y4 R.sub,R.f0.trans' rK,R.kept,λa h1 h2=>?_,R.there,λa i p e=>?_,R.len,λi hi=>⟨(R.par i hi).1,rfl⟩,λi d e=>?_⟩
 .unfold Y3
  rw[Â]
  .exact R.new a h1 h2
  .rintro⟨i,p,e,hi⟩
   rcases R.lab a i p e with z|⟨q,z⟩
   .exact h2 z
   .exact hi (Z.wf a i q z)
 .unfold SI at e
  split at e
  .cases e
  .exact R.lab a i p e
 .obtain⟨v,e1,o⟩:=R.slot i d e
  refine⟨v,e1,?_⟩;by_cases hi:i∈Z.ps
  .rw[<- (R.par i hi).2]
   refine o.mono rK (λa l hl e=>?_) (λa l hl e hn=>?_) λ_ _ _ _ _ h=>h
   .unfold SI
    grind
   .unfold Y3
    grind
  .rw[aFD hz hi]
   exact o.freezeN hi
end
def kD(X:Cx)(Z:b8)(ow:ZH)(n:Nat)(r:Res D)(F:Hp)(σ:St)(Q:VK):Prop:=match r with
 |.ok d δ=>∀v H' F',gF X.K Z ow n d v F' H' σ δ->aL F F'->Q v H'
 |.err x δ=>iV X Z ow F x δ
 |.stuck=>False
def tD(X:Cx)(Z:b8)(ow:ZH)(n:Nat)(f:M D):TE:=λσ H Q=>∃F δ,cM X.K Z ow F H σ δ/\kD X Z ow n (f δ) F σ Q
def DE(X:Cx)(Z:b8)(ow:ZH)(n:Nat)(e:Expr)(f:M D):Prop:=PE X e (tD X Z ow n f)
def kT(X:Cx)(Z:b8)(ow:ZH)(r:Res Bool)(F:Hp)(σ:St)(Q:Bool->Hp->Prop):Prop:=match r with
 |.ok b δ=>∀H' F',cM X.K Z ow F' H' σ δ->aL F F'->Q b H'
 |.err x δ=>iV X Z ow F x δ
 |.stuck=>False
def tT(X:Cx)(Z:b8)(ow:ZH)(f:M Bool):TT:=λσ H Q=>∃F δ,cM X.K Z ow F H σ δ/\kT X Z ow (f δ) F σ Q
def DT(X:Cx)(Z:b8)(ow:ZH)(e:Expr)(f:M Bool):Prop:=PT X e (tT X Z ow f)
inductive Arg where
 |own (i:Nat)
 |val (f:M D)
def rM(K:ZC)(F:Hp)(σ:St):List Arg->List (ZL)->List V->Prop
 |[],[],[]=>True
 |.own i::as,none::ds,v::vs=>σ[i]?=some (some v)/\rM K F σ as ds vs
 |.val _::as,some d::ds,v::vs=>bI K F d v/\rM K F σ as ds vs
 |_,_,_=>False
def cK:List Arg->M (List (ZL))
 |[]=>λδ=>.ok [] δ
 |.own i::as=>λδ=>match δ[i]? with
  |some (some _)=>(cK as δ).bind λds δ'=>.ok (none::ds) δ'
  |_=>.stuck
 |.val f::as=>λδ=>(f δ).bind λd δ1=>(cK as δ1).bind λds δ2=>.ok (some d::ds) δ2
def kA(X:Cx)(Z:b8)(ow:ZH)(as:List Arg)(r:Res (List (ZL)))(F:Hp)(σ:St)(Q:List V->Hp->Prop):Prop:=match r with
 |.ok ds δ=>∀vs H' F',cM X.K Z ow F' H' σ δ->aL F F'->rM X.K F' σ as ds vs->Q vs H'
 |.err x δ=>iV X Z ow F x δ
 |.stuck=>False
def Ķ(X:Cx)(Z:b8)(ow:ZH)(as:List Arg):TA:=λσ H Q=>∃F δ,cM X.K Z ow F H σ δ/\kA X Z ow as (cK as δ) F σ Q
def DA(X:Cx)(Z:b8)(ow:ZH)(es:List Expr)(as:List Arg):Prop:=PA X es (Ķ X Z ow as)
section
variable {X:Cx}{Z:b8}{ow:ZH}{pos:Pos}
def kD.mono(h:kD X Z ow n r F σ Q)(s:aL F F1)(q:∀v H',Q v H'->Q' v H'):kD X Z ow n r F1 σ Q':=by
 cases r with
 |ok d δ=>exact λv H' F' R s'=>q v H' (h v H' F' R (s.trans' s'))
 |err x δ=>exact iV.mono h s
 |stuck=>exact h
def kT.mono{Q Q':Bool->Hp->Prop}(h:kT X Z ow r F σ Q)(s:aL F F1)(q:∀v H',Q v H'->Q' v H'):kT X Z ow r F1 σ Q':=by
 cases r with
 |ok d δ=>exact λH' F' R s'=>q _ H' (h H' F' R (s.trans' s'))
 |err x δ=>exact iV.mono h s
 |stuck=>exact h
def bA(i:Nat):M D:=λδ=>match δ[i]? with
 |some (some d)=>.ok d δ
 |_=>.stuck
def dC(d:D):M D:=λδ=>.ok d δ
def fQ(i:Nat){x:Str}(ho:↥(ow.getD i 0=0))(hN:↥'s')(hv:#v[zS X.env.scope x])(hd:⇑(Zdb x))(hcd:⇑(Zcd x)):DE X Z ow 0 (.Name x pos) (bA i):=
 (dA hN hv hd hcd).mono λσ H Q h=>by
  let⟨F,δ,R,h⟩:=h;unfold bA at h;cases e:δ[i]? with
  |none=>sleep 1
  |some o=>
   cases o with
   |none=>sleep 1
   |some d=>
    rw[e]at h;let⟨g,R⟩:=R;let⟨v,e1,o⟩:=R.slot i d e;rw[ho]at o;exact⟨v,e1,h v H F ⟨g,R,o⟩ λ_ _ z=>z⟩
def m4(h:PE X e (tC v))(hr:∀F,bI X.K F d v):DE X Z ow 0 e (dC d):=h.mono λσ H Q h=>by
 let⟨F,δ,⟨g,R⟩,h⟩:=h;exact h v H F ⟨g,R,hr F⟩ λ_ _ z=>z
def aJ:DE X Z ow 0 (.Constant (.int i) j pos) (dC (.int i)):=m4 aD9 λF=>by unfold bI;rfl
def wZ{b:Bool}:DE X Z ow 0 (.Constant (.bool b) j pos) (dC (.bool b)):=m4 aIB λF=>by unfold bI;rfl
def w8:DE X Z ow 0 (.Constant .none j pos) (dC .none):=m4 aEA λF=>by unfold bI;rfl
def bX:DE X Z ow 0 (.Constant (.str x) j pos) (dC (.str x)):=m4 aEB λF=>by unfold bI;rfl
def gJ(op:D->D->ZL)(f g:M D):M D:=λδ=>(f δ).bind λx δ1=>(g δ1).bind λy δ2=>match op x y with
 |some z=>.ok z δ2
 |none=>.stuck
def mR(X:Cx)(r:R2)(n:Nat)(op:D->D->ZL):Prop:=∀(Z:b8)(ow:ZH)(F H:Hp)(σ:St)(δ:DS)(a b:D)(x y:V)(d:D)(Q:VK),aO Z ow->cM X.K Z ow F H σ δ->bI X.K F a x->bI X.K F b y->op a b=some d ->
 (∀v H' F',gF X.K Z ow n d v F' H' σ δ->aL F F'->Q v H')->r x y H Q
def CP(S:aO Z ow)(os:mR X r n op)(h:tD X Z ow n (gJ op f g) σ H Q):Ģ r (tD X Z ow 0 f) (tD X Z ow 0 g) σ H Q:=by
 let⟨F,δ,R,h⟩:=h;unfold gJ at h;sleep 2;cases e:f δ with
 |stuck=>sleep 1
 |err x δ1=>rw[e]at h;exact h
 |ok d1 δ1=>
  rw[e]at h;intro x H1 F1 R1 s1;refine⟨F1,δ1,R1.rel,?_⟩;simp![Res.bind]at h;cases e2:g δ1 with
  |stuck=>rw[e2]at h;exact h.elim
  |err x δ2=>rw[e2]at h;exact iV.mono h s1
  |ok d2 δ2=>
   rw[e2]at h;simp![Res.bind]at h;intro y H2 F2 R2 s2;cases e3:op d1 d2 with
   |none=>rw[e3]at h;exact h.elim
   |some d=>
    rw[e3]at h;exact os Z ow F2 H2 σ δ2 d1 d2 x y d Q S R2.rel (s2.rep _ _ R1.rep) R2.rep e3 λv H' F' R' s'=>h v H' F' R' (s1.trans' (s2.trans' s'))
def vG(S:aO Z ow)(ho:jG X (binaryOp o) r)(os:mR X r n op)(ha:DE X Z ow 0 a f)(hb:DE X Z ow 0 b g):DE X Z ow n (.BinOp a o b pos) (gJ op f g):=
 (aIN ho ha hb).mono λ_ _ _ h=>CP S os h
def j7(S:aO Z ow)(ho:jG X (compareOp o) r)(os:mR X r 0 op)(ha:DE X Z ow 0 a f)(hb:DE X Z ow 0 b g)(hm:behindInMarks o b=false):DE X Z ow 0 (.Compare a [o] [b] pos) (gJ op f g):=
 (YL ho ha hb hm).mono λ_ _ _ h=>CP S os h
def dB(f:M D):M Bool:=λδ=>(f δ).bind λd δ1=>match d with
 |.bool b=>.ok b δ1
 |_=>.stuck
def L6{Q:Bool->Hp->Prop}(h:tT X Z ow (dB f) σ H Q):tD X Z ow 0 f σ H (λx H'=>∃k,x=.bl k/\Q k H'):=by
 let⟨F,δ,R,h⟩:=h;unfold dB at h;sleep 2;cases e:f δ with
 |stuck=>sleep 1
 |err x δ1=>rw[e]at h;exact h
 |ok d1 δ1=>
  rw[e]at h;intro x H1 F1 R1 s1;simp![Res.bind]at h;cases d1 with
  |bool k=>
   have q:=R1.rep;unfold bI at q;exact⟨k,q,h H1 F1 R1.rel s1⟩
  |_=>exact h.elim
def bJ(S:aO Z ow)(ho:jG X (compareOp o) r)(os:mR X r 0 op)(ha:DE X Z ow 0 a f)(hb:DE X Z ow 0 b g)(hm:behindInMarks o b=false):DT X Z ow (.Compare a [o] [b] pos) (dB (gJ op f g)):=
 (YM ho ha hb hm).mono λ_ _ _ h=>CP S os (L6 h)
def lO(h:DE X Z ow 0 e f)(he: ~~~(∀whole,isTrue e X.env whole=(do let v <- whole;standAt e.pos;holding [v] (truthy v)))):DT X Z ow e (dB f):=(aEE h he).mono λ_ _ _ h=>L6 h
def pK(f:M Bool):M Bool:=λδ=>(f δ).bind λb δ1=>.ok (!b) δ1
def lQ{f:M Bool}(h:DT X Z ow e f):DT X Z ow (.UnaryOp .Not e pos) (pK f):=(aEH h).mono λσ H Q h=>by
 let⟨F,δ,R,h⟩:=h;unfold pK at h;sleep 2;cases e:f δ with
 |stuck=>sleep 1
 |err x δ1=>rw[e]at h;exact h
 |ok b δ1=>rw[e]at h;exact h
def FI(f g:M Bool):M Bool:=λδ=>(f δ).bind λb δ1=>if b=true then g δ1 else .ok false δ1
def SJ(f g:M Bool):M Bool:=λδ=>(f δ).bind λb δ1=>if b=true then .ok true δ1 else g δ1
def PW.mono(h:PW X e t)(hm:∀σ H Q,t' σ H Q->t σ H Q):PW X e t':=λwh U s σ H Q I q=>h wh U s σ H Q I (hm σ H Q q)
def aFE{f g:M Bool}{rest:List Expr}(ha:DT X Z ow a f)(hb:PW X (.BoolOp .And (b::rest) pos) (tT X Z ow g)):PW X (.BoolOp .And (a::b::rest) pos) (tT X Z ow (FI f g)):=(aEG ha hb).mono λσ H Q h=>by
 let⟨F,δ,R,h⟩:=h;unfold FI at h;sleep 2;cases e:f δ with
 |stuck=>sleep 1
 |err x δ1=>rw[e]at h;exact h
 |ok k δ1=>
  rw[e]at h;simp![Res.bind]at h;intro H1 F1 R1 s1;cases k with
  |true=>rw[Á rfl]at h⊢;exact⟨F1,δ1,R1,h.mono s1 λ_ _ z=>z⟩
  |false=>rw[Â Þ]at h⊢;exact h H1 F1 R1 s1
def FJ{f g:M Bool}{rest:List Expr}(ha:DT X Z ow a f)(hb:PW X (.BoolOp .Or (b::rest) pos) (tT X Z ow g)):PW X (.BoolOp .Or (a::b::rest) pos) (tT X Z ow (SJ f g)):=(aIC ha hb).mono λσ H Q h=>by
 let⟨F,δ,R,h⟩:=h;unfold SJ at h;sleep 2;cases e:f δ with
 |stuck=>sleep 1
 |err x δ1=>rw[e]at h;exact h
 |ok k δ1=>
  rw[e]at h;simp![Res.bind]at h;intro H1 F1 R1 s1;cases k with
  |true=>rw[Á rfl]at h⊢;exact h H1 F1 R1 s1
  |false=>rw[Â Þ]at h⊢;exact⟨F1,δ1,R1,h.mono s1 λ_ _ z=>z⟩
def Ő(c:M Bool)(f g:M D):M D:=λδ=>(c δ).bind λb δ1=>if b=true then f δ1 else g δ1
def cE(S:aO Z ow)(h:DE X Z ow n e f):DE X Z ow 0 e f:=PE.mono h λσ H Q h=>by
 let⟨F,δ,R,h⟩:=h;sleep 2;cases e:f δ with
 |stuck=>sleep 1
 |err x δ1=>rw[e]at h;exact h
 |ok d δ1=>
  rw[e]at h;intro v H1 F1 R1 s1;let⟨F2,s2,R2⟩:=R1.freeze S;exact h v H1 F2 R2 (s1.trans' s2)
end
def aZ:List (M D)->M (ZI)
 |[]=>λδ=>.ok [] δ
 |f::fs=>λδ=>(f δ).bind λd δ1=>(aZ fs δ1).bind λds δ2=>.ok (d::ds) δ2
def kV'(X:Cx)(Z:b8)(ow:ZH)(r:Res (ZI))(F:Hp)(σ:St)(Q:List V->Hp->Prop):Prop:=match r with
 |.ok ds δ=>∀vs H' F',cM X.K Z ow F' H' σ δ->aL F F'->aE X.K F' ds vs->Q vs H'
 |.err x δ=>iV X Z ow F x δ
 |.stuck=>False
def tV(X:Cx)(Z:b8)(ow:ZH)(fs:List (M D)):TA:=λσ H Q=>∃F δ,cM X.K Z ow F H σ δ/\kV' X Z ow (aZ fs δ) F σ Q
def DV(X:Cx)(Z:b8)(ow:ZH)(es:List Expr)(fs:List (M D)):Prop:=PA X es (tV X Z ow fs)
section
variable {X:Cx}{Z:b8}{ow:ZH}{n:Nat}{pos:Pos}{e:Expr}{es:List Expr}{fs:List (M D)}
def bF:DV X Z ow [] []:=iU.mono λσ H Q h=>by
 let⟨F,δ,R,h⟩:=h;exact h [] H F R 'k' lM
def aF(he:DE X Z ow 0 e f)(hs:DV X Z ow es fs)(hst:↥(Zse e es X.env)):DV X Z ow (e::es) (f::fs):=(dW he hs hst).mono λσ H Q h=>by
 let⟨F,δ,R,h⟩:=h;unfold aZ at h;sleep 2;cases e1:f δ with
 |stuck=>rw[e1]at h;exact h.elim
 |err x δ1=>rw[e1]at h;exact h
 |ok d δ1=>
  rw[e1]at h;simp![Res.bind]at h;intro x H1 F1 R1 s1;refine⟨F1,δ1,R1.rel,?_⟩;cases e2:aZ fs δ1 with
  |stuck=>rw[e2]at h;exact h.elim
  |err x δ2=>rw[e2]at h;exact iV.mono h s1
  |ok ds δ2=>
   rw[e2]at h;intro vs H2 F2 R2 s2 z;exact h (x::vs) H2 F2 R2 (s1.trans' s2) (lN (s2.rep _ _ R1.rep) z)
def bY:DA X Z ow [] []:=iU.mono λσ H Q h=>by
 let⟨F,δ,R,h⟩:=h;exact h [] H F R 'k' trivial
def aK(he:DE X Z ow 0 e f)(hs:DA X Z ow es as)(hst:↥(Zse e es X.env)):DA X Z ow (e::es) (.val f::as):=(dW he hs hst).mono λσ H Q h=>by
 let⟨F,δ,R,h⟩:=h;unfold cK at h;sleep 2;cases e1:f δ with
 |stuck=>rw[e1]at h;exact h.elim
 |err x δ1=>rw[e1]at h;exact h
 |ok d δ1=>
  rw[e1]at h;simp![Res.bind]at h;intro x H1 F1 R1 s1;refine⟨F1,δ1,R1.rel,?_⟩;cases e2:cK as δ1 with
  |stuck=>rw[e2]at h;exact h.elim
  |err x δ2=>rw[e2]at h;exact iV.mono h s1
  |ok ds δ2=>
   rw[e2]at h;intro vs H2 F2 R2 s2 z;exact h (x::vs) H2 F2 R2 (s1.trans' s2) ⟨s2.rep _ _ R1.rep,z⟩
def aFF(i:Nat)(hs:DA X Z ow es as)(hst:↥(starEach (.Name x p::es) X.env=(false,eval 'g' X.env)::starEach es X.env))(hN:↥'s')(hv:#v[zS X.env.scope x])(hd:⇑(Zdb x))(hcd:⇑(Zcd x)):DA X Z ow (.Name x p::es) (.own i::as):=
 (dW (dA hN hv hd hcd) hs hst).mono λσ H Q h=>by
  let⟨F,δ,R,h⟩:=h;unfold cK at h;cases e:δ[i]? with
  |none=>sleep 1
  |some o=>
   cases o with
   |none=>sleep 1
   |some d=>
    rw[e]at h;let⟨g,R'⟩:=id R;let⟨v,e1,_⟩:=R'.slot i d e;refine⟨v,e1,F,δ,R,?_⟩;cases e2:cK as δ with
    |stuck=>simp![e2]at h;exact h.elim
    |err x δ2=>simp![e2]at h;exact h
    |ok ds δ2=>
     simp![e2]at h;intro vs H2 F2 R2 s2 z;exact h (v::vs) H2 F2 R2 s2 ⟨e1,z⟩
def O1(fs:List (M D)):M D:=λδ=>(aZ fs δ).bind λds δ1=>if ds.length<=sizeLine then .ok (.tuple ds) δ1 else .stuck
def JW(fs:List (M D)):M D:=λδ=>(aZ fs δ).bind λds δ1=>if ds.length<=sizeLine then .ok (.list ds) δ1 else .stuck
def pZ{K:ZC}{F:Hp}{p:Addr}{ds:ZI}{vs:List V}(hp:F p=none)(h:aE K F ds vs):bI K (aX F p (.tup vs)) (.tuple ds) (.ref p):=by
 unfold bI;exact⟨p,vs,rfl,qV.of aN,(cC hp _).repAll ds vs h⟩
def cI(h:DV X Z ow es fs):DE X Z ow 0 (.Tuple es x1 pos) (O1 fs):=(RV h).mono λσ H Q h=>by
 let⟨F,δ,R,h⟩:=h;unfold O1 at h;sleep 2;cases e:aZ fs δ with
 |stuck=>sleep 1
 |err x δ1=>rw[e]at h;exact h
 |ok ds δ1=>
  rw[e]at h;simp![Res.bind]at h;intro vs H1 F1 R1 s1 z;split at h
  .rename_i hl
   refine⟨by rw[<- z.len];exact hl,λp hp=>?_⟩;have fp:=R1.fnone hp;exact h _ _ (aX F1 p (.tup vs)) ((R1.laid hp).x (pZ fp z)) (s1.trans' (cC fp _))
  .exact h.elim
def cT(S:aO Z ow)(h:DV X Z ow es fs):DE X Z ow 1 (.List es pos) (JW fs):=(aEZ h).mono λσ H Q h=>by
 let⟨F,δ,R,h⟩:=h;unfold JW at h;sleep 2;cases e:aZ fs δ with
 |stuck=>sleep 1
 |err x δ1=>rw[e]at h;exact h
 |ok ds δ1=>
  rw[e]at h;simp![Res.bind]at h;intro vs H1 F1 R1 s1 z;split at h
  .rename_i hl
   exact⟨by rw[<- z.len];exact hl,λp hp=>h _ _ F1 (R1.newList S hp z) s1⟩
  .exact h.elim
def Q8(op:ZI->ZL)(fs:List (M D)):M D:=λδ=>(aZ fs δ).bind λds δ1=>match op ds with
 |some d=>.ok d δ1
 |none=>.stuck
def Y5(X:Cx)(r:List V->Hp->VK->Prop)(n:Nat)(op:ZI->ZL):Prop:=∀(Z:b8)(ow:ZH)(F H:Hp)(σ:St)(δ:DS)(ds:ZI)(vs:List V)(d:D)(Q:VK),aO Z ow->cM X.K Z ow F H σ δ->aE X.K F ds vs->op ds=some d ->
 (∀v H' F',gF X.K Z ow n d v F' H' σ δ->aL F F'->Q v H')->r vs H Q
def SK(S:aO Z ow)(os:Y5 X r n op)(h:tD X Z ow n (Q8 op fs) σ H Q):Ō r (tV X Z ow fs) σ H Q:=by
 let⟨F,δ,R,h⟩:=h;unfold Q8 at h;sleep 2;cases e:aZ fs δ with
 |stuck=>sleep 1
 |err x δ1=>rw[e]at h;exact h
 |ok ds δ1=>
  rw[e]at h;simp![Res.bind]at h;intro vs H1 F1 R1 s1 z;cases e3:op ds with
  |none=>rw[e3]at h;exact h.elim
  |some d=>
   rw[e3]at h;exact os Z ow F1 H1 σ δ1 ds vs d Q S R1 z e3 λv H' F' R' s'=>h v H' F' R' (s1.trans' s')
def fR{id:String}{p:Pos}(S:aO Z ow)(hc:fP X (.builtin id) r)(os:Y5 X r n op)(hg:Gl X x)(hm:X.mg x=none)(hv:bootBuiltins x=some (.builtin id))(ha:DV X Z ow (e::es) fs)(hn:⇑(x≠"__name__"))(hdb:⇑(Zdb x))(he:↥(Zse e es X.env))(hpl:↥(Zbt pos es X.env)):
  DE X Z ow n (.Call 'g' (e::es) [] pos) (Q8 op fs):=PE.mono (mV hc hg hm hv ha hn hdb he hpl) λ_ _ _ h=>SK S os h
def tY{p:Pos}(S:aO Z ow)(hc:fP X (.type T) r)(os:Y5 X r n op)(hg:Gl X x)(hm:X.mg x=none)(hv:bootBuiltins x=some (.type T))(ha:DV X Z ow (e::es) fs)(hn:⇑(x≠"__name__"))(hdb:⇑(Zdb x))(he:↥(Zse e es X.env))(hpl:↥(Zbt pos es X.env)):
  DE X Z ow n (.Call 'g' (e::es) [] pos) (Q8 op fs):=PE.mono (tQ hc hg hm hv ha hn hdb he hpl) λ_ _ _ h=>SK S os h
end
inductive Fl where
 |next|brk|cont
 |ret (d:D)
def kS(X:Cx)(Z:b8)(ow' ol ox:ZH)(rm:Nat)(r:Res Fl)(F:Hp)(Dn:vT):Prop:=match r with
 |.ok .next δ=>∀σ' H' F',cM X.K Z ow' F' H' σ' δ->aL F F'->Dn.nx σ' H'
 |.ok .brk δ=>∀σ' H' F',cM X.K Z ol F' H' σ' δ->aL F F'->Dn.bk σ' H'
 |.ok .cont δ=>∀σ' H' F',cM X.K Z ol F' H' σ' δ->aL F F'->Dn.ct σ' H'
 |.ok (.ret d) δ=>∀v σ' H' F' owr,gF X.K Z owr rm d v F' H' σ' δ->aL F F'->Dn.rt v H'
 |.err x δ=>iV X Z ox F x δ
 |.stuck=>False
def tS(X:Cx)(Z:b8)(ow ow' ol ox:ZH)(rm:Nat)(f:M Fl):TS:=λDn σ H=>∃F δ,cM X.K Z ow F H σ δ/\kS X Z ow' ol ox rm (f δ) F Dn
def AW(X:Cx)(Z:b8)(ow ow' ol ox:ZH)(rm:Nat)(st:Stmt)(f:M Fl):Prop:=PS X st (tS X Z ow ow' ol ox rm f)
def zT(X:Cx)(Z:b8)(ow ow' ol ox:ZH)(rm:Nat)(st:List Stmt)(f:M Fl):Prop:=EV X st (tS X Z ow ow' ol ox rm f)
section
variable {X:Cx}{Z:b8}{ow ow' ow1 ol ox:ZH}{n rm:Nat}{pos:Pos}{e:Expr}{f:M D}{st:Stmt}{sts:List Stmt}{u v:M Fl}{F:Hp}
def kS.mono(h:kS X Z ow' ol ox rm r F Dn)(s:aL F F1):kS X Z ow' ol ox rm r F1 Dn:=by
 cases r with
 |ok fl δ=>
  cases fl with
  |next=>exact λσ' H' F' R s'=>h σ' H' F' R (s.trans' s')
  |brk=>exact λσ' H' F' R s'=>h σ' H' F' R (s.trans' s')
  |cont=>exact λσ' H' F' R s'=>h σ' H' F' R (s.trans' s')
  |ret d=>exact λv σ' H' F' owr R s'=>h v σ' H' F' owr R (s.trans' s')
 |err x δ=>exact iV.mono h s
 |stuck=>exact h
def AX:M Fl:=λδ=>.ok .next δ
def aY:zT X Z ow ow ol ox rm [] AX:=EV.mono LR λDn σ H h=>by
 let⟨F,δ,R,h⟩:=h;exact h σ H F R 'k'
def cX(u v:M Fl):M Fl:=λδ=>(u δ).bind λfl δ1=>match fl with
 |.next=>v δ1
 |fl=>.ok fl δ1
def aA(h1:AW X Z ow ow1 ol ox rm st u)(h2:zT X Z ow1 ow' ol ox rm sts v):zT X Z ow ow' ol ox rm (st::sts) (cX u v):=EV.mono (RE h1 h2) λDn σ H h=>by
 let⟨F,δ,R,h⟩:=h;unfold cX at h;sleep 2;cases e:u δ with
 |stuck=>sleep 1
 |err x δ1=>rw[e]at h;exact h
 |ok fl δ1=>
  rw[e]at h;simp![Res.bind]at h;cases fl with
  |next=>exact λσ' H' F' R' s'=>⟨F',δ1,R',h.mono s'⟩
  |brk=>exact h
  |cont=>exact h
  |ret d=>exact h
def aD(h1:AW X Z ow ow' ol ox rm st u):zT X Z ow ow' ol ox rm [st] u:=EV.mono (YE h1) λDn σ H h=>h
def tZ(f:M D):M Fl:=λδ=>(f δ).bind λd δ1=>.ok (.ret d) δ1
def aM(h:DE X Z ow rm e f):AW X Z ow ow' ol ox rm (.Return (some e) pos) (tZ f):=PS.mono (aEL h) λDn σ H h=>by
 let⟨F,δ,R,h⟩:=h;unfold tZ at h;sleep 2;cases e:f δ with
 |stuck=>sleep 1
 |err x δ1=>rw[e]at h;exact iV.cast h
 |ok d δ1=>
  rw[e]at h;exact λv H' F' R' s'=>h v σ H' F' ow R' s'
def fS(f:M D):M Fl:=λδ=>(f δ).bind λ_ δ1=>.ok .next δ1
def bT(h:DE X Z ow n e f)(hs:↥(swapsWith e none pos.line X.env=pure false)):AW X Z ow ow ol ox rm (.Expr e pos) (fS f):=PS.mono (YF h hs) λDn σ H h=>by
 let⟨F,δ,R,h⟩:=h;unfold fS at h;sleep 2;cases e:f δ with
 |stuck=>sleep 1
 |err x δ1=>rw[e]at h;exact iV.cast h
 |ok d δ1=>
  rw[e]at h;exact λv H' F' R' s'=>h σ H' F' R'.rel s'
def m5(c:M Bool)(u v:M Fl):M Fl:=λδ=>(c δ).bind λb δ1=>if b=true then u δ1 else v δ1
def bU(hc:DT X Z ow c k)(ha:zT X Z ow ow' ol ox rm sa u)(hb:zT X Z ow ow' ol ox rm sb v):AW X Z ow ow' ol ox rm (.If c sa sb pos) (m5 k u v):=PS.mono (aII hc ha hb) λDn σ H h=>by
 let⟨F,δ,R,h⟩:=h;unfold m5 at h;sleep 2;cases e:k δ with
 |stuck=>sleep 1
 |err x δ1=>rw[e]at h;exact iV.cast h
 |ok d δ1=>
  rw[e]at h;simp![Res.bind]at h;intro H1 F1 R1 s1;cases d with
  |true=>rw[Á rfl]at h⊢;exact⟨F1,δ1,R1,h.mono s1⟩
  |false=>rw[Â Þ]at h⊢;exact⟨F1,δ1,R1,h.mono s1⟩
def cM.freeze(i:Nat)(R:cM X.K Z ow F H σ δ)(hi:i∉Z.ps):∃F',aL F F'/\cM X.K Z (ow.set i 0) F' H σ δ:=let ⟨_,R⟩:=R;⟨_,mZ,_,R.freeze i hi⟩
def dG{l:ZH}(h:l.contains i=false):i∉l:=λm=>by rw[List.contains_iff_mem.mpr m]at h;cases h
def cJ(i:Nat)(h:zT X Z (ow.set i 0) ow' ol ox rm sts u)(hi:↥(Z.ps.contains i=false)):zT X Z ow ow' ol ox rm sts u:=EV.mono h λDn σ H h=>by
 let⟨F,δ,R,h⟩:=h;let⟨F',s,R'⟩:=R.freeze i (dG hi);exact⟨F',δ,R',h.mono s⟩
def gF.store{v:V}(S:aO Z ow)(R:gF X.K Z ow n d v F H σ δ)(hi:i<δ.length)(hps:i∉Z.ps)(hl:i<ow.length):cM X.K Z (ow.set i n) F H (σ.set i (some v)) (δ.set i (some d)):=by
 let⟨g,R,o⟩:=R;have i1:i<1000:=Ó hl S.ow;have hg:∀(a:Addr)(l:ŏ),l.1≠i->l.1≠1000->g a=some l->(λb=>match g b with|some (j,p)=>if j=1000 then some (i,p)else if j=i then none else some (j,p)|none=>none:ZP) a=some l:=λa l h1 h2 e=>by
  let⟨j,p⟩:=l;dsimp only;rw[e];dsimp only;rw[Â h2,Â h1]
 refine⟨λb=>match g b with|some (j,p)=>if j=1000 then some (i,p)else if j=i then none else some (j,p)|none=>none,R.sub,R.f0,R.kept,R.new,R.there,λa j p e=>?_,by rw[Ö,Ö];exact R.len,λj hj=>?_,λj d' e=>?_⟩
 .cases q:g a with
  |none=>rw[q]at e;cases e
  |some l=>
   let⟨j',p'⟩:=l;rw[q]at e;have e:(if j'=1000 then some (i,p')else if j'=i then none else some (j',p'))=some (j,p):=e;split at e
   .rename_i z
    refine .inl ((R.lab a j' p' q).elim id λzQ=>by let⟨q',w⟩:=zQ;exact absurd (Z.wf a j' q' w) (by rw[z];exact S.ps))
   .split at e
    .cases e
    .cases e;exact R.lab a j p q
 .have ne:j≠i:=λz=>hps (by rw[<- z];exact hj)
  rw[Ú (Í ne),Ë,Ú (Í ne),<- Ë];exact R.par j hj
 .by_cases hj:j=i
  .subst hj
   rw[è hi]at e;cases e;refine⟨v,è (by rw[<- R.len];exact hi),?_⟩;have:(ow.set j n).getD j 0=n:=by rw[Ë,è hl];rfl
   rw[this];exact o.relab λa p e=>by rw[e];exact Á rfl
  .rw[Ú (Í hj)]at e
   let⟨w,e1,o1⟩:=R.slot j d' e;refine⟨w,by rw[Ú (Í hj)];exact e1,?_⟩;have:(ow.set i n).getD j 0=ow.getD j 0:=by rw[Ë,Ë,Ú (Í hj)]
   rw[this];by_cases hz:ow.getD j 0=0
   .rw[hz]at o1⊢;exact o1
   .have j1:j<1000:=by
     by_cases hl:j<ow.length
     .exact Ó hl S.ow
     .exact absurd (by rw[Ë,å (by exact ä.mp ‹_›)];rfl) hz
    exact o1.mono 'k' (λa l hl e=>hg a l (by rw[hl];exact hj) (by rw[hl];exact Ê ‹_›) e) (λ_ _ _ _ h=>h) λ_ _ _ _ _ h=>h
def eQ(i:Nat)(f:M D):M Fl:=λδ=>(f δ).bind λd δ1=>if i<δ1.length then .ok .next (δ1.set i (some d))else .stuck
def CQ(S:aO Z ow)(hps:i∉Z.ps)(hl:i<ow.length)(h:tS X Z ow (ow.set i n) ol ox rm (eQ i f) Dn σ H):YG (tD X Z ow n f) (pE i) Dn σ H:=by
 let⟨F,δ,R,h⟩:=h;unfold eQ at h;sleep 2;cases e:f δ with
 |stuck=>sleep 1
 |err x δ1=>rw[e]at h;exact iV.cast h
 |ok d δ1=>
  rw[e]at h;simp![Res.bind]at h;intro v H1 F1 R1 s1;split at h
  .rename_i hi
   exact h _ H1 F1 (R1.store S hi hps hl) s1
  .exact h.elim
def aI(i:Nat){pos':Pos}(S:aO Z ow)(h:DE X Z ow n e f)(hN:X.N.Nodup)(hi:↥'s')(hx:#v[č X.env.scope x])(hps:↥(Z.ps.contains i=false))(hl:⇑(i<ow.length))(hs:↥(swapsWith e (some (.Name x pos')) pos.line X.env=pure false))(hf:X.fn x=true\/X.env.scope.names.lookup x=some .local:=by first|exact .inl rfl|exact .inr rfl|assumption):
  AW X Z ow (ow.set i n) ol ox rm (.Assign [.Name x pos'] e pos) (eQ i f):=PS.mono (aEO hN hi hx h hs hf) λDn σ H h=>CQ S (dG hps) hl h
end
def fJ(set:D->DS->Option DS)(body:M Fl):ZI->M Fl
 |[]=>λδ=>.ok .next δ
 |d::ds=>λδ=>match set d δ with
  |none=>.stuck
  |some δ1=>(body δ1).bind λfl δ2=>match fl with
   |.next=>fJ set body ds δ2
   |.cont=>fJ set body ds δ2
   |.brk=>.ok .next δ2
   |.ret d=>.ok (.ret d) δ2
def Ĥ(X:Cx)(Z:b8)(ow:ZH)(g:TG)(set:D->DS->Option DS):Prop:=∀(F H:Hp)(σ:St)(δ δ':DS)(d:D)(v:V)(Q:St->Hp->Prop),cM X.K Z ow F H σ δ->bI X.K F d v->set d δ=some δ'->(∀σ',cM X.K Z ow F H σ' δ'->Q σ' H)->g v σ H Q
def eO(i:Nat):D->DS->Option DS:=λd δ=>if i<δ.length then some (δ.set i (some d))else none
def t0(is:ZH):D->DS->Option DS:=λd δ=>match d with
 |.tuple ds=>if ds.length=is.length then (is.zip ds).foldl (λ(o:Option DS)(p:Nat×D)=>o.bind λδ=>eO p.1 p.2 δ) (some δ)else none
 |_=>none
section
variable {X:Cx}{Z:b8}{ow ol ox:ZH}{rm:Nat}{u:M Fl}{g:TG}{set:D->DS->Option DS}
def ſ(h:ow.getD i 0=0):ow.set i 0=ow:=by
 by_cases hi:i<ow.length
 .apply List.ext_getElem?
  intro j;by_cases hj:j=i
  .subst hj
   rw[è hi];rw[Ë,É hi]at h;rw[É hi];exact congrArg some h.symm
  .rw[Ú (Í hj)]
 .exact List.set_eq_of_length_le (by exact ä.mp ‹_›)
def L7(S:aO Z ow)(hps:i∉Z.ps)(hl:i<ow.length)(h0:ow.getD i 0=0):Ĥ X Z ow (pE i) (eO i):=λF H σ δ δ' d v Q R r e q=>by
 unfold eO at e;split at e
 .rename_i hi
  cases e;have:=(R.x r).store S hi hps hl;rw[ſ h0]at this;exact q _ this
 .cases e
def AY(S:aO Z ow):∀(is:ZH)(t:RF),(∀i∈is,i∉Z.ps/\i<ow.length/\ow.getD i 0=0)->t=is.foldr (λi u=>E4 (pE i) u) RH ->
  ∀(F H:Hp)(σ:St)(δ δ':DS)(ds:ZI)(vs:List V)(Q:St->Hp->Prop),cM X.K Z ow F H σ δ->aE X.K F ds vs->ds.length=is.length->(is.zip ds).foldl (λ(o:Option DS)(p:Nat×D)=>o.bind λδ=>eO p.1 p.2 δ) (some δ)=some δ' ->
   (∀σ',cM X.K Z ow F H σ' δ'->Q σ' H)->t vs σ H Q
 |[],t,_,ht,F,H,σ,δ,δ',ds,vs,Q,R,r,hl,e,q=>by
  cases ds with
  |cons _ _=>cases hl
  |nil=>
   unfold aE at r;subst ht r;cases e;exact⟨rfl,q σ R⟩
 |i::is,t,hi,ht,F,H,σ,δ,δ',ds,vs,Q,R,r,hl,e,q=>by
  cases ds with
  |nil=>cases hl
  |cons d ds=>
   unfold aE at r;let⟨x,rest,rfl,rx,r⟩:=r;subst ht;rw[à,List.foldl_cons]at e;have no:∀(l:List (Nat×D)),l.foldl (λ(o:Option DS)(p:Nat×D)=>o.bind λδ=>eO p.1 p.2 δ) none=none:=λl=>by
    induction l with
    |nil=>rfl
    |cons p l ih=>rw[List.foldl_cons];exact ih
   cases e1:eO i d δ with
   |none=>
    rw[show ((some δ:Option DS).bind λδ=>eO (i,d).1 (i,d).2 δ)=none from e1,no]at e;cases e
   |some δ1=>
    rw[show ((some δ:Option DS).bind λδ=>eO (i,d).1 (i,d).2 δ)=some δ1 from e1]at e;let⟨h1,h2,h3⟩:=hi i Ô;refine⟨x,rest,rfl,L7 S h1 h2 h3 F H σ δ δ1 d x _ R rx e1 λσ' R'=>?_⟩;exact AY S is _ (λj hj=>hi j (Ò _ hj)) rfl F H σ' δ1 δ' ds rest Q R' r (by simpa using hl) e q
def aFG(S:aO Z ow)(hi:∀i∈is,i∉Z.ps/\i<ow.length/\ow.getD i 0=0)(ht:t=is.foldr (λi u=>E4 (pE i) u) RH):Ĥ X Z ow (Ņ X.K is.length t) (t0 is):=λF H σ δ δ' d v Q R r e q=>by
 unfold t0 at e;cases d with
 |tuple ds=>
  dsimp only at e;split at e
  .rename_i hl
   unfold bI at r;let⟨a,xs,rfl,hq,ra⟩:=r;exact⟨a,xs,rfl,R.sub.seqT hq,by rw[<- ra.len];exact hl,AY S is t hi ht F H σ δ δ' ds xs Q R ra hl e q⟩
  .cases e
 |_=>cases e
def Y6{ds:ZI}{d:D}(hg:Ĥ X Z ow g set)(R:cM X.K Z ow F H σ δ)(s1:aL F1 F)(hk:kS X Z ow ol ox rm (fJ set u (ds.drop k) δ) F Dn)(hd:ds[k]?=some d)(rx:bI X.K F d x)(Pv:Nat->St->Hp->Prop)(hP:∀k σ H F δ,cM X.K Z ow F H σ δ->aL F1 F->kS X Z ow ol ox rm (fJ set u (ds.drop k) δ) F Dn->Pv k σ H):
  g x σ H λσ2 H2=>tS X Z ow ow ow ox rm u {Dn with nx:=Pv (k+1),ct:=Pv (k+1),bk:=Dn.nx} σ2 H2:=by
 have e:ds.drop k=d::ds.drop (k+1):=by
  let⟨hlt,rfl⟩:=Î.mp hd;exact û hlt
 rw[e]at hk;unfold fJ at hk;cases e1:set d δ with
 |none=>simp![e1]at hk;exact hk.elim
 |some δ1=>
  simp![e1]at hk;refine hg F H σ δ δ1 d x _ R rx e1 λσ' R'=>⟨F,δ1,R',?_⟩;cases e2:u δ1 with
  |stuck=>rw[e2]at hk;exact hk.elim
  |err y δ2=>rw[e2]at hk;exact hk
  |ok fl δ2=>
   rw[e2]at hk;simp![Res.bind]at hk;cases fl with
   |next=>exact λσ2 H2 F2 R2 s2=>hP _ σ2 H2 F2 δ2 R2 (s1.trans' s2) (hk.mono s2)
   |cont=>exact λσ2 H2 F2 R2 s2=>hP _ σ2 H2 F2 δ2 R2 (s1.trans' s2) (hk.mono s2)
   |brk=>exact hk
   |ret d=>exact hk
def aL9(K:ZC)(tl:TE):TI:=λσ H R=>tl σ H λx H1=>(∃a,x=.ref a/\(∃xs,eK K H1 a xs)/\R (Ň K a) H1)\/(∃a,x=.ref a/\(∃xs,qV K H1 a xs)/\R (ň K a) H1)
def aFH(hl:PE X l tl):PI X tg l (aL9 X.K tl):=by
 intro U s σ H R I h;refine cL (hl U s σ H _ I h) λv s1 zQ=>?_;let⟨x,H1,I1,r1,q1⟩:=zQ;rcases q1 with ⟨a,e,⟨xs,hq⟩,q⟩|⟨a,e,⟨xs,hq⟩,q⟩
 .subst e
  cases r1;let⟨its,rv,p,hz⟩:=I1.list hq;refine wpAny_pyIter_list p.isList ?_;refine⟨s1.heap.objs.size,[s1.heap.objs.size],_,_,H1,rfl,I1.kept (t':=s1.toks) λb o e=>Heap.get?_push_of_some _ e,OQ a _,⟨_,Heap.get?_push_size _ rfl,rfl,rfl⟩,λb hb=>?_,q⟩;have e:b=s1.heap.objs.size:=by simpa using hb
  subst e;exact I1.fpOk (Ç _) (I1.hok.fresh (Ç _))
 .subst e
  cases r1;let⟨its,rv,p,hz⟩:=I1.tuple hq;refine wpAny_pyIter_tuple (show s1.heap.IsTuple a its.toArray from p) ?_;refine⟨s1.heap.objs.size,[s1.heap.objs.size],_,_,H1,rfl,I1.kept (t':=s1.toks) λb o e=>Heap.get?_push_of_some _ e,JD a _,⟨_,Heap.get?_push_size _ rfl,rfl,rfl⟩,λb hb=>?_,q⟩;have e:b=s1.heap.objs.size:=by simpa using hb
  subst e;exact I1.fpOk (Ç _) (I1.hok.fresh (Ç _))
def kP(lo:Int)(n:Nat):ZI:=(List.range n).map λ(k:Nat)=>PyData.int (lo+(k:Int))
def CS{lo:Int}(h:k<n):(kP lo n)[k]?=some (.int (lo+(k:Int))):=by
 unfold kP;rw[Ï,ÿ h];rfl
def g5{lo:Int}:(kP lo n).length=n:=by unfold kP;rw[Å,List.length_range]
def mP:ZI->Option (Int×Nat)
 |[.int j]=>if -(2^62)<=j/\j<2^62 then some (0,j.toNat)else none
 |[.int i,.int j]=>if -(2^62)<=i/\i<2^62/\-(2^62)<=j/\j<2^62 then some (i,(j-i).toNat)else none
 |_=>none
def oF:∀{fs:List (M D)}{δ δ1:DS}{ds:ZI},aZ fs δ=.ok ds δ1->ds.length=fs.length
 |[],δ,δ1,ds,h=>by cases h;rfl
 |f::fs,δ,δ1,ds,h=>by
  unfold aZ at h;cases e:f δ with
  |stuck=>rw[e]at h;cases h
  |err x δ2=>rw[e]at h;cases h
  |ok d δ2=>
   rw[e]at h;simp![Res.bind]at h;cases e2:aZ fs δ2 with
   |stuck=>rw[e2]at h;cases h
   |err x δ3=>rw[e2]at h;cases h
   |ok ds' δ3=>
    rw[e2]at h;cases h;rw[Ý,Ý,oF e2]
def FK{lo:Int}(h:mP ds=some (lo,n))(hl:ds.length=1):∃j:Int,ds=[.int j]/\-(2^62)<=j/\j<2^62/\lo=0/\n=j.toNat:=by
 rcases ds with _|⟨d,_|⟨_,_⟩⟩<;>try cases hl
 cases d<;>try cases h
 unfold mP at h;dsimp only at h;split at h
 .rename_i hj;cases h;exact⟨_,rfl,hj.1,hj.2,rfl,rfl⟩
 .cases h
def SL{lo:Int}(h:mP ds=some (lo,n))(hl:ds.length=2):∃i j:Int,ds=[.int i,.int j]/\(-(2^62)<=i/\i<2^62/\-(2^62)<=j/\j<2^62)/\lo=i/\n=(j-i).toNat:=by
 rcases ds with _|⟨a,_|⟨b,_|⟨_,_⟩⟩⟩<;>try cases hl
 cases a<;>try cases h
 cases b<;>try cases h
 unfold mP at h;dsimp only at h;split at h
 .rename_i hj;cases h;exact⟨_,_,rfl,hj,rfl,rfl⟩
 .cases h
def w9{K:ZC}(h:aE K F [.int j] vs):vs=[.int j]:=by
 unfold aE at h;let⟨x,r,rfl,rx,h⟩:=h;unfold aE at h;unfold bI at rx;rw[h,rx]
def SM{K:ZC}(h:aE K F [.int i,.int j] vs):vs=[.int i,.int j]:=by
 unfold aE at h;let⟨x,r,rfl,rx,h⟩:=h;unfold bI at rx;rw[rx,w9 h]
def vH(c:M Bool)(u:M Fl):Nat->M Fl
 |0=>λ_=>.stuck
 |n+1=>λδ=>(c δ).bind λb δ1=>if b=true then (u δ1).bind λfl δ2=>(match fl with
   |.next=>vH c u n δ2
   |.cont=>vH c u n δ2
   |.brk=>.ok .next δ2
   |.ret d=>.ok (.ret d) δ2)else .ok .next δ1
def fD(c:M Bool)(u:M Fl):M Fl:=λδ=>open Classical in if h:∃n,vH c u n δ≠.stuck then vH c u h.choose δ else .stuck
def xA :∀{n:Nat}{δ:DS},vH c u n δ≠.stuck->vH c u (n+1) δ=vH c u n δ
 |0,δ,h=>absurd rfl h
 |n+1,δ,h=>by
  have e:∀m,vH c u (m+1) δ=(c δ).bind λb δ1=>if b=true then (u δ1).bind λfl δ2=>(match fl with
   |.next=>vH c u m δ2
   |.cont=>vH c u m δ2
   |.brk=>.ok .next δ2
   |.ret d=>.ok (.ret d) δ2)else .ok .next δ1:=λm=>rfl
  rw[e n]at h;rw[e (n+1),e n];cases e1:c δ with
  |stuck=>rfl
  |err x δ1=>rfl
  |ok b δ1=>
   rw[e1]at h;simp![Res.bind]at h⊢;cases b with
   |false=>rfl
   |true=>
    rw[Á rfl]at h⊢;rw[Á rfl];cases e2:u δ1 with
    |stuck=>rfl
    |err x δ2=>rfl
    |ok fl δ2=>
     rw[e2]at h;simp only at h⊢;cases fl with
     |next=>exact xA h
     |cont=>exact xA h
     |brk=>rfl
     |ret d=>rfl
def SN(h:vH c u n δ≠.stuck)(l:n<=m):vH c u m δ=vH c u n δ:=by
 induction l with
 |refl=>rfl
 |step l ih=>rw[xA (by rw[ih];exact h),ih]
def oG(n:Nat)(h:vH c u n δ≠.stuck):fD c u δ=vH c u n δ:=by
 have ex:∃n,vH c u n δ≠.stuck:=⟨n,h⟩;unfold fD;rw[dif_pos ex];rcases Nat.le_total n ex.choose with l|l
 .exact SN h l
 .exact(SN ex.choose_spec l).symm
def eR:fD c u δ=(c δ).bind λb δ1=>if b=true then (u δ1).bind λfl δ2=>(match fl with
   |.next=>fD c u δ2
   |.cont=>fD c u δ2
   |.brk=>.ok .next δ2
   |.ret d=>.ok (.ret d) δ2)else .ok .next δ1:=by
 have e:∀m,vH c u (m+1) δ=(c δ).bind λb δ1=>if b=true then (u δ1).bind λfl δ2=>(match fl with
   |.next=>vH c u m δ2
   |.cont=>vH c u m δ2
   |.brk=>.ok .next δ2
   |.ret d=>.ok (.ret d) δ2)else .ok .next δ1:=λm=>rfl
 have go:∀(δ2:DS),(∀m,vH c u m δ2=.stuck)->fD c u δ2=.stuck:=λδ2 h=>by
  unfold fD;rw[dif_neg λzQ=>by let⟨n,q⟩:=zQ;exact q (h n)]
 by_cases ex:∃n,vH c u n δ≠.stuck
 .obtain⟨n,h⟩:=ex
  cases n with
  |zero=>exact absurd rfl h
  |succ n=>
   rw[oG (n+1) h,e n];rw[e n]at h;cases e1:c δ with
   |stuck=>rfl
   |err x δ1=>rfl
   |ok b δ1=>
    rw[e1]at h;simp![Res.bind]at h⊢;cases b with
    |false=>rfl
    |true=>
     rw[Á rfl]at h⊢;rw[Á rfl];cases e2:u δ1 with
     |stuck=>rfl
     |err x δ2=>rfl
     |ok fl δ2=>
      rw[e2]at h;simp only at h⊢;cases fl with
      |next=>exact(oG n h).symm
      |cont=>exact(oG n h).symm
      |brk=>rfl
      |ret d=>rfl
 .have all:∀n,vH c u n δ=.stuck:=λn=>Ą λq=>ex ⟨n,q⟩
  rw[go δ all];have a1:=λm=>(e m).symm.trans (all (m+1));cases e1:c δ with
  |stuck=>rfl
  |err x δ1=>have:=a1 0;rw[e1]at this;cases this
  |ok b δ1=>
   simp![Res.bind];cases b with
   |false=>have:=a1 0;rw[e1]at this;simp![Res.bind]at this;cases this
   |true=>
    rw[Á rfl];cases e2:u δ1 with
    |stuck=>rfl
    |err x δ2=>have:=a1 0;rw[e1]at this;simp![Res.bind,if_true,e2]at this;cases this
    |ok fl δ2=>
     cases fl with
     |next=>exact(go δ2 λm=>by have:=a1 m;rw[e1]at this;simp![Res.bind,if_true,e2]at this;exact this).symm
     |cont=>exact(go δ2 λm=>by have:=a1 m;rw[e1]at this;simp![Res.bind,if_true,e2]at this;exact this).symm
     |brk=>have:=a1 0;rw[e1]at this;simp![Res.bind,if_true,e2]at this;cases this
     |ret d=>have:=a1 0;rw[e1]at this;simp![Res.bind,if_true,e2]at this;cases this
def FL(hp:PassesOwn 'b' X.A X.env X.xe)(hc:DT X Z ow e k)(hb:zT X Z ow ow ow ox rm sts u):AW X Z ow ow ol ox rm (.While e sts [] pos) (fD k u):=PS.mono (RK hp hc hb) λDn σ H h=>by
 let⟨F,δ,R,h⟩:=h;have ex:∃n,vH k u n δ≠.stuck:=Ą λq=>by
  unfold fD at h;rw[dif_neg q]at h;exact h
 let⟨n0,hn⟩:=ex;rw[oG n0 hn]at h;refine⟨λm σ H=>∃F2 δ2,cM X.K Z ow F2 H σ δ2/\kS X Z ow ol ox rm (vH k u m δ2) F2 Dn,⟨n0,F,δ,R,h⟩,?_⟩;rintro m σ1 H1 ⟨F1,δ1,R1,k1⟩;cases m with
 |zero=>exact k1.elim
 |succ m=>
  unfold vH at k1;refine⟨F1,δ1,R1,?_⟩;cases e1:k δ1 with
  |stuck=>rw[e1]at k1;exact k1.elim
  |err x δ2=>rw[e1]at k1;exact iV.cast k1
  |ok b δ2=>
   rw[e1]at k1;simp![Res.bind]at k1;intro H2 F2 R2 s2;cases b with
   |false=>rw[Â Þ]at k1⊢;exact k1 σ1 H2 F2 R2 s2
   |true=>
    rw[Á rfl]at k1⊢;refine⟨λσ3 H3=>∃F3 δ3,cM X.K Z ow F3 H3 σ3 δ3/\kS X Z ow ol ox rm (vH k u m δ3) F3 Dn,λσ' H'⟨F3,δ3,R3,k3⟩=>⟨m,ç _,F3,δ3,R3,k3⟩,F2,δ2,R2,?_⟩;cases e2:u δ2 with
    |stuck=>rw[e2]at k1;exact k1.elim
    |err x δ3=>rw[e2]at k1;exact iV.mono k1 s2
    |ok fl δ3=>
     rw[e2]at k1;simp only at k1;cases fl with
     |next=>exact λσ3 H3 F3 R3 s3=>⟨F3,δ3,R3,k1.mono (s2.trans' s3)⟩
     |cont=>exact λσ3 H3 F3 R3 s3=>⟨F3,δ3,R3,k1.mono (s2.trans' s3)⟩
     |brk=>exact kS.mono (r:=.ok .next δ3) k1 s2
     |ret d=>exact kS.mono (r:=.ok (.ret d) δ3) k1 s2
end
structure Y7(K:ZC)(ps owp:ZH)(rm:Nat)(F H:Hp)(g:ZP)(vs:List V)(F' H':Hp)(g':ZP)(outs:ZI)(d:D)(v:V):Prop where
 s:aL F F'
 sub:aL F' H'
 kept:∀b o,g b=none->H b=some o->H' b=some o
 new:∀a,F a=none->H a≠none->F' a=none
 there:∀b,H b≠none->H' b≠none
 lab:∀a i p,g' a=some (i,p)->H a=none\/∃q,g a=some (i,q)
 ret:bD K F' H' g' 1000 rm [] d v
 olen:outs.length=ps.length
 out:∀(k i:Nat)(d':D),ps[k]?=some i->outs[k]?=some d'->∃v',vs[i]?=some v'/\bD K F' H' g' i (owp.getD i 0) [] d' v'
def aMA(K:ZC)(ps owp:ZH)(rm:Nat)(F H:Hp)(g:ZP)(vs:List V)(Q:VK)(E:XK):Res D->Prop
 |.ok d outs=>∀v H' F' g',Y7 K ps owp rm F H g vs F' H' g' (outs.filterMap id) d v->Q v H'
 |.err x outs=>∀nm,x=.str nm->∀H' F' g',Y7 K ps owp 0 F H g vs F' H' g' (outs.filterMap id) .none .non->E (.str nm 0) none H'
 |.stuck=>False
def ő(K:ZC)(ps owp:ZH)(rm:Nat)(f:ZI->Res D):Sp:=λvs H Q E=>∃F g ds,X4 K F/\aL F H/\ds.length=vs.length/\(∀a i p,g a=some (i,p)->i∈ps) /\
 (∀(i:Nat)(d:D)(v:V),ds[i]?=some d->vs[i]?=some v->bD K F H g i (owp.getD i 0) [] d v)/\aMA K ps owp rm F H g vs Q E (f ds)
def zY(P:Program)(w:World)(K:ZC):RW:=λouter H s E e s'=>∃nm a cls ch H',e=.ref a/\W.nsIn K mainGlobals nm=some (some cls)/\s'.os=s.os/\AllBare s'.gens/\Un (vA outer) [] H H' s.heap s'.heap/\mG P w H' s'.heap /\
 mH s'.heap a cls ch/\(∀b∈ch,H' b=none/\s.heap.get? b=none)/\E (.str nm 0) none H'
def fU(δ:DS):ZH->Option (ZI)
 |[]=>some []
 |i::is=>match δ[i]?,fU δ is with
  |some (some d),some ds=>some (d::ds)
  |_,_=>none
def AZ :∀{is:ZH}{ds:ZI},fU δ is=some ds->ds.length=is.length/\∀(k i:Nat)(d:D),is[k]?=some i->ds[k]?=some d->δ[i]?=some (some d)
 |[],ds,h=>by cases h;exact⟨rfl,λk i d e=>by simp at e⟩
 |i::is,ds,h=>by
  unfold fU at h;split at h
  .rename_i d ds' e1 e2
   cases h;let⟨h1,h2⟩:=AZ e2;refine⟨by simp[h1],λk j d' q1 q2=>?_⟩;cases k with
   |zero=>cases q1;cases q2;exact e1
   |succ k=>exact h2 k j d' (by simpa using q1) (by simpa using q2)
  .cases h
def aP(m:Nat)(ps:ZH)(rm:Nat)(body:M Fl):ZI->Res D:=λds=>match body (ds.map some++List.replicate (m-ds.length) none)with
 |.ok (.ret d) δ=>(match fU δ ps with
  |some outs=>.ok d (outs.map some)
  |none=>.stuck)
 |.ok .next δ=>if rm=0 then (match fU δ ps with
  |some outs=>.ok .none (outs.map some)
  |none=>.stuck)else .stuck
 |.ok _ _=>.stuck
 |.err x δ=>(match fU δ ps with
  |some outs=>.err x (outs.map some)
  |none=>.stuck)
 |.stuck=>.stuck
section
variable {P:Program}{w:World}{K:ZC}{mg:ZD}{base:Heap}
def Q6.okG{st:Stmt}(F:Q6 K x qual st f fd)(S:iM N ps (bC st))(len:∀vs H Q E,sp vs H Q E->vs.length=ps.length)(hbody:∀(cdv:Value)(_:fd.code=cdv)(A:Around)(outer:List Env)(s:Shared)(H:Hp)(vs:List V)(Q:VK)(E:XK),fC k (A.deeper (envOfC qual (bC st) s.heap.objs.size f cdv))->sp vs H Q E ->
   ∃t,EV (pY CX P w K mg base N qual (bC st) f cdv A outer s H E) (dX st) t/\t {nx:=λ_ H'=>Q .non H',rt:=Q} (start N vs) H):qZ P w K mg base CX (k+1) f fd ps sp:=by
 let⟨oc,od,kV,doc,pm,an,cdv,ct,osl,rfl,lk,hcd⟩:=F.ex;exact aIS lk hcd S len λA outer s H vs Q E hr hsp=>hbody cdv rfl A outer s H vs Q E hr hsp
def SO 
  (I:Inv (pY (zY P w K) P w K mg base N qual sc f cdv A outer s H E) U σ H1 s1) (fl:SG (pY (zY P w K) P w K mg base N qual sc f cdv A outer s H E) U H1 s1 nm e) (q:E (.str nm 0) none H1):
  (pY (zY P w K) P w K mg base N qual sc f cdv A outer s H E).xe e s1:=by
 let⟨a,cls,ch,rfl,hn,x,hc⟩:=fl;refine Y1 (base:=base) (outer:=outer) (L:=s.heap.objs.size) I.ok.frames I.stack rfl x λh' ch' xt x' new=>?_;have I2:=I.xt xt hc;refine⟨nm,a,cls,ch',H1,rfl,hn,I2.os,I2.bare,I2.base,I2.hok,x',λb hb=>?_,q⟩;rcases new b hb with m|⟨m0,m⟩
 .exact⟨(hc b m).un,(hc b m).new.resolve_left λz=>by cases z⟩
 .refine⟨I.hok.fresh m,?_⟩
  show s.heap.get? b=none;cases q:s.heap.get? b with
  |none=>rfl
  |some o=>
   let⟨o',e'⟩:=I.base.there b o q (λz=>by cases z);rw[m0]at e';cases e'
def Q6.okD{st:Stmt}(Fn:Q6 K x qual st f fd)(S:iM N pn (bC st))(hN:owp.length=N.length)(hb:∀(cdv:Value)(_:fd.code=cdv)(A:Around)(outer:List Env)(s:Shared)(H:Hp)(E:XK)(F0:Hp)(g0:ZP)(σ0:St)(wf:∀a i q,g0 a=some (i,q)->i∈ps),fC k (A.deeper (envOfC qual (bC st) s.heap.objs.size f cdv)) ->
   ∃ow',zT (pY (zY P w K) P w K mg base N qual (bC st) f cdv A outer s H E) ⟨F0,H,g0,ps,σ0,owp,wf⟩ owp ow' ow' ow' rm (dX st) body):qZ P w K mg base (zY P w K) (k+1) f fd pn (λvs H Q E=>vs.length=pn.length/\ő K ps owp rm (aP N.length ps rm body) vs H Q E):=by
 refine Fn.okG S (λvs H Q E h=>h.1) λcdv ec A outer s H vs Q E hr h=>?_;let⟨hl,F,g,ds,hL,hs,hd,hg,hv,q⟩:=h;let Z:b8:=⟨F,H,g,ps,start N vs,owp,hg⟩;let⟨ow',hB⟩:=hb cdv ec A outer s H E F g (start N vs) hg hr;refine⟨_,hB,F,ds.map some++List.replicate (N.length-ds.length) none,⟨g,hs,⟨hL,aL.refl _⟩,λ_ _ _ e=>e,λ_ h _=>h,λ_ h=>h,λa i p e=>.inr ⟨p,e⟩,?_,λi _=>⟨rfl,rfl⟩,λi d' e=>?_⟩,?_⟩
 .have hpl:pn.length<=N.length:=by have:=congrArg List.length S.pre;rw[ù]at this;lia
  unfold start;simp![Ñ,Å,í,hd]
 .have hi:i<ds.length:=by
   by_cases hi:i<ds.length
   .exact hi
   .rw[ã (by simpa using hi),ā]at e
    split at e<;>cases e
  rw[ï (by simpa using hi),Ï,É hi]at e;have ed:ds[i]?=some d':=by
   rw[É hi];simpa using e
  have hi':i<vs.length:=by exact ò ‹_› ‹_›
  refine⟨vs[i],?_,hv i d' _ ed (É hi')⟩;unfold start;rw[ï (by simpa using hi'),Ï,É hi'];rfl
 .have fin:∀{rm:Nat}{d0:D}{δ:DS}{v:V}{σ':St}{H' F':Hp}{owr:ZH}{os:ZI},gF K Z owr rm d0 v F' H' σ' δ->fU δ ps=some os->∃g',Y7 K ps owp rm F H g vs F' H' g' ((os.map some).filterMap id) d0 v:=λ{rm d0 δ v σ' H' F' owr os}R ho=>by
   have eo:(os.map some).filterMap id=os:=by rw[List.filterMap_map];exact List.filterMap_some
   rw[eo];let⟨g',R,o⟩:=R;let⟨ol,oa⟩:=AZ ho;refine⟨g',R.f0.2,R.sub,R.kept,R.new,R.there,R.lab,o,ol,λk i d' h1 h2=>?_⟩;let⟨v',e1,o1⟩:=R.slot i d' (oa k i d' h1 h2);let⟨p1,p2⟩:=R.par i (õ h1);rw[show Z.owp=owp from rfl]at p2;rw[p2]at o1;refine⟨v',?_,o1⟩;rw[p1]at e1;have e1:(start N vs)[i]?=some (some v'):=e1;unfold start at e1;by_cases hi:i<vs.length
   .rw[ï (by simpa using hi),Ï,É hi]at e1
    rw[É hi];simpa using e1
   .rw[ã (by simpa using hi),ā]at e1
    split at e1<;>cases e1
  unfold aP at q;cases e:body (ds.map some++List.replicate (N.length-ds.length) none)with
  |stuck=>rw[e]at q;sleep 5
  |err y δ=>
   rw[e]at q;dsimp only at q;cases ho:fU δ ps with
   |none=>rw[ho]at q;sleep 5
   |some os=>
    rw[ho]at q;refine⟨λU e1 s1 xp=>?_⟩;let⟨nm,H1,F1,σ1,rfl,I,R,_,fl⟩:=xp;let⟨g1,R⟩:=R;have RX:gF K Z owp 0 .none .non F1 H1 σ1 δ:=⟨g1,R,by show bI K F1 .none .non;unfold bI;rfl⟩;let⟨g',T⟩:=fin RX ho;exact SO I fl (q nm rfl H1 F1 g' T)
  |ok fl δ=>
   rw[e]at q;cases fl with
   |brk=>sleep 5
   |cont=>sleep 5
   |ret d0=>
    dsimp only at q;intro v σ' H' F' owr R _;cases ho:fU δ ps with
    |none=>rw[ho]at q;sleep 5
    |some os=>
     rw[ho]at q;let⟨g',T⟩:=fin R ho;exact q v H' F' g' T
   |next=>
    dsimp only at q;intro σ' H' F' R _;by_cases hrm:rm=0
    .rw[Á hrm]at q
     cases ho:fU δ ps with
     |none=>rw[ho]at q;sleep 5
     |some os=>
      rw[ho]at q;let⟨g',R⟩:=R;have RX:gF K Z ow' rm .none .non F' H' σ' δ:=⟨g',R,by rw[hrm];show bI K F' .none .non;unfold bI;rfl⟩;let⟨g2,T⟩:=fin RX ho;exact q .non H' F' g2 T
    .rw[Â hrm]at q;sleep 5
end
def aU:List Arg->ZH
 |[]=>[]
 |.own i::as=>i::aU as
 |.val _::as=>aU as
def fV:Nat->List Arg->ZH
 |_,[]=>[]
 |k,.own _::as=>k::fV (k+1) as
 |k,.val _::as=>fV (k+1) as
def dP(δ:DS):List Arg->List (ZL)->Option (ZI)
 |[],[]=>some []
 |.own i::as,none::ds=>match δ[i]?,dP δ as ds with
  |some (some d),some r=>some (d::r)
  |_,_=>none
 |.val _::as,some d::ds=>(dP δ as ds).map (d::·)
 |_,_=>none
def bL:ZH->ZI->DS->DS
 |i::is,d::ds,δ=>bL is ds (δ.set i (some d))
 |_,_,δ=>δ
def dH(fn:ZI->Res D)(as:List Arg):M D:=λδ=>(cK as δ).bind λods δ1=>match dP δ1 as ods with
 |none=>.stuck
 |some ds=>match fn ds with
  |.ok d outs=>.ok d (bL (aU as) (outs.filterMap id) δ1)
  |.err x outs=>.err x (bL (aU as) (outs.filterMap id) δ1)
  |.stuck=>.stuck
def gK:Nat->List Arg->Nat->Option Nat
 |_,[],_=>none
 |k,.own i::as,j=>if i=j then some k else gK (k+1) as j
 |k,.val _::as,j=>gK (k+1) as j
def FM:∀{k:Nat}{as:List Arg}{j m:Nat},gK k as j=some m->k<=m
 |k,.own i::as,j,m,h=>by
  unfold gK at h;split at h
  .cases h;exact Ç _
  .exact Nat.le_of_succ_le (FM h)
 |k,.val _::as,j,m,h=>Nat.le_of_succ_le (FM (show gK (k+1) as j=some m from h))
def kQ:∀{k:Nat}{as:List Arg}{i m:Nat},gK k as i=some m->∃q,as[q]?=some (.own i)/\m=k+q/\m∈fV k as
 |k,.own s::as,i,m,h=>by
  unfold gK at h;split at h
  .rename_i e;cases h;exact⟨0,by rw[e];rfl,rfl,Ô⟩
  .obtain⟨q,e1,e2,e3⟩:=kQ h
   exact⟨q+1,e1,∅,Ò _ e3⟩
 |k,.val _::as,i,m,h=>by
  let⟨q,e1,e2,e3⟩:=kQ (k:=k+1) (as:=as) h;exact⟨q+1,e1,∅,e3⟩
def t6:∀{k:Nat}{as:List Arg}{t m i:Nat},(fV k as)[t]?=some m->(aU as)[t]?=some i->as[m-k]?=some (.own i)/\k<=m
 |k,.own s::as,0,m,i,h1,h2=>by cases h1;cases h2;exact⟨by rw[Nat.sub_self];rfl,Ç _⟩
 |k,.own s::as,t+1,m,i,h1,h2=>by
  let⟨e1,e2⟩:=t6 (k:=k+1) (as:=as) (t:=t) h1 h2;exact⟨by rw[show m-k=(m-(k+1))+1 by lia];exact e1,by exact È ‹_›⟩
 |k,.val _::as,t,m,i,h1,h2=>by
  let⟨e1,e2⟩:=t6 (k:=k+1) (as:=as) (t:=t) h1 h2;exact⟨by rw[show m-k=(m-(k+1))+1 by lia];exact e1,by exact È ‹_›⟩
def rN:∀{as:List Arg}{q i:Nat},as[q]?=some (.own i)->i∈aU as
 |.own s::as,0,i,h=>by cases h;exact Ô
 |.own s::as,q+1,i,h=>Ò _ (rN (as:=as) (q:=q) h)
 |.val _::as,0,i,h=>by cases h
 |.val _::as,q+1,i,h=>rN (as:=as) (q:=q) h
def uA:∀{k:Nat}{as:List Arg}{q i:Nat},(aU as).Nodup->as[q]?=some (.own i)->gK k as i=some (k+q)
 |k,.own s::as,0,i,_,h=>by cases h;unfold gK;rw[Á rfl];rfl
 |k,.own s::as,q+1,i,nd,h=>by
  have nd':=List.nodup_cons.mp (show (s::aU as).Nodup from nd);have h:as[q]?=some (.own i):=h;have hm:i∈aU as:=rN h;have ne:¬s=i:=λe=>nd'.1 (by rw[e];exact hm);unfold gK;rw[Â ne,uA nd'.2 h];congr 1;lia
 |k,.val _::as,0,i,_,h=>by cases h
 |k,.val _::as,q+1,i,nd,h=>by
  have e:gK (k+1) as i=some (k+1+q):=uA (q:=q) nd h;show gK (k+1) as i=_;rw[e];congr 1;lia
def kR{K:ZC}:∀{as:List Arg}{ods:List (ZL)}{ds:ZI}{vs:List V},dP δ as ods=some ds->rM K F σ as ods vs->ds.length=as.length/\vs.length=as.length /\
  ∀(q:Nat)(d:D)(v:V),ds[q]?=some d->vs[q]?=some v->(∃i,as[q]?=some (.own i)/\δ[i]?=some (some d)/\σ[i]?=some (some v))\/((∃f,as[q]?=some (.val f))/\bI K F d v)
 |[],[],ds,[],h,_=>by cases h;exact⟨rfl,rfl,λq d v e=>by simp at e⟩
 |.own i::as,none::ods,ds,v::vs,h,⟨z1,z2⟩=>by
  unfold dP at h;split at h
  .rename_i d r e1 e2
   cases h;let⟨h1,h2,h3⟩:=kR e2 z2;refine⟨by simp[h1],by simp[h2],λq d' v' q1 q2=>?_⟩;cases q with
   |zero=>cases q1;cases q2;exact .inl ⟨i,rfl,e1,z1⟩
   |succ q=>exact h3 q d' v' q1 q2
  .cases h
 |.val f::as,some d::ods,ds,v::vs,h,⟨z1,z2⟩=>by
  unfold dP at h;cases e:dP δ as ods with
  |none=>rw[e]at h;cases h
  |some r=>
   rw[e]at h;cases h;let⟨h1,h2,h3⟩:=kR e z2;refine⟨by simp[h1],by simp[h2],λq d' v' q1 q2=>?_⟩;cases q with
   |zero=>cases q1;cases q2;exact .inr ⟨⟨f,rfl⟩,z1⟩
   |succ q=>exact h3 q d' v' q1 q2
def vI:∀{is:ZH}{ds:ZI}{δ:DS},(bL is ds δ).length=δ.length
 |[],_,_=>by unfold bL;rfl
 |_::_,[],_=>by unfold bL;rfl
 |i::is,d::ds,δ=>by
  unfold bL;rw[vI,Ö]
def m6:∀{is:ZH}{ds:ZI}{δ:DS}{j:Nat},j∉is->(bL is ds δ)[j]?=δ[j]?
 |[],_,_,_,_=>by unfold bL;rfl
 |_::_,[],_,_,_=>by unfold bL;rfl
 |i::is,d::ds,δ,j,h=>by
  unfold bL;rw[m6 λm=>h (Ò _ m),Ú λe=>h (by rw[e];exact Ô)]
def xB:∀{is:ZH}{ds:ZI}{δ:DS}{j:Nat}{d:D},is.Nodup->is.length=ds.length->j∈is->(bL is ds δ)[j]?=some (some d)->∃t:Nat,is[t]?=some j/\ds[t]?=some d
 |i::is,d::ds,δ,j,d',nd,hl,hm,h=>by
  unfold bL at h;have nd:=List.nodup_cons.mp nd;by_cases e:j=i
  .subst e
   rw[m6 nd.1,Ă]at h;split at h
   .split at h
    .cases h;exact⟨0,rfl,rfl⟩
    .cases h
   .rename_i z;exact absurd rfl z
  .obtain⟨t,t1,t2⟩:=xB nd.2 (by simpa using hl) ((Ì.mp hm).resolve_left e) h
   exact⟨t+1,t1,t2⟩
section
variable {X:Cx}{Z:b8}{ow:ZH}{pos:Pos}{as:List Arg}{F H:Hp}{σ:St}{δ:DS}{g:ZP}
def CT(as:List Arg)(g:ZP):ZP:=λa=>match g a with
 |some (i,p)=>(gK 0 as i).map λj=>(j,p)
 |none=>none
def SQ(as:List Arg)(g g':ZP):ZP:=λa=>match g' a with
 |some (j,p)=>if j=1000 then some (1000,p)else (match as[j]? with|some (.own i)=>some (i,p)|_=>none)
 |none=>match g a with
  |some (i,p)=>if i=1000\/(gK 0 as i).isSome=true then none else some (i,p)
  |none=>none
def aI7{a:Addr}{i j:Nat}{p:ZH}(h:g a=some (i,p))(e:gK 0 as i=some j):CT as g a=some (j,p):=by
 unfold CT;rw[h];dsimp only;rw[e];rfl
def L8(h:CT as g a=some (j,p)):∃i,g a=some (i,p)/\gK 0 as i=some j:=by
 unfold CT at h;cases e:g a with
 |none=>rw[e]at h;cases h
 |some l=>
  let⟨i,q⟩:=l;rw[e]at h;dsimp only at h;cases e2:gK 0 as i with
  |none=>rw[e2]at h;cases h
  |some m=>rw[e2]at h;cases h;exact⟨i,rfl,e2⟩
def FN(S:aO Z ow)(R:cA X.K Z ow g F H σ δ)(hA:rM X.K F σ as ods vs)(hf:dP δ as ods=some ds)(hps:fV 0 as=ps)(nd:(aU as).Nodup)(hm:∀q i,as[q]?=some (.own i)->owp.getD q 0=ow.getD i 0)(hlt:as.length<=1000)(T:Y7 X.K ps owp rm F H (CT as g) vs F' H' g' outs d v):gF X.K Z ow rm d v F' H' σ (bL (aU as) outs δ):=by
 let⟨l1,l2,hat⟩:=kR hf hA;have keepOut:∀{a:Addr}{i:Nat}{p:ZH},g a=some (i,p)->i∉aU as->CT as g a=none:=λ{a i p}e hi=>by
  cases e1:CT as g a with
  |none=>rfl
  |some l=>
   let⟨j,r⟩:=l;let⟨i',e2,e3⟩:=L8 e1;rw[e]at e2;cases e2;let⟨q,e4,_⟩:=kQ e3;exact absurd (rN e4) hi
 have h0:∀a,H a=none->Z.H0 a=none:=λa e=>by
  cases e1:Z.H0 a with
  |none=>rfl
  |some o=>exact absurd e (R.there a (by rw[e1];simp))
 refine⟨SQ as g g',⟨T.sub,R.f0.trans' T.s,λb o n e=>?_,λa z1 z2=>T.new a (R.new a z1 z2) (R.there a z2),λb z=>T.there b (R.there b z),λa i p e=>?_,by rw[vI];exact R.len,R.par,λi d' e=>?_⟩,?_⟩
 .refine T.kept b o ?_ (R.kept b o n e)
  cases e1:CT as g b with
  |none=>rfl
  |some l=>
   let⟨j,r⟩:=l;let⟨i',e2,e3⟩:=L8 e1;rcases R.lab b i' r e2 with z|⟨q',z⟩
   .rw[z]at e;cases e
   .rw[z]at n;cases n
 .unfold SQ at e
  cases e1:g' a with
  |some l=>
   let⟨j,r⟩:=l;rw[e1]at e;dsimp only at e;rcases T.lab a j r e1 with z|⟨q',z⟩
   .exact .inl (h0 a z)
   .obtain⟨i',z1,z2⟩:=L8 z
    let⟨q2,z3,z4,_⟩:=kQ z2;have:j=q2:=by lia
    subst this;have hj:j≠1000:=λw=>by
     have:=(Î.mp z3).1;lia
    rw[Â hj,z3]at e;cases e;exact R.lab a i q' z1
  |none=>
   rw[e1]at e;dsimp only at e;cases e2:g a with
   |none=>rw[e2]at e;cases e
   |some l=>
    let⟨j,r⟩:=l;rw[e2]at e;dsimp only at e;split at e
    .cases e
    .cases e;exact R.lab a i p e2
 .by_cases hi:i∈aU as
  .have hl:(aU as).length=outs.length:=by
    rw[T.olen,<- hps];have:∀(k:Nat)(as:List Arg),(aU as).length=(fV k as).length:=by
     intro k as
     induction as generalizing k with
     |nil=>rfl
     |cons a as ih=>
      cases a with
      |own i=>exact congrArg Nat.succ (ih (k+1))
      |val f=>exact ih (k+1)
    exact this 0 as
   let⟨t,t1,t2⟩:=xB nd hl hi e;have hpos:∃m,ps[t]?=some m:=by
    have:t<ps.length:=by rw[<- T.olen];exact(Î.mp t2).1
    exact⟨ps[t],É this⟩
   let⟨m,hm1⟩:=hpos;let⟨v',o1,o2⟩:=T.out t m d' hm1 t2;have e3:=(t6 (k:=0) (by rw[hps];exact hm1) t1).1;rw[Nat.sub_zero]at e3;have hlm:m<ds.length:=by
    have:=(Î.mp e3).1;exact ò ‹_› (Eq.symm ‹_›)
   rcases hat m ds[m] v' (É hlm) o1 with ⟨s,a1,a2,a3⟩|⟨⟨f,a1⟩,a2⟩
   .rw[e3]at a1;cases a1
    refine⟨v',a3,?_⟩;rw[hm m i e3]at o2;refine o2.relab λa p e4=>?_;unfold SQ;rw[e4];dsimp only;have hj:m≠1000:=λw=>by
     have:=(Î.mp e3).1;lia
    rw[Â hj,e3]
   .rw[e3]at a1;cases a1
  .rw[m6 hi]at e
   let⟨w,w1,o⟩:=R.slot i d' e;refine⟨w,w1,?_⟩;by_cases hz:ow.getD i 0=0
   .rw[hz]at o⊢;exact T.s.rep _ _ o
   .have i1:i<1000:=by
     by_cases hl:i<ow.length
     .exact Ó hl S.ow
     .exact absurd (by rw[Ë,å (by exact ä.mp ‹_›)];rfl) hz
    refine bD.keepJ T.s (λa q u e3 e4 e5=>?_) o;have gn:=keepOut e3 hi;have g'n:g' a=none:=by
     cases e7:g' a with
     |none=>rfl
     |some l=>
      let⟨j,r⟩:=l;rcases T.lab a j r e7 with z|⟨q',z⟩
      .rw[e4]at z;cases z
      .rw[gn]at z;cases z
    refine⟨?_,T.kept a _ gn e4,T.new a e5 (by rw[e4];simp)⟩;unfold SQ;rw[g'n,e3];dsimp only;rw[Â];rintro(z|z)
    .lia
    .cases e8:gK 0 as i with
     |none=>rw[e8]at z;cases z
     |some m=>let⟨q,e9,_⟩:=kQ e8;exact hi (rN e9)
 .refine T.ret.relab λa p e=>?_
  unfold SQ;rw[e];exact Á rfl
def L9{fn:ZI->Res D}{ps owp:ZH}{rm:Nat}{ods:List (ZL)}{ds:ZI}{vs:List V}{Q:VK}{E:XK}(S:aO Z ow)(R:cM X.K Z ow F H σ δ)(hA:rM X.K F σ as ods vs)(hf:dP δ as ods=some ds)(hps:fV 0 as=ps)(nd:(aU as).Nodup)(hm:∀q i,as[q]?=some (.own i)->owp.getD q 0=ow.getD i 0)(hv:∀q f,as[q]?=some (.val f)->owp.getD q 0=0)(hlt:as.length<=1000)(q:match fn ds with
   |.ok d outs=>∀v H' F',gF X.K Z ow rm d v F' H' σ (bL (aU as) (outs.filterMap id) δ)->aL F F'->Q v H'
   |.err x outs=>∀nm,x=.str nm->∀H' F',cM X.K Z ow F' H' σ (bL (aU as) (outs.filterMap id) δ)->aL F F'->E (.str nm 0) none H'
   |.stuck=>False):ő X.K ps owp rm fn vs H Q E:=by
 let⟨g,R⟩:=R;let⟨l1,l2,hat⟩:=kR hf hA;refine⟨F,CT as g,ds,R.f0.lm,R.sub,∅,λa i p e=>?_,λi d' v' e1 e2=>?_,?_⟩
 .obtain⟨j,_,e2⟩:=L8 e
  let⟨_,_,_,e3⟩:=kQ e2;rw[<- hps];exact e3
 .rcases hat i d' v' e1 e2 with ⟨s,a1,a2,a3⟩|⟨⟨f,a1⟩,a2⟩
  .rw[hm i s a1]
   let⟨w,w1,o⟩:=R.slot s d' a2;rw[a3]at w1;cases w1;exact o.relab λa p e=>aI7 e (by rw[uA nd a1];simp)
  .rw[hv i f a1];exact a2
 .cases e:fn ds with
  |stuck=>rw[e]at q;exact q
  |ok d outs=>
   rw[e]at q;exact λv H' F' g' T=>q v H' F' (FN S R hA hf hps nd hm hlt T) T.s
  |err x outs=>
   rw[e]at q;exact λnm hx H' F' g' T=>q nm hx H' F' (FN S R hA hf hps nd hm hlt T).rel T.s
def fF(owp ow:ZH):Nat->List Arg->Bool
 |_,[]=>true
 |k,.own i::as=>(owp.getD k 0 == ow.getD i 0) && fF owp ow (k+1) as
 |k,.val _::as=>(owp.getD k 0 == 0) && fF owp ow (k+1) as
def lR :∀{k:Nat}{as:List Arg},fF owp ow k as=true->(∀q i,as[q]?=some (.own i)->owp.getD (k+q) 0=ow.getD i 0)/\(∀q f,as[q]?=some (.val f)->owp.getD (k+q) 0=0)
 |k,[],_=>⟨λq i e=>by simp at e,λq f e=>by simp at e⟩
 |k,.own s::as,h=>by
  unfold fF at h;rw[â,beq_iff_eq]at h;let⟨h1,h2⟩:=lR h.2;refine⟨λq i e=>?_,λq f e=>?_⟩
  .cases q with
   |zero=>cases e;exact h.1
   |succ q=>have:=h1 q i e;rw[show k+(q+1)=k+1+q by lia];exact this
  .cases q with
   |zero=>cases e
   |succ q=>have:=h2 q f e;rw[show k+(q+1)=k+1+q by lia];exact this
 |k,.val _::as,h=>by
  unfold fF at h;rw[â,beq_iff_eq]at h;let⟨h1,h2⟩:=lR h.2;refine⟨λq i e=>?_,λq f e=>?_⟩
  .cases q with
   |zero=>cases e
   |succ q=>have:=h1 q i e;rw[show k+(q+1)=k+1+q by lia];exact this
  .cases q with
   |zero=>exact h.1
   |succ q=>have:=h2 q f e;rw[show k+(q+1)=k+1+q by lia];exact this
abbrev SR(K:ZC)(pn:ZG)(ps owp:ZH)(rm:Nat)(fn:ZI->Res D):Sp:=λvs H Q E=>vs.length=pn.length/\ő K ps owp rm fn vs H Q E
def SS(sp:Sp)(E:St->XK)(t:TA):TE:=λσ H Q=>t σ H λvs H1=>sp vs H1 Q (E σ)
def EX(X:Cx)(σ:St):XK:=λv _ H'=>∀nm,v=.str nm 0->∀U e s',Inv X U σ H' s'->SG X U H' s' nm e->X.xe e s'
def SU{p:Pos}(Fk:qZ X.prog X.w X.K X.mg X.base (zY X.prog X.w X.K) k f fd pn sp)(hr:fC k X.A)(hg:Gl X x)(hmg:X.mg x=some (.ref f))(hk:W.keepIn X.K (.ref f)=true)(hb:pF X.K fd pn [])(ha:PA X (e::es) t)(hdb:⇑(Zdb x))(he:↥(Zse e es X.env))(hpl:↥(Zbt pos es X.env)):
  PE X (.Call 'g' (e::es) [] pos) (SS sp (EX X) t):=by
 intro U s σ H Q I h;refine wpAny_Call_Name_kw (lH I hg hmg ?_ hdb);refine W.callWith_K (h₀:=X.base) I.ok.mod.kin hk (cL (ha pos U s σ H _ I h) λus s1⟨vs,H1,I1,r,q⟩=>⟨I1.kIn,?_⟩) he hpl;have hl:us.length=pn.length:=by rw[<- r.length];exact Fk.len _ _ _ _ q
 have hb':=hb s1 us I1.kIn (by rw[ì];exact hl);rw[ì]at hb';refine wpAny_call (codeAny_mono (Fk.run X.A X.stack s1 H1 ⟨us,[]⟩ us vs Q (EX X σ) hr I1.env0 hb' r q) λr s' hq=>?_);cases r with
 |error e=>
  let⟨nm,a,cls,ch,H',rfl,hn,os,bare,un,hok,x,new,q2⟩:=hq;have I2:Inv X U σ H' s':=I1.call' os un hok bare λb z=>absurd z 'e';exact q2 nm rfl U _ s' I2 ⟨a,cls,ch,rfl,hn,x,λb hb=>pJ.of I1 (new b hb).1 (new b hb).2⟩
 |ok fl=>
  cases fl with
  |ret u=>exact I1.after hq
  |next=>exact False.elim hq
  |brk=>exact False.elim hq
  |cont=>exact False.elim hq
def FO(S:aO Z ow)(hz:X6 Z=true)(hl:as.length=pn.length)(hps:fV 0 as=ps)(nd:decide (aU as).Nodup=true)(hm:fF owp ow 0 as=true)(hlt:as.length<=1000)(h:tD X Z ow rm (dH fn as) σ H Q):SS (SR X.K pn ps owp rm fn) (EX X) (Ķ X Z ow as) σ H Q:=by
 let⟨F,δ,R,h⟩:=h;unfold dH at h;sleep 2;let⟨m1,m2⟩:=lR hm;cases e:cK as δ with
 |stuck=>sleep 1
 |err x δ1=>rw[e]at h;exact h
 |ok ods δ1=>
  rw[e]at h;simp![Res.bind]at h;intro vs H1 F1 R1 s1 z;cases e2:dP δ1 as ods with
  |none=>rw[e2]at h;exact h.elim
  |some ds=>
   rw[e2]at h;dsimp only at h;have l2:=(kR e2 z).2.1;refine⟨by exact Eq.trans ‹_› ‹_›,L9 S R1 z e2 hps (of_decide_eq_true nd) (λq i e=>by have:=m1 q i e;rwa [Nat.zero_add]at this) (λq f e=>by have:=m2 q f e;rwa [Nat.zero_add]at this) hlt ?_⟩
   cases e3:fn ds with
   |stuck=>rw[e3]at h;exact h.elim
   |err x outs=>
    rw[e3]at h;dsimp only at h⊢;intro nm hx H' F' R' s' nm' hnm U e s2 I2 fl;injection hnm with hnm;subst hnm;let⟨F2,s3,R2⟩:=R'.toP hz;exact h.out U e s2 ⟨nm,H',F2,σ,hx,I2,R2,s1.trans' (s'.trans' s3),fl⟩
   |ok d outs=>
    rw[e3]at h;dsimp only at h⊢;exact λv H' F' R' s'=>h v H' F' R' (s1.trans' s')
def Y8{p:Pos}(S:aO Z ow)(Fk:qZ X.prog X.w X.K X.mg X.base (zY X.prog X.w X.K) k f fd pn (SR X.K pn ps owp rm fn))(hr:fC k X.A)(hg:Gl X x)(hmg:X.mg x=some (.ref f))(hk:W.keepIn X.K (.ref f)=true)(hb:pF X.K fd pn [])(ha:DA X Z ow (e::es) as)(hz:↥(X6 Z=true))(hl:↥(as.length=pn.length))(hps:↥(fV 0 as=ps))(nd:↥(decide (aU as).Nodup=true))(hm:↥(fF owp ow 0 as=true))(hlt:⇑(as.length<=1000))(hdb:⇑(Zdb x))(he:↥(Zse e es X.env))(hpl:↥(Zbt pos es X.env)):
  DE X Z ow rm (.Call 'g' (e::es) [] pos) (dH fn as):=PE.mono (SU Fk hr hg hmg hk hb ha hdb he hpl) λ_ _ _ h=>FO S hz hl hps nd hm hlt h
end
section
variable {X:Cx}{Z:b8}{ow ol ox:ZH}{n rm:Nat}{pos:Pos}{e a b:Expr}{f h:M D}{F H:Hp}{σ:St}{δ:DS}{g:ZP}{K:ZC}
def bD.relabP{g':ZP}(hg:∀a p,g a=some (i,p)->g' a=some (j,q++p))(r:bD K F H g i n p d v):bD K F H g' j n (q++p) d v:=
 iN.trans (λ_ _ z=>z) (λa p o e1 e2 e3=>⟨hg a p e1,e2,e3⟩) r
def cM.rewrite{a:Addr}(S:aO Z ow)(R:cM K Z ow F H σ δ)(ho:ow.getD i 0=1)(hd:δ[i]?=some (some (.list ds)))(hs:σ[i]?=some (some (.ref a)))(hr:aE K F ds' vs'):
  cM K Z ow F (aX H a (.lst vs')) σ (δ.set i (some (.list ds'))):=by
 let⟨g,R⟩:=R;let⟨v,e1,o⟩:=R.slot i _ hd;rw[hs]at e1;cases e1;rw[ho]at o;let⟨a',ds0,vs0,q1,q2,q3,q4,q5,q6,q7⟩:=o.lst (m:=0);cases q1;cases q2;have hi:i<δ.length:=(Î.mp hd).1;refine⟨g,λb u e=>?_,R.f0,λb u n e=>?_,R.new,λb z=>?_,R.lab,by rw[Ö];exact R.len,R.par,λj d e=>?_⟩
 .have:b≠a:=λz=>by rw[z,q5]at e;cases e
  rw[aG this];exact R.sub b u e
 .have:b≠a:=λz=>by
   subst z;rcases R.lab b i [] q3 with w|⟨q,w⟩
   all_goals grind
  rw[aG this];exact R.kept b u n e
 .by_cases hb:b=a
  .subst hb;rw[aN];simp
  .rw[aG hb];exact R.there b z
 .by_cases hj:j=i
  .subst hj
   rw[è hi]at e;cases e;refine⟨_,hs,?_⟩;rw[ho];exact bD.mkL (m:=0) ⟨a,ds',vs',rfl,rfl,q3,aN,q5,hr.len,λk d' v' z1 z2=>hr.both k d' v' z1 z2⟩
  .rw[Ú (Í hj)]at e
   let⟨v,e1,o⟩:=R.slot j d e;refine⟨v,e1,o.mono 'k' (λ_ _ _ e=>e) (λ_ _ _ _ h=>h) λa' l u hl e h=>?_⟩;have:a'≠a:=λz=>by grind
   rw[aG this];exact h
def cM.ownAt{d:D}(R:cM K Z ow F H σ δ)(ho:ow.getD i 0=1)(hd:δ[i]?=some (some d)):∃a ds vs,d=.list ds/\σ[i]?=some (some (.ref a))/\H a=some (.lst vs)/\aE K F ds vs:=by
 let⟨g,R⟩:=R;let⟨v,e1,o⟩:=R.slot i _ hd;rw[ho]at o;let⟨a,ds0,vs0,q1,q2,q3,q4,q5,q6,q7⟩:=o.lst (m:=0);exact⟨a,ds0,vs0,q1,by rw[e1,q2],q4,aE.of q6 q7⟩
def JX(i:Nat)(op:ZI->ZI->Option (D×ZI))(fs:List (M D)):M D:=λδ=>match δ[i]? with
 |some (some _)=>(aZ fs δ).bind λargs δ1=>(match δ1[i]? with
  |some (some (.list ds))=>(match op ds args with
   |some (ret,ds')=>.ok ret (δ1.set i (some (.list ds')))
   |none=>.stuck)
  |_=>.stuck)
 |_=>.stuck
def FP(X:Cx)(r:V->List V->Hp->VK->Prop)(op:ZI->ZI->Option (D×ZI)):Prop:=∀(F H:Hp)(l:Addr)(xs vs:List V)(ds args:ZI)(ret:D)(ds':ZI),H l=some (.lst xs)->aL F H->aE X.K F ds xs->aE X.K F args vs->op ds args=some (ret,ds') ->
 ∃xs' rv,aE X.K F ds' xs'/\bI X.K F ret rv/\∀Q:VK,Q rv (aX H l (.lst xs'))->r (.ref l) vs H Q
def Y9(S:aO Z ow)(ho:ow.getD i 0=1)(hm:FP X r op)(h:tD X Z ow 0 (JX i op fs) σ H Q):Ź X.K "list" r (RD i) (tV X Z ow fs) σ H Q:=by
 let⟨F,δ,R,h⟩:=h;unfold JX at h;cases e0:δ[i]? with
 |none=>rw[e0]at h;exact h.elim
 |some o=>
  cases o with
  |none=>rw[e0]at h;exact h.elim
  |some d0=>
   rw[e0]at h;dsimp only at h;let⟨a,ds0,vs0,q1,q2,q3,q4⟩:=R.ownAt ho e0;refine⟨_,q2,.inl ⟨rfl,vs0,eK.of q3⟩,F,δ,R,?_⟩;cases e:aZ fs δ with
   |stuck=>sleep 1
   |err x δ1=>rw[e]at h;exact h
   |ok args δ1=>
    rw[e]at h;simp![Res.bind]at h;intro vs H1 F1 R1 s1 z;cases e1:δ1[i]? with
    |none=>rw[e1]at h;exact h.elim
    |some o=>
     cases o with
     |none=>rw[e1]at h;exact h.elim
     |some d1=>
      rw[e1]at h;let⟨a',ds1,vs1,p1,p2,p3,p4⟩:=R1.ownAt ho e1;rw[q2]at p2;cases p2;subst p1;dsimp only at h;cases e2:op ds1 args with
      |none=>rw[e2]at h;exact h.elim
      |some rr=>
       let⟨ret,ds'⟩:=rr;rw[e2]at h;dsimp only at h;let⟨xs',rv,w1,w2,w3⟩:=hm F1 H1 a vs1 vs ds1 args ret ds' p3 R1.sub p4 z e2;exact w3 Q (h _ _ F1 ((R1.rewrite S ho e1 q2 w1).x w2) s1)
def uB(i:Nat){x:Str}{p q:Pos}{id:String}(S:aO Z ow)(slot:Slot "list" name id)(hty:typeOf (.builtin id)=pure (.type "method_descriptor"))(hmr:ģ X id r)(hm:FP X r op)(ha:DV X Z ow (e::es) fs)(ho:↥(ow.getD i 0=1))(hN:↥'s')(hv:#v[zS X.env.scope x])(hd:⇑(Zdb x))(hcd:⇑(Zcd x))(hbase:↥(attributeBase 'g' name X.env (eval 'g' X.env)=eval 'g' X.env))(hfew:↥(((backTo pos (starEach (e::es) X.env)).all (λx=>!x.1) && (backToKw pos (keywordEach [] X.env)).all (λx=>x.1.isSome)
   && decide ((e::es).length+([]:List Keyword).length+(if ([]:List Keyword).isEmpty then 0 else 1)<30))=true))(hline:↥((q.endLine == pos.line)=true))(hs:↥(Zse e es X.env))(hplain:↥(Zbt pos es X.env)):
  DE X Z ow 0 (.Call (.Attribute 'g' name q) (e::es) [] pos) (JX i op fs):=PE.mono (ź PySem.F.plainAttrs_list slot hty hmr (dA hN hv hd hcd) ha hbase hfew hline hs hplain) λ_ _ _ h=>Y9 S ho hm h
def JY:ZI->ZI->Option (D×ZI)
 |ds,[d]=>if ds.length<sizeLine then some (.none,ds++[d])else none
 |_,_=>none
def CU:bI K F .none .non:=by unfold bI;rfl
def p6:FP X LV JY:=λF H l xs vs ds args ret ds' hl hs h1 h2 e=>by
 unfold JY at e;split at e
 .rename_i d
  split at e
  .rename_i hlt
   cases e;unfold aE at h2;let⟨x,r,rfl,hx,h2⟩:=h2;unfold aE at h2;subst h2;exact⟨xs++[x],.non,h1.app (lN hx lM),CU,λQ q=>⟨l,xs,x,rfl,rfl,hl,by rw[<- h1.len];exact hlt,q⟩⟩
  .cases e
 .cases e
def eE(i:Nat){x:Str}{p q:Pos}(S:aO Z ow)(ha:DE X Z ow 0 e f)(ho:↥(ow.getD i 0=1))(hN:↥'s')(hv:#v[zS X.env.scope x])(hd:⇑(Zdb x))(hcd:⇑(Zcd x))(hbase:↥(attributeBase 'g' "append" X.env (eval 'g' X.env)=eval 'g' X.env))(hfew:↥(((backTo pos (starEach [e] X.env)).all (λx=>!x.1) && (backToKw pos (keywordEach [] X.env)).all (λx=>x.1.isSome)
   && decide ([e].length+([]:List Keyword).length+(if ([]:List Keyword).isEmpty then 0 else 1)<30))=true))(hline:↥((q.endLine == pos.line)=true))(hs:↥(Zse e [] X.env))(hplain:↥(Zbt pos [] X.env)):
  DE X Z ow 0 (.Call (.Attribute 'g' "append" q) [e] [] pos) (JX i JY [f]):=uB i S PySem.F.slot_list_append PySem.F.type_list_append tU p6 (aF ha bF hs) ho hN hv hd hcd hbase hfew hline hs hplain
def SV(i:Nat)(fk fv:M D):M Fl:=λδ=>(fv δ).bind λv δ1=>match δ1[i]? with
 |some (some _)=>(fk δ1).bind λk δ2=>(match δ2[i]?,k with
  |some (some (.list ds)),.int k=>(match mO ds.length k with
   |some j=>.ok .next (δ2.set i (some (.list (ds.set j v))))
   |none=>.stuck)
  |_,_=>.stuck)
 |_=>.stuck
def aE.set(h:aE K F ds vs)(j:Nat)(r:bI K F d v):aE K F (ds.set j d) (vs.set j v):=
 aE.of (by rw[Ö,Ö,h.len]) λk d' v' e1 e2=>by
  by_cases hk:j=k
  .grind
  .rw[Ú hk]at e1 e2
   exact h.both k d' v' e1 e2
def xC(i:Nat){x:Str}{p:Pos}{spos tpos:Pos}(S:aO Z ow)(hv:DE X Z ow 0 ev fv)(hk:DE X Z ow 0 ek fk)(ho:↥(ow.getD i 0=1))(hN:↥'s')(hvi:#v[zS X.env.scope x])(hd:⇑(Zdb x))(hcd:⇑(Zcd x))(ha: ~~~(∀v,assign (.Subscript 'g' ek tpos) X.env v=(do
   let ov <- holding [v] (eval 'g' X.env);let iv <- holding [v,ov] (eval ek X.env)
   standAt tpos
   holding [v,ov,iv] (setItem ov iv v)
   release [v,ov,iv] [])))(hs:↥(swapsWithSole [.Subscript 'g' ek tpos] ev spos.line X.env=pure false))(hw:↥(swappedStores [.Subscript 'g' ek tpos] ev X.env=pure none))(h1:↥((assignEach [.Subscript 'g' ek tpos] X.env).map (·.2)=[assign (.Subscript 'g' ek tpos) X.env])):
  AW X Z ow ow ol ox rm (.Assign [.Subscript 'g' ek tpos] ev spos) (SV i fk fv):=PS.mono (RJ hv (RI (dA hN hvi hd hcd) hk FC ha) hs hw h1) λDn σ H h=>by
 let⟨F,δ,R,h⟩:=h;unfold SV at h;sleep 2;cases e:fv δ with
 |stuck=>sleep 1
 |err y δ1=>rw[e]at h;exact iV.cast h
 |ok dv δ1=>
  rw[e]at h;simp![Res.bind]at h;intro v H1 F1 R1 s1;cases e0:δ1[i]? with
  |none=>rw[e0]at h;exact h.elim
  |some o=>
   cases o with
   |none=>rw[e0]at h;exact h.elim
   |some d0=>
    rw[e0]at h;dsimp only at h;let⟨a,ds0,vs0,q1,q2,q3,q4⟩:=R1.rel.ownAt ho e0;refine⟨_,q2,F1,δ1,R1.rel,?_⟩;cases e1:fk δ1 with
    |stuck=>rw[e1]at h;exact h.elim
    |err y δ2=>rw[e1]at h;exact iV.cast (iV.mono h s1)
    |ok dk δ2=>
     rw[e1]at h;dsimp only at h;intro kv H2 F2 R2 s2;cases e2:δ2[i]? with
     |none=>rw[e2]at h;exact h.elim
     |some o=>
      cases o with
      |none=>rw[e2]at h;exact h.elim
      |some d1=>
       rw[e2]at h;let⟨a',ds1,vs1,p1,p2,p3,p4⟩:=R2.rel.ownAt ho e2;rw[q2]at p2;cases p2;subst p1;cases dk with
       |int k=>
        dsimp only at h;cases e3:mO ds1.length k with
        |none=>rw[e3]at h;exact h.elim
        |some j=>
         rw[e3]at h;have rk:=R2.rep;unfold bI at rk;subst rk;refine⟨a,vs1,k,j,rfl,rfl,p3,by rw[<- p4.len];exact e3,?_⟩;exact h σ _ F2 (R2.rel.rewrite S ho e2 q2 (p4.set j (s2.rep _ _ R1.rep))) (s1.trans' s2)
       |_=>exact h.elim
def gG(a b:D):ZL:=match b with
 |.int i=>(match a with
  |.list ds=>atI ds i
  |.tuple ds=>atI ds i
  |.str z=>if z.length<=sizeLine then (atI z.cps.toList i).map λc=>.str ⟨#[c]⟩else none
  |_=>none)
 |_=>none
def aE.atI{d:D}(h:aE K F ds vs)(e:L2.atI ds i=some d):∃v,L2.atI vs i=some v/\bI K F d v:=by
 unfold L2.atI at e⊢;rw[<- h.len];cases q:mO ds.length i with
 |none=>rw[q]at e;cases e
 |some j=>
  rw[q]at e;exact h.get e
def aI8:mR X (Ŷ X.K) 0 gG:=λZ ow F H σ δ a b x y d Q S R ra rb e q=>by
 unfold gG at e;split at e<;>try cases e
 split at e<;>try cases e
 .rename_i i _ ds
  unfold bI at ra rb;let⟨p,xs,rfl,hq,rs⟩:=ra;subst rb;let⟨v,e1,r⟩:=rs.atI e;exact .inl ⟨p,xs,i,v,rfl,rfl,R.sub.seq hq,e1,q v H F (R.x r) 'k'⟩
 .rename_i i _ ds
  unfold bI at ra rb;let⟨p,xs,rfl,hq,rs⟩:=ra;subst rb;let⟨v,e1,r⟩:=rs.atI e;exact .inr (.inl ⟨p,xs,i,v,rfl,rfl,R.sub.seqT hq,e1,q v H F (R.x r) 'k'⟩)
 .rename_i i _ z
  unfold bI at ra rb;subst ra rb;split at e
  .rename_i hz
   cases e1:atI z.cps.toList i with
   |none=>rw[e1]at e;cases e
   |some c=>
    rw[e1]at e;cases e;exact .inr (.inr ⟨z,i,c,rfl,rfl,hz,e1,q _ H F (R.x (by unfold bI;rfl)) 'k'⟩)
  .cases e
def d8(S:aO Z ow)(ha:DE X Z ow 0 a f)(hb:DE X Z ow 0 b h)(hs:oA b:=by exact λ_ _=>rfl):DE X Z ow 0 (.Subscript a b pos) (gJ gG f h):=PE.mono (FA aE4 ha hb hs) λ_ _ _ q=>CP S aI8 q
def SW(i:Nat)(fk:M D):M D:=λδ=>match δ[i]? with
 |some (some _)=>(fk δ).bind λk δ1=>(match δ1[i]? with
  |some (some d)=>(match gG d k with
   |some r=>.ok r δ1
   |none=>.stuck)
  |_=>.stuck)
 |_=>.stuck
def CV(i:Nat){x:Str}{p:Pos}(hb:DE X Z ow 0 b h)(ho:↥(ow.getD i 0=1))(hN:↥'s')(hv:#v[zS X.env.scope x])(hd:⇑(Zdb x))(hcd:⇑(Zcd x))(hs:oA b:=by exact λ_ _=>rfl):
  DE X Z ow 0 (.Subscript 'g' b pos) (SW i h):=PE.mono (FA rA (dA hN hv hd hcd) hb hs) λσ H Q q=>by
 let⟨F,δ,R,q⟩:=q;unfold SW at q;cases e0:δ[i]? with
 |none=>rw[e0]at q;sleep 5
 |some o=>
  cases o with
  |none=>rw[e0]at q;sleep 5
  |some d0=>
   rw[e0]at q;dsimp only at q;let⟨a,ds0,vs0,q1,q2,q3,q4⟩:=R.ownAt ho e0;refine⟨_,q2,F,δ,R,?_⟩;cases e1:h δ with
   |stuck=>rw[e1]at q;sleep 5
   |err y δ2=>rw[e1]at q;exact q
   |ok dk δ2=>
    rw[e1]at q;simp![Res.bind]at q;intro kv H2 F2 R2 s2;cases e2:δ2[i]? with
    |none=>rw[e2]at q;sleep 5
    |some o=>
     cases o with
     |none=>rw[e2]at q;sleep 5
     |some d1=>
      rw[e2]at q;let⟨a',ds1,vs1,p1,p2,p3,p4⟩:=R2.rel.ownAt ho e2;rw[q2]at p2;cases p2;subst p1;cases dk with
      |int k=>
       dsimp![gG]at q;cases e3:atI ds1 k with
       |none=>rw[e3]at q;sleep 5
       |some r=>
        rw[e3]at q;have rk:=R2.rep;unfold bI at rk;subst rk;let⟨v,w1,w2⟩:=p4.atI e3;exact⟨a,vs1,k,v,rfl,rfl,eK.of p3,w1,q v H2 F2 (R2.rel.x w2) s2⟩
      |_=>sleep 5
def rO:ZI->ZL
 |[d]=>(match d with
  |.list ds=>some (.int ds.length)
  |.tuple ds=>some (.int ds.length)
  |.str z=>if z.length<=sizeLine then some (.int z.length)else none
  |_=>none)
 |_=>none
def FQ(i:Nat):M D:=λδ=>match δ[i]? with
 |some (some d)=>(match rO [d]with
  |some r=>.ok r δ
  |none=>.stuck)
 |_=>.stuck
def v5(i:Nat){x:Str}{p p2:Pos}(hg:Gl X "len")(hm:X.mg "len"=none)(ho:↥(ow.getD i 0=1))(hN:↥'s')(hv:#v[zS X.env.scope x])(hd:⇑(Zdb x))(hcd:⇑(Zcd x))(he:↥(starEach [.Name x p] X.env=(false,eval 'g' X.env)::starEach [] X.env))(hpl:↥(Zbt pos [] X.env)):DE X Z ow 0 (.Call (.Name "len" p2) [.Name x p] [] pos) (FQ i):=
 PE.mono (mV rB hg hm SB (dW (dA hN hv hd hcd) iU he) ⋯ ⋯ he hpl) λσ H Q q=>by
  let⟨F,δ,R,q⟩:=q;unfold FQ at q;cases e0:δ[i]? with
  |none=>rw[e0]at q;sleep 5
  |some o=>
   cases o with
   |none=>rw[e0]at q;sleep 5
   |some d0=>
    rw[e0]at q;let⟨a,ds0,vs0,rfl,q2,q3,q4⟩:=R.ownAt ho e0;refine⟨_,q2,a,vs0,rfl,.inl (eK.of q3),?_⟩;dsimp![rO]at q;rw[q4.len]at q;exact q _ H F (R.x (by unfold bI;rfl)) 'k'
end
section
variable {a:Expr}{h:M D}{F:Hp}{K:ZC}
def hW(h:bI K F (.int i) v):v=.int i:=by unfold bI at h;exact h
def hZ(h:bI K F (.str x) v):v=.str x:=by unfold bI at h;exact h
def kU(h:bI K F (.bool x) v):v=.bl x:=by unfold bI at h;exact h
def p7(h:bI K F .none v):v=.non:=by unfold bI at h;exact h
def j8(h:bI K F (.list ds) v):∃(a:Addr)(xs:List V),v=.ref a/\eK K F a xs/\aE K F ds xs:=by unfold bI at h;exact h
def CW(h:bI K F (.tuple ds) v):∃(a:Addr)(xs:List V),v=.ref a/\qV K F a xs/\aE K F ds xs:=by unfold bI at h;exact h
def fW:bI K F (.int i) (.int i):=by unfold bI;rfl
def MA:bI K F (.str i) (.str i):=by unfold bI;rfl
def gN:bI K F (.bool i) (.bl i):=by unfold bI;rfl
def iD(C:Int->Int->Prop)(g:Int->Int->D):D->D->ZL
 |.int i,.int j=>open Classical in if C i j then some (g i j)else none
 |_,_=>none
def CY(hg:∀F i j,bI X.K F (g' i j) (g i j)):mR X (rI C g) 0 (iD C g'):=λZ ow F H σ δ a b x y d Q S R ra rb e q=>by
 unfold iD at e;split at e
 .rename_i i j
  split at e
  .rename_i hc
   cases e;exact⟨i,j,hW ra,hW rb,hc,q _ H F (R.x (hg F i j)) 'k'⟩
  .cases e
 .cases e
def X7(g:Int->Int->D):D->D->ZL
 |.int i,.int j=>some (g i j)
 |_,_=>none
def oH(hg:∀F i j,bI X.K F (g' i j) (g i j)):mR X (OU g) 0 (X7 g'):=λZ ow F H σ δ a b x y d Q S R ra rb e q=>by
 unfold X7 at e;split at e
 .rename_i i j
  cases e;exact⟨i,j,hW ra,hW rb,q _ H F (R.x (hg F i j)) 'k'⟩
 .cases e
def mR.or(h:mR X r n o)(h':mR X r' n o'):mR X (λx y H Q=>r x y H Q\/r' x y H Q) n (λa b=>(o a b).or (o' a b)):=λZ ow F H σ δ a b x y d Q S R ra rb e q=>by
 dsimp only at e;cases e1:o a b with
 |some d'=>
  rw[e1,Option.some_or]at e;cases e;exact .inl (h Z ow F H σ δ a b x y d Q S R ra rb e1 q)
 |none=>
  rw[e1,Option.none_or]at e;exact .inr (h' Z ow F H σ δ a b x y d Q S R ra rb e q)
def CZ:D->D->ZL
 |.str i,.str j=>if i.length+j.length<=sizeLine then some (.str (i++j))else none
 |_,_=>none
def JZ:D->D->ZL
 |.tuple i,.tuple j=>if i≠[]/\i.length+j.length<=sizeLine then some (.tuple (i++j))else none
 |_,_=>none
def SX:D->D->ZL
 |.list i,.list j=>if i.length+j.length<=sizeLine then some (.list (i++j))else none
 |_,_=>none
instance{l:ZI}:Decidable (l≠[]):=match l with
 |[]=>.isFalse λh=>h rfl
 |_::_=>.isTrue λh=>by cases h
def aFI:mR X (λx y H Q=>∃i j,x=.str i/\y=.str j/\i.length+j.length<=sizeLine/\Q (.str (i++j)) H) 0 CZ:=λZ ow F H σ δ a b x y d Q S R ra rb e q=>by
 unfold CZ at e;split at e
 .rename_i i j
  split at e
  .rename_i hc
   cases e;exact⟨i,j,hZ ra,hZ rb,hc,q _ H F (R.x MA) 'k'⟩
  .cases e
 .cases e
def aFJ:mR X (ų X.K) 0 JZ:=λZ ow F H σ δ a b x y d Q S R ra rb e q=>by
 unfold JZ at e;split at e
 .rename_i i j
  split at e
  .rename_i hc
   cases e;let⟨p,xs,rfl,hp,ha⟩:=CW ra;let⟨p',ys,rfl,hp',hb⟩:=CW rb;refine⟨p,p',xs,ys,rfl,rfl,R.sub.seqT hp,R.sub.seqT hp',λz=>?_,by rw[<- ha.len,<- hb.len];exact hc.2,λz=>?_,λz t ht=>?_⟩
   .have:=ha.len;rw[z]at this;exact hc.1 (List.length_eq_zero_iff.mp this)
   .have hj:j=[]:=by have:=hb.len;rw[z]at this;exact List.length_eq_zero_iff.mp this
    rw[hj,ì]at q;exact q _ H F (R.x ra) 'k'
   .have ft:=R.fnone ht
    exact q _ _ (aX F t (.tup (xs++ys))) ((R.laid ht).x (pZ ft (ha.app hb))) (cC ft _)
  .cases e
 .cases e
def O2(l:Addr)(items:Array Value)(n:Nat)(sl:Array (ZN))(b:Addr)(fH:Array Value)(n2:Nat)(sl2:Array (ZN))(hc0:items.size+fH.size<=sizeLine):
  Meets (Builtin.«list.__add__» ⟨[.ref l,.ref b],[]⟩) (λ_ R s=>s.heap.get? l=some ⟨.type "list",none,.seq items n,sl⟩/\s.heap.get? b=some ⟨.type "list",none,.seq fH n2,sl2⟩/\R (.ok (.ret (Value.ref s.heap.objs.size))) {s with heap:=s.heap.push {cls:=Value.type "list",data:=Data.seq (items++fH)},toks:=s.toks}):=
 .of_wp λprog w A R s h=>by
  let⟨hp,g,d,tk,os⟩:=s;let⟨hl,hb,h⟩:=h;have f1:=PySem.AutoSeq1.idx_int;have f2:=PySem.AutoSeq1.sub_tuple_tuple;have f3:=PySem.AutoSeq1.sub_list_list;have f4:=PySem.AutoSeq1.sub_tuple_list;have f5:=PySem.AutoSeq1.sub_list_tuple
  wp_walk using PySem.AutoSeq1.wpAny_loadPart' hl,PySem.AutoSeq1.wpAny_loadPart' hb
  exact⟨_,rfl,h⟩
def O3{prog:Program}{w:World}{A:Around}{E:ZA}{s:Shared}{l b:Addr}{items fH:Array Value}{n n2:Nat}{sl sl2:Array (ZN)}{Q:ZA}(hl:s.heap.get? l=some ⟨.type "list",none,.seq items n,sl⟩)(hb:s.heap.get? b=some ⟨.type "list",none,.seq fH n2,sl2⟩)(h:Q (.ref s.heap.objs.size) {s with heap:=s.heap.push {cls:=.type "list",data:=.seq (items++fH)}})(hsz:items.size+fH.size<=sizeLine):wpAny 'o' A (binaryOp .Add (.ref l) (.ref b)) Q E s:=
 concat_meets ⟨_,hl,rfl⟩ ⟨_,hb,rfl⟩ noFill_list_add seq_list_add F.slot_list_add F.entry_list_add (F.args_list_add_2 _ _) (O2 l items n sl b fH n2 sl2 hsz) ⟨hl,hb,h⟩
def Α(K:ZC):R2:=λx y H Q=>∃l b xs zs,x=.ref l/\y=.ref b/\eK K H l xs/\eK K H b zs/\xs.length+zs.length<=sizeLine/\∀p,H p=none->Q (.ref p) (aX H p (.lst (xs++zs)))
def MB:jG X (binaryOp .Add) (Α X.K):=by
 intro U s σ H x y v u Q I rx ry h;let⟨l,b,xs,zs,rfl,rfl,hH,hB,hz,q⟩:=h;cases rx;cases ry;let⟨its,r,⟨o,n,e,c,dn,dd⟩,z⟩:=I.list hH;let⟨its2,r2,⟨o2,n2,e2,c2,dn2,dd2⟩,z2⟩:=I.list hB;let⟨oc,od,oda,osl⟩:=o;let⟨oc2,od2,oda2,osl2⟩:=o2;cases c;cases c2;cases dn;cases dn2;cases dd;cases dd2;have hl:=r.length;have hl2:=r2.length;refine O3 e e2 ?_ 'i';have ea:its.toArray++its2.toArray=(its++its2).toArray:=by simp
 rw[ea];exact⟨.ref _,_,I.lnew (t':=s.toks) (r.append r2) 'i',rfl,q _ I.fresh⟩
def MC:mR X (Α X.K) 1 SX:=λZ ow F H σ δ a b x y d Q S R ra rb e q=>by
 unfold SX at e;split at e
 .rename_i i j
  split at e
  .rename_i hc
   cases e;let⟨p,xs,rfl,hp,ha⟩:=j8 ra;let⟨p',ys,rfl,hp',hb⟩:=j8 rb;exact⟨p,p',xs,ys,rfl,rfl,R.sub.seq hp,R.sub.seq hp',by rw[<- ha.len,<- hb.len];exact hc,λt ht=>q _ _ F (R.newList S ht (ha.app hb)) 'k'⟩
  .cases e
 .cases e
def mR.fz(h:mR X r n o):mR X r 0 o:=λZ ow F H σ δ a b x y d Q S R ra rb e q=>h Z ow F H σ δ a b x y d Q S R ra rb e λv H' F' R' s=>by
 let⟨F2,s2,R2⟩:=R'.freeze S;exact q v H' F2 R2 (s.trans' s2)
def J1:D->D->ZL:=λa b=>(X7 (λi j=>.int (i+j)) a b).or ((CZ a b).or ((JZ a b).or (SX a b)))
def bM(S:aO Z ow)(ha:DE X Z ow 0 a f)(hb:DE X Z ow 0 b h):DE X Z ow 0 (.BinOp a .Add b pos) (gJ J1 f h):=
 vG S (aES.or (JH.or (YV.or MB))) ((oH λ_ _ _=>fW).or (aFI.or (aFJ.or MC.fz))) ha hb
def aFK(S:aO Z ow)(ha:DE X Z ow 0 a f)(hb:DE X Z ow 0 b h):DE X Z ow 1 (.BinOp a .Add b pos) (gJ SX f h):=vG S MB MC ha hb
def Œ:D->D->ZL:=X7 λi j=>.int (i-j)
def j9(S:aO Z ow)(ha:DE X Z ow 0 a f)(hb:DE X Z ow 0 b h):DE X Z ow 0 (.BinOp a .Sub b pos) (gJ Œ f h):=vG S aET (oH λ_ _ _=>fW) ha hb
def O4:D->D->ZL:=iD IntMulOk λi j=>.int (i*j)
def iA(S:aO Z ow)(ha:DE X Z ow 0 a f)(hb:DE X Z ow 0 b h):DE X Z ow 0 (.BinOp a .Mult b pos) (gJ O4 f h):=vG S YY (CY λ_ _ _=>fW) ha hb
def FR:D->D->ZL:=iD ż λi j=>.int (i.fdiv j)
def C0(S:aO Z ow)(ha:DE X Z ow 0 a f)(hb:DE X Z ow 0 b h):DE X Z ow 0 (.BinOp a .FloorDiv b pos) (gJ FR f h):=vG S SD (CY λ_ _ _=>fW) ha hb
def C1:D->D->ZL:=iD (λ_ j=>j≠0) λi j=>.int (i.fmod j)
def fX(S:aO Z ow)(ha:DE X Z ow 0 a f)(hb:DE X Z ow 0 b h):DE X Z ow 0 (.BinOp a .Mod b pos) (gJ C1 f h):=vG S YJ (CY λ_ _ _=>fW) ha hb
def J2:D->D->ZL:=iD YI λi j=>.int (i^j.toNat)
def C2(S:aO Z ow)(ha:DE X Z ow 0 a f)(hb:DE X Z ow 0 b h):DE X Z ow 0 (.BinOp a .Pow b pos) (gJ J2 f h):=vG S aEU (CY λ_ _ _=>fW) ha hb
def C3(op:D->ZL)(f:M D):M D:=λδ=>(f δ).bind λd δ1=>match op d with
 |some r=>.ok r δ1
 |none=>.stuck
def œ:D->ZL
 |.int i=>some (.int (-i))
 |_=>none
def iB(ha:DE X Z ow 0 a f):DE X Z ow 0 (.UnaryOp .USub a pos) (C3 œ f):=PE.mono (aIO aEV ha) λσ H Q q=>by
 let⟨F,δ,R,q⟩:=q;unfold C3 at q;sleep 2;cases e:f δ with
 |stuck=>rw[e]at q;sleep 5
 |err x δ1=>rw[e]at q;exact q
 |ok d δ1=>
  rw[e]at q;simp![Res.bind]at q;intro v H1 F1 R1 s1;cases d with
  |int i=>exact⟨i,hW R1.rep,q _ H1 F1 (R1.rel.x fW) s1⟩
  |_=>sleep 5
def rP(f:M D):M D:=λδ=>(f δ).bind λd δ1=>match d with
 |.bool b=>.ok (.bool (!b)) δ1
 |_=>.stuck
def aFN(ha:DE X Z ow 0 a f):DE X Z ow 0 (.UnaryOp .Not a pos) (rP f):=PE.mono (aEK ha) λσ H Q q=>by
 let⟨F,δ,R,q⟩:=q;unfold rP at q;sleep 2;cases e:f δ with
 |stuck=>rw[e]at q;sleep 5
 |err x δ1=>rw[e]at q;exact q
 |ok d δ1=>
  rw[e]at q;simp![Res.bind]at q;intro v H1 F1 R1 s1;cases d with
  |bool i=>exact⟨i,kU R1.rep,q _ H1 F1 (R1.rel.x gN) s1⟩
  |_=>sleep 5
def iH(f g:M D):M D:=λδ=>(f δ).bind λd δ1=>match d with
 |.bool b=>if b=true then g δ1 else .ok (.bool false) δ1
 |_=>.stuck
def SY(f g:M D):M D:=λδ=>(f δ).bind λd δ1=>match d with
 |.bool b=>if b=true then .ok 'u' δ1 else g δ1
 |_=>.stuck
def p8(h:DE X Z ow 0 a f):DE X Z ow 0 (.BoolOp op [a] pos) f:=PE.mono (aEI h) λ_ _ _ q=>q
def uC{rest:List Expr}(ha:DE X Z ow 0 a f)(hb:DE X Z ow 0 (.BoolOp .And (b::rest) pos) h):DE X Z ow 0 (.BoolOp .And (a::b::rest) pos) (iH f h):=PE.mono (aEJ ha hb) λσ H Q q=>by
 let⟨F,δ,R,q⟩:=q;unfold iH at q;sleep 2;cases e:f δ with
 |stuck=>rw[e]at q;sleep 5
 |err x δ1=>rw[e]at q;exact q
 |ok d δ1=>
  rw[e]at q;simp![Res.bind]at q;intro v H1 F1 R1 s1;cases d with
  |bool i=>
   refine⟨i,kU R1.rep,?_⟩;dsimp only at q;cases i with
   |true=>rw[Á rfl]at q⊢;exact⟨F1,δ1,R1.rel,q.mono s1 λ_ _ z=>z⟩
   |false=>rw[Â Þ]at q⊢;exact q _ H1 F1 (R1.rel.x gN) s1
  |_=>sleep 5
def Β{rest:List Expr}(ha:DE X Z ow 0 a f)(hb:DE X Z ow 0 (.BoolOp .Or (b::rest) pos) h):DE X Z ow 0 (.BoolOp .Or (a::b::rest) pos) (SY f h):=PE.mono (aIF ha hb) λσ H Q q=>by
 let⟨F,δ,R,q⟩:=q;unfold SY at q;sleep 2;cases e:f δ with
 |stuck=>rw[e]at q;sleep 5
 |err x δ1=>rw[e]at q;exact q
 |ok d δ1=>
  rw[e]at q;simp![Res.bind]at q;intro v H1 F1 R1 s1;cases d with
  |bool i=>
   refine⟨i,kU R1.rep,?_⟩;dsimp only at q;cases i with
   |true=>rw[Á rfl]at q⊢;exact q _ H1 F1 (R1.rel.x gN) s1
   |false=>rw[Â Þ]at q⊢;exact⟨F1,δ1,R1.rel,q.mono s1 λ_ _ z=>z⟩
  |_=>sleep 5
def ZQ{f:M Bool}(ha:DT X Z ow a f):PW X (.BoolOp .And [a] pos) (tT X Z ow f):=YD ha
def xD{f:M Bool}(ha:DT X Z ow a f):PW X (.BoolOp .Or [a] pos) (tT X Z ow f):=aEF ha
def oJ{f:M Bool}(h:PW X e (tT X Z ow f)):DT X Z ow e f:=h.pt
def IY:D->D->ZL:=λa b=>if SeqAt.shaped a=true/\SeqAt.shaped b=true then some (.bool (PyData.eqv a b))else none
def C4:D->D->ZL:=λa b=>if SeqAt.shaped a=true/\SeqAt.shaped b=true then some (.bool (!PyData.eqv a b))else none
def fK:mR X (λx y H Q=>∃d e,bI X.K H d x/\bI X.K H e y/\SeqAt.shaped d=true/\SeqAt.shaped e=true/\Q (.bl (PyData.eqv d e)) H) 0 IY:=λZ ow F H σ δ a b x y d Q S R ra rb e q=>by
 unfold IY at e;split at e
 .rename_i hc
  cases e;exact⟨a,b,R.sub.rep _ _ ra,R.sub.rep _ _ rb,hc.1,hc.2,q _ H F (R.x gN) 'k'⟩
 .cases e
def A0:mR X (λx y H Q=>∃d e,bI X.K H d x/\bI X.K H e y/\SeqAt.shaped d=true/\SeqAt.shaped e=true/\Q (.bl (!PyData.eqv d e)) H) 0 C4:=λZ ow F H σ δ a b x y d Q S R ra rb e q=>by
 unfold C4 at e;split at e
 .rename_i hc
  cases e;exact⟨a,b,R.sub.rep _ _ ra,R.sub.rep _ _ rb,hc.1,hc.2,q _ H F (R.x gN) 'k'⟩
 .cases e
def Ŕ:D->D->ZL:=X7 λi j=>.bool (decide (i<j))
def ĥ:D->D->ZL:=X7 λi j=>.bool (decide (i<=j))
def Γ:D->D->ZL:=X7 λi j=>.bool (decide (j<i))
def Δ:D->D->ZL:=X7 λi j=>.bool (decide (j<=i))
def jL:mR X (OU λi j=>.bl (decide (i<j))) 0 Ŕ:=oH λ_ _ _=>gN
def SZ:mR X (OU λi j=>.bl (decide (i<=j))) 0 ĥ:=oH λ_ _ _=>gN
def FS:mR X (OU λi j=>.bl (decide (j<i))) 0 Γ:=oH λ_ _ _=>gN
def aJA:mR X (OU λi j=>.bl (decide (j<=i))) 0 Δ:=oH λ_ _ _=>gN
def Ħ(a b:D):ZL:=match b with
 |.none=>(match a with
  |.none=>some 'u'
  |.dict _=>none
  |_=>some (.bool false))
 |.bool d=>(match a with
  |.bool c=>some (.bool (c == d))
  |_=>none)
 |_=>none
def xE(a b:D):ZL:=match b with
 |.none=>(match a with
  |.none=>some (.bool false)
  |.dict _=>none
  |_=>some 'u')
 |.bool d=>(match a with
  |.bool c=>some (.bool (c != d))
  |_=>none)
 |_=>none
def Ε{d:D}(h:bI K F d v)(hd:d≠.none):v≠.non:=λz=>by
 subst z;cases d with
 |none=>exact hd rfl
 |bool b=>exact absurd (kU h) 'e'
 |int b=>exact absurd (hW h) 'e'
 |str b=>exact absurd (hZ h) 'e'
 |list b=>let⟨_,_,z,_⟩:=j8 h;cases z
 |tuple b=>let⟨_,_,z,_⟩:=CW h;cases z
 |dict b=>unfold bI at h;let⟨_,_,z,_⟩:=h;cases z
def Ζ:mR X (λx y H Q=>(∃c d,x=.bl c/\y=.bl d/\Q (.bl (c == d)) H)\/(y=.non/\Q (.bl (decide (x=.non))) H)) 0 Ħ:=λZ ow F H σ δ a b x y d Q S R ra rb e q=>by
 unfold Ħ at e;split at e
 .split at e<;>cases e
  .refine .inr ⟨p7 rb,?_⟩;rw[decide_eq_true (p7 ra)];exact q _ H F (R.x gN) 'k'
  .refine .inr ⟨p7 rb,?_⟩;rw[decide_eq_false (Ε ra ‹_›)];exact q _ H F (R.x gN) 'k'
 .split at e<;>cases e
  exact .inl ⟨_,_,kU ra,kU rb,q _ H F (R.x gN) 'k'⟩
 .cases e
def S0:mR X (λx y H Q=>(∃c d,x=.bl c/\y=.bl d/\Q (.bl (c != d)) H)\/(y=.non/\Q (.bl (!decide (x=.non))) H)) 0 xE:=λZ ow F H σ δ a b x y d Q S R ra rb e q=>by
 unfold xE at e;split at e
 .split at e<;>cases e
  .refine .inr ⟨p7 rb,?_⟩;rw[decide_eq_true (p7 ra)];exact q _ H F (R.x gN) 'k'
  .refine .inr ⟨p7 rb,?_⟩;rw[decide_eq_false (Ε ra ‹_›)];exact q _ H F (R.x gN) 'k'
 .split at e<;>cases e
  exact .inl ⟨_,_,kU ra,kU rb,q _ H F (R.x gN) 'k'⟩
 .cases e
def iC(o o':D->D->ZL)(f g k:M D):M D:=λδ=>(f δ).bind λx δ1=>(g δ1).bind λy δ2=>match o x y with
 |some 'u'=>(k δ2).bind λz δ3=>(match o' y z with
  |some r=>.ok r δ3
  |none=>.stuck)
 |some (.bool false)=>.ok (.bool false) δ2
 |_=>.stuck
def A1(S:aO Z ow)(os:mR X r 0 o)(os':mR X r' 0 o')(q:tD X Z ow 0 (iC o o' f h k) σ H Q):JF r r' (tD X Z ow 0 f) (tD X Z ow 0 h) (tD X Z ow 0 k) σ H Q:=by
 let⟨F,δ,R,q⟩:=q;unfold iC at q;sleep 2;cases e:f δ with
 |stuck=>rw[e]at q;sleep 5
 |err x δ1=>rw[e]at q;exact q
 |ok d1 δ1=>
  rw[e]at q;simp![Res.bind]at q;intro x H1 F1 R1 s1;refine⟨F1,δ1,R1.rel,?_⟩;cases e2:h δ1 with
  |stuck=>rw[e2]at q;sleep 5
  |err x δ2=>rw[e2]at q;exact iV.mono q s1
  |ok d2 δ2=>
   rw[e2]at q;dsimp only at q;intro y H2 F2 R2 s2;cases e3:o d1 d2 with
   |none=>rw[e3]at q;sleep 5
   |some d=>
    refine os Z ow F2 H2 σ δ2 d1 d2 x y d _ S R2.rel (s2.rep _ _ R1.rep) R2.rep e3 λv H3 F3 R3 s3=>?_;cases d with
    |bool bb=>
     refine⟨bb,kU R3.rep,?_⟩;cases bb with
     |false=>
      rw[e3]at q;rw[Â Þ];exact q _ H3 F3 (R3.rel.x gN) (s1.trans' (s2.trans' s3))
     |true=>
      rw[e3]at q;rw[Á rfl];dsimp only at q;refine⟨F3,δ2,R3.rel,?_⟩;cases e4:k δ2 with
      |stuck=>rw[e4]at q;sleep 5
      |err x δ3=>rw[e4]at q;exact iV.mono q (s1.trans' (s2.trans' s3))
      |ok d3 δ3=>
       rw[e4]at q;dsimp only at q;intro z H4 F4 R4 s4;cases e5:o' d2 d3 with
       |none=>rw[e5]at q;sleep 5
       |some r0=>
        rw[e5]at q;exact os' Z ow F4 H4 σ δ3 d2 d3 y z r0 Q S R4.rel ((s3.trans' s4).rep _ _ R2.rep) R4.rep e5 λv' H' F' R' s'=>q v' H' F' R' (s1.trans' (s2.trans' (s3.trans' (s4.trans' s'))))
    |_=>rw[e3]at q;sleep 5
def xF(S:aO Z ow)(ho:jG X (compareOp o1) r)(os:mR X r 0 o)(ho':jG X (compareOp o2) r')(os':mR X r' 0 o')(ha:DE X Z ow 0 a f)(hb:DE X Z ow 0 b h)(hc:DE X Z ow 0 c k)(hm:lastMarks [o1,o2] [b,c]=false:=by with_unfolding_all rfl):DE X Z ow 0 (.Compare a [o1,o2] [b,c] pos) (iC o o' f h k):=PE.mono (RO ho ho' ha hb hc hm) λ_ _ _ q=>A1 S os os' q
def S1(S:aO Z ow)(ho:jG X (compareOp o1) r)(os:mR X r 0 o)(ho':jG X (compareOp o2) r')(os':mR X r' 0 o')(ha:DE X Z ow 0 a f)(hb:DE X Z ow 0 b h)(hc:DE X Z ow 0 c k)(hm:lastMarks [o1,o2] [b,c]=false:=by with_unfolding_all rfl):DT X Z ow (.Compare a [o1,o2] [b,c] pos) (dB (iC o o' f h k)):=PT.mono (RP ho ho' ha hb hc hm) λ_ _ _ q=>A1 S os os' (L6 q)
end
structure Q9(K:ZC)(F:Hp)(J:It)(ds:ZI):Prop where
 go:∀i H,aL F H->i<ds.length->J.go i H
 yld:∀i H x H' d,aL F H->J.yld i H x H'->ds[i]?=some d->(H'=H/\bI K F d x)\/∃p o,H p=none/\H'=aX H p o/\∀F2,aL F F2->F2 p=none->bI K (aX F2 p o) d x
 stop:∀H,aL F H->J.stop ds.length H
def kI(X:Cx)(Z:b8)(ow:ZH)(r:Res (ZI))(F:Hp)(σ:St)(R:It->Hp->Prop):Prop:=match r with
 |.ok ds δ=>∀J H' F',cM X.K Z ow F' H' σ δ->aL F F'->Q9 X.K F' J ds->R J H'
 |.err x δ=>iV X Z ow F x δ
 |.stuck=>False
def tI(X:Cx)(Z:b8)(ow:ZH)(f:M (ZI)):TI:=λσ H R=>∃F δ,cM X.K Z ow F H σ δ/\kI X Z ow (f δ) F σ R
def DI(X:Cx)(Z:b8)(ow:ZH)(tg e:Expr)(f:M (ZI)):Prop:=PI X tg e (tI X Z ow f)
def PI.mono(h:PI X tg e t)(hm:∀σ H R,t' σ H R->t σ H R):PI X tg e t':=λU s σ H R I q=>h U s σ H R I (hm σ H R q)
section
variable {X:Cx}{Z:b8}{ow ol ox:ZH}{n rm:Nat}{pos:Pos}{e tg a:Expr}{g:TG}{set:D->DS->Option DS}{K:ZC}{F H:Hp}{σ:St}{δ:DS}
def S3{a:Addr}{xs:List V}{ds:ZI}(h:eK K F a xs)(r:aE K F ds xs):Q9 K F (Ň K a) ds where
 go:=λi H s hi=>⟨xs,xs[i]'(by rw[<- r.len];exact hi),s.seq h,É _⟩
 yld:=λi H x H' d s y e=>.inl ⟨y.1,by
  let⟨v,e1,q⟩:=r.get e;have:=y.2 xs (s.seq h);rw[e1]at this;cases this;exact q⟩
 stop:=λH s=>⟨xs,s.seq h,by rw[<- r.len];exact Ç _⟩
def ZR{a:Addr}{xs:List V}{ds:ZI}(h:qV K F a xs)(r:aE K F ds xs):Q9 K F (ň K a) ds where
 go:=λi H s hi=>⟨xs,xs[i]'(by rw[<- r.len];exact hi),s.seqT h,É _⟩
 yld:=λi H x H' d s y e=>.inl ⟨y.1,by
  let⟨v,e1,q⟩:=r.get e;have:=y.2 xs (s.seqT h);rw[e1]at this;cases this;exact q⟩
 stop:=λH s=>⟨xs,s.seqT h,by rw[<- r.len];exact Ç _⟩
def ZS{lo:Int}{m:Nat}:Q9 K F (ı lo m) (kP lo m) where
 go:=λi H s hi=>by rw[g5]at hi;exact hi
 yld:=λi H x H' d s y e=>.inl ⟨y.1,by
  have hi:i<m:=by have:=(Î.mp e).1;rwa [g5]at this
  rw[CS hi]at e;cases e;rw[y.2];exact fW⟩
 stop:=λH s=>by rw[g5];exact Ç _
def lT(f:M D):M (ZI):=λδ=>(f δ).bind λd δ1=>match d with
 |.list ds=>.ok ds δ1
 |.tuple ds=>.ok ds δ1
 |_=>.stuck
def cN(h:DE X Z ow 0 e f):DI X Z ow tg e (lT f):=(aFH h).mono λσ H R q=>by
 let⟨F,δ,Rl,q⟩:=q;unfold lT at q;refine⟨F,δ,Rl,?_⟩;cases e1:f δ with
 |stuck=>rw[e1]at q;sleep 5
 |err x δ1=>rw[e1]at q;exact q
 |ok d δ1=>
  rw[e1]at q;simp![Res.bind]at q;intro v H1 F1 R1 s1;have rp:=R1.rep;cases d with
  |list ds=>
   let⟨a,xs,rfl,hq,ra⟩:=j8 rp;exact .inl ⟨a,rfl,⟨xs,R1.rel.sub.seq hq⟩,q _ H1 F1 R1.rel s1 (S3 hq ra)⟩
  |tuple ds=>
   let⟨a,xs,rfl,hq,ra⟩:=CW rp;exact .inr ⟨a,rfl,⟨xs,R1.rel.sub.seqT hq⟩,q _ H1 F1 R1.rel s1 (ZR hq ra)⟩
  |_=>sleep 5
def vW(fs:List (M D)):M (ZI):=λδ=>(aZ fs δ).bind λds δ1=>match mP ds with
 |some (lo,n)=>.ok (kP lo n) δ1
 |none=>.stuck
def dJ(hgl:Gl X "range")(hm:X.mg "range"=none)(hi:DE X Z ow 0 b f)(hst:↥(Zse b [] X.env)):DI X Z ow tg (.Call (.Name "range" p2) [b] [] p3) (vW [f]):=
 (OS hgl hm (aF hi bF hst) hst).mono λσ H R q=>by
  let⟨F,δ,Rl,q⟩:=q;unfold vW at q;refine⟨F,δ,Rl,?_⟩;cases e1:aZ [f] δ with
  |stuck=>rw[e1]at q;sleep 5
  |err x δ1=>rw[e1]at q;exact q
  |ok ds δ1=>
   rw[e1]at q;simp![Res.bind]at q;intro vs H1 F1 R1 s1 ra;cases e2:mP ds with
   |none=>rw[e2]at q;sleep 5
   |some p=>
    let⟨lo,m⟩:=p;rw[e2]at q;let⟨j,rfl,h1,h2,rfl,rfl⟩:=FK e2 (oF e1);exact⟨j,w9 ra,h1,h2,q _ H1 F1 R1 s1 ZS⟩
def Q9.turn{d:D}(T:Q9 X.K F1 J ds)(R:cM X.K Z ow F H σ δ)(s:aL F1 F)(y:J.yld i H x H')(e:ds[i]?=some d):∃F',aL F F'/\cM X.K Z ow F' H' σ δ/\bI X.K F' d x:=by
 rcases T.yld i H x H' d (s.trans' R.sub) y e with ⟨rfl,r⟩|⟨p,o,hp,rfl,r⟩
 .exact⟨F,aL.refl _,R,s.rep _ _ r⟩
 .have fp:=R.fnone hp
  exact⟨aX F p o,cC fp o,R.laid hp,r F s fp⟩
def mJ(set:D->DS->Option DS)(f:M (ZI))(u:M Fl):M Fl:=λδ=>(f δ).bind λds δ1=>fJ set u ds δ1
def MD{f:M (ZI)}(hp:PassesOwn 'b' X.A X.env X.xe)(hc:X.calm=true)(hi:DI X Z ow tg e f)(hg:PG X tg g)(hs:Ĥ X Z ow g set)(hb:zT X Z ow ow ow ox rm sts u)(hf: ~~~(Zfi e X.env)):AW X Z ow ow ol ox rm (.For tg e sts [] pos) (mJ set f u):=PS.mono (aEQ hp hc hi hg hb hf) λDn σ H h=>by
 let⟨F,δ,R,h⟩:=h;unfold mJ at h;sleep 2;cases e1:f δ with
 |stuck=>rw[e1]at h;exact h.elim
 |err x δ1=>rw[e1]at h;exact iV.cast h
 |ok ds δ1=>
  rw[e1]at h;simp![Res.bind]at h;intro J H1 F1 R1 s1 T;refine⟨λi m σ H=>m=ds.length-i/\i<=ds.length/\∃F2 δ,cM X.K Z ow F2 H σ δ/\aL F1 F2/\kS X Z ow ol ox rm (fJ set u (ds.drop i) δ) F2 Dn,⟨ds.length,rfl,î _,F1,δ1,R1,aL.refl _,h.mono s1⟩,?_⟩;rintro i m σ2 H2 ⟨rfl,hi,F2,δ2,R2,s2,k2⟩;by_cases hlt:i<ds.length
  .refine .inr ⟨T.go i H2 (s2.trans' R2.sub) hlt,λσ' H'=>∃F3 δ,cM X.K Z ow F3 H' σ' δ/\aL F1 F3/\kS X Z ow ol ox rm (fJ set u (ds.drop (i+1)) δ) F3 Dn,λσ' H' q=>⟨ds.length-(i+1),∅,rfl,hlt,q⟩,λx H' y=>?_⟩
   have ed:=É hlt;let⟨F3,s3,R3,r3⟩:=T.turn R2 s2 y ed;exact Y6 (Pv:=λj σ' H'=>∃F3 δ,cM X.K Z ow F3 H' σ' δ/\aL F1 F3/\kS X Z ow ol ox rm (fJ set u (ds.drop j) δ) F3 Dn) hs R3 (s2.trans' s3) (k2.mono s3) ed r3 λk σ H F δ q1 q2 q3=>⟨F,δ,q1,q2,q3⟩
  .have e:i=ds.length:=by lia
   subst e;rw[List.drop_length]at k2;exact .inl ⟨T.stop H2 (s2.trans' R2.sub),k2 σ2 H2 F2 R2 'k'⟩
def S4(k:Nat)(g:ZP):ZP:=λa=>match g a with
 |some (i,p)=>if i=1000 then none else some (i+k,p)
 |none=>none
def J3{g:ZP}{a:Addr}(h:S4 k g a=some (i,p)):∃j,g a=some (j,p)/\i=j+k/\j≠1000:=by
 unfold S4 at h;cases e:g a with
 |none=>rw[e]at h;cases h
 |some l=>
  let⟨j,q⟩:=l;rw[e]at h;dsimp only at h;split at h
  .cases h
  .rename_i hj;cases h;exact⟨j,rfl,rfl,hj⟩
def J4{k:Nat}{g:ZP}{a:Addr}{j:Nat}{p:ZH}(h:g a=some (j,p))(hj:j≠1000):S4 k g a=some (j+k,p):=by
 unfold S4;rw[h];exact Â hj
def b8.sh(Z:b8)(k:Nat):b8:=⟨Z.F0,Z.H0,S4 k Z.g0,Z.ps.map (·+k),List.replicate k none++Z.σ0,List.replicate k 0++Z.owp,λa i q h=>by
 let⟨j,e1,e2,_⟩:=J3 h;rw[e2];exact Ü.mpr ⟨j,Z.wf a j q e1,rfl⟩⟩
def lU:'l'.getD (i+k) 0=ow.getD i 0:=by
 rw[Ë,Ë,ã 'e',í,ċ]
def aO.lt(S:aO Z ow)(h:ow.getD i 0≠0):i<1000:=by
 by_cases hl:i<ow.length
 .exact Ó hl S.ow
 .exact absurd (by rw[Ë,å (by exact ä.mp ‹_›)];rfl) h
def bD.sh{g:ZP}(hi:n=0\/i≠1000)(h:bD K F H g i n p d v):bD K F H (S4 k g) (i+k) n p d v:=by
 rcases hi with rfl|hi
 .exact h
 .exact h.relab λa p e=>J4 e hi
def cM.sh(S:aO Z ow)(R:cM K Z ow F H σ δ):cM K (Z.sh k) 'l' F H (List.replicate k none++σ) (List.replicate k none++δ):=by
 let⟨g,R⟩:=R;refine⟨S4 k g,R.sub,R.f0,λb o n e=>R.kept b o ?_ e,R.new,R.there,λa i p e=>?_,by simp[R.len],λi hi=>?_,λi d e=>?_⟩
 .cases e1:Z.g0 b with
  |none=>rfl
  |some l=>
   let⟨j,q⟩:=l;have n:S4 k Z.g0 b=none:=n;rw[J4 e1 λz=>S.ps (by rw[<- z];exact Z.wf b j q e1)]at n;cases n
 .obtain⟨j,e1,e2,e3⟩:=J3 e
  rcases R.lab a j p e1 with z|⟨q,z⟩
  .exact .inl z
  .exact .inr ⟨q,by rw[e2];exact J4 z e3⟩
 .obtain⟨j,hj,rfl⟩:=Ü.mp (show i∈Z.ps.map (·+k)from hi)
  let⟨p1,p2⟩:=R.par j hj;refine⟨?_,?_⟩
  .show (List.replicate k none++σ)[j+k]?=(List.replicate k none++Z.σ0)[j+k]?
   rw[ã 'e',ã 'e',í,ċ];exact p1
  .show 'l'.getD (j+k) 0=(List.replicate k 0++Z.owp).getD (j+k) 0
   rw[lU,lU];exact p2
 .by_cases hi:i<k
  .rw[ï (by simpa using hi),ā]at e
   split at e<;>cases e
  .rw[ã (by simp;exact ä.mp ‹_›),í]at e
   let⟨v,e1,o⟩:=R.slot _ d e;obtain⟨j,rfl⟩:∃j,i=j+k:=⟨i-k,∅⟩;rw[ċ]at e1 o;refine⟨v,by rw[ã 'e',í,ċ];exact e1,?_⟩;rw[lU];refine o.sh ?_;by_cases hz:ow.getD j 0=0
   .exact .inl hz
   .exact .inr (Ê (S.lt hz))
def cM.unsh(S:aO Z ow)(hs:aO (Z.sh k) 'l')(R:cM K (Z.sh k) 'l' F H σ' δ')(hσ:∀i,σ'[i+k]?=σ[i]?)(hl:σ'.length=σ.length+k)(hk:k<=δ'.length):cM K Z ow F H σ (δ'.drop k):=by
 let⟨g,R⟩:=R;have un:∀a i p,(λb=>match g b with|some (j,q)=>if j<k\/j-k=1000 then none else some (j-k,q)|none=>none:ZP) a=some (i,p)->g a=some (i+k,p):=λa i p e=>by
  dsimp only at e;cases e1:g a with
  |none=>rw[e1]at e;cases e
  |some l=>
   let⟨j,q⟩:=l;rw[e1]at e;dsimp only at e;split at e
   .cases e
   .rename_i hj
    cases e;have:j-k+k=j:=by lia
    rw[this]
 have ins:∀a i p,i≠1000->g a=some (i+k,p)->(λb=>match g b with|some (j,q)=>if j<k\/j-k=1000 then none else some (j-k,q)|none=>none:ZP) a=some (i,p):=λa i p hi e=>by
  dsimp only;rw[e];dsimp only;rw[Â ∅,ċ]
 refine⟨λb=>match g b with|some (j,q)=>if j<k\/j-k=1000 then none else some (j-k,q)|none=>none,R.sub,R.f0,λb o n e=>R.kept b o ?_ e,R.new,R.there,λa i p e=>?_,?_,λi hi=>?_,λi d e=>?_⟩
 .show S4 k Z.g0 b=none
  unfold S4;rw[n]
 .rcases R.lab a (i+k) p (un a i p e)with z|⟨q,z⟩
  .exact .inl z
  .obtain⟨j,e1,e2,_⟩:=J3 (show S4 k Z.g0 a=some (i+k,q)from z)
   have:i=j:=by lia
   rw[this];exact .inr ⟨q,e1⟩
 .rw[Č,R.len,hl];lia
 .obtain⟨p1,p2⟩:=R.par (i+k) (Ü.mpr ⟨i,hi,rfl⟩)
  have p1:σ'[i+k]?=(List.replicate k none++Z.σ0)[i+k]?:=p1;have p2:'l'.getD (i+k) 0=(List.replicate k 0++Z.owp).getD (i+k) 0:=p2;rw[hσ,ã 'e',í,ċ]at p1;rw[lU,lU]at p2;exact⟨p1,p2⟩
 .rw[List.getElem?_drop,Nat.add_comm]at e
  let⟨v,e1,o⟩:=R.slot _ d e;rw[hσ]at e1;rw[lU]at o;refine⟨v,e1,?_⟩;by_cases hz:ow.getD i 0=0
  .rw[hz]at o⊢;exact o
  .exact o.relab λa p e=>ins a i p (Ê (S.lt hz)) e
def ZT(X:Cx)(Z:b8)(ow:ZH)(k:Nat)(g:TG)(set:D->DS->Option DS):Prop:=∀(F H:Hp)(σ:St)(δ δ':DS)(d:D)(v:V)(Q:St->Hp->Prop),cM X.K Z ow F H σ δ->bI X.K F d v->set d δ=some δ'->(∀σ',cM X.K Z ow F H σ' δ'->σ'.length=σ.length->δ'.length=δ.length->(∀i,σ'[i+k]?=σ[i+k]?)->Q σ' H)->g v σ H Q
def m7(S:aO Z ow)(hk:i<k)(hps:i∉Z.ps)(hl:i<ow.length)(h0:ow.getD i 0=0):ZT X Z ow k (pE i) (eO i):=λF H σ δ δ' d v Q R r e q=>by
 unfold eO at e;split at e
 .rename_i hi
  cases e;have:=(R.x r).store S hi hps hl;rw[ſ h0]at this;exact q _ this 'e' 'e' λj=>Ú ∅
 .cases e
def bP(set:D->DS->Option DS)(t:M Bool)(e:M D):ZI->ZI->DS->Res (ZI)
 |[],acc,δ=>.ok acc δ
 |d::ds,acc,δ=>match set d δ with
  |none=>.stuck
  |some δ1=>(t δ1).bind λb δ2=>if b=true then (e δ2).bind λy δ3=>(if acc.length<sizeLine then bP set t e ds (acc++[y]) δ3 else .stuck)else (if acc.length<sizeLine then bP set t e ds acc δ2 else .stuck)
def d9(k:Nat)(set:D->DS->Option DS)(f:M (ZI))(t:M Bool)(e:M D):M D:=λδ=>(f δ).bind λds δ1=>match bP set t e ds [] (List.replicate k none++δ1)with
 |.ok acc δ2=>if k<=δ2.length then .ok (.list acc) (δ2.drop k)else .stuck
 |_=>.stuck
def aN9(X:Cx)(Z:b8)(ow:ZH)(n:Nat)(r:Res D)(F:Hp)(σ:St)(Q:VK):Prop:=match r with
 |.ok d δ=>∀v H' F',gF X.K Z ow n d v F' H' σ δ->aL F F'->Q v H'
 |_=>False
def ĕ(X:Cx)(Z:b8)(ow:ZH)(n:Nat)(f:M D):TE:=λσ H Q=>∃F δ,cM X.K Z ow F H σ δ/\aN9 X Z ow n (f δ) F σ Q
def aOA(X:Cx)(Z:b8)(ow:ZH)(r:Res Bool)(F:Hp)(σ:St)(Q:Bool->Hp->Prop):Prop:=match r with
 |.ok b δ=>∀H' F',cM X.K Z ow F' H' σ δ->aL F F'->Q b H'
 |_=>False
def ķ(X:Cx)(Z:b8)(ow:ZH)(f:M Bool):TT:=λσ H Q=>∃F δ,cM X.K Z ow F H σ δ/\aOA X Z ow (f δ) F σ Q
def FT{k:Nat}{wi:TI}{fi:M (ZI)}{t:M Bool}{fe:M D}{Q:VK}(S:aO Z ow)(Sk:aO (Z.sh k) 'l')(hs:ZT X (Z.sh k) 'l' k g set)(q:tD X Z ow 1 (d9 k set fi t fe) σ H Q):LX k (tI X Z ow fi) g (ķ X (Z.sh k) 'l' t) (ĕ X (Z.sh k) 'l' 0 fe) σ H Q:=by
 let⟨F,δ,R,q⟩:=q;unfold d9 at q;sleep 2;cases e1:fi δ with
 |stuck=>rw[e1]at q;sleep 5
 |err x δ1=>rw[e1]at q;exact q
 |ok ds δ1=>
  rw[e1]at q;simp![Res.bind]at q;intro J H1 F1 R1 s1 T;have hcase:∃acc δ2,bP set t fe ds [] (List.replicate k none++δ1)=.ok acc δ2/\k<=δ2.length/\kD X Z ow 1 (.ok (.list acc) (δ2.drop k)) F σ Q:=by
   cases e2:bP set t fe ds [] (List.replicate k none++δ1)with
   |stuck=>rw[e2]at q;sleep 5
   |err x δ2=>rw[e2]at q;sleep 5
   |ok acc δ2=>
    rw[e2]at q;dsimp only at q;split at q
    .rename_i hk;exact⟨acc,δ2,rfl,hk,q⟩
    .sleep 5
  let⟨acc,δ2,e2,hk2,q⟩:=hcase;refine⟨λi m ys σ' H'=>m=ds.length-i/\i<=ds.length/\σ'.length=σ.length+k/\(∀i,σ'[i+k]?=σ[i]?)/\∃F2 δ' acc',cM X.K (Z.sh k) 'l' F2 H' σ' δ'/\aL F1 F2/\aE X.K F2 acc' ys/\bP set t fe (ds.drop i) acc' δ'=.ok acc δ2,
   ⟨ds.length,rfl,î _,by simp;exact Nat.add_comm _ _,λi=>by rw[ã 'e',í,ċ],F1,_,[],R1.sh S,aL.refl _,lM,e2⟩,?_⟩
  rintro i m ys σ2 H2 ⟨rfl,hi,hl2,hσ2,F2,δ',acc',R2,s2,ra,e3⟩;by_cases hlt:i<ds.length
  .have ed:=É hlt
   have ee:ds.drop i=ds[i]::ds.drop (i+1):=û hlt;rw[ee]at e3;unfold bP at e3;cases e4:set ds[i] δ' with
   |none=>simp![e4]at e3;cases e3
   |some δ3=>
    simp![e4]at e3;have small:acc'.length<sizeLine:=by
     cases e5:t δ3 with
     |stuck=>rw[e5]at e3;cases e3
     |err x δ4=>rw[e5]at e3;cases e3
     |ok bb δ4=>
      rw[e5]at e3;simp![Res.bind]at e3;cases bb with
      |false=>
       rw[Â Þ]at e3;split at e3
       .assumption
       .cases e3
      |true=>
       rw[Á rfl]at e3;cases e6:fe δ4 with
       |stuck=>rw[e6]at e3;cases e3
       |err x δ5=>rw[e6]at e3;cases e3
       |ok y δ5=>
        rw[e6]at e3;dsimp only at e3;split at e3
        .assumption
        .cases e3
    refine .inr ⟨T.go i H2 (s2.trans' R2.sub) hlt,by rw[<- ra.len];exact small,λzs σ'' H''=>σ''.length=σ.length+k/\(∀i,σ''[i+k]?=σ[i]?)/\∃F3 δ' acc',cM X.K (Z.sh k) 'l' F3 H'' σ'' δ'/\aL F1 F3/\aE X.K F3 acc' zs/\bP set t fe (ds.drop (i+1)) acc' δ'=.ok acc δ2,λzs σ'' H'' z=>⟨ds.length-(i+1),∅,rfl,hlt,z⟩,λx H3 y=>?_⟩
    let⟨F3,s3,R3,r3⟩:=T.turn R2 s2 y ed;refine hs F3 H3 σ2 δ' δ3 ds[i] x _ R3 r3 e4 λσ3 R4 l3 _ hσ3=>⟨F3,δ3,R4,?_⟩;have hl3:σ3.length=σ.length+k:=by exact Eq.trans ‹_› ‹_›
    have hσ4:∀i,σ3[i+k]?=σ[i]?:=λi=>(hσ3 i).trans (hσ2 i);cases e5:t δ3 with
    |stuck=>rw[e5]at e3;cases e3
    |err x δ4=>rw[e5]at e3;cases e3
    |ok bb δ4=>
     rw[e5]at e3;simp![Res.bind]at e3;intro H5 F5 R5 s5;cases bb with
     |false=>
      rw[Â Þ,Á small]at e3;rw[Â Þ];exact⟨hl3,hσ4,F5,δ4,acc',R5,s2.trans' (s3.trans' s5),(s3.trans' s5).repAll _ _ ra,e3⟩
     |true=>
      rw[Á rfl]at e3;rw[Á rfl];refine⟨F5,δ4,R5,?_⟩;cases e6:fe δ4 with
      |stuck=>rw[e6]at e3;cases e3
      |err x δ5=>rw[e6]at e3;cases e3
      |ok yd δ5=>
       rw[e6]at e3;dsimp only at e3;rw[Á small]at e3;intro yv H6 F6 R6 s6;exact⟨hl3,hσ4,F6,δ5,acc'++[yd],R6.rel,s2.trans' (s3.trans' (s5.trans' s6)),((s3.trans' (s5.trans' s6)).repAll _ _ ra).app (lN R6.rep lM),e3⟩
  .have e:i=ds.length:=by lia
   subst e;rw[List.drop_length]at e3;unfold bP at e3;cases e3;refine .inl ⟨T.stop H2 (s2.trans' R2.sub),λp hp=>?_⟩;have R7:cM X.K Z ow F2 H2 σ (δ2.drop k):=R2.unsh S Sk hσ2 hl2 hk2;exact q _ _ F2 (R7.newList S hp ra) (s1.trans' s2)
def ME(hK:X'.K=X.K)(h:ĕ X Z ow n f σ H Q):tD X' Z ow n f σ H Q:=by
 let⟨F,δ,R,h⟩:=h;refine⟨F,δ,by rw[hK];exact R,?_⟩;cases e:f δ with
 |stuck=>rw[e]at h;exact h
 |err x δ1=>sleep 1
 |ok d δ1=>rw[e]at h;exact λv H' F' R' s=>h v H' F' (by rw[<- hK];exact R') s
def Η{f:M Bool}(hK:X'.K=X.K)(h:ķ X Z ow f σ H Q):tT X' Z ow f σ H Q:=by
 let⟨F,δ,R,h⟩:=h;refine⟨F,δ,by rw[hK];exact R,?_⟩;cases e:f δ with
 |stuck=>rw[e]at h;exact h
 |err x δ1=>sleep 1
 |ok d δ1=>rw[e]at h;exact λH' F' R' s=>h H' F' (by rw[<- hK];exact R') s
def eA:M Bool:=λδ=>.ok true δ
def bZ:Q7 X [] (tT X Z ow eA):=λU s σ H Q I h=>by
 let⟨F,δ,R,h⟩:=h;exact CN U s σ H Q I (h H F R 'k')
def v6(h:DT X Z ow c t):Q7 X [c] (tT X Z ow t):=Y0 h
def rQ(S:aO Z ow)(Sk:aO (Z.sh xs.length) 'h')(hc:X.calm=true)(hi:DI X Z ow tg iter fi)(hg:∀C fp s H,PG 'f' tg g)(hs:ZT X (Z.sh xs.length) 'h' xs.length g set)(hif:∀C fp s H,Q7 'f' ifs (tT 'f' (Z.sh xs.length) 'h' t))(he:∀C fp s H,DE 'f' (Z.sh xs.length) 'h' 0 elt fe)(hk:↥(scope.kind=.function))(hok:↥(dY X.N xs scope.names X.env.scope.names=true))(hfs: ~~~(Zfi iter X.env)):
  DE X Z ow 1 'm' (d9 xs.length set fi t fe):=
 PE.mono (FH (ti:=ķ X (Z.sh xs.length) 'h' t) (te:=ĕ X (Z.sh xs.length) 'h' 0 fe) hc hi hg (λC fp s H U s' σ H' Q I h=>hif C fp s H U s' σ H' Q I (Η (X:=X) (X':=aT X xs scope C fp s H) rfl h)) (λC fp s H=>PE.mono (he C fp s H) λ_ _ _ h=>ME (X:=X) (X':=aT X xs scope C fp s H) rfl h) hk hok hfs)
  λ_ _ _ q=>FT (wi:=tI X Z ow fi) S Sk hs q
def lV(i:Nat){pos' spos:Pos}(S:aO Z ow)(Sk:aO (Z.sh xs.length) 'h')(hc:X.calm=true)(hN:X.N.Nodup)(hi:DI X Z ow tg iter fi)(hg:∀C fp s H,PG 'f' tg g)(hs:ZT X (Z.sh xs.length) 'h' xs.length g set)(hif:∀C fp s H,Q7 'f' ifs (tT 'f' (Z.sh xs.length) 'h' t))(he:∀C fp s H,DE 'f' (Z.sh xs.length) 'h' 0 elt fe)(hx:↥'s')(hl:↥(X.env.scope.names.lookup x=some .local))(hps:↥(Z.ps.contains i=false))(hlo:⇑(i<ow.length))(hsw:↥(swapsWith 'm' (some (.Name x pos')) spos.line X.env=pure true))(hk:↥(scope.kind=.function))(hok:↥(dY X.N xs scope.names X.env.scope.names=true))(hfs: ~~~(Zfi iter X.env)):
  AW X Z ow (ow.set i 1) ol ox rm (.Assign [.Name x pos'] 'm' spos) (eQ i (d9 xs.length set fi t fe)):=
 PS.mono (rH (ti:=ķ X (Z.sh xs.length) 'h' t) (te:=ĕ X (Z.sh xs.length) 'h' 0 fe) hc hN hx hl hi hg (λC fp s H U s' σ H' Q I h=>hif C fp s H U s' σ H' Q I (Η (X:=X) (X':=aT X xs scope C fp s H) rfl h)) (λC fp s H=>PE.mono (he C fp s H) λ_ _ _ h=>ME (X:=X) (X':=aT X xs scope C fp s H) rfl h) hsw hk hok hfs)
  λDn σ H h=>FT (wi:=tI X Z ow fi) S Sk hs (CQ S (dG hps) hlo h)
end
section
variable {X:Cx}{Z:b8}{ow:ZH}{pos:Pos}{e:Expr}{f h:M D}{F:Hp}{K:ZC}
def xG(h:aE K F [d] vs):∃v,vs=[v]/\bI K F d v:=by
 unfold aE at h;let⟨x,r,rfl,rx,h⟩:=h;unfold aE at h;exact⟨x,by rw[h],rx⟩
def aFP:Y5 X (λxs H Q=>(∃p ys,xs=[.ref p]/\(eK X.K H p ys\/qV X.K H p ys)/\Q (.int ys.length) H)\/(∃z,xs=[.str z]/\z.length<=sizeLine/\Q (.int z.length) H)) 0 rO:=λZ ow F H σ δ ds vs d Q S R ra e q=>by
 unfold rO at e;split at e<;>try cases e
 split at e<;>try cases e
 .obtain⟨v,rfl,r⟩:=xG ra;let⟨p,xs,rfl,hp,hr⟩:=j8 r;rw[hr.len]at q;exact .inl ⟨p,xs,rfl,.inl (R.sub.seq hp),q _ H F (R.x fW) 'k'⟩
 .obtain⟨v,rfl,r⟩:=xG ra;let⟨p,xs,rfl,hp,hr⟩:=CW r;rw[hr.len]at q;exact .inl ⟨p,xs,rfl,.inr (R.sub.seqT hp),q _ H F (R.x fW) 'k'⟩
 .split at e
  .rename_i hz
   cases e;let⟨v,rfl,r⟩:=xG ra;obtain rfl:=hZ r;exact .inr ⟨_,rfl,hz,q _ H F (R.x fW) 'k'⟩
  .cases e
def dL{p:Pos}(S:aO Z ow)(hg:Gl X "len")(hm:X.mg "len"=none)(ha:DE X Z ow 0 e f)(hs:↥(Zse e [] X.env))(hpl:↥(Zbt pos [] X.env)):DE X Z ow 0 (.Call (.Name "len" p) [e] [] pos) (Q8 rO [f]):=
 fR S (rB.or CJ) aFP hg hm SB (aF ha bF hs) ⋯ ⋯ hs hpl
def ŕ:ZI->ZL
 |[.int i]=>some (.int (if i<0 then -i else i))
 |_=>none
def C5:Y5 X (λxs H Q=>∃i,xs=[.int i]/\Q (.int (if i<0 then -i else i)) H) 0 ŕ:=λZ ow F H σ δ ds vs d Q S R ra e q=>by
 unfold ŕ at e;split at e
 .cases e
  let⟨v,rfl,r⟩:=xG ra;exact⟨_,by rw[hW r],q _ H F (R.x fW) 'k'⟩
 .cases e
def MF:ZI->ZL
 |[.list ds]=>some (.list ds)
 |[.tuple ds]=>some (.list ds)
 |_=>none
def C6:Y5 X (λxs H Q=>∃p ys,xs=[.ref p]/\(eK X.K H p ys\/qV X.K H p ys)/\∀l,H l=none->Q (.ref l) (aX H l (.lst ys))) 1 MF:=λZ ow F H σ δ ds vs d Q S R ra e q=>by
 unfold MF at e;split at e
 .cases e
  let⟨v,rfl,r⟩:=xG ra;let⟨p,xs,rfl,hp,hr⟩:=j8 r;exact⟨p,xs,rfl,.inl (R.sub.seq hp),λl hl=>q _ _ F (R.newList S hl hr) 'k'⟩
 .cases e
  let⟨v,rfl,r⟩:=xG ra;let⟨p,xs,rfl,hp,hr⟩:=CW r;exact⟨p,xs,rfl,.inr (R.sub.seqT hp),λl hl=>q _ _ F (R.newList S hl hr) 'k'⟩
 .cases e
inductive Ty where|int|bool|str|list|tuple
def Ty.name:Ty->String
 |.int=>"int"|.bool=>"bool"|.str=>"str"|.list=>"list"|.tuple=>"tuple"
def FU:Ty->D->ZL
 |.int,.int _=>some 'u'|.int,.bool _=>some 'u'|.bool,.bool _=>some 'u'|.str,.str _=>some 'u'|.list,.list _=>some 'u'|.tuple,.tuple _=>some 'u'
 |_,.dict _=>none
 |_,_=>some (.bool false)
def O5(T:Ty):fP X (.builtin "isinstance") (λxs H Q=>∃(x:V)(d:D)(b:Bool),xs=[x,.ty T.name]/\bI X.K H d x/\FU T d=some (.bool b)/\Q (.bl b) H):=by
 intro U s σ H xs us Q I r h;let⟨x,d,b,rfl,rd,hb,q⟩:=h;let⟨u,v,rfl,rx,rc⟩:=RR r;obtain rfl:v=Value.type T.name:=rc;obtain⟨t,G,Z,p,⟨c,e2,e⟩,hx⟩:∃t G,W.KitX X.K u t G/\G s.heap/\(∃c,FU T d=some (.bool c)/\W.kitOne X.K t (.type T.name)=some c)/\u≠.builtin "__main__.__loader__#opaque":=by
  cases d with
  |none=>obtain rfl:=p7 rd;cases (show u=Value.none from rx);exact⟨_,_,W.kitx_none,trivial,by cases T<;>exact⟨_,rfl,rfl⟩,nofun⟩
  |bool y=>obtain rfl:=kU rd;cases (show u=Value.bool y from rx);exact⟨_,_,W.kitx_bool,trivial,by cases T<;>exact⟨_,rfl,rfl⟩,nofun⟩
  |int i=>obtain rfl:=hW rd;let⟨t,q'⟩:=(show ∃t,u=Value.int i t from rx);cases q';exact⟨_,_,W.kitx_int,trivial,by cases T<;>exact⟨_,rfl,rfl⟩,nofun⟩
  |str i=>obtain rfl:=hZ rd;let⟨t,q'⟩:=(show ∃t,u=Value.str i t from rx);cases q';exact⟨_,_,W.kitx_str,trivial,by cases T<;>exact⟨_,rfl,rfl⟩,nofun⟩
  |list ds=>
   let⟨a,xs,rfl,hp,_⟩:=j8 rd;cases (show u=Value.ref a from rx);let⟨_,_,⟨o,_,h1,h2,_⟩,_⟩:=I.list hp;exact⟨_,_,W.kitx_list,⟨o,h1,h2⟩,by cases T<;>exact⟨_,rfl,rfl⟩,nofun⟩
  |tuple ds=>
   let⟨a,xs,rfl,hp,_⟩:=CW rd;cases (show u=Value.ref a from rx);let⟨_,_,⟨o,h1,h2,_⟩,_⟩:=I.tuple hp;exact⟨_,_,W.kitx_tuple,⟨o,h1,h2⟩,by cases T<;>exact⟨_,rfl,rfl⟩,nofun⟩
  |dict _=>cases T<;>cases hb
 cases hb.symm.trans e2;exact W.kia_one Z I.kIn p e hx λtk=>⟨.bl b,H,I.tok tk,rfl,q⟩
def aFR(T:Ty){x:Str}{p p2:Pos}(hx:x=T.name)(hg:Gl X "isinstance")(hm:X.mg "isinstance"=none)(Đ:Gl X x)(hmt:X.mg x=none)(hbt:bootBuiltins x=some (.type T.name))(ha:DE X Z ow 0 e f)(hn:⇑(x≠"__name__"))(hd:⇑(Zdb x))(hs:↥(starEach [e,.Name x p2] X.env=(false,eval e X.env)::starEach [.Name x p2] X.env))(hs2:↥(starEach [.Name x p2] X.env=(false,eval (.Name x p2) X.env)::starEach [] X.env))(hpl:↥((backTo pos (starEach [.Name x p2] X.env)).any (·.1)=false)):
  DE X Z ow 0 (.Call (.Name "isinstance" p) [e,.Name x p2] [] pos) (C3 (FU T) f):=
 PE.mono (mV (O5 T) hg hm j6 (dW ha (dW (Ž Đ hmt hbt hn hd) iU hs2) hs) ⋯ ⋯ hs hpl) λσ H Q q=>by
  let⟨F,δ,R,q⟩:=q;unfold C3 at q;sleep 2;cases e:f δ with
  |stuck=>rw[e]at q;sleep 5
  |err x δ1=>rw[e]at q;exact q
  |ok d δ1=>
   rw[e]at q;simp![Res.bind]at q;intro v H1 F1 R1 s1;have hb:∀r,FU T d=some r->∃b,r=.bool b:=λr h=>by
    cases T<;>cases d<;>cases h<;>exact⟨_,rfl⟩
   cases e1:FU T d with
   |none=>rw[e1]at q;sleep 5
   |some r=>
    rw[e1]at q;let⟨b,rfl⟩:=hb r e1;exact⟨v,d,b,rfl,R1.rel.sub.rep _ _ R1.rep,e1,q _ H1 F1 (R1.rel.x gN) s1⟩
def FV(xs:ZI)(lo hi:Option Int):ZI:=(xs.drop (HT.sIx xs.length 0 lo)).take (HT.sIx xs.length xs.length hi-HT.sIx xs.length 0 lo)
def aE.cut(r:aE K F ds vs)(lo hi:Option Int):aE K F (FV ds lo hi) (CD vs lo hi):=by
 unfold FV CD;rw[r.len];exact(r.drop _).take _
def kB:Option (M D)->M (Option Int)
 |none=>λδ=>.ok none δ
 |some f=>λδ=>(f δ).bind λd δ1=>match d with
  |.int i=>.ok (some i) δ1
  |_=>.stuck
def kO(X:Cx)(Z:b8)(ow:ZH)(r:Res (Option Int))(F:Hp)(σ:St)(Q:Option Int->Hp->Prop):Prop:=match r with
 |.ok o δ=>∀H' F',cM X.K Z ow F' H' σ δ->aL F F'->Q o H'
 |.err x δ=>iV X Z ow F x δ
 |.stuck=>False
def aOB(X:Cx)(Z:b8)(ow:ZH)(f:Option (M D)):TO:=λσ H Q=>∃F δ,cM X.K Z ow F H σ δ/\kO X Z ow (kB f δ) F σ Q
def DO(X:Cx)(Z:b8)(ow:ZH)(e:Option Expr)(f:Option (M D)):Prop:=PO X e (aOB X Z ow f)
def PO.mono(h:PO X o t)(hm:∀σ H Q,t' σ H Q->t σ H Q):PO X o t':=λU s σ H Q I q=>h U s σ H Q I (hm σ H Q q)
def oK:DO X Z ow none none:=PO.mono YT λσ H Q q=>by
 let⟨F,δ,R,q⟩:=q;exact q H F R 'k'
def jM(h:DE X Z ow 0 e f):DO X Z ow (some e) (some f):=PO.mono (YU h) λσ H Q q=>by
 let⟨F,δ,R,q⟩:=q;have q:kO X Z ow ((f δ).bind λd δ1=>match d with|.int i=>.ok (some i) δ1|_=>.stuck) F σ Q:=q;sleep 2;cases e:f δ with
 |stuck=>rw[e]at q;sleep 5
 |err x δ1=>rw[e]at q;exact q
 |ok d δ1=>
  rw[e]at q;simp![Res.bind]at q;intro v H1 F1 R1 s1;cases d with
  |int i=>exact⟨i,hW R1.rep,q H1 F1 R1.rel s1⟩
  |_=>sleep 5
def ě(op:D->Option Int->Option Int->ZL)(f:M D)(lo hi:Option (M D)):M D:=λδ=>(f δ).bind λd δ1=>(kB lo δ1).bind λl δ2=>(kB hi δ2).bind λu δ3=>match op d l u with
 |some r=>.ok r δ3
 |none=>.stuck
def Ŗ(X:Cx)(r:V->Option Int->Option Int->Hp->VK->Prop)(n:Nat)(op:D->Option Int->Option Int->ZL):Prop:=∀(Z:b8)(ow:ZH)(F H:Hp)(σ:St)(δ:DS)(a:D)(x:V)(l u:Option Int)(d:D)(Q:VK),aO Z ow->cM X.K Z ow F H σ δ->bI X.K F a x->op a l u=some d ->
 (∀v H' F',gF X.K Z ow n d v F' H' σ δ->aL F F'->Q v H')->r x l u H Q
def m8{lo hi:Option Expr}(S:aO Z ow)(hr:ĳ X r)(os:Ŗ X r n op)(he:DE X Z ow 0 e f)(hl:DO X Z ow lo fl)(hu:DO X Z ow hi fh):
  DE X Z ow n (.Subscript e (.Slice lo hi none p2) pos) (ě op f fl fh):=PE.mono (E9 hr he hl hu) λσ H Q q=>by
 let⟨F,δ,R,q⟩:=q;unfold ě at q;sleep 2;cases e1:f δ with
 |stuck=>rw[e1]at q;sleep 5
 |err x δ1=>rw[e1]at q;exact q
 |ok d δ1=>
  rw[e1]at q;simp![Res.bind]at q;intro v H1 F1 R1 s1;refine⟨F1,δ1,R1.rel,?_⟩;cases e2:kB fl δ1 with
  |stuck=>rw[e2]at q;sleep 5
  |err x δ2=>rw[e2]at q;exact iV.mono q s1
  |ok l δ2=>
   rw[e2]at q;dsimp only at q;intro H2 F2 R2 s2;refine⟨F2,δ2,R2,?_⟩;cases e3:kB fh δ2 with
   |stuck=>rw[e3]at q;sleep 5
   |err x δ3=>rw[e3]at q;exact iV.mono q (s1.trans' s2)
   |ok u δ3=>
    rw[e3]at q;dsimp only at q;intro H3 F3 R3 s3;cases e4:op d l u with
    |none=>rw[e4]at q;sleep 5
    |some r0=>
     rw[e4]at q;exact os Z ow F3 H3 σ δ3 d v l u r0 Q S R3 ((s2.trans' s3).rep _ _ R1.rep) e4 λv' H' F' R' s'=>q v' H' F' R' (s1.trans' (s2.trans' (s3.trans' s')))
def C7:D->Option Int->Option Int->ZL
 |.list ds,l,u=>some (.list (FV ds l u))
 |_,_,_=>none
def C8:Ŗ X (ŷ X.K) 1 C7:=λZ ow F H σ δ a x l u d Q S R ra e q=>by
 unfold C7 at e;split at e
 .cases e
  let⟨p,xs,rfl,hp,hr⟩:=j8 ra;exact⟨p,xs,rfl,R.sub.seq hp,λt ht=>q _ _ F (R.newList S ht (hr.cut l u)) 'k'⟩
 .cases e
def ZU:D->Option Int->Option Int->ZL
 |.tuple ds,l,u=>if HT.sIx ds.length 0 l=0/\HT.sIx ds.length ds.length u=ds.length then none else some (.tuple (FV ds l u))
 |_,_,_=>none
def S5:Ŗ X (Ų X.K) 0 ZU:=λZ ow F H σ δ a x l u d Q S R ra e q=>by
 unfold ZU at e;split at e
 .split at e
  .cases e
  .rename_i hw
   cases e;let⟨p,xs,rfl,hp,hr⟩:=CW ra;rw[hr.len]at hw;refine⟨p,xs,rfl,R.sub.seqT hp,hw,λt ht=>?_⟩;have ft:=R.fnone ht;exact q _ _ (aX F t (.tup (CD xs l u))) ((R.laid ht).x (pZ ft (hr.cut l u))) (cC ft _)
 .cases e
def aH(h1:↥(decide (ow.length<=1000)=true))(h2:↥(Z.ps.contains 1000=false)):aO Z ow:=⟨of_decide_eq_true h1,dG h2⟩
end
def ŗ(x:Str):It:=⟨λi _=>i<x.cps.size,λi H v H'=>H'=H/\∃c,x.cps[i]?=some c/\v=.str ⟨#[c]⟩,λi _=>i=x.cps.size⟩
def S6{K:ZC}(x:Str)(t:Tok)(it:Addr):E5 P w K tg (ŗ x) [it] it (λi h=>h.IsStrIter it (strIterType x) x t i):=by
 have hty:strIterType x="str_ascii_iterator"\/strIterType x="str_iterator":=by
  unfold strIterType;split
  .exact .inl rfl
  .exact .inr rfl
 have W:∀A:Around,A.handled=none->Walks P w A it [it] [it] x.cps.size (SignAt x) (λi h=>h.IsStrIter it (strIterType x) x t i):=λA hh=>by
  rcases hty with e|e
  .rw[e];exact Walks.strAscii hh it x t
  .rw[e];exact Walks.strWide hh it x t
 refine⟨by simp,λi h st b hb=>?_,λi h h' st k=>let ⟨o,ho,r⟩:=st;⟨o,k it 'e' o ho,r⟩,?_,?_,λA i s Q E st h=>?_⟩
 .have e:b=it:=by simpa using hb
  subst e;let⟨o,e,c,d⟩:=st;exact⟨o,e,λv z=>by rw[d]at z;cases z⟩
 .intro X hP hw hK hc i U s σ H E I hf st hg
  subst hP hw hK;let⟨f0,f1,f2,f3,f4,f5⟩:=hf it 'e';refine(W X.A (I.ok.hd hc)).item i s _ E hg st λv h' tk hv st' k=>?_;have I1:Inv X U σ H {s with heap:=h',toks:=tk}:=I.turned (t':=tk) (λb o hb e=>k b o (by simpa using hb) e) f0 f1 f3 f4 f5;let⟨c,u,hx,rfl⟩:=hv;let⟨o,e,cl,d⟩:=id st';refine⟨_,rfl,E6 (s:={s with heap:=h',toks:=tk}) e cl d (by rcases hty with e|e<;>rw[e]<;>decide) ⟨.str ⟨#[c]⟩,H,I1,⟨u,rfl⟩,⟨rfl,c,hx,rfl⟩,st',λb hb=>(hf b hb).1⟩⟩
 .intro X hP hw hK hc i U s σ H E I hf st hg
  subst hP hw hK;let⟨f0,f1,f2,f3,f4,f5⟩:=hf it 'e';have hg:i=x.cps.size:=hg;subst hg;exact(W X.A (I.ok.hd hc)).done s _ E st λh' tk k=>⟨rfl,I.turned (t':=tk) (λb o hb e=>k b o (by simpa using hb) e) f0 f1 f3 f4 f5⟩
 .have st:s.heap.IsStrIter it (strIterType x) x t i:=st
  rcases hty with e|e
  .rw[e]at st;exact wpAny_pyIter_striter_ascii st h
  .rw[e]at st;exact wpAny_pyIter_striter_wide st h
section
variable {F:Hp}{K:ZC}
def aMF(tl:TE):TI:=λσ H R=>tl σ H λx H1=>∃z,x=.str z/\R (ŗ z) H1
def aFS(hl:PE X l tl):PI X tg l (aMF tl):=by
 intro U s σ H R I h;refine cL (hl U s σ H _ I h) λv s1 zQ=>?_;let⟨x,H1,I1,r1,q1⟩:=zQ;let⟨z,rfl,q⟩:=q1;let⟨t,rfl⟩:=r1;refine wpAny_pyIter_strU ?_;refine⟨s1.heap.objs.size,[s1.heap.objs.size],_,_,H1,rfl,I1.kept (t':=s1.toks) λb o e=>Heap.get?_push_of_some _ e,S6 z t _,⟨_,Heap.get?_push_size _ rfl,rfl,rfl⟩,λb hb=>?_,q⟩;have e:b=s1.heap.objs.size:=by simpa using hb
 subst e;exact I1.fpOk (Ç _) (I1.hok.fresh (Ç _))
def iW(z:Str):ZI:=z.cps.toList.map λc=>.str ⟨#[c]⟩
def ZV{z:Str}:Q9 K F (ŗ z) (iW z) where
 go:=λi H s hi=>by
  have:(iW z).length=z.cps.size:=by unfold iW;simp
  rw[this]at hi;exact hi
 yld:=λi H x H' d s y e=>.inl ⟨y.1,by
  let⟨c,hc,rfl⟩:=y.2;unfold iW at e;rw[Ï]at e;have:z.cps.toList[i]?=some c:=by simpa using hc
  rw[this]at e;cases e;exact MA⟩
 stop:=λH s=>by
  show (iW z).length=z.cps.size;unfold iW;simp
def uD(f:M D):M (ZI):=λδ=>(f δ).bind λd δ1=>match d with
 |.str z=>.ok (iW z) δ1
 |_=>.stuck
def S7(h:DE X Z ow 0 e f):DI X Z ow tg e (uD f):=(aFS h).mono λσ H R q=>by
 let⟨F,δ,Rl,q⟩:=q;unfold uD at q;refine⟨F,δ,Rl,?_⟩;cases e1:f δ with
 |stuck=>rw[e1]at q;sleep 5
 |err x δ1=>rw[e1]at q;exact q
 |ok d δ1=>
  rw[e1]at q;simp![Res.bind]at q;intro v H1 F1 R1 s1;cases d with
  |str z=>exact⟨z,hZ R1.rep,q _ H1 F1 R1.rel s1 ZV⟩
  |_=>sleep 5
def A5:jG X (compareOp .LtE) (λx y H Q=>∃i j,x=.str i/\y=.str j/\Q (.bl (!decide (j.cps.toList<i.cps.toList))) H):=by
 intro U s σ H x y v u Q I rx ry h;let⟨i,j,rfl,rfl,q⟩:=h;let⟨t,rfl⟩:=rx;let⟨t',rfl⟩:=ry;exact PySem.P.le_str ⟨.bl _,H,I,rfl,q⟩
def Ė:D->D->ZL
 |.str i,.str j=>some (.bool (!decide (j.cps.toList<i.cps.toList)))
 |_,_=>none
def S8:mR X (λx y H Q=>∃i j,x=.str i/\y=.str j/\Q (.bl (!decide (j.cps.toList<i.cps.toList))) H) 0 Ė:=λZ ow F H σ δ a b x y d Q S R ra rb e q=>by
 unfold Ė at e;split at e
 .cases e;exact⟨_,_,hZ ra,hZ rb,q _ H F (R.x gN) 'k'⟩
 .cases e
def Ř(z x:Str):Bool:=!(Builtin.Str.occurrences z x 0 z.length 1).isEmpty
def J5:D->D->ZL
 |.str i,.str j=>some (.bool (!Ř j i))
 |_,_=>none
def O6:mR X (λx y H Q=>∃i j,x=.str i/\y=.str j/\Q (.bl (!(!(Builtin.Str.occurrences j i 0 j.length 1).isEmpty))) H) 0 J5:=λZ ow F H σ δ a b x y d Q S R ra rb e q=>by
 unfold J5 at e;split at e
 .cases e;exact⟨_,_,hZ ra,hZ rb,q _ H F (R.x gN) 'k'⟩
 .cases e
def bH.bl_at:∀{bs:List Bool}{us:ZJ}{i:Nat}{u:Value},bH (bs.map V.bl) us->us[i]?=some u->∃b,bs[i]?=some b/\u=.bool b
 |[],us,i,u,r,e=>by cases r;simp at e
 |b::bs,_,0,u,.cons r _,e=>by cases e;exact⟨b,rfl,r⟩
 |b::bs,_,i+1,u,.cons _ r,e=>by
  let⟨b',e1,e2⟩:=bH.bl_at (i:=i) r (by simpa using e);exact⟨b',e1,e2⟩
def O7{bs:List Bool}:(List.range bs.length).all (λi=>bs.getD i true)=bs.all id:=by
 rw[Bool.eq_iff_iff,æ,æ];constructor
 .intro h b hb
  let⟨i,hi,e⟩:=List.mem_iff_getElem.mp hb;have:=h i (List.mem_range.mpr hi);rw[Ë,É hi]at this;rw[<- e];exact this
 .intro h i hi
  have hi:=List.mem_range.mp hi;rw[Ë,É hi];exact h _ (ă hi)
def FW(hc:X.calm=true):fP X (.builtin "all") (λxs H Q=>∃(p:Addr)(bs:List Bool),xs=[.ref p]/\eK X.K H p (bs.map V.bl)/\Q (.bl (bs.all id)) H):=by
 intro U s σ H xs us Q I r h;let⟨p,bs,rfl,hq,q⟩:=h;let⟨u,rfl,rx⟩:=mU r;cases rx;let⟨its,rv,pl,hz⟩:=I.list hq;refine call_all_walk (wpAny_pyIter_list pl.isList ?_);have hlen:=rv.length;rw[Å]at hlen;have hne:p≠s.heap.objs.size:=by
  let⟨o,n,e,_⟩:=pl;exact Ê 'r'
 sleep 6;let⟨its',rv',pl',_⟩:=ph.list hq;have e1:its=its':=by
  let⟨o,n,e,c,dn,d⟩:=pl;let⟨o',n',e',c',dn',d'⟩:=pl';have e'':=Heap.get?_push_of_some {cls:=.type "list_iterator",data:=.fields #[.ref p,.int 0 0]} e;rw[e'']at e';cases e';rw[d]at d';injection d' with d1 _;simpa using congrArg Array.toList d1
 subst e1;refine⟨s.heap.objs.size,_,_,_,_,_,λi=>bs.getD i true,rfl,Walks.list (A:=X.A.in1) (show X.A.in1.handled=none from I.ok.hd hc) s.heap.objs.size p hne its.toArray,⟨⟨_,Heap.get?_push_size _ rfl,rfl,rfl⟩,pl'.isList⟩,λi v s' Q' E' hv hQ=>?_,λh' tk k=>?_⟩
 .have hv:its.toArray[i]?=some v:=hv
  let⟨b,hb,rfl⟩:=bH.bl_at (i:=i) rv (by simpa using hv);have hQ:Q' (bs.getD i true) s':=hQ;rw[Ë,hb]at hQ;exact wpAny_truthy_bool hQ
 .have sz:its.toArray.size=bs.length:=by simp;exact Eq.symm ‹_›
  rw[sz,O7];have I2:=ph.turned (it:=s.heap.objs.size) (h':=h') (t':=tk) (λb o hb e=>k b o (by simpa using hb) e) (I.hok.fresh (Ç _)) (Û I.lt) (.inr I.sz) (λx c e=>by
   let⟨v,q⟩:=I.cell x c e;exact Ê q.lt) λp hp=>Ê (Heap.lt_size (I.pin p hp).1)
  exact⟨.bl _,H,I2,rfl,q⟩
def rR:ZI->Option (List Bool)
 |[]=>some []
 |.bool b::r=>(rR r).map (b::·)
 |_=>none
def A6:∀{ds:ZI}{bs:List Bool}{vs:List V},rR ds=some bs->aE K F ds vs->vs=bs.map V.bl
 |[],bs,vs,h,r=>by
  cases h;unfold aE at r;rw[r];rfl
 |d::ds,bs,vs,h,r=>by
  unfold aE at r;let⟨x,rest,rfl,rx,r⟩:=r;cases d with
  |bool b=>
   have h:(rR ds).map (b::·)=some bs:=h;cases e:rR ds with
   |none=>rw[e]at h;cases h
   |some bs'=>
    rw[e]at h;cases h;rw[kU rx,A6 e r];rfl
  |_=>cases h
def ř:ZI->ZL
 |[.list ds]=>(rR ds).map λbs=>.bool (bs.all id)
 |_=>none
def aFW:Y5 X (λxs H Q=>∃(p:Addr)(bs:List Bool),xs=[.ref p]/\eK X.K H p (bs.map V.bl)/\Q (.bl (bs.all id)) H) 0 ř:=λZ ow F H σ δ ds vs d Q S R ra e q=>by
 unfold ř at e;split at e
 .rename_i ds'
  cases e1:rR ds' with
  |none=>rw[e1]at e;cases e
  |some bs=>
   rw[e1]at e;cases e;let⟨v,rfl,r⟩:=xG ra;let⟨p,xs,rfl,hp,hr⟩:=j8 r;rw[A6 e1 hr]at hp;exact⟨p,bs,rfl,R.sub.seq hp,q _ H F (R.x gN) 'k'⟩
 .cases e
def oM(hg:Gl X x)(hm:∃t,X.mg x=some (.int i t))(hd:⇑(Zdb x)):DE X Z ow 0 (.Name x pos) (dC (.int i)):=by
 let⟨t,hm⟩:=hm;exact m4 (YB hg hm (v:=.int i) ⟨t,rfl⟩ hd) λF=>fW
end
theorem O8{K:ZC}(z:zY P w K outer H s (λ_ _ _=>False) e s'):False:=by
 let⟨_,_,_,_,_,_,_,_,_,_,_,_,_,q⟩:=z;exact q
end L2
namespace L2
open PySem PySem.Spec
def C9{C:Int->Int->Prop}{g:Int->Int->D}{i j:Int}(h:C i j):iD C g (.int i) (.int j)=some (g i j):=by
 unfold iD;exact Á h
def FY(h:0<j):C1 (.int i) (.int j)=some (.int (i % j)):=by
 rw[C1,C9 (by show j≠0;exact Int.ne_of_gt ‹_›),Int.fmod_eq_emod_of_nonneg i (by exact ó ‹_›)]
def O9(h:0<j)(h2:j.natAbs.log2<9000):FR (.int i) (.int j)=some (.int (i/j)):=by
 rw[FR,C9 ⟨by exact Int.ne_of_gt ‹_›,h2⟩,Int.fdiv_eq_ediv_of_nonneg i (by exact ó ‹_›)]
def ZW(h:IntMulOk i j):O4 (.int i) (.int j)=some (.int (i*j)):=by rw[O4,C9 h]
def MG(h:YI i j):J2 (.int i) (.int j)=some (.int (i^j.toNat)):=by rw[J2,C9 h]
def ZX:IY (.int i) (.int j)=some (.bool (i == j)):=rfl
def MH:C4 (.int i) (.int j)=some (.bool (!(i == j))):=rfl
def S9:C4 (.bool i) (.bool j)=some (.bool (!(i == j))):=rfl
def xH{e:M D}{g:D->D}{δ:DS}:∀{ds acc:ZI}{o:ZL},(∀d∈ds,e (some d::δ)=.ok (g d) (some d::δ))->acc.length+ds.length<=sizeLine->∃o',bP (eO 0) eA e ds acc (o::δ)=.ok (acc++ds.map g) (o'::δ)
 |[],acc,o,_,_=>⟨o,by simp[bP]⟩
 |d::ds,acc,o,h,hl=>by
  have hd:=h d Ô;rw[Ý]at hl;let⟨o',ih⟩:=xH (ds:=ds) (acc:=acc++[g d]) (o:=some d) (λx hx=>h x (Ò _ hx)) (by simp;lia);refine⟨o',?_⟩;unfold bP;have e1:eO 0 d (o::δ)=some (some d::δ):=by simp[eO]
  rw[e1];show Res.bind (eA (some d::δ)) _=_;simp![eA,Res.bind,if_true,hd];rw[Á ∅,ih];simp
def A7{f:M (ZI)}{e:M D}{g:D->D}{δ δ1:DS}{ds:ZI}(hf:f δ=.ok ds δ1)(he:∀d∈ds,e (some d::δ1)=.ok (g d) (some d::δ1))(hl:ds.length<=sizeLine):d9 1 (eO 0) f eA e δ=.ok (.list (ds.map g)) δ1:=by
 unfold d9;rw[hf];let⟨o',h⟩:=xH (acc:=[]) (o:=none) he (by simpa using hl);simp![Res.bind];rw[show List.replicate 1 (none:ZL)++δ1=none::δ1 from rfl,h];simp
def aH4{set:D->DS->Option DS}{u:M Fl}(I:Nat->ZO){ds:ZI}(hs:∀(k:Nat)(d:D)(δ:DS),ds[k]?=some d->I k δ->∃δ1 δ2,set d δ=some δ1/\(u δ1=.ok .next δ2\/u δ1=.ok .cont δ2)/\I (k+1) δ2)(h0:I 0 δ):
  ∃δ',fJ set u ds δ=.ok .next δ'/\I ds.length δ':=by
 have main:∀(n k:Nat)(δ:DS),k+n=ds.length->I k δ->∃δ',fJ set u (ds.drop k) δ=.ok .next δ'/\I ds.length δ':=by
  intro n
  induction n with
  |zero=>
   intro k δ hk h;have:k=ds.length:=by assumption
   subst this;rw[List.drop_length];exact⟨δ,rfl,h⟩
  |succ n ih=>
   intro k δ hk h;have hlt:k<ds.length:=by lia
   let⟨δ1,δ2,e1,e2,h2⟩:=hs k ds[k] δ (É hlt) h;let⟨δ',e3,h3⟩:=ih (k+1) δ2 ∅ h2;refine⟨δ',?_,h3⟩;rw[û hlt];unfold fJ;rw[e1];rcases e2 with e2|e2
   .simp![e2,Res.bind];exact e3
   .simp![e2,Res.bind];exact e3
 have:=main ds.length 0 δ (by exact Nat.add_comm _ _) h0
 rwa [List.drop_zero]at this
def MI{u v:M Fl}{δ δ1:DS}(h:u δ=.ok .next δ1):cX u v δ=v δ1:=by unfold cX;rw[h];rfl
def TB{u v:M Fl}{δ δ1:DS}{d:D}(h:u δ=.ok (.ret d) δ1):cX u v δ=.ok (.ret d) δ1:=by unfold cX;rw[h];rfl
def TC{n k:Nat}{d:D}(h:(kP lo n)[k]?=some d):k<n/\d=.int (lo+(k:Int)):=by
 have hk:k<n:=by have:=(Î.mp h).1;rwa [g5]at this
 rw[CS hk]at h;cases h;exact⟨hk,rfl⟩
def FZ(h:z.length=n)(hn:n<=sizeLine):rO [.str z]=some (.int n):=by
 show (if z.length<=sizeLine then some (PyData.int z.length)else none)=_;rw[Á (by rw[h];exact hn),h]
def aW{k:α->DS->Res β}:(Res.ok a δ).bind k=k a δ:=rfl
def iE{op:D->D->ZL}{f g:M D}{δ δ1 δ2:DS}{a b c:D}(hf:f δ=.ok a δ1)(hg:g δ1=.ok b δ2)(ho:op a b=some c):gJ op f g δ=.ok c δ2:=by
 unfold gJ;rw[hf,aW,hg,aW,ho]
def v7{op:ZI->ZL}{f:M D}{δ δ1:DS}{a c:D}(hf:f δ=.ok a δ1)(ho:op [a]=some c):Q8 op [f] δ=.ok c δ1:=by
 unfold Q8;rw[show aZ [f] δ=.ok [a] δ1 by simp![aZ,hf,aW],aW,ho]
def aFX{op:D->ZL}{f:M D}{δ δ1:DS}{a c:D}(hf:f δ=.ok a δ1)(ho:op a=some c):C3 op f δ=.ok c δ1:=by
 unfold C3;rw[hf,aW,ho]
def pL{f:M D}{δ δ1:DS}{b:Bool}(hf:f δ=.ok (.bool b) δ1):dB f δ=.ok b δ1:=by
 unfold dB;rw[hf,aW]
def iO{f:M D}{δ δ1:DS}{d:D}(hf:f δ=.ok d δ1):tZ f δ=.ok (.ret d) δ1:=by
 unfold tZ;rw[hf,aW]
def aFY{c:M Bool}{u v:M Fl}{δ δ1:DS}(h:c δ=.ok true δ1):m5 c u v δ=u δ1:=by unfold m5;rw[h,aW,Á rfl]
def TD{c:M Bool}{u v:M Fl}{δ δ1:DS}(h:c δ=.ok false δ1):m5 c u v δ=v δ1:=by unfold m5;rw[h,aW,Â Þ]
def ZY{f g:M D}{δ δ1:DS}(h:f δ=.ok 'u' δ1):iH f g δ=g δ1:=by unfold iH;rw[h,aW];exact Á rfl
def ZZ{f g:M D}{δ δ1:DS}(h:f δ=.ok (.bool false) δ1):iH f g δ=.ok (.bool false) δ1:=by unfold iH;rw[h,aW];exact Â Þ
def m9{f:M Bool}{δ δ1:DS}{b:Bool}(h:f δ=.ok b δ1):pK f δ=.ok (!b) δ1:=by unfold pK;rw[h,aW]
def bQ{i:Nat}{δ:DS}{d:D}(h:δ[i]?=some (some d)):bA i δ=.ok d δ:=by unfold bA;rw[h]
def fY:dC d δ=.ok d δ:=rfl
def uE{fn:ZI->Res D}{f:M D}{δ δ1:DS}{a c:D}{o:DS}(hf:f δ=.ok a δ1)(h:fn [a]=.ok c o):dH fn [.val f] δ=.ok c δ1:=by
 simp![dH,cK,hf,aW,dP,Option.map,h,aU,bL]
def TF(N B C:ZO)(R:D->ZO):Fl->ZO
 |.next,δ=>N δ
 |.brk,δ=>B δ
 |.cont,δ=>C δ
 |.ret d,δ=>R d δ
structure Wt{α:Type}(a:α):Type where
def bO(m:M Fl)(δ:DS)(N:ZO)(B C:ZO)(R:D->ZO)(_w:Wt (N,B,C,R):=⟨⟩):Prop:=match m δ with
 |.ok .next δ'=>N δ'
 |.ok .brk δ'=>B δ'
 |.ok .cont δ'=>C δ'
 |.ok (.ret d) δ'=>R d δ'
 |_=>False
def aV{α:Type}(f:M α)(δ:DS)(Q:α->ZO)(_w:Wt Q:=⟨⟩):Prop:=match f δ with
 |.ok a δ'=>Q a δ'
 |_=>False
section
variable {u:M Fl}{f k:M D}{δ δ1:DS}{N B C:ZO}{R:D->ZO}
def aV.of{f:M α}{a:α}{Q:α->ZO}(h:f δ=.ok a δ1)(q:Q a δ1):aV f δ Q:=by unfold aV;rw[h];exact q
def aV.ex{f:M α}{Q:α->ZO}(h:aV f δ Q):∃a δ1,f δ=.ok a δ1/\Q a δ1:=by
 unfold aV at h;cases e:f δ with
 |ok a δ1=>rw[e]at h;exact⟨a,δ1,rfl,h⟩
 |err x δ1=>sleep 1
 |stuck=>sleep 1
def bO.of{fl:Fl}(h:m δ=.ok fl δ1)(q:TF N B C R fl δ1):bO m δ N B C R:=by
 unfold bO;rw[h];cases fl<;>exact q
def bO.ex(h:bO m δ N B C R):∃fl δ1,m δ=.ok fl δ1/\TF N B C R fl δ1:=by
 unfold bO at h;cases e:m δ with
 |ok fl δ1=>rw[e]at h;exact⟨fl,δ1,rfl,by cases fl<;>exact h⟩
 |err x δ1=>sleep 1
 |stuck=>sleep 1
def TH(h:bO u δ (λδ1=>bO v δ1 N B C R) B C R):bO (cX u v) δ N B C R:=by
 let⟨fl,δ1,e,q⟩:=h.ex;cases fl with
 |next=>
  let⟨fl,δ2,e2,q⟩:=bO.ex q;exact .of ((MI e).trans e2) q
 |brk=>exact .of (fl:=.brk) (by unfold cX;rw[e];rfl) q
 |cont=>exact .of (fl:=.cont) (by unfold cX;rw[e];rfl) q
 |ret d=>exact .of (fl:=.ret d) (TB e) q
def TJ(h:aV f δ R):bO (tZ f) δ N B C R:=by
 let⟨d,δ1,e,q⟩:=h.ex;exact .of (fl:=.ret d) (iO e) q
def aJC(h:aV c δ λb δ1=>if b=true then bO u δ1 N B C R else bO v δ1 N B C R):bO (m5 c u v) δ N B C R:=by
 let⟨b,δ1,e,q⟩:=h.ex;cases b with
 |true=>
  rw[Á rfl]at q;let⟨fl,δ2,e2,q⟩:=q.ex;exact .of ((aFY e).trans e2) q
 |false=>
  rw[Â Þ]at q;let⟨fl,δ2,e2,q⟩:=q.ex;exact .of ((TD e).trans e2) q
def Z0{set:D->DS->Option DS}(I:Nat->ZO){ds:ZI}(hs:∀(k:Nat)(d:D)(δ:DS),ds[k]?=some d->I k δ->∃δ1,set d δ=some δ1/\bO u δ1 (I (k+1)) N (I (k+1)) R)(hN:∀δ,I ds.length δ->N δ)(h0:I 0 δ):bO (fJ set u ds) δ N B C R:=by
 have main:∀(n k:Nat)(δ:DS),k+n=ds.length->I k δ->bO (fJ set u (ds.drop k)) δ N B C R:=by
  intro n
  induction n with
  |zero=>
   intro k δ hk h;have:k=ds.length:=by assumption
   subst this;rw[List.drop_length];exact .of (fl:=.next) rfl (hN δ h)
  |succ n ih=>
   intro k δ hk h;have hlt:k<ds.length:=by lia
   let⟨δ1,e1,w⟩:=hs k ds[k] δ (É hlt) h;let⟨fl,δ2,e2,q⟩:=w.ex;rw[û hlt];cases fl with
   |next=>
    let⟨fl,δ3,e3,q⟩:=(ih (k+1) δ2 ∅ q).ex;exact .of (by unfold fJ;rw[e1];simp![e2,aW];exact e3) q
   |cont=>
    let⟨fl,δ3,e3,q⟩:=(ih (k+1) δ2 ∅ q).ex;exact .of (by unfold fJ;rw[e1];simp![e2,aW];exact e3) q
   |brk=>exact .of (fl:=.next) (by unfold fJ;rw[e1];simp![e2,aW]) q
   |ret d=>exact .of (fl:=.ret d) (by unfold fJ;rw[e1];simp![e2,aW]) q
 have:=main ds.length 0 δ (by exact Nat.add_comm _ _) h0
 rwa [List.drop_zero]at this
def eG{set:D->DS->Option DS}{f:M (ZI)}(I:Nat->ZO){ds:ZI}(hf:f δ=.ok ds δ1)(h0:I 0 δ1)(hs:∀(k:Nat)(d:D)(δ:DS),ds[k]?=some d->I k δ->∃δ1,set d δ=some δ1/\bO u δ1 (I (k+1)) N (I (k+1)) R)(hN:∀δ,I ds.length δ->N δ):bO (mJ set f u) δ N B C R:=by
 let⟨fl,δ2,e,q⟩:=(Z0 (B:=B) (C:=C) I hs hN h0).ex;exact .of (by unfold mJ;rw[hf,aW];exact e) q
def TK{set:D->DS->Option DS}{j:Int}(I:Nat->ZO)(hf:f δ=.ok (.int j) δ1)(hj:-(2^62)<=j)(hj2:j<2^62)(h0:I 0 δ1)(hs:∀(k:Nat)(δ:DS),(k:Int)<j->I k δ->∃δ1,set (.int k) δ=some δ1/\bO u δ1 (I (k+1)) N (I (k+1)) R)(hN:∀δ,I j.toNat δ->N δ):bO (mJ set (vW [f]) u) δ N B C R:=by
 refine eG (ds:=kP 0 j.toNat) (δ1:=δ1) I ?_ h0 (λk d δ hd hI=>?_) (λδ h=>hN δ (by rwa [g5]at h))
 .simp![vW,aZ,hf,aW,mP]
  rw[Á ⟨hj,hj2⟩]
 .obtain⟨hk,rfl⟩:=TC hd
  rw[Int.zero_add];exact hs k δ ∅ hI
def aQ{os:ZI}(h:bO body (ds.map some++List.replicate (m0-ds.length) none) (λ_=>False) (λ_=>False) (λ_=>False) λr δ=>r=d/\fU δ ps=some os):aP m0 ps rm body ds=.ok d (os.map some):=by
 let⟨fl,δ1,e,q⟩:=h.ex;cases fl with
 |ret r=>
  let⟨rfl,ho⟩:=q;unfold aP;rw[e];dsimp only;rw[ho]
 |next=>sleep 5
 |brk=>sleep 5
 |cont=>sleep 5
end
end L2
namespace L2
open PySem PySem.Spec PyProof.Rows
section
variable {X:Cx}{Z:b8}{ow:ZH}{h k:M D}{F H:Hp}{σ:St}{δ:DS}{K:ZC}
def xI:M Fl:=λ_=>.stuck
def Ś(set:D->DS->Option DS)(f:M D):M Fl:=λδ=>(f δ).bind λd δ1=>match set d δ1 with
 |some δ2=>.ok .next δ2
 |none=>.stuck
def bH.int_at:∀{ns:ZK}{us:ZJ}{i:Nat}{u:Value},bH (ns.map V.int) us->us[i]?=some u->∃m t,ns[i]?=some m/\u=.int m t
 |[],_,i,u,.nil,h=>by simp at h
 |m::ns,_,0,u,.cons r rr,h=>by
  let⟨t,rfl⟩:=r;cases h;exact⟨m,t,rfl,rfl⟩
 |m::ns,_,i+1,u,.cons r rr,h=>by
  let⟨m',t,h1,h2⟩:=bH.int_at (i:=i) rr (by simpa using h);exact⟨m',t,by simpa using h1,h2⟩
def vJ{ns:ZK}:∀{j:Nat},j<=ns.length->preSum (λi=>ns.getD i 0) j=(ns.take j).sum
 |0,_=>rfl
 |j+1,h=>by
  show preSum (λi=>ns.getD i 0) j+ns.getD j 0=_;have e1:ns.getD j 0=ns[j]:=by rw[Ë,É 'q'];rfl
  have e2:ns.take (j+1)=ns.take j++[ns[j]]:=by rw[List.take_add_one,É 'q'];rfl
  rw[vJ (Nat.le_of_succ_le h),e1,e2,List.sum_append];simp![List.sum_cons,List.sum_nil,Int.add_zero]
def DB(hc:X.calm=true):fP X (.builtin "sum") (λxs H Q=>∃(p:Addr)(ns:ZK),xs=[.ref p]/\eK X.K H p (ns.map V.int)/\Q (.int ns.sum) H):=by
 intro U s σ H xs us Q I r h;let⟨p,ns,rfl,hq,q⟩:=h;let⟨u,rfl,rx⟩:=mU r;cases rx;let⟨its,rv,pl,hz⟩:=I.list hq;refine call_sum_walkAnyS (wpAny_pyIter_list pl.isList ?_);have hlen:=rv.length;rw[Å]at hlen;have hne:p≠s.heap.objs.size:=by
  let⟨o,n,e,_⟩:=pl;exact Ê 'r'
 sleep 6;let⟨its',rv',pl',_⟩:=ph.list hq;have e1:its=its':=by
  let⟨o,n,e,c,dn,d⟩:=pl;let⟨o',n',e',c',dn',d'⟩:=pl';have e'':=Heap.get?_push_of_some {cls:=.type "list_iterator",data:=.fields #[.ref p,.int 0 0]} e;rw[e'']at e';cases e';rw[d]at d';injection d' with d1 _;simpa using congrArg Array.toList d1
 subst e1;refine⟨s.heap.objs.size,_,_,_,_,_,_,λi=>ns.getD i 0,rfl,(Walks.list (A:=X.A.in1) (show X.A.in1.handled=none from I.ok.hd hc) s.heap.objs.size p hne its.toArray).toS,⟨⟨_,Heap.get?_push_size _ rfl,rfl,rfl⟩,pl'.isList⟩,λb hb=>?_,λi v hv=>?_,λs' t' mv=>?_⟩
 .have hb:b∈[s.heap.objs.size,p]:=hb
  have z:(s.heap.push {cls:=.type "list_iterator",data:=.fields #[.ref p,.int 0 0]}).objs.size=s.heap.objs.size+1:=by simp[Heap.push]
  show b<(s.heap.push _).objs.size;rw[z];simp![Ì,Ø,or_false]at hb;rcases hb with rfl|rfl
  .exact ç _
  .obtain⟨o,n,e,_⟩:=pl
   exact Nat.lt_succ_of_lt 'r'
 .have hv:its.toArray[i]?=some v:=hv
  let⟨m,t,hb,rfl⟩:=bH.int_at (i:=i) rv (by simpa using hv);refine⟨t,?_⟩;show _=Value.int (ns.getD i 0) t;rw[Ë,hb];rfl
 .have sz:its.toArray.size=ns.length:=by simp;exact Eq.symm ‹_›
  rw[sz,vJ (Ç _),List.take_length];let⟨h',g',d',t2,o'⟩:=s';obtain rfl:g'=s.gens:=mv.gens;obtain rfl:d'=s.drawn:=mv.drawn;obtain rfl:o'=s.os:=mv.os;have I2:=ph.turned (it:=s.heap.objs.size) (h':=h') (t':=t2) (λb o hb e=>mv.heap b o (by simpa using hb) e) (I.hok.fresh (Ç _)) (Û I.lt) (.inr I.sz) (λx c e=>by
   let⟨v,q⟩:=I.cell x c e;exact Ê q.lt) λp hp=>Ê (Heap.lt_size (I.pin p hp).1)
  exact⟨.int _,H,I2,⟨t',rfl⟩,q⟩
def cF:ZI->Option (ZK)
 |[]=>some []
 |.int i::r=>(cF r).map (i::·)
 |_=>none
def iX:cF (l.map .int)=some l:=by
 induction l with
 |nil=>rfl
 |cons a l ih=>show (cF (l.map .int)).map (a::·)=_;rw[ih];rfl
def gO:∀{ds:ZI}{bs:ZK}{vs:List V},cF ds=some bs->aE K F ds vs->vs=bs.map V.int
 |[],bs,vs,h,r=>by
  cases h;unfold aE at r;rw[r];rfl
 |d::ds,bs,vs,h,r=>by
  unfold aE at r;let⟨x,rest,rfl,rx,r⟩:=r;cases d with
  |int b=>
   have h:(cF ds).map (b::·)=some bs:=h;cases e:cF ds with
   |none=>rw[e]at h;cases h
   |some bs'=>
    rw[e]at h;cases h;rw[hW rx,gO e r];rfl
  |_=>cases h
def Z1:ZI->ZL
 |[.list ds]=>(cF ds).map λbs=>.int bs.sum
 |_=>none
def aF0:Y5 X (λxs H Q=>∃(p:Addr)(ns:ZK),xs=[.ref p]/\eK X.K H p (ns.map V.int)/\Q (.int ns.sum) H) 0 Z1:=λZ ow F H σ δ ds vs d Q S R ra e q=>by
 unfold Z1 at e;split at e
 .rename_i ds'
  cases e1:cF ds' with
  |none=>rw[e1]at e;cases e
  |some bs=>
   rw[e1]at e;cases e;let⟨v,rfl,r⟩:=xG ra;let⟨p,xs,rfl,hp,hr⟩:=j8 r;rw[gO e1 hr]at hp;exact⟨p,bs,rfl,R.sub.seq hp,q _ H F (R.x fW) 'k'⟩
 .cases e
def EY:D->Option V
 |.int i=>some (.int i)
 |.bool b=>some (.bl b)
 |.str z=>some (.str z)
 |.none=>some .non
 |_=>none
def J6:ZI->Option (List V)
 |[]=>some []
 |d::ds=>match EY d,J6 ds with
  |some v,some vs=>some (v::vs)
  |_,_=>none
def v8(h:EY d=some v)(r:bI K F d x):x=v/\pG v=true:=by
 cases d with
 |int i=>cases h;exact⟨hW r,rfl⟩
 |bool b=>cases h;exact⟨kU r,rfl⟩
 |str z=>cases h;exact⟨hZ r,rfl⟩
 |none=>cases h;unfold bI at r;exact⟨r,rfl⟩
 |_=>cases h
def xJ:∀{ds:ZI}{vs xs:List V},J6 ds=some vs->aE K F ds xs->xs=vs/\vs.all pG=true
 |[],vs,xs,h,r=>by
  cases h;unfold aE at r;exact⟨r,rfl⟩
 |d::ds,vs,xs,h,r=>by
  unfold aE at r;let⟨x,rest,rfl,rx,r⟩:=r;unfold J6 at h;split at h
  .rename_i v vs' e1 e2
   cases h;let⟨rfl,f1⟩:=v8 e1 rx;let⟨rfl,f2⟩:=xJ e2 r;exact⟨rfl,by rw[List.all_cons,f1,f2];rfl⟩
  .cases h
def ħ(neg:Bool):D->D->ZL
 |a,.list ds=>match EY a,J6 ds with
  |some x,some xs=>some (.bool (if neg then !ď x xs else ď x xs))
  |_,_=>none
 |a,.tuple ds=>match EY a,J6 ds with
  |some x,some xs=>some (.bool (if neg then !ď x xs else ď x xs))
  |_,_=>none
 |_,_=>none
def aF1:mR X (Ÿ X.K neg) 0 (ħ neg):=λZ ow F H σ δ a b x y d Q S R ra rb e q=>by
 unfold ħ at e;split at e
 .split at e
  .rename_i v vs e1 e2
   cases e;let⟨p,xs,rfl,hp,hr⟩:=j8 rb;let⟨rfl,f1⟩:=v8 e1 ra;let⟨rfl,f2⟩:=xJ e2 hr;exact⟨p,_,rfl,.inl (R.sub.seq hp),f1,f2,q _ H F (R.x gN) 'k'⟩
  .cases e
 .split at e
  .rename_i v vs e1 e2
   cases e;let⟨p,xs,rfl,hp,hr⟩:=CW rb;let⟨rfl,f1⟩:=v8 e1 ra;let⟨rfl,f2⟩:=xJ e2 hr;exact⟨p,_,rfl,.inr (R.sub.seqT hp),f1,f2,q _ H F (R.x gN) 'k'⟩
  .cases e
 .cases e
def xK{k:Nat}(S:aO Z ow):∀(is:ZH)(t:RF),(∀i∈is,i<k/\i∉Z.ps/\i<ow.length/\ow.getD i 0=0)->t=is.foldr (λi u=>E4 (pE i) u) RH ->
  ∀(F H:Hp)(σ:St)(δ δ':DS)(ds:ZI)(vs:List V)(Q:St->Hp->Prop),cM X.K Z ow F H σ δ->aE X.K F ds vs->ds.length=is.length ->
   (is.zip ds).foldl (λ(o:Option DS)(p:Nat×D)=>o.bind λδ=>eO p.1 p.2 δ) (some δ)=some δ'->(∀σ',cM X.K Z ow F H σ' δ'->σ'.length=σ.length->δ'.length=δ.length->(∀i,σ'[i+k]?=σ[i+k]?)->Q σ' H)->t vs σ H Q
 |[],t,hi,ht,F,H,σ,δ,δ',ds,vs,Q,R,ra,hl,e,q=>by
  subst ht;cases ds with
  |cons _ _=>simp at hl
  |nil=>
   unfold aE at ra;cases e;exact⟨ra,q σ R rfl rfl λ_=>rfl⟩
 |i::is,t,hi,ht,F,H,σ,δ,δ',ds,vs,Q,R,ra,hl,e,q=>by
  subst ht;cases ds with
  |nil=>simp at hl
  |cons d ds=>
   unfold aE at ra;let⟨x,rest,rfl,rx,r⟩:=ra;rw[à,List.foldl_cons]at e;cases e1:eO i d δ with
   |none=>
    rw[show ((some δ:Option DS).bind λδ=>eO (i,d).1 (i,d).2 δ)=none from e1]at e;have:∀l:List (Nat×D),l.foldl (λ(o:Option DS)(p:Nat×D)=>o.bind λδ=>eO p.1 p.2 δ) none=none:=λl=>by induction l with|nil=>rfl|cons a l ih=>exact ih
    rw[this]at e;cases e
   |some δ1=>
    rw[show ((some δ:Option DS).bind λδ=>eO (i,d).1 (i,d).2 δ)=some δ1 from e1]at e;let⟨h0,h1,h2,h3⟩:=hi i Ô;refine⟨x,rest,rfl,m7 S h0 h1 h2 h3 F H σ δ δ1 d x _ R rx e1 λσ' R' l1 l2 l3=>?_⟩;exact xK S is _ (λj hj=>hi j (Ò _ hj)) rfl F H σ' δ1 δ' ds rest Q R' r (by simpa using hl) e λσ2 R2 m1 m2 m3=>q σ2 R2 (m1.trans l1) (m2.trans l2) λj=>(m3 j).trans (l3 j)
def rS{k:Nat}(S:aO Z ow)(hi:∀i∈is,i<k/\i∉Z.ps/\i<ow.length/\ow.getD i 0=0)(ht:t=is.foldr (λi u=>E4 (pE i) u) RH):ZT X Z ow k (Ņ X.K is.length t) (t0 is):=λF H σ δ δ' d v Q R r e q=>by
 unfold t0 at e;cases d with
 |tuple ds=>
  dsimp only at e;split at e
  .rename_i hl
   unfold bI at r;let⟨a,xs,rfl,hq,ra⟩:=r;exact⟨a,xs,rfl,R.sub.seqT hq,by rw[<- ra.len];exact hl,xK S is t hi ht F H σ δ δ' ds xs Q R ra hl e q⟩
  .cases e
 |_=>cases e
end
section
def aOC:ZI->ZI->Option (D×ZI)
 |ds,[.int i,d]=>if 0<=i/\i<2^62/\ds.length<sizeLine then some (.none,ds.take i.toNat++[d]++ds.drop i.toNat)else none
 |_,_=>none
def DC(l:Addr)(items:Array Value)(n:Nat)(b:Addr)(fH:Array Value)(n2:Nat)(sl2:Array (ZN))(hc0:¬(!items.isEmpty && Builtin.List.listTooLong (items.size+fH.size))=true)(hc1:items.size<=sizeLine)(hs2:items.size+fH.size<=sizeLine+1):
  Meets (Builtin.«list.extend» ⟨[.ref l,.ref b],[]⟩) (λ_ R s=>s.heap.get? l=some {cls:=.type "list",dict:=none,data:=.seq items n,slots:=#[]}/\s.heap.get? b=some ⟨.type "list",none,.seq fH n2,sl2⟩/\R (.ok (.ret Value.none)) {s with heap:=s.heap.update l (Obj.mapSeq λx=>x++fH),toks:=s.toks}):=
 .of_wp λprog w A R s h=>by
  let⟨hp,g,d,tk,os⟩:=s;let⟨hl,hb,h⟩:=h;have f1:=PySem.AutoSeq1.idx_int;have f2:=PySem.AutoSeq1.sub_tuple_tuple;have f3:=PySem.AutoSeq1.sub_list_list;have f4:=PySem.AutoSeq1.sub_tuple_list;have f5:=PySem.AutoSeq1.sub_list_tuple;have hz':(items++fH).size<=sizeLine+1:=by rw[Array.size_append];exact hs2
  wp_walk using (wpAny_updateSeq hl rfl (hz:=hc1) (_hz':=hz')),PySem.AutoSeq1.wpAny_loadPart' hl,PySem.AutoSeq1.wpAny_loadPart' hb
  exact⟨_,rfl,h⟩
def Θ(K:ZC):V->List V->Hp->VK->Prop:=λx vs H Q=>∃l b xs zs,x=.ref l/\vs=[.ref b]/\H l=some (.lst xs)/\eK K H b zs/\xs.length+zs.length<=sizeLine/\Q .non (aX H l (.lst (xs++zs)))
def rT:Ŏ X "list.extend" (Θ X.K):=by
 intro U s σ H x vs v us Q I rx rv h;let⟨l,b,xs,zs,rfl,rfl,hH,hB,hz,q⟩:=h;cases rx;let⟨u,rfl,ru⟩:=rv.one;cases ru;let⟨z,its,n,r,hl,e⟩:=I.lstM hH;let⟨its2,r2,⟨o2,n2,e2,c2,dn2,dd2⟩,z2⟩:=I.list hB;let⟨oc2,od2,oda2,osl2⟩:=o2;cases c2;cases dn2;cases dd2;have hl2:=r2.length;have hsz:its.toArray.size+its2.toArray.size<=sizeLine:=by rw[ë,ë];lia
 have hlong:¬(!its.toArray.isEmpty && Builtin.List.listTooLong (its.toArray.size+its2.toArray.size))=true:=by
  rw[SA hsz,Bool.and_false];exact Þ
 refine call_meets F.slot_list_extend ⟨_,e,rfl⟩ F.entry_list_extend (F.args_list_extend_2 _ _)
  (DC l its.toArray n b its2.toArray n2 osl2 hlong (by rw[ë];lia) (by exact Nat.le_succ_of_le ‹_›)) ⟨e,e2,?_⟩
 refine⟨.non,_,I.lset (its':=its++its2) hH e 'e' (r.append r2) ?_,rfl,q⟩;rw[Ñ];assumption
def TL:ZI->ZI->Option (D×ZI)
 |ds,[.list zs]=>if ds.length+zs.length<=sizeLine then some (.none,ds++zs)else none
 |_,_=>none
def iY:FP X (Θ X.K) TL:=λF H l xs vs ds args ret ds' hl hs h1 h2 e=>by
 unfold TL at e;split at e
 .rename_i zs
  split at e
  .rename_i hlt
   cases e;let⟨v,rfl,r⟩:=xG h2;let⟨p,ys,rfl,hp,hr⟩:=j8 r;exact⟨xs++ys,.non,h1.app hr,CU,λQ q=>⟨l,p,xs,ys,rfl,rfl,hl,hs.seq hp,by rw[<- h1.len,<- hr.len];exact hlt,q⟩⟩
  .cases e
 .cases e
end
section
variable {X:Cx}{Z:b8}{ow ol ox:ZH}{rm:Nat}{pos pos' p1 p2:Pos}{e:Expr}{x y:Str}{f:M (ZI)}{u:M Fl}{sts:List Stmt}
def iP(i:Nat)(hN:X.N.Nodup)(hi:DI X Z ow (.Name x pos') e f)(hb:zT X Z ow ow ow ox rm sts u)(hp:PassesOwn 'b' X.A X.env X.xe:=by exact PassesOwn.leaving)(hc:↥(X.calm=true))(hx:↥'s')(hl:#v[č X.env.scope x])(hfn:#v[X.fn x=true\/X.env.scope.names.lookup x=some .local])(ok:↥((decide (ow.length<=1000) && !Z.ps.contains 1000 && !Z.ps.contains i && decide (i<ow.length) && (ow.getD i 0 == 0))=true))(hf: ~~~(Zfi e X.env)):AW X Z ow ow ol ox rm (.For (.Name x pos') e sts [] pos) (mJ (eO i) f u):=by
 simp![â,Bool.not_eq_true',decide_eq_true_eq,beq_iff_eq]at ok;exact MD hp hc hi (cW hN hx hl hfn) (L7 ⟨ok.1.1.1.1,dG ok.1.1.1.2⟩ (dG ok.1.1.2) ok.1.2 ok.2) hb hf
def eJ(i j:Nat)(hN:X.N.Nodup)(hi:DI X Z ow (.Tuple [.Name x p1,.Name y p2] k pos') e f)(hb:zT X Z ow ow ow ox rm sts u)(hp:PassesOwn 'b' X.A X.env X.xe:=by exact PassesOwn.leaving)(hc:↥(X.calm=true))(hx:↥'s')(hy:↥(X.N[j]?=some y))(hl:#v[č X.env.scope x])(hm:#v[č X.env.scope y])(hfn:#v[X.fn x=true\/X.env.scope.names.lookup x=some .local])(hfm:#v[X.fn y=true\/X.env.scope.names.lookup y=some .local])(ok:↥((decide (ow.length<=1000) && !Z.ps.contains 1000 && [i,j].all λi=>!Z.ps.contains i && decide (i<ow.length) && (ow.getD i 0 == 0))=true))(hf: ~~~(Zfi e X.env)):AW X Z ow ow ol ox rm (.For (.Tuple [.Name x p1,.Name y p2] k pos') e sts [] pos) (mJ (t0 [i,j]) f u):=by
 simp![â,Bool.not_eq_true',decide_eq_true_eq,beq_iff_eq,æ]at ok;exact MD hp hc hi (tO hc (dZ (cW hN hx hl hfn) (dZ (cW hN hy hm hfm) n9))) (aFG (is:=[i,j]) ⟨ok.1.1,dG ok.1.2⟩ (λi hi=>⟨dG (ok.2 i hi).1.1,(ok.2 i hi).1.2,(ok.2 i hi).2⟩) rfl) hb hf
end
section
variable {X:Cx}{Z:b8}{ow ol ox:ZH}{rm:Nat}{pos p1:Pos}{elt iter:Expr}{ifs:List Expr}{scope:Scope}{x:Str}{fi:M (ZI)}{t:M Bool}{fe:M D}
abbrev ĸ(Z:b8)(ow:ZH)(n:Nat):Bool:=decide (ow.length<=1000) && !Z.ps.contains 1000 && decide ((List.replicate n 0++ow).length<=1000) && !(Z.sh n).ps.contains 1000 && (List.range n).all λi=>!(Z.sh n).ps.contains i
def iZ(x:Str)(hi:DI X Z ow (.Name x p1) iter fi)(hif:∀C fp s H,Q7 (aT X [x] scope C fp s H) ifs (tT (aT X [x] scope C fp s H) (Z.sh 1) (List.replicate 1 0++ow) t))(he:∀C fp s H,DE (aT X [x] scope C fp s H) (Z.sh 1) (List.replicate 1 0++ow) 0 elt fe)(nd:↥(decide ([x]++mW [x] X.N).Nodup=true))(hc:↥(X.calm=true))(ok:↥(ĸ Z ow 1=true))(hl:∀C fp s H,(aT X [x] scope C fp s H).env.scope.names.lookup x=some .local:=by intro _ _ _ _;rfl)(hk:↥(scope.kind=.function))(hok:↥(dY X.N [x] scope.names X.env.scope.names=true))(hfs: ~~~(Zfi iter X.env)):
  DE X Z ow 1 (.ListComp elt [⟨.Name x p1,iter,ifs,0⟩] scope pos) (d9 1 (eO 0) fi t fe):=by
 simp![ĸ,â,Bool.not_eq_true',decide_eq_true_eq,æ,List.mem_range]at ok;exact rQ (xs:=[x]) ⟨ok.1.1.1.1,dG ok.1.1.1.2⟩ ⟨ok.1.1.2,dG ok.1.2⟩ hc hi (λC fp s H=>cW (i:=0) (of_decide_eq_true nd) rfl (Or.inl (hl C fp s H)) (Or.inr (hl C fp s H))) (m7 ⟨ok.1.1.2,dG ok.1.2⟩ (ý _) (dG (ok.2 0 ⋯)) (ý _) rfl) hif he hk hok hfs
def c7(i:Nat)(x:Str){z:Str}{pos' spos:Pos}(hN:X.N.Nodup)(hi:DI X Z ow (.Name x p1) iter fi)(hif:∀C fp s H,Q7 (aT X [x] scope C fp s H) ifs (tT (aT X [x] scope C fp s H) (Z.sh 1) (List.replicate 1 0++ow) t))(he:∀C fp s H,DE (aT X [x] scope C fp s H) (Z.sh 1) (List.replicate 1 0++ow) 0 elt fe)(nd:↥(decide ([x]++mW [x] X.N).Nodup=true))(hc:↥(X.calm=true))(ok:↥(ĸ Z ow 1=true))(hl:∀C fp s H,(aT X [x] scope C fp s H).env.scope.names.lookup x=some .local:=by intro _ _ _ _;rfl)(hx:↥(X.N[i]?=some z))(hz:↥(X.env.scope.names.lookup z=some .local))(hps:↥(Z.ps.contains i=false))(hlo:⇑(i<ow.length))(hsw:↥(swapsWith (.ListComp elt [⟨.Name x p1,iter,ifs,0⟩] scope pos) (some (.Name z pos')) spos.line X.env=pure true))(hk:↥(scope.kind=.function))(hok:↥(dY X.N [x] scope.names X.env.scope.names=true))(hfs: ~~~(Zfi iter X.env)):
  AW X Z ow (ow.set i 1) ol ox rm (.Assign [.Name z pos'] (.ListComp elt [⟨.Name x p1,iter,ifs,0⟩] scope pos) spos) (eQ i (d9 1 (eO 0) fi t fe)):=by
 simp![ĸ,â,Bool.not_eq_true',decide_eq_true_eq,æ,List.mem_range]at ok;exact lV i (xs:=[x]) ⟨ok.1.1.1.1,dG ok.1.1.1.2⟩ ⟨ok.1.1.2,dG ok.1.2⟩ hc hN hi (λC fp s H=>cW (i:=0) (of_decide_eq_true nd) rfl (Or.inl (hl C fp s H)) (Or.inr (hl C fp s H))) (m7 ⟨ok.1.1.2,dG ok.1.2⟩ (ý _) (dG (ok.2 0 ⋯)) (ý _) rfl) hif he hx hz hps hlo hsw hk hok hfs
end
section
variable {K:ZC}{X:Cx}{Z:b8}{ow:ZH}{n:Nat}{pos:Pos}{F H H':Hp}{σ:St}{δ:DS}{g:ZP}
def IZ(g:ZP)(F H:Hp):Hp:=λb=>open Classical in if ∃l,g b=some l then (if F b=none then H b else F b)else F b
def F7:aL F (IZ g F H):=λb o e=>by
 unfold IZ;split
 .rw[Â (by rw[e];simp)];exact e
 .exact e
def Z2(hs:aL F H):aL (IZ g F H) H:=λb o e=>by
 unfold IZ at e;split at e
 .split at e
  .exact e
  .exact hs b o e
 .exact hs b o e
def bD.freezeA(r:bD K F H g i n p d v):bI K (IZ g F H) d v:=
 iN.froze F7 (λa p o e1 e2 e3=>by unfold IZ;rw[Á ⟨_,e1⟩,Á e3];exact e2) r
def cA.grow(R:cA K Z ow g F H σ δ)(h:aL H H'):cA K Z ow g F H' σ δ:=
 ⟨R.sub.trans' h,R.f0,λb o n e=>h b o (R.kept b o n e),R.new,λb z=>by
  cases e:H b with
  |none=>exact absurd e (R.there b z)
  |some o=>rw[h b o e];simp,R.lab,R.len,R.par,λi d e=>by
  let⟨v,e1,o⟩:=R.slot i d e;exact⟨v,e1,o.mono (λ_ _ z=>z) (λ_ _ _ z=>z) (λ_ _ _ _ z=>z) λa l ob _ _ z=>h a ob z⟩⟩
def TM(h:EY d=some x)(r:bI K F d v):bI K F' d v:=by
 let⟨rfl,_⟩:=v8 h r;cases d with
 |int i=>cases h;exact fW
 |bool b=>cases h;exact gN
 |str z=>cases h;exact MA
 |none=>cases h;exact CU
 |_=>cases h
def i5(F H:Hp)(σ:St)(m:Nat):b8:=⟨F,H,λ_=>none,[],σ,List.replicate m 0,λ_ _ _ e=>by cases e⟩
def lW:'j'.getD i 0=0:=by
 rw[Ë,ā];split<;>rfl
def cA.bor(R:cA K Z ow g F H σ δ):cM K (i5 (IZ g F H) H σ m) 'j' (IZ g F H) H σ δ:=
 ⟨λ_=>none,Z2 R.sub,⟨R.f0.lm.mono F7,λ_ _ z=>z⟩,λ_ _ _ e=>e,λ_ h _=>h,λ_ h=>h,λ_ _ _ e=>(by cases e),R.len,λi hi=>(by cases hi),λi d e=>by
  let⟨v,e1,o⟩:=R.slot i d e;refine⟨v,e1,?_⟩;rw[lW];exact o.freezeA⟩
def F8(f:M D):M D:=λδ=>match f δ with
 |.ok d _=>(match EY d with|some _=>.ok d δ|none=>.stuck)
 |_=>.stuck
def A8(f:M Bool):M Bool:=λδ=>match f δ with
 |.ok b _=>.ok b δ
 |_=>.stuck
def nA(m:Nat)(h:∀F H σ,DE X (i5 F H σ m) 'j' 0 e f):DE X Z ow 0 e (F8 f):=λU s σ H Q I q=>by
 let⟨F,δ,⟨g,R⟩,q⟩:=q;unfold F8 at q;refine h (IZ g F H) H σ U s σ H Q I ⟨IZ g F H,δ,R.bor,?_⟩;cases e1:f δ with
 |stuck=>rw[e1]at q;sleep 5
 |err x δ1=>rw[e1]at q;sleep 5
 |ok d δ1=>
  rw[e1]at q;dsimp only at q;cases e2:EY d with
  |none=>rw[e2]at q;sleep 5
  |some x=>
   rw[e2]at q;rintro v H' F' ⟨g',R',o⟩ s';exact q v H' F ⟨g,R.grow λb o e=>R'.kept b o rfl e,TM e2 o⟩ λ_ _ z=>z
def J7(m:Nat)(h:∀F H σ,DT X (i5 F H σ m) 'j' e f):DT X Z ow e (A8 f):=λU s σ H Q I q=>by
 let⟨F,δ,⟨g,R⟩,q⟩:=q;unfold A8 at q;refine h (IZ g F H) H σ U s σ H Q I ⟨IZ g F H,δ,R.bor,?_⟩;cases e1:f δ with
 |stuck=>rw[e1]at q;sleep 5
 |err x δ1=>rw[e1]at q;sleep 5
 |ok d δ1=>
  rw[e1]at q;rintro H' F' ⟨g',R'⟩ s';exact q H' F ⟨g,R.grow λb o e=>R'.kept b o rfl e⟩ λ_ _ z=>z
def Z3(i:Nat)(lo hi:Option (M D)):M D:=λδ=>match δ[i]? with
 |some (some _)=>(kB lo δ).bind λl δ1=>(kB hi δ1).bind λu δ2=>(match δ2[i]? with
  |some (some (.list ds))=>.ok (.list (FV ds l u)) δ2
  |_=>.stuck)
 |_=>.stuck
def TN(i:Nat){x:Str}{p p2:Pos}{lo hi:Option Expr}(S:aO Z ow)(hl:DO X Z ow lo fl)(hu:DO X Z ow hi fh)(ho:↥(ow.getD i 0=1))(hN:↥'s')(hv:#v[zS X.env.scope x])(hd:⇑(Zdb x))(hcd:⇑(Zcd x)):
  DE X Z ow 1 (.Subscript 'g' (.Slice lo hi none p2) pos) (Z3 i fl fh):=PE.mono (E9 v4 (dA hN hv hd hcd) hl hu) λσ H Q q=>by
 let⟨F,δ,R,q⟩:=q;unfold Z3 at q;cases e0:δ[i]? with
 |none=>rw[e0]at q;sleep 5
 |some o=>
  cases o with
  |none=>rw[e0]at q;sleep 5
  |some d0=>
   rw[e0]at q;dsimp only at q;let⟨a,ds0,vs0,q1,q2,q3,q4⟩:=R.ownAt ho e0;refine⟨_,q2,F,δ,R,?_⟩;cases e1:kB fl δ with
   |stuck=>rw[e1]at q;sleep 5
   |err y δ2=>rw[e1]at q;exact q
   |ok l δ1=>
    rw[e1]at q;simp![Res.bind]at q;intro H1 F1 R1 s1;refine⟨F1,δ1,R1,?_⟩;cases e2:kB fh δ1 with
    |stuck=>rw[e2]at q;sleep 5
    |err y δ2=>rw[e2]at q;exact iV.mono q s1
    |ok u δ2=>
     rw[e2]at q;simp![Res.bind]at q;intro H2 F2 R2 s2;cases e3:δ2[i]? with
     |none=>rw[e3]at q;sleep 5
     |some o=>
      cases o with
      |none=>rw[e3]at q;sleep 5
      |some d1=>
       rw[e3]at q;let⟨a',ds1,vs1,p1,p2,p3,p4⟩:=R2.ownAt ho e3;rw[q2]at p2;cases p2;subst p1;exact⟨a,vs1,rfl,eK.of p3,λt ht=>q _ _ F2 (R2.newList S ht (p4.cut l u)) (s1.trans' s2)⟩
end
theorem exO{f:_->_->_->Bool}{o:Option Obj}(q:W.excIn.match_6 (λ_=>Bool) o f (λ_=>false)=true)(n:∀a c s,o=some ⟨.type "type",a,.cls c,s⟩->f a c s≠true):False:=by
 rcases o with _|⟨c,d,d1,s⟩
 .exact nomatch q
 cases c with
 |type m=>
  by_cases e:m="type"
  .subst e;cases d1<;>try exact Bool.false_ne_true q
   exact n _ _ _ rfl q
  .delta W.excIn.match_6 W.nsOkIn._sparseCasesOn_4 W.excIn._sparseCasesOn_6 at q;dsimp only at q;rw[dif_neg e]at q;cases q
 |_=>exact Bool.false_ne_true q
theorem exL{f:_->_->_->_->_->_->_->_->Bool}{l:List Value}{k:List (Option Value)}(q:W.excIn.match_1 (λ_ _=>Bool) l k f (λ_ _=>false)=true)(n:∀c m a b d e g i,l=.ref c::m->k=[a,b,d,e,some (.builtin g),i]->f c m a b d e g i≠true):False:=by
 rcases l with _|⟨v,l⟩
 .exact nomatch q
 cases v<;>try exact Bool.false_ne_true q
 rcases k with _|⟨a,_|⟨b,_|⟨d,_|⟨e,_|⟨_|g,k⟩⟩⟩⟩⟩<;>try exact Bool.false_ne_true q
 cases g<;>try exact Bool.false_ne_true q
 rcases k with _|⟨i,_|⟨_,k⟩⟩<;>try exact Bool.false_ne_true q
 exact n _ _ _ _ _ _ _ _ rfl rfl q
theorem PB{K:ZC}(X:K.In h)(q:W.excIn K C bmB newId=true){P:Prop}(w:∀bm N nm q bs hdct sn sub ab col dd k0 k1 k2 k3 k5 mN,h.get? C=some (excClassObj nm q C N bs bm hdct sn sub ab col dd k0 k1 k2 k3 k5 newId)->h.Ns N mN->mN "__init__"=none->OwnTail h bmB bm->P):P:=by
 refine Classical.byContradiction λw1=>exO q λdd cd sl ho q=>exL q λC' bm k0 k1 k2 k3 n k5 hm hs q=>w1 ?_;simp![â,beq_iff_eq,Bool.not_eq_true']at q;let⟨⟨⟨⟨⟨rfl,rfl⟩,hdel⟩,ht⟩,hok⟩,hni⟩:=q;let⟨nm,bs,mro,ns,qn,hd,sn,sub,ab,col,del⟩:=cd;let⟨l⟩:=sl;cases hm;cases hs;cases hdel;exact w bm ns nm qn bs hd sn sub ab col dd k0 k1 k2 k3 k5 _ (X _ _ ho) (.of_isNs (W.isNs_of_in X hok)) (W.nsMap_none_of_in X hok hni) (W.tail_of_in X ht)
section
variable {X:Cx}{Z:b8}{ow ow' ol ox:ZH}{rm:Nat}{pos np cpos:Pos}{e:Expr}{es:List Expr}{x:Str}{C:Addr}{B newId initId:String}{bmB:ZJ}{fs:List (M D)}
def kC(x:Str)(fs:List (M D)):M Fl:=λδ=>(aZ fs δ).bind λds δ1=>if ds.length<=1000 then .err (.str x) δ1 else .stuck
def fZ(S:aO Z ow)(FB:ExcBaseFacts B newId initId bmB)(hg:Gl X x)(hns:W.nsIn X.K mainGlobals x=some (some (.ref C)))(hmg:X.mg x=some (.ref C))(hC:W.excIn X.K C bmB newId=true)(hc:X.calm=true)(ha:DV X Z ow (e::es) fs)(hz:↥(X6 Z=true))(hdb:⇑(Zdb x))(he:↥(Zse e es X.env))(hpl:↥(Zbt cpos es X.env)):
  AW X Z ow ow' ol ox rm (.Raise (some (.Call (.Name x np) (e::es) [] cpos)) none pos) (kC x fs):=λU s σ H Dn I h=>by
 let⟨F,δ,R,h⟩:=h;unfold kC at h;refine PB I.ok.mod.kin hC λtl N nm q bs hdct sn sub ab col dd k0 k1 k2 k3 k5 mN hC0 hN hni T=>?_;refine wpAny_Raise_call_subT (C:=C) (nm:=nm) (q:=q) (N:=N) (bs:=bs) (bm:=tl) (hdct:=hdct) (sn:=sn) (sub:=sub) (ab:=ab) (col:=col) (dd:=dd) (k0:=k0) (k1:=k1) (k2:=k2) (k3:=k3) (k5:=k5)
  FB (mN:=mN) (T.hasType FB.hasBase) (I.ok.hd hc) (by rw[he];show (false || (backTo cpos (starEach es X.env)).any (·.1))=false;rw[hpl];rfl) hni (lH I hg hmg ⟨rfl,?_⟩ hdb)
 have hA:=ha cpos U s σ H (λvs H1=>vs.length<=1000/\∃F1 δ1,cM X.K Z ow F1 H1 σ δ1/\iV X Z ox F1 (.str x) δ1) I ⟨F,δ,R,?_⟩
 .rw[he]at hA⊢
  refine Calls.evalArgs_plain (wpAny_mono hA (λus s₂ h₂=>?_) λ_ _ y=>y);let⟨vs,H1,I1,r,hl,F1,δ1,R1,xo⟩:=h₂;refine⟨rfl,?_,I1.bk _ _ hC0,hN.keeps I1.bk,T.keeps I1.bk,λh' ea m=>?_⟩
  .show us.length<=sizeLine
   rw[<- r.length];exact Õ hl ⋯
  .obtain⟨t,q1,q2,q3⟩:=m.there
   have I2:Inv X U σ H1 {s₂ with heap:=h'}:=I1.kept (t':=s₂.toks) m.keeps;let⟨F2,s2,R2⟩:=R1.toP hz;refine xo.out U _ _ ⟨x,H1,F2,σ,rfl,I2,R2,s2,ea,.ref C,[ea],rfl,hns,⟨_,_,q1,⟨rfl,rfl⟩,rfl,(by show 1<6;decide),.inl ⟨rfl,rfl⟩⟩,λb hb=>?_⟩;simp![Ì,Ø,or_false]at hb;subst hb;exact pJ.of I1 (I1.hok.none m.new) m.new
 .cases e1:aZ fs δ with
  |stuck=>rw[e1]at h;exact h.elim
  |err y δ1=>rw[e1]at h;exact iV.cast h
  |ok ds δ1=>
   rw[e1]at h;simp![Res.bind]at h;intro vs H' F' R' s' ra;by_cases hl:ds.length<=1000
   .rw[Á hl]at h
    exact⟨by rw[<- ra.len];exact hl,F',δ1,R',iV.mono h s'⟩
   .rw[Â hl]at h;exact h.elim
end
section
variable {K:ZC}{Z:b8}{ow ow':ZH}{g:ZP}{F H F1 H1:Hp}{σ σ1:St}{δ δ1:DS}
def b8.sub(ps:ZH)(g:ZP)(F H:Hp)(σ:St)(ow:ZH):b8:=
 ⟨F,H,SI ps g,ps,σ,ow,λa i q e=>by
  unfold SI at e
  simp_all⟩
def cA.enter(R:cA K Z ow g F H σ δ)(h:∀i,i∉ps->ow.getD i 0=0):cA K (b8.sub ps g F H σ ow) ow (SI ps g) F H σ δ:=by
 refine⟨R.sub,⟨R.f0.lm,λ_ _ z=>z⟩,λ_ _ _ z=>z,λ_ z _=>z,λ_ z=>z,λa i p e=>.inr ⟨p,e⟩,R.len,λi _=>⟨rfl,rfl⟩,λi d e=>?_⟩;let⟨v,e1,o⟩:=R.slot i d e;refine⟨v,e1,?_⟩;by_cases hi:i∈ps
 .refine o.mono (λ_ _ z=>z) (λa l hl e=>?_) (λ_ _ _ _ z=>z) λ_ _ _ _ _ z=>z
  unfold SI;rw[Â]
  .exact e
  .rintro⟨j,p,e2,hj⟩
   rw[e]at e2;cases e2;exact hj (by rw[show j=i from hl];exact hi)
 .rw[h i hi]at o⊢
  exact o
def cA.leave(R:cA K Z ow g F H σ δ)(hps:∀i∈Z.ps,i∈ps)(R1:cA K (b8.sub ps g F H σ ow) ow' g1 F1 H1 σ1 δ1):cA K Z ow' g1 F1 H1 σ1 δ1:=by
 have gl:∀a i q,SI ps g a=some (i,q)->g a=some (i,q):=λa i q e=>by
  unfold SI at e
  simp_all
 refine⟨R1.sub,R.f0.trans' R1.f0.2,λb o n e=>R1.kept b o ?_ (R.kept b o n e),λa z1 z2=>R1.new a (R.new a z1 z2) (R.there a z2),λb z=>R1.there b (R.there b z),λa i p e=>?_,R1.len,λi hi=>?_,R1.slot⟩
 .show SI ps g b=none
  cases q:SI ps g b with
  |none=>rfl
  |some l=>
   let⟨i,p⟩:=l;rcases R.lab b i p (gl b i p q)with z|⟨q',z⟩
   all_goals grind
 .rcases R1.lab a i p e with z|⟨q,z⟩
  .refine .inl ?_
   cases q:Z.H0 a with
   |none=>rfl
   |some o=>exact absurd z (R.there a (by rw[q];simp))
  .exact R.lab a i q (gl a i q z)
 .obtain⟨p1,p2⟩:=R1.par i (hps i hi)
  let⟨p3,p4⟩:=R.par i hi;exact⟨p1.trans p3,p2.trans p4⟩
end
abbrev Cx.tryB(X:Cx)(pn:ZB)(E:ZA):Cx:={X with pn:=pn,xe:=E}
abbrev Cx.hand(X:Cx)(a:Addr):Cx:={X with A:=X.A.mark (some (.ref a)),calm:=false,xe:=λ_ _=>False}
section
variable {X:Cx}{U pins2 pn:ZB}{σ:St}{H:Hp}{s:Shared}{E:ZA}{a:Addr}{nm:Str}{e:Value}
def Inv.toB(I:Inv X U σ H s)(E:ZA):Inv (X.tryB (X.pn++U) E) [] σ H s:=
 ⟨⟨I.ok.mod,I.ok.kind,I.ok.glob,I.ok.blt,I.ok.above,I.ok.inj,I.ok.has,I.ok.cab,I.ok.hd,I.ok.frames,I.ok.stk,I.ok.exf,I.ok.bs,I.ok.bsz,I.ok.noex,I.ok.exfs,I.ok.funs,I.ok.frf⟩,I.os,I.bare,I.base,I.loc,I.cell,I.free,I.freeC,λp hp=>I.pin p (by rwa [ì]at hp),I.hok,I.len⟩
def Inv.ofB(I:Inv (X.tryB (X.pn++U) E) pins2 σ H s):Inv X U σ H s:=
 ⟨⟨I.ok.mod,I.ok.kind,I.ok.glob,I.ok.blt,I.ok.above,I.ok.inj,I.ok.has,I.ok.cab,I.ok.hd,I.ok.frames,I.ok.stk,I.ok.exf,I.ok.bs,I.ok.bsz,I.ok.noex,I.ok.exfs,I.ok.funs,I.ok.frf⟩,I.os,I.bare,I.base,I.loc,I.cell,I.free,I.freeC,λp hp=>I.pin p (ü _ hp),I.hok,I.len⟩
def SG.ofB(f:SG (X.tryB (X.pn++U) E) pins2 H s nm e):SG X U H s nm e:=by
 let⟨a,cls,ch,h1,h2,h3,h4⟩:=f;exact⟨a,cls,ch,h1,h2,h3,λb hb=>⟨(h4 b hb).un,(h4 b hb).new,(h4 b hb).fr,(h4 b hb).cell,λp hp=>(h4 b hb).pin p (ü _ hp)⟩⟩
def SP.ofB(h:SP (X.tryB (X.pn++U) E) [] Dn f s'):SP X U Dn f s':=by
 cases f with
 |next=>let⟨σ',H',I,q⟩:=h;exact⟨σ',H',I.ofB,q⟩
 |brk=>let⟨σ',H',I,q⟩:=h;exact⟨σ',H',I.ofB,q⟩
 |cont=>let⟨σ',H',I,q⟩:=h;exact⟨σ',H',I.ofB,q⟩
 |ret u=>let⟨v,σ',H',I,r,q⟩:=h;exact⟨v,σ',H',I.ofB,r,q⟩
def Inv.toH(I:Inv X U σ H s)(a:Addr):Inv (X.hand a) U σ H s:=
 ⟨⟨I.ok.mod,I.ok.kind,I.ok.glob,I.ok.blt,I.ok.above,I.ok.inj,I.ok.has,I.ok.cab,λz=>(by cases z),I.ok.frames,I.ok.stk,I.ok.exf,I.ok.bs,I.ok.bsz,I.ok.noex,I.ok.exfs,I.ok.funs,I.ok.frf⟩,I.os,I.bare,I.base,I.loc,I.cell,I.free,I.freeC,I.pin,I.hok,I.len⟩
def Inv.ofH{a:Addr}{hd:X.calm=true->X.A.handled=none}(I:Inv (X.hand a) U σ H s):Inv X U σ H s:=
 ⟨⟨I.ok.mod,I.ok.kind,I.ok.glob,I.ok.blt,I.ok.above,I.ok.inj,I.ok.has,I.ok.cab,hd,I.ok.frames,I.ok.stk,I.ok.exf,I.ok.bs,I.ok.bsz,I.ok.noex,I.ok.exfs,I.ok.funs,I.ok.frf⟩,I.os,I.bare,I.base,I.loc,I.cell,I.free,I.freeC,I.pin,I.hok,I.len⟩
def SP.ofH(hd:X.calm=true->X.A.handled=none)(h:SP (X.hand a) U Dn f s'):SP X U Dn f s':=by
 cases f with
 |next=>let⟨σ',H',I,q⟩:=h;exact⟨σ',H',I.ofH (hd:=hd),q⟩
 |brk=>let⟨σ',H',I,q⟩:=h;exact⟨σ',H',I.ofH (hd:=hd),q⟩
 |cont=>let⟨σ',H',I,q⟩:=h;exact⟨σ',H',I.ofH (hd:=hd),q⟩
 |ret u=>let⟨v,σ',H',I,r,q⟩:=h;exact⟨v,σ',H',I.ofH (hd:=hd),r,q⟩
def DH(X:Cx)(Z:b8)(ow ow' ol ox:ZH)(rm:Nat)(hs:List ExceptHandler)(u:Str->M Fl):Prop:=
 ∀(U:ZB)(s:Shared)(σ:St)(H:Hp)(Dn:vT)(nm:Str)(e:Value),Inv X U σ H s->SG X U H s nm e->tS X Z ow ow' ol ox rm (u nm) Dn σ H->wpAny 'b' X.A (handleBy e X.env hs) (SP X U Dn) X.xe s
def TQ:DH X Z ow ow' ol ox rm [] (λ_=>xI):=λU s σ H Dn nm e I fl h=>by
 let⟨F,δ,R,h⟩:=h;exact h.elim
def J8(u:M Fl)(hs:Str->M Fl):M Fl:=λδ=>match u δ with
 |.err (.str nm) δ1=>hs nm δ1
 |.err _ _=>.stuck
 |.ok fl δ1=>.ok fl δ1
 |.stuck=>.stuck
def SG.note(hst:X.stack=X.env::X.outer)(hfr:X.env.frame=some X.env.locals){Q:ZA}{E':ZA}(I:Inv X U σ H s)(f:SG X U H s nm e)(h:∀s',Inv X U σ H s'->SG X U H s' nm e->Q e s'):wpAny 'b' X.A (noteFrame e X.env) (λ_ s'=>wpAny 'b' X.A (setFlight e none) (λ_ s''=>Q e s'') E' s') E' s:=by
 let⟨a,cls,ch,rfl,hn,x,hc⟩:=f;have hf:=I.ok.frames;have hl:=I.stack;rw[hst]at hf hl;refine SF hf hl hfr x λh1 ch1 xt1 m1=>?_;rw[<- hst]at xt1;have I1:=I.xt xt1 hc;have hc1:∀b∈ch1,pJ X U H b:=λb hb=>by
  rcases m1.new x.mem b hb with m|⟨m0,_⟩
  .exact hc b m
  .exact pJ.of I (I.hok.none m0) m0
 refine rJ (fs:=vA X.stack) m1.exc λh2 xt2 x2=>?_;exact h _ (I1.xt xt2 hc1) ⟨a,cls,ch1,rfl,hn,x2,hc1⟩
def TR(ps:ZH)(hst:X.stack=X.env::X.outer)(hfr:X.env.frame=some X.env.locals)(hb:∀(K:ZA)(E1:ZA)(pn:ZB)(g:ZP)(F H:Hp)(σ:St),zT (X.tryB pn λe s'=>wpAny 'b' X.A (noteFrame e X.env) (λ_ s''=>K e s'') E1 s') (b8.sub ps g F H σ ow) ow ow' ol ox rm body u)(hh:DH X Z ow ow' ol ox rm (h0::hs) v)(hz:∀i,i∉ps->ow.getD i 0=0)(hps:∀i∈Z.ps,i∈ps):AW X Z ow ow' ol ox rm (.Try body (h0::hs) [] [] pos) (J8 u v):=λU s σ H Dn I h=>by
 let⟨F,δ,⟨g,R⟩,h⟩:=h;refine wpAny_Try_except ?_;have hB:=hb (λe s''=>wpAny 'b' X.A (setFlight e none) (λ_ s₃=>wpAny 'b' X.A (handleBy e X.env (h0::hs)) (SP X U Dn) X.xe s₃) X.xe s'') X.xe (X.pn++U) g F H σ [] s σ H Dn (I.toB _) ⟨F,δ,⟨_,R.enter hz⟩,?_⟩
 .refine wpAny_mono hB (λf s1 q=>?_) λe s1 q=>q
  have q:=SP.ofB q;cases f with
  |next=>
   let⟨σ',H',I',q⟩:=q;exact LR U s1 σ' H' Dn I' q
  |brk=>exact q
  |cont=>exact q
  |ret w=>exact q
 .unfold J8 at h
  cases e1:u δ with
  |stuck=>rw[e1]at h;exact h.elim
  |ok fl δ1=>
   rw[e1]at h;dsimp only at h;cases fl with
   |next=>exact λσ' H' F' R' s'=>h σ' H' F' (let ⟨g1,R1⟩:=R';⟨g1,R.leave hps R1⟩) s'
   |brk=>exact λσ' H' F' R' s'=>h σ' H' F' (let ⟨g1,R1⟩:=R';⟨g1,R.leave hps R1⟩) s'
   |cont=>exact λσ' H' F' R' s'=>h σ' H' F' (let ⟨g1,R1⟩:=R';⟨g1,R.leave hps R1⟩) s'
   |ret d=>exact λv σ' H' F' owr R' s'=>h v σ' H' F' owr (let ⟨g1,R1,o⟩:=R';⟨g1,R.leave hps R1,o⟩) s'
  |err x δ1=>
   rw[e1]at h;refine⟨λpins2 e s1 xp=>?_⟩;let⟨nm,H1,F1,σ1,rfl,I1,⟨g1,R1⟩,s2,fl⟩:=xp;have R2:cA X.K Z ow g1 F1 H1 σ1 δ1:=R.leave hps R1;exact SG.note (Q:=λe s'=>wpAny 'b' X.A (handleBy e X.env (h0::hs)) (SP X U Dn) X.xe s') hst hfr I1.ofB fl.ofB λs' I' fl'=>hh U s' σ1 H1 Dn nm e I' fl' ⟨F1,δ1,⟨g1,R2⟩,h.mono s2⟩
def PD(v:M Fl):M Fl:=λδ=>match v δ with
 |.err _ _=>.stuck
 |r=>r
def Z4(h:tS X Z ow ow' ol ox rm (PD v) Dn σ H)(a:Addr):tS (X.hand a) Z ow ow' ol ox rm v Dn σ H:=by
 let⟨F,δ,R,h⟩:=h;sleep 2;unfold PD at h;cases e:v δ with
 |stuck=>sleep 1
 |err x δ1=>sleep 1
 |ok fl δ1=>
  rw[e]at h;cases fl with
  |next=>exact h
  |brk=>exact h
  |cont=>exact h
  |ret d=>exact h
def nB(vX:Option Bool)(v u:M Fl):M Fl:=match vX with
 |some true=>PD v
 |some false=>u
 |none=>xI
def DD{vX:Str->Option Bool}(hg:Gl X c)(hmg:X.mg c=some (.ref C))(hA:∀nm r,vX nm=some r->∀cls,W.nsIn X.K mainGlobals nm=some (some cls)->W.exmOne X.K cls (.ref C)=some r)(hv:∀a,zT (X.hand a) Z ow ow' ol ox rm (b0::suite) v)(hu:DH X Z ow ow' ol ox rm hs u)(hdb:⇑(Zdb c)):
  DH X Z ow ow' ol ox rm (.ExceptHandler (some (.Name c np)) none (b0::suite) pos::hs) (λnm=>nB (vX nm) v (u nm)):=λU s σ H Dn nm e I fl h=>by
 let⟨a,cls,ch,rfl,hn,x,hc⟩:=id fl;have h:tS X Z ow ow' ol ox rm (nB (vX nm) v (u nm)) Dn σ H:=h;cases e1:vX nm with
 |none=>
  rw[e1]at h;let⟨F,δ,R,h⟩:=h;exact h.elim
 |some r=>
  rw[e1]at h;refine wpAny_handleBy_cons (codeAny_handlers_test (lH (X:=X.hand a) (I.toH a) hg hmg ?_ hdb)) (by intro q;cases q);let⟨oe,vs,he,⟨hcl,_⟩,hd,_⟩:=id x;have LT:W.Looks 'b' s.heap (typeOf (.ref a)) cls:=hcl▸(W.Looks.ld he).andThen .now;refine(W.exm_one (M:=model X.prog X.w) I.kIn LT (hA nm r e1 cls hn)).here ?_;cases r with
  |true=>
   refine codeAny_handlers_suite (rJ (fs:=vA X.stack) x λh2 xt2 x2=>?_);refine wpAny_mono (hv a U _ σ H Dn ((I.xt xt2 hc).toH a) ?_) (λf s1 q=>SP.ofH I.ok.hd q) λ_ _ z=>z.elim;exact Z4 h a
  |false=>exact hu U s σ H Dn nm _ I fl h
end
abbrev Cx.handA(X:Cx)(a:Addr)(oa:Obj):Cx:={X with A:=X.A.mark (some (.ref a)),calm:=false,pn:=(a,oa)::X.pn,xe:=λ_ _=>False}
section
variable {X:Cx}{pos:Pos}{U:ZB}{σ:St}{H:Hp}{s:Shared}{E:ZA}{a:Addr}{oa:Obj}
def Inv.toHA(I:Inv X U σ H s)(hp:s.heap.get? a=some oa/\H a=none/\a≠X.env.locals/\a∉X.fs/\∀v,oa.data≠.cell v):Inv (X.handA a oa) U σ H s:=
 ⟨⟨I.ok.mod,I.ok.kind,I.ok.glob,I.ok.blt,I.ok.above,I.ok.inj,I.ok.has,I.ok.cab,λz=>(by cases z),I.ok.frames,I.ok.stk,I.ok.exf,I.ok.bs,I.ok.bsz,I.ok.noex,I.ok.exfs,I.ok.funs,I.ok.frf⟩,I.os,I.bare,I.base,I.loc,I.cell,I.free,I.freeC,λq hq=>by
  rcases Ì.mp (show q∈(a,oa)::(X.pn++U)from hq)with z|z
  .subst z;exact hp
  .exact I.pin q z,I.hok,I.len⟩
def Inv.ofHA{hd:X.calm=true->X.A.handled=none}(I:Inv (X.handA a oa) U σ H s):Inv X U σ H s:=
 ⟨⟨I.ok.mod,I.ok.kind,I.ok.glob,I.ok.blt,I.ok.above,I.ok.inj,I.ok.has,I.ok.cab,hd,I.ok.frames,I.ok.stk,I.ok.exf,I.ok.bs,I.ok.bsz,I.ok.noex,I.ok.exfs,I.ok.funs,I.ok.frf⟩,I.os,I.bare,I.base,I.loc,I.cell,I.free,I.freeC,λq hq=>I.pin q (Ò _ hq),I.hok,I.len⟩
def Inv.goes{M:Model}{A:Around}{E:ZA}{i:Nat}{n:Str}{Q:Unit->Shared->Prop}(I:Inv X U σ H s)(hN:X.N.Nodup)(hi:X.N[i]?=some n)(hk:X.env.scope.names.lookup n=some .local)(h:∀s',Inv X U (σ.set i none) H s'->Q () s'):wpAny M A (do bindName X.env n .none;unbindBehindTheSuite X.env n pos) Q E s:=by
 let⟨m,hn,hl⟩:=id I.loc;have hcls:(X.env.scope.kind == .class || (X.env.scope.kind == .module && X.env.locals != X.env.globals))=false:=by rw[I.ok.kind];rfl
 have hiσ:i<σ.length:=by rw[I.len];exact(Î.mp hi).1
 have cne:=I.cne;refine wpAny_nameGoes_keeps hk hn hcls λh' v hn' hs=>?_;let⟨oL,_,_,hoL,_⟩:=id hn;refine h _ ⟨I.ok,I.os,I.bare,⟨λb o e n hb hx=>?_,λb o e n hb hx=>?_,I.base.free,λb o e hx=>?_,I.base.tups,I.base.frzs,I.base.tbls⟩,⟨_,hn',λj y v' e1 e2 e3=>?_⟩,λy c e=>?_,I.free,I.freeC,λp hp=>?_,λb ob e=>?_,by simpa using I.len⟩
 .exact(hs.2 b (Ê (Ó 'r' I.ok.above))).trans (I.base.keep b o e n hb hx)
 .obtain⟨sl,e1⟩:=I.base.slot b o e n hb hx
  exact⟨sl,(hs.2 b (Ê (Ó 'r' I.ok.above))).trans e1⟩
 .obtain⟨o',e1⟩:=I.base.there b o e hx
  exact⟨o',(hs.2 b (Ê (Ó 'r' I.ok.above))).trans e1⟩
 .by_cases hj:j=i
  .subst hj
   rw[è hiσ]at e2;cases e2
  .rw[Ú (Í hj)]at e2
   let⟨u',r',q⟩:=hl j y v' e1 e2 e3;refine⟨u',r',?_⟩;rcases q with ⟨k,e⟩|⟨k,c,e,z⟩
   .refine .inl ⟨k,?_⟩
    have:y≠n:=λe=>hj (wP hN e1 (e▸hi));simp[this,e]
   .exact .inr ⟨k,c,e,z.sameBut hs (cne y c e)⟩
 .obtain⟨w',z⟩:=I.cell y c e
  exact⟨w',z.sameBut hs (cne y c e)⟩
 .obtain⟨e,n,ne,nf,d⟩:=I.pin p hp
  exact⟨(hs.2 p.1 ne).trans e,n,ne,nf,d⟩
 .refine(I.hok b ob e).stay (λc w' hc q=>(hs.2 c ?_).trans q) (λ_ q=>q) λ_ _ q=>q
  rintro rfl;rcases hc with rfl|hc
  .rw[I.free]at e;cases e
  .rw[I.free]at hc;cases hc
def cA.forgetX{K:ZC}(R:cA K Z ow g F H σ δ)(i:Nat)(o:Option V)(hi:i∉Z.ps):cA K Z ow g F H (σ.set i o) (δ.set i none):=
 ⟨R.sub,R.f0,R.kept,R.new,R.there,R.lab,by rw[Ö,Ö];exact R.len,λj hj=>by
  rw[Ú λz=>hi (by rw[z];exact hj)];exact R.par j hj,λj d e=>by
  by_cases hj:j=i
  .subst hj
   rw[Ă]at e;split at e
   .split at e<;>cases e
   .rename_i z;exact absurd rfl z
  .rw[Ú (Í hj)]at e⊢
   exact R.slot j d e⟩
def Ĝ(i:Nat)(v:M Fl):M Fl:=λδ=>match v (δ.set i none)with
 |.ok fl δ2=>.ok fl (δ2.set i none)
 |_=>.stuck
def oN(vX:Option Bool)(i:Nat)(v u:M Fl):M Fl:=match vX with
 |some true=>Ĝ i v
 |some false=>u
 |none=>xI
def aJE{v u:Str->M Fl}{vX:Str->Option Bool}(ps:ZH)(hg:Gl X c)(hmg:X.mg c=some (.ref C))(hN:X.N.Nodup)(hi:X.N[i]?=some n)(hk:X.env.scope.names.lookup n=some .local)(hA:∀nm r,vX nm=some r->∀cls,W.nsIn X.K mainGlobals nm=some (some cls)->W.exmOne X.K cls (.ref C)=some r)(hv:∀nm cls a oa g F H σ,W.nsIn X.K mainGlobals nm=some (some cls)->oa.cls=cls->oa.dict=none->W.notCls oa=true->(σ:St)[i]?=some (some (.ref a))->zT (X.handA a oa) (b8.sub ps g F H σ ow) ow ow' ol ox rm (b0::suite) (v nm))(hu:DH X Z ow ow' ol ox rm hs u)(hz:∀j,j∉ps->ow.getD j 0=0)(hps:∀j∈Z.ps,j∈ps)(hiZ:i∉Z.ps)(hdb:⇑(Zdb c)):
  DH X Z ow ow' ol ox rm (.ExceptHandler (some (.Name c np)) (some n) (b0::suite) pos::hs) (λnm=>oN (vX nm) i (v nm) (u nm)):=λU s σ H Dn nm e I fl h=>by
 let⟨a,cls,ch,rfl,hn,x,hc⟩:=id fl;have h:tS X Z ow ow' ol ox rm (oN (vX nm) i (v nm) (u nm)) Dn σ H:=h;cases e1:vX nm with
 |none=>
  rw[e1]at h;let⟨F,δ,R,h⟩:=h;exact h.elim
 |some r=>
  rw[e1]at h;refine wpAny_handleBy_cons (codeAny_handlers_test (lH (X:=X.hand a) (I.toH a) hg hmg ?_ hdb)) (by intro q;cases q);let⟨oe,vs,he,⟨hcl,_⟩,hd,_⟩:=id x;have LT:W.Looks 'b' s.heap (typeOf (.ref a)) cls:=hcl▸(W.Looks.ld he).andThen .now;refine(W.exm_one (M:=model X.prog X.w) I.kIn LT (hA nm r e1 cls hn)).here ?_;cases r with
  |false=>exact hu U s σ H Dn nm _ I fl h
  |true=>
   refine codeAny_handlers_suite_as (rJ (fs:=vA X.stack) x λh2 xt2 x2=>?_);have I2:=I.xt xt2 hc;have hx2:=hc a x.mem;refine tL (v:=.ref a) I2 hN hi (.inl hk) rfl (λs3 I3 sb=>?_) (.inr hk);let⟨oa,vs2,he2,⟨hcl2,hdi2⟩,hd2,_⟩:=x2;have he3:s3.heap.get? a=some oa:=by
    let⟨b,hs,hb⟩:=sb;refine(hs.2 a ?_).trans he2;rintro rfl;rcases hb with z|z
    .exact hx2.fr z
    .exact hx2.cell n _ z rfl
   let⟨F,δ,⟨g,R⟩,h⟩:=h;have hiσ:i<σ.length:=by rw[I.len];exact(Î.mp hi).1
   have R1:=R.forgetX i (some (.ref a)) hiZ;have nf:a∉X.fs:=λz=>by
    let⟨_,o',ho,hnf⟩:=I3.funs.mem z;rw[he3]at ho;cases ho;exact hnf vs2 hd2
   have hend:∀{σ':St}{H':Hp}{s':Shared}{f:Flow},Inv (X.handA a oa) U σ' H' s'->(∀s'',Inv X U (σ'.set i none) H' s''->SP X U Dn f s'')->wpAny 'b' X.A (do bindName X.env n .none;unbindBehindTheSuite X.env n pos) (λ_ s₃=>SP X U Dn f s₃) X.xe s':=λ{σ' H' s' f}I' q=>
    (Inv.ofHA (hd:=I.ok.hd) I').goes hN hi hk q
   refine wpAny_mono (hv nm cls a oa g F H (σ.set i (some (.ref a))) hn hcl2 hdi2 (by unfold W.notCls;rw[hd2]) (è hiσ) U s3 (σ.set i (some (.ref a))) H {nx:=λσ' H'=>Dn.nx (σ'.set i none) H',rt:=Dn.rt,bk:=λσ' H'=>Dn.bk (σ'.set i none) H',ct:=λσ' H'=>Dn.ct (σ'.set i none) H'} (I3.toHA ⟨he3,hx2.un,hx2.fr,nf,λw z=>by rw[hd2]at z;cases z⟩) ⟨F,δ.set i none,⟨_,R1.enter hz⟩,?_⟩) (λf s4 q=>?_) λ_ _ z=>z.elim
   .have h:kS X Z ow' ol ox rm (Ĝ i (v nm) δ) F Dn:=h
    unfold Ĝ at h;cases e2:v nm (δ.set i none)with
    |stuck=>rw[e2]at h;exact h.elim
    |err y δ2=>rw[e2]at h;exact h.elim
    |ok fl δ2=>
     rw[e2]at h;cases fl with
     |next=>exact λσ' H' F'⟨g1,R2⟩s'=>h _ H' F' ⟨g1,(R1.leave hps R2).forgetX i none hiZ⟩ s'
     |brk=>exact λσ' H' F'⟨g1,R2⟩s'=>h _ H' F' ⟨g1,(R1.leave hps R2).forgetX i none hiZ⟩ s'
     |cont=>exact λσ' H' F'⟨g1,R2⟩s'=>h _ H' F' ⟨g1,(R1.leave hps R2).forgetX i none hiZ⟩ s'
     |ret d=>exact λw σ' H' F' owr⟨g1,R2,o⟩s'=>h w _ H' F' owr ⟨g1,(R1.leave hps R2).forgetX i none hiZ,o⟩ s'
   .cases f with
    |next=>let⟨σ',H',I',q⟩:=q;exact hend I' λs5 I5=>⟨_,H',I5,q⟩
    |brk=>let⟨σ',H',I',q⟩:=q;exact hend I' λs5 I5=>⟨_,H',I5,q⟩
    |cont=>let⟨σ',H',I',q⟩:=q;exact hend I' λs5 I5=>⟨_,H',I5,q⟩
    |ret w=>let⟨w',σ',H',I',r',q⟩:=q;exact hend I' λs5 I5=>⟨w',_,H',I5,r',q⟩
end
end L2
namespace L2
open PySem PySem.Spec PyProof.Rows PySem.W
def TU{prog:Program}{w:World}{A:Around}{E:ZA}{s:Shared}{K:Frag}{x C:Addr}{ox:Obj}{Q:ZN->Shared->Prop}(X:K.In s.heap)(I:InstAt s.heap x ox C none){B:String}(ga:Slot B "__getattribute__" "BaseException.__getattribute__")(hga:findIn K (.ref C) "__getattribute__"=some (some (.builtin "BaseException.__getattribute__")))(hgn:findIn K (.ref C) "__getattr__"=some none)(ha:findIn K (.ref C) "__class__"=some (some (.builtin "object.__class__")))(hcl:(clsIn K C).isSome=true)(hn:specialIn K (.builtin "object.__class__") "__get__"=some (some (.builtin "getset_descriptor.__get__")))(htk:takesIn K (.builtin "object.__class__")=some true)(hm:mroIn K C (.type "object")=some true)(hmb:mroIn K C (.type "BaseException")=some true)(h:Q (some (.ref C)) {s with toks:=s.toks+1}):wpAny 'o' A (getAttr? (.ref x) "__class__") Q E s:=by
 let⟨hh,g,d,t,os⟩:=s;have L0:=I.type (M:=model prog w);have L1:=looks_findIn (M:=model prog w) X hga;have L2:=looks_findIn (M:=model prog w) X hgn;have L3:=looks_findIn (M:=model prog w) X ha;have hf:findObj K C none "__class__"=some (.bind (.builtin "getset_descriptor.__get__") (.builtin "object.__class__")):=by
  let⟨cd,hc⟩:=Option.isSome_iff_exists.mp hcl;unfold findObj;rw[hc,Option.bind_some,ha,Option.bind_some];simp[hn,htk]
 have LF:=looks_find (M:=model prog w) X I hf;have L4:=looks_mroIn (M:=model prog w) X hmb;have hx2:(Value.builtin "BaseException.__getattribute__" == Value.builtin "object.__getattribute__")=false:=by decide +kernel
 have hx1:(onTheHeap (Value.ref C) && Value.builtin "BaseException.__getattribute__" == Value.builtin "object.__getattribute__")=false:=by rw[hx2];rfl
 unfold getAttr? getAttrBy? getAttrBy;refine wpAny_bind (wpAny_mkText (wpAny_bind (wpAny_attempt (wpAny_holding (wpAny_bind (L0.at (wpAny_bind (L1.at ?_))))))));show wpAny _ _ (if (onTheHeap (Value.ref C) && Value.builtin "BaseException.__getattribute__" == Value.builtin "object.__getattribute__")=true then _ else _) _ _ _;rw[hx1,Â Þ];unfold getAttrByItsOwn;refine wpAny_bind ?_;show wpAny _ _ (typeLookup (.ref C) "__getattr__") _ _ _;refine L2.at (wpAny_bind (wpAny_attempt (wpAny_holding ?_)));show wpAny _ _ (boundAndCalled _ _ _) _ _ _;unfold boundAndCalled;refine wpAny_bind (wpAny_of_eq (ga.bind (.ref x)) ?_);refine wpAny_call (codeAny_call_builtin ga.plain PySem.F.entry_bexc_ga ?_);have LI:Looks 'o' hh (isInstance (.ref x) (.type "BaseException")) true:=Looks.andThen L0 L4;have hk:builtinKind "BaseException.__getattribute__"=some .slot:=by decide +kernel
 have hsp:splitId "BaseException.__getattribute__"=some ("BaseException","__getattribute__"):=by decide +kernel
 refine check_slot (i:="BaseException.__getattribute__") (owner:="BaseException") (n:="__getattribute__") (self:=.ref x) (rest:=[.str "__class__" t]) (kw:=[]) hk hsp LI (PySem.F.args_bexc_ga _ _) ?_;refine wpAny_bind (wpAny_pure ?_);refine wpAny_bind (wpAny_pure ?_);refine wpAny_bind (L0.at (wpAny_bind (LF.at ?_)));show wpAny _ _ (ret =<< holding [.builtin "object.__class__"] (call (.builtin "getset_descriptor.__get__") [.builtin "object.__class__",.ref x,.ref C])) _ _ _;refine wpAny_bind (wpAny_holding (wpAny_call (class_get X I hm (wpAny_pure ?_))));exact handed_on rfl (wpAny_pure h)
def F9{K:Frag}{x C:Addr}{ox:Obj}{B:String}(ga:Slot B "__getattribute__" "BaseException.__getattribute__")(hga:findIn K (.ref C) "__getattribute__"=some (some (.builtin "BaseException.__getattribute__")))(hgn:findIn K (.ref C) "__getattr__"=some none)(ha:findIn K (.ref C) "__class__"=some (some (.builtin "object.__class__")))(hcl:(clsIn K C).isSome=true)(hn:specialIn K (.builtin "object.__class__") "__get__"=some (some (.builtin "getset_descriptor.__get__")))(htk:takesIn K (.builtin "object.__class__")=some true)(hm:mroIn K C (.type "object")=some true)(hmb:mroIn K C (.type "BaseException")=some true):
  KitX K (.ref x) (.ref C) (λh=>InstAt h x ox C none) where
 ty:=λ_ _ _ I=>I.type
 it:=λ_ _ X _=>by
  let⟨cd,hc⟩:=Option.isSome_iff_exists.mp hcl;unfold clsIn at hc;split at hc
  .rename_i c' d' cd' sl' ho
   intro A' Q' E' s' k q;unfold isType loadHead;exact wpAny_bind (wpAny_loadPart (k _ _ (X _ _ ho)) (wpAny_pure q))
  .cases hc
 ne:=λh tp dd its n sl X htp=>by
  let⟨cd,hc⟩:=Option.isSome_iff_exists.mp hcl;refine Bool.eq_false_iff.mpr λq=>?_;have e:C=tp:=Value.ref.inj (beq_iff_eq.mp q);subst e;unfold clsIn at hc;split at hc
  .rename_i c' d' cd' sl' ho
   have z:=(X _ _ ho).symm.trans htp;cases z
  .cases hc
 ca:=λX I k=>TU X I ga hga hgn ha hcl hn htk hm hmb k
def zZ:bootBuiltins "ValueError"=some (.type "ValueError"):=by decide +kernel
structure DF(K:Frag)(C:Addr):Prop where
 ga:findIn K (.ref C) "__getattribute__"=some (some (.builtin "BaseException.__getattribute__"))
 gn:findIn K (.ref C) "__getattr__"=some none
 ca:findIn K (.ref C) "__class__"=some (some (.builtin "object.__class__"))
 cl:(clsIn K C).isSome=true
 cg:specialIn K (.builtin "object.__class__") "__get__"=some (some (.builtin "getset_descriptor.__get__"))
 tk:takesIn K (.builtin "object.__class__")=some true
 ob:mroIn K C (.type "object")=some true
 be:mroIn K C (.type "BaseException")=some true
section
variable {X:Cx}{Z:b8}{ow:ZH}{pos p p1 p2:Pos}{n c:Str}{i:Nat}{a C:Addr}{oa:Obj}{cv:Value}{cV:V}{r:Bool}{B:String}
def TV(ga:Slot B "__getattribute__" "BaseException.__getattribute__")(FX:DF X.K C)(hpn:(a,oa)∈X.pn)(hoc:oa.cls=.ref C)(hod:oa.dict=none)(hnc:notCls oa=true)(hcv:∀u,bG cV u->u=cv)(hk:kitOne X.K (.ref C) cv=some r):
  fP X (.builtin "isinstance") (λxs H Q=>xs=[.ref a,cV]/\Q (.bl r) H):=by
 intro U s σ H xs us Q I rv h;let⟨rfl,q⟩:=h;let⟨u,v,rfl,rx,rc⟩:=RR rv;cases rx;obtain rfl:=hcv _ rc;have hp:=(I.pin (a,oa) (ü _ hpn)).1;have IA:InstAt s.heap a oa C none:=⟨hp,hoc,hnc,by rw[hod];exact True.intro⟩;exact kia_one (F9 ga FX.ga FX.gn FX.ca FX.cl FX.cg FX.tk FX.ob FX.be) I.kIn IA hk (λz=>nomatch z) λtk=>⟨.bl r,H,I.tok tk,rfl,q⟩
def aF2(ga:Slot B "__getattribute__" "BaseException.__getattribute__")(FX:DF X.K C)(hpn:(a,oa)∈X.pn)(hoc:oa.cls=.ref C)(hod:oa.dict=none)(hnc:notCls oa=true)(hcv:∀u,bG cV u->u=cv)(hk:kitOne X.K (.ref C) cv=some r)(hi:i∈Z.ps)(h0:Z.σ0[i]?=some (some (.ref a)))(hg:Gl X "isinstance")(hm:X.mg "isinstance"=none)(hc:PE X (.Name c p2) (tC cV))(hN:↥(X.N[i]?=some n))(hv:#v[zS X.env.scope n])(hd:⇑(Zdb n))(hcd:⇑(Zcd n))(hs:↥(starEach [.Name n p1,.Name c p2] X.env=(false,eval (.Name n p1) X.env)::starEach [.Name c p2] X.env))(hs2:↥(starEach [.Name c p2] X.env=(false,eval (.Name c p2) X.env)::starEach [] X.env))(hpl:↥((backTo pos (starEach [.Name c p2] X.env)).any (·.1)=false)):
  DE X Z ow 0 (.Call (.Name "isinstance" p) [.Name n p1,.Name c p2] [] pos) (dC (.bool r)):=
 PE.mono (mV (TV ga FX hpn hoc hod hnc hcv hk) hg hm j6 (dW (dA hN hv hd hcd) (dW hc iU hs2) hs) ⋯ ⋯ hs hpl) λσ H Q q=>by
  let⟨F,δ,R,q⟩:=q;have e:σ[i]?=some (some (.ref a)):=by
   let⟨g,R⟩:=R;rw[(R.par i hi).1];exact h0
  exact⟨_,e,rfl,q _ H F (R.x gN) 'k'⟩
end
end L2
namespace L2
open PySem PySem.Spec PyProof.Rows
def vX(l:List (Str×Bool))(nm:Str):(Option Bool):=l.lookup nm
def DG{K:ZC}(h:∀p∈l,∃cls,W.nsIn K mainGlobals p.1=some (some cls)/\W.exmOne K cls C=some p.2):
  ∀nm r,vX l nm=some r->∀cls,W.nsIn K mainGlobals nm=some (some cls)->W.exmOne K cls C=some r:=λnm r e cls hn=>by
 let⟨cls',h1,h2⟩:=h (nm,r) (ô e)
 grind
def TW{ps ow:ZH}(h:((List.range ow.length).all λi=>ps.contains i || ow.getD i 0 == 0)=true):∀i,i∉ps->ow.getD i 0=0:=λi hi=>by
 grind
def J9{ps qs:ZH}(h:qs.all ps.contains=true):∀i∈qs,i∈ps:=λi hi=>List.contains_iff_mem.mp (æ.mp h i hi)
def mQ(l:List (Str×Bool))(nm:Str):M D:=match l.lookup nm with
 |some r=>dC (.bool r)
 |none=>λ_=>.stuck
section
variable {X:Cx}{Z:b8}{ow:ZH}{pos p p1 p2:Pos}{n c:Str}{i:Nat}{a:Addr}{oa:Obj}{cv cls:Value}{cV:V}{nm:Str}{l:List (Str×Bool)}
def v9(h:∀p∈l,∃C,W.nsIn X.K mainGlobals p.1=some (some (.ref C))/\DF X.K C/\W.kitOne X.K (.ref C) cv=some p.2)(hn:W.nsIn X.K mainGlobals nm=some (some cls))(hpn:(a,oa)∈X.pn)(hoc:oa.cls=cls)(hod:oa.dict=none)(hnc:W.notCls oa=true)(hcv:∀u,bG cV u->u=cv)(hi:i∈Z.ps)(h0:Z.σ0[i]?=some (some (.ref a)))(hg:Gl X "isinstance")(hm:X.mg "isinstance"=none)(hc:PE X (.Name c p2) (tC cV))(hN:↥(X.N[i]?=some n))(hv:#v[zS X.env.scope n])(hd:⇑(Zdb n))(hcd:⇑(Zcd n))(hs:↥(starEach [.Name n p1,.Name c p2] X.env=(false,eval (.Name n p1) X.env)::starEach [.Name c p2] X.env))(hs2:↥(starEach [.Name c p2] X.env=(false,eval (.Name c p2) X.env)::starEach [] X.env))(hpl:↥((backTo pos (starEach [.Name c p2] X.env)).any (·.1)=false)):
  DE X Z ow 0 (.Call (.Name "isinstance" p) [.Name n p1,.Name c p2] [] pos) (mQ l nm):=by
 cases e:l.lookup nm with
 |none=>
  have:mQ l nm=λ_=>.stuck:=by unfold mQ;rw[e]
  rw[this];intro U s σ H Q I q;let⟨F,δ,R,q⟩:=q;sleep 5
 |some r=>
  have e2:mQ l nm=dC (.bool r):=by unfold mQ;rw[e]
  rw[e2];let⟨C,h1,FX,hk⟩:=h (nm,r) (ô e);rw[hn]at h1;cases h1;exact aF2 PySem.F.attr_ValueError.ga FX hpn hoc hod hnc hcv hk hi h0 hg hm hc hN hv hd hcd hs hs2 hpl
def nC(hg:Gl X c)(hm:X.mg c=some (.ref C))(hd:⇑(Zdb c)):PE X (.Name c p2) (tC (.ref C)):=λU s σ H Q I h=>lH I hg hm ⟨.ref C,H,I,rfl,h⟩ hd
def A9:∀{as:ZM}{us:ZJ},bH (as.map V.ref) us->us=as.map Value.ref
 |[],_,.nil=>rfl
 |_::_,_,.cons r t=>by
  rw[Ð,<- A9 t];exact congrArg (·::_) r
def Ĺ(vs:List V):TA:=λ_ H Q=>Q vs H
open PySem.W in
def gL{K:Frag}{t c:Value}{cs:ZJ}{b:Bool}(h:kitOne K t c=some false)(r:kitAny K t cs=some b):kitAny K t (c::cs)=some b:=by
 unfold kitAny;rw[h];exact r
open PySem.W in
def aJF{K:Frag}{t c:Value}{cs:ZJ}(h:kitOne K t c=some true):kitAny K t (c::cs)=some true:=by
 unfold kitAny;rw[h]
def Z5:PA X [] (Ĺ []):=iU
def nD(h:PE X (.Name c p2) (tC v))(ht:PA X es (Ĺ vs))(hs:↥(starEach (.Name c p2::es) X.env=(false,eval (.Name c p2) X.env)::starEach es X.env)):PA X (.Name c p2::es) (Ĺ (v::vs)):=dW h ht hs
open PySem.W in
def PF{C:Addr}{B:String}{cVs:List V}{cvs:ZJ}{r:Bool}(ga:Slot B "__getattribute__" "BaseException.__getattribute__")(FX:DF X.K C)(hpn:(a,oa)∈X.pn)(hoc:oa.cls=.ref C)(hod:oa.dict=none)(hnc:notCls oa=true)(hcv:∀us,bH cVs us->us=cvs)(hk:kitAny X.K (.ref C) cvs=some r):
  fP X (.builtin "isinstance") (λxs H Q=>∃p,xs=[.ref a,.ref p]/\H p=some (.tup cVs)/\Q (.bl r) H):=by
 intro U s σ H xs us Q I rv h;let⟨p,rfl,hp,q⟩:=h;let⟨u,v,rfl,rx,rc⟩:=RR rv;cases rx;obtain rfl:v=Value.ref p:=rc;let⟨its,ri,⟨o,ho,hc,n,hd⟩,_⟩:=I.tuple (qV.of hp);obtain rfl:=hcv _ ri;let⟨oc,od,dt,sl⟩:=o;cases hc;cases hd;have hp:=(I.pin (a,oa) (ü _ hpn)).1;have IA:InstAt s.heap a oa C none:=⟨hp,hoc,hnc,by rw[hod];exact True.intro⟩;exact kia_tup (F9 ga FX.ga FX.gn FX.ca FX.cl FX.cg FX.tk FX.ob FX.be) I.kIn IA ho hk (λz=>nomatch z) λtk=>⟨.bl r,H,I.tok tk,rfl,q⟩
def Z6{kt:Nat}(h:∀p∈l,∃C,W.nsIn X.K mainGlobals p.1=some (some (.ref C))/\DF X.K C/\W.kitAny X.K (.ref C) cvs=some p.2)(hn:W.nsIn X.K mainGlobals nm=some (some cls))(hpn:(a,oa)∈X.pn)(hoc:oa.cls=cls)(hod:oa.dict=none)(hnc:W.notCls oa=true)(hcv:∀us,bH cVs us->us=cvs)(hi:i∈Z.ps)(h0:Z.σ0[i]?=some (some (.ref a)))(hg:Gl X "isinstance")(hm:X.mg "isinstance"=none)(hc:PA X es (Ĺ cVs))(hz:cVs.length<=1000:=by exact Nat.le_of_ble_eq_true rfl)(hN:↥(X.N[i]?=some n))(hv:#v[zS X.env.scope n])(hd:⇑(Zdb n))(hcd:⇑(Zcd n))(hs:↥(starEach [.Name n p1,.Tuple es kt p2] X.env=(false,eval (.Name n p1) X.env)::starEach [.Tuple es kt p2] X.env))(hs2:↥(starEach [.Tuple es kt p2] X.env=(false,eval (.Tuple es kt p2) X.env)::starEach [] X.env))(hpl:↥((backTo pos (starEach [.Tuple es kt p2] X.env)).any (·.1)=false)):
  DE X Z ow 0 (.Call (.Name "isinstance" p) [.Name n p1,.Tuple es kt p2] [] pos) (mQ l nm):=by
 cases e:l.lookup nm with
 |none=>
  have:mQ l nm=λ_=>.stuck:=by unfold mQ;rw[e]
  rw[this];intro U s σ H Q I q;let⟨F,δ,R,q⟩:=q;sleep 5
 |some r=>
  have e2:mQ l nm=dC (.bool r):=by unfold mQ;rw[e]
  rw[e2];let⟨C,h1,FX,hk⟩:=h (nm,r) (ô e);rw[hn]at h1;cases h1;refine PE.mono (mV (PF PySem.F.attr_ValueError.ga FX hpn hoc hod hnc hcv hk) hg hm j6 (dW (dA hN hv hd hcd) (dW (RV hc) iU hs2) hs) ⋯ ⋯ hs hpl) λσ H Q q=>?_;let⟨F,δ,R,q⟩:=q;have e:σ[i]?=some (some (.ref a)):=by
   let⟨g,R⟩:=R;rw[(R.par i hi).1];exact h0
  refine⟨_,e,Õ hz ⋯,λp hp=>?_⟩;have R2:=R.laid (o:=.tup cVs) hp;exact⟨p,rfl,aN,q _ _ _ (R2.x gN) (cC (R.fnone hp) _)⟩
end
section
variable {X:Cx}{U:ZB}{σ:St}{H:Hp}{s:Shared}{h':Heap}
def Inv.turns{ch:ZM}(I:Inv X U σ H s)(k:∀b o,b∉ch->s.heap.get? b=some o->h'.get? b=some o)(hc:∀b∈ch,vU X U H b):
  Inv X U σ H {s with heap:=h',toks:=t'}:=by
 have off:∀b u,H b=some u->b∉ch:=λb u e z=>by have:=(hc b z).1;rw[this]at e;cases e
 refine I.step (g':=s.gens) (d':=s.drawn) (ch:=ch) (λb hb=>⟨(hc b hb).2.2.2.1,(hc b hb).2.1,(hc b hb).2.2.2.2.1,(hc b hb).2.2.2.2.2⟩) (λb o _ _ n e _=>k b o n e) (λb o _ _ n e _=>⟨o.slots,k b o n e⟩)
  (λb o n e z=>z) (λb o n e=>⟨o,k b o n e⟩) (λb ys e=>e) (λb o u e=>e) (λb ps e=>⟨#[],by rw[e];simp⟩) (λm hm=>?_) (λb u e=>?_) I.bare
 .obtain⟨o,es,ep,ho,q⟩:=hm
  exact⟨o,es,ep,k _ o (λz=>(hc _ z).2.1 rfl) ho,q⟩
 .refine(I.hok b u e).stay (λc v z q=>k c v ?_ q) (λc q=>q) λc ys q=>q
  grind
def Inv.pair{ch:ZM}(I:Inv X U σ H s)(k:∀b o,b∉ch->s.heap.get? b=some o->h'.get? b=some o)(hc:∀b∈ch,vU X U H b)(hT:s.heap.objs.size<=T)(hz:xs.length<=sizeLine)(r:bH xs us)(ht:IsTup h' T us.toArray):
  Inv X U σ (aX H T (.tup xs)) {s with heap:=h',toks:=t'}:=by
 have fT:H T=none:=I.hok.fresh hT;have off:∀b u,H b=some u->b∉ch:=λb u e z=>by have:=(hc b z).1;rw[this]at e;cases e
 have neT:∀b u,H b=some u->b≠T:=λb u e=>bK e fT;refine I.step (g':=s.gens) (d':=s.drawn) (ch:=ch) (λb hb=>⟨(hc b hb).2.2.2.1,(hc b hb).2.1,(hc b hb).2.2.2.2.1,(hc b hb).2.2.2.2.2⟩) (λb o _ _ n e _=>k b o n e) (λb o _ _ n e _=>⟨o.slots,k b o n e⟩)
  (λb o n e z=>?_) (λb o n e=>⟨o,k b o n e⟩) (λb ys e=>?_) (λb o u e=>?_) (λb ps e=>⟨#[],?_⟩) (λm hm=>?_) (λb u e=>?_) I.bare
 .rw[aG (Ê (Ó 'r' hT))];exact z
 .rw[aG (neT b _ e)];exact e
 .rw[aG (neT b _ e)];exact e
 .rw[aG (neT b _ e),e];simp
 .obtain⟨o,es,ep,ho,q⟩:=hm
  exact⟨o,es,ep,k _ o (λz=>(hc _ z).2.1 rfl) ho,q⟩
 .by_cases hb:b=T
  .subst hb;rw[aN]at e;cases e;exact⟨hz,us,r,ht⟩
  .rw[aG hb]at e
   refine(I.hok b u e).stay (λc v z q=>k c v ?_ q) (λc q=>by rw[aG (neT c _ q)];exact q) λc ys q=>by rw[aG (neT c _ q)];exact q
   grind
end
def ś(K:ZC)(a b:Addr):It:=
 ⟨λi H=>∃xs ys x y,eK K H a xs/\eK K H b ys/\xs[i]?=some x/\ys[i]?=some y,
   λi H v H'=>∃p x y,H p=none/\H'=aX H p (.tup [x,y])/\v=.ref p/\(∀xs,eK K H a xs->xs[i]?=some x)/\∀ys,eK K H b ys->ys[i]?=some y,
   λi H=>∃xs ys,eK K H a xs/\eK K H b ys/\(xs.length<=i\/ys.length<=i)⟩
structure aJG(z p q i1 i2 a b:Addr)(i:Nat)(h:Heap):Prop where
 z0:IsZip h z p q .none
 p0:IsPair h p (.ref i1) (.ref i2)
 q0:∃u v,IsPair h q u v
 a0:h.IsListIter i1 a i
 b0:h.IsListIter i2 b i
def TX{P:Program}{w:World}{K:ZC}{es:List Expr}{n:Nat}{tp:Pos}(z p q i1 i2 a b:Addr)(D:ZipApart z p q i1 i2 a b):E5 P w K (.Tuple es n tp) (ś K a b) [z,p,q,i1,i2] z (aJG z p q i1 i2 a b) where
 mem:=by simp
 obj:=λi h st c hc=>by
  simp![Ì,Ø,or_false]at hc;rcases hc with rfl|rfl|rfl|rfl|rfl
  .exact⟨_,st.z0,λv e=>by cases e⟩
  .exact⟨_,st.p0,λv e=>by cases e⟩
  .obtain⟨u,v,e⟩:=st.q0
   grind
  .obtain⟨o,e,_,d⟩:=st.a0
   grind
  .obtain⟨o,e,_,d⟩:=st.b0
   grind
 keep:=λi h h' st k=>⟨k z 'e' _ st.z0,k p 'e' _ st.p0,by
  let⟨u,v,e⟩:=st.q0
  grind,st.a0.at λo e=>k i1 'e' o e,st.b0.at λo e=>k i2 'e' o e⟩
 item:=by
  sleep 3;let⟨xs,ys,x,y,hx,hy,ex,ey⟩:=hg;let⟨ia,ra,pa,_⟩:=I.list hx;let⟨ib,rb,pb,_⟩:=I.list hy;let⟨u,hu,ru⟩:=ra.get ex;let⟨v,hv,rv⟩:=rb.get ey;let⟨c1,c2,hq⟩:=st.q0;refine wpAny_pyNext_zip_item D st.z0 st.p0 hq st.a0 st.b0 pa.isList pb.isList (x:=u) (y:=v) (by simpa using hu) (by simpa using hv) λh1 e1 e2 e3 e4 e5 e6 k1=>⟨_,rfl,?_⟩;refine wpAny_letOwnedTupleGo_zip (s:={s with heap:=h1}) e1 λh2 f1 f2=>?_;have hT:s.heap.objs.size≠z:=Û (Heap.lt_size st.z0);have tup:IsTup h2 s.heap.objs.size #[u,v]:=⟨_,f2.extBut _ _ hT e5,rfl,_,rfl⟩;have kk:∀c o,c∉[z,q,i1,i2]->s.heap.get? c=some o->h2.get? c=some o:=λc o n e=>by
   simp![Ì,Ø,or_false,not_or]at n;exact f2.extBut _ _ n.1 (k1 c o n.1 n.2.1 n.2.2.1 n.2.2.2 e)
  have fp:∀c∈[z,q,i1,i2],vU X U H c:=λc hc=>hf c (by
   grind)
  have I2:Inv X U σ (aX H s.heap.objs.size (.tup [x,y])) {s with heap:=h2,toks:=s.toks}:=I.pair (us:=[u,v]) kk fp (Ç _) (show 2<=sizeLine by decide) (.cons ru (.cons rv .nil)) tup;refine⟨.ref s.heap.objs.size,_,I2,rfl,⟨_,x,y,I.hok.fresh (Ç _),rfl,rfl,λxs' h=>by rw[I.list_inj h hx];exact ex,λys' h=>by rw[I.list_inj h hy];exact ey⟩,⟨f1,f2.extBut _ _ D.TIz (k1 _ _ D.TIz D.TITO D.TIi1 D.TIi2 st.p0),⟨_,_,f2.extBut _ _ D.TOz e2⟩,e3.extBut f2.extBut D.i1z,e4.extBut f2.extBut D.i2z⟩,λc hc=>?_⟩
  rw[aG]
  .exact(hf c hc).1
  .intro z0
   simp![Ì,Ø,or_false]at hc;have lt:∀{c o},s.heap.get? c=some o->c≠s.heap.objs.size:=λe=>Ê 'r';let⟨o1,g1,_⟩:=st.a0;let⟨o2,g2,_⟩:=st.b0;rcases hc with rfl|rfl|rfl|rfl|rfl
   .exact lt st.z0 z0
   .exact lt st.p0 z0
   all_goals grind
 done:=by
  sleep 3;let⟨xs,ys,hx,hy,hl⟩:=hg;let⟨ia,ra,pa,_⟩:=I.list hx;let⟨ib,rb,pb,_⟩:=I.list hy;let⟨c1,c2,hq⟩:=st.q0;have la:=ra.length;have lb:=rb.length;refine wpAny_pyNext_zip_end (I.ok.hd hc) D st.z0 st.p0 hq st.a0 st.b0 pa.isList pb.isList ?_ λh1 k1=>⟨rfl,I.turns (t':=s.toks) (ch:=[z,q,i1,i2]) (λc o n e=>?_) λc hc=>hf c ?_⟩
  all_goals grind
 self:=λ_ _ _ _ _ st h=>wpAny_pyIter_zip st.z0 h
section
def aMH(K:ZC)(ta:TA):TI:=λσ H R=>ta σ H λvs H1=>∃a b,vs=[.ref a,.ref b]/\(∃xs,eK K H1 a xs)/\(∃ys,eK K H1 b ys)/\R (ś K a b) H1
def aF3{es:List Expr}{n:Nat}{tp p pos:Pos}(hg:Gl X "zip")(hm:X.mg "zip"=none)(ha:PA X [a,b] ta)(hs:↥(starEach [a,b] X.env=[(false,eval a X.env),(false,eval b X.env)]))(hs2:↥(starEach [b] X.env=[(false,eval b X.env)])):
  PI X (.Tuple es n tp) (.Call (.Name "zip" p) [a,b] [] pos) (aMH X.K ta):=by
 intro U s σ H R I h;refine Call_ (iT I hg hm boot_zip (callWith_type1 (cL (ha pos U s σ H _ I h) λus s1 zQ=>?_) (by rw[hs,hs2]) (by rw[hs2];rfl)));let⟨vs,H1,I1,r1,q1⟩:=zQ;let⟨l,m,e,⟨xs,hx⟩,⟨ys,hy⟩,q⟩:=q1;subst e;cases r1 with
 |cons r rr=>
  cases rr with
  |cons r' rr=>
   cases rr;cases r;cases r';let⟨ia,ra,pa,_⟩:=I1.list hx;let⟨ib,rb,pb,_⟩:=I1.list hy;refine call_zip_2 pa.isList pb.isList λh1 z1 z2 z3 z4 z5 sz kk=>wpAny_pyIter_zip (s:={s1 with heap:=h1}) z1 ?_;have la:l<s1.heap.objs.size:=by let⟨o,n,e,_⟩:=pa;exact Heap.lt_size e
   have lb:m<s1.heap.objs.size:=by let⟨o,n,e,_⟩:=pb;exact Heap.lt_size e
   have ge:∀c∈[s1.heap.objs.size+4,s1.heap.objs.size+2,s1.heap.objs.size+3,s1.heap.objs.size,s1.heap.objs.size+1],s1.heap.objs.size<=c:=λc hc=>by
    grind
   refine⟨_,_,_,_,H1,rfl,I1.kept (t':=s1.toks) kk,TX _ _ _ _ _ l m ?_,⟨z1,z2,⟨_,_,z3⟩,z4,z5⟩,λc hc=>I1.fpOk (ge c hc) (I1.hok.fresh (ge c hc)),q⟩;have la:@LT.lt Nat instLTNat l s1.heap.objs.size:=la;have lb:@LT.lt Nat instLTNat m s1.heap.objs.size:=lb;constructor<;>(grind)
end
def oZ(as bs:ZI):ZI:=List.zipWith (λa b=>PyData.tuple [a,b]) as bs
def MJ{K:ZC}{F:Hp}{p:Addr}{x y:V}{d e:D}(h:F p=some (.tup [x,y]))(rx:bI K F d x)(ry:bI K F e y):bI K F (.tuple [d,e]) (.ref p):=by
 unfold bI;refine⟨p,_,rfl,qV.of h,?_⟩;unfold aE;refine⟨_,_,rfl,rx,?_⟩;unfold aE;refine⟨_,_,rfl,ry,?_⟩;unfold aE;rfl
def Z7{K:ZC}{F:Hp}{a b:Addr}{xs ys:List V}{ds es:ZI}(hx:eK K F a xs)(hy:eK K F b ys)(rx:aE K F ds xs)(ry:aE K F es ys):Q9 K F (ś K a b) (oZ ds es) where
 go:=λi H s hi=>by
  have hi:i<min ds.length es.length:=by simpa[oZ]using hi
  have l1:=rx.len;have l2:=ry.len;exact⟨xs,ys,xs[i]'∅,ys[i]'∅,s.seq hx,s.seq hy,É _,É _⟩
 yld:=λi H v H' d s y e=>by
  let⟨p,x,y,hp,rfl,rfl,q1,q2⟩:=y;have hi:=(Î.mp e).1;have hi:i<min ds.length es.length:=by simpa[oZ]using hi
  have e1:ds[i]?=some ds[i]:=É ∅;have e2:es[i]?=some es[i]:=É ∅;have ee:(oZ ds es)[i]?=some (.tuple [ds[i],es[i]]):=by unfold oZ;rw[List.getElem?_zipWith,e1,e2]
  rw[ee]at e;cases e;let⟨x',f1,g1⟩:=rx.get e1;let⟨y',f2,g2⟩:=ry.get e2;have:=q1 xs (s.seq hx);rw[f1]at this;cases this;have:=q2 ys (s.seq hy);rw[f2]at this;cases this;refine .inr ⟨p,_,hp,rfl,λF2 s2 n=>MJ aN ?_ ?_⟩
  .exact(s2.trans' (cC n _)).rep _ _ g1
  .exact(s2.trans' (cC n _)).rep _ _ g2
 stop:=λH s=>⟨xs,ys,s.seq hx,s.seq hy,by
  have l1:=rx.len;have l2:=ry.len;simp![oZ,List.length_zipWith];lia⟩
def z6(f g:M D):M (ZI):=λδ=>(aZ [f,g] δ).bind λds δ1=>match ds with
 |[.list as,.list bs]=>.ok (oZ as bs) δ1
 |_=>.stuck
section
def DJ{es:List Expr}{n:Nat}{tp p2 p3:Pos}(hgl:Gl X "zip")(hm:X.mg "zip"=none)(ha:DE X Z ow 0 a f)(hb:DE X Z ow 0 b g)(hst:↥(starEach [a,b] X.env=(false,eval a X.env)::starEach [b] X.env))(hst2:↥(Zse b [] X.env)):
  DI X Z ow (.Tuple es n tp) (.Call (.Name "zip" p2) [a,b] [] p3) (z6 f g):=
 (aF3 hgl hm (aF ha (aF hb bF hst2) hst) (hst.trans (by rw[hst2];rfl)) hst2).mono λσ H R q=>by
  let⟨F,δ,Rl,q⟩:=q;unfold z6 at q;refine⟨F,δ,Rl,?_⟩;cases e1:aZ [f,g] δ with
  |stuck=>rw[e1]at q;sleep 5
  |err x δ1=>rw[e1]at q;exact q
  |ok ds δ1=>
   rw[e1]at q;simp![Res.bind]at q;intro vs H1 F1 R1 s1 ra;split at q
   .rename_i as bs
    unfold aE at ra;let⟨x,t,rfl,rx,ra⟩:=ra;unfold aE at ra;let⟨y,t,rfl,ry,ra⟩:=ra;unfold aE at ra;subst ra;let⟨l,xs,rfl,hx,rx⟩:=j8 rx;let⟨m,ys,rfl,hy,ry⟩:=j8 ry;exact⟨l,m,rfl,⟨xs,R1.sub.seq hx⟩,⟨ys,R1.sub.seq hy⟩,q _ H1 F1 R1 s1 (Z7 hx hy rx ry)⟩
   .sleep 5
end
def Ŝ(K:ZC)(a:Addr):It:=
 ⟨λi H=>∃xs x,eK K H a xs/\xs[i]?=some x,
   λi H v H'=>∃p x,H p=none/\H'=aX H p (.tup [.int i,x])/\v=.ref p/\∀xs,eK K H a xs->xs[i]?=some x,
   λi H=>∃xs,eK K H a xs/\xs.length<=i⟩
structure aF4(e it a:Addr)(i:Nat)(h:Heap):Prop where
 e0:∃old,IsEnum h e it (i:Int) old
 a0:h.IsListIter it a i
def PH{P:Program}{w:World}{K:ZC}{es:List Expr}{n:Nat}{tp:Pos}(e it a:Addr)(hne:e≠it):E5 P w K (.Tuple es n tp) (Ŝ K a) [e,it] e (aF4 e it a) where
 mem:=by simp
 obj:=λi h st c hc=>by
  simp![Ì,Ø,or_false]at hc;rcases hc with rfl|rfl
  .obtain⟨o,x⟩:=st.e0
   exact⟨_,x,λv e=>by cases e⟩
  .obtain⟨o,e,_,d⟩:=st.a0
   exact⟨o,e,λv x=>by rw[d]at x;cases x⟩
 keep:=λi h h' st k=>⟨by
  let⟨o,x⟩:=st.e0;exact⟨o,k e 'e' _ x⟩,st.a0.at λo x=>k it 'e' o x⟩
 item:=by
  sleep 3;let⟨xs,x,hx,ex⟩:=hg;let⟨ia,ra,pa,_⟩:=I.list hx;let⟨u,hu,ru⟩:=ra.get ex;let⟨old,he⟩:=st.e0;refine wpAny_pyNext_enum_item he st.a0 pa.isList (x:=u) (by simpa using hu) hne λh1 e1 e2 e3 e4 k1=>⟨_,rfl,?_⟩;refine wpAny_letOwnedTupleGo_enum (s:={s with heap:=h1,toks:=s.toks+1}) e1 λh2 f1 f2=>?_;have hT:s.heap.objs.size≠e:=Û (Heap.lt_size he);have tup:IsTup h2 s.heap.objs.size #[.int i s.toks,u]:=⟨_,f2.extBut _ _ hT e3,rfl,_,rfl⟩;have kk:∀c o,c∉[e,it]->s.heap.get? c=some o->h2.get? c=some o:=λc o n x=>by
   simp![Ì,Ø,or_false,not_or]at n;exact f2.extBut _ _ n.1 (k1 c o n.1 n.2 x)
  have I2:Inv X U σ (aX H s.heap.objs.size (.tup [.int i,x])) {s with heap:=h2,toks:=s.toks+1}:=I.pair (us:=[.int i s.toks,u]) kk hf (Ç _) (show 2<=sizeLine by decide) (.cons ⟨_,rfl⟩ (.cons ru .nil)) tup;refine⟨.ref s.heap.objs.size,_,I2,rfl,⟨_,x,I.hok.fresh (Ç _),rfl,rfl,λxs' h=>by rw[I.list_inj h hx];exact ex⟩,⟨⟨_,by simpa using f1⟩,e2.extBut f2.extBut hne.symm⟩,λc hc=>?_⟩;rw[aG]
  .exact(hf c hc).1
  .intro z0
   simp![Ì,Ø,or_false]at hc;have lt:∀{c o},s.heap.get? c=some o->c≠s.heap.objs.size:=λe=>Ê 'r';let⟨o1,g1,_⟩:=st.a0;rcases hc with rfl|rfl
   .exact lt he z0
   .exact lt g1 z0
 done:=by
  sleep 3;let⟨xs,hx,hl⟩:=hg;let⟨ia,ra,pa,_⟩:=I.list hx;let⟨old,he⟩:=st.e0;have la:=ra.length;refine wpAny_pyNext_enum_end (I.ok.hd hc) he st.a0 pa.isList (Array.getElem?_eq_none (by simp;lia)) λh1 k1=>⟨rfl,I.turns (t':=s.toks) (ch:=[e,it]) (λc o n x=>?_) hf⟩;simp![Ì,Ø,or_false,not_or]at n;exact k1 c o n.2 x
 self:=λ_ _ _ _ _ st h=>by
  let⟨old,he⟩:=st.e0;exact wpAny_pyIter_enum he h
section
def aJH(K:ZC)(ta:TA):TI:=λσ H R=>ta σ H λvs H1=>∃a,vs=[.ref a]/\(∃xs,eK K H1 a xs)/\R (Ŝ K a) H1
def Z8(hg:Gl X "enumerate")(hm:X.mg "enumerate"=none)(ha:PA X [a] ta)(hs:↥(starEach [a] X.env=[(false,eval a X.env)])):
  PI X (.Tuple es n tp) (.Call (.Name "enumerate" p) [a] [] pos) (aJH X.K ta):=by
 intro U s σ H R I h;refine Call_ (iT I hg hm boot_enumerate (callWith_type1 (cL (ha pos U s σ H _ I h) λus s1 zQ=>?_) hs rfl));let⟨vs,H1,I1,r1,q1⟩:=zQ;let⟨l,e,⟨xs,hx⟩,q⟩:=q1;subst e;cases r1 with
 |cons r rr=>
  cases rr;cases r;let⟨ia,ra,pa,_⟩:=I1.list hx;refine call_enumerate_list pa.isList λh1 z1 z2 sz kk=>wpAny_pyIter_enum (s:={s1 with heap:=h1}) z1 ?_;have ge:∀c∈[s1.heap.objs.size+1,s1.heap.objs.size],s1.heap.objs.size<=c:=λc hc=>by
   simp![Ì,Ø,or_false]at hc;rcases hc with rfl|rfl<;>lia
  exact⟨_,_,_,_,H1,rfl,I1.kept (t':=s1.toks) kk,PH _ _ l (show ¬(s1.heap.objs.size+1=s1.heap.objs.size) by lia),⟨⟨_,z1⟩,z2⟩,λc hc=>I1.fpOk (ge c hc) (I1.hok.fresh (ge c hc)),q⟩
end
def eZ(ds:ZI):ZI:=ds.mapIdx λi d=>PyData.tuple [.int i,d]
def TY{K:ZC}{F:Hp}{a:Addr}{xs:List V}{ds:ZI}(hx:eK K F a xs)(rx:aE K F ds xs):Q9 K F (Ŝ K a) (eZ ds) where
 go:=λi H s hi=>by
  have hi:i<ds.length:=by simpa[eZ]using hi
  have l1:=rx.len;exact⟨xs,xs[i]'(by exact ò ‹_› ‹_›),s.seq hx,É _⟩
 yld:=λi H v H' d s y e=>by
  let⟨p,x,hp,rfl,rfl,q1⟩:=y;have hi:=(Î.mp e).1;have hi:i<ds.length:=by simpa[eZ]using hi
  have e1:ds[i]?=some ds[i]:=É hi;have ee:(eZ ds)[i]?=some (.tuple [.int i,ds[i]]):=by unfold eZ;rw[List.getElem?_mapIdx,e1];rfl
  rw[ee]at e;cases e;let⟨x',f1,g1⟩:=rx.get e1;have:=q1 xs (s.seq hx);rw[f1]at this;cases this;exact .inr ⟨p,_,hp,rfl,λF2 s2 n=>MJ aN fW ((s2.trans' (cC n _)).rep _ _ g1)⟩
 stop:=λH s=>⟨xs,s.seq hx,by
  have l1:=rx.len;simp![eZ,List.length_mapIdx];lia⟩
def xL(f:M D):M (ZI):=λδ=>(aZ [f] δ).bind λds δ1=>match ds with
 |[.list as]=>.ok (eZ as) δ1
 |_=>.stuck
section
def gX(hgl:Gl X "enumerate")(hm:X.mg "enumerate"=none)(ha:DE X Z ow 0 a f)(hst:↥(Zse a [] X.env)):
  DI X Z ow (.Tuple es n tp) (.Call (.Name "enumerate" p2) [a] [] p3) (xL f):=
 (Z8 hgl hm (aF ha bF hst) hst).mono λσ H R q=>by
  let⟨F,δ,Rl,q⟩:=q;unfold xL at q;refine⟨F,δ,Rl,?_⟩;cases e1:aZ [f] δ with
  |stuck=>rw[e1]at q;sleep 5
  |err x δ1=>rw[e1]at q;exact q
  |ok ds δ1=>
   rw[e1]at q;simp![Res.bind]at q;intro vs H1 F1 R1 s1 ra;split at q
   .rename_i as
    unfold aE at ra;let⟨x,t,rfl,rx,ra⟩:=ra;unfold aE at ra;subst ra;let⟨l,xs,rfl,hx,rx⟩:=j8 rx;exact⟨l,rfl,⟨xs,R1.sub.seq hx⟩,q _ H1 F1 R1 s1 (TY hx rx)⟩
   .sleep 5
def aF5:bootBuiltins "sum"=some (.builtin "sum"):=by decide +kernel
end
section
end
section
end
section
end
abbrev zA(h:Heap)(l1:Addr):Heap:=h.push {cls:=.type "list_iterator",data:=.fields #[.ref l1,.int 0 0]}
abbrev zB(h:Heap)(l1 l2:Addr):Heap:=(zA h l1).push {cls:=.type "tuple_iterator",data:=.fields #[.ref l2,.int 0 0]}
section
end
section
end
section
end
end L2
namespace L2
open PySem PySem.Spec
def TZ(o:ZL)(δ:DS)(Q:D->ZO)(_w:Wt Q:=⟨⟩):Prop:=∃r,o=some r/\Q r δ
def DK(o:Option (ZL))(δ:DS)(Q:D->ZO)(_w:Wt Q:=⟨⟩):Prop:=∃d,o=some (some d)/\Q d δ
def ŝ(i:Nat)(d:D)(δ:DS)(N:ZO)(_w:Wt N:=⟨⟩):Prop:=i<δ.length/\N (δ.set i (some d))
def BB(d:D)(δ:DS)(Q:Bool->ZO)(_w:Wt Q:=⟨⟩):Prop:=∃b,d=.bool b/\Q b δ
def Ş(o:Option DS)(N:ZO)(_w:Wt N:=⟨⟩):Prop:=∃δ,o=some δ/\N δ
def Z9(o:Option (D×ZI))(i:Nat)(δ:DS)(Q:D->ZO)(_w:Wt Q:=⟨⟩):Prop:=∃ret ds',o=some (ret,ds')/\Q ret (δ.set i (some (.list ds')))
def RA:Prop:=aV (λ_=>(.stuck:Res Unit)) [] λ_ _=>bO (λ_=>.stuck) [] (λ_=>False) (λ_=>False) (λ_=>False) λ_ _=>False
def Đ:RA=False:=rfl
def ĺ:Nat->D->DS->Option DS
 |_,_,[]=>none
 |0,d,_::l=>some (some d::l)
 |n+1,d,a::l=>match ĺ n d l with
  |some l=>some (a::l)
  |none=>none
def vY(o:ZL)(δ:DS)(Q:D->ZO)(_w:Wt Q:=⟨⟩):Prop:=match o with
 |some r=>Q r δ
 |none=>RA
def gQ(o:Option (ZL))(δ:DS)(Q:D->ZO)(_w:Wt Q:=⟨⟩):Prop:=match o with
 |some (some d)=>Q d δ
 |_=>RA
def BC(i:Nat)(d:D)(δ:DS)(N:ZO)(_w:Wt N:=⟨⟩):Prop:=match ĺ i d δ with
 |some l=>N l
 |none=>RA
def xM(d:D)(δ:DS)(Q:Bool->ZO)(_w:Wt Q:=⟨⟩):Prop:=match d with
 |.bool b=>Q b δ
 |_=>RA
def Ļ(o:Option DS)(N:ZO)(_w:Wt N:=⟨⟩):Prop:=match o with
 |some δ=>N δ
 |none=>RA
def T0(r:Res D)(is:ZH)(δ:DS)(Q:D->ZO)(_w:Wt Q:=⟨⟩):Prop:=match r with
 |.ok d os=>Q d (bL is (os.filterMap id) δ)
 |_=>RA
def T1(o:Option (ZI))(fn:ZI->Res D)(is:ZH)(δ:DS)(Q:D->ZO)(_w:Wt Q:=⟨⟩):Prop:=match o with
 |some ds=>T0 (fn ds) is δ Q
 |none=>RA
def DL(o:Option (D×ZI))(i:Nat)(δ:DS)(Q:D->ZO)(_w:Wt Q:=⟨⟩):Prop:=match o with
 |some (ret,ds)=>Q ret (δ.set i (some (.list ds)))
 |none=>RA
def ş(o:Option (ZL))(i:Nat)(op:ZI->ZI->Option (D×ZI))(args:ZI)(δ:DS)(Q:D->ZO)(_w:Wt Q:=⟨⟩):Prop:=match o with
 |some (some (.list ds))=>DL (op ds args) i δ Q
 |_=>RA
def Ĩ(o:Option Nat)(ds:ZI)(v:D)(i:Nat)(δ:DS)(N:ZO)(_w:Wt N:=⟨⟩):Prop:=match o with
 |some j=>N (δ.set i (some (.list (ds.set j v))))
 |none=>RA
def Š(o:Option (ZL))(k v:D)(i:Nat)(δ:DS)(N:ZO)(_w:Wt N:=⟨⟩):Prop:=match o,k with
 |some (some (.list ds)),.int n=>Ĩ (mO ds.length n) ds v i δ N
 |_,_=>RA
def kE:@vY=@TZ:=by funext o δ Q w;cases o<;>simp[vY,TZ,Đ]
def lX:@gQ=@DK:=by funext o δ Q w;rcases o with _|_|d<;>simp[gQ,DK,Đ]
def rV:@xM=@BB:=by funext d δ Q w;cases d<;>simp[xM,BB,Đ]
def aAC:@Ļ=@Ş:=by funext o N w;cases o<;>simp[Ļ,Ş,Đ]
def MK:@DL=@Z9:=by
 funext o i δ Q w;rcases o with _|⟨r,ds⟩
 .simp[DL,Z9,Đ]
 .simp![DL,Z9]
  exact propext ⟨λq=>⟨_,_,rfl,q⟩,λ⟨_,_,h,q⟩=>by cases h;exact q⟩
def ML:∀{δ:DS}{i:Nat}{d:D},ĺ i d δ=if i<δ.length then some (δ.set i (some d))else none
 |[],i,d=>by cases i<;>rfl
 |a::l,0,d=>rfl
 |a::l,i+1,d=>by
  rw[ĺ,ML (δ:=l)];by_cases h:i<l.length
  .rw[Á h,Á (show i+1<(a::l).length from Nat.succ_lt_succ h)];rfl
  .rw[Â h,Â (show ¬i+1<(a::l).length from λz=>h (Nat.lt_of_succ_lt_succ z))]
def aGA:@BC=@ŝ:=by
 funext i d δ N w;unfold BC ŝ;rw[ML];by_cases h:i<δ.length
 .simp[h]
 .simp[h,Đ]
section
variable {δ:DS}{N:ZO}
def aMJ:vY (some r) δ Q=Q r δ:=rfl
def aJJ:gQ (some (some d)) δ Q=Q d δ:=rfl
def aGB{Q:Bool->ZO}:xM (.bool b) δ Q=Q b δ:=rfl
def k_set:Ļ (some δ) N=N δ:=rfl
def k_fill:T1 (some ds) fn is δ Q=T0 (fn ds) is δ Q:=rfl
def aGC{os:DS}:T0 (.ok d os) [] δ Q=Q d δ:=rfl
def aGD:T0 (.ok d [some e]) [i] δ Q=Q d (δ.set i (some e)):=rfl
def aJK:ş (some (some (.list ds))) i op args δ Q=DL (op ds args) i δ Q:=rfl
def Ι:DL (some (r,ds)) i δ Q=Q r (δ.set i (some (.list ds))):=rfl
def Κ:Š (some (some (.list ds))) (.int n) v i δ N=Ĩ (mO ds.length n) ds v i δ N:=rfl
def Λ:Ĩ (some j) ds v i δ N=N (δ.set i (some (.list (ds.set j v)))):=rfl
def Μ:vY (O4 (.int i) (.int j)) δ Q=(IntMulOk i j/\Q (.int (i*j)) δ):=by
 rw[kE];refine propext ⟨λzQ=>?_,λzQ=>by let⟨h,p⟩:=zQ;exact ⟨_,ZW h,p⟩⟩;let⟨r,h,p⟩:=zQ;unfold O4 iD at h;dsimp only at h;split at h
 .rename_i hc;cases h;exact⟨hc,p⟩
 .cases h
def Ν{d:D}:DL (JY ds [d]) i δ Q=(ds.length<sizeLine/\Q .none (δ.set i (some (.list (ds++[d]))))):=by
 rw[MK];refine propext ⟨λzQ=>?_,λzQ=>by let⟨h,p⟩:=zQ;exact ⟨_,_,Á h,p⟩⟩;let⟨r,d2,h,p⟩:=zQ;unfold JY at h;dsimp only at h;split at h
 .rename_i hc;cases h;exact⟨hc,p⟩
 .cases h
def Ξ{a b:ZI}:vY (J1 (.list a) (.list b)) δ Q=(a.length+b.length<=sizeLine/\Q (.list (a++b)) δ):=by
 have e:J1 (.list a) (.list b)=if a.length+b.length<=sizeLine then some (.list (a++b))else none:=rfl;rw[e];rw[kE];unfold TZ;split
 .rename_i h;simp[h]
 .rename_i h;simp[h]
def aGE:BC 0 d (a0::δ) N=N (some d::δ):=rfl
def aGF:BC 1 d (a0::a1::δ) N=N (a0::some d::δ):=rfl
def aGG:BC 2 d (a0::a1::a2::δ) N=N (a0::a1::some d::δ):=rfl
def aGH:BC 3 d (a0::a1::a2::a3::δ) N=N (a0::a1::a2::some d::δ):=rfl
def aGI:BC 4 d (a0::a1::a2::a3::a4::δ) N=N (a0::a1::a2::a3::some d::δ):=rfl
def aGJ:BC 5 d (a0::a1::a2::a3::a4::a5::δ) N=N (a0::a1::a2::a3::a4::some d::δ):=rfl
def aGK:BC 6 d (a0::a1::a2::a3::a4::a5::a6::δ) N=N (a0::a1::a2::a3::a4::a5::some d::δ):=rfl
def aGL:BC 7 d (a0::a1::a2::a3::a4::a5::a6::a7::δ) N=N (a0::a1::a2::a3::a4::a5::a6::some d::δ):=rfl
def aGM:BC 8 d (a0::a1::a2::a3::a4::a5::a6::a7::a8::δ) N=N (a0::a1::a2::a3::a4::a5::a6::a7::some d::δ):=rfl
def aGN:BC 9 d (a0::a1::a2::a3::a4::a5::a6::a7::a8::a9::δ) N=N (a0::a1::a2::a3::a4::a5::a6::a7::a8::some d::δ):=rfl
def aAD:BC 10 d (a0::a1::a2::a3::a4::a5::a6::a7::a8::a9::a10::δ) N=N (a0::a1::a2::a3::a4::a5::a6::a7::a8::a9::some d::δ):=rfl
def aAE:BC 11 d (a0::a1::a2::a3::a4::a5::a6::a7::a8::a9::a10::a11::δ) N=N (a0::a1::a2::a3::a4::a5::a6::a7::a8::a9::a10::some d::δ):=rfl
def rW:BC 12 d (a0::a1::a2::a3::a4::a5::a6::a7::a8::a9::a10::a11::a12::δ) N=N (a0::a1::a2::a3::a4::a5::a6::a7::a8::a9::a10::a11::some d::δ):=rfl
def MM:BC 13 d (a0::a1::a2::a3::a4::a5::a6::a7::a8::a9::a10::a11::a12::a13::δ) N=N (a0::a1::a2::a3::a4::a5::a6::a7::a8::a9::a10::a11::a12::some d::δ):=rfl
def MN:BC 14 d (a0::a1::a2::a3::a4::a5::a6::a7::a8::a9::a10::a11::a12::a13::a14::δ) N=N (a0::a1::a2::a3::a4::a5::a6::a7::a8::a9::a10::a11::a12::a13::some d::δ):=rfl
def MO:BC 15 d (a0::a1::a2::a3::a4::a5::a6::a7::a8::a9::a10::a11::a12::a13::a14::a15::δ) N=N (a0::a1::a2::a3::a4::a5::a6::a7::a8::a9::a10::a11::a12::a13::a14::some d::δ):=rfl
end
section
def BD:bO (cX u v) δ N B C R=bO u δ (λδ1=>bO v δ1 N B C R) B C R:=by
 refine propext ⟨λh=>?_,TH⟩;unfold bO cX at *;cases e:u δ with
 |stuck=>rw[e]at h;exact h
 |err x d=>rw[e]at h;exact h
 |ok fl d=>rw[e]at h;cases fl<;>exact h
def T2:bO AX δ N B C R=N δ:=rfl
def Ο:bO (λδ=>.ok .brk δ) δ N B C R=B δ:=rfl
def T3:bO (λδ=>.ok .cont δ) δ N B C R=C δ:=rfl
def Ρ:bO (eQ i f) δ N B C R=aV f δ λd δ1=>BC i d δ1 N:=by
 rw[aGA];unfold bO eQ aV ŝ;cases f δ with
 |ok a d=>
  dsimp![Res.bind];by_cases h:i<d.length
  .rw[Á h]
   exact propext ⟨λq=>⟨h,q⟩,And.right⟩
  .rw[Â h]
   exact propext ⟨False.elim,λq=>h q.1⟩
 |_=>rfl
def Τ:bO (tZ f) δ N B C R=aV f δ R:=by
 unfold bO tZ aV;cases f δ<;>rfl
def T5:bO (fS f) δ N B C R=aV f δ λ_ δ1=>N δ1:=by
 unfold bO fS aV;cases f δ<;>rfl
def Υ:bO (m5 c u v) δ N B C R=aV c δ λb δ1=>if b=true then bO u δ1 N B C R else bO v δ1 N B C R:=by
 refine propext ⟨λh=>?_,aJC⟩;unfold bO m5 at h;unfold aV;cases e:c δ with
 |stuck=>rw[e]at h;exact h
 |err x d=>rw[e]at h;exact h
 |ok b d=>
  rw[e]at h;cases b
  .exact h
  .exact h
def Φ{set:D->DS->Option DS}:bO (Ś set f) δ N B C R=aV f δ λd δ1=>Ļ (set d δ1) N:=by
 rw[aAC];unfold bO Ś aV Ş;cases f δ with
 |stuck=>rfl
 |err x d=>rfl
 |ok a d=>
  simp![Res.bind];cases set a d<;>simp
def Χ:aV (bA i) δ Q=gQ δ[i]? δ Q:=by
 rw[lX];unfold aV bA DK;cases δ[i]? with
 |none=>simp
 |some o=>cases o<;>simp
def Ψ:aV (dC d) δ Q=Q d δ:=rfl
def Ω:aV (gJ op f g) δ Q=aV f δ λa δ1=>aV g δ1 λb δ2=>vY (op a b) δ2 Q:=by
 rw[kE];unfold aV gJ TZ;cases f δ with
 |stuck=>rfl
 |err x d=>rfl
 |ok a d=>
  simp![Res.bind];cases g d with
  |stuck=>rfl
  |err x d=>rfl
  |ok b d=>dsimp only;cases op a b<;>simp
def γ:aV (C3 op f) δ Q=aV f δ λa δ1=>vY (op a) δ1 Q:=by
 rw[kE];unfold aV C3 TZ;cases f δ with
 |stuck=>rfl
 |err x d=>rfl
 |ok a d=>simp![Res.bind];cases op a<;>simp
def MP{Q:ZI->ZO}:aV (aZ []) δ Q=Q [] δ:=rfl
def T6{Q:ZI->ZO}:aV (aZ (f::fs)) δ Q=aV f δ λa δ1=>aV (aZ fs) δ1 λds δ2=>Q (a::ds) δ2:=by
 unfold aV;rw[aZ];dsimp only;cases f δ with
 |stuck=>rfl
 |err x d=>rfl
 |ok a d=>
  simp![Res.bind];cases aZ fs d<;>rfl
def ε:aV (Q8 op fs) δ Q=aV (aZ fs) δ λds δ1=>vY (op ds) δ1 Q:=by
 rw[kE];unfold aV Q8 TZ;cases aZ fs δ with
 |stuck=>rfl
 |err x d=>rfl
 |ok a d=>simp![Res.bind];cases op a<;>simp
def ζ:aV (O1 fs) δ Q=aV (aZ fs) δ λds δ1=>ds.length<=sizeLine/\Q (.tuple ds) δ1:=by
 unfold aV O1;cases aZ fs δ with
 |stuck=>rfl
 |err x d=>rfl
 |ok a d=>
  simp![Res.bind];split
  .rename_i z;split at z
   .rename_i h;cases z;simp[h]
   .cases z
  .rename_i z
   split at z
   .rename_i h
    exact absurd rfl (z _ _)
   .rename_i h;simp[h]
def η:aV (JW fs) δ Q=aV (aZ fs) δ λds δ1=>ds.length<=sizeLine/\Q (.list ds) δ1:=by
 unfold aV JW;cases aZ fs δ with
 |stuck=>rfl
 |err x d=>rfl
 |ok a d=>
  simp![Res.bind];split
  .rename_i z;split at z
   .rename_i h;cases z;simp[h]
   .cases z
  .rename_i z
   split at z
   .rename_i h
    exact absurd rfl (z _ _)
   .rename_i h;simp[h]
def θ{Q:Bool->ZO}:aV (dB f) δ Q=aV f δ λa δ1=>xM a δ1 Q:=by
 rw[rV];unfold aV dB BB;cases f δ with
 |stuck=>rfl
 |err x d=>rfl
 |ok a d=>cases a<;>simp[Res.bind]
def T7{Q:Bool->ZO}:aV (pK c) δ Q=aV c δ λb δ1=>Q (!b) δ1:=by
 unfold aV pK;cases c δ<;>rfl
def T8:aV (rP f) δ Q=aV f δ λa δ1=>xM a δ1 λb δ2=>Q (.bool (!b)) δ2:=by
 rw[rV];unfold aV rP BB;cases f δ with
 |stuck=>rfl
 |err x d=>rfl
 |ok a d=>cases a<;>simp[Res.bind]
def ι{Q:Bool->ZO}:aV (SJ c c') δ Q=aV c δ λb δ1=>if b=true then Q true δ1 else aV c' δ1 Q:=by
 unfold aV SJ;cases c δ with
 |stuck=>rfl
 |err x d=>rfl
 |ok b d=>cases b<;>rfl
def T9{Q:Bool->ZO}:aV (FI c c') δ Q=aV c δ λb δ1=>if b=true then aV c' δ1 Q else Q false δ1:=by
 unfold aV FI;cases c δ with
 |stuck=>rfl
 |err x d=>rfl
 |ok b d=>cases b<;>rfl
def UA:aV (iH f g) δ Q=aV f δ λa δ1=>xM a δ1 λb δ1=>if b=true then aV g δ1 Q else Q (.bool false) δ1:=by
 rw[rV];unfold aV iH BB;cases f δ with
 |stuck=>rfl
 |err x d=>rfl
 |ok a d=>
  cases a with
  |bool b=>cases b<;>simp[Res.bind]
  |_=>simp[Res.bind]
def μ:aV (SY f g) δ Q=aV f δ λa δ1=>xM a δ1 λb δ1=>if b=true then Q 'u' δ1 else aV g δ1 Q:=by
 rw[rV];unfold aV SY BB;cases f δ with
 |stuck=>rfl
 |err x d=>rfl
 |ok a d=>
  cases a with
  |bool b=>cases b<;>simp[Res.bind]
  |_=>simp[Res.bind]
def UB:aV (dH fn as) δ Q=aV (cK as) δ λods δ1=>T1 (dP δ1 as ods) fn (aU as) δ1 Q:=by
 unfold aV dH T1 T0;cases cK as δ with
 |ok ods d=>
  dsimp![Res.bind];cases dP d as ods with
  |none=>rfl
  |some ds=>
   dsimp only;cases fn ds<;>rfl
 |_=>rfl
def MQ{Q:List (ZL)->ZO}:aV (cK []) δ Q=Q [] δ:=rfl
def MR{Q:List (ZL)->ZO}:aV (cK (.val f::as)) δ Q=aV f δ λa δ1=>aV (cK as) δ1 λds δ2=>Q (some a::ds) δ2:=by
 unfold aV;rw[cK];dsimp only;cases f δ with
 |stuck=>rfl
 |err x d=>rfl
 |ok a d=>simp![Res.bind];cases cK as d<;>rfl
def MS{Q:List (ZL)->ZO}:aV (cK (.own j::as)) δ Q=gQ δ[j]? δ λ_ δ=>aV (cK as) δ λds δ2=>Q (none::ds) δ2:=by
 rw[lX];unfold aV DK;rw[cK];dsimp only;cases δ[j]? with
 |none=>simp
 |some o=>
  cases o with
  |none=>simp
  |some d=>
   simp![Option.some.injEq,exists_eq_left'];cases cK as δ<;>rfl
def ν:aV (JX i op fs) δ Q=gQ δ[i]? δ λ_ _=>aV (aZ fs) δ λargs δ1=>ş δ1[i]? i op args δ1 Q:=by
 unfold aV JX gQ ş DL;cases δ[i]? with
 |none=>rfl
 |some o=>
  cases o with
  |none=>rfl
  |some d=>
   dsimp only;cases aZ fs δ with
   |ok args δ1=>
    dsimp![Res.bind];cases δ1[i]? with
    |none=>rfl
    |some o=>
     cases o with
     |none=>rfl
     |some d=>
      cases d with
      |list ds=>
       dsimp only;cases op ds args with
       |none=>rfl
       |some p=>rfl
      |_=>rfl
   |_=>rfl
def ξ:aV (SW i fk) δ Q=gQ δ[i]? δ λ_ _=>aV fk δ λk δ1=>gQ δ1[i]? δ1 λd δ1=>vY (gG d k) δ1 Q:=by
 unfold aV SW gQ vY;cases δ[i]? with
 |none=>rfl
 |some o=>
  cases o with
  |none=>rfl
  |some d=>
   dsimp only;cases fk δ with
   |ok k δ1=>
    dsimp![Res.bind];cases δ1[i]? with
    |none=>rfl
    |some o=>
     cases o with
     |none=>rfl
     |some d=>
      dsimp only;cases gG d k<;>rfl
   |_=>rfl
def ο:bO (SV i fk fv) δ N B C R=aV fv δ λv δ1=>gQ δ1[i]? δ1 λ_ δ1=>aV fk δ1 λk δ2=>Š δ2[i]? k v i δ2 N:=by
 unfold bO SV aV gQ Š Ĩ;cases fv δ with
 |ok w δ1=>
  dsimp![Res.bind];cases δ1[i]? with
  |none=>rfl
  |some o=>
   cases o with
   |none=>rfl
   |some d=>
    dsimp only;cases fk δ1 with
    |ok k δ2=>
     dsimp only;cases δ2[i]? with
     |none=>rfl
     |some o=>
      cases o with
      |none=>rfl
      |some d=>
       cases d with
       |list ds=>
        cases k with
        |int n=>
         dsimp only;cases mO ds.length n<;>rfl
        |_=>rfl
       |_=>rfl
    |_=>rfl
 |_=>rfl
def UC:aV (FQ i) δ Q=gQ δ[i]? δ λd δ=>vY (rO [d]) δ Q:=by
 rw[lX,kE];unfold aV FQ DK TZ;cases δ[i]? with
 |none=>simp
 |some o=>
  cases o with
  |none=>simp
  |some d=>
   simp![Option.some.injEq,exists_eq_left'];cases e:rO [d]<;>simp
def π:aV (Ő c f g) δ Q=aV c δ λb δ1=>if b=true then aV f δ1 Q else aV g δ1 Q:=by
 unfold aV Ő;cases c δ with
 |stuck=>rfl
 |err x d=>rfl
 |ok b d=>cases b<;>rfl
def aJQ{i j:Int}:J1 (.int i) (.int j)=some (.int (i+j)):=rfl
def aJR{i j:Int}:Œ (.int i) (.int j)=some (.int (i-j)):=rfl
def UD{i:Int}:œ (.int i)=some (.int (-i)):=rfl
def aMK{i j:Int}:Ŕ (.int i) (.int j)=some (.bool (decide (i<j))):=rfl
def aML{i j:Int}:ĥ (.int i) (.int j)=some (.bool (decide (i<=j))):=rfl
def aMM{i j:Int}:Γ (.int i) (.int j)=some (.bool (decide (j<i))):=rfl
def aMN{i j:Int}:Δ (.int i) (.int j)=some (.bool (decide (j<=i))):=rfl
def vZ{i j:Int}:IY (.int i) (.int j)=some (.bool (decide (i=j))):=by rw[ZX];congr 2
def ς{i j:Int}:C4 (.int i) (.int j)=some (.bool (decide (i≠j))):=by
 rw[MH];congr 2;rw[Bool.eq_iff_iff];simp
def τ{i j:Bool}:C4 (.bool i) (.bool j)=some (.bool (decide (i≠j))):=by
 rw[S9];congr 2;cases i<;>cases j<;>rfl
def rX{i j:Int}(h:0<j):C1 (.int i) (.int j)=some (.int (i % j)):=FY h
def aAF{i j:Int}(h:0<j)(h2:fG 9000 j):FR (.int i) (.int j)=some (.int (i/j)):=O9 h (fG.log2 h2)
def υ{i:Int}:ŕ [.int i]=some (.int (i.natAbs:Int)):=by
 show some (PyData.int (if i<0 then -i else i))=_;congr 2;split<;>lia
def UE:rO [.list ds]=some (.int ds.length):=rfl
def aGO:rO [.tuple ds]=some (.int ds.length):=rfl
def aJT{i:Int}:gG (.list ds) (.int i)=atI ds i:=rfl
def aJU{i:Int}:gG (.tuple ds) (.int i)=atI ds i:=rfl
def χ{as:List α}:atI (a::as) 0=some a:=eI (j:=0) rfl
def BE{as:List α}:atI (a::b::as) 1=some b:=eI (j:=1) rfl
def BF{a b c:α}:atI (a::b::c::as) 2=some c:=eI (j:=2) rfl
def MT{a b c d:α}:atI (a::b::c::d::as) 3=some d:=eI (j:=3) rfl
def ψ{a b c d e:α}:atI (a::b::c::d::e::as) 4=some e:=eI (j:=4) rfl
def ω{a b c d e f:α}:atI (a::b::c::d::e::f::as) 5=some f:=eI (j:=5) rfl
def ϊ{a b c d e f g:α}:atI (a::b::c::d::e::f::g::as) 6=some g:=eI (j:=6) rfl
end
def MU(h:n<=1000):(n<=sizeLine)=True:=eq_true (Õ h ⋯)
def aMO:FU .bool (.bool b)=some 'u':=rfl
def cO{d:D}(h:aV f δ λa δ1=>a=d/\δ1=δ):f δ=.ok d δ:=by
 let⟨a,δ1,e,rfl,rfl⟩:=h.ex;exact e
def rY{f e:M D}{δ:DS}{n:Int}{g:Nat->D}(hf:f δ=.ok (.int n) δ)(h0:0<=n)(h1:n<2^20)(he:∀k:Nat,(k:Int)<n->aV e (some (.int k)::δ) λa δ1=>a=g k/\δ1=some (.int k)::δ):d9 1 (eO 0) (vW [f]) eA e δ=.ok (.list ((List.range n.toNat).map g)) δ:=by
 have hr:vW [f] δ=.ok (kP 0 n.toNat) δ:=by
  simp![vW,aZ,hf,aW,mP];rw[Á ⟨∅,∅⟩]
 have:=A7 (e:=e) (g:=λd=>match d with|.int i=>g i.toNat|_=>.none) hr (λd hd=>by
  let⟨k,hk,rfl⟩:=Ü.mp hd;have hk:=List.mem_range.mp hk;have:=cO (he k ∅);rw[Int.zero_add];exact this) (by rw[g5];show n.toNat<=2^24;lia)
 rw[this,kP];simp
def DM{set:D->DS->Option DS}{u:M Fl}{f:M D}{δ δ1:DS}{N B C:ZO}{R:D->ZO}{j:Int}(I:Nat->ZO)(hf:f δ=.ok (.int j) δ1)(hj:-1000<=j)(hj2:j<=1000)(h0:I 0 δ1)(hs:∀(k:Nat)(δ:DS),(k:Int)<j->I k δ->∃δ1,set (.int k) δ=some δ1/\bO u δ1 (I (k+1)) N (I (k+1)) R)(hN:∀δ,I j.toNat δ->N δ):bO (mJ set (vW [f]) u) δ N B C R:=
 TK I hf ∅ ∅ h0 hs hN
def KA{set:D->DS->Option DS}{u:M Fl}{f:M D}{δ δ1:DS}{N B C:ZO}{R:D->ZO}{j:Nat}(I:Nat->ZO)(hf:f δ=.ok (.int (j:Int)) δ1)(hj:j<=1000)(h0:I 0 δ1)(hs:∀(k:Nat)(δ:DS),k<j->I k δ->∃δ1,set (.int k) δ=some δ1/\bO u δ1 (I (k+1)) N (I (k+1)) R)(hN:∀δ,I j δ->N δ):bO (mJ set (vW [f]) u) δ N B C R:=
 DM I hf ∅ ∅ h0 (λk δ hk=>hs k δ ∅) λδ h=>hN δ (by rwa [ú]at h)
def jN{P:D->Prop}(h:bO body (ds.map some++List.replicate (m0-ds.length) none) (λ_=>False) (λ_=>False) (λ_=>False) λr _=>P r):∃r,aP m0 [] rm body ds=.ok r []/\P r:=by
 let⟨fl,δ1,e,q⟩:=h.ex;cases fl with
 |ret r=>exact⟨r,by unfold aP;rw[e];rfl,q⟩
 |next=>sleep 5
 |brk=>sleep 5
 |cont=>sleep 5
end L2
namespace L2
open PySem
def aJV{α β:Type}{f:α->β}{a:α}:(some a).map f=some (f a):=rfl
def aMP{α β:Type}{f:α->Option β}:List.filterMap f []=[]:=rfl
def aMQ{α:Type}{a:α}{l:List α}:(a::l)[i+1]?=l[i]?:=rfl
def aMR{α:Type}{a:α}{l:List α}:(a::l)[0]?=some a:=rfl
def ϋ{α:Type}{a b:α}:(some a=some b)=(a=b):=by simp
def ό{α:Type}{p:α->Prop}{a:α}:(∃x,a=x/\p x)=p a:=by simp
def aMS{α:Type}{a:α}{l:List α}:(a::l).length=l.length+1:=rfl
def aMT{α:Type}:([]:List α).length=0:=rfl
def aMU{α:Type}{a x:α}{l:List α}:(a::l).set (i+1) x=a::l.set i x:=rfl
def aMV{α:Type}{a x:α}{l:List α}:(a::l).set 0 x=x::l:=rfl
def ύ{a b:Prop}:(if True then a else b)=a:=by simp
def ώ{a b:Prop}:(if False then a else b)=b:=by simp
def aOD:type_of% (Ä @BD <| Ä @T2 <| Ä @Ο <| Ä @T3 <| Ä @Ρ <| Ä @Τ <| Ä @T5 <| Ä @Υ <| Ä @Φ <| Ä @Χ <| Ä @Ψ <| Ä @Ω <| Ä @γ <| Ä @MP <| Ä @T6 <| Ä @ε <| Ä @ζ <| Ä @η <| Ä @θ <| Ä @T7 <| Ä @T8 <| Ä @ι <| Ä @T9 <| Ä @UA <| Ä @μ <| Ä @UB <| Ä @MQ <| Ä @MR <| Ä @MS <| Ä @ν <| Ä @ξ <| Ä @ο <| Ä @UC <| Ä @π <| Ä @UD <| Ä @vZ <| Ä @ς <| Ä @τ <| Ä @υ <| Ä @χ <| Ä @BE <| Ä @BF <| Ä @MT <| Ä @ψ <| Ä @ω <| Ä @ϊ <| Ä @MU <| Ä @Κ <| Ä @Λ <| Ä @Μ <| Ä @Ν <| Ä @Ξ <| Ä @rW <| Ä @MM <| Ä @MN <| Ä @MO <| Ä @ϋ <| Ä @ό <| Ä @Nat.zero_add <| Ä @true_and <| Ä @and_true <| Ä @Res.ok.injEq <| Ä @PySem.PyData.bool.injEq <| Ä @PySem.PyData.int.injEq <| Ä @PySem.PyData.list.injEq <| Ä @PySem.PyData.tuple.injEq <| Ä @Bool.not_true <| Ä @Bool.not_false <| Ä @Bool.false_eq_true <| Ä @ύ <| @ώ):=
 Ä @BD <| Ä @T2 <| Ä @Ο <| Ä @T3 <| Ä @Ρ <| Ä @Τ <| Ä @T5 <| Ä @Υ <| Ä @Φ <| Ä @Χ <| Ä @Ψ <| Ä @Ω <| Ä @γ <| Ä @MP <| Ä @T6 <| Ä @ε <| Ä @ζ <| Ä @η <| Ä @θ <| Ä @T7 <| Ä @T8 <| Ä @ι <| Ä @T9 <| Ä @UA <| Ä @μ <| Ä @UB <| Ä @MQ <| Ä @MR <| Ä @MS <| Ä @ν <| Ä @ξ <| Ä @ο <| Ä @UC <| Ä @π <| Ä @UD <| Ä @vZ <| Ä @ς <| Ä @τ <| Ä @υ <| Ä @χ <| Ä @BE <| Ä @BF <| Ä @MT <| Ä @ψ <| Ä @ω <| Ä @ϊ <| Ä @MU <| Ä @Κ <| Ä @Λ <| Ä @Μ <| Ä @Ν <| Ä @Ξ <| Ä @rW <| Ä @MM <| Ä @MN <| Ä @MO <| Ä @ϋ <| Ä @ό <| Ä @Nat.zero_add <| Ä @true_and <| Ä @and_true <| Ä @Res.ok.injEq <| Ä @PySem.PyData.bool.injEq <| Ä @PySem.PyData.int.injEq <| Ä @PySem.PyData.list.injEq <| Ä @PySem.PyData.tuple.injEq <| Ä @Bool.not_true <| Ä @Bool.not_false <| Ä @Bool.false_eq_true <| Ä @ύ <| @ώ
end L2
namespace L2
open PySem PySem.Spec
structure Sh(k:Nat)(d:D):Prop where
 lay:d.canLay0=true
 dep:d.depth<=k
def KB :∀{ds:ZI},(∀d∈ds,Sh k d)->PyData.canLayAll0 ds=true/\PyData.depthAll ds<=k
 |[],_=>⟨by simp[PyData.canLayAll0],by simp[PyData.depthAll]⟩
 |d::ds,h=>by
  let⟨h1,h2⟩:=KB (ds:=ds) λx hx=>h x (Ò _ hx);have hd:=h d Ô;refine⟨by simp[PyData.canLayAll0,hd.lay,h1],?_⟩;have:=hd.dep;simp![PyData.depthAll];lia
def UF:Sh 1 (.int i):=⟨by simp[PyData.canLay0],by simp[PyData.depth]⟩
def MV{ds:ZI}(h:∀d∈ds,Sh k d):Sh (k+1) (.list ds):=by
 let⟨h1,h2⟩:=KB h;exact⟨by simpa[PyData.canLay0]using h1,by simp![PyData.depth];exact Nat.lt_succ_of_le ‹_›⟩
def KC{ds:ZI}(h:∀d∈ds,Sh k d):Sh (k+1) (.tuple ds):=by
 let⟨h1,h2⟩:=KB h;exact⟨by simpa[PyData.canLay0]using h1,by simp![PyData.depth];exact Nat.lt_succ_of_le ‹_›⟩
def Sh.shaped(h:Sh k d)(e:k<=64):SeqAt.shaped d=true:=by
 unfold SeqAt.shaped;rw[h.lay,decide_eq_true (Õ h.dep e)];rfl
def aAG(h:Sh k d)(e:k<=64):C4 d d=some (.bool false):=by
 unfold C4;rw[Á ⟨h.shaped e,h.shaped e⟩,SeqAt.eqv_refl _ h.lay];rfl
def DN:MF [.list ds]=some (.list ds):=rfl
def aJZ{xs:ZK}:Z1 [.list (xs.map PyData.int)]=some (.int xs.sum):=by
 show (cF (xs.map PyData.int)).map _=_;rw[iX];rfl
def rZ{k:Nat}(h:k<=ds.length):C7 (.list ds) (some (k:Int)) none=some (.list (ds.drop k)):=by
 show some (PyData.list (FV ds (some (k:Int)) none))=_;unfold FV;rw[HT.sIx_none,HT.sIx_nat,Nat.min_eq_left h,List.take_of_length_le 'e']
section
def UG:aV (ě op f lo hi) δ Q=aV f δ λd δ1=>aV (kB lo) δ1 λl δ2=>aV (kB hi) δ2 λu δ3=>vY (op d l u) δ3 Q:=by
 rw[kE];unfold aV ě TZ;cases f δ with
 |stuck=>rfl
 |err x d=>rfl
 |ok a d=>
  simp![Res.bind];cases kB lo d with
  |stuck=>rfl
  |err x d=>rfl
  |ok l d=>
   dsimp only;cases kB hi d with
   |stuck=>rfl
   |err x d=>rfl
   |ok u d=>dsimp only;cases op a l u<;>simp
def ļ(d:D)(δ:DS)(Q:Option Int->ZO)(_w:Wt Q:=⟨⟩):Prop:=∃i,d=.int i/\Q (some i) δ
def BG{Q:Option Int->ZO}:ļ (.int i) δ Q=Q (some i) δ:=by unfold ļ;simp
def uF{Q:Option Int->ZO}:aV (kB none) δ Q=Q none δ:=rfl
def uG{Q:Option Int->ZO}:aV (kB (some f)) δ Q=aV f δ λd δ1=>ļ d δ1 Q:=by
 unfold aV kB ļ;dsimp only;cases f δ with
 |stuck=>rfl
 |err x d=>rfl
 |ok a d=>cases a<;>simp[Res.bind]
end
end L2
namespace L2
open PySem PySem.Spec PyProof.Rows
section
variable {X:Cx}{Z:b8}{ow:ZH}{pos:Pos}
def cM.give{K:ZC}{d:D}(S:aO Z ow)(hps:i∉Z.ps)(R:cM K Z ow F H σ δ)(e:δ[i]?=some (some d)):∃v,σ[i]?=some (some v)/\gF K Z ow (ow.getD i 0) d v F H σ (δ.set i none):=by
 let⟨g,R⟩:=R;let⟨v,e1,o⟩:=R.slot i d e;refine⟨v,e1,λb=>match g b with|some (j,p)=>if j=i then some (1000,p)else if j=1000 then none else some (j,p)|none=>none,⟨R.sub,R.f0,R.kept,R.new,R.there,λa j p e=>?_,by rw[Ö];exact R.len,R.par,λj d' e=>?_⟩,?_⟩
 .cases q:g a with
  |none=>rw[q]at e;cases e
  |some l=>
   let⟨j',p'⟩:=l;rw[q]at e;have e:(if j'=i then some (1000,p')else if j'=1000 then none else some (j',p'))=some (j,p):=e;split at e
   .rename_i z
    refine .inl ((R.lab a j' p' q).elim id λzQ=>by let⟨q',w⟩:=zQ;exact absurd (Z.wf a j' q' w) (by rw[z];exact hps))
   .split at e
    .cases e
    .cases e;exact R.lab a j p q
 .have hj:j≠i:=λz=>by
   subst z;by_cases hl:j<δ.length
   .rw[è hl]at e;cases e
   .rw[å (by rw[Ö];exact ä.mp ‹_›)]at e;cases e
  rw[Ú (Í hj)]at e;let⟨w,e1,o1⟩:=R.slot j d' e;refine⟨w,e1,?_⟩;by_cases hz:ow.getD j 0=0
  .rw[hz]at o1⊢;exact o1
  .have j1:j<1000:=by
    by_cases hl:j<ow.length
    .exact Ó hl S.ow
    .exact absurd (by rw[Ë,å (by exact ä.mp ‹_›)];rfl) hz
   exact o1.relab λa p e=>by
    rw[e];dsimp only;rw[Â hj,Â (by exact Ê ‹_›)]
 .exact o.relab λa p e=>by
   rw[e];exact Á rfl
def MW(i:Nat):M D:=λδ=>match δ[i]? with
 |some (some d)=>.ok d (δ.set i none)
 |_=>.stuck
def DP(i:Nat){x:Str}(S:aO Z ow)(ho:↥(ow.getD i 0=n))(hps:↥(Z.ps.contains i=false))(hN:↥'s')(hv:#v[zS X.env.scope x])(hd:⇑(Zdb x))(hcd:⇑(Zcd x)):DE X Z ow n (.Name x pos) (MW i):=
 (dA hN hv hd hcd).mono λσ H Q h=>by
  let⟨F,δ,R,h⟩:=h;unfold MW at h;cases e:δ[i]? with
  |none=>sleep 1
  |some o=>
   cases o with
   |none=>sleep 1
   |some d=>
    rw[e]at h;let⟨v,e1,R'⟩:=R.give S (dG hps) e;rw[ho]at R';exact⟨v,e1,h v H F R' λ_ _ z=>z⟩
end
def f7:Option Int->ZK->Option Int
 |o,[]=>o
 |none,x::xs=>f7 (some x) xs
 |some m,x::xs=>f7 (some (if x>m then x else m)) xs
def Ϗ:ZN->Array Value
 |none=>#[]
 |some v=>#[v,v]
def aJ0(b:Option Int)(o:ZN):Prop:=match b,o with
 |none,none=>True
 |some m,some v=>∃t,v=.int m t
 |_,_=>False
section
variable {prog:Program}{w:World}{A:Around}{E:ZA}{s:Shared}
def GA(a d:Value):argsOk "max" ⟨[a],[("default",d)]⟩:=by unfold argsOk;kernel_rfl
def xN:∀o:ZN,(Ϗ o).size<=sizeLine
 |none=>by show 0<=sizeLine;decide
 |some _=>by show 2<=sizeLine;decide
def aAI{x m:Int}{t t':Tok}{Q:ZA}(h:Q (.bool (decide (x>m))) s):wpAny 'o' A (richCompare .Gt (.int x t) (.int m t')) Q E s:=CmpOf.ints_gt (P:=λi v=>∃t,v=.int (if i=0 then x else m) t) (λi=>if i=0 then x else m) (λ_ _ h=>h) 0 1 _ _ s Q E ⟨t,rfl⟩ ⟨t',rfl⟩ (by simpa using h)
def PJ{R:Result->Shared->Prop}{I S:Addr}{fp wr:ZM}{n:Nat}{P:Nat->Value->Prop}{St:Nat->Heap->Prop}{dv:Value}{xs:ZK}(W:Walks prog w A.in1 I fp wr n P St)(hP:∀i v,P i v->∃x t,xs[i]?=some x/\v=.int x t)(hx:xs.length=n)(hSf:S∉fp):
  ∀(k i:Nat)(s:Shared)(b:Option Int)(o:ZN)(c:Nat),n-i=k->i<=n->St i s.heap->aJ0 b o->s.heap.get? S=some {cls:=.type "list",dict:=none,data:=.seq (Ϗ o) c,slots:=#[]} ->
  (∀v h' tk,(match f7 b (xs.drop i)with|none=>v=dv|some m=>∃t,v=.int m t)->(∀b o,b∉wr->b≠S->s.heap.get? b=some o->h'.get? b=some o)->R (.ok (.ret v)) {s with heap:=h',toks:=tk}) ->
  codeAny 'o' A (.builtin "max.loop" ⟨[.ref I,.none,.ref S],[("default",dv)]⟩) R s:=by
 have hSw:S∉wr:=λh=>hSf (W.sub _ h);have nm:(toString "max"++toString ".loop":String)="max.loop":=by decide
 intro k
 induction k with
 |zero=>
  intro i s b o c hk hi hst hb hS hR;obtain rfl:i=n:=by lia
  rw[List.drop_of_length_le (by exact ö ‹_›),show f7 b []=b by cases b<;>rfl]at hR;refine codeAny_builtin F.entry_max_loop ?_;rw[Around.under_plainId F.plain_max_loop _];refine(show wpAny _ A.in1 (seqItems? (.ref S) >>= _) _ _ s from wpAny_bind (wpAny_seqItems hS rfl ?_));refine(show wpAny _ A.in1 (tryCatch (pyNext (.ref I)) _ >>= _) _ _ s from wpAny_bind (wpAny_tryCatch (W.done s _ _ hst λh' tk hk'=>?_)));cases o with
  |none=>
   cases b with
   |some m=>exact hb.elim
   |none=>exact wpAny_bind (wpAny_rule (wpAny_pure (hR dv h' tk rfl λb o h1 _ e=>hk' b o h1 e)))
  |some v=>
   cases b with
   |none=>exact hb.elim
   |some m=>
    refine(show wpAny _ A.in1 (updateSeq S (λ_=>#[]) >>= _) _ _ _ from wpAny_bind (wpAny_updateSeq (hk' S _ hSw hS) rfl (wpAny_bind (wpAny_letGo (wpAny_pure ?_))) (hz:=xN _) (_hz':=î _)));exact hR v _ tk hb λb o h1 h2 e=>(Heap.get?_update_other _ _ (Í h2)).trans (hk' b o h1 e)
 |succ k ih=>
  intro i s b o c hk hi hst hb hS hR;have hlt:i<n:=by lia
  refine codeAny_builtin F.entry_max_loop ?_;rw[Around.under_plainId F.plain_max_loop _];refine(show wpAny _ A.in1 (seqItems? (.ref S) >>= _) _ _ s from wpAny_bind (wpAny_seqItems hS rfl ?_));refine(show wpAny _ A.in1 (tryCatch (pyNext (.ref I)) _ >>= _) _ _ s from wpAny_bind (wpAny_tryCatch (W.item i s _ _ hlt hst λv h' tk hp hst' hk'=>?_)));have hS':=hk' S _ hSw hS;let⟨x,t,ex,rfl⟩:=hP i v hp;have ed:xs.drop i=x::xs.drop (i+1):=by
   let⟨h1,h2⟩:=Î.mp ex;rw[û h1,h2]
  rw[ed]at hR;have new:(∀v h' tk,(match f7 (some x) (xs.drop (i+1))with|none=>v=dv|some m=>∃t,v=.int m t)->(∀b o,b∉wr->b≠S->s.heap.get? b=some o->h'.get? b=some o)->R (.ok (.ret v)) {s with heap:=h',toks:=tk})->codeAny 'o' A (.builtin "max.loop" ⟨[.ref I,.none,.ref S],[("default",dv)]⟩) R {s with heap:=h'.update S (Obj.mapSeq λ_=>#[.int x t,.int x t]),toks:=tk}:=λhR=>ih (i+1) _ (some x) (some (.int x t)) _ ∅ hlt (W.frame _ _ _ hst' λb hbf o e=>(Heap.get?_update_other _ _ (λh:S=b=>hSf (by rw[h];exact hbf))).trans e) ⟨t,rfl⟩ (Heap.get?_update_self _ hS' rfl) λv h'' tk'' hv hk''=>hR v h'' tk'' hv λb o h1 h2 e=>hk'' b o h1 h2 ((Heap.get?_update_other _ _ (Í h2)).trans (hk' b o h1 e));cases o with
  |none=>
   cases b with
   |some m=>exact hb.elim
   |none=>
    refine(show wpAny _ A.in1 (updateSeq S (λ_=>#[.int x t,.int x t]) >>= _) _ _ _ from wpAny_bind (wpAny_updateSeq hS' rfl ?_ (hz:=xN _) (_hz':=(by show 2<=sizeLine+1;decide))));rw[nm];exact wpAny_pure ⟨plainId_quiet F.plain_max_loop _,new hR⟩
  |some vb=>
   cases b with
   |none=>exact hb.elim
   |some m=>
    let⟨t',rfl⟩:=hb;refine(show wpAny _ A.in1 (tryCatch (holding [.int x t,.int x t] (richCompare .Gt (.int x t) (.int m t') >>= _)) _ >>= _) _ _ _ from wpAny_bind (wpAny_tryCatch (wpAny_holding (wpAny_bind (aAI ?_)))));refine wpAny_bind (wpAny_holding (wpAny_truthy_bool (wpAny_bind (wpAny_letGo (wpAny_pure ?_)))));by_cases hg:x>m
    .rw[show f7 (some m) (x::xs.drop (i+1))=f7 (some x) (xs.drop (i+1)) by simp[f7,hg]]at hR
     simp![hg,decide_true,if_true];refine wpAny_bind (wpAny_updateSeq hS' rfl (wpAny_bind (wpAny_letGo ?_)) (hz:=xN _) (_hz':=(by show 2<=sizeLine+1;decide)));rw[nm];exact wpAny_pure ⟨plainId_quiet F.plain_max_loop _,new hR⟩
    .rw[show f7 (some m) (x::xs.drop (i+1))=f7 (some m) (xs.drop (i+1)) by simp[f7,hg]]at hR
     simp![hg,decide_false,Bool.false_eq_true,if_false];refine wpAny_bind (wpAny_letGo ?_);rw[nm];exact wpAny_pure ⟨plainId_quiet F.plain_max_loop _,ih (i+1) _ (some m) (some (.int m t')) c ∅ hlt hst' ⟨t',rfl⟩ hS' λv h'' tk'' hv hk''=>hR v h'' tk'' hv λb o h1 h2 e=>hk'' b o h1 h2 (hk' b o h1 e)⟩
def PK{x dv:Value}{xs:ZK}{Q:ZA}(h:wpAny 'o' A.in1 (pyIter x) (λit s₂=>∃I fp wr n P St,it=.ref I/\Walks prog w A.in1 I fp wr n P St/\St 0 s₂.heap/\(∀b∈fp,b<s₂.heap.objs.size)/\(∀i v,P i v->∃x t,xs[i]?=some x/\v=.int x t)/\xs.length=n /\
   ∀v h' tk,(match f7 none xs with|none=>v=dv|some m=>∃t,v=.int m t)->(∀b o,b∉wr->s₂.heap.get? b=some o->h'.get? b=some o)->Q v {s₂ with heap:=h',toks:=tk}) E s):wpAny 'o' A (call (.builtin "max") [x] [("default",dv)]) Q E s:=by
 have nm:(toString "max"++toString ".loop":String)="max.loop":=by decide
 refine wpAny_call (codeAny_call_builtin F.plain_max F.entry_max ?_);simp![checkBuiltinCall,F.kind_max];have key:wpAny 'o' A.in1 (Builtin.«max» ⟨[x],[("default",dv)]⟩) (λfin s'=>match fin with
   |.done f=>(match (Except.ok f:Result)with|.ok (.ret v)=>Q v s'|.ok _=>False|.error e=>E e s')
   |.again c'=>c'.quiet=true/\codeAny 'o' A c' (λr s'=>match r with|.ok (.ret v)=>Q v s'|.ok _=>False|.error e=>E e s') s') E s:=by
  refine(show wpAny _ A.in1 (Builtin.Builtins.bindParams "max" ["key","default"] 0 ⟨[],[("default",dv)]⟩ >>= _) _ _ s from wpAny_bind (wpAny_of_eq (show Builtin.Builtins.bindParams "max" ["key","default"] 0 ⟨[],[("default",dv)]⟩=pure [none,some dv]from rfl) ?_));refine wpAny_bind (wpAny_pure (wpAny_bind (wpAny_mono h (λit s₂ h₂=>?_) λ_ _ e=>e)));let⟨I,fp,wr,n,P,St,rfl,W,hst,hfp,hP,hx,hQ⟩:=h₂;refine wpAny_bind (wpAny_newObj_type ?_);have hSf:s₂.heap.objs.size∉fp:=λhm=>ø _ (hfp _ hm);rw[nm];refine wpAny_pure ⟨plainId_quiet F.plain_max_loop _,PJ (dv:=dv) W hP hx hSf _ 0 _ none none _ rfl (î _) (W.frame _ _ _ hst λb _ o e=>Heap.get?_push_of_some _ e) trivial (Heap.get?_push_size _ rfl) λv h' tk hv hk=>?_⟩;rw[List.drop_zero]at hv;exact hQ v h' tk hv λb o hbw e=>hk b o hbw (Ê 'r') (Heap.get?_push_of_some _ e)
 have ha:=GA x dv;cases hsig:Manifest.signature? "max"with
 |none=>exact wpAny_pure key
 |some sig=>
  simp![argsOk,hsig]at ha;have h2:Bind.checkArgs "max" sig ⟨[x],[("default",dv)]⟩=pure ():=ha;refine(show wpAny _ A.in1 (Bind.checkArgs "max" sig ⟨[x],[("default",dv)]⟩) _ _ s from ?_);rw[h2];exact wpAny_pure key
end
section
def aJ1(X:Cx)(te tc:TE):TE:=λσ H Q=>RU te ŋ σ H λvs H1=>tc σ H1 λd H2=>∃(p:Addr)(xs:ZK),vs=[.ref p]/\eK X.K H2 p (xs.map V.int)/\Q (match f7 none xs with|none=>d|some m=>.int m) H2
def UH{U:ZB}{s:Shared}{σ:St}{H:Hp}{Q:VK}{p:Addr}{xs:ZK}{d:V}{dv:Value}(hc:X.calm=true)(I:Inv X U σ H s)(hq:eK X.K H p (xs.map V.int))(rd:bG d dv)(q:Q (match f7 none xs with|none=>d|some m=>.int m) H):
  wpAny 'b' X.A (call (.builtin "max") [.ref p] [("default",dv)]) (EP X U σ Q) X.xe s:=by
 let⟨its,rv,pl,hz⟩:=I.list hq;refine PK (xs:=xs) (wpAny_pyIter_list pl.isList ?_);have hlen:=rv.length;rw[Å]at hlen;have hlt:p<s.heap.objs.size:=by
  let⟨o,n,e,_⟩:=pl;exact Heap.lt_size e
 sleep 6;let⟨its',rv',pl',_⟩:=ph.list hq;have e1:its=its':=by
  let⟨o,n,e,c,dn,d⟩:=pl;let⟨o',n',e',c',dn',d'⟩:=pl';have e2:=Heap.get?_push_of_some {cls:=.type "list_iterator",data:=.fields #[.ref p,.int 0 0]} e;rw[e2]at e';cases e';rw[d]at d';injection d' with d1 _;simpa using congrArg Array.toList d1
 subst e1;refine⟨s.heap.objs.size,_,_,_,_,_,rfl,Walks.list (A:=X.A.in1) (show X.A.in1.handled=none from I.ok.hd hc) s.heap.objs.size p (Ê hlt) its.toArray,⟨⟨_,Heap.get?_push_size _ rfl,rfl,rfl⟩,pl'.isList⟩,λb hb=>?_,λi v hv=>?_,by simp;assumption,λv h' tk hv k=>?_⟩
 .show b<(s.heap.push _).objs.size
  rw[Heap.size_push]
  grind
 .have hv:its.toArray[i]?=some v:=hv
  exact bH.int_at (i:=i) rv (by simpa using hv)
 .have I2:=ph.turned (it:=s.heap.objs.size) (h':=h') (t':=tk) (λb o hb e=>k b o (by simpa using hb) e) (I.hok.fresh (Ç _)) (Û I.lt) (.inr I.sz) (λx c e=>by
   let⟨v,q⟩:=I.cell x c e;exact Ê q.lt) λp hp=>Ê (Heap.lt_size (I.pin p hp).1)
  refine⟨_,H,I2,?_,q⟩;cases eb:f7 none xs with
  |none=>grind
  |some m=>rw[eb]at hv;exact hv
def aAJ{p pos kp:Pos}(hc:X.calm=true)(hg:Gl X "max")(hm:X.mg "max"=none)(ha:PE X e te)(hd:PE X c tc)(hs:↥(Zse e [] X.env))(hv:bootBuiltins "max"=some (.builtin "max"):=by decide +kernel):
  PE X (.Call (.Name "max" p) [e] [⟨some "default",c,kp⟩] pos) (aJ1 X te tc):=by
 intro U s σ H Q I h;refine wpAny_Call_Name_kw (iT I hg hm hv ?_ ⋯ ⋯);have a1:backTo pos (starEach [e] X.env)=(false,eval e X.env)::backTo pos (starEach [] X.env):=by rw[hs];rfl
 refine callWith_kw (cL ((dW ha iU hs) pos U s σ H _ I h) λus s1 zQ=>?_) a1 (by rw[a1];rfl) rfl rfl;let⟨vs,H1,I1,r,q⟩:=zQ;refine kws_cons (cL (hd U s1 σ H1 _ I1 q) λu s2⟨d,H2,I2,rd,q2⟩=>kws_nil ?_);let⟨l,xs,rfl,hq,q2⟩:=q2;let⟨u',rfl,rx⟩:=mU r;cases rx;exact UH hc I2 hq rd q2
def GB(f g:M D):M D:=λδ=>(f δ).bind λd δ1=>(g δ1).bind λe δ2=>match d,e with
 |.list ds,.int n=>(match cF ds with
  |some xs=>.ok (.int ((f7 none xs).getD n)) δ2
  |none=>.stuck)
 |_,_=>.stuck
def aAK(hc:X.calm=true)(hg:Gl X "max")(hm:X.mg "max"=none)(ha:DE X Z ow 0 e f)(hd:DE X Z ow 0 c g)(hs:↥(Zse e [] X.env)):DE X Z ow 0 (.Call (.Name "max" p) [e] [⟨some "default",c,kp⟩] pos) (GB f g):=
 (aAJ hc hg hm ha hd hs).mono λσ H Q h=>by
  let⟨F,δ,R,h⟩:=h;unfold GB at h;sleep 2;cases e1:f δ with
  |stuck=>rw[e1]at h;exact h.elim
  |err x δ1=>rw[e1]at h;exact h
  |ok d1 δ1=>
   rw[e1]at h;intro x H1 F1 R1 s1;refine⟨F1,δ1,R1.rel,?_⟩;simp![Res.bind]at h;cases e2:g δ1 with
   |stuck=>rw[e2]at h;exact h.elim
   |err x δ2=>rw[e2]at h;exact iV.mono h s1
   |ok d2 δ2=>
    rw[e2]at h;simp![Res.bind]at h;intro y H2 F2 R2 s2;split at h
    .rename_i ds n
     cases e3:cF ds with
     |none=>rw[e3]at h;exact h.elim
     |some xs=>
      rw[e3]at h;let⟨l,vs,rfl,hx,rx⟩:=j8 R1.rep;rw[gO e3 rx]at hx;have ry:=R2.rep;unfold bI at ry;subst ry;refine⟨l,xs,rfl,R2.rel.sub.seq (s2.seq hx),h _ H2 F2 (R2.rel.x ?_) (s1.trans' s2)⟩;cases f7 none xs with
      |none=>show bI X.K F2 (.int n) (.int n);unfold bI;rfl
      |some m=>show bI X.K F2 (.int m) (.int m);unfold bI;rfl
    .exact h.elim
end
section
end
end L2
namespace L2
open PySem PySem.Spec
section
def MX:D->D->ZL
 |.list ds,.int n=>(cF ds).map λxs=>.int ((f7 none xs).getD n)
 |_,_=>none
def aAL:GB f g=gJ MX f g:=by
 funext δ;unfold GB gJ;cases f δ with
 |stuck=>rfl
 |err x d=>rfl
 |ok a d=>
  simp![Res.bind];cases g d with
  |stuck=>rfl
  |err x d=>rfl
  |ok b d=>
   simp![Res.bind];cases a<;>cases b<;>try rfl
   rename_i ds n;simp![MX];cases cF ds<;>rfl
def aGP:aV (GB f g) δ Q=aV (gJ MX f g) δ Q:=by rw[aAL]
def DQ:aV (MW i) δ Q=gQ δ[i]? δ λd δ=>Q d (δ.set i none):=by
 rw[lX];unfold aV MW DK;cases e:δ[i]? with
 |none=>simp
 |some o=>cases o<;>simp
def KD{Q:Bool->ZO}:aV (A8 c) δ Q=aV c δ λb _=>Q b δ:=by
 unfold aV A8;cases c δ<;>rfl
def aJ2:aV (Z3 i lo hi) δ Q=gQ δ[i]? δ λ_ _=>aV (kB lo) δ λl δ1=>aV (kB hi) δ1 λu δ2=>gQ δ2[i]? δ2 λd δ2=>vY (C7 d l u) δ2 Q:=by
 unfold aV Z3 gQ vY;cases δ[i]? with
 |none=>rfl
 |some o=>
  cases o with
  |none=>rfl
  |some d0=>
   dsimp only;cases kB lo δ with
   |ok l δ1=>
    dsimp![Res.bind];cases kB hi δ1 with
    |ok u δ2=>
     dsimp only;cases δ2[i]? with
     |none=>rfl
     |some o=>
      cases o with
      |none=>rfl
      |some d=>cases d<;>rfl
    |_=>rfl
   |_=>rfl
def xO{ds zs:ZI}:DL (TL ds [.list zs]) i δ Q=(ds.length+zs.length<=sizeLine/\Q .none (δ.set i (some (.list (ds++zs))))):=by
 by_cases h:ds.length+zs.length<=sizeLine
 .have:TL ds [.list zs]=some (.none,ds++zs):=Á h
  rw[this,Ι];simp[h]
 .have:TL ds [.list zs]=none:=Â h
  rw[this];simp[h,MK,Z9]
end
end L2
namespace L2
open PySem PySem.Spec PyProof.Rows
def wA:D->Option (ZI)
 |.list xs=>some xs
 |.tuple xs=>some xs
 |_=>none
def ĩ:D->D->ZL:=λa b=>match wA b with
 |some xs=>if SeqAt.shaped a=true/\SeqAt.shaped b=true then some (.bool (xs.any λy=>PyData.eqv y a))else none
 |none=>none
section
def ϐ(K:ZC):R2:=λx y H Q=>∃d e xs,bI K H d x/\bI K H e y/\wA e=some xs/\SeqAt.shaped d=true/\SeqAt.shaped e=true/\Q (.bl (xs.any λy=>PyData.eqv y d)) H
def aGQ(hu:X.A.units+64<cLine):jG X (compareOp .In) (ϐ X.K):=by
 intro U s σ H x y v u Q I rx ry h;let⟨d,e,xs,hd,he,hi,sd,se,q⟩:=h;let⟨as,ra⟩:=bI.reads I d x v (gM sd) hd rx;let⟨bs,rb⟩:=bI.reads I e y u (gM se) he ry;have lay:=SeqAt.canLay_of_shaped se;have dep:=SeqAt.depth_of_shaped se;have ld:=SeqAt.canLay_of_shaped sd;cases e with
 |list ys=>
  cases hi;rw[PyData.depth]at dep;have:min (PyData.depthAll xs) d.depth<=PyData.depthAll xs:=Nat.min_le_left _ _;exact SeqAt.in_list_reads rb ra (by simpa[PyData.canLay0]using lay) ld ∅ (mT I q rfl)
 |tuple ys=>
  cases hi;rw[PyData.depth]at dep;have:min (PyData.depthAll xs) d.depth<=PyData.depthAll xs:=Nat.min_le_left _ _;exact SeqAt.in_tuple_reads rb ra (by simpa[PyData.canLay0]using lay) ld ∅ (mT I q rfl)
 |_=>cases hi
def aGR:mR X (ϐ X.K) 0 ĩ:=λZ ow F H σ δ a b x y d Q S R ra rb e q=>by
 unfold ĩ at e;cases hi:wA b with
 |none=>rw[hi]at e;cases e
 |some xs=>
  rw[hi]at e;dsimp only at e;split at e
  .rename_i hc
   cases e;exact⟨a,b,xs,R.sub.rep _ _ ra,R.sub.rep _ _ rb,hi,hc.1,hc.2,q _ H F (R.x gN) 'k'⟩
  .cases e
end
section
variable {X:Cx}{Z:b8}{ow ol ox:ZH}{n rm m:Nat}{pos:Pos}{e a b c tg:Expr}{f h:M D}{F F' H H':Hp}{σ:St}{δ δ':DS}{g g':ZP}{K:ZC}
def bD.keep(hF:aL F F')(h:∀a p o,g a=some (i,p)->H a=some o->F a=none->g' a=some (i,p)/\H' a=some o/\F' a=none)(r:bD K F H g i n p d v):bD K F' H' g' i n p d v:=r.keepJ hF h
def iN.updNe{b:Addr}{i i0:Nat}{q0:ZH}{o:HO}(hb:g b=some (i0,q0)){f c:Nat}{p:ZH}{d:D}{v:V}(hn:i≠i0\/¬p <+: q0)(r:iN K F H g i f c p d v):iN K F (aX H b o) g i f c p d v:=by
 induction f generalizing c p d v with
 |zero=>
  cases c with
  |zero=>exact r
  |succ c=>exact r.elim
 |succ f ih=>
  cases c with
  |zero=>exact r
  |succ c=>
   let⟨ds,vs,cs,nd,hc,hl,r⟩:=r;refine⟨ds,vs,cs,nd,λx hx=>?_,hl,λk d' v' z1 z2=>ih (hn.imp id λz w=>z ((List.prefix_append p [k]).trans w)) (r k d' v' z1 z2)⟩;let⟨a1,a2,a3⟩:=hc x hx;have ne:x.1≠b:=λz=>by
    rw[z,hb]at a1;cases a1;exact hn.elim (λz=>z rfl) λz=>z (List.prefix_append _ _)
   exact⟨a1,by rw[aG ne];exact a2,a3⟩
def bD.updNe{b:Addr}{i i0:Nat}{q0:ZH}{o:HO}(hb:g b=some (i0,q0)){n:Nat}{p:ZH}{d:D}{v:V}(hn:i≠i0\/¬p <+: q0)(r:bD K F H g i n p d v):bD K F (aX H b o) g i n p d v:=iN.updNe hb hn r
def I8:ZH->DS->DS
 |[],δ=>δ
 |_::_,[]=>[]
 |n::ow,o::δ=>(if n=0 then o else none)::I8 ow δ
def MY:∀{ow:ZH}{δ:DS},(I8 ow δ).length=δ.length
 |[],_=>rfl
 |_::_,[]=>rfl
 |n::ow,o::δ=>by unfold I8;rw[Ý,Ý,MY]
def UI:∀{ow:ZH}{δ:DS}{i:Nat}{d:D},(I8 ow δ)[i]?=some (some d)->ow.getD i 0=0/\δ[i]?=some (some d)
 |[],_,i,_,e=>⟨by simp,e⟩
 |_::_,[],_,_,e=>by unfold I8 at e;cases e
 |n::ow,o::δ,0,d,e=>by
  unfold I8 at e;rw[List.getElem?_cons_zero]at e;split at e
  .rename_i h;exact⟨h,e⟩
  .cases e
 |n::ow,o::δ,i+1,d,e=>by
  unfold I8 at e;rw[List.getElem?_cons_succ]at e;let⟨h1,h2⟩:=UI e;exact⟨by simpa using h1,by simpa using h2⟩
def cA.hide(R:cA K Z ow g F H σ δ):cM K (i5 F H σ m) 'j' F H σ (I8 ow δ):=
 ⟨λ_=>none,R.sub,⟨R.f0.lm,λ_ _ z=>z⟩,λ_ _ _ e=>e,λ_ h _=>h,λ_ h=>h,λ_ _ _ e=>(by cases e),by rw[MY];exact R.len,λi hi=>(by cases hi),λi d e=>by
  let⟨h0,e⟩:=UI e;let⟨v,e1,o⟩:=R.slot i d e;rw[h0]at o;exact⟨v,e1,by rw[lW];exact o⟩⟩
def cA.back(R:cA K Z ow g F H σ δ)(R':cA K (i5 F H σ m) 'j' g' F' H' σ δ'):cA K Z ow g F' H' σ δ:=by
 have hk:∀b o,H b=some o->H' b=some o:=λb o e=>R'.kept b o rfl e;refine⟨R'.sub,R.f0.trans' R'.f0.2,λb o n e=>hk b o (R.kept b o n e),λa h1 h2=>R'.new a (R.new a h1 h2) (R.there a h2),λb h=>?_,R.lab,R.len,R.par,λi d e=>?_⟩
 .cases e:H b with
  |none=>exact absurd e (R.there b h)
  |some o=>rw[hk b o e];simp
 .obtain⟨v,e1,o⟩:=R.slot i d e
  exact⟨v,e1,o.keep (show aL F F' from R'.f0.2) λa p o e1 e2 e3=>⟨e1,hk a o e2,R'.new a e3 (show H a≠none by rw[e2];simp)⟩⟩
def cA.at2{i j:Nat}{ds inner:ZI}(R:cA K Z ow g F H σ δ)(ho:ow.getD i 0=2)(hd:δ[i]?=some (some (.list ds)))(hj:ds[j]?=some (.list inner)):
  ∃a vs b ws,σ[i]?=some (some (.ref a))/\H a=some (.lst vs)/\ds.length=vs.length/\vs[j]?=some (.ref b)/\H b=some (.lst ws)/\aE K F inner ws:=by
 let⟨v,e1,o⟩:=R.slot i _ hd;rw[ho]at o;let⟨a,ds0,vs,q1,q2,q3,q4,q5,q6,q7⟩:=o.lst (m:=1);cases q1;subst q2;have jl:j<vs.length:=by rw[<- q6];exact(Î.mp hj).1
 let⟨b,inner',ws,w1,w2,w3,w4,w5,w6,w7⟩:=(q7 j _ _ hj (É jl)).lst (m:=0);cases w1;exact⟨a,vs,b,ws,e1,q4,q6,by rw[É jl,w2],w4,aE.of w6 w7⟩
def cA.rewrite2{a b:Addr}(R:cA K Z ow g F H σ δ)(ho:ow.getD i 0=2)(hd:δ[i]?=some (some (.list ds)))(hs:σ[i]?=some (some (.ref a)))(ha:H a=some (.lst vs))(hb:vs[j]?=some (.ref b))(hr:aE K F inner' vs'):
  cA K Z ow g F (aX H b (.lst vs')) σ (δ.set i (some (.list (ds.set j (.list inner'))))):=by
 let⟨v,e1,o⟩:=R.slot i _ hd;rw[hs]at e1;cases e1;rw[ho]at o;let⟨a',ds0,vs0,q1,q2,q3,q4,q5,q6,q7⟩:=o.lst (m:=1);cases q1;cases q2;rw[ha]at q4;cases q4;have jl:j<vs.length:=(Î.mp hb).1;have jd:j<ds.length:=by exact ò ‹_› (Eq.symm ‹_›)
 let⟨b',inner,ws,w1,w2,w3,w4,w5,w6,w7⟩:=(q7 j _ _ (É jd) hb).lst (m:=0);cases w2;have hi:i<δ.length:=(Î.mp hd).1;have nab:a≠b:=λz=>by rw[z,w3]at q3;cases q3
 refine⟨λb' u e=>?_,R.f0,λb' u n e=>?_,R.new,λb' z=>?_,R.lab,by rw[Ö];exact R.len,R.par,λk d e=>?_⟩
 .have:b'≠b:=λz=>by rw[z,w5]at e;cases e
  rw[aG this];exact R.sub b' u e
 .have:b'≠b:=λz=>by
   subst z;rcases R.lab b' i _ w3 with w|⟨q,w⟩
   .rw[w]at e;cases e
   .rw[w]at n;cases n
  rw[aG this];exact R.kept b' u n e
 .by_cases hb':b'=b
  .subst hb';rw[aN];simp
  .rw[aG hb'];exact R.there b' z
 .by_cases hk:k=i
  .subst hk
   rw[è hi]at e;cases e;refine⟨_,hs,?_⟩;rw[ho];refine bD.mkL (m:=1) ⟨a,_,vs,rfl,rfl,q3,by rw[aG nab];exact ha,q5,by rw[Ö];exact q6,λl d' v' z1 z2=>?_⟩
   by_cases hl:j=l
   .subst hl
    rw[è jd]at z1;cases z1;rw[hb]at z2;cases z2;exact bD.mkL (m:=0) ⟨b,inner',vs',rfl,rfl,w3,aN,w5,hr.len,λk d' v' z1 z2=>hr.both k d' v' z1 z2⟩
   .rw[Ú hl]at z1
    refine bD.updNe w3 (.inr λz=>?_) (q7 l d' v' z1 z2);have z:[l] <+: [j]:=z;let⟨t,ht⟩:=z;cases ht;exact hl rfl
  .rw[Ú (Í hk)]at e
   let⟨v,e1,o⟩:=R.slot k d e;exact⟨v,e1,bD.updNe w3 (.inl hk) o⟩
def pM(ow:ZH)(i:Nat)(fk:M D)(op:ZI->ZI->Option (D×ZI))(fs:List (M D)):M D:=λδ=>match δ[i]? with
 |some (some (.list ds))=>(match fk δ with
  |.ok (.int k) _=>(match mO ds.length k with
   |some j=>(match ds[j]? with
    |some (.list inner)=>(match aZ fs (I8 ow δ)with
     |.ok args _=>(match op inner args with
      |some (ret,inner')=>.ok ret (δ.set i (some (.list (ds.set j (.list inner')))))
      |none=>.stuck)
     |_=>.stuck)
    |_=>.stuck)
   |none=>.stuck)
  |_=>.stuck)
 |_=>.stuck
def GC(h:pM ow i fk op fs δ=.ok d δ1):
  ∃ds k δ2 j inner args δ3 inner',δ[i]?=some (some (.list ds))/\fk δ=.ok (.int k) δ2/\mO ds.length k=some j/\ds[j]?=some (.list inner)/\aZ fs (I8 ow δ)=.ok args δ3/\op inner args=some (d,inner')/\δ1=δ.set i (some (.list (ds.set j (.list inner')))):=by
 unfold pM at h;split at h
 .rename_i ds e1
  split at h
  .rename_i k δ2 e2
   split at h
   .rename_i j e3
    split at h
    .rename_i inner e4
     split at h
     .rename_i args δ3 e5
      split at h
      .rename_i ret inner' e6
       cases h;exact⟨ds,k,δ2,j,inner,args,δ3,inner',e1,e2,e3,e4,e5,e6,rfl⟩
      .cases h
     .cases h
    .cases h
   .cases h
  .cases h
 .cases h
theorem UJ(h:pM ow i fk op fs δ=.err x δ1):False:=by
 unfold pM at h;split at h
 .split at h
  .split at h
   .split at h
    .split at h
     .split at h<;>cases h
     .cases h
    .cases h
   .cases h
  .cases h
 .cases h
def KF(m:Nat)(h:∀F H σ,DE X (i5 F H σ m) 'j' 0 ek fk):PE X ek (λσ H Q=>∃F0,tD X (i5 F0 H σ m) 'j' 0 fk σ H Q):=λU s σ H Q I zQ=>by let⟨F0,q⟩:=zQ;exact h F0 H σ U s σ H Q I q
def aGS(m:Nat)(h:∀F H σ,DV X (i5 F H σ m) 'j' es fs):PA X es (λσ H Q=>∃F0,tV X (i5 F0 H σ m) 'j' fs σ H Q):=λcp U s σ H Q I zQ=>by let⟨F0,q⟩:=zQ;exact h F0 H σ cp U s σ H Q I q
def GD(m:Nat)(ho:ow.getD i 0=2)(hm:FP X r op)(h:tD X Z ow 0 (pM ow i fk op fs) σ H Q):
  RD i σ H λx H1=>∃F0,tD X (i5 F0 H1 σ m) 'j' 0 fk σ H1 λy H2=>ō X.K x y H2 λv H3=>Ĵ X.K "list" v H3/\∃F1,tV X (i5 F1 H3 σ m) 'j' fs σ H3 λxs H4=>r v xs H4 Q:=by
 let⟨F,δ,⟨g,R⟩,h⟩:=h;cases e:pM ow i fk op fs δ with
 |stuck=>sleep 1
 |err x δ1=>exact(UJ e).elim
 |ok d δ1=>
  rw[e]at h;let⟨ds,k,δ2,j,inner,args,δ3,inner',e1,e2,e3,e4,e5,e6,rfl⟩:=GC e;let⟨a,vs,b,ws,q1,q2,q3,q4,q5,q6⟩:=R.at2 ho e1 e4;refine⟨_,q1,IZ g F H,IZ g F H,δ,R.bor,?_⟩;rw[e2];rintro v H1 F1 ⟨g1,R1,o1⟩ s1;have ev:v=.int k:=by
   have o1:bI X.K F1 (.int k) v:=o1;unfold bI at o1;exact o1
  subst ev;have hk:aL H H1:=λb o e=>R1.kept b o rfl e;have R2:=R.grow hk;refine⟨a,vs,k,.ref b,rfl,rfl,eK.of (hk _ _ q2),?_,.inl ⟨rfl,ws,eK.of (hk _ _ q5)⟩,F,F,I8 ow δ,R2.hide,?_⟩
  .unfold atI
   rw[<- q3,e3];exact q4
  .rw[e5]
   rintro us H2 F2 ⟨g3,R3⟩ s3 ra;have hk2:aL H1 H2:=λb o e=>R3.kept b o rfl e;have R4:=R2.back R3;let⟨xs',rv,w1,w2,w3⟩:=hm F2 H2 b ws us inner args d inner' (hk2 _ _ (hk _ _ q5)) R4.sub (s3.repAll _ _ q6) ra e6;exact w3 Q (h rv _ F2 ⟨g,R4.rewrite2 ho e1 q1 (hk2 _ _ (hk _ _ q2)) q4 w1,w2⟩ s3)
def MZ(i m:Nat){x:Str}{p p2 q:Pos}{id:String}(slot:Slot "list" name id)(hty:typeOf (.builtin id)=pure (.type "method_descriptor"))(hmr:ģ X id r)(hm:FP X r op)(hk:∀F H σ,DE X (i5 F H σ m) 'j' 0 ek fk)(ha:∀F H σ,DV X (i5 F H σ m) 'j' (e::es) fs)(ho:↥(ow.getD i 0=2))(hN:↥'s')(hv:#v[zS X.env.scope x])(hd:⇑(Zdb x))(hcd:⇑(Zcd x))(hp:oA ek:=by exact λ_ _=>rfl)(hbase:↥(attributeBase (.Subscript 'g' ek p2) name X.env (eval (.Subscript 'g' ek p2) X.env)=eval (.Subscript 'g' ek p2) X.env))(hfew:↥(((backTo pos (starEach (e::es) X.env)).all (λx=>!x.1) && (backToKw pos (keywordEach [] X.env)).all (λx=>x.1.isSome)
   && decide ((e::es).length+([]:List Keyword).length+(if ([]:List Keyword).isEmpty then 0 else 1)<30))=true))(hline:↥((q.endLine == pos.line)=true))(hs:↥(Zse e es X.env))(hplain:↥(Zbt pos es X.env)):
  DE X Z ow 0 (.Call (.Attribute (.Subscript 'g' ek p2) name q) (e::es) [] pos) (pM ow i fk op fs):=PE.mono (ź PySem.F.plainAttrs_list slot hty hmr (FA rA (dA hN hv hd hcd) (KF m hk) hp) (aGS m ha) hbase hfew hline hs hplain) λ_ _ _ h=>GD m ho hm h
def UK(i m:Nat){x:Str}{p p2 q:Pos}{id:String}(slot:Slot "list" name id)(hty:typeOf (.builtin id)=pure (.type "method_descriptor"))(hmr:ģ X id r)(hm:FP X r op)(hk:∀F H σ,DE X (i5 F H σ m) 'j' 0 ek fk)(ho:↥(ow.getD i 0=2))(hN:↥'s')(hv:#v[zS X.env.scope x])(hd:⇑(Zdb x))(hcd:⇑(Zcd x))(hp:oA ek:=by exact λ_ _=>rfl)(hbase:↥(attributeBase (.Subscript 'g' ek p2) name X.env (eval (.Subscript 'g' ek p2) X.env)=eval (.Subscript 'g' ek p2) X.env))(hline:↥((q.endLine == pos.line)=true)):
  DE X Z ow 0 (.Call (.Attribute (.Subscript 'g' ek p2) name q) [] [] pos) (pM ow i fk op []):=PE.mono (aE6 PySem.F.plainAttrs_list slot hty hmr (FA rA (dA hN hv hd hcd) (KF m hk) hp) hbase hline) λσ H Q h=>by
 let⟨v,e1,F0,h⟩:=GD m ho hm h;refine⟨v,e1,F0,?_⟩;let⟨F1,δ,R,h⟩:=h;refine⟨F1,δ,R,h.mono 'k' λy H2 h=>?_⟩;let⟨a,vs,k,u,w1,w2,w3,w4,w5,F2,F3,δ3,R3,q3⟩:=h;refine⟨a,vs,k,u,w1,w2,w3,w4,w5,?_⟩;exact q3 [] H2 F3 R3 'k' lM
def Ľ:ZI->ZI->Option (D×ZI)
 |ds,[]=>(match ds[ds.length-1]? with
  |some d=>some (d,ds.dropLast)
  |none=>none)
 |_,_=>none
def aAN:FP X Ż Ľ:=λF H l xs vs ds args ret ds' hl hs h1 h2 e=>by
 unfold Ľ at e;split at e
 .split at e
  .rename_i d e1
   cases e;unfold aE at h2;subst h2;let⟨v,e2,r⟩:=h1.get e1;rw[h1.len]at e2;refine⟨xs.dropLast,v,?_,r,λQ q=>⟨l,xs,v,rfl,rfl,hl,e2,q⟩⟩;rw[List.dropLast_eq_take,List.dropLast_eq_take,<- h1.len];exact h1.take _
  .cases e
 .cases e
def cM.enter(hz:∀i,ow.getD i 0=0)(R:cM K Z ow F H σ δ):cM K (i5 F H σ m) 'j' F H σ δ:=by
 let⟨g,R⟩:=R;exact⟨λ_=>none,R.sub,⟨R.f0.lm,λ_ _ z=>z⟩,λ_ _ _ e=>e,λ_ h _=>h,λ_ h=>h,λ_ _ _ e=>(by cases e),R.len,λi hi=>(by cases hi),λi d e=>by
  let⟨v,e1,o⟩:=R.slot i d e;rw[hz]at o;exact⟨v,e1,by rw[lW];exact o⟩⟩
def cM.leave(hz:∀i,ow.getD i 0=0)(R:cM K Z ow F H σ δ)(R':cA K (i5 F H σ m) 'j' g' F' H' σ δ'):cM K Z ow F' H' σ δ':=by
 let⟨g,R⟩:=R;have hk:∀b o,H b=some o->H' b=some o:=λb o e=>R'.kept b o rfl e;refine⟨λ_=>none,R'.sub,R.f0.trans' R'.f0.2,λb o n e=>hk b o (R.kept b o n e),λa h1 h2=>R'.new a (R.new a h1 h2) (R.there a h2),λb h=>?_,λ_ _ _ e=>(by cases e),R'.len,R.par,λi d e=>?_⟩
 .cases e:H b with
  |none=>exact absurd e (R.there b h)
  |some o=>rw[hk b o e];simp
 .obtain⟨v,e1,o⟩:=R'.slot i d e
  rw[lW]at o;exact⟨v,e1,by rw[hz];exact o⟩
def cM.reg(hz:∀i,ow.getD i 0=0)(R:cM K Z ow F H σ δ)(hl:∀a i p,g a=some (i,p)->Z.H0 a=none):cA K Z ow g F H σ δ:=by
 let⟨g0,R⟩:=R;exact⟨R.sub,R.f0,R.kept,R.new,R.there,λa i p e=>.inl (hl a i p e),R.len,R.par,λi d e=>by
  let⟨v,e1,o⟩:=R.slot i d e;rw[hz]at o;exact⟨v,e1,by rw[hz];exact o⟩⟩
structure GE(K:ZC)(H0 F H:Hp)(ga:ZP)(n:Nat)(acc:ZI)(ys:List V):Prop where
 len:acc.length=ys.length
 own:∀(k:Nat)(d:D)(v:V),acc[k]?=some d->ys[k]?=some v->bD K F H ga 1000 n [k] d v
 lab:∀a i p,ga a=some (i,p)->H0 a=none
def GE.keep(A:GE K H0 F H g n acc ys)(hF:aL F F')(h:∀a o,H a=some o->F a=none->H' a=some o/\F' a=none):GE K H0 F' H' g n acc ys:=
 ⟨A.len,λk d v e1 e2=>(A.own k d v e1 e2).keep hF λa p o z1 z2 z3=>⟨z1,h a o z2 z3⟩,A.lab⟩
def GE.add(A:GE K H0 F H g n acc ys)(R':cA K (i5 F H σ m) 'j' g' F' H' σ δ')(o:bD K F' H' g' 1000 n [] d v)(h0:∀a,H a=none->H0 a=none):
  ∃ga,GE K H0 F' H' ga n (acc++[d]) (ys++[v]):=by
 have hn:∀a l,g' a=some l->H a=none:=λa l e=>by
  let⟨i,p⟩:=l;rcases R'.lab a i p e with z|⟨q,z⟩
  .exact z
  .cases z
 refine⟨λb=>match g' b with|some (i,p)=>if i=1000 then some (1000,ys.length::p)else none|none=>g b,by simp[A.len],λk d' v' e1 e2=>?_,λa i p e=>?_⟩
 .by_cases hk:k<ys.length
  .rw[ï (by rw[A.len];exact hk)]at e1
   rw[ï hk]at e2;refine(A.own k d' v' e1 e2).keep (H:=H) (H':=H') (show aL F F' from R'.f0.2) λa p o z1(z2:H a=some o)z3=>⟨?_,R'.kept a o rfl z2,R'.new a z3 (show H a≠none by rw[z2];simp)⟩;cases z4:g' a with
   |none=>exact z1
   |some l=>rw[hn a l z4]at z2;cases z2
  .have hk':k=ys.length:=by
    have:=(Î.mp e2).1;rw[Ñ,ñ]at this;lia
   subst hk';rw[ã (Ç _),Nat.sub_self]at e2;rw[<- A.len,ã (Ç _),Nat.sub_self]at e1;cases e1;cases e2;have:=bD.relabP (g':=λb=>match g' b with|some (i,p)=>if i=1000 then some (1000,ys.length::p)else none|none=>g b) (j:=1000) (q:=[ys.length]) (λa p e=>by
    show (match g' a with|some (i,p)=>if i=1000 then some (1000,ys.length::p)else none|none=>g a)=_;rw[e];exact Á rfl) o
   exact this
 .cases z:g' a with
  |none=>rw[z]at e;exact A.lab a i p e
  |some l=>exact h0 a (hn a l z)
def Q9.turn2{d:D}(T:Q9 X.K F1 J ds)(R:cM X.K Z ow F H σ δ)(s:aL F1 F)(y:J.yld i H x H')(e:ds[i]?=some d):∃F',aL F F'/\cM X.K Z ow F' H' σ δ/\bI X.K F' d x/\∀a o,H a=some o->F a=none->H' a=some o/\F' a=none:=by
 rcases T.yld i H x H' d (s.trans' R.sub) y e with ⟨rfl,r⟩|⟨p,o,hp,rfl,r⟩
 .exact⟨F,aL.refl _,R,s.rep _ _ r,λa o z1 z2=>⟨z1,z2⟩⟩
 .have fp:=R.fnone hp
  refine⟨aX F p o,cC fp o,R.laid hp,r F s fp,λa u z1 z2=>?_⟩;have:a≠p:=λz=>by rw[z,hp]at z1;cases z1
  rw[aG this,aG this];exact⟨z1,z2⟩
def PL(hz:∀i,ow.getD i 0=0)(i:Nat):'l'.getD i 0=0:=by
 by_cases h:i<k
 .rw[Ë,ï (by simpa using h),ā]
  split<;>rfl
 .obtain⟨j,rfl⟩:∃j,i=j+k:=⟨i-k,∅⟩
  rw[lU];exact hz j
def GF(h:ow.all (· == 0)=true)(i:Nat):ow.getD i 0=0:=by
 by_cases hl:i<ow.length
 .have:=æ.mp h ow[i] (ă hl)
  rw[Ë,É hl];simpa using this
 .rw[Ë,å (by exact ä.mp ‹_›)];rfl
def BH{set:D->DS->Option DS}(m:Nat)(hkd:kd (n+1)=0)(hch:∀k,ch (n+1) k=n)(S:aO Z ow)(Sk:aO (Z.sh k) 'l')(hz:∀i,ow.getD i 0=0)(hs:ZT X (Z.sh k) 'l' k gt set)(q:tD X Z ow (n+1) (d9 k set fi eA fe) σ H Q):LX k (tI X Z ow fi) gt (λ_ H Q=>Q true H) (λσ H Q=>∃F0,ĕ X (i5 F0 H σ m) 'j' n fe σ H Q) σ H Q:=by
 let⟨F,δ,R,q⟩:=q;unfold d9 at q;sleep 2;cases e1:fi δ with
 |stuck=>rw[e1]at q;sleep 5
 |err x δ1=>rw[e1]at q;exact q
 |ok ds δ1=>
  rw[e1]at q;simp![Res.bind]at q;intro J H1 F1 R1 s1 T;have hcase:∃acc δ2,bP set eA fe ds [] (List.replicate k none++δ1)=.ok acc δ2/\k<=δ2.length/\kD X Z ow (n+1) (.ok (.list acc) (δ2.drop k)) F σ Q:=by
   cases e2:bP set eA fe ds [] (List.replicate k none++δ1)with
   |stuck=>rw[e2]at q;sleep 5
   |err x δ2=>rw[e2]at q;sleep 5
   |ok acc δ2=>
    rw[e2]at q;dsimp only at q;split at q
    .rename_i hk;exact⟨acc,δ2,rfl,hk,q⟩
    .sleep 5
  let⟨acc,δ2,e2,hk2,q⟩:=hcase;have hz':∀i,'l'.getD i 0=0:=PL hz;refine⟨λi m ys σ' H'=>m=ds.length-i/\i<=ds.length/\σ'.length=σ.length+k/\(∀i,σ'[i+k]?=σ[i]?)/\∃F2 δ' acc' ga,cM X.K (Z.sh k) 'l' F2 H' σ' δ'/\aL F1 F2/\GE X.K Z.H0 F2 H' ga n acc' ys/\bP set eA fe (ds.drop i) acc' δ'=.ok acc δ2,
   ⟨ds.length,rfl,î _,by simp;exact Nat.add_comm _ _,λi=>by rw[ã 'e',í,ċ],F1,_,[],λ_=>none,R1.sh S,aL.refl _,⟨rfl,λk d v e=>(by cases e),λa i p e=>(by cases e)⟩,e2⟩,?_⟩
  rintro i m' ys σ2 H2 ⟨rfl,hi,hl2,hσ2,F2,δ',acc',ga,R2,s2,A2,e3⟩;by_cases hlt:i<ds.length
  .have ed:=É hlt
   have ee:ds.drop i=ds[i]::ds.drop (i+1):=û hlt;rw[ee]at e3;unfold bP at e3;cases e4:set ds[i] δ' with
   |none=>simp![e4]at e3;cases e3
   |some δ3=>
    simp![e4]at e3;have e3':((fe δ3).bind λy δ3=>if acc'.length<sizeLine then bP set eA fe (ds.drop (i+1)) (acc'++[y]) δ3 else .stuck)=.ok acc δ2:=e3;cases e6:fe δ3 with
    |stuck=>rw[e6]at e3';cases e3'
    |err x δ5=>rw[e6]at e3';cases e3'
    |ok yd δ5=>
     rw[e6]at e3';simp![Res.bind]at e3';split at e3'
     .rename_i small
      refine .inr ⟨T.go i H2 (s2.trans' R2.sub) hlt,by rw[<- A2.len];exact small,λzs σ'' H''=>σ''.length=σ.length+k/\(∀i,σ''[i+k]?=σ[i]?)/\∃F3 δ' acc' ga,cM X.K (Z.sh k) 'l' F3 H'' σ'' δ'/\aL F1 F3/\GE X.K Z.H0 F3 H'' ga n acc' zs/\bP set eA fe (ds.drop (i+1)) acc' δ'=.ok acc δ2,λzs σ'' H'' z=>⟨ds.length-(i+1),∅,rfl,hlt,z⟩,λx H3 y=>?_⟩
      let⟨F3,s3,R3,r3,k3⟩:=T.turn2 R2 s2 y ed;refine hs F3 H3 σ2 δ' δ3 ds[i] x _ R3 r3 e4 λσ3 R4 l3 _ hσ3=>?_;dsimp only;rw[Á rfl];refine⟨F3,F3,δ3,R4.enter hz',?_⟩;rw[e6];rintro yv H6 F6 ⟨g6,R6,o6⟩ s6;have hl3:σ3.length=σ.length+k:=by exact Eq.trans ‹_› ‹_›
      have hσ4:∀i,σ3[i+k]?=σ[i]?:=λi=>(hσ3 i).trans (hσ2 i);have A3:=A2.keep s3 k3;let⟨ga',A4⟩:=A3.add R6 o6 λa ha=>by
       cases z:Z.H0 a with
       |none=>rfl
       |some u=>
        let⟨g4,R4⟩:=R4;exact absurd ha (R4.there a (by show Z.H0 a≠none;rw[z];simp))
      exact⟨hl3,hσ4,F6,δ5,acc'++[yd],ga',R4.leave hz' R6,s2.trans' (s3.trans' s6),A4,e3'⟩
     .cases e3'
  .have e:i=ds.length:=by lia
   subst e;rw[List.drop_length]at e3;unfold bP at e3;cases e3;refine .inl ⟨T.stop H2 (s2.trans' R2.sub),λp hp=>?_⟩;have R7:cM X.K Z ow F2 H2 σ (δ2.drop k):=R2.unsh S Sk hσ2 hl2 hk2;have fp:=R7.fnone hp;have zp:Z.H0 p=none:=by
    cases z:Z.H0 p with
    |none=>rfl
    |some u=>
     let⟨g4,R4⟩:=R7;exact absurd hp (R4.there p (by rw[z];simp))
   refine q _ _ F2 ⟨λb=>if b=p then some (1000,[])else ga b,(R7.reg hz λa i q e=>?_).grow (cC hp _),?_⟩ (s1.trans' s2)
   .split at e
    .rename_i z;rw[z];exact zp
    .exact A2.lab a i q e
   .refine bD.mkL (hk:=hkd) (hm:=hch) ⟨p,acc,ys,rfl,rfl,Á rfl,aN,fp,A2.len,λk d v z1 z2=>?_⟩
    refine bD.keep 'k' (λa q o y1 y2 y3=>?_) (A2.own k d v z1 z2);have:a≠p:=λz=>by rw[z,hp]at y2;cases y2
    rw[aG this];exact⟨by rw[Â this];exact y1,y2,y3⟩
def PM{set:D->DS->Option DS}(m:Nat)(S:aO Z ow)(Sk:aO (Z.sh xs.length) 'h')(hc:X.calm=true)(hi:DI X Z ow tg iter fi)(hg:∀C fp s H,PG 'f' tg gt)(hs:ZT X (Z.sh xs.length) 'h' xs.length gt set)(he:∀C fp s H,∀F1 H1 σ1,DE 'f' (i5 F1 H1 σ1 m) 'j' n elt fe)(hz:↥(ow.all (· == 0)=true))(hkd:↥(kd (n+1)=0))(hch: ~~~(∀k,ch (n+1) k=n))(hk:↥(scope.kind=.function))(hok:↥(dY X.N xs scope.names X.env.scope.names=true))(hfs: ~~~(Zfi iter X.env)):
  DE X Z ow (n+1) (.ListComp elt [⟨tg,iter,[],0⟩] scope pos) (d9 xs.length set fi eA fe):=
 PE.mono (FH (ti:=λ_ H Q=>Q true H) (te:=λσ H Q=>∃F0,ĕ X (i5 F0 H σ m) 'j' n fe σ H Q) hc hi hg (λC fp s H=>CN) (λC fp s H U s' σ H' Q I zQ=>by let⟨F0,h⟩:=zQ;exact he C fp s H F0 H' σ U s' σ H' Q I (ME (X:=X) (X':=aT X xs scope C fp s H) rfl h)) hk hok hfs)
  λ_ _ _ q=>BH m hkd hch S Sk (GF hz) hs q
def z7(i:Nat){x:Str}{pos' spos:Pos}{set:D->DS->Option DS}(m:Nat)(S:aO Z ow)(Sk:aO (Z.sh xs.length) 'h')(hc:X.calm=true)(hN:X.N.Nodup)(hi:DI X Z ow tg iter fi)(hg:∀C fp s H,PG 'f' tg gt)(hs:ZT X (Z.sh xs.length) 'h' xs.length gt set)(he:∀C fp s H,∀F1 H1 σ1,DE 'f' (i5 F1 H1 σ1 m) 'j' n elt fe)(hz:↥(ow.all (· == 0)=true))(hkd:↥(kd (n+1)=0))(hch: ~~~(∀k,ch (n+1) k=n))(hx:↥'s')(hl:↥(X.env.scope.names.lookup x=some .local))(hps:↥(Z.ps.contains i=false))(hlo:⇑(i<ow.length))(hsw:↥(swapsWith (.ListComp elt [⟨tg,iter,[],0⟩] scope pos) (some (.Name x pos')) spos.line X.env=pure true))(hk:↥(scope.kind=.function))(hok:↥(dY X.N xs scope.names X.env.scope.names=true))(hfs: ~~~(Zfi iter X.env)):
  AW X Z ow (ow.set i (n+1)) ol ox rm (.Assign [.Name x pos'] (.ListComp elt [⟨tg,iter,[],0⟩] scope pos) spos) (eQ i (d9 xs.length set fi eA fe)):=
 PS.mono (rH (ti:=λ_ H Q=>Q true H) (te:=λσ H Q=>∃F0,ĕ X (i5 F0 H σ m) 'j' n fe σ H Q) hc hN hx hl hi hg (λC fp s H=>CN) (λC fp s H U s' σ H' Q I zQ=>by let⟨F0,h⟩:=zQ;exact he C fp s H F0 H' σ U s' σ H' Q I (ME (X:=X) (X':=aT X xs scope C fp s H) rfl h)) hsw hk hok hfs)
  λDn σ H h=>BH m hkd hch S Sk (GF hz) hs (CQ S (dG hps) hlo h)
end
end L2
namespace L2
open PySem PySem.Spec
section
def UL(ow:ZH)(i:Nat)(o:Option (ZL))(k:D)(op:ZI->ZI->Option (D×ZI))(fs:List (M D))(δ:DS)(Q:D->ZO)(_w:Wt Q:=⟨⟩):Prop:=
 ∃ds n j inner,o=some (some (.list ds))/\k=.int n/\mO ds.length n=some j/\ds[j]?=some (.list inner)/\aV (aZ fs) (I8 ow δ) λargs _=>∃ret inner',op inner args=some (ret,inner')/\Q ret (δ.set i (some (.list (ds.set j (.list inner')))))
def KG:aV (pM ow i fk op fs) δ Q=aV fk δ λk _=>UL ow i δ[i]? k op fs δ Q:=by
 refine propext ⟨λh=>?_,λh=>?_⟩
 .obtain⟨d,δ1,e,q⟩:=h.ex
  let⟨ds,n,δ2,j,inner,args,δ3,inner',e1,e2,e3,e4,e5,e6,rfl⟩:=GC e;exact aV.of e2 ⟨ds,n,j,inner,e1,rfl,e3,e4,aV.of e5 ⟨d,inner',e6,q⟩⟩
 .obtain⟨k,δ2,e2,q⟩:=h.ex
  let⟨ds,n,j,inner,e1,rfl,e3,e4,w⟩:=q;let⟨args,δ3,e5,ret,inner',e6,q⟩:=w.ex;refine aV.of (a:=ret) (δ1:=δ.set i (some (.list (ds.set j (.list inner'))))) ?_ q;unfold pM;rw[e1];dsimp only;rw[e2];dsimp only;rw[e3];dsimp only;rw[e4];dsimp only;rw[e5];dsimp only;rw[e6]
def M0(o:Option (D×ZI))(ds:ZI)(j i:Nat)(δ:DS)(Q:D->ZO)(_w:Wt Q:=⟨⟩):Prop:=∃ret inner',o=some (ret,inner')/\Q ret (δ.set i (some (.list (ds.set j (.list inner')))))
def KH{ds inner:ZI}(e3:mO ds.length n=some j)(e4:ds[j]?=some (.list inner)):UL ow i (some (some (.list ds))) (.int n) op fs δ Q=aV (aZ fs) (I8 ow δ) λargs _=>M0 (op inner args) ds j i δ Q:=by
 unfold UL M0;refine propext ⟨λh=>?_,λh=>?_⟩
 .obtain⟨ds',n',j',inner',h1,h2,h3,h4,w⟩:=h
  cases h1;cases h2;rw[e3]at h3;cases h3;rw[e4]at h4;cases h4;exact w
 .exact⟨ds,n,j,inner,rfl,rfl,e3,e4,h⟩
def aGT:M0 (some (r,l)) ds j i δ Q=Q r (δ.set i (some (.list (ds.set j (.list l))))):=propext ⟨λ⟨_,_,h,q⟩=>by cases h;exact q,λq=>⟨_,_,rfl,q⟩⟩
def DR{d:D}:M0 (JY l [d]) ds j i δ Q=(l.length<sizeLine/\Q .none (δ.set i (some (.list (ds.set j (.list (l++[d]))))))):=by
 refine propext ⟨λzQ=>?_,λzQ=>by let⟨h,p⟩:=zQ;exact ⟨_,_,Á h,p⟩⟩;let⟨r,d2,h,p⟩:=zQ;unfold JY at h;dsimp only at h;split at h
 .rename_i hc;cases h;exact⟨hc,p⟩
 .cases h
end
end L2
namespace L2
open PySem PySem.Spec PyProof.Rows
end L2
namespace L2
open PySem PySem.Spec
def UM:aV (F8 f) δ Q=aV f δ λd _=>(EY d).isSome=true/\Q d δ:=by
 unfold aV F8;cases f δ with
 |stuck=>rfl
 |err x d=>rfl
 |ok a d=>
  dsimp only;cases EY a<;>simp
end L2
namespace L2
open PySem PySem.Spec PyProof.Rows
section
end
end L2
namespace L2
open PySem PySem.Spec
end L2
namespace L2
open PySem PySem.Spec PyProof.Rows
section
end
section
def iQ(x:Str)(n:Int):Str:=⟨(List.replicate n.toNat x.cps).foldl (·++·) #[]⟩
def GG :∀(n:Nat)(a:Array Nat),((List.replicate n x).foldl (·++·) a).size=a.size+n*x.size
 |0,a=>by simp
 |n+1,a=>by rw[List.replicate_succ,List.foldl_cons,GG n,Array.size_append,Nat.succ_mul];omega
def i6:(iQ x n).length=n.toNat*x.length:=by
 show ((List.replicate n.toNat x.cps).foldl (·++·) #[]).size=_;rw[GG];simp;rfl
def UN(hx:x.all (·<0x110000)=true):∀(n:Nat)(a:Array Nat),a.all (·<0x110000)=true->((List.replicate n x).foldl (·++·) a).all (·<0x110000)=true
 |0,a,ha=>ha
 |n+1,a,ha=>by
  rw[List.replicate_succ,List.foldl_cons];refine UN hx n _ ?_;rw[Array.all_append,ha,hx];rfl
def M1(hx:PyData.strOk x=true):PyData.strOk (iQ x n)=true:=UN hx _ _ 'e'
def M3:∀n:Nat,(List.replicate n (#[]:Array Nat)).foldl (·++·) #[]=#[]
 |0=>rfl
 |n+1=>by
  rw[List.replicate_succ,List.foldl_cons,Array.append_empty];exact M3 n
def aAO:jG X (binaryOp .Mult) (λx y H Q=>∃i n,x=.str i/\y=.int n/\i.length<=1000/\0<=n/\n<=1000/\Q (.str (iQ i n)) H):=by
 intro U s σ H x y v u Q I rx ry h;let⟨i,n,rfl,rfl,h1,h2,h3,q⟩:=h;let⟨t,rfl⟩:=rx;let⟨t',rfl⟩:=ry;have hm:i.length*n.toNat<=1000*1000:=Nat.mul_le_mul h1 (by omega);have hz:sizeLine=2^24:=rfl;refine PySem.P.mul_str 'i' (λg1 _ g2=>?_) (λ_ _=>?_) ?_
 .have:(1000:Int)<=(2^63-1)/n:=Int.le_ediv_of_mul_le (by omega) (by omega)
  omega
 .unfold Builtin.Str.tooLong
  grind
 .split
  .rename_i g
   have e:n.toNat=0:=by omega
   have e2:iQ i n=Str.empty:=by
    unfold iQ;rw[e];rfl
   rw[e2]at q;exact⟨⋯,.str Str.empty,H,I.tok _,⟨_,rfl⟩,q⟩
  .split
   .rename_i g
    rw[Bool.or_eq_true,beq_iff_eq,beq_iff_eq]at g;refine⟨.str (iQ i n),H,I,⟨t,?_⟩,q⟩;have:iQ i n=i:=by
     unfold iQ;rcases g with rfl|g
     .simp_all
     .have e:i.cps=#[]:=Array.eq_empty_of_size_eq_zero g
      rw[e,M3,<- e]
    rw[this]
   .refine⟨?_,.str (iQ i n),H,I.tok _,⟨_,rfl⟩,q⟩
    have:=i6 (x:=i) (n:=n);unfold iQ at this
    grind
def ľ:D->D->ZL
 |.str i,.int n=>if i.length<=1000/\0<=n/\n<=1000 then some (.str (iQ i n))else none
 |_,_=>none
def aAQ:mR X (λx y H Q=>∃i n,x=.str i/\y=.int n/\i.length<=1000/\0<=n/\n<=1000/\Q (.str (iQ i n)) H) 0 ľ:=λZ ow F H σ δ a b x y d Q S R ra rb e q=>by
 unfold ľ at e;split at e
 .rename_i i n
  split at e
  .rename_i hc
   cases e;exact⟨i,n,hZ ra,hW rb,hc.1,hc.2.1,hc.2.2,q _ H F (R.x MA) 'k'⟩
  .cases e
 .cases e
def M4(S:aO Z ow)(ha:DE X Z ow 0 a f)(hb:DE X Z ow 0 b h):DE X Z ow 0 (.BinOp a .Mult b pos) (gJ ľ f h):=vG S aAO aAQ ha hb
def ϑ(h1:i.length<=1000)(h2:0<=n)(h3:n<=1000):ľ (.str i) (.int n)=some (.str (iQ i n)):=Á ⟨h1,h2,h3⟩
end
def š(K:ZC)(a:Addr)(n:Nat):It:=
 ⟨λi H=>∃xs,eK K H a xs/\xs.length=n/\i<n,
   λi H v H'=>H'=H/\∀xs,eK K H a xs->xs[xs.length-1-i]?=some v,
   λi H=>i=n/\∃xs,eK K H a xs⟩
def UO{P:Program}{w:World}{K:ZC}{tg:Expr}(a it:Addr)(n:Nat):E5 P w K tg (š K a n) [it] it (λi h=>i<=n/\h.IsRevIter it a ((n:Int)-1-(i:Int))) where
 mem:=by simp
 obj:=λi h st b hb=>by
  have e:b=it:=by simpa using hb
  subst e;let⟨_,o,e,c,d⟩:=st;exact⟨o,e,λv z=>by rw[d]at z;cases z⟩
 keep:=λi h h' st k=>⟨st.1,st.2.at λo e=>k it 'e' o e⟩
 item:=by
  sleep 3;let⟨xs,hq,hl,hi⟩:=hg;subst hl;let⟨its,rv,p,hz⟩:=I.list hq;have hx:xs[xs.length-1-i]?=some (xs[xs.length-1-i]'(by omega)):=É (by omega);let⟨u,hu,ru⟩:=rv.get hx;let⟨f0,f1,f2,f3,f4,f5⟩:=hf it 'e';have e0:(xs.length:Int)-1-(i:Int)=((xs.length-1-i:Nat):Int):=by omega
  have st2:=st.2;rw[e0]at st2;refine wpAny_pyNext_rev_item st2 p.isList (x:=u) (by simpa using hu) λh' st' sb=>?_;have I1:Inv X U σ H {s with heap:=h'}:=I.turned (t':=s.toks) (λb o hb e=>(sb.2 b hb).trans e) f0 f1 f3 f4 f5;have e2:((xs.length-1-i:Nat):Int)-1=(xs.length:Int)-1-((i+1:Nat):Int):=by omega
  rw[e2]at st';let⟨o,e,c,d⟩:=id st';exact⟨u,rfl,E6 (s:={s with heap:=h'}) e c d ⋯ ⟨xs[xs.length-1-i]'(by omega),H,I1,ru,⟨rfl,λys hy=>by rw[I.list_inj hy hq];exact hx⟩,⟨hi,st'⟩,λb hb=>(hf b hb).1⟩⟩
 done:=by
  sleep 3;let⟨rfl,xs,hq⟩:=hg;let⟨f0,f1,f2,f3,f4,f5⟩:=hf it 'e';have st2:=st.2;rw[show (i:Int)-1-(i:Int)=-1 by omega]at st2;exact wpAny_pyNext_rev_end (I.ok.hd hc) st2 λh' eb=>⟨rfl,I.turned (t':=s.toks) (λb o hb e=>eb b o hb e) f0 f1 f3 f4 f5⟩
 self:=λ_ _ _ _ _ st h=>wpAny_pyIter_revIter st.2 h
section
def z8:bootBuiltins "reversed"=some (.type "reversed"):=by first|rfl|kernel_rfl|decide +kernel
def aMX(K:ZC)(ta:TA):TI:=λσ H R=>ta σ H λvs H1=>∃a xs,vs=[.ref a]/\eK K H1 a xs/\R (š K a xs.length) H1
def aGU(hg:Gl X "reversed")(hm:X.mg "reversed"=none)(ha:PA X [a] ta)(hs:↥(starEach [a] X.env=[(false,eval a X.env)])):
  PI X tg (.Call (.Name "reversed" p) [a] [] pos) (aMX X.K ta):=by
 intro U s σ H R I h;refine Call_ (iT I hg hm z8 (callWith_type1 (cL (ha pos U s σ H _ I h) λus s1 zQ=>?_) hs rfl));let⟨vs,H1,I1,r1,q1⟩:=zQ;let⟨l,xs,e,hx,q⟩:=q1;subst e;cases r1 with
 |cons r rr=>
  cases rr;cases r;let⟨ia,ra,pa,_⟩:=I1.list hx;have la:=ra.length;refine call_reversed_list pa.isList ?_;have st:(s1.heap.push (revObj l ((ia.toArray.size:Int)-1))).IsRevIter s1.heap.objs.size l ((xs.length:Int)-1-((0:Nat):Int)):=⟨_,Heap.get?_push_size _ rfl,rfl,by
   show Data.fields #[.ref l,rawInt ((ia.toArray.size:Int)-1)]=_;rw[ë,<- la];simp⟩
  refine wpAny_pyIter_revIter (s:={s1 with heap:=s1.heap.push (revObj l ((ia.toArray.size:Int)-1))}) st ?_;refine⟨s1.heap.objs.size,[s1.heap.objs.size],_,_,H1,rfl,I1.kept (t':=s1.toks) λb o e=>Heap.get?_push_of_some _ e,UO l _ xs.length,⟨î _,st⟩,λb hb=>?_,q⟩;have e:b=s1.heap.objs.size:=by simpa using hb
  subst e;exact I1.fpOk (Ç _) (I1.hok.fresh (Ç _))
end
def aAR{K:ZC}{F:Hp}{a:Addr}{xs:List V}{ds:ZI}(hx:eK K F a xs)(rx:aE K F ds xs):Q9 K F (š K a xs.length) ds.reverse where
 go:=λi H s hi=>by
  have l1:=rx.len;rw[List.length_reverse]at hi;exact⟨xs,s.seq hx,rfl,by omega⟩
 yld:=λi H v H' d s y e=>.inl ⟨y.1,by
  have l1:=rx.len;have hi:=(Î.mp e).1;rw[List.length_reverse]at hi;rw[List.getElem?_reverse hi]at e;let⟨x',f1,g1⟩:=rx.get e;have:=y.2 xs (s.seq hx);rw[<- l1,f1]at this;cases this;exact g1⟩
 stop:=λH s=>⟨by rw[List.length_reverse,rx.len],xs,s.seq hx⟩
def Ŀ(f:M D):M (ZI):=λδ=>(aZ [f] δ).bind λds δ1=>match ds with
 |[.list as]=>.ok as.reverse δ1
 |_=>.stuck
section
def aGV(hgl:Gl X "reversed")(hm:X.mg "reversed"=none)(ha:DE X Z ow 0 a f)(hst:↥(Zse a [] X.env)):
  DI X Z ow tg (.Call (.Name "reversed" p2) [a] [] p3) (Ŀ f):=
 (aGU hgl hm (aF ha bF hst) hst).mono λσ H R q=>by
  let⟨F,δ,Rl,q⟩:=q;unfold Ŀ at q;refine⟨F,δ,Rl,?_⟩;cases e1:aZ [f] δ with
  |stuck=>rw[e1]at q;sleep 5
  |err x δ1=>rw[e1]at q;exact q
  |ok ds δ1=>
   rw[e1]at q;simp![Res.bind]at q;intro vs H1 F1 R1 s1 ra;split at q
   .rename_i as
    let⟨v,rfl,r⟩:=xG ra;let⟨l,xs,rfl,hp,hr⟩:=j8 r;exact⟨l,xs,rfl,R1.sub.seq hp,q _ H1 F1 R1 s1 (aAR hp hr)⟩
   .sleep 5
end
section
end
section
end
def jH(f:Str):ZG->Nat
 |[]=>0
 |g::r=>if g=f then 0 else jH f r+1
def z9(f:Str):ZG->ZG
 |[]=>[f]
 |g::r=>if g=f then g::r else g::z9 f r
def v2{α:Type}(k:Nat)(y:α)(xs:List α):(List α):=if k<xs.length then xs.set k y else xs++[y]
def UP :∀{fs:ZG},jH f fs<=fs.length
 |[]=>Ç _
 |g::r=>by
  unfold jH;split
  .exact î _
  .have:=UP (f:=f) (fs:=r);rw[Ý];exact Nat.lt_succ_of_le ‹_›
def BI{xs:List α}:v2 (k+1) y (x::xs)=x::v2 k y xs:=by
 unfold v2;by_cases h:k<xs.length
 .rw[Á (by rw[Ý];exact Nat.succ_lt_succ ‹_›),Á h];rfl
 .rw[Â (by rw[Ý];lia),Â h];rfl
def xP{xs:List α}:(v2 k y xs).length=if k<xs.length then xs.length else xs.length+1:=by
 unfold v2;split
 .rw[Ö]
 .rw[Ñ];rfl
def M5{xs:List α}(h:k<=xs.length)(j:Nat):(v2 k y xs)[j]?=if j=k then some y else xs[j]?:=by
 unfold v2;by_cases hk:k<xs.length
 .rw[Á hk]
  by_cases hj:j=k
  .subst hj;rw[Á rfl,è hk]
  .rw[Â hj,Ú (Í hj)]
 .rw[Â hk]
  have:k=xs.length:=by lia
  subst this;by_cases hj:j=xs.length
  .subst hj;rw[Á rfl,ã (Ç _),Nat.sub_self];rfl
  .rw[Â hj]
   by_cases hl:j<xs.length
   .rw[ï hl]
   .rw[å (by rw[Ñ,ñ];lia),å (by exact ä.mp ‹_›)]
def GH :∀{fs:ZG},(z9 f fs).length=if jH f fs<fs.length then fs.length else fs.length+1
 |[]=>rfl
 |g::r=>by
  unfold z9 jH;by_cases h:g=f
  .rw[Á h,Á h,Á (by rw[Ý];exact ý _)]
  .rw[Â h,Â h,Ý,GH (f:=f) (fs:=r),Ý]
   by_cases q:jH f r<r.length
   .rw[Á q,Á (by exact Nat.succ_lt_succ ‹_›)]
   .rw[Â q,Â ∅]
def i7 :∀{fs:ZG}{vs:List V},fs.length=vs.length->(fs.zip vs).lookup f=vs[jH f fs]?
 |[],[],_=>rfl
 |g::fs,v::vs,h=>by
  rw[à];unfold jH;by_cases e:g=f
  .rw[Á e,á,show (f == g)=true by rw[e];exact beq_self_eq_true _]
   rfl
  .rw[Â e,á,show (f == g)=false from beq_eq_false_iff_ne.mpr (Í e),List.getElem?_cons_succ]
   exact i7 (by simpa using h)
def GI :∀{fs:ZG}{vs:List V},fs.length=vs.length->kK f y (fs.zip vs)=(z9 f fs).zip (v2 (jH f fs) y vs)
 |[],[],_=>rfl
 |g::fs,v::vs,h=>by
  rw[à];unfold kK z9 jH;by_cases e:g=f
  .rw[Á e,Á e,Á e];rfl
  .rw[Â e,Â e,Â e,BI,à,GI (by simpa using h)]
def lY(f:Str):List (D×D)->ZL
 |(.str g,d)::r=>if g=f then some d else lY f r
 |_=>none
def pA(f:Str):List (D×D)->Nat
 |(.str g,_)::r=>if g=f then 0 else pA f r+1
 |_=>0
def pN(f:Str)(y:D):List (D×D)->List (D×D)
 |(.str g,d)::r=>if g=f then (.str g,y)::r else (.str g,d)::pN f y r
 |_=>[(.str f,y)]
def nE :∀{fs:ZG}{ds:ZI},fs.length=ds.length->lY f ((fs.map PyData.str).zip ds)=ds[jH f fs]?
 |[],[],_=>rfl
 |g::fs,v::vs,h=>by
  rw[Ð,à];unfold lY jH;by_cases e:g=f
  .rw[Á e,Á e];rfl
  .rw[Â e,Â e,List.getElem?_cons_succ]
   exact nE (by simpa using h)
def r9 :∀{fs:ZG}{ds:ZI},fs.length=ds.length->pA f ((fs.map PyData.str).zip ds)=jH f fs
 |[],[],_=>rfl
 |g::fs,v::vs,h=>by
  rw[Ð,à];unfold pA jH;rw[r9 (by simpa using h)]
def uH :∀{fs:ZG}{ds:ZI},fs.length=ds.length->pN f y ((fs.map PyData.str).zip ds)=((z9 f fs).map PyData.str).zip (v2 (jH f fs) y ds)
 |[],[],_=>rfl
 |g::fs,v::vs,h=>by
  rw[Ð,à];unfold pN z9 jH;by_cases e:g=f
  .rw[Á e,Á e,Á e];rfl
  .rw[Â e,Â e,Â e,BI,Ð,à,uH (by simpa using h)]
def gR(nm f:Str):D->ZL
 |.dict ((.none,.str n)::À)=>if n=nm then lY f À else none
 |_=>none
section
variable {X:Cx}{Z:b8}{ow:ZH}{pos:Pos}{e a c:Expr}{h:M D}{F H:Hp}{g:ZP}{K:ZC}{nm f:Str}
def UQ(K:ZC)(nm f:Str):Prop:=∀C,W.nsIn K mainGlobals nm=some (some (.ref C))->Q5 K C/\lI K C f
def GJ:∀{À:List (D×D)}{fs:ZG},À.map Prod.fst=fs.map PyData.str->À=(fs.map PyData.str).zip (À.map Prod.snd)
 |[],[],_=>rfl
 |(k,d)::À,g::fs,h=>by
  rw[Ð,Ð]at h;injection h with h1 h2;rw[Ð,Ð,à,<- GJ h2];exact congrArg (λk=>(k,d)::À) h1
def M6{d r:D}(h:bI K F d v)(e:gR nm f d=some r):∃a C dx fs y,v=.ref a/\F a=some (.ins C dx fs)/\W.nsIn K mainGlobals nm=some (some (.ref C))/\fs.lookup f=some y/\bI K F r y:=by
 unfold gR at e;split at e
 .rename_i n À
  split at e
  .rename_i hn
   subst hn;unfold bI at h;let⟨a,xs,rfl,hh,hr⟩:=h;rcases hh with ⟨nm',fs,C,dx,vs,h1,h2,h3,h4,h5,h6⟩|⟨ms,h1,_⟩
   .subst h1
    rw[Ð]at h2;injection h2 with _ h2;unfold iG at hr;let⟨x,t,hx,r1,r2⟩:=hr;injection hx with hx1 hx2;subst hx2;unfold bI at r1;rw[<- hx1]at r1;injection r1 with r1;subst r1;rw[GJ h2]at e;have hl:fs.length=(À.map Prod.snd).length:=by rw[<- Å (f:=PyData.str),<- h2,Å,Å]
    rw[nE hl]at e;let⟨y,y1,y2⟩:=r2.all.get e;exact⟨a,C,dx,_,y,rfl,h4,h6,by rw[i7 h3];exact y1,y2⟩
   .exfalso
    rw[Ð]at h1;cases ms with
    |nil=>cases h1
    |cons m ms=>
     rw[Ð]at h1;injection h1 with h1 _;cases m<;>cases h1
  .cases e
 .cases e
def dM(nm:Str)(hc:UQ X.K nm f)(ha:DE X Z ow 0 e fe)(hb:↥(attributeBase e f X.env (eval e X.env)=eval e X.env)):DE X Z ow 0 (.Attribute e f pos) (C3 (gR nm f) fe):=PE.mono (CC ha hb) λσ H Q q=>by
 let⟨F,δ,R,q⟩:=q;unfold C3 at q;sleep 2;cases e1:fe δ with
 |stuck=>rw[e1]at q;sleep 5
 |err x δ1=>rw[e1]at q;exact q
 |ok d δ1=>
  rw[e1]at q;simp![Res.bind]at q;intro v H1 F1 R1 s1;cases e2:gR nm f d with
  |none=>rw[e2]at q;sleep 5
  |some r=>
   rw[e2]at q;let⟨a,C,dx,fs,y,rfl,h1,h2,h3,h4⟩:=M6 R1.rep e2;let⟨c1,c2⟩:=hc C h2;exact⟨a,C,dx,fs,y,rfl,R1.rel.sub _ _ h1,c1,c2,h3,q y H1 F1 (R1.rel.x h4) s1⟩
def bD.ins{i c:Nat}(h:bD K F H g i c p d v)(hk:kd c=2):
  ∃a nm fs C dx ds vs,d=dE nm fs ds/\v=.ref a/\fs.length=ds.length/\ds.length=vs.length/\W.nsIn K mainGlobals nm=some (some (.ref C))/\g a=some (i,p)/\H a=some (.ins C dx (fs.zip vs))/\F a=none/\g dx=some (i,p++[1000])/\H dx=some (.own a)/\F dx=none /\
   ∀(k:Nat)(d':D)(v':V),ds[k]?=some d'->vs[k]?=some v'->bD K F H g i (ch c k) (p++[k]) d' v':=by
 cases c with
 |zero=>cases hk
 |succ c=>
  let⟨ds,vs,cs,nd,hc,hl,r⟩:=h.open;rw[hk]at nd;let⟨a,nm,fs,C,dx,h1,h2,h3,h4,rfl⟩:=nd;let⟨a1,a2,a3⟩:=hc _ Ô;let⟨b1,b2,b3⟩:=hc _ (Ò _ (ð.mpr rfl));exact⟨a,nm,fs,C,dx,ds,vs,h1,h2,h3,hl,h4,by simpa using a1,a2,a3,b1,b2,b3,r⟩
def bD.mkI{i c:Nat}{p:ZH}{a C dx:Addr}{fs:ZG}{ds:ZI}{vs:List V}(hk:kd c=2)(h3:fs.length=ds.length)(hl:ds.length=vs.length)(h4:W.nsIn K mainGlobals nm=some (some (.ref C)))(a1:g a=some (i,p))(a2:H a=some (.ins C dx (fs.zip vs)))(a3:F a=none)(b1:g dx=some (i,p++[1000]))(b2:H dx=some (.own a))(b3:F dx=none)(r:∀(k:Nat)(d':D)(v':V),ds[k]?=some d'->vs[k]?=some v'->bD K F H g i (ch c k) (p++[k]) d' v'):bD K F H g i c p (dE nm fs ds) (.ref a):=by
 cases c with
 |zero=>cases hk
 |succ c=>
  refine bD.shut (ds:=ds) (vs:=vs) (cs:=[(a,[],.ins C dx (fs.zip vs)),(dx,[1000],.own a)]) (by rw[hk];exact⟨a,nm,fs,C,dx,rfl,rfl,h3,h4,rfl⟩) (λx hx=>?_) hl r
  rcases Ì.mp hx with z|z
  .subst z;exact⟨by simpa using a1,a2,a3⟩
  .rw[ð.mp z];exact⟨b1,b2,b3⟩
def GK(i c:Nat)(nm f:Str):M D:=λδ=>match δ[i]? with
 |some (some (.dict ((.none,.str n)::À)))=>if n=nm/\ch c (pA f À)=0 then (match lY f À with
  |some r=>.ok r δ
  |none=>.stuck)else .stuck
 |_=>.stuck
def oO{n:Str}{À:List (D×D)}(h:(PyData.dict ((.none,.str n)::À):D)=dE nm fs ds):n=nm/\À=(fs.map PyData.str).zip ds:=by
 unfold dE at h;injection h with h;injection h with h1 h2;injection h1 with _ h1;injection h1 with h1;exact⟨h1,h2⟩
def oP(i:Nat)(nm:Str){c:Nat}{x:Str}{p:Pos}(hc:UQ X.K nm f)(ho:↥(ow.getD i 0=c))(hk:↥(kd c=2))(hN:↥'s')(hv:#v[zS X.env.scope x])(hd:⇑(Zdb x))(hcd:⇑(Zcd x))(hb:↥(attributeBase 'g' f X.env (eval 'g' X.env)=eval 'g' X.env)):DE X Z ow 0 (.Attribute 'g' f pos) (GK i c nm f):=PE.mono (CC (dA hN hv hd hcd) hb) λσ H Q q=>by
 let⟨F,δ,⟨g,R⟩,q⟩:=q;unfold GK at q;split at q
 .rename_i n À e0
  split at q
  .rename_i hn
   let⟨rfl,hch⟩:=hn;cases e1:lY f À with
   |none=>rw[e1]at q;sleep 5
   |some r=>
    rw[e1]at q;let⟨v,w1,o⟩:=R.slot i _ e0;rw[ho]at o;let⟨a,nm',fs,C,dx,ds,vs,d1,rfl,l1,l2,hC,_,hH,_,_,_,_,hch'⟩:=o.ins hk;let⟨rfl,rfl⟩:=oO d1;rw[nE l1]at e1;rw[r9 l1]at hch;have hlt:jH f fs<vs.length:=by have:=(Î.mp e1).1;exact ò ‹_› ‹_›
    have o1:=hch' _ _ _ e1 (É hlt);rw[hch]at o1;let⟨c1,c2⟩:=hc C hC;refine⟨_,w1,a,C,dx,_,vs[jH f fs],rfl,hH,c1,c2,?_,q _ H F ⟨g,R,o1⟩ λ_ _ z=>z⟩;rw[i7 (by exact Eq.trans ‹_› ‹_›)];exact É hlt
  .sleep 5
 .sleep 5
end
section
variable {X:Cx}{Z:b8}{ow ol ox:ZH}{n rm c i:Nat}{pos:Pos}{e:Expr}{fe:M D}{F H:Hp}{σ:St}{δ:DS}{g:ZP}{K:ZC}{nm f:Str}
def KI(S:aO Z ow)(h:ow.getD i 0≠0):i<1000:=by
 by_cases hl:i<ow.length
 .exact Ó hl S.ow
 .exact absurd (by rw[Ë,å (by exact ä.mp ‹_›)];rfl) h
def aJ5(hk:kd c=2):c≠0:=λz=>by rw[z]at hk;cases hk
def wB:∀{xs ys:ZG},xs.map PyData.str=ys.map PyData.str->xs=ys
 |[],[],_=>rfl
 |x::xs,y::ys,h=>by
  rw[Ð,Ð]at h;injection h with h1 h2;injection h1 with h1;rw[h1,wB h2]
def gF.putFld(S:aO Z ow)(R:gF K Z ow n d v F H σ δ)(ho:ow.getD i 0=c)(hk:kd c=2)(hd:δ[i]?=some (some (dE nm fs ds)))(hl:fs.length=ds.length)(hs:σ[i]?=some (some (.ref a)))(hch:ch c (jH f fs)=n):
  ∃C dx vs,fs.length=vs.length/\W.nsIn K mainGlobals nm=some (some (.ref C))/\H a=some (.ins C dx (fs.zip vs))/\cM K Z ow F (aX H a (.ins C dx (kK f v (fs.zip vs)))) σ (δ.set i (some (dE nm (z9 f fs) (v2 (jH f fs) d ds)))):=by
 let⟨g,R,oh⟩:=R;let⟨v1,w1,o⟩:=R.slot i _ hd;rw[hs]at w1;cases w1;rw[ho]at o;have i1:i<1000:=KI S (by rw[ho];exact aJ5 hk);let⟨a',nm',fs',C,dx,ds',vs,d1,ea,l1,l2,hC,a1,a2,a3,b1,b2,b3,hch'⟩:=o.ins hk;cases ea;let⟨rfl,ez⟩:=oO (nm:=nm') (n:=nm) (À:=(fs.map PyData.str).zip ds) d1;have efs:fs=fs':=by
  have:=congrArg (List.map Prod.fst) ez;rw[Ċ (by rw[Å];exact ö ‹_›),Ċ (by rw[Å];exact ö ‹_›)]at this;exact wB this
 have eds:ds=ds':=by
  have:=congrArg (List.map Prod.snd) ez;rw[ĉ (by rw[Å];lia),ĉ (by rw[Å];lia)]at this;exact this
 subst efs eds;have hi:i<δ.length:=(Î.mp hd).1;have nda:dx≠a:=λz=>by rw[z,a1]at b1;cases b1
 refine⟨C,dx,vs,by exact Eq.trans ‹_› ‹_›,hC,a2,λb=>match g b with|some (m,p)=>if m=1000 then some (i,jH f fs::p)else some (m,p)|none=>none,λb u e=>?_,R.f0,λb u m e=>?_,R.new,λb z=>?_,λb m p e=>?_,by rw[Ö];exact R.len,R.par,λj d' e=>?_⟩
 .have:b≠a:=λz=>by rw[z,a3]at e;cases e
  rw[aG this];exact R.sub b u e
 .have:b≠a:=λz=>by
   subst z;rcases R.lab b i [] a1 with w|⟨q,w⟩
   .rw[w]at e;cases e
   .rw[w]at m;cases m
  rw[aG this];exact R.kept b u m e
 .by_cases hb:b=a
  .subst hb;rw[aN];simp
  .rw[aG hb];exact R.there b z
 .cases eg:g b with
  |none=>rw[eg]at e;cases e
  |some l=>
   let⟨m',p'⟩:=l;rw[eg]at e;dsimp only at e;split at e
   .rename_i hm
    subst hm;rcases R.lab b 1000 p' eg with w|⟨q,w⟩
    .exact .inl w
    .exact absurd (Z.wf b 1000 q w) S.ps
   .cases e;exact R.lab b m p eg
 .have rl:∀{m:Nat},m≠1000->∀b p,g b=some (m,p)->(match g b with|some (m,p)=>if m=1000 then some (i,jH f fs::p)else some (m,p)|none=>none)=some (m,p):=λhm b p e=>by rw[e];exact Â hm
  by_cases hj:j=i
  .subst hj
   rw[è hi]at e;cases e;refine⟨_,hs,?_⟩;rw[ho];have ile:jH f fs<=ds.length:=by have:=UP (f:=f) (fs:=fs);lia
   refine bD.mkI (C:=C) (dx:=dx) (vs:=v2 (jH f fs) v vs) hk ?_ ?_ hC (rl (by exact Ê ‹_›) _ _ a1) (by rw[aN,GI (by exact Eq.trans ‹_› ‹_›)]) a3 (rl (by exact Ê ‹_›) _ _ b1) (by rw[aG nda];exact b2) b3 λk d' v' z1 z2=>?_
   .rw[GH,xP,hl]
   .rw[xP,xP,l2]
   .rw[M5 ile]at z1
    rw[M5 ∅]at z2;by_cases hk':k=jH f fs
    .subst hk'
     rw[Á rfl]at z1 z2;cases z1;cases z2;rw[hch];have:=bD.relabP (q:=[jH f fs]) (j:=j) (g':=λb=>match g b with|some (m,p)=>if m=1000 then some (j,jH f fs::p)else some (m,p)|none=>none) (λb p e=>by rw[e];exact Á rfl) (bD.updNe (o:=.ins C dx (kK f v (fs.zip vs))) a1 (.inl (by exact Û ‹_›)) oh);rw[ì]at this;exact this
    .rw[Â hk']at z1 z2
     refine bD.relab (rl (by exact Ê ‹_›)) (bD.updNe a1 (.inr λw=>?_) (hch' k d' v' z1 z2));let⟨t,ht⟩:=w;cases ht
  .rw[Ú (Í hj)]at e
   let⟨v',e1,o'⟩:=R.slot j d' e;refine⟨v',e1,?_⟩;by_cases hz:ow.getD j 0=0
   .rw[hz]at o'⊢;exact o'
   .have j1:j<1000:=KI S hz
    exact bD.relab (rl (by exact Ê ‹_›)) (bD.updNe a1 (.inl hj) o')
def sA(i c n:Nat)(nm f:Str)(fe:M D):M Fl:=λδ=>(fe δ).bind λy δ1=>match δ1[i]? with
 |some (some (.dict ((.none,.str m)::À)))=>if m=nm/\ch c (pA f À)=n/\À.length<1000 then .ok .next (δ1.set i (some (.dict ((.none,.str m)::pN f y À))))else .stuck
 |_=>.stuck
def GL{À:List (D×D)}(R:cA K Z ow g F H σ δ)(ho:ow.getD i 0=c)(hk:kd c=2)(hd:δ[i]?=some (some (.dict ((.none,.str m)::À)))):∃(a:Addr)(fs:ZG)(ds:ZI),À=(fs.map PyData.str).zip ds/\fs.length=ds.length/\σ[i]?=some (some (.ref a)):=by
 let⟨v1,w1,o⟩:=R.slot i _ hd;rw[ho]at o;let⟨a',nm',fs',C,dx,ds',vs,d1,ea,l1,_⟩:=o.ins hk;subst ea;let⟨_,ez⟩:=oO d1;exact⟨a',fs',ds',ez,l1,w1⟩
def nF(i:Nat)(nm:Str){x:Str}{p pos':Pos}(S:aO Z ow)(hc:UQ X.K nm f)(hv:DE X Z ow n e fe)(ho:↥(ow.getD i 0=c))(hk:↥(kd c=2))(hN:↥'s')(hvi:#v[zS X.env.scope x])(hd:⇑(Zdb x))(hcd:⇑(Zcd x))(hs:↥(swapsWith e (some (.Attribute 'g' f pos')) pos.line X.env=pure false)):AW X Z ow ow ol ox rm (.Assign [.Attribute 'g' f pos'] e pos) (sA i c n nm f fe):=PS.mono (aEX (dA hN hvi hd hcd) hv hs) λDn σ H h=>by
 let⟨F,δ,R,h⟩:=h;unfold sA at h;sleep 2;cases e1:fe δ with
 |stuck=>rw[e1]at h;exact h.elim
 |err y δ1=>rw[e1]at h;exact iV.cast h
 |ok dv δ1=>
  rw[e1]at h;simp![Res.bind]at h;intro v H1 F1 R1 s1;split at h
  .rename_i m À e0
   split at h
   .rename_i hh
    let⟨rfl,hch,hlt⟩:=hh;let⟨g1,RG,o1⟩:=R1;let⟨a,fs,ds,rfl,l1,w1⟩:=GL RG ho hk e0;rw[r9 l1]at hch;let⟨C,dx,vs,l3,hC,hH,R2⟩:=gF.putFld (f:=f) S ⟨g1,RG,o1⟩ ho hk (show δ1[i]?=some (some (dE m fs ds))from e0) l1 w1 hch;let⟨c1,c2⟩:=hc C hC;rw[é,Å]at hlt;refine⟨_,w1,a,C,dx,_,rfl,hH,c1,c2,by rw[é];lia,?_⟩;rw[uH l1]at h;exact h σ _ F1 R2 s1
   .exact h.elim
  .exact h.elim
end
def M7 :∀{fs:ZG},jH f fs<fs.length->z9 f fs=fs
 |g::r,h=>by
  unfold z9;unfold jH at h;by_cases e:g=f
  .rw[Á e]
  .rw[Â e]at h
   rw[Â e,M7 (by rw[Ý]at h;exact Nat.le_of_lt_succ ‹_›)]
section
variable {X:Cx}{Z:b8}{ow ol ox:ZH}{rm c i:Nat}{pos spos tpos:Pos}{e:Expr}{fk fv:M D}{F H:Hp}{σ:St}{δ:DS}{g:ZP}{K:ZC}{nm f:Str}
def cA.atF(R:cA K Z ow g F H σ δ)(ho:ow.getD i 0=c)(hk:kd c=2)(hd:δ[i]?=some (some (dE nm fs ds)))(hl:fs.length=ds.length)(hch:ch c (jH f fs)=1)(hj:ds[jH f fs]?=some (.list inner)):
  ∃a C dx vs b ws,σ[i]?=some (some (.ref a))/\W.nsIn K mainGlobals nm=some (some (.ref C))/\H a=some (.ins C dx (fs.zip vs))/\fs.length=vs.length/\vs[jH f fs]?=some (.ref b)/\H b=some (.lst ws)/\aE K F inner ws/\g b=some (i,[jH f fs]):=by
 let⟨v1,w1,o⟩:=R.slot i _ hd;rw[ho]at o;let⟨a,nm',fs',C,dx,ds',vs,d1,ea,l1,l2,hC,a1,a2,a3,b1,b2,b3,hch'⟩:=o.ins hk;subst ea;let⟨rfl,ez⟩:=oO (nm:=nm') (n:=nm) (À:=(fs.map PyData.str).zip ds) d1;have efs:fs=fs':=by
  have:=congrArg (List.map Prod.fst) ez;rw[Ċ (by rw[Å];exact ö ‹_›),Ċ (by rw[Å];exact ö ‹_›)]at this;exact wB this
 have eds:ds=ds':=by
  have:=congrArg (List.map Prod.snd) ez;rw[ĉ (by rw[Å];lia),ĉ (by rw[Å];lia)]at this;exact this
 subst efs eds;have jl:jH f fs<vs.length:=by have:=(Î.mp hj).1;exact ò ‹_› ‹_›
 have o2:=hch' _ _ _ hj (É jl);rw[hch]at o2;let⟨b,inner',ws,y1,y2,y3,y4,y5,y6,y7⟩:=o2.lst (m:=0);cases y1;exact⟨a,C,dx,vs,b,ws,w1,hC,a2,by exact Eq.trans ‹_› ‹_›,by rw[É jl,y2],y4,aE.of y6 y7,y3⟩
def cA.rewriteF(R:cA K Z ow g F H σ δ)(ho:ow.getD i 0=c)(hk:kd c=2)(hd:δ[i]?=some (some (dE nm fs ds)))(hl:fs.length=ds.length)(hch:ch c (jH f fs)=1)(hj:ds[jH f fs]?=some (.list inner))(hs:σ[i]?=some (some (.ref a)))(ha:H a=some (.ins C dx (fs.zip vs)))(hb:vs[jH f fs]?=some (.ref b))(hvl:fs.length=vs.length)(hr:aE K F inner' ws'):cA K Z ow g F (aX H b (.lst ws')) σ (δ.set i (some (dE nm fs (ds.set (jH f fs) (.list inner'))))):=by
 let⟨v1,w1,o⟩:=R.slot i _ hd;rw[hs]at w1;cases w1;rw[ho]at o;let⟨a',nm',fs',C',dx',ds',vs',d1,ea,l1,l2,hC,a1,a2,a3,b1,b2,b3,hch'⟩:=o.ins hk;cases ea;let⟨rfl,ez⟩:=oO (nm:=nm') (n:=nm) (À:=(fs.map PyData.str).zip ds) d1;have efs:fs=fs':=by
  have:=congrArg (List.map Prod.fst) ez;rw[Ċ (by rw[Å];exact ö ‹_›),Ċ (by rw[Å];exact ö ‹_›)]at this;exact wB this
 have eds:ds=ds':=by
  have:=congrArg (List.map Prod.snd) ez;rw[ĉ (by rw[Å];lia),ĉ (by rw[Å];lia)]at this;exact this
 subst efs eds;rw[ha]at a2;injection a2 with a2;injection a2 with q1 q2 q3;subst q1 q2;have evs:vs=vs':=by
  have:=congrArg (List.map Prod.snd) q3;rw[ĉ ∅,ĉ ∅]at this;exact this
 subst evs;have jl:jH f fs<vs.length:=(Î.mp hb).1;have o2:=hch' _ _ _ hj hb;rw[hch]at o2;let⟨b',inner0,ws,y1,y2,y3,y4,y5,y6,y7⟩:=o2.lst (m:=0);cases y1;cases y2;have y3:g b=some (i,[jH f fs]):=y3;have hi:i<δ.length:=(Î.mp hd).1;have nab:a≠b:=λz=>by rw[z,y3]at a1;cases a1
 have hne:dx≠b:=λz=>by rw[z,y4]at b2;cases b2
 refine⟨λb' u e=>?_,R.f0,λb' u n e=>?_,R.new,λb' z=>?_,R.lab,by rw[Ö];exact R.len,R.par,λk d e=>?_⟩
 .have:b'≠b:=λz=>by rw[z,y5]at e;cases e
  rw[aG this];exact R.sub b' u e
 .have:b'≠b:=λz=>by
   subst z;rcases R.lab b' i _ y3 with w|⟨q,w⟩
   .rw[w]at e;cases e
   .rw[w]at n;cases n
  rw[aG this];exact R.kept b' u n e
 .by_cases hb':b'=b
  .subst hb';rw[aN];simp
  .rw[aG hb'];exact R.there b' z
 .by_cases hki:k=i
  .subst hki
   rw[è hi]at e;cases e;refine⟨_,hs,?_⟩;rw[ho];refine bD.mkI (C:=C) (dx:=dx) (vs:=vs) hk (by rw[Ö];exact hl) (by rw[Ö];exact l2) hC a1 (by rw[aG nab];exact ha) a3 b1 (by rw[aG hne];exact b2) b3 λl d' v' z1 z2=>?_;by_cases hlq:jH f fs=l
   .subst hlq
    rw[è (by exact ò ‹_› (Eq.symm ‹_›))]at z1;cases z1;rw[hb]at z2;cases z2;rw[hch];exact bD.mkL (m:=0) ⟨b,inner',ws',rfl,rfl,y3,aN,y5,hr.len,λk d' v' z1 z2=>hr.both k d' v' z1 z2⟩
   .rw[Ú hlq]at z1
    refine bD.updNe y3 (.inr λz=>?_) (hch' l d' v' z1 z2);have z:[l] <+: [jH f fs]:=z;let⟨t,ht⟩:=z;injection ht with h1 _;exact hlq h1.symm
  .rw[Ú (Í hki)]at e
   let⟨v,e1,o⟩:=R.slot k d e;exact⟨v,e1,bD.updNe y3 (.inl hki) o⟩
def sC(i c:Nat)(nm f:Str)(fk fv:M D):M Fl:=λδ=>(fv δ).bind λv δ1=>match δ1[i]?,fk δ1 with
 |some (some (.dict ((.none,.str m)::À))),.ok (.int k) _=>if m=nm/\ch c (pA f À)=1 then (match lY f À with
  |some (.list ds)=>(match mO ds.length k with
   |some j=>.ok .next (δ1.set i (some (.dict ((.none,.str m)::pN f (.list (ds.set j v)) À))))
   |none=>.stuck)
  |_=>.stuck)else .stuck
 |_,_=>.stuck
def BJ(i m:Nat)(nm:Str){x:Str}{p p2:Pos}(S:aO Z ow)(hc:UQ X.K nm f)(hv:DE X Z ow 0 ev fv)(hk:∀F H σ,DE X (i5 F H σ m) 'j' 0 ek fk)(ho:↥(ow.getD i 0=c))(hkd:↥(kd c=2))(hN:↥'s')(hvi:#v[zS X.env.scope x])(hd:⇑(Zdb x))(hcd:⇑(Zcd x))(hb:↥(attributeBase 'g' f X.env (eval 'g' X.env)=eval 'g' X.env))(ha: ~~~(∀v,assign (.Subscript (.Attribute 'g' f p2) ek tpos) X.env v=(do
   let ov <- holding [v] (eval (.Attribute 'g' f p2) X.env);let iv <- holding [v,ov] (eval ek X.env)
   standAt tpos
   holding [v,ov,iv] (setItem ov iv v)
   release [v,ov,iv] [])))(hs:↥(swapsWithSole [.Subscript (.Attribute 'g' f p2) ek tpos] ev spos.line X.env=pure false))(hw:↥(swappedStores [.Subscript (.Attribute 'g' f p2) ek tpos] ev X.env=pure none))(h1:↥((assignEach [.Subscript (.Attribute 'g' f p2) ek tpos] X.env).map (·.2)=[assign (.Subscript (.Attribute 'g' f p2) ek tpos) X.env])):
  AW X Z ow ow ol ox rm (.Assign [.Subscript (.Attribute 'g' f p2) ek tpos] ev spos) (sC i c nm f fk fv):=PS.mono (RJ hv (RI (CC (dA hN hvi hd hcd) hb) (KF m hk) FC ha) hs hw h1) λDn σ H h=>by
 let⟨F,δ,R,h⟩:=h;unfold sC at h;sleep 2;cases e1:fv δ with
 |stuck=>rw[e1]at h;exact h.elim
 |err y δ1=>rw[e1]at h;exact iV.cast h
 |ok dv δ1=>
  rw[e1]at h;simp![Res.bind]at h;rintro v H1 F1 ⟨g,R1,ov⟩ s1;have ov:bI X.K F1 dv v:=ov;split at h
  .rename_i mm À k δ2 e0 ek0
   split at h
   .rename_i hh
    let⟨rfl,hch⟩:=hh;split at h
    .rename_i ds eds
     split at h
     .rename_i j ej
      let⟨a0,fs,dd,rfl,l1,w1⟩:=GL R1 ho hkd e0;rw[r9 l1]at hch;rw[nE l1]at eds;let⟨a,C,dx,vs,b,ws,q1,hC,q2,q3,q4,q5,q6,q7⟩:=R1.atF ho hkd (show δ1[i]?=some (some (dE mm fs dd))from e0) l1 hch eds;let⟨c1,c2⟩:=hc C hC;refine⟨_,q1,a,C,dx,_,.ref b,rfl,q2,c1,c2,by rw[i7 q3];exact q4,IZ g F1 H1,IZ g F1 H1,δ1,R1.bor,?_⟩;rw[ek0];rintro kv H2 F2 ⟨g2,R2,o2⟩ s2;have evk:kv=.int k:=by
       have o2:bI X.K F2 (.int k) kv:=o2;unfold bI at o2;exact o2
      subst evk;have hsame:aL H1 H2:=λb o e=>R2.kept b o rfl e;have R3:=R1.grow hsame;refine⟨b,ws,k,j,rfl,rfl,hsame _ _ q5,by rw[<- q6.len];exact ej,?_⟩;have R4:=R3.rewriteF (f:=f) ho hkd (show δ1[i]?=some (some (dE mm fs dd))from e0) l1 hch eds q1 (hsame _ _ q2) q4 q3 (q6.set j ov);have hlt:jH f fs<dd.length:=(Î.mp eds).1;rw[uH l1,M7 (by exact ò ‹_› (Eq.symm ‹_›)),show v2 (jH f fs) (PyData.list (ds.set j dv)) dd=dd.set (jH f fs) (.list (ds.set j dv))from Á hlt]at h;exact h σ _ F1 ⟨g,R4⟩ s1
     .exact h.elim
    .exact h.elim
   .exact h.elim
  .exact h.elim
def UR(C:Addr)(m:Str)(sp:Sp)(E:St->XK)(ta:TE)(t:TA):TE:=λσ H Q=>ta σ H λx H1=>∃a dx fs,x=.ref a/\H1 a=some (.ins C dx fs)/\fs.lookup m=none/\t σ H1 λvs H2=>sp (x::vs) H2 Q (E σ)
def US{pl:Sem Bool}{apos:Pos}(he:PE X o ta)(c:Q5 X.K C)(hm:YQ X.K C m fa)(Fk:qZ X.prog X.w X.K X.mg X.base (zY X.prog X.w X.K) k fa fd pn sp)(hr:fC k X.A)(hb:pF X.K fd pn [])(ha:PA X (e::es) t)(hst:↥(Zse e es X.env))(hpl:↥(Zbt pos es X.env))(ht:↥(eval (.Call (.Attribute o m apos) (e::es) [] pos) X.env=(do
   let ov <- eval o X.env
   standAt apos.atName
   let (f,first) <- holding [ov] (getMethod ov m pl)
   callWith pos f first (backTo pos (starEach (e::es) X.env)) (backToKw pos (keywordEach [] X.env))))):
  PE X (.Call (.Attribute o m apos) (e::es) [] pos) (UR C m sp (EX X) ta t):=by
 intro U s σ H Q I h;refine W.methodCall_KW (pl:=pl) (cL (he U s σ H _ I h) λu s1 zQ=>?_) ht;let⟨x,H1,I1,rx,a,dx,fs,ex,ea,l,q⟩:=zQ;subst ex;obtain rfl:u=Value.ref a:=rx;refine JK I1 ea c hm l ?_;refine W.callWith_K (first:=[.ref a]) (h₀:=X.base) I.ok.mod.kin hm.kp (cL (ha pos U s1 σ H1 _ I1 q) λus s2⟨vs,H2,I2,r,q2⟩=>⟨I2.kIn,?_⟩) hst hpl;have r2:bH (V.ref a::vs) (Value.ref a::us):=.cons rfl r;have hl:(Value.ref a::us).length=pn.length:=by rw[<- r2.length];exact Fk.len _ _ _ _ q2
 have hb':=hb s2 (Value.ref a::us) I2.kIn (by rw[ì];exact hl);rw[ì]at hb';refine wpAny_call (codeAny_mono (Fk.run X.A X.stack s2 H2 ⟨Value.ref a::us,[]⟩ (Value.ref a::us) _ Q (EX X σ) hr I2.env0 hb' r2 q2) λr s' hq=>?_);cases r with
 |error e=>
  let⟨nm,a,cls,ch,H',rfl,hn,os,bare,un,hok,x,new,q3⟩:=hq;have I3:Inv X U σ H' s':=I2.call' os un hok bare λb z=>absurd z 'e';exact q3 nm rfl U _ s' I3 ⟨a,cls,ch,rfl,hn,x,λb hb=>pJ.of I2 (new b hb).1 (new b hb).2⟩
 |ok fl=>
  cases fl with
  |ret u=>exact I2.after hq
  |next=>exact False.elim hq
  |brk=>exact False.elim hq
  |cont=>exact False.elim hq
def xQ(i:Nat)(nm m:Str)(fn:ZI->Res D)(as:List Arg):M D:=λδ=>match δ[i]? with
 |some (some (.dict ((.none,.str n)::À)))=>if n=nm/\lY m À=none then dH fn (.own i::as) δ else .stuck
 |_=>.stuck
def PN{fs:ZG}{ds:ZI}{vs:List V}(l1:fs.length=ds.length)(l2:fs.length=vs.length)(h:lY m ((fs.map PyData.str).zip ds)=none):(fs.zip vs).lookup m=none:=by
 rw[nE l1]at h;rw[i7 l2];rw[List.getElem?_eq_none_iff]at h⊢;lia
def ŀ(K:ZC)(nm:Str)(C:Addr):Prop:=W.nsIn K mainGlobals nm=some (some (.ref C))/\Q5 K C
def UT(S:aO Z ow)(hC:ŀ X.K nm C)(ho:kd (ow.getD i 0)=2)(hz:X6 Z=true)(hl:as.length+1=pn.length)(hps:fV 0 (.own i::as)=ps)(nd:decide (aU (.own i::as)).Nodup=true)(hm:fF owp ow 0 (.own i::as)=true)(hlt:as.length+1<=1000)(h:tD X Z ow rm (xQ i nm m fn as) σ H Q):UR C m (SR X.K pn ps owp rm fn) (EX X) (RD i) (Ķ X Z ow as) σ H Q:=by
 let⟨F,δ,R,h⟩:=h;unfold xQ at h;split at h
 .rename_i n À e0
  split at h
  .rename_i hh
   let⟨rfl,hg⟩:=hh;let⟨F0,δ0,R0,h0⟩:=FO (as:=.own i::as) (pn:=pn) (ps:=ps) (owp:=owp) S hz hl hps nd hm hlt ⟨F,δ,R,h⟩;let⟨g,RG⟩:=R;let⟨v,w1,o⟩:=RG.slot i _ e0;let⟨a,nm',fs,C',dx,ds,vs,d1,rfl,l1,l2,hC',_,hH,_⟩:=o.ins ho;let⟨rfl,rfl⟩:=oO d1;rw[hC.1]at hC';cases hC';refine⟨_,w1,a,dx,_,rfl,hH,PN l1 (by exact Eq.trans ‹_› ‹_›) hg,F0,δ0,R0,?_⟩;unfold cK at h0;split at h0
   .cases e1:cK as δ0 with
    |stuck=>rw[e1]at h0;exact h0.elim
    |err x δ1=>rw[e1]at h0;exact h0
    |ok ods δ1=>
     rw[e1]at h0;exact λus H' F' R' s' z=>h0 (.ref a::us) H' F' R' s' ⟨w1,z⟩
   .exact h0.elim
  .exact h.elim
 .exact h.elim
def aAU(i:Nat){pl:Sem Bool}{x:Str}{p apos:Pos}(S:aO Z ow)(hC:ŀ X.K nm C)(hme:YQ X.K C m fa)(Fk:qZ X.prog X.w X.K X.mg X.base (zY X.prog X.w X.K) k fa fd pn (SR X.K pn ps owp rm fn))(hr:fC k X.A)(hb:pF X.K fd pn [])(ha:DA X Z ow (e::es) as)(ho:↥(kd (ow.getD i 0)=2))(hz:↥(X6 Z=true))(hl:↥(as.length+1=pn.length))(hps:↥(fV 0 (.own i::as)=ps))(nd:↥(decide (aU (.own i::as)).Nodup=true))(hm:↥(fF owp ow 0 (.own i::as)=true))(hlt:⇑(as.length+1<=1000))(hN:↥'s')(hvi:#v[zS X.env.scope x])(hd:⇑(Zdb x))(hcd:⇑(Zcd x))(hst:↥(Zse e es X.env))(hpl:↥(Zbt pos es X.env))(ht:↥(eval (.Call (.Attribute 'g' m apos) (e::es) [] pos) X.env=(do
   let ov <- eval 'g' X.env
   standAt apos.atName
   let (f,first) <- holding [ov] (getMethod ov m pl)
   callWith pos f first (backTo pos (starEach (e::es) X.env)) (backToKw pos (keywordEach [] X.env))))):
  DE X Z ow rm (.Call (.Attribute 'g' m apos) (e::es) [] pos) (xQ i nm m fn as):=PE.mono (US (pl:=pl) (dA hN hvi hd hcd) hC.2 hme Fk hr hb ha hst hpl ht) λ_ _ _ h=>UT S hC ho hz hl hps nd hm hlt h
def UU(C:Addr)(sp:Sp)(E:St->XK)(t:TA):TE:=λσ H Q=>t σ H λvs H1=>∀x dx,H1 x=none->H1 dx=none->dx≠x ->
 sp (.ref x::vs) (aX (aX H1 dx (.own x)) x (.ins C dx [])) (λv H2=>v=.non/\Q (.ref x) H2) (E σ)
def UV{p:Pos}(M:Mk X.K C fa)(Fk:qZ X.prog X.w X.K X.mg X.base (zY X.prog X.w X.K) k fa fd pn sp)(hr:fC (k+1) X.A)(hg:Gl X x)(hm:X.mg x=some (.ref C))(hb:pF X.K fd pn [])(ha:PA X (e::es) t)(hdb:⇑(Zdb x))(he:↥(Zse e es X.env))(hpl:↥(Zbt pos es X.env)):
  PE X (.Call 'g' (e::es) [] pos) (UU C sp (EX X) t):=by
 intro U s0 σ H0 Q I0 h0;refine wpAny_Call_Name_kw (lH I0 hg hm ?_ hdb);refine W.callWith_K (h₀:=X.base) I0.ok.mod.kin M.kp (cL (ha pos U s0 σ H0 _ I0 h0) λus s⟨vs,H,I,r,h⟩=>⟨I.kIn,?_⟩) he hpl;have hq:=h (s.heap.objs.size+1) s.heap.objs.size (I.hok.fresh (Nat.le_succ _)) (I.hok.fresh (Ç _)) (Ê (ç _));have I2:=Inv.made (C:=C) I;have r2:bH (V.ref (s.heap.objs.size+1)::vs) (Value.ref (s.heap.objs.size+1)::us):=.cons rfl r;have hl:(Value.ref (s.heap.objs.size+1)::us).length=pn.length:=by
  have e:=r2.length;rw[Fk.len _ _ _ _ hq]at e;exact e.symm
 have hb':=hb _ (Value.ref (s.heap.objs.size+1)::us) I2.kIn (by rw[ì];exact hl);rw[ì]at hb';refine wpAny_call (RT (f:=fa) I.kIn M.makes M.init (beq_iff_eq.mp M.fn) (codeAny_mono (Fk.run _ X.stack _ _ ⟨Value.ref (s.heap.objs.size+1)::us,[]⟩ (Value.ref (s.heap.objs.size+1)::us) _ _ (EX X σ) (hr.make C us [])
  (I2.env0.make C us []) hb' r2 hq) λr s' hq'=>?_))
 cases r with
 |error e=>
  let⟨nm,a,cls,ch,H',rfl,hn,os,bare,un,hok,x,new,q3⟩:=hq';have I3:Inv X U σ H' s':=I2.call' os un hok bare λb z=>absurd z 'e';exact q3 nm rfl U _ s' I3 ⟨a,cls,ch,rfl,hn,x,λb hb=>pJ.of I2 (new b hb).1 (new b hb).2⟩
 |ok fl=>
  cases fl with
  |ret u=>
   let⟨v,H',I3,rv,ev,q3⟩:=I2.after hq';subst ev;exact⟨rv,⟨V.ref (s.heap.objs.size+1),H',I3,rfl,q3⟩⟩
  |next=>exact False.elim hq'
  |brk=>exact False.elim hq'
  |cont=>exact False.elim hq'
end
section
variable {X:Cx}{Z:b8}{ow:ZH}{c m:Nat}{pos:Pos}{e:Expr}{F H:Hp}{σ:St}{δ:DS}{g:ZP}{K:ZC}{nm:Str}
def sD(h:i≠ow.length):(ow++[c]).getD i 0=ow.getD i 0:=by
 rw[Ë,Ë];by_cases hl:i<ow.length
 .rw[ï hl]
 .rw[å (by rw[Ñ,ñ];lia),å (by exact ä.mp ‹_›)]
def BK:(ow++[c]).getD ow.length 0=c:=by
 rw[Ë,ã (Ç _),Nat.sub_self];rfl
def uI{α:Type}{xs:List α}{y:α}(h:i≠xs.length):(xs++[y])[i]?=xs[i]?:=by
 by_cases hl:i<xs.length
 .rw[ï hl]
 .rw[å (by rw[Ñ,ñ];lia),å (by exact ä.mp ‹_›)]
def kW{α:Type}{xs:List α}{y:α}:(xs++[y])[xs.length]?=some y:=by
 rw[ã (Ç _),Nat.sub_self];rfl
def cA.push(R:cA K Z ow g F H σ δ)(hk:kd c=2)(hC:W.nsIn K mainGlobals nm=some (some (.ref C)))(hx:H x=none)(hdx:H dx=none)(ne:dx≠x)(hm:δ.length=ow.length)(hps:ow.length∉Z.ps):
  cM K Z (ow++[c]) F (aX (aX H dx (.own x)) x (.ins C dx [])) (σ++[some (.ref x)]) (δ++[some (dE nm [] [])]):=by
 have hsm:σ.length=ow.length:=by rw[<- R.len];exact hm
 have fx:F x=none:=by
  cases e:F x with
  |none=>rfl
  |some u=>rw[R.sub x u e]at hx;cases hx
 have fdx:F dx=none:=by
  cases e:F dx with
  |none=>rfl
  |some u=>rw[R.sub dx u e]at hdx;cases hdx
 have h0:∀a,H a=none->Z.H0 a=none:=λa e=>by
  cases e1:Z.H0 a with
  |none=>rfl
  |some o=>exact absurd e (R.there a (by rw[e1];simp))
 have hk':∀b o,H b=some o->aX (aX H dx (.own x)) x (.ins C dx []) b=some o:=λb o e=>by
  rw[aG (λz=>by rw[z,hx]at e;cases e),aG (λz=>by rw[z,hdx]at e;cases e)];exact e
 refine⟨λb=>if b=x then some (ow.length,[])else if b=dx then some (ow.length,[1000])else g b,λb u e=>hk' b u (R.sub b u e),R.f0,λb u n e=>hk' b u (R.kept b u n e),R.new,λb z=>?_,λa i p e=>?_,by rw[Ñ,Ñ,R.len];rfl,λi hi=>?_,λi d e=>?_⟩
 .cases e:H b with
  |none=>exact absurd e (R.there b z)
  |some o=>rw[hk' b o e];simp
 .split at e
  .rename_i z;rw[z];exact .inl (h0 x hx)
  .split at e
   .rename_i z;rw[z];exact .inl (h0 dx hdx)
   .exact R.lab a i p e
 .have:i≠ow.length:=λz=>hps (by rw[<- z];exact hi)
  rw[uI ∅,sD this];exact R.par i hi
 .by_cases hi:i=ow.length
  .have e2:(δ++[some (dE nm [] [])])[i]?=some (some (dE nm [] [])):=by rw[hi,<- hm];exact kW
   rw[e2]at e;cases e;refine⟨.ref x,by rw[hi,<- hsm];exact kW,?_⟩;rw[hi,BK];exact bD.mkI (C:=C) (dx:=dx) (vs:=[]) hk rfl rfl hC (Á rfl) aN fx (by rw[Â ne,Á rfl];rfl) (by rw[aG ne,aN]) fdx λk d' v' z1=>by cases z1
  .rw[uI ∅]at e
   let⟨v,e1,o⟩:=R.slot i d e;refine⟨v,by rw[uI ∅];exact e1,?_⟩;rw[sD hi];refine o.keepJ 'k' λa p u y1 y2 y3=>⟨?_,hk' a u y2,y3⟩;rw[Â (λz=>by rw[z,hx]at y2;cases y2),Â (λz=>by rw[z,hdx]at y2;cases y2)];exact y1
def cA.pop(S:aO Z ow)(R:cA K Z (ow++[c]) g F H (σ++[some v]) (δ++[some d]))(hm:δ.length=ow.length)(hps:ow.length∉Z.ps)(hlt:ow.length<1000):gF K Z ow c d v F H σ δ:=by
 have hsm:σ.length=ow.length:=by have:=R.len;rw[Ñ,Ñ]at this;simp at this;lia
 refine⟨λb=>match g b with|some (j,p)=>if j=ow.length then some (1000,p)else if j=1000 then none else some (j,p)|none=>none,⟨R.sub,R.f0,R.kept,R.new,R.there,λa i p e=>?_,∅,λi hi=>?_,λi d' e=>?_⟩,?_⟩
 .cases eg:g a with
  |none=>rw[eg]at e;cases e
  |some l=>
   let⟨j,q⟩:=l;rw[eg]at e;dsimp only at e;split at e
   .rename_i z
    cases e;rcases R.lab a j _ eg with w|⟨q',w⟩
    .exact .inl w
    .exact absurd (Z.wf a j q' w) (by rw[z];exact hps)
   .split at e
    .cases e
    .cases e;exact R.lab a i p eg
 .have:i≠ow.length:=λz=>hps (by rw[<- z];exact hi)
  have q:=R.par i hi;rw[uI ∅,sD this]at q;exact q
 .have hi:i<δ.length:=(Î.mp e).1
  let⟨v',e1,o⟩:=R.slot i d' (by rw[uI (by exact Ê ‹_›)];exact e);rw[uI ∅]at e1;rw[sD ∅]at o;refine⟨v',e1,o.relab λa p y=>?_⟩;rw[y];dsimp only;rw[Â ∅,Â ∅]
 .obtain⟨v',e1,o⟩:=R.slot ow.length d (by rw[<- hm];exact kW)
  rw[<- hsm,kW]at e1;cases e1;rw[BK]at o;refine o.relab λa p y=>?_;rw[y];exact Á rfl
def GM(m:Nat)(nm:Str)(fn:ZI->Res D)(as:List Arg):M D:=λδ=>(cK as δ).bind λods δ1=>if δ1.length=m then (match dP δ1 as ods with
 |some ds=>(match fn (dE nm [] []::ds)with
  |.ok .none [some d]=>.ok d δ1
  |.err x [some _]=>.err x δ1
  |_=>.stuck)
 |none=>.stuck)else .stuck
def xR{δ δ':DS}:∀{as:List Arg}{ods:List (ZL)},aU as=[]->dP δ as ods=dP δ' as ods
 |[],[],_=>rfl
 |[],_::_,_=>rfl
 |.own i::as,_,h=>by cases h
 |.val f::as,[],_=>rfl
 |.val f::as,none::ods,_=>rfl
 |.val f::as,some d::ods,h=>by unfold dP;rw[xR (δ:=δ) (δ':=δ') (as:=as) h]
def xS :∀{as:List Arg}{ods:List (ZL)}{vs:List V},aU as=[]->rM K F σ as ods vs->rM K F σ' as ods vs
 |[],[],[],_,_=>True.intro
 |.own i::as,_,_,h,_=>by cases h
 |.val f::as,some d::ods,v::vs,h,z=>⟨z.1,xS (as:=as) h z.2⟩
def GN{xs:DS}{y z:ZL}:(xs++[y]).set xs.length z=xs++[z]:=by
 rw[List.set_append_right _ _ (Ç _),Nat.sub_self];rfl
def UW(S:aO Z ow)(hC:ŀ X.K nm C)(hk:kd c=2)(hz:X6 Z=true)(hl:as.length+1=pn.length)(hv:aU as=[])(hm:fF owp (ow++[c]) 0 (.own ow.length::as)=true)(hlt:as.length+1<=1000)(hps:ow.length∉Z.ps)(hlo:ow.length<1000)(h:tD X Z ow c (GM ow.length nm fn as) σ H Q):UU C (SR X.K pn [0] owp 0 fn) (EX X) (Ķ X Z ow as) σ H Q:=by
 let⟨F,δ,R,h⟩:=h;unfold GM at h;sleep 2;cases e:cK as δ with
 |stuck=>sleep 1
 |err x δ1=>rw[e]at h;exact h
 |ok ods δ1=>
  rw[e]at h;simp![Res.bind]at h;rintro vs H1 F1 ⟨g1,R1⟩ s1 z x dx hx hdx ne;split at h
  .rename_i hml
   cases e2:dP δ1 as ods with
   |none=>rw[e2]at h;exact h.elim
   |some ds=>
    rw[e2]at h;dsimp only at h;have R2:=R1.push (c:=c) (nm:=nm) hk hC.1 hx hdx ne hml hps;have hsl:σ.length=ow.length:=by rw[<- R1.len];exact hml
    have zA:rM X.K F1 (σ++[some (.ref x)]) (.own ow.length::as) (none::ods) (.ref x::vs):=⟨by rw[<- hsl];exact kW,xS hv z⟩;have fA:dP (δ1++[some (dE nm [] [])]) (.own ow.length::as) (none::ods)=some (dE nm [] []::ds):=by
     unfold dP;rw[<- hml,kW,xR (δ':=δ1) hv,e2]
    have S2:aO Z (ow++[c]):=⟨by rw[Ñ,ñ];assumption,S.ps⟩;let⟨m1,m2⟩:=lR hm;have l2:=(kR fA zA).2.1;refine⟨by rw[l2];exact hl,L9 S2 R2 zA fA ?_ ?_ (λq i e=>by have:=m1 q i e;rwa [Nat.zero_add]at this) (λq f e=>by have:=m2 q f e;rwa [Nat.zero_add]at this) hlt ?_⟩
    .have:∀(k:Nat)(as:List Arg),aU as=[]->fV k as=[]:=by
      intro k as
      induction as generalizing k with
      |nil=>intro _;rfl
      |cons a as ih=>
       cases a with
       |own i=>intro h;cases h
       |val f=>intro h;exact ih (k+1) h
     show 0::fV 1 as=[0];rw[this 1 as hv]
    .show (ow.length::aU as).Nodup
     rw[hv];simp
    .have es:aU (.own ow.length::as)=[ow.length]:=by show ow.length::aU as=_;rw[hv]
     rw[es];split at h
     .rename_i d e3
      rw[e3];intro v H' F' R' s';have hv':=R'.rep;unfold bI at hv';subst hv';let⟨g3,R3⟩:=R'.rel;have R3:cA X.K Z (ow++[c]) g3 F' H' (σ++[some (.ref x)]) ((δ1++[some (dE nm [] [])]).set ow.length (some d)):=R3;rw[<- hml,GN]at R3;exact⟨rfl,h _ H' F' (R3.pop S hml hps hlo) (s1.trans' s')⟩
     .rename_i x' d e3
      rw[e3];intro nm' hx' H' F' R' s' nm2 hnm U e s2 I2 fl;injection hnm with hnm;subst hnm;let⟨g3,R3⟩:=R';have R3:cA X.K Z (ow++[c]) g3 F' H' (σ++[some (.ref x)]) ((δ1++[some (dE nm [] [])]).set ow.length (some d)):=R3;rw[<- hml,GN]at R3;let⟨F2,s3,R4⟩:=(R3.pop S hml hps hlo).rel.toP hz;exact iV.out h U e s2 ⟨nm',H',F2,σ,hx',I2,R4,s1.trans' (s'.trans' s3),fl⟩
     .exact h.elim
  .exact h.elim
def aAV{p:Pos}(m:Nat)(S:aO Z ow)(hC:ŀ X.K x C)(M:Mk X.K C fa)(Fk:qZ X.prog X.w X.K X.mg X.base (zY X.prog X.w X.K) k fa fd pn (SR X.K pn [0] owp 0 fn))(hr:fC (k+1) X.A)(hg:Gl X x)(hmg:X.mg x=some (.ref C))(hb:pF X.K fd pn [])(ha:DA X Z ow (e::es) as)(c:Nat)(hm0:↥(ow.length=m))(hk:↥(kd c=2))(hz:↥(X6 Z=true))(hl:↥(as.length+1=pn.length))(hv:↥(aU as=[]))(hm:↥(fF owp (ow++[c]) 0 (.own ow.length::as)=true))(hlt:⇑(as.length+1<=1000))(hps:↥(Z.ps.contains ow.length=false))(hlo:⇑(ow.length<1000))(hdb:⇑(Zdb x))(he:↥(Zse e es X.env))(hpl:↥(Zbt pos es X.env)):
  DE X Z ow c (.Call 'g' (e::es) [] pos) (GM m x fn as):=PE.mono (UV M Fk hr hg hmg hb ha hdb he hpl) λ_ _ _ h=>by subst hm0;exact UW S hC hk hz hl hv hm hlt (dG hps) hlo h
end
section
variable {κ:Type}[DecidableEq κ]
def p9(À:List (κ×V))(k:κ):(Option V):=(À.find? λkv=>decide (kv.1=k)).map (·.2)
def uJ(À:List (κ×V))(k:κ)(v:V):(List (κ×V)):=
 if (À.any λkv=>decide (kv.1=k))=true then À.map (λkv=>if kv.1=k then (kv.1,v)else kv)else À++[(k,v)]
def sE{k:κ}(e:p.1=k):p9 (p::r) k=some p.2:=by simp[p9,Ā,e]
def sF{k:κ}(e:¬p.1=k):p9 (p::r) k=p9 r k:=by simp[p9,Ā,e]
def GO(k:κ):∀À:List (κ×V),(À.any λkv=>decide (kv.1=k))=(p9 À k).isSome
 |[]=>rfl
 |p::r=>by
  rw[List.any_cons];by_cases e:p.1=k
  .simp![sE e,decide_eq_true e,Bool.true_or,Option.isSome_some]
  .rw[sF e,decide_eq_false e,Bool.false_or];exact GO k r
def vK(À:List (κ×V))(k:κ)(v:V):(uJ À k v).length<=À.length+1:=by
 unfold uJ;split
 .rw[Å];exact Nat.le_succ _
 .rw[Ñ,Ý,List.length_nil];exact ç _
def oY.isSome_eq(r:oY o u):o.isSome=u.isSome:=by
 cases o with
 |none=>cases u with
  |none=>rfl
  |some _=>exact(show False from r).elim
 |some _=>cases u with
  |none=>exact(show False from r).elim
  |some _=>rfl
def oY.getD(r:oY o u)(rd:bG d d'):bG (o.getD d) (u.getD d'):=by
 cases o with
 |none=>cases u with
  |none=>exact rd
  |some _=>exact(show False from r).elim
 |some _=>cases u with
  |none=>exact(show False from r).elim
  |some _=>exact r
def KV.val(r:KV À vs)(k:κ):oY (p9 À k) (valueAt vs k):=by
 unfold KV at r
 induction r with
 |nil=>exact True.intro
 |@cons p q ps qs h t ih=>
  let⟨h1,h2⟩:=h;by_cases e:p.1=k
  .have e':q.1=k:=h1.symm.trans e
   have b:valueAt (q::qs) k=some q.2:=by simp[valueAt,Ā,e']
   rw[sE e,b];exact h2
  .have e':¬q.1=k:=λz=>e (h1.trans z)
   have b:valueAt (q::qs) k=valueAt qs k:=by simp[valueAt,Ā,e']
   rw[sF e,b];exact ih
def KV.any(r:KV À vs)(k:κ):(À.any λkv=>decide (kv.1=k))=vs.any λkv=>decide (kv.1=k):=by
 unfold KV at r
 induction r with
 |nil=>rfl
 |cons h t ih=>rw[List.any_cons,List.any_cons,ih,h.1]
def KV.repl(r:KV À vs)(k:κ)(ry:bG y u):
  KV (À.map λkv=>if kv.1=k then (kv.1,y)else kv) (vs.map λkv=>if kv.1=k then (kv.1,u)else kv):=by
 unfold KV at r⊢
 induction r with
 |nil=>exact .nil
 |@cons p q ps qs h t ih=>
  rw[Ð,Ð];refine .cons ?_ ih;let⟨h1,h2⟩:=h;by_cases e:p.1=k
  .rw[Á e,Á (h1.symm.trans e)];exact⟨h1,ry⟩
  .rw[Â e,Â (λz=>e (h1.trans z))];exact⟨h1,h2⟩
def KV.put(r:KV À vs)(k:κ)(ry:bG y u):KV (uJ À k y) (stored vs k u):=by
 unfold uJ stored;rw[r.any k];by_cases e:(vs.any λkv=>decide (kv.1=k))=true
 .rw[Á e,Á e];exact r.repl k ry
 .rw[Â e,Â e];exact Paired.snoc r ⟨rfl,ry⟩
def KV.length{À:List (κ×V)}{vs:List (κ×Value)}(r:KV À vs):À.length=vs.length:=Paired.length r
end
def M8(r:bG (kV k) u):(c9 P w).is k u=true:=by
 cases k with
 |inl i=>let⟨t,e⟩:=(show ∃t,u=Value.int i t from r);subst e;exact EZ P w i t
 |inr x=>let⟨t,e⟩:=(show ∃t,u=Value.str x t from r);subst e;exact E0 P w x t
def BL :∀{ks:List dN}{us:ZJ},bH (ks.map kV) us->ItemsAre (c9 P w) ks us
 |[],_,r=>by rw[List.map_nil]at r;cases r;exact .nil
 |k::ks,_,r=>by
  rw[Ð]at r;cases r with
  |cons h t=>exact .cons (M8 h) (BL t)
abbrev KT(H:Hp):List (List dN×V)->List (List dN×Addr×Value)->Prop:=Paired λp q=>p.1=q.1/\H q.2.1=some (.tup (p.1.map kV))/\bG p.2 q.2.2
def KT.val(r:KT H À xs)(k:List dN):oY (p9 À k) ((atKey xs k).map (·.2)):=by
 induction r with
 |nil=>exact True.intro
 |@cons p q ps qs h t ih=>
  let⟨h1,_,h2⟩:=h;by_cases e:p.1=k
  .have e':q.1=k:=h1.symm.trans e
   have b:atKey (q::qs) k=some q.2:=by simp[atKey,Ā,e']
   rw[sE e,b];exact h2
  .have e':¬q.1=k:=λz=>e (h1.trans z)
   have b:atKey (q::qs) k=atKey qs k:=by simp[atKey,Ā,e']
   rw[sF e,b];exact ih
def KT.repl(r:KT H À xs)(k:List dN)(ry:bG y u):
  KT H (À.map λkv=>if kv.1=k then (kv.1,y)else kv) (xs.map (putAt k u)):=by
 induction r with
 |nil=>exact .nil
 |@cons p q ps qs h t ih=>
  rw[Ð,Ð];refine .cons ?_ ih;let⟨h1,h2,h3⟩:=h;unfold putAt;by_cases e:p.1=k
  .rw[Á e,Á (h1.symm.trans e)];exact⟨h1,h2,ry⟩
  .rw[Â e,Â (λz=>e (h1.trans z))];exact⟨h1,h2,h3⟩
def KT.put(r:KT H À xs)(k:List dN)(hb:H b=some (.tup (k.map kV)))(ry:bG y u):
  KT H (uJ À k y) (storedH xs k b u):=by
 have e:(À.any λkv=>decide (kv.1=k))=(atKey xs k).isSome:=by
  rw[GO,(r.val k).isSome_eq,Option.isSome_map]
 unfold uJ storedH;rw[e];by_cases q:(atKey xs k).isSome=true
 .rw[Á q,Á q];exact r.repl k ry
 .rw[Â q,Â q];exact Paired.snoc r ⟨rfl,hb,ry⟩
def KT.keeps(r:KT H À xs)(ht:∀b ys,H b=some (.tup ys)->H' b=some (.tup ys)):KT H' À xs:=
 Paired.mapP r λ_ _ z=>⟨z.1,ht _ _ z.2.1,z.2.2⟩
section
def ϒ(ok:mG P w H h)(e:Rd H a u):dO P w H h a u:=e.ok ok
def M9(ok:mG P w H h)(e:Rd H a (.dK À)):À.length<=sizeLine/\(a == sysModules)=false/\∃vs,KV À vs/\h.DictOf (c9 P w) a vs:=
 show dO P w H h a (.dK À)from ϒ ok e
def aJ6(ok:mG P w H h)(e:H a=some (.dK À)):À.length<=sizeLine/\(a == sysModules)=false/\∃vs,KV À vs/\h.DictOf (c9 P w) a vs:=M9 ok (.inl e)
def DU(ok:mG P w H h)(e:H a=some (.tup (ks.map kV))):(tupleKind (c9 P w)).is h ks a:=by
 let⟨_,its,r,o,h1,h2,n,h3⟩:=(show dO P w H h a (.tup (ks.map kV))from ok a _ e);exact⟨o,its.toArray,n,h1,h2,h3,by simpa using BL r⟩
def NA(ok:mG P w H h)(e:Rd H a (.dT À)):À.length<=sizeLine/\(a == sysModules)=false /\
  ∃xs,KT H À xs/\h.DictOfH (tupleKind (c9 P w)) a xs:=by
 let⟨z,y,xs,r,o,es,ep,h1,h2,h3,h4,h5⟩:=(show dO P w H h a (.dT À)from ϒ ok e);refine⟨z,y,xs,r,o,es,ep,h1,h2,h3,h4,λx hx=>?_,h5⟩;have all:∀{l:List (List dN×V)}{m:List (List dN×Addr×Value)},KT H l m->∀x∈m,(tupleKind (c9 P w)).is h x.1 x.2.1:=by
  intro l m q
  induction q with
  |nil=>intro x hx;exact nomatch hx
  |@cons p q ps qs hq t ih=>
   intro x hx;rcases Ì.mp hx with e|hx
   .subst e
    exact DU ok (by rw[<- hq.1];exact hq.2.1)
   .exact ih x hx
 exact all r x hx
def aJ7(ok:mG P w H h)(e:H a=some (.dT À)):À.length<=sizeLine/\(a == sysModules)=false /\
  ∃xs,KT H À xs/\h.DictOfH (tupleKind (c9 P w)) a xs:=NA ok (.inl e)
end
def AA(H:Hp)(a:Addr)(y:V)(r:Option V):Prop:=
 (∃À k,Rd H a (.dK À)/\y=kV k/\r=p9 À k)\/∃À k b,Rd H a (.dT À)/\y=.ref b/\H b=some (.tup (k.map kV))/\r=p9 À k
def UX(H:Hp)(a:Addr)(y v:V)(H':Hp):Prop:=
 (∃À k,H a=some (.dK À)/\y=kV k/\À.length<sizeLine/\H'=aX H a (.dK (uJ À k v))) \/
 ∃À k b,H a=some (.dT À)/\y=.ref b/\H b=some (.tup (k.map kV))/\À.length<sizeLine/\H'=aX H a (.dT (uJ À k v))
def AA.k{H:Hp}{a:Addr}{À:List (dN×V)}{k:dN}(e:H a=some (.dK À)):AA H a (kV k) (p9 À k):=.inl ⟨À,k,.inl e,rfl,rfl⟩
def UX.k{H:Hp}{a:Addr}{À:List (dN×V)}{k:dN}{v:V}(e:H a=some (.dK À))(hl:À.length<sizeLine):UX H a (kV k) v (aX H a (.dK (uJ À k v))):=.inl ⟨À,k,e,rfl,hl,rfl⟩
section
variable {X:Cx}{U:ZB}{σ:St}{H:Hp}{s:Shared}{a:Addr}{y v:V}{u r:Value}{o:Option V}{A:Around}{E:ZA}
def Inv.big(I:Inv X U σ H s):sysModules<s.heap.objs.size:=by
 have h:mainGlobals<s.heap.objs.size:=(I.mod.glob.keeps I.bk).lt;exact Nat.lt_trans ⋯ h
def aMY{Q:ZA}(hu:A.units+1<cLine)(I:Inv X U σ H s)(g:AA H a y o)(ry:bG y u)(h:∀s',Inv X U σ H s'->Q (.bool o.isSome) s'):
  wpAny 'b' A (compareOp .In u (.ref a)) Q E s:=by
 rcases g with ⟨À,k,e,ey,l⟩|⟨À,k,b,e,ey,eb,l⟩
 .subst ey
  let⟨z,hd,vs,rel,dd⟩:=M9 I.hok e;refine wpAny_in_of (M8 ry) hd dd.mapOf ?_;rw[<- (rel.val k).isSome_eq,<- l];exact h _ (I.tok _)
 .subst ey
  cases (show u=Value.ref b from ry);let⟨z,hd,xs,rel,dd⟩:=NA I.hok e;refine wpAny_in_heap (tupleKind_room_in1 hu) (DU I.hok eb) hd dd ?_;have q:=(rel.val k).isSome_eq;rw[Option.isSome_map]at q;rw[<- q,<- l];exact h _ (I.tok _)
def NB(I:Inv X U σ H s)(mu:Ġ (H a))(hs:Heap.SameBut a s.heap h')(he:∃q,h'.get? a=some q)(new:dO X.prog X.w (aX H a ob) h' a ob):
  Inv X U σ (aX H a ob) {s with heap:=h',toks:=t'}:=
 I.write (x:=a) (e:=a) mu (.inl rfl) (λb q hb z=>(hs.2 b hb).trans z) he new
def aGW(z:À.length<=sizeLine)(hd:(a == sysModules)=false)(rel:KV À vs)(dd:h'.DictOf (c9 P w) a vs):
  dO P w H' h' a (.dK À):=⟨z,hd,vs,rel,dd⟩
def PP{H':Hp}{Q:Unit->Shared->Prop}(hu:A.units+1<cLine)(I:Inv X U σ H s)(g:UX H a y v H')(ry:bG y u)(rv:bG v r)(h:∀s',Inv X U σ H' s'->Q () s'):
  wpAny 'b' A (setItem (.ref a) u r) Q E s:=by
 rcases g with ⟨À,k,e,ey,l,eH⟩|⟨À,k,b,e,ey,eb,l,eH⟩
 .subst ey eH
  let⟨z,hd,vs,rel,dd⟩:=aJ6 I.hok e;have hz:vs.length<=sizeLine:=by rw[<- rel.length];exact z
  have hl:(uJ À k v).length<=sizeLine:=by have:=vK À k v;exact Õ ‹_› ‹_›
  refine wpAny_setItem_pairs (hsz:=hz) (M8 ry) dd λh' dd' hs=>h _ ?_;have he:∃q,h'.get? a=some q:=let ⟨q,_,_,hq,_⟩:=dd';⟨q,hq⟩
  exact NB I (by rw[e];exact True.intro) hs he (aGW hl hd (rel.put k rv) dd')
 .subst ey eH
  cases (show u=Value.ref b from ry);let⟨z,hd,xs,rel,dd⟩:=aJ7 I.hok e;have hz:xs.length<=sizeLine:=by rw[<- Paired.length rel];exact z
  have hl:(uJ À k v).length<=sizeLine:=by have:=vK À k v;exact Õ ‹_› ‹_›
  refine wpAny_setItem_heap (hsz:=hz) (tupleKind_room_in1 hu) (DU I.hok eb) dd λh' dd' hs=>h _ ?_;let⟨q,es,ep,hq,h2,h3,h4,_,h5⟩:=dd';refine NB I (by rw[e];exact True.intro) hs ⟨q,hq⟩ ⟨hl,hd,_,(rel.put k eb rv).keeps λc ys ec=>?_,q,es,ep,hq,h2,h3,h4,h5⟩;rw[aG (Ϻ ec e (λz=>nomatch z))];exact ec
end
section
end
def aMZ(ty td:TE):TE:=λσ H Q=>ty σ H λy H1=>td σ H1 λx H2=>∃a o,x=.ref a/\AA H2 a y o/\Q (.bl o.isSome) H2
def aJ8(td ty tv:TE):TS:=λD σ H=>tv σ H λv H1=>td σ H1 λx H2=>ty σ H2 λy H3=>∃a H4,x=.ref a/\UX H3 a y v H4/\D.nx σ H4
section
def UY(hu:X.A.units+1<cLine)(hi:PE X i ty)(ho:PE X o td):PC X .In i o (aMZ ty td):=by
 intro U s σ H Q I h;refine cL (hi U s σ H _ I h) λiv s1⟨y,H1,I1,ry,q1⟩=>cL (ho U s1 σ H1 _ I1 q1) λu s2 zQ=>?_;let⟨x,H2,I2,rx,a,ov,ex,g,q2⟩:=zQ;subst ex;obtain rfl:u=Value.ref a:=rx;exact aMY hu I2 g ry λs3 I3=>⟨.bl ov.isSome,H2,I3,rfl,q2⟩
def aAW(hu:X.A.units+1<cLine)(ho:PE X o td)(hi:PE X i ty)(hv:PE X value tv)(hs:swapsWith value (some (.Subscript o i pos')) pos.line X.env=pure false):
  PS X (.Assign [.Subscript o i pos'] value pos) (aJ8 td ty tv):=by
 intro U s σ H D I h;refine wpAny_Assign_Subscript (cL (hv U s σ H _ I h) λr s1⟨v,H1,I1,rv,q1⟩=>cL (ho U s1 σ H1 _ I1 q1) λu s2⟨x,H2,I2,rx,q2⟩=>cL (hi U s2 σ H2 _ I2 q2) λiv s3 zQ=>?_) hs;let⟨y,H3,I3,ry,a,H4,ex,g,q3⟩:=zQ;subst ex;obtain rfl:u=Value.ref a:=rx;exact PP hu I3 g ry rv λs4 I4=>⟨σ,H4,I4,q3⟩
end
def UZ(h:Heap)(hb:sysModules<h.objs.size):dO P w H (h.push {cls:=.type "dict",data:=.dict #[]}) h.objs.size (.dK []):=
 ⟨î _,beq_eq_false_iff_ne.mpr (Í (Ê hb)),[],.nil,Heap.DictOf.new h⟩
def aGX:TE:=λ_ H Q=>∀p,H p=none->Q (.ref p) (aX H p (.dK []))
section
def U0:PE X (.Dict [] [] pos) aGX:=λU s σ H Q I h=>
 wpAny_Dict_empty ⟨.ref s.heap.objs.size,_,I.laid (a:=s.heap.objs.size) (o:=.dK []) (t':=s.toks) (λ_ _ q=>Heap.get?_push_of_some _ q) (Ç _) (UZ s.heap I.big),rfl,h _ (I.hok.fresh (Ç _))⟩
end
structure M2(X:Cx)(o:Expr)(m:Str)(apos:Pos)(e f:Expr)(cpos:Pos):Prop where
 base:attributeBase o m X.env (eval o X.env)=eval o X.env
 few:((backTo cpos (starEach [e,f] X.env)).all (λx=>!x.1) && (backToKw cpos (keywordEach [] X.env)).all (λx=>x.1.isSome)
  && decide (([e,f]:List Expr).length+([]:List Keyword).length+(if ([]:List Keyword).isEmpty then 0 else 1)<30))=true
 line:(apos.endLine == cpos.line)=true
 trees:backTo cpos (starEach [e,f] X.env)=[(false,eval e X.env),(false,eval f X.env)]
def ϓ(H:Hp)(a:Addr):Prop:=(∃À,Rd H a (.dK À))\/∃À,Rd H a (.dT À)
def aGY(I:Inv X U σ H s)(d:ϓ H a):
  s.TypeIs (.ref a) "dict"/\(∀b,Value.ref a=.ref b->∃ob,s.heap.get? b=some ob/\ob.dict=none)/\(a == sysModules)=false:=by
 rcases d with ⟨À,e⟩|⟨À,e⟩
 .obtain⟨_,hd,vs,_,dd⟩:=M9 I.hok e
  refine⟨dd.typeIs,λb q=>?_,hd⟩;cases q;let⟨ob,_,_,h1,h2,_⟩:=dd;exact⟨ob,h1,h2.2.1⟩
 .obtain⟨_,hd,xs,_,dd⟩:=NA I.hok e
  refine⟨dd.typeIs,λb q=>?_,hd⟩;cases q;let⟨ob,_,_,h1,h2,_⟩:=dd;exact⟨ob,h1,h2.2.1⟩
section
variable {X:Cx}{U:ZB}{σ:St}{H:Hp}{s:Shared}{a:Addr}{y d:V}{u r:Value}{o:Option V}{A:Around}{E:ZA}
def aGZ(hu:A.units+1<cLine)(I:Inv X U σ H s)(g:AA H a y o)(ry:bG y u)(rd:bG d r)(h:∀w' s',Inv X U σ H s'->bG (o.getD d) w'->Q w' s'):
  wpAny 'b' A (call (.builtin "dict.get") [.ref a,u,r]) Q E s:=by
 rcases g with ⟨À,k,e,ey,l⟩|⟨À,k,b,e,ey,eb,l⟩
 .subst ey
  let⟨z,hd,vs,rel,dd⟩:=M9 I.hok e;refine call_meetsIn PySem.F.slot_dict_get dd.typeIs PySem.F.entry_dict_get (PySem.F.args_dict_get_3 _ _ _) (meets_dict_get_default (c9 X.prog X.w) a (M8 ry) hd r) ⟨_,dd.mapOf,h _ _ (I.tok _) ?_⟩;rw[l];exact(rel.val k).getD rd
 .subst ey
  cases (show u=Value.ref b from ry);let⟨z,hd,xs,rel,dd⟩:=NA I.hok e;refine call_meetsIn PySem.F.slot_dict_get dd.typeIs PySem.F.entry_dict_get (PySem.F.args_dict_get_3 _ _ _) (meetsH_dict_get_default (tupleKind (c9 X.prog X.w)) a b hd r) ⟨tupleKind_room_in1 hu,k,xs,DU I.hok eb,dd,h _ _ (I.tok _) ?_⟩;rw[l];exact(rel.val k).getD rd
end
def aG0(td ty tx:TE):TE:=λσ H Q=>td σ H λx H1=>∃a,x=.ref a/\ϓ H1 a/\ty σ H1 λy H2=>tx σ H2 λz H3=>∃o,AA H3 a y o/\Q (o.getD z) H3
section
def U1(hu:X.A.units+1<cLine)(ho:PE X o td)(he:PE X e ty)(hf:PE X f tx)(m:M2 X o "get" apos e f cpos):PE X (.Call (.Attribute o "get" apos) [e,f] [] cpos) (aG0 td ty tx):=by
 intro U s σ H Q I h;refine wpAny_Call_method m.base m.few m.line PySem.F.plainAttrs_dict PySem.F.slot_dict_get PySem.F.type_dict_get (cL (ho U s σ H _ I h) λu s1⟨x,H1,I1,rx,a,ex,d,q1⟩=>?_);subst ex;obtain rfl:u=Value.ref a:=rx;let⟨t1,t2,_⟩:=aGY I1 d;refine⟨t1,t2,?_⟩;rw[m.trees];refine Calls.callWith_builtin rfl (Calls.evalArgs_plain (Calls.spliced_cons (cL (he U s1 σ H1 _ I1 q1) λiv s2⟨y,H2,I2,ry,q2⟩=>
  Calls.spliced_cons (cL (hf U s2 σ H2 _ I2 q2) λfv s3⟨z,H3,I3,rz,ov,g,q3⟩=>Calls.spliced_nil ?_))))
 exact aGZ hu I3 g ry rz λw' s4 I4 rw'=>⟨_,H3,I4,rw',q3⟩
end
section
end
section
end
def c8:D->Option dN
 |.int i=>some (.inl i)
 |.str x=>some (.inr x)
 |_=>none
def sG(k:dN):c8 (EW k)=some k:=by cases k<;>rfl
def KJ(k:dN)(ms:List dN):(List dN):=if (ms.any λm=>decide (m=k))=true then ms else ms++[k]
def DW{α:Type}(k:dN)(y:α)(ms:List dN)(xs:List α):(List α):=if (ms.any λm=>decide (m=k))=true then (ms.zip xs).map (λp=>if p.1=k then y else p.2)else xs++[y]
def KK(k:dN)(y:D)(À:List (D×D)):(List (D×D)):=
 if (À.any λkv=>decide (c8 kv.1=some k))=true then À.map (λkv=>if c8 kv.1=some k then (kv.1,y)else kv)else À++[(EW k,y)]
def jO(k:dN)(À:List (D×D)):ZL:=(À.find? λkv=>decide (c8 kv.1=some k)).map Prod.snd
def NC{α:Type}:∀{ms:List dN}{xs:List α},ms.length=xs.length->((ms.zip xs).any λkv=>decide (kv.1=k))=ms.any λm=>decide (m=k)
 |[],[],_=>rfl
 |m::ms,x::xs,h=>by rw[à,List.any_cons,List.any_cons,NC (by simpa using h)]
def GP :∀{ms:List dN}{xs:ZI},ms.length=xs.length->(((ms.map EW).zip xs).any λkv=>decide (c8 kv.1=some k))=ms.any λm=>decide (m=k)
 |[],[],_=>rfl
 |m::ms,x::xs,h=>by
  rw[Ð,à,List.any_cons,List.any_cons,GP (by simpa using h)];dsimp only;rw[sG]
  grind
def ND{α:Type}{y:α}:∀{ms:List dN}{xs:List α},ms.length=xs.length->(ms.zip xs).map (λkv=>if kv.1=k then (kv.1,y)else kv)=ms.zip ((ms.zip xs).map (λp=>if p.1=k then y else p.2))
 |[],[],_=>rfl
 |m::ms,x::xs,h=>by
  rw[à,Ð,Ð,à,ND (by simpa using h)];congr 1;dsimp only;split<;>rfl
def GQ{y:D}:∀{ms:List dN}{xs:ZI},ms.length=xs.length->((ms.map EW).zip xs).map (λkv=>if c8 kv.1=some k then (kv.1,y)else kv)=(ms.map EW).zip ((ms.zip xs).map (λp=>if p.1=k then y else p.2))
 |[],[],_=>rfl
 |m::ms,x::xs,h=>by
  rw[Ð,à,à,Ð,Ð,à,GQ (by simpa using h)];congr 1;dsimp only;rw[sG]
  grind
def U2{xs:List α}(h:ms.length=xs.length):(KJ k ms).length=(DW k y ms xs).length:=by
 unfold KJ DW;split
 .rw[Å,é];lia
 .rw[Ñ,Ñ,h];rfl
def U3(h:ms.length=xs.length):uJ (ms.zip xs) k y=(KJ k ms).zip (DW k y ms xs):=by
 unfold uJ KJ DW;rw[NC h];split
 .exact ND h
 .rw[List.zip_append h];rfl
def U4{xs:ZI}(h:ms.length=xs.length):KK k y ((ms.map EW).zip xs)=((KJ k ms).map EW).zip (DW k y ms xs):=by
 unfold KK KJ DW;rw[GP h];split
 .exact GQ h
 .rw[ß,List.zip_append (by rw[Å];exact h)];rfl
def uK{K:ZC}:∀{ms:List dN}{ds:ZI}{vs:List V},ms.length=ds.length->aE K F ds vs->(jO k ((ms.map EW).zip ds)=none/\p9 (ms.zip vs) k=none)\/∃d v,jO k ((ms.map EW).zip ds)=some d/\p9 (ms.zip vs) k=some v/\bI K F d v
 |[],[],vs,_,_=>.inl ⟨rfl,rfl⟩
 |m::ms,d::ds,vs,h,r=>by
  unfold aE at r;let⟨x,t,rfl,hx,ht⟩:=r;rw[Ð,à,à];by_cases e:m=k
  .refine .inr ⟨d,x,?_,?_,hx⟩
   .unfold jO
    rw[Ā,decide_eq_true (by dsimp only;rw[sG,e])]
    rfl
   .exact sE e
  .have ih:=uK (k:=k) (ms:=ms) (by simpa using h) ht
   have e1:jO k ((EW m,d)::(ms.map EW).zip ds)=jO k ((ms.map EW).zip ds):=by
    unfold jO;rw[Ā,decide_eq_false (by dsimp only;rw[sG];exact λz=>e (Option.some.inj z))]
   rw[e1,sF (by exact e)];exact ih
def ϔ{K:ZC}:∀{ms:List dN}{ds:ZI}{vs:List V},ms.length=ds.length->aE K F ds vs->bI K F d v->aE K F ((ms.zip ds).map (λp=>if p.1=k then d else p.2)) ((ms.zip vs).map (λp=>if p.1=k then v else p.2))
 |[],[],vs,_,r,_=>by unfold aE at r;subst r;exact lM
 |m::ms,d'::ds,vs,h,r,hd=>by
  unfold aE at r;let⟨x,t,rfl,hx,ht⟩:=r;rw[à,à,Ð,Ð];refine lN ?_ (ϔ (by simpa using h) ht hd);dsimp only;split
  .exact hd
  .exact hx
def aAX{K:ZC}(h:ms.length=ds.length)(r:aE K F ds vs)(hd:bI K F d v):aE K F (DW k d ms ds) (DW k v ms vs):=by
 unfold DW;split
 .exact ϔ h r hd
 .exact r.app (lN hd lM)
section
variable {X:Cx}{Z:b8}{ow ol ox:ZH}{rm i:Nat}{spos tpos:Pos}{fk fv:M D}{F H:Hp}{σ:St}{δ:DS}{g:ZP}{K:ZC}
def bD.dct(h:bD K F H g i 30 p d v):
  ∃a ms ds vs,d=kL ms ds/\v=.ref a/\ms.length=ds.length/\ds.length=vs.length/\g a=some (i,p)/\H a=some (.dK (ms.zip vs))/\F a=none/\aE K F ds vs:=by
 let⟨ds,vs,cs,nd,hc,hl,r⟩:=bD.open (c:=29) h;let⟨a,ms,h1,h2,h3,rfl⟩:=nd;let⟨a1,a2,a3⟩:=hc _ (ð.mpr rfl);exact⟨a,ms,ds,vs,h1,h2,h3,hl,by simpa using a1,a2,a3,aE.of hl λk d' v' q1 q2=>r k d' v' q1 q2⟩
def bD.mkD{i:Nat}{p:ZH}{a:Addr}{ms:List dN}{ds:ZI}{vs:List V}(h3:ms.length=ds.length)(a1:g a=some (i,p))(a2:H a=some (.dK (ms.zip vs)))(a3:F a=none)(r:aE K F ds vs):bD K F H g i 30 p (kL ms ds) (.ref a):=by
 refine bD.shut (c:=29) (ds:=ds) (vs:=vs) (cs:=[(a,[],.dK (ms.zip vs))]) ⟨a,ms,rfl,rfl,h3,rfl⟩ (λx hx=>?_) r.len λk d' v' q1 q2=>r.both k d' v' q1 q2;rw[ð.mp hx];exact⟨by simpa using a1,a2,a3⟩
def cM.newDict(S:aO Z ow)(R:cM K Z ow F H σ δ)(hp:H p=none):gF K Z ow 30 (kL [] []) (.ref p) F (aX H p (.dK [])) σ δ:=by
 have fp:=R.fnone hp;let⟨g,R⟩:=R;have z:Z.H0 p=none:=by
  cases e:Z.H0 p with
  |none=>rfl
  |some u=>exact absurd hp (R.there p (by rw[e];simp))
 refine⟨λb=>if b=p then some (1000,[])else Ĕ g 1000 b,⟨R.sub.trans' (cC hp _),R.f0,λb u n e=>?_,R.new,λb h=>?_,λa i q e=>?_,R.len,R.par,λi d e=>?_⟩,?_⟩
 .have:b≠p:=λq=>by rw[q,z]at e;cases e
  rw[aG this];exact R.kept b u n e
 .have:b≠p:=λq=>h (by rw[q,z])
  rw[aG this];exact R.there b h
 .split at e
  .rename_i q;rw[q];exact .inl z
  .exact R.lab a i q (JV e).1
 .obtain⟨v,e1,o⟩:=R.slot i d e
  refine⟨v,e1,?_⟩;by_cases hi:ow.getD i 0=0
  .rw[hi]at o⊢;exact o
  .have hi':i<1000:=KI S hi
   refine o.keepJ (λ_ _ z=>z) λa q u e1 e2 e3=>?_;have:a≠p:=λz=>by rw[z,hp]at e2;cases e2
   exact⟨by rw[Â this];exact JU (by show i≠1000;exact Ê ‹_›) e1,by rw[aG this];exact e2,e3⟩
 .exact bD.mkD (ms:=[]) (vs:=[]) rfl (Á rfl) aN fp lM
def DX(S:aO Z ow):DE X Z ow 30 (.Dict [] [] pos) (dC (kL [] [])):=PE.mono U0 λσ H Q q=>by
 let⟨F,δ,R,q⟩:=q;exact λp hp=>q _ _ F (R.newDict S hp) 'k'
def cA.rewriteD(R:cA K Z ow g F H σ δ)(ho:ow.getD i 0=30)(hd:δ[i]?=some (some (kL ms ds)))(hs:σ[i]?=some (some (.ref a)))(hl:ms'.length=ds'.length)(hr:aE K F ds' vs'):
  cA K Z ow g F (aX H a (.dK (ms'.zip vs'))) σ (δ.set i (some (kL ms' ds'))):=by
 let⟨v,e1,o⟩:=R.slot i _ hd;rw[hs]at e1;cases e1;rw[ho]at o;let⟨a',ms0,ds0,vs0,q1,q2,q3,q4,q5,q6,q7,q8⟩:=o.dct;cases q2;have hi:i<δ.length:=(Î.mp hd).1;refine⟨λb u e=>?_,R.f0,λb u n e=>?_,R.new,λb z=>?_,R.lab,by rw[Ö];exact R.len,R.par,λj d e=>?_⟩
 .have:b≠a:=λz=>by rw[z,q7]at e;cases e
  rw[aG this];exact R.sub b u e
 .have:b≠a:=λz=>by
   subst z;rcases R.lab b i [] q5 with w|⟨q,w⟩
   all_goals grind
  rw[aG this];exact R.kept b u n e
 .by_cases hb:b=a
  .subst hb;rw[aN];simp
  .rw[aG hb];exact R.there b z
 .by_cases hj:j=i
  .subst hj
   rw[è hi]at e;cases e;refine⟨_,hs,?_⟩;rw[ho];exact bD.mkD hl q5 aN q7 hr
  .rw[Ú (Í hj)]at e
   let⟨v,e1,o⟩:=R.slot j d e;exact⟨v,e1,bD.updNe q5 (.inl hj) o⟩
def NE(i:Nat)(fk fv:M D):M Fl:=λδ=>(fv δ).bind λv δ1=>match δ1[i]? with
 |some (some _)=>(fk δ1).bind λk δ2=>(match δ2[i]?,c8 k with
  |some (some (.dict À)),some ky=>if À.length<sizeLine then .ok .next (δ2.set i (some (.dict (KK ky v À))))else .stuck
  |_,_=>.stuck)
 |_=>.stuck
def DY(h:c8 k=some ky)(r:bI K F k y):y=kV ky:=by
 cases k with
 |int i=>cases h;unfold bI at r;exact r
 |str x=>cases h;unfold bI at r;exact r
 |_=>cases h
def aG1{À:List (D×D)}(h:(PyData.dict À:D)=kL ms ds):À=(ms.map EW).zip ds:=by
 unfold kL at h;injection h
def sH(i:Nat){x:Str}{p:Pos}(hu:X.A.units+64<cLine)(hv:DE X Z ow 0 ev fv)(hk:DE X Z ow 0 ek fk)(ho:↥(ow.getD i 0=30))(hN:↥'s')(hvi:#v[zS X.env.scope x])(hd:⇑(Zdb x))(hcd:⇑(Zcd x))(hs:↥(swapsWith ev (some (.Subscript 'g' ek tpos)) spos.line X.env=pure false)):
  AW X Z ow ow ol ox rm (.Assign [.Subscript 'g' ek tpos] ev spos) (NE i fk fv):=PS.mono (aAW ∅ (dA hN hvi hd hcd) hk hv hs) λDn σ H h=>by
 let⟨F,δ,R,h⟩:=h;unfold NE at h;sleep 2;cases e:fv δ with
 |stuck=>sleep 1
 |err y δ1=>rw[e]at h;exact iV.cast h
 |ok dv δ1=>
  rw[e]at h;simp![Res.bind]at h;intro v H1 F1 R1 s1;cases e0:δ1[i]? with
  |none=>rw[e0]at h;exact h.elim
  |some o=>
   cases o with
   |none=>rw[e0]at h;exact h.elim
   |some d0=>
    rw[e0]at h;dsimp only at h;let⟨g0,R0⟩:=R1.rel;let⟨v0,w0,o0⟩:=R0.slot i _ e0;rw[ho]at o0;let⟨a,ms0,ds0,vs0,_,q2,_⟩:=o0.dct;subst q2;refine⟨_,w0,F1,δ1,R1.rel,?_⟩;cases e1:fk δ1 with
    |stuck=>rw[e1]at h;exact h.elim
    |err y δ2=>rw[e1]at h;exact iV.cast (iV.mono h s1)
    |ok dk δ2=>
     rw[e1]at h;dsimp only at h;intro kv H2 F2 R2 s2;let⟨g2,RG,ok2⟩:=R2;have ok2:bI X.K F2 dk kv:=ok2;split at h
     .rename_i À ky e2 e3
      split at h
      .rename_i hlt
       let⟨v1,w1,o1⟩:=RG.slot i _ e2;rw[ho]at o1;let⟨a',ms,ds,vs,d1,q2,l1,l2,_,hH,_,hr⟩:=o1.dct;rw[w0]at w1;cases w1;cases q2;obtain rfl:=aG1 d1;obtain rfl:=DY e3 ok2;rw[é,Å]at hlt;refine⟨a,_,rfl,UX.k hH (by rw[é];lia),?_⟩;rw[U3 'i'];rw[U4 l1]at h;have R3:=RG.rewriteD (ms':=KJ ky ms) ho (show δ2[i]?=some (some (kL ms ds))from e2) w0 (U2 l1) (aAX (k:=ky) l1 hr (s2.rep _ _ R1.rep));exact h σ _ F2 ⟨g2,R3⟩ (s1.trans' s2)
      .exact h.elim
     .exact h.elim
def NF(fx fk fz:M D):M D:=λδ=>(fx δ).bind λx δ1=>match x with
 |.dict À=>if (À.all λkv=>(c8 kv.1).isSome)=true then (fk δ1).bind λk δ2=>(fz δ2).bind λz δ3=>(match c8 k with
  |some ky=>.ok ((jO ky À).getD z) δ3
  |none=>.stuck)else .stuck
 |_=>.stuck
def NG{À:List (D×D)}(h:bI K F (.dict À) v)(ha:(À.all λkv=>(c8 kv.1).isSome)=true):∃(a:Addr)(ms:List dN)(ds:ZI)(vs:List V),À=(ms.map EW).zip ds/\ms.length=ds.length/\v=.ref a/\F a=some (.dK (ms.zip vs))/\aE K F ds vs:=by
 unfold bI at h;let⟨a,xs,rfl,hh,hr⟩:=h;rcases hh with ⟨nm,fs,C,dx,vs,h1,h2,_⟩|⟨ms,h1,h2,h3⟩
 .exfalso
  cases À with
  |nil=>cases h2
  |cons kv À=>
   rw[Ð]at h2;injection h2 with h2 _;rw[List.all_cons,h2]at ha;cases ha
 .have hl:ms.length=(À.map Prod.snd).length:=by rw[<- Å (f:=EW),<- h1,Å,Å]
  refine⟨a,ms,À.map Prod.snd,xs,?_,hl,rfl,h3,hr.all⟩;rw[<- h1];clear h1 hl h3 hr h2 ha
  induction À with
  |nil=>rfl
  |cons kv À ih=>grind
def NH{apos cpos:Pos}(hu:X.A.units+64<cLine)(ho:DE X Z ow 0 o fx)(he:DE X Z ow 0 e fk)(hf:DE X Z ow 0 f fz)(base:↥(attributeBase o "get" X.env (eval o X.env)=eval o X.env))(few:↥(((backTo cpos (starEach [e,f] X.env)).all (λx=>!x.1) && (backToKw cpos (keywordEach [] X.env)).all (λx=>x.1.isSome)
   && decide (([e,f]:List Expr).length+([]:List Keyword).length+(if ([]:List Keyword).isEmpty then 0 else 1)<30))=true))(line:↥((apos.endLine == cpos.line)=true))(trees:↥(backTo cpos (starEach [e,f] X.env)=[(false,eval e X.env),(false,eval f X.env)])):
  DE X Z ow 0 (.Call (.Attribute o "get" apos) [e,f] [] cpos) (NF fx fk fz):=PE.mono (U1 ∅ ho he hf ⟨base,few,line,trees⟩) λσ H Q q=>by
 let⟨F,δ,R,q⟩:=q;unfold NF at q;sleep 2;cases e1:fx δ with
 |stuck=>rw[e1]at q;sleep 5
 |err y δ1=>rw[e1]at q;exact q
 |ok dx δ1=>
  rw[e1]at q;simp![Res.bind]at q;intro x H1 F1 R1 s1;split at q
  .rename_i À
   split at q
   .rename_i hall
    let⟨a,ms,ds,vs,rfl,l1,rfl,hF,hr⟩:=NG R1.rep hall;refine⟨a,rfl,.inl ⟨_,.inl (R1.rel.sub _ _ hF)⟩,F1,δ1,R1.rel,?_⟩;cases e2:fk δ1 with
    |stuck=>rw[e2]at q;sleep 5
    |err y δ2=>rw[e2]at q;exact iV.mono q s1
    |ok dk δ2=>
     rw[e2]at q;simp![Res.bind]at q;intro y H2 F2 R2 s2;refine⟨F2,δ2,R2.rel,?_⟩;cases e3:fz δ2 with
     |stuck=>rw[e3]at q;sleep 5
     |err y δ3=>rw[e3]at q;exact iV.mono q (s1.trans' s2)
     |ok dz δ3=>
      rw[e3]at q;simp![Res.bind]at q;intro z H3 F3 R3 s3;split at q
      .rename_i ky e4
       obtain rfl:=DY e4 R2.rep;refine⟨p9 (ms.zip vs) ky,AA.k (R3.rel.sub _ _ (s3 _ _ (s2 _ _ hF))),?_⟩;rcases uK (k:=ky) l1 hr with ⟨h1,h2⟩|⟨d,v,h1,h2,h3⟩
       .rw[h1]at q
        rw[h2];exact q z H3 F3 R3 (s1.trans' (s2.trans' s3))
       .rw[h1]at q
        rw[h2];exact q v H3 F3 (R3.rel.x ((s2.trans' s3).rep _ _ h3)) (s1.trans' (s2.trans' s3))
      .sleep 5
   .sleep 5
  .sleep 5
end
section
def dU:List (M D)->M (ZI)
 |[],δ=>.ok [] δ
 |f::fs,δ=>match f δ with
  |.ok d δ1=>(match dU fs δ1 with
   |.ok ds δ2=>.ok (d::ds) δ2
   |_=>.stuck)
  |_=>.stuck
end
section
end
end L2
namespace L2
open PySem PySem.Spec
section
end
end L2
namespace L2
open PySem PySem.Spec PyProof.Rows
def U5(lo:Int)(n:Nat):(List V):=(List.range n).map λ(k:Nat)=>V.int (lo+(k:Int))
def aM0(ta:TA):TE:=λσ H Q=>ta σ H λvs H1=>∃j:Int,vs=[.int j]/\-(2^62)<=j/\j<2^62/\∀r,H1 r=none->Q (.ref r) (aX H1 r (.rng 0 j))
def aM1(ta:TA):TE:=λσ H Q=>ta σ H λvs H1=>∃i j:Int,vs=[.int i,.int j]/\(-(2^62)<=i/\i<2^62/\-(2^62)<=j/\j<2^62)/\∀r,H1 r=none->Q (.ref r) (aX H1 r (.rng i j))
def ϕ:∀{vs:List V}{us:ZJ},vs.length=us.length->(∀(k:Nat)(v:V)(u:Value),vs[k]?=some v->us[k]?=some u->bG v u)->bH vs us
 |[],[],_,_=>.nil
 |v::vs,u::us,hl,h=>.cons (h 0 v u rfl rfl) (ϕ (by simpa using hl) λk v' u' e1 e2=>h (k+1) v' u' e1 e2)
section
variable {X:Cx}{a b:Expr}{ta:TA}{p pos:Pos}
def aG2(hg:Gl X "range")(hm:X.mg "range"=none)(ha:PA X [a] ta)(hs:↥(starEach [a] X.env=[(false,eval a X.env)])):PE X (.Call (.Name "range" p) [a] [] pos) (aM0 ta):=by
 intro U s σ H Q I h;refine Call_ (iT I hg hm boot_range (PyProof.Rows.callWith_type1 (cL (ha pos U s σ H _ I h) λus s1 zQ=>?_) hs rfl));let⟨vs,H1,I1,r1,q1⟩:=zQ;let⟨j,e,q1,q2,q⟩:=q1;subst e;cases r1 with
 |cons r rr=>
  cases rr;let⟨t,rfl⟩:=r;exact call_range_1 ⟨.ref _,_,I1.laid (o:=.rng 0 j) (λb o e=>Heap.get?_push_of_some _ e) (Ç _) (show ∃t u v,_ from⟨_,_,_,Heap.get?_push_size _ rfl⟩),rfl,q _ (I1.hok.fresh (Ç _))⟩
def aG3(hg:Gl X "range")(hm:X.mg "range"=none)(ha:PA X [a,b] ta)(hs:↥(starEach [a,b] X.env=[(false,eval a X.env),(false,eval b X.env)]))(hs2:↥(starEach [b] X.env=[(false,eval b X.env)])):PE X (.Call (.Name "range" p) [a,b] [] pos) (aM1 ta):=by
 intro U s σ H Q I h;refine Call_ (iT I hg hm boot_range (PyProof.Rows.callWith_type1 (cL (ha pos U s σ H _ I h) λus s1 zQ=>?_) (by rw[hs,hs2]) (by rw[hs2];rfl)));let⟨vs,H1,I1,r1,q1⟩:=zQ;let⟨i,j,e,q1,q⟩:=q1;subst e;cases r1 with
 |cons r rr=>
  cases rr with
  |cons r' rr=>
   cases rr;let⟨t,rfl⟩:=r;let⟨t',rfl⟩:=r';exact call_range_2 ⟨.ref _,_,I1.laid (o:=.rng i j) (λb o e=>Heap.get?_push_of_some _ e) (Ç _) (show ∃t u v,_ from⟨_,_,_,Heap.get?_push_size _ rfl⟩),rfl,q _ (I1.hok.fresh (Ç _))⟩
def pO(hc:X.calm=true):fP X (.type "list") (λxs H Q=>∃p lo hi,xs=[.ref p]/\H p=some (.rng lo hi)/\(-(2^62)<=lo/\lo<2^62/\-(2^62)<=hi/\hi<2^62)/\(hi-lo).toNat<=sizeLine/\∀l,H l=none->Q (.ref l) (aX H l (.lst (U5 lo (hi-lo).toNat)))):=by
 intro U s σ H xs us Q I r h;let⟨p,lo,hi,rfl,hp,⟨h1,h2,h3,h4⟩,hz,q⟩:=h;let⟨u,rfl,rx⟩:=mU r;cases rx;let⟨t,u,v,e⟩:=I.hok p _ hp;refine call_list_range (I.ok.hd hc) (show IsRange s.heap p lo hi 1 t u v from e) (small_one h1 h2 h3 h4) (n:=(hi-lo).toNat) (by rw[rangeSize_one];split<;>lia) hz λh' tk acc' c' kp e it=>?_;let⟨i1,i2⟩:=it;refine⟨.ref _,_,I.laid (t':=tk) kp (Ç _) (show dO X.prog X.w _ h' _ (.lst (U5 lo (hi-lo).toNat))from⟨by unfold U5;simpa using hz,acc'.toList,c',?_,by simpa using e⟩),rfl,q _ (I.hok.fresh (Ç _))⟩;refine ϕ ?_ λk v u e1 e2=>?_
 .unfold U5;simp[i1]
 .have hk:k<(hi-lo).toNat:=by
   have:=(Î.mp e1).1;unfold U5 at this;simpa using this
  unfold U5 at e1;rw[Ï,ÿ hk]at e1;cases e1;let⟨t',e3⟩:=i2 k u (by simpa using e2);exact⟨t',by rw[e3];simp⟩
end
section
variable {X:Cx}{Z:b8}{ow:ZH}{a b:Expr}{f g:M D}{p p2 p3 pos:Pos}
def BM(fs:List (M D)):M D:=λδ=>(aZ fs δ).bind λds δ1=>match mP ds with
 |some (lo,n)=>if n<=sizeLine then .ok (.list (kP lo n)) δ1 else .stuck
 |none=>.stuck
def GR{K:ZC}{lo:Int}:aE K F (kP lo n) (U5 lo n):=aE.of (by rw[g5];unfold U5;simp) λk d v e1 e2=>by
 have hk:k<n:=by
  have:=(Î.mp e1).1;rw[g5]at this;exact this
 rw[CS hk]at e1;unfold U5 at e2;rw[Ï,ÿ hk]at e2;cases e1;cases e2;exact fW
def U6(S:aO Z ow)(hc:X.calm=true)(hgl:Gl X "list")(hml:X.mg "list"=none)(hgr:Gl X "range")(hmr:X.mg "range"=none)(ha:DE X Z ow 0 a f)(hs:↥(Zse a [] X.env))(he:↥(starEach [.Call (.Name "range" p2) [a] [] p3] X.env=(false,eval (.Call (.Name "range" p2) [a] [] p3) X.env)::starEach [] X.env)):DE X Z ow 1 (.Call (.Name "list" p) [.Call (.Name "range" p2) [a] [] p3] [] pos) (BM [f]):=
 PE.mono (tQ (pO hc) hgl hml rC (dW (aG2 hgr hmr (aF ha bF hs) hs) iU he) ⋯ ⋯ he) λσ H Q q=>by
  let⟨F,δ,R,q⟩:=q;unfold BM at q;sleep 2;cases e1:aZ [f] δ with
  |stuck=>rw[e1]at q;sleep 5
  |err x δ1=>rw[e1]at q;exact q
  |ok ds δ1=>
   rw[e1]at q;simp![Res.bind]at q;intro vs H1 F1 R1 s1 ra;cases e2:mP ds with
   |none=>rw[e2]at q;sleep 5
   |some m=>
    let⟨lo,m⟩:=m;rw[e2]at q;let⟨j,rfl,h1,h2,rfl,rfl⟩:=FK e2 (oF e1);dsimp only at q;split at q
    .rename_i hz
     refine⟨j,w9 ra,h1,h2,λr hr=>⟨r,0,j,rfl,aN,⟨⋯,⋯,h1,h2⟩,by simpa using hz,λl hl=>?_⟩⟩;have R2:=R1.laid (o:=.rng 0 j) hr;have fr:F1 r=none:=R1.fnone hr;have:=q (.ref l) _ _ (R2.newList (ds:=kP 0 j.toNat) (vs:=U5 0 (j-0).toNat) S hl (by rw[Int.sub_zero];exact GR)) (s1.trans' (cC fr _));exact this
    .sleep 5
def U7(S:aO Z ow)(hc:X.calm=true)(hgl:Gl X "list")(hml:X.mg "list"=none)(hgr:Gl X "range")(hmr:X.mg "range"=none)(ha:DE X Z ow 0 a f)(hb:DE X Z ow 0 b g)(hs:↥(starEach [a,b] X.env=(false,eval a X.env)::starEach [b] X.env))(hs2:↥(Zse b [] X.env))(he:↥(starEach [.Call (.Name "range" p2) [a,b] [] p3] X.env=(false,eval (.Call (.Name "range" p2) [a,b] [] p3) X.env)::starEach [] X.env)):DE X Z ow 1 (.Call (.Name "list" p) [.Call (.Name "range" p2) [a,b] [] p3] [] pos) (BM [f,g]):=
 PE.mono (tQ (pO hc) hgl hml rC (dW (aG3 hgr hmr (aF ha (aF hb bF hs2) hs) (hs.trans (by rw[hs2];rfl)) hs2) iU he) ⋯ ⋯ he) λσ H Q q=>by
  let⟨F,δ,R,q⟩:=q;unfold BM at q;sleep 2;cases e1:aZ [f,g] δ with
  |stuck=>rw[e1]at q;sleep 5
  |err x δ1=>rw[e1]at q;exact q
  |ok ds δ1=>
   rw[e1]at q;simp![Res.bind]at q;intro vs H1 F1 R1 s1 ra;cases e2:mP ds with
   |none=>rw[e2]at q;sleep 5
   |some m=>
    let⟨lo,m⟩:=m;rw[e2]at q;let⟨i,j,rfl,h1,rfl,rfl⟩:=SL e2 (oF e1);dsimp only at q;split at q
    .rename_i hz
     refine⟨lo,j,SM ra,h1,λr hr=>⟨r,lo,j,rfl,aN,h1,hz,λl hl=>?_⟩⟩;have R2:=R1.laid (o:=.rng lo j) hr;have fr:F1 r=none:=R1.fnone hr;exact q (.ref l) _ _ (R2.newList (ds:=kP lo (j-lo).toNat) (vs:=U5 lo (j-lo).toNat) S hl GR) (s1.trans' (cC fr _))
    .sleep 5
end
structure qA(K:ZC)(mg:ZD)(base:Heap):Prop where
 bm:∃bm ob,mg "__builtins__"=some (.ref bm)/\bm≠builtinsNs/\base.get? bm=some ob/\ob.cls=.type "module"/\ob.dict=some builtinsNs/\ob.data=.plain
 cd:∀c P pos,jK K=some (c,P,pos)->W.CodeHd base c P
section
variable {X:Cx}{U:ZB}{σ:St}{H:Hp}{s:Shared}
structure GS(X:Cx)(U:ZB)(a:Addr):Prop where
 pin:∀p∈X.pn++U,p.1≠a
 new:X.s₀.heap.objs.size<=a
 loc:a≠X.env.locals
 cells:∀x c,X.env.cells.lookup x=some c->c≠a
def Inv.mine(I:Inv X U σ H s)(h:s.heap.objs.size<=a):GS X U a:=
 ⟨λp hp=>Ê (Ó (Heap.lt_size (I.pin p hp).1) h),Õ I.sz h,Û (Ó I.lt h),λx c e=>by
  let⟨v,q⟩:=I.cell x c e;exact Ê (Ó q.lt h)⟩
def Inv.repin(I:Inv X ((a,o)::U) σ H s)(m:GS X U a)(k:∀b ob,b≠a->s.heap.get? b=some ob->h'.get? b=some ob)(e:h'.get? a=some o')(hd:∀v,o'.data≠.cell v):
  Inv X ((a,o')::U) σ H {s with heap:=h',toks:=t'}:=by
 let⟨p1,p2,p3,p4,p5⟩:=I.pin (a,o) (Ù _ Ô);have I1:Inv X U σ H s:=I.pins_of λp hp=>I.pin p (Ù _ (Ò _ hp));have I2:=I1.turned (h':=h') (t':=t') (it:=a) k p2 m.loc (.inr m.new) m.cells m.pin;refine I2.pins_of λp hp=>?_;rcases Ì.mp hp with rfl|hp
 .exact⟨e,p2,p3,p4,hd⟩
 .exact I2.pin p (Ù _ hp)
def Inv.pinNew(I:Inv X U σ H s)(e:s.heap.get? a=some o)(hn:H a=none)(hl:a≠X.env.locals)(hf:a∉X.fs)(hd:∀v,o.data≠.cell v):Inv X ((a,o)::U) σ H s:=I.pins_of λp hp=>by
 rcases Ì.mp hp with rfl|hp
 .exact⟨e,hn,hl,hf,hd⟩
 .exact I.pin p (Ù _ hp)
def Inv.unpin(I:Inv X (p::U) σ H s):Inv X U σ H s:=I.pins_of λq hq=>I.pin q (Ù _ (Ò _ hq))
end
abbrev sI(pos:Pos):HO:=.lam (rawInt pos.line) (rawInt pos.col) kM
abbrev PQ(pos:Pos)(c':Addr):Obj:=W.tabObj #[rawInt pos.line,rawInt pos.col,.ref c']
structure sJ(X:Cx)(U:ZB)(σ:St)(H:Hp)(P:Addr)(pos:Pos)(fo:Obj)(f c':Addr)(H':Hp)(s':Shared):Prop where
 inv:Inv X U σ H' s'
 same:aL H H'
 fn:s'.heap.get? f=some fo
 un:H' f=none
 loc:f≠X.env.locals
 nf:f∉X.fs
 cd:s'.heap.CodeRec (.ref c') kM
 own:H' c'=some (.own P)
 ne:c'≠P
 tb:s'.heap.get? P=some (PQ pos c')
 lm:H' P=some (sI pos)
section
variable {X:Cx}{U:ZB}{σ:St}{H:Hp}{s:Shared}{params:Arguments}{body:Expr}{scope:Scope}{pos:Pos}{c P:Addr}{clos:List (Str×Addr)}
def U8{Q:ZA}{E:ZA}{M:Model}{A:Around}(I:Inv X U σ H s)(B:qA X.K X.mg X.base)(hl:jK X.K=some (c,P,pos))(hP:H P=some (sI pos))(hcode:X.env.code=.ref c)(hq:X.env.qual++"<lambda>"=kM)(hcl:closureFor scope X.env=pure clos)(hdef:defaultsOf params X.env=([],[]))(h:∀f c' ctv H' s',sJ X U σ H P pos 'd' f c' H' s'->Q (.ref f) s'):wpAny M A (eval (.Lambda params body scope pos) X.env) Q E s:=by
 refine W.kla_eval hdef ?_;rw[hq];have hg:s.heap.Ns mainGlobals X.mg:=I.mod.glob.keeps I.bk;have C:W.CodeHd s.heap c P:=(B.cd c P pos hl).keeps I.bk;let⟨bm,ob,b1,b2,b3,b4,b5,b6⟩:=B.bm;have b3':=I.bk _ _ b3;let⟨ps,e1,e2⟩:=I.hok P _ hP;have hPl:P<s.heap.objs.size:=Heap.lt_size e1;have hgP:mainGlobals≠P:=λq=>by
  let⟨o,es,ep,e,hd,_⟩:=hg;rw[q,e1]at e;cases e;cases hd
 have hbP:bm≠P:=λq=>by rw[q,e1]at b3';cases b3';cases b4
 have hbG:bm≠mainGlobals:=λq=>by
  let⟨o,es,ep,e,hd,_⟩:=hg;rw[q,e]at b3';cases b3';rw[hd]at b6;cases b6
 have BA:s.heap.BuiltinsAt X.mg P:=⟨bm,ob,b1,b2,hbG,hbP,b3',b4,b5,b6⟩;have far:∀{n:Nat},s.heap.objs.size<=n->H n=none/\n≠X.env.locals/\n∉X.fs:=λ{n}hn=>⟨I.hok.fresh hn,Û (Ó I.lt hn),I.nofs hn⟩;rcases e2 with rfl|⟨c',rfl,o1,o2,o3⟩
 .refine W.kla_makeFunction (mg:=X.mg) hcl I.ok.glob hg hcode C e1 trivial rfl hgP BA λc' ctv h' tk hx hge hlt hrec htb=>?_
  have hc:H c'=none:=(far hge).1;have hk:∀b o,b≠P->s.heap.get? b=some o->(h'.push 'd').get? b=some o:=λb o n e=>Heap.get?_push_of_some _ (hx b o n e);have ht:(h'.push 'd').get? P=some (PQ pos c'):=Heap.get?_push_of_some _ htb;have hr:(h'.push 'd').CodeRec (.ref c') kM:=hrec.push _;have ncP:c'≠P:=Û (Ó hPl hge);have un:Un X.fs [] H (aX H c' (.own P)) s.heap (h'.push 'd'):=by
   have nP:∀b,H b=none->b≠P:=λb n z=>by rw[z,hP]at n;cases n
   refine⟨λb o e n _ _=>hk b o (nP b n) e,λb o e n _ _=>⟨o.slots,hk b o (nP b n) e⟩,λb o e n _=>?_,λb o e _=>?_,λb xs e=>?_,λb o u e=>?_,λb ps e=>⟨#[],?_⟩⟩
   .rw[aG (Ê (Ó 'r' hge))];exact n
   .by_cases z:b=P
    .exact⟨_,z▸ht⟩
    .exact⟨o,hk b o z e⟩
   .rw[aG (bK e hc)];exact e
   .rw[aG (bK e hc)];exact e
   .rw[aG (bK e hc),e];simp
  have hok:mG X.prog X.w (aX H c' (.own P)) (h'.push 'd'):=λb o e=>by
   by_cases z:b=c'
   .subst z
    rw[aN]at e;cases e;let⟨_,o,_,_,q1,q2,_⟩:=hr;cases q1;exact⟨o,q2⟩
   .rw[aG z]at e
    by_cases y:b=P
    .subst y
     rw[hP]at e;cases e;exact⟨_,ht,.inr ⟨c',rfl,aN,ncP,hr⟩⟩
    .refine(I.hok b o e).stay (λd u hd q=>hk d u ?_ q) (λd q=>by rw[aG (bK q hc)];exact q) λd xs q=>by rw[aG (bK q hc)];exact q
     rcases hd with rfl|hd
     .exact y
     .rintro rfl;rw[hP]at hd;cases hd
  have hf:s.heap.objs.size<=h'.objs.size:=È (Ĉ hge hlt);have I2:=I.un (t':=tk) un hok;refine h _ c' ctv (aX H c' (.own P)) _ ⟨I2,λb o e=>by rw[aG (bK e hc)];exact e,Heap.get?_push_size _ rfl,?_,(far hf).2.1,(far hf).2.2,hr,aN,ncP,ht,by rw[aG (Í ncP)];exact hP⟩
  rw[aG (Û hlt)];exact(far hf).1
 .have am:codeAmong pos (#[rawInt pos.line,rawInt pos.col,.ref c']:Array Value).toList=some (.ref c'):=codeAmong_snoc (pos:=pos) (c:=.ref c') [] trivial rfl
  refine W.kla_makeFunctionHit (mg:=X.mg) hcl I.ok.glob hg hcode C e1 trivial am BA λctv h' tk hk hsz=>?_;have hk':∀b o,s.heap.get? b=some o->(h'.push 'd').get? b=some o:=λb o e=>Heap.get?_push_of_some _ (hk b o e);have I2:=I.kept (t':=tk) hk';exact h _ c' ctv H _ ⟨I2,λ_ _ e=>e,Heap.get?_push_size _ rfl,(far hsz).1,(far hsz).2.1,(far hsz).2.2,o3.keeps hk',o1,o2,hk' _ _ e1,hP⟩
def pC(P c':Addr)(H:Hp):Hp:=λb=>open Classical in if b=P\/b=c' then none else H b
def iR(h1:b≠P)(h2:b≠c'):pC P c' H b=H b:=by
 unfold pC;rw[Â λz=>z.elim h1 h2]
def PR(e:pC P c' H b=some o):b≠P/\b≠c'/\H b=some o:=by
 unfold pC at e;split at e
 .cases e
 .rename_i z
  exact⟨λq=>z (.inl q),λq=>z (.inr q),e⟩
def kX{P c' b:Addr}{H:Hp}(e:H b=none):pC P c' H b=none:=by
 unfold pC;split
 .rfl
 .exact e
def aG4:pC P c' H P=none:=by unfold pC;rw[Á (.inl rfl)]
def aG5:pC P c' H c'=none:=by unfold pC;rw[Á (.inr rfl)]
def sJ.hide(m:sJ X U σ H P pos fo f c' H' s')(hfo:∀v,fo.data≠.cell v):∃oc vs t,oc.data=.fields vs/\vs[1]?=some (.str kM t)/\Inv X ((f,fo)::(c',oc)::(P,PQ pos c')::U) σ (pC P c' H') s':=by
 let⟨_,oc,vs,t,e0,e1,e2,e3⟩:=m.cd;cases e0;have nP:∀{b:Addr}{o:HO},H' b=some o->o≠sI pos->b≠P:=λ{b o}e n z=>by rw[z,m.lm]at e;cases e;exact n rfl
 have nc:∀{b:Addr}{o:HO},H' b=some o->o≠.own P->b≠c':=λ{b o}e n z=>by rw[z,m.own]at e;cases e;exact n rfl
 have I:=m.inv;have locP:P≠X.env.locals:=λz=>by have:=I.free;rw[<- z,m.lm]at this;cases this
 have locc:c'≠X.env.locals:=λz=>by have:=I.free;rw[<- z,m.own]at this;cases this
 have fsF:∀b∈X.fs,H' b=none:=λb hb=>by
  let⟨_,o,ho,_⟩:=I.ok.funs.mem hb;exact I.base.free b o ho (I.ok.frf b hb) λz=>I.ok.exfs b z hb
 have J:Inv X U σ (pC P c' H') s':=by
  refine⟨I.ok,I.os,I.bare,⟨I.base.keep,I.base.slot,λb o e n hx=>kX (I.base.free b o e n hx),I.base.there,λb xs e=>?_,λb o u e=>?_,λb ps e=>?_⟩,I.loc,I.cell,kX I.free,λx c e=>kX (I.freeC x c e),λp hp=>?_,λb o e=>?_,I.len⟩
  .have q:=I.base.tups b xs e
   rw[iR (nP q 'e') (nc q 'e')];exact q
  .have q:=I.base.frzs b o u e
   rw[iR (nP q 'e') (nc q 'e')];exact q
  .obtain⟨more,q⟩:=I.base.tbls b ps e
   exact⟨more,by rw[iR (nP q 'e') (nc q 'e')];exact q⟩
  .obtain⟨a1,a2,a3⟩:=I.pin p hp
   exact⟨a1,kX a2,a3⟩
  .obtain⟨h1,h2,e⟩:=PR e
   refine(I.hok b o e).stay (λ_ _ _ q=>q) (λd q=>?_) λd xs q=>?_
   .rw[iR (nP q 'e') (λz=>by rw[z,m.own]at q;cases q;exact h1 rfl)];exact q
   .rw[iR (nP q 'e') (nc q 'e')];exact q
 refine⟨oc,vs,t,e2,e3,((J.pinNew m.tb aG4 locP (λz=>by have:=fsF _ z;rw[m.lm]at this;cases this) (λv=>by simp)).pinNew e1 aG5 locc (λz=>by have:=fsF _ z;rw[m.own]at this;cases this) (λv=>by rw[e2];simp)).pinNew m.fn (kX m.un) m.loc m.nf hfo⟩
def xT(P c':Addr)(pos:Pos)(H:Hp):Hp:=λb=>open Classical in if b=P then some (sI pos)else if b=c' then some (.own P)else H b
def sJ.show(m:sJ X U σ H P pos fo f c' H' s')(e2:oc.data=.fields vs)(e3:vs[1]?=some (.str kM t))(I2:Inv X ((f,fo)::(c',oc)::(P,PQ pos c')::U) σ H2 s2)(hs:aL (pC P c' H') H2):Inv X U σ (xT P c' pos H2) s2/\aL H (xT P c' pos H2):=by
 have pc:=I2.pin (c',oc) (Ù _ 'e');have pP:=I2.pin (P,PQ pos c') (Ù _ 'e');have I:=m.inv;have neP:∀{b:Addr}{o:HO},H2 b=some o->b≠P:=λe z=>by rw[z,pP.2.1]at e;cases e
 have nec:∀{b:Addr}{o:HO},H2 b=some o->b≠c':=λe z=>by rw[z,pc.2.1]at e;cases e
 have ne:∀{b:Addr},b≠P->b≠c'->xT P c' pos H2 b=H2 b:=λh1 h2=>by unfold xT;rw[Â h1,Â h2]
 have up:∀{b:Addr}{o:HO},H2 b=some o->xT P c' pos H2 b=some o:=λe=>by rw[ne (neP e) (nec e)];exact e
 have dn:∀{b:Addr},H' b=none->H2 b=none->xT P c' pos H2 b=none:=λ{b}e1 e2=>by
  rw[ne (λz=>by rw[z,m.lm]at e1;cases e1) (λz=>by rw[z,m.own]at e1;cases e1)];exact e2
 have sP:xT P c' pos H2 P=some (sI pos):=by unfold xT;rw[Á rfl]
 have sc:xT P c' pos H2 c'=some (.own P):=by unfold xT;rw[Â m.ne,Á rfl]
 refine⟨⟨I2.ok,I2.os,I2.bare,⟨I2.base.keep,I2.base.slot,λb o e n hx=>dn (I.base.free b o e n hx) (I2.base.free b o e n hx),I2.base.there,λb xs e=>up (I2.base.tups b xs e),λb o u e=>up (I2.base.frzs b o u e),λb ps e=>?_⟩,I2.loc,I2.cell,dn I.free I2.free,λx c e=>dn (I.freeC x c e) (I2.freeC x c e),λp hp=>?_,λb o e=>?_,I2.len⟩,λb o e=>?_⟩
 .obtain⟨more,q⟩:=I2.base.tbls b ps e
  exact⟨more,up q⟩
 .have hp2:p∈X.pn++((f,fo)::(c',oc)::(P,PQ pos c')::U):=by
   rcases þ.mp hp with z|z
   .exact ü _ z
   .exact Ù _ (by simp[z])
  let⟨a1,a2,a3⟩:=I2.pin p hp2;exact⟨a1,dn (I.pin p hp).2.1 a2,a3⟩
 .by_cases h1:b=P
  .subst h1
   rw[sP]at e;cases e;exact⟨_,pP.1,.inr ⟨c',rfl,sc,m.ne,c',oc,vs,t,rfl,pc.1,e2,e3⟩⟩
  .by_cases h2:b=c'
   .subst h2
    rw[sc]at e;cases e;exact⟨oc,pc.1⟩
   .rw[ne h1 h2]at e
    exact(I2.hok b o e).stay (λ_ _ _ q=>q) (λd q=>up q) λd xs q=>up q
 .have e':=m.same b o e
  by_cases h1:b=P
  .subst h1;rw[m.lm]at e';cases e';exact sP
  .by_cases h2:b=c'
   .subst h2;rw[m.own]at e';cases e';exact sc
   .rw[ne h1 h2]
    exact hs b o (by rw[iR h1 h2];exact e')
end
abbrev lamE(scope:Scope)(x:Str)(cc:Addr)(s:Shared)(f c':Addr):Env:=W.envX kM scope s.heap.objs.size f (.ref c') [(x,cc)]
def Ł(X:Cx)(scope:Scope)(p x:Str)(cc:Addr)(s:Shared)(H:Hp)(f c':Addr):Cx where
 prog:=X.prog
 w:=X.w
 K:=X.K
 mg:=X.mg
 base:=X.base
 A:=X.A.in1.deeper (lamE scope x cc s f c')
 N:=[p,x]
 s₀:=s
 H₀:=H
 env:=lamE scope x cc s f c'
 outer:=X.stack
 stack:=lamE scope x cc s f c'::X.stack
 ex:=[]
 calm:=true
 fn:=λy=>y == p
 pn:=[]
 xe:=λe s'=>wpAny 'b' (X.A.in1.deeper (lamE scope x cc s f c')) (leaving (lamE scope x cc s f c') e) (λ_ _=>False) (λ_ _=>False) s'
structure U9(scope:Scope)(p x:Str):Prop where
 names:scope.names=[(p,.local),(x,.free)]\/scope.names=[(x,.free),(p,.local)]
 ne:(p == x)=false
 kind:scope.kind=.function
 co:scope.isCoroutine=false
 gen:scope.isGenerator=false
section
variable {X:Cx}{U:ZB}{σ:St}{H:Hp}{s:Shared}{params:Arguments}{body:Expr}{scope:Scope}{p x:Str}{cc f c':Addr}
theorem U9.look(S:U9 scope p x):scope.names.lookup p=some .local/\scope.names.lookup x=some .free/\∀y,(scope.names.lookup y=some .cell\/scope.names.lookup y=some .free)->y=x:=by
 have h1:=S.ne;have h2:(x == p)=false:=by
  rw[beq_eq_false_iff_ne]at h1⊢;exact λz=>h1 z.symm
 rcases S.names with e|e<;>rw[e]
 .refine⟨by simp[á],by simp[á,h2],λy hy=>?_⟩
  by_cases q1:y=p
  .subst q1;simp[á]at hy
  .by_cases q2:y=x
   .exact q2
   .simp[á,beq_eq_false_iff_ne.mpr q1,beq_eq_false_iff_ne.mpr q2]at hy
 .refine⟨by simp[á,h1],by simp[á],λy hy=>?_⟩
  by_cases q2:y=x
  .exact q2
  .by_cases q1:y=p
   .subst q1;simp[á,h1]at hy
   .simp[á,beq_eq_false_iff_ne.mpr q1,beq_eq_false_iff_ne.mpr q2]at hy
def PU(I:Inv X U σ H s)(S:U9 scope p x)(hc:X.calm=true)(rv:bG v u)(rt:bG vt ut)(hcell:s.heap.IsCell cc (some ut))(hH:H cc=none)(hb:X.A.in1.frames=some X.stack)(hn:h1.Ns s.heap.objs.size (λy=>[(p,u)].reverse.lookup y))(hk:∀b o,s.heap.get? b=some o->h1.get? b=some o)(e1:s1={s with heap:=h1,toks:=s.toks+1}):
  Inv (Ł X scope p x cc s H f c') [] [some v,some vt] H s1:=by
 subst e1;let⟨l1,l2,l3⟩:=S.look;have lx:∀y c,([(x,cc)]:List (Str×Addr)).lookup y=some c->y=x/\c=cc:=λy c e=>by
  rw[á]at e;cases q:y == x with
  |true=>rw[q]at e;cases e;exact⟨eq_of_beq q,rfl⟩
  |false=>rw[q]at e;cases e
 have noA:∀b:Addr,b∉(Ł X scope p x cc s H f c').ex:=λb z=>absurd (show b∈([]:ZM)from z) 'e';refine⟨⟨I.mod,S.kind,rfl,rfl,Ç _,λy z c a1 a2=>?_,λy hy=>?_,λy c a1 a2=>?_,λ_=>?_,Around.frames_deeper hb,.inr ⟨rfl,rfl⟩,λb z=>absurd z (noA b),I.bs,?_,λb _ _=>noA b,λb z=>absurd z (noA b),I.stack,I.stkFree⟩,
  rfl,I.bare,Un.kept hk,⟨_,hn,λi y v' a1 a2 a3=>?_⟩,λy c a=>?_,I.hok.fresh (Ç _),λy c a=>?_,λq hq=>absurd (show q∈([]:ZB)from hq) 'e',I.hok.kept hk,rfl⟩
 .rw[(lx y c a1).1,(lx z c a2).1]
 .have:=l3 y hy
  subst this;exact⟨cc,by show ([(y,cc)]:List (Str×Addr)).lookup y=some cc;simp[á]⟩
 .have e:=(lx y c a2).1
  subst e;have a1:(y == p)=true:=a1;have:=S.ne;rw[eq_of_beq a1]at this;simp at this
 .exact I.ok.hd hc
 .exact Õ I.ok.bsz I.sz
 .match i,a1,a2 with
  |0,a1,a2=>
   cases a1;cases a2;exact⟨u,rv,.inl ⟨l1,by simp[á]⟩⟩
  |1,a1,a2=>
   cases a1;cases a2;refine⟨ut,rt,.inr ⟨.inr l2,cc,by show ([(x,cc)]:List (Str×Addr)).lookup x=some cc;simp[á],?_⟩⟩
   let⟨o,ho,hd⟩:=hcell;exact⟨o,hk _ _ ho,hd⟩
  |i+2,a1,a2=>cases a1
 .obtain⟨rfl,rfl⟩:=lx y c a
  let⟨o,ho,hd⟩:=hcell;exact⟨_,o,hk _ _ ho,hd⟩
 .obtain⟨rfl,rfl⟩:=lx y c a
  exact hH
def VA{i:Nat}(I:Inv X U σ H s)(S:U9 scope p x)(hc:X.calm=true)(hr:fC 0 X.A)(hfr:X.A.in1.frames=some X.stack)(hf:(f,W.kla_obj "<lambda>" kM params body scope [(x,cc)] pm c' ctv)∈U)(hoc:(c',oc)∈U)(e2:oc.data=.fields cvs)(e3:cvs[1]?=some (.str kM ct))(hN:X.N[i]?=some x)(hσ:σ[i]?=some (some vt))(hkd:X.env.scope.names.lookup x=some .cell)(hxc:X.env.cells.lookup x=some cc)(hbind:bindArgs (W.kla_fn "<lambda>" kM params body scope [(x,cc)] pm (.ref c') ctv) ⟨[u],[]⟩=pure [(p,u)])(rv:bG v u)(hb:PE (Ł X scope p x cc s H f c') body tb)(ht:tb [some v,some vt] H (λw H'=>w=.int k/\aL H H')):
  wpAny 'b' X.A.in1 (call (.ref f) [u]) (λu' s'=>∃t H',u'=.int k t/\aL H H'/\Inv X U σ H' s') E s:=by
 let⟨l1,l2,l3⟩:=S.look;let⟨m,_,hl⟩:=id I.loc;let⟨ut,rt,lk⟩:=hl i x vt hN hσ (.inr (.inl hkd));have hcell:s.heap.IsCell cc (some ut):=by
  rcases lk with ⟨q,_⟩|⟨_,c,q,z⟩
  .rw[show X.env.kindOf x=X.env.scope.names.lookup x from rfl,hkd]at q;cases q
  .rw[hxc]at q;cases q;exact z
 have pf:=I.pin _ (Ù _ hf);have pc:=I.pin _ (Ù _ hoc);refine wpAny_call (W.kla_callFunE (body:=body) ?_ pf.1 rfl S.co S.gen rfl ⟨c',oc,cvs,ct,rfl,pc.1,e2,e3⟩ ?_)
 .have:=hr.dp
  show X.A.depth<_;lia
 rw[hbind];have hnc:∀y∈scope.names,y.2≠.cell:=λy hy=>by
  rcases S.names with e|e<;>rw[e]at hy<;>simp at hy<;>rcases hy with rfl|rfl<;>(intro h;cases h)
 refine wpAny_pure (wpAny_newFunctionEnv hnc (λy hy=>by rw[ð.mp hy];exact l1) (λh1 hns hsb=>⟨I.nolimit.fresh _ hsb,?_⟩) S.kind);have hk1:∀b o,s.heap.get? b=some o->h1.get? b=some o:=λb o e=>hsb.extBut b o (Ê 'r') (Heap.get?_push_of_some _ e);show codeAny _ _ (.expr body (lamE scope x cc s f c')) _ _;have J:Inv (Ł X scope p x cc s H f c') [] [some v,some vt] H {s with heap:=h1,toks:=s.toks+1}:=PU I S hc rv rt hcell (I.freeC x cc hxc) hfr hns hk1 rfl;refine W.kla_codeExpr (wpAny_mono (hb [] _ [some v,some vt] H _ J ht) (λu' s' q=>?_) λe s' q=>?_)
 .obtain⟨w,H',J',rw',rfl,sm⟩:=q
  let⟨t,rfl⟩:=rw';exact⟨t,H',rfl,sm,I.call' (ch:=[]) J'.os J'.base J'.hok J'.bare (λ_ z=>nomatch z)⟩
 .exact wpAny_mono q (λ_ _ z=>z.elim) λ_ _ z=>z.elim
end
def cS{α:Type}:Option (α×Int)->List (α×Int)->Option (α×Int)
 |o,[]=>o
 |none,y::ys=>cS (some y) ys
 |some m,y::ys=>cS (some (if y.2<m.2 then y else m)) ys
def aKA(b:Option (V×Int))(o:Option (Value×Tok)):Prop:=match b,o with
 |none,none=>True
 |some m,some z=>bG m.1 z.1
 |_,_=>False
def VB:Option (V×Int)->Option (Value×Tok)->Array Value
 |some m,some z=>#[z.1,.int m.2 z.2]
 |_,_=>#[]
section
variable {X:Cx}{U:ZB}{σ:St}{H0:Hp}{q l:Addr}{dv:Value}{R:Result->Shared->Prop}
def GT(a f d:Value):argsOk "min" ⟨[a],[("key",f),("default",d)]⟩:=by unfold argsOk;kernel_rfl
def aAZ{prog:Program}{w:World}{A:Around}{E:ZA}{s:Shared}{x m:Int}{t t':Tok}{Q:ZA}(h:Q (.bool (decide (x<m))) s):wpAny 'o' A (richCompare .Lt (.int x t) (.int m t')) Q E s:=CmpOf.ints_lt (P:=λi v=>∃t,v=.int (if i=0 then x else m) t) (λi=>if i=0 then x else m) (λ_ _ h=>h) 0 1 _ _ s Q E ⟨t,rfl⟩ ⟨t',rfl⟩ (by simpa using h)
def xU(b:Option (V×Int))(o:Option (Value×Tok)):(VB b o).size<=sizeLine:=by
 unfold VB;split
 .show 2<=sizeLine;decide
 .show 0<=sizeLine;decide
abbrev vL(b:Option (V×Int))(o:Option (Value×Tok))(c:Nat):Obj:={cls:=.type "list",dict:=none,data:=.seq (VB b o) c,slots:=#[]}
def Inv.swp(I:Inv X (a::b::U) σ H s):Inv X (b::a::U) σ H s:=I.pins_of λp hp=>I.pin p (Ù _ (by
 rcases Ì.mp hp with rfl|hp
 .exact Ò _ Ô
 .rcases Ì.mp hp with rfl|hp
  .exact Ô
  .exact Ò _ (Ò _ hp)))
def oQ(o:Option (α×Int)):cS o []=o:=by cases o<;>rfl
def PV{vs:List V}{ks:ZK}(hlen:ks.length=vs.length)(hh:X.A.handled=none)(turn:∀(j:Nat)(v:V)(k:Int)(u:Value)(pins':ZB)(s:Shared)(H1:Hp),vs[j]?=some v->ks[j]?=some k->bG v u->aL H0 H1->(∀p∈U,p∈pins')->Inv X pins' σ H1 s ->
   wpAny 'b' X.A.in1 (call (.ref q) [u]) (λu' s'=>∃t H',u'=.int k t/\aL H1 H'/\Inv X pins' σ H' s') (λ_ _=>False) s)(hl:∀H1,aL H0 H1->eK X.K H1 l vs)(mI:GS X U IA)(mS:GS X U S)(hSI:S≠IA)(hlI:l≠IA)(done:∀u s' H1,(match cS none (vs.zip ks)with|none=>u=dv|some m=>bG m.1 u)->aL H0 H1->Inv X U σ H1 s'->R (.ok (.ret u)) s'):
  ∀(r j:Nat)(s:Shared)(H1:Hp)(b:Option (V×Int))(o:Option (Value×Tok))(c:Nat)(oI:Obj),vs.length-j=r->j<=vs.length->cS b ((vs.zip ks).drop j)=cS none (vs.zip ks)->aKA b o->aL H0 H1 ->
   oI.cls=.type "list_iterator"->oI.data=.fields #[.ref l,.int j 0]->Inv X ((S,vL b o c)::(IA,oI)::U) σ H1 s ->
   codeAny 'b' X.A (.builtin "min.loop" ⟨[.ref IA,.ref q,.ref S],[("default",dv)]⟩) R s:=by
 have nm:(toString "min"++toString ".loop":String)="min.loop":=by decide
 have mS':∀oI:Obj,GS X ((IA,oI)::U) S:=λoI=>⟨λp hp=>by
  rcases þ.mp hp with hp|hp
  .exact mS.pin p (ü _ hp)
  .rcases Ì.mp hp with rfl|hp
   .exact Í hSI
   .exact mS.pin p (Ù _ hp),mS.new,mS.loc,mS.cells⟩
 have mI':∀oS:Obj,GS X ((S,oS)::U) IA:=λoS=>⟨λp hp=>by
  rcases þ.mp hp with hp|hp
  .exact mI.pin p (ü _ hp)
  .rcases Ì.mp hp with rfl|hp
   .exact hSI
   .exact mI.pin p (Ù _ hp),mI.new,mI.loc,mI.cells⟩
 intro r
 induction r with
 |zero=>
  intro j s H1 b o c oI hr hj hb hbo sm hoc hod I;obtain rfl:j=vs.length:=by lia
  rw[List.drop_of_length_le (by rw[é];lia),oQ]at hb;have pS:=I.pin _ (Ù _ Ô);have pI:=I.pin _ (Ù _ (Ò _ Ô));let⟨its,rv,pl,hz⟩:=I.list (hl H1 sm);have hn:=rv.length;have W:=Walks.list (prog:=X.prog) (w:=X.w) (A:=X.A.in1) (show X.A.in1.handled=none from hh) IA l hlI its.toArray;refine codeAny_builtin F.entry_min_loop ?_;rw[Around.under_plainId F.plain_min_loop _];refine(show wpAny _ X.A.in1 (seqItems? (.ref S) >>= _) _ _ s from wpAny_bind (wpAny_seqItems pS.1 rfl ?_));refine(show wpAny _ X.A.in1 (tryCatch (pyNext (.ref IA)) _ >>= _) _ _ s from wpAny_bind (wpAny_tryCatch (W.done s _ _ ⟨⟨oI,pI.1,hoc,by rw[hod];simp[<- hn]⟩,pl.isList⟩ λh' tk hk'=>?_)))
  have I1:Inv X ((S,vL b o c)::U) σ H1 {s with heap:=h',toks:=tk}:=I.swp.unpin.turned (it:=IA) (λb o hb e=>hk' b o (by simpa using hb) e) pI.2.1 (mI' (vL b o c)).loc (.inr mI.new) mI.cells (mI' (vL b o c)).pin;cases o with
  |none=>
   cases b with
   |some m=>exact hbo.elim
   |none=>
    refine wpAny_bind (wpAny_rule (wpAny_pure (done dv _ H1 ?_ sm I1.unpin)));rw[<- hb]
  |some z=>
   cases b with
   |none=>exact hbo.elim
   |some m=>
    have pS1:=I1.pin _ (Ù _ Ô);refine(show wpAny _ X.A.in1 (updateSeq S (λ_=>#[]) >>= _) _ _ _ from wpAny_bind (wpAny_updateSeq pS1.1 rfl (wpAny_bind (wpAny_letGo (wpAny_pure ?_))) (hz:=xU _ _) (_hz':=î _)));refine done z.1 _ H1 (by rw[<- hb];exact hbo) sm ?_;exact I1.unpin.turned (t':=tk) (it:=S) (λb o hb e=>(Heap.get?_update_other _ _ (Í hb)).trans e) pS1.2.1 mS.loc (.inr mS.new) mS.cells mS.pin
 |succ r ih=>
  intro j s H1 b o c oI hr hj hb hbo sm hoc hod I;have hlt:j<vs.length:=by lia
  have pS:=I.pin _ (Ù _ Ô);have pI:=I.pin _ (Ù _ (Ò _ Ô));let⟨its,rv,pl,hz⟩:=I.list (hl H1 sm);have hn:=rv.length;have W:=Walks.list (prog:=X.prog) (w:=X.w) (A:=X.A.in1) (show X.A.in1.handled=none from hh) IA l hlI its.toArray;obtain⟨v,hv⟩:∃v,vs[j]?=some v:=⟨_,É hlt⟩;obtain⟨k,hk⟩:∃k,ks[j]?=some k:=⟨_,É (by exact ò ‹_› (Eq.symm ‹_›))⟩;have ed:(vs.zip ks).drop j=(v,k)::(vs.zip ks).drop (j+1):=by
   have hz:(vs.zip ks)[j]?=some (v,k):=by rw[ē];exact⟨hv,hk⟩
   let⟨h1,h2⟩:=Î.mp hz;rw[û h1,h2]
  rw[ed]at hb;refine codeAny_builtin F.entry_min_loop ?_;rw[Around.under_plainId F.plain_min_loop _];refine(show wpAny _ X.A.in1 (seqItems? (.ref S) >>= _) _ _ s from wpAny_bind (wpAny_seqItems pS.1 rfl ?_));refine(show wpAny _ X.A.in1 (tryCatch (pyNext (.ref IA)) _ >>= _) _ _ s from wpAny_bind (wpAny_tryCatch (W.item j s _ _ (by simp;exact ò ‹_› ‹_›) ⟨⟨oI,pI.1,hoc,hod⟩,pl.isList⟩ λu h' tk hp hst' hk'=>?_)));let⟨oI',hoI',hoc',hod'⟩:=hst'.1;have ru:bG v u:=by
   let⟨u',e1,e2⟩:=rv.get hv;have hp:its.toArray[j]?=some u:=hp;rw[List.getElem?_toArray,e1]at hp;cases hp;exact e2
  have I1:Inv X ((S,vL b o c)::(IA,oI')::U) σ H1 {s with heap:=h',toks:=tk}:=(I.swp.repin (mI' _) (λb o hb e=>hk' b o (by simpa using hb) e) hoI' (λv=>by rw[hod'];simp)).swp;have hsub:∀p∈U,p∈(S,vL b o c)::(IA,oI')::U:=λp hp=>Ò _ (Ò _ hp);refine(show wpAny _ X.A.in1 (tryCatch (holding [u] (call (.ref q) [u])) _ >>= _) _ _ _ from wpAny_bind (wpAny_tryCatch (wpAny_holding (wpAny_mono (turn j v k u _ _ H1 hv hk ru sm hsub I1) (λx s2 he=>?_) λ_ _ hF=>hF.elim))));let⟨t,H2,rfl,sm2,I2⟩:=he;have smA:aL H0 H2:=sm.trans' sm2;have pS2:=I2.pin _ (Ù _ Ô);have new:cS (some (v,k)) ((vs.zip ks).drop (j+1))=cS none (vs.zip ks)->codeAny 'b' X.A (.builtin "min.loop" ⟨[.ref IA,.ref q,.ref S],[("default",dv)]⟩) R {s2 with heap:=s2.heap.update S (Obj.mapSeq λ_=>#[u,.int k t])}:=λhb=>by
   obtain⟨c2,hc2⟩:∃c2,(s2.heap.update S (Obj.mapSeq λ_=>#[u,.int k t])).get? S=some (vL (some (v,k)) (some (u,t)) c2):=⟨_,get?_update_seq pS2.1 λ_=>#[u,.int k t]⟩;exact ih (j+1) _ H2 (some (v,k)) (some (u,t)) c2 oI' ∅ hlt hb ru smA hoc' hod' (I2.repin (t':=s2.toks) (mS' oI') (λb o hb e=>(Heap.get?_update_other _ _ (Í hb)).trans e) hc2 (λv=>by simp))
  cases o with
  |none=>
   cases b with
   |some m=>exact hbo.elim
   |none=>
    refine(show wpAny _ X.A.in1 (updateSeq S (λ_=>#[u,.int k t]) >>= _) _ _ _ from wpAny_bind (wpAny_updateSeq pS2.1 rfl ?_ (hz:=xU _ _) (_hz':=(by show 2<=sizeLine+1;decide))));rw[nm];exact wpAny_pure ⟨plainId_quiet F.plain_min_loop _,new hb⟩
  |some z=>
   cases b with
   |none=>exact hbo.elim
   |some m=>
    refine(show wpAny _ X.A.in1 (tryCatch (holding [u,.int k t] (richCompare .Lt (.int k t) (.int m.2 z.2) >>= _)) _ >>= _) _ _ _ from wpAny_bind (wpAny_tryCatch (wpAny_holding (wpAny_bind (aAZ ?_)))));refine wpAny_bind (wpAny_holding (wpAny_truthy_bool (wpAny_bind (wpAny_letGo (wpAny_pure ?_)))));have hb':cS (some (if k<m.2 then (v,k)else m)) ((vs.zip ks).drop (j+1))=cS none (vs.zip ks):=hb;by_cases hg:k<m.2
    .rw[Á hg]at hb'
     simp![hg,decide_true,if_true];refine wpAny_bind (wpAny_updateSeq pS2.1 rfl (wpAny_bind (wpAny_letGo ?_)) (hz:=xU _ _) (_hz':=(by show 2<=sizeLine+1;decide)));rw[nm];exact wpAny_pure ⟨plainId_quiet F.plain_min_loop _,new hb'⟩
    .rw[Â hg]at hb'
     simp![hg,decide_false,Bool.false_eq_true,if_false];refine wpAny_bind (wpAny_letGo ?_);rw[nm];exact wpAny_pure ⟨plainId_quiet F.plain_min_loop _,ih (j+1) s2 H2 (some m) (some z) c oI' ∅ hlt hb' hbo smA hoc' hod' I2⟩
def PX{ks:ZK}(hlen:ks.length=vs.length)(hh:X.A.handled=none)(I:Inv X U σ H0 s)(hq:eK X.K H0 l vs)(turn:∀(j:Nat)(v:V)(k:Int)(u:Value)(pins':ZB)(s:Shared)(H1:Hp),vs[j]?=some v->ks[j]?=some k->bG v u->aL H0 H1->(∀p∈U,p∈pins')->Inv X pins' σ H1 s ->
   wpAny 'b' X.A.in1 (call (.ref q) [u]) (λu' s'=>∃t H',u'=.int k t/\aL H1 H'/\Inv X pins' σ H' s') (λ_ _=>False) s)(done:∀u s' H1,(match cS none (vs.zip ks)with|none=>u=dv|some m=>bG m.1 u)->aL H0 H1->Inv X U σ H1 s'->Q u s'):
  wpAny 'b' X.A (call (.builtin "min") [.ref l] [("key",.ref q),("default",dv)]) Q E s:=by
 have nm:(toString "min"++toString ".loop":String)="min.loop":=by decide
 refine wpAny_call (codeAny_call_builtin F.plain_min F.entry_min ?_);simp![checkBuiltinCall,F.kind_min];let⟨its,rv,pl,hz⟩:=I.list hq;have hlt:l<s.heap.objs.size:=by
  let⟨o,n,e,_⟩:=pl;exact Heap.lt_size e
 have key:wpAny 'b' X.A.in1 (Builtin.«min» ⟨[.ref l],[("key",.ref q),("default",dv)]⟩) (λfin s'=>match fin with
   |.done f=>(match (Except.ok f:Result)with|.ok (.ret v)=>Q v s'|.ok _=>False|.error e=>E e s')
   |.again c'=>c'.quiet=true/\codeAny 'b' X.A c' (λr s'=>match r with|.ok (.ret v)=>Q v s'|.ok _=>False|.error e=>E e s') s') E s:=by
  refine(show wpAny _ X.A.in1 (Builtin.Builtins.bindParams "min" ["key","default"] 0 ⟨[],[("key",.ref q),("default",dv)]⟩ >>= _) _ _ s from wpAny_bind (wpAny_of_eq (show Builtin.Builtins.bindParams "min" ["key","default"] 0 ⟨[],[("key",.ref q),("default",dv)]⟩=pure [some (.ref q),some dv]from rfl) ?_));refine wpAny_bind (wpAny_pure (wpAny_bind (wpAny_pyIter_list pl.isList ?_)));refine wpAny_bind (wpAny_newObj_type ?_);rw[nm];have hS:(s.heap.push {cls:=.type "list_iterator",data:=.fields #[.ref l,.int 0 0]}).objs.size=s.heap.objs.size+1:=by rw[Heap.size_push]
  have I1:Inv X ((s.heap.objs.size,{cls:=.type "list_iterator",data:=.fields #[.ref l,.int 0 0]})::U) σ H0 {s with heap:=s.heap.push {cls:=.type "list_iterator",data:=.fields #[.ref l,.int 0 0]}}:=
   (I.kept (t':=s.toks) λb o e=>Heap.get?_push_of_some _ e).pinNew (Heap.get?_push_size _ rfl) (I.hok.fresh (Ç _)) (Û I.lt) (I.nofs (Ç _)) (λv=>by simp)
  have mI:GS X U s.heap.objs.size:=I.mine (Ç _);have mS:GS X U (s.heap.push {cls:=.type "list_iterator",data:=.fields #[.ref l,.int 0 0]}).objs.size:=I.mine (by rw[hS];exact Nat.le_succ _);have I2:=(I1.kept (t':=s.toks) (h':=(s.heap.push {cls:=.type "list_iterator",data:=.fields #[.ref l,.int 0 0]}).push (vL none none 0)) λb o e=>Heap.get?_push_of_some _ e).pinNew (a:=(s.heap.push {cls:=.type "list_iterator",data:=.fields #[.ref l,.int 0 0]}).objs.size) (Heap.get?_push_size _ rfl) (I1.hok.fresh (Ç _)) (Û I1.lt) (I1.nofs (Ç _)) (λv=>by simp);refine wpAny_pure ⟨plainId_quiet F.plain_min_loop _,PV (H0:=H0) (dv:=dv) hlen hh turn (λH1 sm=>sm.seq hq) mI mS (λz=>Nat.succ_ne_self _ (hS.symm.trans z)) (Ê hlt) done _ 0 _ H0 none none 0 _ rfl (î _) (by rw[List.drop_zero]) trivial (λ_ _ e=>e) rfl rfl I2⟩
 have ha:=GT (.ref l) (.ref q) dv;cases hsig:Manifest.signature? "min"with
 |none=>exact wpAny_pure key
 |some sig=>
  simp![argsOk,hsig]at ha;have h2:Bind.checkArgs "min" sig ⟨[.ref l],[("key",.ref q),("default",dv)]⟩=pure ():=ha;refine(show wpAny _ X.A.in1 (Bind.checkArgs "min" sig ⟨[.ref l],[("key",.ref q),("default",dv)]⟩) _ _ s from ?_);rw[h2];exact wpAny_pure key
end
def iF(hs:ZK):ZK->Option (ZK)
 |[]=>some []
 |n::ns=>match atI hs n,iF hs ns with
  |some k,some ks=>some (k::ks)
  |_,_=>none
def xV :∀{ns ks:ZK},iF hs ns=some ks->ks.length=ns.length
 |[],ks,h=>by cases h;rfl
 |n::ns,ks,h=>by
  unfold iF at h;split at h
  .rename_i k ks' _ e2
   cases h;simp[xV e2]
  .cases h
def BN :∀{ns ks:ZK}{j:Nat}{n k:Int},iF hs ns=some ks->ns[j]?=some n->ks[j]?=some k->atI hs n=some k
 |m::ns,ks,j,n,k,h,e1,e2=>by
  unfold iF at h;split at h
  .rename_i k0 ks' q1 q2
   cases h;cases j with
   |zero=>cases e1;cases e2;exact q1
   |succ j=>exact BN q2 (by simpa using e1) (by simpa using e2)
  .cases h
def VC(h:atI hs n=some k):atI (hs.map V.int) n=some (.int k):=by
 unfold atI at h⊢;rw[Å];cases e:mO hs.length n with
 |none=>rw[e]at h;cases h
 |some j=>
  rw[e]at h;have h:hs[j]?=some k:=h;show (hs.map V.int)[j]?=_;rw[Ï,h];rfl
def BO:∀{ds:ZI}{l:ZK},cF ds=some l->ds=l.map .int
 |[],l,h=>by cases h;rfl
 |.int i::r,l,h=>by
  unfold cF at h;cases e:cF r with
  |none=>rw[e]at h;cases h
  |some l'=>
   rw[e]at h;cases h;rw[BO e];rfl
 |.none::_,_,h=>by cases h
 |.bool _::_,_,h=>by cases h
 |.str _::_,_,h=>by cases h
 |.list _::_,_,h=>by cases h
 |.tuple _::_,_,h=>by cases h
 |.dict _::_,_,h=>by cases h
def wC(i:Nat)(nm fld:Str)(f:M D):M D:=λδ=>(f δ).bind λd δ1=>match d,δ1[i]? with
 |.list ds,some (some t)=>(match gR nm fld t with
  |some (.list hs)=>(match cF hs,cF ds with
   |some hs',some ns=>(match iF hs' ns with
    |some ks=>.ok ((cS none (ns.zip ks)).elim .none λm=>.int m.1) δ1
    |none=>.stuck)
   |_,_=>.stuck)
  |_=>.stuck)
 |_,_=>.stuck
def uL(g:α->β):∀(o:Option (α×Int))(l:List (α×Int)),cS (o.map λm=>(g m.1,m.2)) (l.map λm=>(g m.1,m.2))=(cS o l).map λm=>(g m.1,m.2)
 |o,[]=>by rw[List.map_nil,oQ,oQ]
 |none,y::ys=>uL g (some y) ys
 |some m,y::ys=>by
  have:=uL g (some (if y.2<m.2 then y else m)) ys;rw[Ð];show cS (some (if y.2<m.2 then (g y.1,y.2)else (g m.1,m.2))) _=_;rw[show (cS (some m) (y::ys))=cS (some (if y.2<m.2 then y else m)) ys from rfl,<- this];congr 1;split<;>rfl
def VD{K:ZC}(h:eK K H l vs)(hP:H P=some (sI pos))(hc:H c'=some (.own P)):eK K (pC P c' H) l vs:=by
 rcases h with (h|⟨o,h⟩)|h
 .exact .inl (.inl (by rw[iR (λz=>by rw[z,hP]at h;cases h) (λz=>by rw[z,hc]at h;cases h)];exact h))
 .exact .inl (.inr ⟨o,by rw[iR (λz=>by rw[z,hP]at h;cases h) (λz=>by rw[z,hc]at h;cases h)];exact h⟩)
 .exact .inr h
section
def PY(i:Nat)(nm:Str){pm kp kp2 p1 p2 p3 p4 cpos npos:Pos}{jj:_}(hr:fC 0 X.A)(hc:X.calm=true)(hg:Gl X "min")(hm:X.mg "min"=none)(B:qA X.K X.mg X.base)(hl:jK X.K=some (c,P,pos))(hcode:X.env.code=.ref c)(hat:UQ X.K nm fld)(ha:DE X Z ow 0 e f)(Sc:U9 scope p x)(hbind:∀(u pm':Value)(c':Addr)(ctv:Value),bindArgs (W.kla_fn "<lambda>" kM params (.Subscript (.Attribute (.Name x p1) fld p2) (.Name p p3) p4) scope [(x,cc)] pm' (.ref c') ctv) ⟨[u],[]⟩=pure [(p,u)])(hd1:(x == ("__debug__":Str))=false)(hd2:(x == ("__classdict__":Str))=false)(hd3:(p == ("__debug__":Str))=false)(hd4:(p == ("__classdict__":Str))=false)(hq:↥(X.env.qual++"<lambda>"=kM))(hcl:↥(closureFor scope X.env=pure [(x,cc)]))(hdef:↥(defaultsOf params X.env=([],[])))(ho:↥(ow.getD i 0=0))(hN:↥'s')(hkd:↥(X.env.scope.names.lookup x=some .cell))(hxc:↥(X.env.cells.lookup x=some cc))(hs:↥(Zse e [] X.env))(hv:bootBuiltins "min"=some (.builtin "min"):=by decide +kernel):
  DE X Z ow 0 (.Call (.Name "min" npos) [e] [⟨some "key",.Lambda params (.Subscript (.Attribute (.Name x p1) fld p2) (.Name p p3) p4) scope pos,kp⟩,⟨some "default",.Constant .none jj pm,kp2⟩] cpos) (wC i nm fld f):=λU s σ H Q I h=>by
 let⟨F,δ,R,h⟩:=h;unfold wC at h;refine wpAny_Call_Name_kw (iT I hg hm hv ?_ ⋯ ⋯);have a1:backTo cpos (starEach [e] X.env)=(false,eval e X.env)::backTo cpos (starEach [] X.env):=by rw[hs];rfl
 have pre:RU (tD X Z ow 0 f) ŋ σ H (λvs H1=>∃l ns F1 δ1 t hs' ks,vs=[.ref l]/\cM X.K Z ow F1 H1 σ δ1/\eK X.K F1 l (ns.map V.int)/\aL F F1/\δ1[i]?=some (some t)/\gR nm fld t=some (.list (hs'.map .int))/\iF hs' ns=some ks /\
   kD X Z ow 0 (.ok ((cS none (ns.zip ks)).elim .none λm=>.int m.1) δ1) F1 σ Q):=by
  sleep 2;cases e1:f δ with
  |stuck=>rw[e1]at h;exact h.elim
  |err y δ1=>rw[e1]at h;exact h
  |ok d δ1=>
   rw[e1]at h;simp![Res.bind]at h;intro v H1 F1 R1 s1;cases d with
   |list ds=>
    cases e2:δ1[i]? with
    |none=>rw[e2]at h;exact h.elim
    |some o=>
     cases o with
     |none=>rw[e2]at h;exact h.elim
     |some t=>
      rw[e2]at h;dsimp only at h;split at h
      .rename_i hs2 e3
       split at h
       .rename_i hs' ns e4 e5
        split at h
        .rename_i ks e6
         let⟨l,vs,rfl,hx,rx⟩:=j8 R1.rep;rw[gO e5 rx]at hx;have e7:hs2=hs'.map .int:=BO e4;subst e7;exact⟨l,ns,F1,δ1,t,hs',ks,rfl,R1.rel,hx,s1,e2,e3,e6,h.mono s1 λ_ _ z=>z⟩
        .exact h.elim
       .exact h.elim
      .exact h.elim
   |_=>exact h.elim
 refine callWith_kw (cL ((dW ha iU hs) cpos U s σ H _ I pre) λus s1 zQ=>?_) a1 (by rw[a1];rfl) rfl rfl;let⟨vs,H1,I1,r,q⟩:=zQ;let⟨l,ns,F1,δ1,t,hs',ks,rfl,R1,hx,s1',ht,hf,hk,hQ⟩:=q;let⟨u',rfl,rx⟩:=mU r;cases rx;let⟨g,G⟩:=R1;have hP1:F1 P=some (sI pos):=G.f0.lm c P pos hl;have hP:H1 P=some (sI pos):=G.sub _ _ hP1;let⟨vt,ev,rt⟩:=G.slot i t ht;rw[ho]at rt;have rt:bI X.K F1 t vt:=rt;let⟨a,C,dx,fs,y,rfl,f1,f2,f3,f4⟩:=M6 rt hf;let⟨lk,ws,rfl,hw,rw'⟩:=j8 f4;have ew:=gO iX rw';subst ew;let⟨c1,c2⟩:=hat C f2;refine kws_cons (U8 I1 B hl hP hcode hq hcl hdef λfa c' ctv H2 s2 m=>kws_cons (Constant_none (kws_nil ?_)));let⟨oc,cvs,ct,e2,e3,I3⟩:=m.hide (λv=>by simp[W.kla_obj]);have up:∀{l:Addr}{vs:List V},eK X.K F1 l vs->eK X.K (pC P c' H2) l vs:=λh=>VD (m.same.seq (G.sub.seq h)) m.lm m.own;have upa:pC P c' H2 a=some (.ins C dx fs):=by
  have z:=m.same _ _ (G.sub _ _ f1);rw[iR (λq=>by rw[q,m.lm]at z;cases z) (λq=>by rw[q,m.own]at z;cases z)];exact z
 let⟨l1,l2,_⟩:=Sc.look;refine PX (vs:=ns.map V.int) (ks:=ks) (by rw[Å];exact xV hk) (I1.ok.hd hc) I3 (up hx) (λj v k u pins' s' H' hv hkk ru sm hsub I'=>?_) λu s' H' hu sm I'=>?_
 .rw[Ï]at hv
  cases en:ns[j]? with
  |none=>rw[en]at hv;cases hv
  |some n=>
   rw[en]at hv;cases hv;have hkey:=VC (BN hk en hkk);refine VA (p:=p) (k:=k) I' Sc hc hr I'.ok.frames (hsub _ Ô) (hsub _ (Ò _ Ô)) e2 e3 hN ev hkd hxc (hbind _ _ _ _) ru (FA rA (CC (dA (i:=1) rfl (.inr (.inr l2)) hd1 hd2) rfl) (dA (i:=0) rfl (.inl l1) hd3 hd4) (λ_ _=>rfl)) ?_;exact⟨_,rfl,a,C,dx,fs,_,rfl,sm _ _ upa,c1,c2,f3,_,rfl,lk,hs'.map V.int,n,.int k,rfl,rfl,sm.seq (up hw),hkey,rfl,λ_ _ z=>z⟩
 .obtain⟨I4,sm4⟩:=m.show e2 e3 I' sm
  have G4:cM X.K Z ow F1 (xT P c' pos H') σ δ1:=⟨g,G.grow sm4⟩;have ez:(ns.map V.int).zip ks=(ns.zip ks).map λm=>(V.int m.1,m.2):=by
   rw[List.zip_map_left];rfl
  rw[ez]at hu;have eb:=uL V.int none (ns.zip ks);rw[Option.map_none]at eb;rw[eb]at hu;cases eb2:cS none (ns.zip ks)with
  |none=>
   rw[eb2]at hu hQ;subst hu;exact⟨.non,_,I4,rfl,hQ .non _ F1 (G4.x (by show bI X.K F1 .none .non;unfold bI;rfl)) (λ_ _ z=>z)⟩
  |some m2=>
   rw[eb2]at hu hQ;exact⟨.int m2.1,_,I4,hu,hQ (.int m2.1) _ F1 (G4.x (by show bI X.K F1 (.int m2.1) (.int m2.1);unfold bI;rfl)) (λ_ _ z=>z)⟩
end
def KL{K:ZC}{H:Hp}{a:Addr}{ns:ZK}{owp:ZH}{f:ZI->Res D}{x:Str}(hS:eK K H a (ns.map V.int))(hf:f [.list (ns.map .int)]=.ok 'u' [])(hL:X4 K H)(h0:↥(owp.getD 0 0=0)):
  SR K [x] [] owp 0 f [.ref a] H (λv H'=>v=.bl true/\aL H H') (λ_ _ _=>False):=by
 refine⟨rfl,H,λ_=>none,[.list (ns.map .int)],hL,aL.refl _,rfl,λa i p e=>(by cases e),λi d v e1 e2=>?_,by rw[hf];exact λv H' F' g' T=>⟨kU (F:=F') (K:=K) T.ret,λb o e=>T.kept b o rfl e⟩⟩
 cases i with
 |zero=>
  cases e1;cases e2;rw[h0];show bI K H _ _;unfold bI;refine⟨a,ns.map V.int,rfl,hS,?_⟩;clear hS hf
  induction ns with
  |nil=>exact lM
  |cons n ns ih=>exact lN fW ih
 |succ i=>simp at e1
def PZ{K:ZC}{ns:ZK}{c PT:Addr}{pos:Pos}(KX:K.In s₁.heap)(hns:s₁.heap.Ns mainGlobals mg)(hb:s₁.heap.Ns builtinsNs mb)(hbb:∀x:Str,x≠"__name__"->mb x=bootBuiltins x)(hlim:s₁.heap.NoLimit)(hg:s₁.gens=#[])(ha:s₁.heap.get? a=some {cls:=.type "list",data:=.seq vs.toArray})(hi:IntsAre vs ns)(hl:ns.length<=sizeLine)(hr:fC k callerA)(hlam:jK K=some (c,PT,pos))(hcd:W.CodeHd s₁.heap c PT)(hPT:s₁.heap.get? PT=some (W.tabObj #[]))(hnt:W.noTabs K=true)(hbm:∃bm ob,mg "__builtins__"=some (.ref bm)/\bm≠builtinsNs/\s₁.heap.get? bm=some ob/\ob.cls=.type "module"/\ob.dict=some builtinsNs/\ob.data=.plain)(F:∀base:Heap,K.In base->base.Ns mainGlobals mg->qA K mg base->qZ P w K mg base CX k fa fd [x] sp)(hbind:∀(s:Shared)(u:Value),BindsTo s fd ⟨[u],[]⟩ [(x,u)])(hsp:∀H:Hp,X4 K H->eK K H a (ns.map V.int)->sp [.ref a] H (λv H'=>v=.bl true/\aL H H') λ_ _ _=>False)(hCX:∀H e s',CX [] H s₁ (λ_ _ _=>False) e s'->False):
  codeAny (model P w) callerA (.call (.ref fa) ⟨[.ref a],[]⟩) (λr s'=>r=.ok (.ret 'u')/\OldK s₁.heap s'.heap/\s'.os=s₁.os/\AllBare s'.gens) s₁:=by
 have rv:=AU hi;have lenV:=hi.length;have haP:a≠PT:=λz=>by rw[z,hPT]at ha;cases ha
 have hKP:K.lookup PT=none:=by
  cases q:K.lookup PT with
  |none=>rfl
  |some o=>
   have e:=KX PT o q;rw[hPT]at e;cases e;have h2:=æ.mp hnt (PT,_) (W.mem_of_lookupK q);exact absurd (show false=true from h2) Þ
 have core:∀H:Hp,H PT=some (sI pos)->eK K H a (ns.map V.int)->mG P w H s₁.heap->(∀b u,H b=some u->(b=PT/\u=sI pos)\/(b=a/\u=.frz {cls:=.type "list",data:=.seq vs.toArray} (.lst (ns.map V.int))/\K.lookup a=none)) ->
   codeAny (model P w) callerA (.call (.ref fa) ⟨[.ref a],[]⟩) (λr s'=>r=.ok (.ret 'u')/\OldK s₁.heap s'.heap/\s'.os=s₁.os/\AllBare s'.gens) s₁:=by
  intro H hO hS hok hA;have base_of:∀{b:Addr}{o:Obj},s₁.heap.get? b=some o->H b=none->(zW s₁.heap H).get? b=some o:=λe n=>RC e n;have noA:∀{b:Addr}{o:Obj},s₁.heap.get? b=some o->(∀z,o.data≠.seq z 0)->o.cls≠.none->H b=none:=λ{b o}e d d2=>by
   cases q:H b with
   |none=>rfl
   |some u=>
    rcases hA b u q with ⟨rfl,_⟩|⟨rfl,_⟩
    .rw[hPT]at e;cases e;exact absurd rfl d2
    .rw[ha]at e;cases e;exact absurd rfl (d vs.toArray)
  have nsK:∀{b:Addr}{m:ZD},s₁.heap.Ns b m->(zW s₁.heap H).Ns b m:=λ{b m}⟨o,es,ep,e,d,r⟩=>⟨o,es,ep,base_of e (by
   cases q:H b with
   |none=>rfl
   |some u=>
    rcases hA b u q with ⟨rfl,_⟩|⟨rfl,_⟩
    .rw[hPT]at e;cases e;cases d
    .rw[ha]at e;cases e;cases d),d,r⟩
  have hKb:K.In (zW s₁.heap H):=λb o e=>base_of (KX b o e) (by
   cases q:H b with
   |none=>rfl
   |some u=>
    rcases hA b u q with ⟨rfl,_⟩|⟨rfl,_,z⟩
    .rw[hKP]at e;cases e
    .rw[z]at e;cases e)
  have hM:Mod K mg (zW s₁.heap H):=⟨hKb,nsK hns,⟨mb,nsK hb,hbb⟩,let ⟨mc,h1,h2⟩:=hlim;⟨mc,nsK h1,h2⟩⟩
  have hB:qA K mg (zW s₁.heap H):=by
   refine⟨?_,λc2 P2 pos2 e=>?_⟩
   .obtain⟨bm,ob,b1,b2,b3,b4,b5,b6⟩:=hbm
    exact⟨bm,ob,b1,b2,base_of b3 (noA b3 (λz=>by rw[b6];simp) (by rw[b4];simp)),b4,b5,b6⟩
   .rw[hlam]at e;cases e
    let⟨o,vs,file,tf,flags,tg,ϖ,text,tt,e1,e2,e3,r⟩:=hcd;exact⟨o,vs,file,tf,flags,tg,ϖ,text,tt,base_of e1 (noA e1 (λz=>by rw[e3];simp) (by rw[e2];simp)),e2,e3,r⟩
  have e0:JO P w K mg (zW s₁.heap H) callerA [] s₁ H:=⟨rfl,hM,λb o e=>X9 e,ö (OP _ _),trivial,λb hb=>absurd (show b∈([]:ZM)from hb) 'e',hok,.of_eq hg⟩;have hLm:X4 K H:=λc2 P2 pos2 e=>by rw[hlam]at e;cases e;exact hO
  refine codeAny_mono ((F _ hKb (nsK hns) hB).run callerA [] s₁ H ⟨[.ref a],[]⟩ [.ref a] [.ref a] _ _ hr e0 (hbind s₁ (.ref a)) (.cons rfl .nil) (hsp H hLm hS)) λr s' h=>?_;cases r with
  |error e=>exact(hCX H e s' h).elim
  |ok fl=>
   cases fl with
   |next=>exact False.elim h
   |brk=>exact False.elim h
   |cont=>exact False.elim h
   |ret u=>
    let⟨v,H',os,bare,un,hok',r',q⟩:=h;let⟨q',sm⟩:=q;subst q';obtain rfl:u=Value.bool true:=r';refine⟨rfl,⟨λb o e=>?_,λb o e=>un.there b o e 'e'⟩,os,bare⟩;cases q:H b with
    |none=>exact .inl (un.keep b o e q (by intro z;exact absurd (show b∈([]:ZM)from z) 'e') 'e')
    |some u=>
     rcases hA b u q with ⟨rfl,rfl⟩|⟨rfl,rfl,_⟩
     .rw[hPT]at e;cases e
      let⟨ps,e1,_⟩:=hok' _ _ (sm _ _ q);exact .inr (.inl ⟨(hcd.tab hPT).isCodeTable,rfl,#[],ps,rfl,by rw[e1];simp⟩)
     .obtain⟨e2,_⟩:=hok' _ _ (sm _ _ q)
      rw[ha]at e;cases e;exact .inl e2
 cases hk:K.lookup a with
 |some o=>
  have e:=KX a o hk;rw[ha]at e;cases e;refine core (λb=>if b=PT then some (sI pos)else none) (Á rfl) (.inr ⟨_,vs.toArray,_,hk,rfl,rfl,rfl,by rw[ë,lenV];exact hl,by simpa using rv⟩) (λb u z=>?_) λb u z=>?_
  .by_cases hb:b=PT
   .have z':=(Á hb).symm.trans z
    cases z';subst hb;exact⟨_,hPT,.inl rfl⟩
   .have z':=(Â hb).symm.trans z
    cases z'
  .by_cases hb:b=PT
   .have z':=(Á hb).symm.trans z
    cases z';exact .inl ⟨hb,rfl⟩
   .have z':=(Â hb).symm.trans z
    cases z'
 |none=>
  have eq1:∀b u,(if b=PT then some (sI pos)else if b=a then some (HO.frz {cls:=.type "list",data:=.seq vs.toArray} (.lst (ns.map V.int)))else none)=some u->(b=PT/\u=sI pos)\/(b=a/\u=.frz {cls:=.type "list",data:=.seq vs.toArray} (.lst (ns.map V.int))):=λb u z=>by
   split at z
   .rename_i h;cases z;exact .inl ⟨h,rfl⟩
   .split at z
    .rename_i h;cases z;exact .inr ⟨h,rfl⟩
    .cases z
  refine core (λb=>if b=PT then some (sI pos)else if b=a then some (.frz {cls:=.type "list",data:=.seq vs.toArray} (.lst (ns.map V.int)))else none) (Á rfl) (.inl (.inr ⟨{cls:=.type "list",data:=.seq vs.toArray},by dsimp only;rw[Â haP,Á rfl]⟩)) (λb u z=>?_) λb u z=>?_
  .rcases eq1 b u z with ⟨rfl,rfl⟩|⟨rfl,rfl⟩
   .exact⟨_,hPT,.inl rfl⟩
   .exact⟨ha,by rw[Å];exact hl,vs,_,rv,ha⟩
  .rcases eq1 b u z with h|⟨h1,h2⟩
   .exact .inl h
   .exact .inr ⟨h1,h2,hk⟩
def P0{K:ZC}(h:jK K=some (c,P,pos)):W.tabIn K mY=some (c,P):=by
 unfold jK at h;split at h
 .split at h
  .split at h
   .rename_i e
    split at h
    .cases h;exact e
    .cases h
   .cases h
  .cases h
 .cases h
def walk_ofL{l:W.OpenLaw}{n k:Nat}{q:Program}{loose:ZG}{XP:(ZD)->Heap->Prop}{YP:World->Heap->Prop}{d dl:DefRec}{K:Params->ZC}{CX:World->RW}{sp:World->Sp}{x:Str}(hn:l.most=some n)(hn2:n<=sizeLine)(hdf:d.params.defaults=[])(hr:fC k callerA)(hY:∀(w:World)(h:Heap),YP w h->(K w.params).In h)(hrec:(recsOf q).find? (λe=>e.name == mY)=some dl)(F:∀(w:World)(mg:ZD)(fa:Addr)(h:Heap),(K w.params).In h->h.Ns mainGlobals mg->mg d.name=some (.ref fa) ->
   (W.noTabs (K w.params)=true/\∃c P pos,jK (K w.params)=some (c,P,pos))/\∃fd:FuncData,(∀(s:Shared)(u:Value),BindsTo s fd ⟨[u],[]⟩ [(x,u)]) /\
    ∀base:Heap,(K w.params).In base->base.Ns mainGlobals mg->qA (K w.params) mg base->qZ l.prog w (K w.params) mg base (CX w) k fa fd [x] (sp w))(hsp:∀(w:World)(H:Hp)(a:Addr)(ns:ZK),ns.length<=n->X4 (K w.params) H->eK (K w.params) H a (ns.map V.int)->sp w [.ref a] H (λv H'=>v=.bl true/\aL H H') λ_ _ _=>False)(hCX:∀(w:World)(H:Hp)(s:Shared)(e:Value)(s':Shared),CX w [] H s (λ_ _ _=>False) e s'->False):
  W.WalkO q loose XP YP l.row.toRowW d [] (λf vs=>PySem.call f vs):=by
 refine Att.attach_call hn hdf λw s₀ s₁ mg mb fa o pm cd doc a vs ns G Y ho hd hcd hmg hobj hints hlen hg=>?_;have KX:=hY w _ Y;let⟨⟨hnt,c,P,pos,hlam⟩,fd,hb,hF⟩:=F w mg fa _ KX G.T.g hmg;let⟨t1,t2⟩:=W.tab_of G.T KX hrec (P0 hlam);exact PZ KX G.T.g G.T.b G.T.builtins G.T.nolimit hg hobj hints (Õ hlen hn2) hr hlam t1 t2 hnt G.T.bmain hF hb (λH hO hS=>hsp w H a ns hlen hO hS) λH e s'=>hCX w H s₁ e s'
def VE(s:Stmt)(k:Nat):Stmt:=match s with
 |.ClassDef _ _ _ b _ _ _ _ _ _ _=>b.getD k (.Pass ⟨0,0,0,0⟩)
 |s=>s
def xW{K:ZC}(n:W.nsIn K mainGlobals nm=some (some (.ref C)))(c:Q5 K C)(h:lI K C f):UQ K nm f:=λC' e=>by
 rw[n]at e;cases e;exact⟨c,h⟩
def VF{K:ZC}(a:W.nsIn K mainGlobals mY=some (some (.ref f)))(l:K.lookup f=some ⟨oc,od,.func fd,sl⟩)(hb:fd.body=.stmts b)(t:W.tabIn K mY=some (c,P))(hp:CO b=some pos):jK K=some (c,P,pos):=by
 unfold jK;rw[a];dsimp only;rw[l];dsimp only;rw[hb,t];dsimp only;rw[hp]
def VG{K:ZC}(a:W.nsIn K mainGlobals x=some (some (.ref f)))(l:K.lookup f=some ⟨oc,od,.func fd,sl⟩)(e:fd.code=.ref c)(lk:K.lookup c=some ⟨coc,cod,.fields cvs,csl⟩)(lv:(cvs[11]?:ZN)=some (.ref P)):W.tabIn K x=some (c,P):=by
 unfold W.tabIn;rw[a];dsimp only;rw[l];dsimp only;rw[e];dsimp only;rw[lk];dsimp only;rw[lv]
def VH{K:ZC}{st:Stmt}(a:W.nsIn K mainGlobals mY=some (some (.ref f)))(F:Q6 K x q st f fd)(e:fd.code=.ref c)(lk:K.lookup c=some ⟨coc,cod,.fields cvs,csl⟩)(lv:(cvs[11]?:ZN)=some (.ref P))(hp:CO (dX st)=some pos):jK K=some (c,P,pos):=by
 let⟨oc,od,kV,doc,pm,an,cdv,ct,osl,e1,l,_⟩:=F.ex;exact VF a l (by rw[e1]) (VG a l e lk lv) hp
end L2
namespace L2
open PySem PySem.Spec
def BP(c:Nat)(nm f:Str):D->ZL
 |.dict ((.none,.str n)::À)=>if n=nm/\ch c (pA f À)=0 then lY f À else none
 |_=>none
def nG(c n:Nat)(nm f:Str)(y:D):D->ZL
 |.dict ((.none,.str m)::À)=>if m=nm/\ch c (pA f À)=n/\À.length<1000 then some (.dict ((.none,.str m)::pN f y À))else none
 |_=>none
def xX(c:Nat)(nm f:Str)(k v:D):D->ZL
 |.dict ((.none,.str m)::À)=>if m=nm/\ch c (pA f À)=1 then (match lY f À,k with
  |some (.list ds),.int k=>(match mO ds.length k with
   |some j=>some (.dict ((.none,.str m)::pN f (.list (ds.set j v)) À))
   |none=>none)
  |_,_=>none)else none
 |_=>none
def xY(nm m:Str):D->Prop
 |.dict ((.none,.str n)::À)=>n=nm/\lY m À=none
 |_=>False
def VI(o:Option (ZI))(nm:Str)(fn:ZI->Res D)(δ:DS)(Q:D->ZO)(_w:Wt Q:=⟨⟩):Prop:=∃ds d,o=some ds/\fn (dE nm [] []::ds)=.ok .none [some d]/\Q d δ
def xZ(k v:D):D->ZL
 |.dict À=>(match c8 k with
  |some ky=>if À.length<sizeLine then some (.dict (KK ky v À))else none
  |none=>none)
 |_=>none
def dctD':D->Bool
 |.dict À=>À.all λkv=>(c8 kv.1).isSome
 |_=>false
def NI(x k z:D):ZL:=match x with
 |.dict À=>(match c8 k with
  |some ky=>some ((jO ky À).getD z)
  |none=>none)
 |_=>none
def GU(nm fld:Str)(d t:D):ZL:=match d with
 |.list ds=>(match gR nm fld t with
  |some (.list hs)=>(match cF hs,cF ds with
   |some hs',some ns=>(match iF hs' ns with
    |some ks=>some ((cS none (ns.zip ks)).elim .none λm=>.int m.1)
    |none=>none)
   |_,_=>none)
  |_=>none)
 |_=>none
def ĝ(ds:ZI):ZL:=match mP ds with
 |some (lo,n)=>if n<=sizeLine then some (.list (kP lo n))else none
 |none=>none
section
def aA0:GK i c nm f δ=(match δ[i]? with
 |some (some d)=>(match BP c nm f d with
  |some r=>Res.ok r δ
  |none=>.stuck)
 |_=>.stuck):=by
 unfold GK;cases δ[i]? with
 |none=>rfl
 |some o=>
  cases o with
  |none=>rfl
  |some d=>
   cases d<;>try rfl
   rename_i À;cases À with
   |nil=>rfl
   |cons kv À=>
    let⟨k,v⟩:=kv;cases k<;>try rfl
    cases v<;>try rfl
    rename_i x;show _=(match (if x=nm/\ch c (pA f À)=0 then lY f À else none)with|some r=>Res.ok r δ|none=>.stuck);dsimp only;by_cases h:x=nm/\ch c (pA f À)=0
    .rw[Á h,Á h]
     try (cases lY f À<;>rfl)
    .rw[Â h,Â h]
def DZ:aV (GK i c nm f) δ Q=gQ δ[i]? δ λd δ=>vY (BP c nm f d) δ Q:=by
 unfold aV gQ vY;rw[aA0];cases δ[i]? with
 |none=>rfl
 |some o=>
  cases o with
  |none=>rfl
  |some d=>
   dsimp only;cases BP c nm f d with
   |none=>rfl
   |some r=>rfl
def aA1:sA i c n nm f fe δ=(fe δ).bind λy δ1=>(match δ1[i]? with
 |some (some d)=>(match nG c n nm f y d with
  |some r=>Res.ok Fl.next (δ1.set i (some r))
  |none=>.stuck)
 |_=>.stuck):=by
 unfold sA;congr 1;funext y δ1;cases δ1[i]? with
 |none=>rfl
 |some o=>
  cases o with
  |none=>rfl
  |some d=>
   cases d<;>try rfl
   rename_i À;cases À with
   |nil=>rfl
   |cons kv À=>
    let⟨k,v⟩:=kv;cases k<;>try rfl
    cases v<;>try rfl
    rename_i x;show _=(match (if x=nm/\ch c (pA f À)=n/\À.length<1000 then some (PyData.dict ((.none,.str x)::pN f y À))else none)with|some r=>Res.ok Fl.next (δ1.set i (some r))|none=>.stuck);dsimp only;by_cases h:x=nm/\ch c (pA f À)=n/\À.length<1000
    .rw[Á h,Á h]
    .rw[Â h,Â h]
def yA:bO (sA i c n nm f fe) δ N B C R=aV fe δ λy δ1=>gQ δ1[i]? δ1 λd δ1=>vY (nG c n nm f y d) δ1 λd' δ1=>N (δ1.set i (some d')):=by
 unfold bO aV gQ vY;rw[aA1];cases fe δ with
 |stuck=>rfl
 |err x d=>rfl
 |ok y δ1=>
  dsimp![Res.bind];cases δ1[i]? with
  |none=>rfl
  |some o=>
   cases o with
   |none=>rfl
   |some d=>
    dsimp only;cases nG c n nm f y d with
    |none=>rfl
    |some r=>rfl
def aA2:sC i c nm f fk fv δ=(fv δ).bind λv δ1=>(match fk δ1 with
 |.ok k _=>(match δ1[i]? with
  |some (some d)=>(match xX c nm f k v d with
   |some r=>Res.ok Fl.next (δ1.set i (some r))
   |none=>.stuck)
  |_=>.stuck)
 |_=>.stuck):=by
 unfold sC;congr 1;funext v δ1;have dead:∀(o:Option (ZL))(rk:Res D),(∀k dd,rk≠.ok k dd)->(match o,rk with
  |some (some (.dict ((.none,.str m)::À))),.ok (.int k) _=>if m=nm/\ch c (pA f À)=1 then (match lY f À with
   |some (.list ds)=>(match mO ds.length k with
    |some j=>Res.ok Fl.next (δ1.set i (some (.dict ((.none,.str m)::pN f (.list (ds.set j v)) À))))
    |none=>.stuck)
   |_=>.stuck)else .stuck
  |_,_=>(Res.stuck:Res Fl))=.stuck:=λo rk h=>by
  split
  .exact absurd rfl (h _ _)
  .rfl
 cases e:fk δ1 with
 |stuck=>exact dead _ _ (λ_ _ z=>by cases z)
 |err x dd=>exact dead _ _ (λ_ _ z=>by cases z)
 |ok kk dd=>
  cases δ1[i]? with
  |none=>rfl
  |some o=>
   cases o with
   |none=>rfl
   |some d=>
    cases d<;>try rfl
    rename_i À;cases À with
    |nil=>rfl
    |cons kv À=>
     let⟨k,w⟩:=kv;cases k<;>try rfl
     cases w<;>try rfl
     rename_i x;show _=(match (if x=nm/\ch c (pA f À)=1 then (match lY f À,kk with
      |some (.list ds),.int k=>(match mO ds.length k with
       |some j=>some (PyData.dict ((.none,.str x)::pN f (.list (ds.set j v)) À))
       |none=>none)
      |_,_=>none)else none)with
      |some r=>Res.ok Fl.next (δ1.set i (some r))
      |none=>.stuck)
     by_cases h:x=nm/\ch c (pA f À)=1
     .rw[Á h]
      cases kk with
      |int k=>
       dsimp only;rw[Á h];cases lY f À with
       |none=>rfl
       |some r=>
        cases r with
        |list ds=>
         dsimp only;cases mO ds.length k<;>rfl
        |_=>rfl
      |_=>
       dsimp only;cases lY f À with
       |none=>rfl
       |some r=>cases r<;>rfl
     .rw[Â h]
      cases kk with
      |int k=>dsimp only;rw[Â h]
      |_=>rfl
def VJ:bO (sC i c nm f fk fv) δ N B C R=aV fv δ λv δ1=>aV fk δ1 λk _=>gQ δ1[i]? δ1 λd δ1=>vY (xX c nm f k v d) δ1 λd' δ1=>N (δ1.set i (some d')):=by
 unfold bO aV gQ vY;rw[aA2];cases fv δ with
 |stuck=>rfl
 |err x d=>rfl
 |ok y δ1=>
  dsimp![Res.bind];cases fk δ1 with
  |stuck=>rfl
  |err x d=>rfl
  |ok k δ2=>
   dsimp only;cases δ1[i]? with
   |none=>rfl
   |some o=>
    cases o with
    |none=>rfl
    |some d=>
     dsimp only;cases xX c nm f k y d with
     |none=>rfl
     |some r=>rfl
def D0:xQ i nm m fn as δ=(match δ[i]? with
 |some (some d)=>open Classical in if xY nm m d then dH fn (.own i::as) δ else .stuck
 |_=>.stuck):=by
 unfold xQ;cases δ[i]? with
 |none=>rfl
 |some o=>
  cases o with
  |none=>rfl
  |some d=>
   cases d<;>try (exact(Â (λz:False=>z)).symm)
   rename_i À;cases À with
   |nil=>exact(Â (λz:False=>z)).symm
   |cons kv À=>
    let⟨k,w⟩:=kv;cases k<;>try (exact(Â (λz:False=>z)).symm)
    cases w<;>try (exact(Â (λz:False=>z)).symm)
    rename_i x;dsimp only;by_cases h:x=nm/\lY m À=none
    .rw[Á h,Á (show xY nm m (.dict ((.none,.str x)::À))from h)]
    .rw[Â h,Â (show ¬xY nm m (.dict ((.none,.str x)::À))from h)]
def aG6:aV (xQ i nm m fn as) δ Q=gQ δ[i]? δ λd δ=>xY nm m d/\aV (dH fn (.own i::as)) δ Q:=by
 rw[lX];unfold DK;cases e:δ[i]? with
 |none=>unfold aV;rw[D0,e];simp
 |some o=>
  cases o with
  |none=>unfold aV;rw[D0,e];simp
  |some d=>
   simp![Option.some.injEq,exists_eq_left'];unfold aV;rw[D0,e];dsimp only;by_cases h:xY nm m d
   .rw[Á h];simp[h]
   .rw[Â h];simp[h]
def aG7:aV (GM m0 nm fn as) δ Q=aV (cK as) δ λods δ1=>δ1.length=m0/\VI (dP δ1 as ods) nm fn δ1 Q:=by
 unfold aV GM VI;cases cK as δ with
 |stuck=>rfl
 |err x d=>rfl
 |ok ods δ1=>
  simp![Res.bind];by_cases h:δ1.length=m0
  .rw[Á h]
   simp![h,true_and];cases dP δ1 as ods with
   |none=>simp
   |some ds=>
    simp![Option.some.injEq,exists_and_left,exists_eq_left'];cases e:fn (dE nm [] []::ds)with
    |stuck=>simp
    |err x os=>
     simp![reduceCtorEq,false_and,exists_false];split
     .rename_i z
      split at z
      .rename_i y;cases y
      .cases z
      .cases z
     .rfl
    |ok d os=>
     refine propext ⟨λz=>?_,λ⟨d2,z,q⟩=>?_⟩
     .split at z
      .rename_i y
       split at y
       .rename_i y2;cases y2;cases y;exact⟨_,rfl,z⟩
       .rename_i y2;cases y2
       .cases y
      .exact z.elim
     .cases z;exact q
  .rw[Â h];simp[h]
def yB:bO (NE i fk fv) δ N B C R=aV fv δ λv δ1=>gQ δ1[i]? δ1 λ_ δ1=>aV fk δ1 λk δ2=>gQ δ2[i]? δ2 λd δ2=>vY (xZ k v d) δ2 λd' δ2=>N (δ2.set i (some d')):=by
 rw[lX,kE];unfold bO NE aV DK TZ;cases fv δ with
 |stuck=>rfl
 |err x d=>rfl
 |ok v δ1=>
  simp![Res.bind];cases δ1[i]? with
  |none=>simp
  |some o=>
   cases o with
   |none=>simp
   |some d0=>
    simp![Option.some.injEq,exists_eq_left'];cases fk δ1 with
    |stuck=>rfl
    |err x d=>rfl
    |ok k δ2=>
     simp![Res.bind];cases δ2[i]? with
     |none=>simp
     |some o=>
      cases o with
      |none=>simp
      |some d=>
       simp![Option.some.injEq,exists_eq_left'];unfold xZ;cases d with
       |dict À=>
        dsimp only;cases c8 k with
        |none=>simp
        |some ky=>
         dsimp only;by_cases h:À.length<sizeLine
         .rw[Á h];simp[h]
         .rw[Â h];simp[h]
       |_=>simp
def VL:aV (NF fx fk fz) δ Q=aV fx δ λx δ1=>dctD' x=true/\aV fk δ1 λk δ2=>aV fz δ2 λz δ3=>vY (NI x k z) δ3 Q:=by
 unfold aV NF vY;cases fx δ with
 |stuck=>rfl
 |err x d=>rfl
 |ok x δ1=>
  dsimp![Res.bind];cases x with
  |dict À=>
   dsimp![dctD',NI];by_cases h:(À.all λkv=>(c8 kv.1).isSome)=true
   .rw[Á h]
    simp![h,true_and];cases fk δ1 with
    |stuck=>rfl
    |err x d=>rfl
    |ok k δ2=>
     dsimp![Res.bind];cases fz δ2 with
     |stuck=>rfl
     |err x d=>rfl
     |ok z δ3=>
      dsimp![Res.bind];cases c8 k with
      |none=>rfl
      |some ky=>rfl
   .rw[Â h];simp[h]
  |_=>simp[dctD']
def VM:aV (wC i nm f fe) δ Q=aV fe δ λd δ1=>gQ δ1[i]? δ1 λt δ1=>vY (GU nm f d t) δ1 Q:=by
 rw[lX,kE];unfold aV wC DK TZ;cases fe δ with
 |stuck=>rfl
 |err x d=>rfl
 |ok d δ1=>
  simp![Res.bind];cases d with
  |list ds=>
   cases δ1[i]? with
   |none=>simp
   |some o=>
    cases o with
    |none=>simp
    |some t=>
     simp![Option.some.injEq,exists_eq_left'];unfold GU;dsimp only;cases gR nm f t with
     |none=>simp
     |some r=>
      cases r with
      |list hs=>
       dsimp only;cases cF hs with
       |none=>simp
       |some hs'=>
        cases cF ds with
        |none=>simp
        |some ns=>
         dsimp only;cases iF hs' ns with
         |none=>simp
         |some ks=>simp
      |_=>simp
  |_=>simp[GU]
def aG8:aV (BM fs) δ Q=aV (aZ fs) δ λds δ1=>vY (ĝ ds) δ1 Q:=by
 rw[kE];unfold aV BM TZ ĝ;cases aZ fs δ with
 |stuck=>rfl
 |err x d=>rfl
 |ok ds δ1=>
  simp![Res.bind];cases mP ds with
  |none=>simp
  |some p=>
   let⟨lo,n⟩:=p;dsimp only;by_cases h:n<=sizeLine
   .rw[Á h];simp[h]
   .rw[Â h];simp[h]
def P1(d:D)(δ:DS)(Q:D->ZO)(_w:Wt Q:=⟨⟩):Prop:=(EY d).isSome=true/\Q d δ
def yC:aV (F8 fe) δ Q=aV fe δ λd _=>P1 d δ Q:=by
 unfold aV F8 P1;cases fe δ with
 |stuck=>rfl
 |err x d=>rfl
 |ok d δ1=>
  dsimp only;cases EY d with
  |none=>simp
  |some v=>simp
def VN{i:Int}:P1 (.int i) δ Q=Q (.int i) δ:=by unfold P1;simp[EY]
def aG9:P1 .none δ Q=Q .none δ:=by unfold P1;simp[EY]
end
end L2
namespace PySem
namespace F
end F
section
end
end PySem
namespace L2
open PySem PySem.Spec PyProof.Rows
section
end
def Ī{P:ZJ->Prop}{us:ZJ}{n:Nat}(hl:us.length=n+1)(h:∀x xs,xs.length=n->P (x::xs)):P us:=by
 cases us with
 |nil=>cases hl
 |cons x xs=>exact h x xs (Nat.succ.inj hl)
def aOE{P:ZJ->Prop}{us:ZJ}(hl:us.length=0)(h:P []):P us:=by
 rw[List.length_eq_zero_iff.mp hl];exact h
def ϗ{P:ZJ->Prop}{us:ZJ}(hl:us.length=1)(h:∀a,P [a]):P us:=Ī hl λa _ hl=>aOE (P:=λus=>P (a::us)) hl (h a)
def Ϙ{P:ZJ->Prop}{us:ZJ}(hl:us.length=2)(h:∀a b,P [a,b]):P us:=Ī hl λa _ hl=>ϗ (P:=λus=>P (a::us)) hl (h a)
def ϙ{P:ZJ->Prop}{us:ZJ}(hl:us.length=3)(h:∀a b c,P [a,b,c]):P us:=Ī hl λa _ hl=>Ϙ (P:=λus=>P (a::us)) hl (h a)
def Ϛ{P:ZJ->Prop}{us:ZJ}(hl:us.length=4)(h:∀a b c d,P [a,b,c,d]):P us:=Ī hl λa _ hl=>ϙ (P:=λus=>P (a::us)) hl (h a)
def aOF{P:ZJ->Prop}{us:ZJ}(hl:us.length=5)(h:∀a b c d e,P [a,b,c,d,e]):P us:=Ī hl λa _ hl=>Ϛ (P:=λus=>P (a::us)) hl (h a)
def aNV{ps:ZG}(hl:us.length=1)(h:∀a,bindArgs fd ⟨[a],[]⟩=pure (ps.zip [a])):bindArgs fd ⟨us,[]⟩=pure (ps.zip us):=ϗ (P:=λus=>bindArgs fd ⟨us,[]⟩=pure (ps.zip us)) hl h
def aNW{ps:ZG}(hl:us.length=2)(h:∀a b,bindArgs fd ⟨[a,b],[]⟩=pure (ps.zip [a,b])):bindArgs fd ⟨us,[]⟩=pure (ps.zip us):=Ϙ (P:=λus=>bindArgs fd ⟨us,[]⟩=pure (ps.zip us)) hl h
def aNX{ps:ZG}(hl:us.length=3)(h:∀a b c,bindArgs fd ⟨[a,b,c],[]⟩=pure (ps.zip [a,b,c])):bindArgs fd ⟨us,[]⟩=pure (ps.zip us):=ϙ (P:=λus=>bindArgs fd ⟨us,[]⟩=pure (ps.zip us)) hl h
def aNY{ps:ZG}(hl:us.length=4)(h:∀a b c d,bindArgs fd ⟨[a,b,c,d],[]⟩=pure (ps.zip [a,b,c,d])):bindArgs fd ⟨us,[]⟩=pure (ps.zip us):=Ϛ (P:=λus=>bindArgs fd ⟨us,[]⟩=pure (ps.zip us)) hl h
def aNZ{ps:ZG}(hl:us.length=5)(h:∀a b c d e,bindArgs fd ⟨[a,b,c,d,e],[]⟩=pure (ps.zip [a,b,c,d,e])):bindArgs fd ⟨us,[]⟩=pure (ps.zip us):=aOF (P:=λus=>bindArgs fd ⟨us,[]⟩=pure (ps.zip us)) hl h
section
variable {P:Program}{w:World}{K:ZC}{mg:ZD}{base:Heap}{x qual:Str}{st:Stmt}{N:ZG}{k lev rm:Nat}{ps owp:ZH}{body:M Fl}
structure Fd(K:ZC)(x qual:Str)(st:Stmt)(N:ZG)(k:Nat) where
 f:Addr
 fd:FuncData
 F:Q6 K x qual st f fd
 b:pF K fd (N.take k) []
structure Fg(K:ZC)(mg:ZD)(x:Str)(st:Stmt)(N:ZG)(k:Nat) extends Fd K x x st N k where
 m:mg x=some (.ref f)
abbrev Fd.Ok(X:Fd K x qual st N k)(P:Program)(w:World)(mg:ZD)(base:Heap)(lev:Nat)(ps owp:ZH)(rm:Nat)(d:ZI->Res D):Prop:=qZ P w K mg base (zY P w K) lev X.f X.fd (N.take k) (SR K (N.take k) ps owp rm d)
def Fd.okD(X:Fd K x qual st N k)(S:iM N (N.take k) (bC st))(hb:∀{cdv:Value}{A:Around}{outer:List Env}{s:Shared}{H:Hp}{E:XK}{F0:Hp}{g0:ZP}{σ0:St}{wf:∀a i q,g0 a=some (i,q)->i∈ps}(_:X.fd.code=cdv)(_:fC lev (A.deeper (envOfC qual (bC st) s.heap.objs.size X.f cdv))),
   zT (pY (zY P w K) P w K mg base N qual (bC st) X.f cdv A outer s H E) ⟨F0,H,g0,ps,σ0,owp,wf⟩ owp owp owp owp rm (dX st) body)(hN:↥(owp.length=N.length)):X.Ok P w mg base (lev+1) ps owp rm (aP N.length ps rm body):=
 X.F.okD S hN λ_ hcd _ _ _ _ _ _ _ _ _ hr=>⟨owp,hb hcd hr⟩
def Fd.okE(X:Fd K x qual st N k)(owe:ZH)(S:iM N (N.take k) (bC st))(hb:∀{cdv:Value}{A:Around}{outer:List Env}{s:Shared}{H:Hp}{E:XK}{F0:Hp}{g0:ZP}{σ0:St}{wf:∀a i q,g0 a=some (i,q)->i∈ps}(_:X.fd.code=cdv)(_:fC lev (A.deeper (envOfC qual (bC st) s.heap.objs.size X.f cdv))),
   zT (pY (zY P w K) P w K mg base N qual (bC st) X.f cdv A outer s H E) ⟨F0,H,g0,ps,σ0,owp,wf⟩ owp owe owe owe rm (dX st) body)(hN:↥(owp.length=N.length)):X.Ok P w mg base (lev+1) ps owp rm (aP N.length ps rm body):=
 X.F.okD S hN λ_ hcd _ _ _ _ _ _ _ _ _ hr=>⟨owe,hb hcd hr⟩
def ī(N:ZG)(k:Nat)(sc:Scope):Bool:=(match sc.kind with|.function=>true|_=>false) && !sc.isCoroutine && !sc.isGenerator && decide N.Nodup && (N.take k).all (λx=>match sc.names.lookup x with|some .local=>true|some .cell=>true|_=>false) && sc.names.all (λy=>match y.2 with|.free=>false|_=>true)
def BQ(h:ī N k sc=true):iM N (N.take k) sc:=by
 unfold ī at h;simp![â,Bool.not_eq_true',decide_eq_true_eq,æ]at h;let⟨⟨⟨⟨⟨h1,h2⟩,h3⟩,h4⟩,h5⟩,h6⟩:=h;refine⟨?_,h2,h3,h4,?_,λx hx=>?_,λy hy e=>?_⟩
 all_goals grind
def aKD{h:Heap}{f:Addr}{oc:Value}{od an:Option Addr}{osl:Array (ZN)}{kV doc pm cdv ct:Value}(X:K.In h)(G:h.Ns mainGlobals mg)(a:W.nsIn K mainGlobals x=some (some (.ref f)))(l:K.lookup f=some ⟨oc,od,.func (W.fnOf x x (oB st) (dX st) (bC st) .none kV doc pm an cdv ct),osl⟩)(c:W.codeIn K cdv x=true)(k':W.keepIn K (.ref f)=true)(hb:∀(kV doc pm:Value)(an:Option Addr)(cdv ct:Value)(us:ZJ),us.length=(N.take k).length->bindArgs (W.fnOf x x (oB st) (dX st) (bC st) .none kV doc pm an cdv ct) ⟨us,[]⟩=pure ((N.take k).zip us)):(Fg K mg x st N k):=
 ⟨⟨f,_,JT l c k',(JT l c k').binds hb⟩,aQL X G a⟩
def NJ(X:K.In h)(G:h.Ns mainGlobals mg)(a:W.nsIn K mainGlobals x=some (some (.int v t))):∃t,mg x=some (.int v t):=⟨t,aQL X G a⟩
def aC{pos p:Pos}(Y:Fg X.K X.mg x st N k)(Fk:Y.Ok X.prog X.w X.mg X.base lev ps owp rm fn)(hr:fC k1 X.A)(ha:DA X Z ow (e::es) as)(hk:⇑(lev<=k1))(S:aO Z ow:=by exact aH)(hg:Gl X x:=by exact rfl)(hz:↥(X6 Z=true))(hl:↥(as.length=(N.take k).length))(hps:↥(fV 0 as=ps))(nd:↥(decide (aU as).Nodup=true))(hm:↥(fF owp ow 0 as=true))(hlt:⇑(as.length<=1000))(hdb:⇑(Zdb x))(he:↥(Zse e es X.env))(hpl:↥(Zbt pos es X.env)):
  DE X Z ow rm (.Call 'g' (e::es) [] pos) (dH fn as):=Y8 S Fk (hr.mono hk) hg Y.m Y.F.kp Y.b ha hz hl hps nd hm hlt hdb he hpl
end
def Fd.okN{K:ZC}{st:Stmt}(X:Fd K x qual st N k)(hb:∀{cdv:Value}{A:Around}{outer:List Env}{s:Shared}{H:Hp}{E:XK}{F0:Hp}{g0:ZP}{σ0:St}{wf:∀a i q,g0 a=some (i,q)->i∈ps}(_:X.fd.code=cdv)(_:fC lev (A.deeper (envOfC qual (bC st) s.heap.objs.size X.f cdv)))(_:N.Nodup),
   zT (pY (zY P w K) P w K mg base N qual (bC st) X.f cdv A outer s H E) ⟨F0,H,g0,ps,σ0,owp,wf⟩ owp owp owp owp rm (dX st) body)(h:ī N k (bC st)=true:=by decide +kernel)(hN:↥(owp.length=N.length)):X.Ok P w mg base (lev+1) ps owp rm (aP owp.length ps rm body):=by
 rw[hN];exact X.okD (BQ h) (λa b=>hb a b (BQ h).nd) hN
def Fd.okM{K:ZC}{st:Stmt}(X:Fd K x qual st N k)(owe:ZH)(hb:∀{cdv:Value}{A:Around}{outer:List Env}{s:Shared}{H:Hp}{E:XK}{F0:Hp}{g0:ZP}{σ0:St}{wf:∀a i q,g0 a=some (i,q)->i∈ps}(_:X.fd.code=cdv)(_:fC lev (A.deeper (envOfC qual (bC st) s.heap.objs.size X.f cdv)))(_:N.Nodup),
   zT (pY (zY P w K) P w K mg base N qual (bC st) X.f cdv A outer s H E) ⟨F0,H,g0,ps,σ0,owp,wf⟩ owp owe owe owe rm (dX st) body)(h:ī N k (bC st)=true:=by decide +kernel)(hN:↥(owp.length=N.length)):X.Ok P w mg base (lev+1) ps owp rm (aP owp.length ps rm body):=by
 rw[hN];exact X.okE owe (BQ h) (λa b=>hb a b (BQ h).nd) hN
def ł:ZG->Str->Nat->Option Nat
 |[],_,_=>none
 |y::ys,x,k=>if y == x then some k else ł ys x (k+1)
def NK:∀{N:ZG}{x:Str}{k i:Nat},ł N x k=some i->∃j,i=k+j/\N[j]?=some x
 |y::ys,x,k,i,h=>by
  unfold ł at h;by_cases e:(y == x)=true
  .rw[Á e]at h
   cases h;exact⟨0,rfl,congrArg some (eq_of_beq e)⟩
  .rw[Â e]at h
   let⟨j,e1,e2⟩:=NK h;exact⟨j+1,∅,e2⟩
def rL{α:Type}(r:Expr->Option α):List Expr->Option (List α)
 |[]=>some []
 |e::es=>(r e).bind λf=>(rL r es).bind λfs=>some (f::fs)
def aOG:Operator->Option (D->D->ZL)
 |.Add=>some J1
 |.Sub=>some Œ
 |.Mult=>some O4
 |.Mod=>some C1
 |_=>none
def aOH:Const->Option (M D)
 |.int i=>some (dC (.int i))
 |.str x=>some (dC (.str x))
 |.none=>some (dC .none)
 |_=>none
def aM2:NameKind->Bool
 |.globalImplicit=>false
 |.globalExplicit=>false
 |_=>true
def aOI(N:ZG)(nm:List (Str×NameKind))(ow:ZH)(x:Str):(Option (M D)):=(nm.lookup x).bind λk=>(ł N x 0).bind λi=>if aM2 k && ow.getD i 0 == 0 && !(x == "__debug__") && !(x == "__classdict__")then some (bA i)else none
def rE(N:ZG)(nm:List (Str×NameKind))(ow:ZH):Nat->Expr->Option (M D)
 |0,_=>none
 |n+1,e=>match e with
  |.Name x _=>aOI N nm ow x
  |.Constant c _ _=>aOH c
  |.BinOp a o b _=>(aOG o).bind λg=>(rE N nm ow n a).bind λf=>(rE N nm ow n b).bind λh=>some (gJ g f h)
  |.Subscript a b _=>(rE N nm ow n a).bind λf=>(rE N nm ow n b).bind λh=>some (gJ gG f h)
  |.Tuple es _ _=>(rL (rE N nm ow n) es).bind λfs=>some (O1 fs)
  |_=>none
def ob{α β:Type}{x:Option α}{f:α->Option β}{b:β}(h:x.bind f=some b):∃a,x=some a/\f a=some b:=Option.bind_eq_some_iff.mp h
section
variable {X:Cx}{Z:b8}{ow:ZH}{e:Expr}{f:M D}
structure Ţ(X:Cx)(Z:b8)(ow:ZH)(e:Expr)(f:M D):Prop where
 de:DE X Z ow 0 e f
 st:∀es,starEach (e::es) X.env=(false,eval e X.env)::starEach es X.env
 ix:oA e
def ţ(h:∀e f,r e=some f->Ţ X Z ow e f):∀{es:List Expr}{fs:List (M D)},rL r es=some fs->DV X Z ow es fs
 |[],fs,q=>by cases q;exact bF
 |e::es,fs,q=>by
  let⟨f,h1,q⟩:=ob q;let⟨gs,h2,q⟩:=ob q;cases q;exact aF (h _ _ h1).de (ţ h h2) ((h _ _ h1).st _)
def ϛ{r:Expr->Option (M D)}(h:∀e f,r e=some f->Ţ X Z ow e f):∀{es:List Expr}{as:List Arg},rL (λe=>(r e).bind λf=>some (Arg.val f)) es=some as->DA X Z ow es as
 |[],as,q=>by cases q;exact bY
 |e::es,as,q=>by
  let⟨a,h1,q⟩:=ob q;let⟨bs,h2,q⟩:=ob q;let⟨f,h3,q1⟩:=ob h1;cases q;cases q1;exact aK (h _ _ h3).de (ϛ h h2) ((h _ _ h3).st _)
def NL(S:aO Z ow):∀(n:Nat)(e:Expr)(f:M D),rE X.N X.env.scope.names ow n e=some f->Ţ X Z ow e f
 |n+1,e,f,h=>by
  have ih:=NL S n;cases e with
  |Name x p=>
   refine⟨?_,λ_=>rfl,λ_ _=>rfl⟩;let⟨k,hk,h⟩:=ob h;let⟨i,hi,h⟩:=ob h;split at h
   .rename_i q
    cases h;let⟨j,rfl,hj⟩:=NK hi;simp![â,Bool.not_eq_true',beq_iff_eq,Nat.zero_add]at q⊢;refine fQ j q.1.1.2 hj ?_ q.1.2 q.2;have q:=q.1.1.1;cases k<;>cases q
    .exact .inl hk
    .exact .inr (.inl hk)
    .exact .inr (.inr hk)
   .cases h
  |Constant c k p=>
   refine⟨?_,λ_=>rfl,λ_ _=>rfl⟩;cases c<;>cases h
   all_goals first|exact aJ|exact bX|exact w8
  |BinOp a o b p=>
   let⟨g,h1,h⟩:=ob h;let⟨f1,h2,h⟩:=ob h;let⟨f2,h3,h⟩:=ob h;cases h;have a:=(ih _ _ h2).de;have b:=(ih _ _ h3).de;refine⟨?_,λ_=>rfl,λ_ _=>rfl⟩;cases o<;>cases h1
   all_goals first|exact bM S a b|exact j9 S a b|exact iA S a b|exact fX S a b
  |Subscript a b p=>
   let⟨f1,h2,h⟩:=ob h;let⟨f2,h3,h⟩:=ob h;cases h;exact⟨d8 S (ih _ _ h2).de (ih _ _ h3).de (ih _ _ h3).ix,λ_=>rfl,λ_ _=>rfl⟩
  |Tuple es k p=>
   let⟨fs,h2,h⟩:=ob h;cases h;exact⟨cI (ţ ih h2),λ_=>rfl,λ_ _=>rfl⟩
  |_=>cases h
def rx(S:aO Z ow:=by exact aH)(h:↥(rE X.N X.env.scope.names ow 9 e=some f)):DE X Z ow 0 e f:=(NL S 9 e f h).de
def rv{es:List Expr}{fs:List (M D)}(S:aO Z ow:=by exact aH)(h:↥(rL (rE X.N X.env.scope.names ow 9) es=some fs)):DV X Z ow es fs:=ţ (NL S 9) h
def ra{es:List Expr}{as:List Arg}(S:aO Z ow:=by exact aH)(h:↥(rL (λe=>(rE X.N X.env.scope.names ow 9 e).bind λf=>some (Arg.val f)) es=some as)):DA X Z ow es as:=ϛ (NL S 9) h
end
section
end
section
end
section
def VO(k x:D):(Option (ZL)):=match x with
 |.dict À=>if (À.all λkv=>(c8 kv.1).isSome)=true then (match c8 k with
  |some ky=>some (jO ky À)
  |none=>none)else none
 |_=>none
def vM(n:Bool)(k x:D):ZL:=(VO k x).map λr=>.bool (r.isSome != n)
def VP{K:ZC}(e:VO k x=some r)(hk:bI K F k y)(hx:bI K F x v)(hs:aL F H):∃a o,v=.ref a/\AA H a y o/\((r=none/\o=none)\/∃d w,r=some d/\o=some w/\bI K F d w):=by
 unfold VO at e;split at e
 .rename_i À
  split at e
  .rename_i hall
   split at e
   .rename_i ky e4
    cases e;let⟨a,ms,ds,vs,rfl,l1,rfl,hF,hr⟩:=NG hx hall;obtain rfl:=DY e4 hk;refine⟨a,p9 (ms.zip vs) ky,rfl,AA.k (hs _ _ hF),?_⟩;rcases uK (k:=ky) l1 hr with ⟨h1,h2⟩|⟨d,w,h1,h2,h3⟩
    .exact .inl ⟨h1,h2⟩
    .exact .inr ⟨d,w,h1,h2,h3⟩
   .cases e
  .cases e
 .cases e
def VQ(h:tD X Z ow 0 (gJ (vM n) fk fx) σ H Q):tD X Z ow 0 fk σ H λy H1=>tD X Z ow 0 fx σ H1 λx H2=>∃a o,x=.ref a/\AA H2 a y o/\Q (.bl (o.isSome != n)) H2:=by
 let⟨F,δ,R,h⟩:=h;unfold gJ at h;sleep 2;cases e:fk δ with
 |stuck=>sleep 1
 |err x δ1=>rw[e]at h;exact h
 |ok d1 δ1=>
  rw[e]at h;simp![Res.bind]at h;intro y H1 F1 R1 s1;refine⟨F1,δ1,R1.rel,?_⟩;cases e2:fx δ1 with
  |stuck=>rw[e2]at h;exact h.elim
  |err x δ2=>rw[e2]at h;exact iV.mono h s1
  |ok d2 δ2=>
   rw[e2]at h;simp![Res.bind]at h;intro v H2 F2 R2 s2;unfold vM at h;cases e3:VO d1 d2 with
   |none=>rw[e3]at h;exact h.elim
   |some r=>
    rw[e3]at h;let⟨a,o,rfl,hg,hr⟩:=VP e3 (s2.rep _ _ R1.rep) R2.rep R2.rel.sub;have eo:o.isSome=r.isSome:=by
     rcases hr with ⟨rfl,rfl⟩|⟨d,w,rfl,rfl,_⟩<;>rfl
    refine⟨a,o,rfl,hg,?_⟩;rw[eo];exact h _ H2 F2 (R2.rel.x gN) (s1.trans' s2)
def aM4(hu:X.A.units+64<cLine)(hi:DE X Z ow 0 i fk)(ho:DE X Z ow 0 o fx)(h1:↥(behindInMarks .In o=false)):DE X Z ow 0 (.Compare i [.In] [o] pos) (gJ (vM false) fk fx):=
 PE.mono (aEC (UY ∅ hi ho) h1) λσ H Q h=>by
  have:=VQ h;simp![Bool.bne_false]at this;exact this
def aHB(hu:X.A.units+64<cLine)(hi:DE X Z ow 0 i fk)(ho:DE X Z ow 0 o fx)(h1:↥(behindInMarks .In o=false)):DT X Z ow (.Compare i [.In] [o] pos) (dB (gJ (vM false) fk fx)):=
 (aED (UY ∅ hi ho) h1).mono λσ H Q h=>by
  have:=VQ (L6 h);simp![Bool.bne_false]at this;exact this
end
section
variable {c i:Nat}{F H:Hp}{g:ZP}{K:ZC}
def bD.mkC{p:ZH}{a:Addr}{ds:ZI}{vs:List V}(hk:kd c=0)(h0:c≠0)(a1:g a=some (i,p))(a2:H a=some (.lst vs))(a3:F a=none)(hl:ds.length=vs.length)(r:∀(k:Nat)(d':D)(v':V),ds[k]?=some d'->vs[k]?=some v'->bD K F H g i (ch c k) (p++[k]) d' v'):bD K F H g i c p (.list ds) (.ref a):=by
 cases c with
 |zero=>exact absurd rfl h0
 |succ c=>
  refine bD.shut (ds:=ds) (vs:=vs) (cs:=[(a,[],.lst vs)]) (by rw[hk];exact⟨a,rfl,rfl,rfl⟩) (λx hx=>?_) hl r
  rw[ð.mp hx];exact⟨by simpa using a1,a2,a3⟩
end
section
end
section
end
section
end
section
def NM(f:M D):M Bool:=λδ=>(f δ).bind λd δ1=>match d with
 |.list ds=>.ok (!ds.isEmpty) δ1
 |_=>.stuck
def aHC(h:DE X Z ow 0 e f)(he: ~~~(∀whole,isTrue e X.env whole=(do let v <- whole;standAt e.pos;holding [v] (truthy v)))):DT X Z ow e (NM f):=(RQ h he).mono λσ H Q h=>by
 let⟨F,δ,R,h⟩:=h;unfold NM at h;sleep 2;cases e:f δ with
 |stuck=>sleep 1
 |err x δ1=>rw[e]at h;exact h
 |ok d δ1=>
  rw[e]at h;simp![Res.bind]at h;intro v H1 F1 R1 s1;split at h
  .rename_i ds
   let⟨l,vs,rfl,hx,rx⟩:=j8 R1.rep;refine⟨!ds.isEmpty,?_,h H1 F1 R1.rel s1⟩;refine .inl ⟨vs,R1.rel.sub.seq hx,?_⟩;have:=rx.len
   grind
  .exact h.elim
def aHD{δ:DS}{Q:Bool->ZO}{ds:ZI}{δ1:DS}(h:f δ=.ok (.list ds) δ1)(q:Q (!ds.isEmpty) δ1):aV (NM f) δ Q:=by
 unfold aV NM;rw[h];exact q
end
section
def VR(ns:ZK):Int:=ns.getD (argBest (λi j=>decide (ns.getD i 0<ns.getD j 0)) (ns.length-1)) 0
def BR(hc:X.calm=true):fP X (.builtin "min") (λxs H Q=>∃(p:Addr)(ns:ZK),xs=[.ref p]/\eK X.K H p (ns.map V.int)/\0<ns.length/\Q (.int (VR ns)) H):=by
 intro U s σ H xs us Q I r h;let⟨p,ns,rfl,hq,h0,q⟩:=h;let⟨u,rfl,rx⟩:=mU r;cases rx;let⟨its,rv,pl,hz⟩:=I.list hq;refine call_min_walk (wpAny_pyIter_list pl.isList ?_);have hlen:=rv.length;rw[Å]at hlen;have hlt:p<s.heap.objs.size:=by
  let⟨o,n,e,_⟩:=pl;exact Heap.lt_size e
 sleep 6;let⟨its',rv',pl',_⟩:=ph.list hq;have e1:its=its':=by
  let⟨o,n,e,c,dn,d⟩:=pl;let⟨o',n',e',c',dn',d'⟩:=pl';have e2:=Heap.get?_push_of_some {cls:=.type "list_iterator",data:=.fields #[.ref p,.int 0 0]} e;rw[e2]at e';cases e';rw[d]at d';injection d' with d1 _;simpa using congrArg Array.toList d1
 subst e1;have at_:∀i v,its.toArray[i]?=some v->∃t,v=Value.int (ns.getD i 0) t:=λi v hv=>by
  let⟨m,t,hb,rfl⟩:=bH.int_at (i:=i) rv (by simpa using hv);exact⟨t,by rw[Ë,hb];rfl⟩
 have sz:its.toArray.size=ns.length:=by simp;exact Eq.symm ‹_›
 refine⟨s.heap.objs.size,_,_,_,_,_,_,rfl,Walks.list (A:=X.A.in1) (show X.A.in1.handled=none from I.ok.hd hc) s.heap.objs.size p (Ê hlt) its.toArray,⟨⟨_,Heap.get?_push_size _ rfl,rfl,rfl⟩,pl'.isList⟩,λb hb=>?_,by rw[sz];exact h0,CmpOf.ints_lt (λi=>ns.getD i 0) λi v hv=>at_ i v hv,λv h' tk hv k=>?_⟩
 .show b<(s.heap.push _).objs.size
  rw[Heap.size_push];simp![Ì,Ø,or_false]at hb;rcases hb with rfl|rfl
  .exact ç _
  .exact Nat.lt_succ_of_lt hlt
 .obtain⟨t,rfl⟩:=at_ _ _ hv
  rw[sz];have I2:=ph.turned (it:=s.heap.objs.size) (h':=h') (t':=tk) (λb o hb e=>k b o (by simpa using hb) e) (I.hok.fresh (Ç _)) (Û I.lt) (.inr I.sz) (λx c e=>by
   let⟨v,q⟩:=I.cell x c e;exact Ê q.lt) λp hp=>Ê (Heap.lt_size (I.pin p hp).1)
  exact⟨.int _,H,I2,⟨t,rfl⟩,q⟩
def GV:ZI->ZL
 |[.list ds]=>(match cF ds with
  |some (i::is)=>some (.int (VR (i::is)))
  |_=>none)
 |_=>none
def NO:Y5 X (λxs H Q=>∃(p:Addr)(ns:ZK),xs=[.ref p]/\eK X.K H p (ns.map V.int)/\0<ns.length/\Q (.int (VR ns)) H) 0 GV:=λZ ow F H σ δ ds vs d Q S R ra e q=>by
 unfold GV at e;split at e
 .rename_i ds'
  split at e
  .rename_i i is e1
   cases e;let⟨v,rfl,r⟩:=xG ra;let⟨p,xs,rfl,hp,hr⟩:=j8 r;rw[gO e1 hr]at hp;exact⟨p,i::is,rfl,R.sub.seq hp,ý _,q _ H F (R.x fW) 'k'⟩
  .cases e
 .cases e
end
end L2
namespace L2
open PySem PySem.Spec
section
end
end L2
set_option maxRecDepth 100000
set_option maxHeartbeats 4000000
open L2 in
seal DE DT AW zT DV DA DI DO Q7 PG Ĥ ZT ġ PW
namespace Toy
open PySem L2
@[inline]def top(i:Nat):Stmt:=PySem.Challenge.pw_keel_k63_refused_calls.main.body.getD i (.Pass ⟨0,0,0,0⟩)
abbrev qB:Stmt:=top 11
abbrev qC:ZG:=["one","other","rest"]
abbrev KM:Stmt:=top 12
abbrev KN:ZG:=["top","bottom","divisor"]
abbrev D1:Stmt:=top 15
abbrev D2:ZG:=["rooms","lines","tank","room","line"]
abbrev P3:Stmt:=top 16
abbrev P4:ZG:=["line","pivot_line","column","scale","step","share","numbers"]
def sK:(["one","other","line","pivot_line","column","scale","step","share","numbers"]:ZG).Nodup:=by decide +kernel
abbrev VS:Stmt:=top 17
abbrev VT:ZG:=["pivot_line","column","scale","numbers"]
abbrev pQ:Stmt:=top 18
abbrev AB:ZG:=["table","below"]
def kY:(["place","line","table","below"]:ZG).Nodup:=by decide +kernel
abbrev D3:Stmt:=top 19
abbrev D4:ZG:=["table","line","column","best","one","other"]
abbrev D5:Stmt:=top 20
abbrev D6:ZG:=["table","line","best","column"]
abbrev KO:Stmt:=top 21
abbrev KP:ZG:=["table","rows","shares","first_row","first_room","parts"]
abbrev GW:Stmt:=top 22
abbrev GX:ZG:=["table","line","shares","number","share"]
abbrev GY:Stmt:=top 23
abbrev GZ:ZG:=["table","rows","place","shares"]
abbrev G0:Stmt:=top 24
abbrev G1:ZG:=["table","rows","rooms","reached","number","line","fills"]
abbrev uM:Stmt:=VE (top 14) 0
abbrev uO:ZG:=["self","rows","rooms"]
def iI:(["row","top","self","rows","rooms"]:ZG).Nodup:=by decide +kernel
abbrev D7:Stmt:=VE (top 14) 1
abbrev D8:ZG:=["self","place","column","pivot_line","lines","freed"]
abbrev aA4:Stmt:=top 25
abbrev aA5:ZG:=["rows","rooms","table","place","column"]
abbrev aA6:Stmt:=top 30
abbrev aA7:ZG:=["sums","weight","place"]
abbrev P5:Stmt:=top 31
abbrev P6:ZG:=["ship","cargo","own","sums","stack","boxes","t","box","place"]
abbrev AC:Stmt:=top 32
abbrev AD:ZG:=["tanks","axis","high","sums"]
abbrev D9:Stmt:=top 33
abbrev EA:ZG:=["tanks","axis","low","sums"]
abbrev P7:Stmt:=top 34
abbrev P8:ZG:=["ship","cargo","bounds","tanks","sums"]
abbrev KQ:Stmt:=top 36
abbrev KR:ZG:=["ship"]
abbrev P9:Stmt:=top 37
abbrev QA:ZG:=["ship","cargo"]
abbrev QB:Stmt:=top 40
abbrev QC:ZG:=["thing"]
abbrev KS:Stmt:=top 41
abbrev KU:ZG:=["ship","s","other","one","two"]
abbrev G3:Stmt:=top 43
abbrev G5:ZG:=["box","names"]
abbrev sL:Stmt:=top 44
abbrev sM:ZG:=["stack","s","boxes","rules","above","t","box"]
abbrev VU:Stmt:=top 45
abbrev VV:ZG:=["ship","one","other"]
abbrev yD:Stmt:=top 46
abbrev yE:ZG:=["cargo","placed","s","boxes","t","box"]
abbrev yF:Stmt:=top 47
abbrev yG:ZG:=["ship","cargo","rules","placed","number","one","other"]
abbrev VW:Stmt:=top 48
abbrev VX:ZG:=["ship","cargo","rules","s","boxes"]
abbrev yH:Stmt:=top 50
abbrev yI:ZG:=["boxes","port","t","box"]
abbrev uP:Stmt:=top 51
abbrev uQ:ZG:=["boxes","s","port","lifted","moves"]
abbrev KW:Stmt:=top 52
abbrev KY:ZG:=["cargo","call","moves","s","boxes"]
def pR:(["box","s","cargo","call","moves",".s","boxes"]:ZG).Nodup:=by decide +kernel
abbrev KZ:Stmt:=top 53
abbrev K0:ZG:=["cargo","call"]
def pT:(["step","box","cargo","call"]:ZG).Nodup:=by decide +kernel
abbrev K2:Stmt:=top 54
abbrev K3:ZG:=["cargo","call"]
abbrev VY:Stmt:=top 55
abbrev VZ:ZG:=["cargo"]
def G6:(["boxes","cargo"]:ZG).Nodup:=by decide +kernel
abbrev QD:Stmt:=top 56
abbrev QE:ZG:=["cargo","step","box","behind"]
abbrev K4:Stmt:=top 57
abbrev K5:ZG:=["cargo","names","boxes","box"]
abbrev AE:Stmt:=top 58
abbrev AF:ZG:=["ship","cargo","loads","names","box","s"]
abbrev K6:Stmt:=top 59
abbrev K7:ZG:=["ship","cargo","rules"]
abbrev V0:Stmt:=top 60
abbrev V1:ZG:=["ship","cargo","call","behind","log","step","box","told"]
abbrev G7:Stmt:=top 62
abbrev G8:ZG:=["_law_script","_law_k"]
abbrev V2:Stmt:=top 63
abbrev V3:ZG:=["_law_script","_law_k","_law_many"]
abbrev QF:Stmt:=top 64
abbrev QG:ZG:=["_law_script","_law_k","_law_many"]
abbrev QH:Stmt:=top 65
abbrev QI:ZG:=["_law_script","_law_k","_law_many"]
abbrev V4:Stmt:=top 66
abbrev V5:ZG:=["_law_script","_law_k","_law_n","_law_letters","_law_many","_law_spot","_law_base","_law_sign"]
abbrev QJ:Stmt:=top 67
abbrev QK:ZG:=["_law_script"]
abbrev QL:Stmt:=top 68
abbrev QM:ZG:=["_law_script","_law_s","_law_along","_law_across","_law_high","_law_most","_law_name_here"]
abbrev V6:Stmt:=top 69
abbrev V7:ZG:=["_law_script","_law_k","_law_along","_law_across","_law_room"]
abbrev V8:Stmt:=top 70
abbrev V9:ZG:=["_law_script","_law_scale_here","_law_own","_law_long","_law_wide","_law_most","_law_bounds","_law_stacks","_law_tanks","_law_apart_here","_law_k","_law_one","_law_other_here"]
abbrev aA8:Stmt:=top 71
abbrev aA9:ZG:=["_law_script","_law_n","_law_scale_here","_law_port","_law_kind","_law_bears"]
abbrev QN:Stmt:=top 72
abbrev QO:ZG:=["_law_script","_law_ship_here","_law_many","_law_cargo_here","_law_n"]
def EB:(["_law_stack_here","_law_script","_law_ship_here","_law_many","_law_cargo_here","_law_n"]:ZG).Nodup:=by decide +kernel
abbrev G9:Stmt:=top 73
abbrev HA:ZG:=["_law_script","_law_k","_law_some"]
abbrev WA:Stmt:=top 74
abbrev WB:ZG:=["_law_script","_law_k","_law_load","_law_others","_law_many","_law_way","_law_box_here","_law_below","_law_beyond","_law_name_here","_law_low"]
abbrev HB:Stmt:=top 75
abbrev HC:ZG:=["_law_name_here","_law_sign"]
abbrev aBA:Stmt:=top 76
abbrev aBB:ZG:=["_law_load","_law_others","_law_many","_law_box_here"]
abbrev vN:Stmt:=top 77
abbrev nH:ZG:=["_law_ship_here","_law_cargo_here","_law_call","_law_word"]
def f8:iM nH (nH.take 3) (bC vN):=BQ (by decide +kernel)
abbrev BS:Stmt:=top 78
abbrev uR:ZG:=["_law_ship_here","_law_cargo_here","_law_call","_law_word","_law_alone","e"]
def gS:iM uR (uR.take 4) (bC BS):=BQ (by decide +kernel)
abbrev aKF:Stmt:=top 79
abbrev aKG:ZG:=["_law_script","_law_ship_here","_law_many","_law_cargo_here","_law_port","_law_loads","_law_n","_law_spots","_law_k","_law_others","_law_call","_law_due_here","_law_handed"]
abbrev aM5:Pos:=(CO (dX pQ)).getD ⟨0,0,0,0⟩
set_option genInjectivity false in
set_option genSizeOf false in
structure Txt(K:ZC)(mg:ZD) where
 x0:Fg K mg "greatest_divisor" qB qC 2
 x1:Fg K mg "fraction" KM KN 2
 x2:Fg K mg "room_lines" D1 D2 1
 x3:Fg K mg "cleared" P3 P4 4
 x4:Fg K mg "turned" VS VT 3
 x5:Fg K mg "place_below" pQ AB 1
 x6:Fg K mg "goes_ahead" D3 D4 4
 x7:Fg K mg "column_for" D5 D6 2
 x8:Fg K mg "parts_of" KO KP 3
 x9:Fg K mg "shares_of" GW GX 2
 x10:Fg K mg "told_none" GY GZ 3
 x11:Fg K mg "told_fill" G0 G1 3
 x12:Fd K "__init__" "Table.__init__" uM uO 3
 x13:Fd K "swap" "Table.swap" D7 D8 3
 x14:Fg K mg "least" aA4 aA5 2
 x15:Fg K mg "added" aA6 aA7 3
 x16:Fg K mg "weights" P5 P6 2
 x17:Fg K mg "row_of_high" AC AD 4
 x18:Fg K mg "row_of_low" D9 EA 4
 x19:Fg K mg "rows_of" P7 P8 2
 x20:Fg K mg "rooms_of" KQ KR 1
 x21:Fg K mg "ballast" P9 QA 2
 x22:Fg K mg "is_name" QB QC 1
 x23:Fg K mg "apart_by" KS KU 3
 x24:Fg K mg "check_box" G3 G5 2
 x25:Fg K mg "broken_in_stack" sL sM 3
 x26:Fg K mg "far_of" VU VV 3
 x27:Fg K mg "placed_boxes" yD yE 1
 x28:Fg K mg "broken_apart" yF yG 2
 x29:Fg K mg "broken" VW VX 2
 x30:Fg K mg "lifted_boxes" yH yI 2
 x31:Fg K mg "moves_in_stack" uP uQ 3
 x32:Fg K mg "moves_of" KW KY 2
 x33:Fg K mg "steps_of" KZ K0 2
 x34:Fg K mg "moved_at" K2 K3 2
 x35:Fg K mg "copied" VY VZ 1
 x36:Fg K mg "stepped" QD QE 3
 x37:Fg K mg "names_in" K4 K5 1
 x38:Fg K mg "check_loads" AE AF 3
 x39:Fg K mg "standing" K6 K7 2
 x40:Fg K mg "called" V0 V1 3
 x41:Fg K mg "_law_cell_at" G7 G8 2
 x42:Fg K mg "_law_draw" V2 V3 3
 x43:Fg K mg "_law_other" QF QG 3
 x44:Fg K mg "_law_third" QH QI 3
 x45:Fg K mg "_law_name" V4 V5 3
 x46:Fg K mg "_law_scale" QJ QK 1
 x47:Fg K mg "_law_stack" QL QM 2
 x48:Fg K mg "_law_tank" V6 V7 2
 x49:Fg K mg "_law_ship" V8 V9 1
 x50:Fg K mg "_law_box" aA8 aA9 2
 x51:Fg K mg "_law_cargo" QN QO 3
 x52:Fg K mg "_law_no_name" G9 HA 2
 x53:Fg K mg "_law_bent" WA WB 5
 x54:Fg K mg "_law_is_name" HB HC 1
 x55:Fg K mg "_law_due" aBA aBB 3
 x56:Fg K mg "_law_refused" vN nH 3
 x57:Fg K mg "_law_apart" BS uR 4
 x58:Fg K mg "law" aKF aKG 1
 c_Table:Addr
 n_Table:W.nsIn K mainGlobals "Table"=some (some (.ref c_Table))
 q_Table:mg "Table"=some (.ref c_Table)
 cl_Table:Q5 K c_Table
 x73:UQ K "Table" "free"
 x74:UQ K "Table" "goal"
 x75:UQ K "Table" "held"
 x76:UQ K "Table" "lines"
 x77:UQ K "Table" "scale"
 mk_Table:Mk K c_Table x12.f
 me_Table_swap:YQ K c_Table "swap" x13.f
 lamC:Addr
 lamP:Addr
 lamE:jK K=some (lamC,lamP,aM5)
 lamF:x5.fd.code=.ref lamC
 x59:mg "ValueError"=none
 x60:mg "abs"=none
 x61:mg "all"=none
 x62:mg "enumerate"=none
 x63:mg "isinstance"=none
 x64:mg "len"=none
 x65:mg "list"=none
 x66:mg "max"=none
 x67:mg "min"=none
 x68:mg "range"=none
 x69:mg "reversed"=none
 x70:mg "str"=none
 x71:mg "sum"=none
 x72:mg "zip"=none
 g_ABOVE:∃t,mg "ABOVE"=some (.int 3 t)
 g_ACROSS:∃t,mg "ACROSS"=some (.int 2 t)
 g_ALONG:∃t,mg "ALONG"=some (.int 1 t)
 g_LONGEST_NAME:∃t,mg "LONGEST_NAME"=some (.int 8 t)
 c_KeelError:Addr
 n_KeelError:W.nsIn K mainGlobals "KeelError"=some (some (.ref c_KeelError))
 q_KeelError:mg "KeelError"=some (.ref c_KeelError)
 c_NoBounds:Addr
 n_NoBounds:W.nsIn K mainGlobals "NoBounds"=some (some (.ref c_NoBounds))
 q_NoBounds:mg "NoBounds"=some (.ref c_NoBounds)
 c_NoDeed:Addr
 n_NoDeed:W.nsIn K mainGlobals "NoDeed"=some (some (.ref c_NoDeed))
 q_NoDeed:mg "NoDeed"=some (.ref c_NoDeed)
 c_NoLine:Addr
 n_NoLine:W.nsIn K mainGlobals "NoLine"=some (some (.ref c_NoLine))
 q_NoLine:mg "NoLine"=some (.ref c_NoLine)
 c_NoName:Addr
 n_NoName:W.nsIn K mainGlobals "NoName"=some (some 'x')
 q_NoName:mg "NoName"=some 'x'
 e_NoName:W.excIn K c_NoName [.type "ValueError",.type "Exception",.type "BaseException",.type "object"] "ValueError.__new__"=true
 x_NoName:DF K c_NoName
 c_NoNumber:Addr
 n_NoNumber:W.nsIn K mainGlobals "NoNumber"=some (some (.ref c_NoNumber))
 q_NoNumber:mg "NoNumber"=some (.ref c_NoNumber)
 e_NoNumber:W.excIn K c_NoNumber [.type "ValueError",.type "Exception",.type "BaseException",.type "object"] "ValueError.__new__"=true
 x_NoNumber:DF K c_NoNumber
 c_NoSize:Addr
 n_NoSize:W.nsIn K mainGlobals "NoSize"=some (some (.ref c_NoSize))
 q_NoSize:mg "NoSize"=some (.ref c_NoSize)
 c_NoStack:Addr
 n_NoStack:W.nsIn K mainGlobals "NoStack"=some (some 't')
 q_NoStack:mg "NoStack"=some 't'
 e_NoStack:W.excIn K c_NoStack [.type "ValueError",.type "Exception",.type "BaseException",.type "object"] "ValueError.__new__"=true
 x_NoStack:DF K c_NoStack
 c_NoWeight:Addr
 n_NoWeight:W.nsIn K mainGlobals "NoWeight"=some (some 'p')
 q_NoWeight:mg "NoWeight"=some 'p'
 e_NoWeight:W.excIn K c_NoWeight [.type "ValueError",.type "Exception",.type "BaseException",.type "object"] "ValueError.__new__"=true
 x_NoWeight:DF K c_NoWeight
 m_NoName_KeelError:W.exmOne K 'x' (.ref c_KeelError)=some true
 m_NoName_NoName:W.exmOne K 'x' 'x'=some true
 m_NoName_NoStack:W.exmOne K 'x' 't'=some false
 m_NoName_NoWeight:W.exmOne K 'x' 'p'=some false
 m_NoNumber_KeelError:W.exmOne K (.ref c_NoNumber) (.ref c_KeelError)=some true
 m_NoNumber_NoName:W.exmOne K (.ref c_NoNumber) 'x'=some false
 m_NoNumber_NoStack:W.exmOne K (.ref c_NoNumber) 't'=some false
 m_NoNumber_NoWeight:W.exmOne K (.ref c_NoNumber) 'p'=some false
 m_NoStack_KeelError:W.exmOne K 't' (.ref c_KeelError)=some true
 m_NoStack_NoName:W.exmOne K 't' 'x'=some false
 m_NoStack_NoStack:W.exmOne K 't' 't'=some true
 m_NoStack_NoWeight:W.exmOne K 't' 'p'=some false
 m_NoWeight_KeelError:W.exmOne K 'p' (.ref c_KeelError)=some true
 m_NoWeight_NoName:W.exmOne K 'p' 'x'=some false
 m_NoWeight_NoStack:W.exmOne K 'p' 't'=some false
 m_NoWeight_NoWeight:W.exmOne K 'p' 'p'=some true
 k_NoName_NoBounds:W.kitOne K 'x' (.ref c_NoBounds)=some false
 k_NoName_NoDeed:W.kitOne K 'x' (.ref c_NoDeed)=some false
 k_NoName_NoLine:W.kitOne K 'x' (.ref c_NoLine)=some false
 k_NoName_NoName:W.kitOne K 'x' 'x'=some true
 k_NoName_NoNumber:W.kitOne K 'x' (.ref c_NoNumber)=some false
 k_NoName_NoSize:W.kitOne K 'x' (.ref c_NoSize)=some false
 k_NoName_NoStack:W.kitOne K 'x' 't'=some false
 k_NoName_NoWeight:W.kitOne K 'x' 'p'=some false
 k_NoName_ValueError:W.kitOne K 'x' (.type "ValueError")=some true
 k_NoNumber_NoBounds:W.kitOne K (.ref c_NoNumber) (.ref c_NoBounds)=some false
 k_NoNumber_NoDeed:W.kitOne K (.ref c_NoNumber) (.ref c_NoDeed)=some false
 k_NoNumber_NoLine:W.kitOne K (.ref c_NoNumber) (.ref c_NoLine)=some false
 k_NoNumber_NoName:W.kitOne K (.ref c_NoNumber) 'x'=some false
 k_NoNumber_NoNumber:W.kitOne K (.ref c_NoNumber) (.ref c_NoNumber)=some true
 k_NoNumber_NoSize:W.kitOne K (.ref c_NoNumber) (.ref c_NoSize)=some false
 k_NoNumber_NoStack:W.kitOne K (.ref c_NoNumber) 't'=some false
 k_NoNumber_NoWeight:W.kitOne K (.ref c_NoNumber) 'p'=some false
 k_NoNumber_ValueError:W.kitOne K (.ref c_NoNumber) (.type "ValueError")=some true
 k_NoStack_NoBounds:W.kitOne K 't' (.ref c_NoBounds)=some false
 k_NoStack_NoDeed:W.kitOne K 't' (.ref c_NoDeed)=some false
 k_NoStack_NoLine:W.kitOne K 't' (.ref c_NoLine)=some false
 k_NoStack_NoName:W.kitOne K 't' 'x'=some false
 k_NoStack_NoNumber:W.kitOne K 't' (.ref c_NoNumber)=some false
 k_NoStack_NoSize:W.kitOne K 't' (.ref c_NoSize)=some false
 k_NoStack_NoStack:W.kitOne K 't' 't'=some true
 k_NoStack_NoWeight:W.kitOne K 't' 'p'=some false
 k_NoStack_ValueError:W.kitOne K 't' (.type "ValueError")=some true
 k_NoWeight_NoBounds:W.kitOne K 'p' (.ref c_NoBounds)=some false
 k_NoWeight_NoDeed:W.kitOne K 'p' (.ref c_NoDeed)=some false
 k_NoWeight_NoLine:W.kitOne K 'p' (.ref c_NoLine)=some false
 k_NoWeight_NoName:W.kitOne K 'p' 'x'=some false
 k_NoWeight_NoNumber:W.kitOne K 'p' (.ref c_NoNumber)=some false
 k_NoWeight_NoSize:W.kitOne K 'p' (.ref c_NoSize)=some false
 k_NoWeight_NoStack:W.kitOne K 'p' 't'=some false
 k_NoWeight_NoWeight:W.kitOne K 'p' 'p'=some true
 k_NoWeight_ValueError:W.kitOne K 'p' (.type "ValueError")=some true
abbrev Dq{x:Str}{st:Stmt}{N:ZG}{k:Nat}(p:∀{K mg},Txt K mg->Fg K mg x st N k)(lev:Nat)(ps ow:ZH)(rm:Nat):={b:M Fl // ∀{P:Program}{w:World}{K:ZC}{mg:ZD}{base:Heap}(T:Txt K mg)(_:qA K mg base),(p T).Ok P w mg base lev ps ow rm (aP ow.length ps rm b)}
open PySem.Spec PyProof.Rows in
def mq{x:Str}{st:Stmt}{N:ZG}{k lev rm:Nat}{p:∀{K mg},Txt K mg->Fg K mg x st N k}{ps ow:ZH}{b:M Fl}(h:∀{P:Program}{w:World}{K:ZC}{mg:ZD}{base:Heap}(T:Txt K mg)(_:qA K mg base){cdv:Value}{A:Around}{outer:List Env}{s:Shared}{H:Hp}{E:XK}{F0:Hp}{g0:ZP}{σ0:L2.St}{wf:∀a i q,g0 a=some (i,q)->i∈ps}(_:(p T).fd.code=cdv)(_:fC lev (A.deeper (envOfC x (bC st) s.heap.objs.size (p T).f cdv)))(_:N.Nodup),
  zT (pY (zY P w K) P w K mg base N x (bC st) (p T).f cdv A outer s H E) ⟨F0,H,g0,ps,σ0,ow,wf⟩ ow ow ow ow rm (dX st) b)(hs:ī N k (bC st)=true:=by decide +kernel)(hN:↥(ow.length=N.length)):(Dq p (lev+1) ps ow rm):=⟨b,λT B=>(p T).okN (λa c d=>h T B a c d) hs hN⟩
abbrev Dn(R:∀(_:Program)(_:World)(K:ZC)(mg:ZD)(_:Heap),Txt K mg->M Fl->Prop):={b:M Fl // ∀{P:Program}{w:World}{K:ZC}{mg:ZD}{base:Heap}(T:Txt K mg)(_:qA K mg base),R P w K mg base T b}
local macro_rules| `(no_index $x:ident)=>`(haveI h:($x).1=?p:=(by unfold $x;dsimp![mq,List.length_cons,List.length_nil,List.set_cons_zero,List.set_cons_succ,List.getD,List.getElem?_cons_zero,List.getElem?_cons_succ,Option.getD_some,List.replicate_succ,List.replicate_zero,List.cons_append,List.nil_append,Nat.reduceAdd];exact rfl);?p)
section
variable {P:Program}{w:World}{K:ZC}{mg:ZD}{base:Heap}
def i8:(Dq Txt.x0 1 [] [0,0,0] 0):=mq λT B=>λhcd hr nd=>(aA (FL PassesOwn.leaving (bJ aH (tW hr.units) A0 rx aJ (bB _)) (aA (aI 2 aH rx nd) (aA (aI 0 aH rx nd) (aD (aI 1 aH rx nd))))) (aD (aM rx)))
def qD:M Fl:=no_index i8
def i9:ZI->Res D:=aP 3 [] 0 qD
def qE:(Dq Txt.x1 2 [] [0,0,0] 0):=mq λT B=>λhcd hr nd=>(aA (bU (bJ aH (dD hr.units) fK rx aJ (bB _)) (aD (fZ aH PySem.F.excBase_ValueError rfl T.n_NoNumber T.q_NoNumber T.e_NoNumber rfl rv)) aY) (aA (aI 2 aH (aC (fn:=i9) T.x0 (i8.2 T B) hr (aK (fR aH qY C5 rfl T.x60 CK rv) (aK (fR aH qY C5 rfl T.x60 CK rv) bY))) nd) (aA (bU (bJ aH jJ jL rx aJ (bB _)) (aD (aI 2 aH (iB rx) nd)) aY) (aD (aM (cI (aF (C0 aH rx rx) (aF (C0 aH rx rx) bF))))))))
def qF:M Fl:=no_index qE
def lZ:ZI->Res D:=aP 3 [] 0 qF
def sN:(Dq Txt.x2 1 [] [0,0,0,0,0] 0):=mq λT B=>λhcd hr nd=>(aA (aI 1 aH (cT aH bF) nd) (aA (eJ 2 3 nd (gX rfl T.x62 rx) (aA (aI 4 aH (aFK aH (cE aH (iZ "other" (cN rx) (λC fp s H=>bZ) (λC fp s H=>aJ))) (cE aH (cT aH rv))) nd) (aA (xC 4 aH aJ rx) (cJ 4 (aD (bT (eE 1 aH rx))))))) (cJ 1 (aD (aM rx)))))
def l0:M Fl:=no_index sN
def sO:ZI->Res D:=aP 5 [] 0 l0
def uS:(Dq Txt.x3 1 [] [0,0,0,0,0,0,0] 0):=mq λT B=>λhcd hr nd=>(aA (aI 4 aH (iB rx) nd) (aA (aI 5 aH rx nd) (aA (lV 6 (xs:=[ "one" ,"other" ]) aH aH rfl nd (DJ rfl T.x72 rx rx) (λC fp s H=>(tO rfl (dZ (cW (i:=0) sK rfl (Or.inl rfl)) (dZ (cW (i:=1) sK rfl (Or.inl rfl)) n9)))) (rS (is:=[0,1]) aH (by intro i hi;simp![Ì,Ø,or_false]at hi;rcases hi with rfl|rfl<;>exact⟨⋯,dG rfl,⋯,rfl⟩) rfl) (λC fp s H=>bZ) (λC fp s H=>(C0 aH rx rx))) (aA (xC 6 aH rx rx) (cJ 6 (aD (aM rx)))))))
def uT:M Fl:=no_index uS
def uU:ZI->Res D:=aP 7 [] 0 uT
def HD:(Dq Txt.x4 1 [] [0,0,0,0] 0):=mq λT B=>λhcd hr nd=>(aA (c7 3 "one" nd (cN rx) (λC fp s H=>bZ) (λC fp s H=>(iB rx))) (aA (xC 3 aH (iB rx) rx) (cJ 3 (aD (aM rx)))))
def yJ:M Fl:=no_index HD
def HE:ZI->Res D:=aP 4 [] 0 yJ
def kF:(Dq Txt.x5 1 [] [0,0] 0):=mq λT B=>λhcd hr nd=>(aA (lV 1 (xs:=[ "place" ,"line" ]) aH aH rfl nd (gX rfl T.x62 (dM "Table" T.x76 rx)) (λC fp s H=>(tO rfl (dZ (cW (i:=0) kY rfl (Or.inl rfl)) (dZ (cW (i:=1) kY rfl (Or.inl rfl)) n9)))) (rS (is:=[0,1]) aH (by intro i hi;simp![Ì,Ø,or_false]at hi;rcases hi with rfl|rfl<;>exact⟨⋯,dG rfl,⋯,rfl⟩) rfl) (λC fp s H=>(v6 (bJ aH jJ jL (d8 aH rx (iB aJ)) aJ (bB _)))) (λC fp s H=>rx)) (aD (aM (nA 2 (λF H σ=>(PY 0 "Table" (hr.mono (î _)) rfl rfl T.x67 B T.lamE (hcd.symm.trans T.lamF) T.x75 rx ⟨by ac_nf0,rfl,rfl,rfl,rfl⟩ (λ_ _ _ _=>rfl) ⋯ ⋯ ⋯ ⋯))))))
def kG:M Fl:=no_index kF
def cB:ZI->Res D:=aP 2 [] 0 kG
def sQ:(Dq Txt.x6 1 [] [0,0,0,0,0,0] 0):=mq λT B=>λhcd hr nd=>(aA (aI 4 aH (iA aH (d8 aH (dM "Table" T.x74 rx) rx) (iB rx)) nd) (aA (aI 5 aH (iA aH (d8 aH (dM "Table" T.x74 rx) rx) (iB rx)) nd) (aD (aM (Β (j7 aH jJ jL rx rx (bB _)) (p8 (uC (j7 aH (dD hr.units) fK rx rx (bB _)) (p8 (j7 aH jJ jL (d8 aH (dM "Table" T.x73 rx) rx) (d8 aH (dM "Table" T.x73 rx) rx) (bB _))))))))))
def l5:M Fl:=no_index sQ
def sR:ZI->Res D:=aP 6 [] 0 l5
def sS:(Dq Txt.x7 2 [] [0,0,0,0] 0):=mq λT B=>λhcd hr nd=>(aA (aI 2 aH w8 nd) (aA (iP 3 nd (dJ rfl T.x68 (dL aH rfl T.x64 (dM "Table" T.x73 rx))) (aD (bU (oJ (aFE (bJ aH jJ jL rx aJ (bB _)) (ZQ (oJ (FJ (bJ aH (SE.or RN) Ζ rx w8 (bB _)) (xD (lO (aC (fn:=sR) T.x6 (sQ.2 T B) hr ra)))))))) (aD (aI 2 aH rx nd)) aY))) (aD (aM rx))))
def iS:M Fl:=no_index sS
def l6:ZI->Res D:=aP 4 [] 0 iS
def qG:(Dq Txt.x8 3 [] [0,0,0,0,0,0] 0):=mq λT B=>λhcd hr nd=>(aA (aI 3 aH (dL aH rfl T.x64 (dM "Table" T.x73 rx)) nd) (aA (aI 4 aH (bM aH rx 'w') nd) (aA (c7 5 "number" nd (dJ rfl T.x68 (bM aH rx (dL aH rfl T.x64 (dM "Table" T.x73 rx)))) (λC fp s H=>bZ) (λC fp s H=>(aC (fn:=lZ) T.x1 (qE.2 T B) hr (aK (NH hr.units rx rx aJ) (aK (dM "Table" T.x77 rx) bY))))) (aD (aM (cI (aF (cE aH (TN 5 aH (jM rx) (jM rx))) (aF (cE aH (TN 5 aH (jM rx) oK)) bF))))))))
def qH:M Fl:=no_index qG
def qI:ZI->Res D:=aP 6 [] 0 qH
def nI:(Dq Txt.x9 1 [] [0,0,0,0,0] 30):=mq λT B=>λhcd hr nd=>(aA (aI 2 aH (DX aH) nd) (aA (eJ 3 4 nd (DJ rfl T.x72 (dM "Table" T.x73 rx) (cE aH (m8 aH v4 C8 rx oK (jM (iB aJ))))) (aD (sH 2 hr.units rx rx))) (aD (aM (DP 2 aH)))))
def nJ:M Fl:=no_index nI
def nK:ZI->Res D:=aP 5 [] 30 nJ
def vO:(Dq Txt.x10 4 [] [0,0,0,0] 0):=mq λT B=>λhcd hr nd=>(aA (aI 3 aH (aC (fn:=nK) T.x9 (nI.2 T B) hr (aK rx (aK (d8 aH (dM "Table" T.x76 rx) rx) bY))) nd) (aA (sH 3 hr.units (dM "Table" T.x77 rx) (d8 aH (dM "Table" T.x75 rx) rx)) (cJ 3 (aD (aM (cI (aF bX (aF (aC (fn:=qI) T.x8 (qG.2 T B) hr ra) bF))))))))
def nL:M Fl:=no_index vO
def nM:ZI->Res D:=aP 4 [] 0 nL
def vP:(Dq Txt.x11 4 [] [0,0,0,0,0,0,0] 0):=mq λT B=>λhcd hr nd=>(aA (aI 3 aH (DX aH) nd) (aA (eJ 4 5 nd (DJ rfl T.x72 (dM "Table" T.x75 rx) (dM "Table" T.x76 rx)) (aD (sH 3 hr.units (d8 aH rx (iB aJ)) rx))) (cJ 3 (aA (c7 6 "number" nd (dJ rfl T.x68 'w') (λC fp s H=>bZ) (λC fp s H=>(aC (fn:=lZ) T.x1 (qE.2 T B) hr (aK (NH hr.units rx rx aJ) (aK (dM "Table" T.x77 rx) bY))))) (cJ 6 (aD (aM (cI (aF bX (aF rx (aF (aC (fn:=qI) T.x8 (qG.2 T B) hr (aK rx (aK rx (aK (cE aH (aC (fn:=nK) T.x9 (nI.2 T B) hr (aK rx (aK (dM "Table" T.x74 rx) bY)))) bY)))) bF)))))))))))
def nN:M Fl:=no_index vP
def nO:ZI->Res D:=aP 7 [] 0 nN
def kZ:(Dn λP w K mg base T b=>T.x12.Ok P w mg base 2 [0] [20,0,0] 0 (aP 3 [0] 0 b)):=⟨_,λT B=>T.x12.okN λhcd hr nd=>(aA (nF 0 "Table" aH T.x77 aJ) (aA (nF 0 "Table" aH T.x73 (U6 aH rfl rfl T.x65 rfl T.x68 'w')) (aA (nF 0 "Table" aH T.x75 (U7 aH rfl rfl T.x65 rfl T.x68 'w' (bM aH (bM aH 'w' 'w') 'w'))) (aA (nF 0 "Table" aH T.x76 (bM aH (cE aH (rQ (xs:=[ "row" ,"top" ]) aH aH rfl (cN rx) (λC fp s H=>(tO rfl (dZ (cW (i:=0) iI rfl (Or.inl rfl)) (dZ (cW (i:=1) iI rfl (Or.inl rfl)) n9)))) (rS (is:=[0,1]) aH (by intro i hi;simp![Ì,Ø,or_false]at hi;rcases hi with rfl|rfl<;>exact⟨⋯,dG rfl,⋯,rfl⟩) rfl) (λC fp s H=>bZ) (λC fp s H=>(bM aH (cE aH (tY aH lJ C6 rfl T.x65 rC rv)) (cE aH (cT aH rv)))))) (aC (fn:=sO) T.x2 (sN.2 T B) hr ra))) (aD (nF 0 "Table" aH T.x74 (bM aH (cE aH (iZ "room" (cN rx) (λC fp s H=>bZ) (λC fp s H=>aJ))) (cE aH (cT aH rv)))))))))⟩
def gT:M Fl:=no_index kZ
def k4:ZI->Res D:=aP 3 [0] 0 gT
def sT(T:Txt K mg)(B:qA K mg base):T.x12.Ok P w mg base 2 [0] [20,0,0] 0 k4:=kZ.2 T B
def sU:(Dn λP w K mg base T b=>T.x13.Ok P w mg base 2 [0] [20,0,0,0,0,0] 0 (aP 6 [0] 0 b)):=⟨_,λT B=>T.x13.okN λhcd hr nd=>(aA (aI 3 aH (d8 aH (oP 0 "Table" T.x76) rx) nd) (aA (c7 4 "line" nd (cN (oP 0 "Table" T.x76)) (λC fp s H=>bZ) (λC fp s H=>(aC (fn:=uU) T.x3 (uS.2 T B) hr (aK rx (aK rx (aK rx (aK (oP 1 "Table" T.x77) bY))))))) (aA (xC 4 aH (aC (fn:=HE) T.x4 (HD.2 T B) hr (aK rx (aK rx (aK (oP 0 "Table" T.x77) bY)))) rx) (aA (nF 0 "Table" aH T.x74 (aC (fn:=uU) T.x3 (uS.2 T B) hr (aK (oP 0 "Table" T.x74) (aK rx (aK rx (aK (oP 0 "Table" T.x77) bY)))))) (cJ 4 (aA (nF 0 "Table" aH T.x76 rx) (aA (nF 0 "Table" aH T.x77 (iB rx)) (aA (aI 5 aH (nA 6 (λF H σ=>(d8 aH (dM "Table" T.x75 rx) rx))) nd) (aA (BJ 0 6 "Table" aH T.x75 (nA 6 (λF H σ=>(d8 aH (dM "Table" T.x73 rx) rx))) (λF H σ=>rx)) (aD (BJ 0 6 "Table" aH T.x73 rx (λF H σ=>rx))))))))))))⟩
def l7:M Fl:=no_index sU
def l8:ZI->Res D:=aP 6 [0] 0 l7
def AG(T:Txt K mg)(B:qA K mg base):T.x13.Ok P w mg base 2 [0] [20,0,0,0,0,0] 0 l8:=sU.2 T B
def NP:(Dq Txt.x14 5 [] [0,0,0,0,0] 0):=mq λT B=>λhcd hr nd=>(aA (aI 2 aH (aAV 5 aH ⟨T.n_Table,T.cl_Table⟩ T.mk_Table (sT T B) (hr.mono ⋯) (by rfl) T.q_Table T.x12.b ra 20) nd) (aA (aI 3 aH (nA 5 (λF H σ=>(aC (fn:=cB) T.x5 (kF.2 T B) hr ra))) nd) (aA (FL PassesOwn.leaving (bJ aH (YZ.or YK) S0 rx w8 (bB _)) (aA (aI 4 aH (nA 5 (λF H σ=>(aC (fn:=l6) T.x7 (sS.2 T B) hr (aK rx (aK (d8 aH (dM "Table" T.x76 rx) rx) bY))))) nd) (aA (bU (bJ aH (SE.or RN) Ζ rx w8 (bB _)) (cJ 2 (aD (aM (aC (fn:=nM) T.x10 (vO.2 T B) hr ra)))) aY) (aA (bT (aAU 2 aH ⟨T.n_Table,T.cl_Table⟩ T.me_Table_swap (AG T B) (hr.mono ⋯) T.x13.b ra)) (aD (aI 3 aH (nA 5 (λF H σ=>(aC (fn:=cB) T.x5 (kF.2 T B) hr ra))) nd)))))) (cJ 2 (aD (aM (aC (fn:=nO) T.x11 (vP.2 T B) hr ra)))))))
def EC:M Fl:=no_index NP
def ED:ZI->Res D:=aP 5 [] 0 EC
def EE:(Dq Txt.x15 1 [] [0,0,0] 0):=mq λT B=>λhcd hr nd=>(aD (aM rx))
def EF:M Fl:=no_index EE
def wD:ZI->Res D:=aP 3 [] 0 EF
def BT:(Dq Txt.x16 2 [] [0,0,0,0,0,0,0,0,0] 0):=mq λT B=>λhcd hr nd=>(aA (aI 2 aH rx nd) (aA (aI 3 aH (aC (fn:=wD) T.x15 (EE.2 T B) hr (aK rx (aK rx (aK (m8 aH RZ S5 rx (jM aJ) oK) bY)))) nd) (aA (eJ 4 5 nd (DJ rfl T.x72 rx rx) (aD (eJ 6 7 nd (gX rfl T.x62 rx) (aA (aI 8 aH rx nd) (aD (aI 3 aH (aC (fn:=wD) T.x15 (EE.2 T B) hr ra) nd)))))) (aD (aM rx)))))
def uV:M Fl:=no_index BT
def BU:ZI->Res D:=aP 9 [] 0 uV
def gY:(Dq Txt.x17 1 [] [0,0,0,0] 0):=mq λT B=>λhcd hr nd=>(aD (aM (cI (aF (cE aH (iZ "tank" (cN rx) (λC fp s H=>bZ) (λC fp s H=>rx))) rv))))
def kH:M Fl:=no_index gY
def gZ:ZI->Res D:=aP 4 [] 0 kH
def l9:(Dq Txt.x18 1 [] [0,0,0,0] 0):=mq λT B=>λhcd hr nd=>(aD (aM (cI (aF (cE aH (iZ "tank" (cN rx) (λC fp s H=>bZ) (λC fp s H=>rx))) rv))))
def mB:M Fl:=no_index l9
def mC:ZI->Res D:=aP 4 [] 0 mB
def BV:(Dq Txt.x19 3 [] [0,0,0,0,0] 0):=mq λT B=>λhcd hr nd=>(aA (aI 2 aH rx nd) (aA (aI 3 aH rx nd) (aA (aI 4 aH (aC (fn:=BU) T.x16 (BT.2 T B) hr ra) nd) (aD (aM (cE aH (cT aH (aF (aC (fn:=gZ) T.x17 (gY.2 T B) hr (aK rx (aK (oM rfl T.g_ALONG) ra))) (aF (aC (fn:=mC) T.x18 (l9.2 T B) hr (aK rx (aK (oM rfl T.g_ALONG) ra))) (aF (aC (fn:=gZ) T.x17 (gY.2 T B) hr (aK rx (aK (oM rfl T.g_ACROSS) ra))) (aF (aC (fn:=mC) T.x18 (l9.2 T B) hr (aK rx (aK (oM rfl T.g_ACROSS) ra))) (aF (aC (fn:=gZ) T.x17 (gY.2 T B) hr (aK rx (aK (oM rfl T.g_ABOVE) ra))) (aF (cI (aF (cE aH (iZ "tank" (cN rx) (λC fp s H=>bZ) (λC fp s H=>aJ))) rv)) bF)))))))))))))
def uW:M Fl:=no_index BV
def uX:ZI->Res D:=aP 5 [] 0 uW
def yK:(Dq Txt.x20 1 [] [0] 0):=mq λT B=>λhcd hr nd=>(aD (aM (cE aH (iZ "tank" (cN rx) (λC fp s H=>bZ) (λC fp s H=>rx)))))
def qJ:M Fl:=no_index yK
def qK:ZI->Res D:=aP 1 [] 0 qJ
def BW:(Dq Txt.x21 6 [] [0,0] 0):=mq λT B=>λhcd hr nd=>(aD (aM (aC (fn:=ED) T.x14 (NP.2 T B) hr (aK (aC (fn:=uX) T.x19 (BV.2 T B) hr ra) (aK (aC (fn:=qK) T.x20 (yK.2 T B) hr ra) bY)))))
def uY:M Fl:=no_index BW
def BX:ZI->Res D:=aP 2 [] 0 uY
def k6:(Dq Txt.x22 1 [] [0] 0):=mq λT B=>λhcd hr nd=>(aA (bU (lQ (lO (aFR .str rfl rfl T.x63 rfl T.x70 aE9 rx))) (aD (aM wZ)) aY) (aD (aM (uC (xF aH RM SZ RM SZ aJ 'w' (oM rfl T.g_LONGEST_NAME)) (p8 (fR aH (FW rfl) aFW rfl T.x61 aE8 (aF (cE aH (iZ "sign" (S7 rx) (λC fp s H=>bZ) (λC fp s H=>(xF aH A5 S8 A5 S8 bX rx bX)))) bF)))))))
def oR:M Fl:=no_index k6
def fL:ZI->Res D:=aP 1 [] 0 oR
def yL:(Dq Txt.x23 1 [] [0,0,0,0,0] 0):=mq λT B=>λhcd hr nd=>(aA (aI 3 aH rx nd) (aA (aI 4 aH rx nd) (aD (aM (bM aH (fR aH qY C5 rfl T.x60 CK rv) (fR aH qY C5 rfl T.x60 CK rv))))))
def qL:M Fl:=no_index yL
def yM:ZI->Res D:=aP 5 [] 0 qL
def vQ:(Dq Txt.x24 2 [1] [0,30] 0):=mq λT B=>λhcd hr nd=>(aA (bU (lQ (lO (aC (fn:=fL) T.x22 (k6.2 T B) hr ra))) 'n' aY) (aA (bU (J7 2 (λF H σ=>(aHB hr.units rx rx))) 'n' aY) (aA (bU (bJ aH jJ jL rx aJ (bB _)) (aD (fZ aH PySem.F.excBase_ValueError rfl T.n_NoWeight T.q_NoWeight T.e_NoWeight rfl rv)) aY) (aA (bU (lQ (lO (aC (fn:=fL) T.x22 (k6.2 T B) hr ra))) 'n' aY) (aA (bU (lQ (lO (aC (fn:=fL) T.x22 (k6.2 T B) hr ra))) 'n' aY) (aD (bU (bJ aH jJ jL rx aJ (bB _)) (aD (fZ aH PySem.F.excBase_ValueError rfl T.n_NoWeight T.q_NoWeight T.e_NoWeight rfl rv)) aY)))))))
def jP:M Fl:=no_index vQ
def jQ:ZI->Res D:=aP 2 [1] 0 jP
def jR:(Dq Txt.x25 1 [] [0,0,0,0,0,0,0] 0):=mq λT B=>λhcd hr nd=>(aA (aI 3 aH (cT aH bF) nd) (aA (aI 4 aH (fR aH (DB rfl) aF0 rfl T.x71 aF5 (aF (cE aH (iZ "box" (cN rx) (λC fp s H=>bZ) (λC fp s H=>rx))) bF)) nd) (aA (bU (bJ aH E7 FS 'w' rx (bB _)) (aD (bT (eE 3 aH rx))) aY) (aA (bU (bJ aH E7 FS rx rx (bB _)) (aD (bT (eE 3 aH rx))) aY) (aA (eJ 5 6 nd (gX rfl T.x62 rx) (aA (aI 4 aH rx nd) (aD (bU (bJ aH E7 FS rx rx (bB _)) (aD (bT (eE 3 aH rx))) aY)))) (cJ 3 (aD (aM rx))))))))
def f9:M Fl:=no_index jR
def jS:ZI->Res D:=aP 7 [] 0 f9
def HF:(Dq Txt.x26 1 [] [0,0,0] 0):=mq λT B=>λhcd hr nd=>(aD (aM (aAK rfl rfl T.x66 (cE aH (iZ "row" (cN rx) (λC fp s H=>(v6 (bJ aH (aGQ hr.units) aGR (m8 aH RZ S5 rx oK (jM aJ)) rx (by with_unfolding_all rfl)))) (λC fp s H=>rx))) aJ)))
def yN:M Fl:=no_index HF
def HG:ZI->Res D:=aP 3 [] 0 yN
def nQ:(Dq Txt.x27 1 [] [0,0,0,0,0,0] 0):=mq λT B=>λhcd hr nd=>(aA (aI 1 aH (cT aH bF) nd) (aA (eJ 2 3 nd (gX rfl T.x62 rx) (aD (eJ 4 5 nd (gX rfl T.x62 rx) (aD (bT (eE 1 aH rx)))))) (cJ 1 (aD (aM rx)))))
def jA:M Fl:=no_index nQ
def nR:ZI->Res D:=aP 6 [] 0 jA
def nS:(Dq Txt.x28 2 [] [0,0,0,0,0,0,0] 0):=mq λT B=>λhcd hr nd=>(aA (aI 2 aH (cT aH bF) nd) (aA (aI 3 aH (aC (fn:=nR) T.x27 (nQ.2 T B) hr ra) nd) (aA (eJ 4 5 nd (gX rfl T.x62 rx) (aD (iP 6 nd (cN (cE aH (m8 aH v4 C8 rx (jM rx) oK))) (aD (bU (bJ aH E7 FS (aC (fn:=HG) T.x26 (HF.2 T B) hr ra) (aC (fn:=yM) T.x23 (yL.2 T B) hr ra) (bB _)) (aD (bT (eE 2 aH rx))) aY))))) (cJ 2 (aD (aM rx))))))
def jB:M Fl:=no_index nS
def nT:ZI->Res D:=aP 7 [] 0 jB
def HH:(Dq Txt.x29 3 [] [0,0,0,0,0] 0):=mq λT B=>λhcd hr nd=>(aA (aI 2 aH (cT aH bF) nd) (aA (eJ 3 4 nd (gX rfl T.x62 rx) (aD (bT (uB 2 aH PySem.F.slot_list_extend PySem.F.type_list_extend rT iY (aF (aC (fn:=jS) T.x25 (jR.2 T B) hr ra) bF))))) (aA (bT (uB 2 aH PySem.F.slot_list_extend PySem.F.type_list_extend rT iY (aF (aC (fn:=nT) T.x28 (nS.2 T B) hr ra) bF))) (cJ 2 (aD (aM rx))))))
def yO:M Fl:=no_index HH
def HI:ZI->Res D:=aP 5 [] 0 yO
def nU:(Dq Txt.x30 1 [] [0,0,0,0] 0):=mq λT B=>λhcd hr nd=>(aA (eJ 2 3 nd (gX rfl T.x62 rx) (aD (bU (bJ aH (dD hr.units) fK rx rx (bB _)) (aD (aM (cE aH (m8 aH v4 C8 rx (jM rx) oK)))) aY))) (aD (aM (cE aH (cT aH bF)))))
def jC:M Fl:=no_index nU
def nV:ZI->Res D:=aP 4 [] 0 jC
def k7:(Dq Txt.x31 2 [] [0,0,0,0,0] 0):=mq λT B=>λhcd hr nd=>(aA (aI 3 aH (aC (fn:=nV) T.x30 (nU.2 T B) hr ra) nd) (aA (c7 4 "box" nd (aGV rfl T.x69 rx) (λC fp s H=>bZ) (λC fp s H=>rx)) (aA (bT (uB 4 aH PySem.F.slot_list_extend PySem.F.type_list_extend rT iY (aF (cE aH (iZ "box" (cN rx) (λC fp s H=>(v6 (bJ aH (tW hr.units) A0 rx rx (bB _)))) (λC fp s H=>rx))) bF))) (cJ 4 (aD (aM rx))))))
def gU:M Fl:=no_index k7
def k8:ZI->Res D:=aP 5 [] 0 gU
def qM:(Dq Txt.x32 3 [] [0,0,0,0,0] 0):=mq λT B=>λhcd hr nd=>(aA (aI 2 aH (cT aH bF) nd) (aA (eJ 3 4 nd (gX rfl T.x62 rx) (aD (bT (uB 2 aH PySem.F.slot_list_extend PySem.F.type_list_extend rT iY (aF (aC (fn:=k8) T.x31 (k7.2 T B) hr ra) bF))))) (aA (bT (uB 2 aH PySem.F.slot_list_extend PySem.F.type_list_extend rT iY (aF (cE aH (rQ (xs:=[ "box" ,"s" ]) aH aH rfl (cN rx) (λC fp s H=>(tO rfl (dZ (cW (i:=0) pR rfl (Or.inl rfl)) (dZ (cW (i:=1) pR rfl (Or.inl rfl)) n9)))) (rS (is:=[0,1]) aH (by intro i hi;simp![Ì,Ø,or_false]at hi;rcases hi with rfl|rfl<;>exact⟨⋯,dG rfl,⋯,rfl⟩) rfl) (λC fp s H=>bZ) (λC fp s H=>rx))) bF))) (cJ 2 (aD (aM rx))))))
def qN:M Fl:=no_index qM
def qO:ZI->Res D:=aP 5 [] 0 qN
def yP:(Dq Txt.x33 4 [] [0,0] 0):=mq λT B=>λhcd hr nd=>(aD (aM (cE aH (rQ (xs:=[ "step" ,"box" ]) aH aH rfl (cN (aC (fn:=qO) T.x32 (qM.2 T B) hr ra)) (λC fp s H=>(tO rfl (dZ (cW (i:=0) pT rfl (Or.inl rfl)) (dZ (cW (i:=1) pT rfl (Or.inl rfl)) n9)))) (rS (is:=[0,1]) aH (by intro i hi;simp![Ì,Ø,or_false]at hi;rcases hi with rfl|rfl<;>exact⟨⋯,dG rfl,⋯,rfl⟩) rfl) (λC fp s H=>bZ) (λC fp s H=>rx)))))
def qP:M Fl:=no_index yP
def yQ:ZI->Res D:=aP 2 [] 0 qP
def yR:(Dq Txt.x34 5 [] [0,0] 0):=mq λT B=>λhcd hr nd=>(aD (aM (cE aH (iZ "step" (cN (aC (fn:=yQ) T.x33 (yP.2 T B) hr ra)) (λC fp s H=>(v6 (bJ aH (dD hr.units) fK rx bX (bB _)))) (λC fp s H=>rx)))))
def qQ:M Fl:=no_index yR
def yS:ZI->Res D:=aP 2 [] 0 qQ
def yT:(Dq Txt.x35 1 [] [0] 2):=mq λT B=>λhcd hr nd=>(aD (aM (PM (xs:=[ "boxes" ]) 2 aH aH rfl (cN rx) (λC fp s H=>(cW (i:=0) G6 rfl (Or.inl rfl))) (m7 aH ⋯ (dG rfl) ⋯ rfl) (λC fp s H F1 H1 σ1=>(tY aH lJ C6 rfl T.x65 rC rv)))))
def yU:M Fl:=no_index yT
def yV:ZI->Res D:=aP 1 [] 2 yU
def BY:(Dq Txt.x36 2 [] [0,0,0,0] 2):=mq λT B=>λhcd hr nd=>(aA (aI 3 aH (aC (fn:=yV) T.x35 (yT.2 T B) hr ra) nd) (aA (bU (bJ aH (dD hr.units) fK rx bX (bB _)) (aD (bT (UK 3 4 PySem.F.slot_list_pop PySem.F.type_list_pop aE7 aAN (λF H σ=>rx)))) (aD (bT (MZ 3 4 PySem.F.slot_list_append PySem.F.type_list_append tU p6 (λF H σ=>rx) (λF H σ=>rv))))) (aD (aM (DP 3 aH)))))
def k9:M Fl:=no_index BY
def oU:ZI->Res D:=aP 4 [] 2 k9
def yW:(Dq Txt.x37 1 [] [0,0,0,0] 30):=mq λT B=>λhcd hr nd=>(aA (aI 1 aH (DX aH) nd) (aA (iP 2 nd (cN rx) (aD (iP 3 nd (cN rx) (aD (sH 1 hr.units wZ rx))))) (aD (aM (DP 1 aH)))))
def qR:M Fl:=no_index yW
def yX:ZI->Res D:=aP 4 [] 30 qR
def pU:(Dq Txt.x38 3 [] [0,0,0,0,0,0] 0):=⟨_,λT B=>T.x38.okM [0,0,0,30,0,0] λhcd hr nd=>(aA (aI 3 aH (aC (fn:=yX) T.x37 (yW.2 T B) hr ra) nd) (aD (eJ 4 5 nd (cN rx) (aA (bU (lQ (S1 aH RM SZ jJ jL aJ rx 'w')) (aD (fZ aH PySem.F.excBase_ValueError rfl T.n_NoStack T.q_NoStack T.e_NoStack rfl rv)) aY) (aA (bT (aC (fn:=jQ) T.x24 (vQ.2 T B) hr (aK rx (aFF 3 bY)))) (aD (sH 3 hr.units wZ rx)))))))⟩
def pV:M Fl:=no_index pU
def fE:ZI->Res D:=aP 6 [] 0 pV
def yY:(Dq Txt.x39 7 [] [0,0,0] 0):=mq λT B=>λhcd hr nd=>(aA (aI 2 aH (aC (fn:=HI) T.x29 (HH.2 T B) hr ra) nd) (aA (bU (aHC rx) (aD (aM rx)) aY) (aD (aM (aC (fn:=BX) T.x21 (BW.2 T B) hr ra)))))
def qS:M Fl:=no_index yY
def yZ:ZI->Res D:=aP 3 [] 0 qS
def y0:(Dq Txt.x40 8 [] [0,0,0,0,0,0,0,0] 0):=mq λT B=>λhcd hr nd=>(aA (bU (lQ (lO (aC (fn:=fL) T.x22 (k6.2 T B) hr ra))) 'n' aY) (aA (bT (aC (fn:=fE) T.x38 (pU.2 T B) hr ra)) (aA (aI 3 aH (cE aH (aC (fn:=yV) T.x35 (yT.2 T B) hr ra)) nd) (aA (aI 4 aH (cT aH bF) nd) (aA (eJ 5 6 nd (cN (aC (fn:=qO) T.x32 (qM.2 T B) hr ra)) (aA (aI 3 aH (cE aH (aC (fn:=oU) T.x36 (BY.2 T B) hr ra)) nd) (aA (aI 7 aH (aC (fn:=yZ) T.x39 (yY.2 T B) hr ra) nd) (aA (bU (bJ aH (tW hr.units) A0 rx bX (bB _)) (aD (aM (cI (aF bX (aF (v5 4 rfl T.x64) rv))))) aY) (aD (bT (eE 4 aH rx))))))) (cJ 4 (aD (aM (cI (aF bX (aF rx (aF rx (aF (aC (fn:=yS) T.x34 (yR.2 T B) hr ra) bF)))))))))))))
def eS:M Fl:=no_index y0
def cY:ZI->Res D:=aP 8 [] 0 eS
def eU:(Dq Txt.x41 1 [] [0,0] 0):=mq λT B=>λhcd hr nd=>(aA (bU (bJ aH jJ jL rx 'w' (bB _)) (aD (aM rx)) aY) (aD (aM aJ)))
def nW:M Fl:=no_index eU
def eV:ZI->Res D:=aP 2 [] 0 nW
def cG:(Dq Txt.x42 2 [] [0,0,0] 0):=mq λT B=>λhcd hr nd=>(aD (aM (fX aH (fX aH (iA aH (bM aH (fX aH (aC (fn:=eV) T.x41 (eU.2 T B) hr ra) aJ) rx) aJ) aJ) rx)))
def y8:M Fl:=no_index cG
def cH:ZI->Res D:=aP 3 [] 0 y8
def bV:(Dq Txt.x43 2 [] [0,0,0] 0):=mq λT B=>λhcd hr nd=>(aD (aM (fX aH (fX aH (iA aH (bM aH (bM aH (fX aH (aC (fn:=eV) T.x41 (eU.2 T B) hr ra) aJ) rx) aJ) aJ) aJ) rx)))
def uZ:M Fl:=no_index bV
def bW:ZI->Res D:=aP 3 [] 0 uZ
def bR:(Dq Txt.x44 2 [] [0,0,0] 0):=mq λT B=>λhcd hr nd=>(aD (aM (fX aH (fX aH (iA aH (bM aH (bM aH (fX aH (aC (fn:=eV) T.x41 (eU.2 T B) hr ra) aJ) rx) aJ) aJ) aJ) rx)))
def u0:M Fl:=no_index bR
def bS:ZI->Res D:=aP 3 [] 0 u0
def gA:(Dq Txt.x45 3 [] [0,0,0,0,0,0,0,0] 0):=mq λT B=>λhcd hr nd=>(aA (aI 3 aH bX nd) (aA (aI 4 aH (bM aH aJ (aC (fn:=bS) T.x44 (bR.2 T B) hr ra)) nd) (aA (aI 5 aH (aC (fn:=bW) T.x43 (bV.2 T B) hr ra) nd) (aA (aI 6 aH (d8 aH rx (aC (fn:=cH) T.x42 (cG.2 T B) hr ra)) nd) (aA (aI 7 aH (d8 aH rx (fX aH (bM aH rx (aC (fn:=bW) T.x43 (bV.2 T B) hr ra)) aJ)) nd) (aD (aM (bM aH (bM aH (M4 aH rx rx) rx) (M4 aH rx rx)))))))))
def y9:M Fl:=no_index gA
def gB:ZI->Res D:=aP 8 [] 0 y9
def lB:(Dq Txt.x46 3 [] [0] 0):=mq λT B=>λhcd hr nd=>(aD (aM (d8 aH (cE aH (cT aH (aF aJ (aF aJ (aF aJ (aF (C2 aH aJ aJ) bF)))))) (aC (fn:=cH) T.x42 (cG.2 T B) hr ra))))
def u1:M Fl:=no_index lB
def lC:ZI->Res D:=aP 1 [] 0 u1
def BZ:(Dq Txt.x47 4 [] [0,0,0,0,0,0,0] 0):=mq λT B=>λhcd hr nd=>(aA (aI 2 aH (j9 aH (aC (fn:=cH) T.x42 (cG.2 T B) hr ra) aJ) nd) (aA (aI 3 aH (j9 aH (aC (fn:=bW) T.x43 (bV.2 T B) hr ra) aJ) nd) (aA (aI 4 aH (bM aH aJ (aC (fn:=bS) T.x44 (bR.2 T B) hr ra)) nd) (aA (aI 5 aH (iA aH (aC (fn:=lC) T.x46 (lB.2 T B) hr ra) (bM aH aJ (aC (fn:=bW) T.x43 (bV.2 T B) hr ra))) nd) (aA (aI 6 aH (aC (fn:=gB) T.x45 (gA.2 T B) hr ra) nd) (aD (aM (cI (aF rx (aF rx (aF rx (aF (aC (fn:=bS) T.x44 (bR.2 T B) hr ra) (aF (bM aH aJ (aC (fn:=cH) T.x42 (cG.2 T B) hr ra)) rv)))))))))))))
def u2:M Fl:=no_index BZ
def B0:ZI->Res D:=aP 7 [] 0 u2
def HJ:(Dq Txt.x48 4 [] [0,0,0,0,0] 0):=mq λT B=>λhcd hr nd=>(aA (aI 2 aH (j9 aH (aC (fn:=cH) T.x42 (cG.2 T B) hr ra) aJ) nd) (aA (aI 3 aH (j9 aH (aC (fn:=bW) T.x43 (bV.2 T B) hr ra) aJ) nd) (aA (aI 4 aH (iA aH (aC (fn:=lC) T.x46 (lB.2 T B) hr ra) (bM aH aJ (aC (fn:=cH) T.x42 (cG.2 T B) hr ra))) nd) (aD (aM (cI (aF (aC (fn:=gB) T.x45 (gA.2 T B) hr ra) (aF rx (aF rx (aF (j9 aH (aC (fn:=bS) T.x44 (bR.2 T B) hr ra) aJ) rv))))))))))
def zC:M Fl:=no_index HJ
def HK:ZI->Res D:=aP 5 [] 0 zC
def HL:(Dq Txt.x49 5 [] [0,0,0,0,0,0,0,0,0,0,0,0,0] 0):=mq λT B=>λhcd hr nd=>(aA (aI 1 aH (aC (fn:=lC) T.x46 (lB.2 T B) hr ra) nd) (aA (aI 2 aH (cI (aF (iA aH rx (bM aH aJ (aC (fn:=cH) T.x42 (cG.2 T B) hr ra))) (aF (j9 aH (aC (fn:=bW) T.x43 (bV.2 T B) hr ra) aJ) (aF (j9 aH (aC (fn:=bS) T.x44 (bR.2 T B) hr ra) aJ) rv)))) nd) (aA (aI 3 aH (bM aH aJ (aC (fn:=bS) T.x44 (bR.2 T B) hr ra)) nd) (aA (aI 4 aH (bM aH aJ (aC (fn:=bS) T.x44 (bR.2 T B) hr ra)) nd) (aA (aI 5 aH (iA aH rx (bM aH aJ (aC (fn:=bW) T.x43 (bV.2 T B) hr ra))) nd) (aA (aI 6 aH (cI (aF rx (aF rx (aF rx (aF (bM aH rx (aC (fn:=cH) T.x42 (cG.2 T B) hr ra)) (aF (bM aH aJ (aC (fn:=bS) T.x44 (bR.2 T B) hr ra)) rv)))))) nd) (aA (c7 7 "_law_s" nd (dJ rfl T.x68 (bM aH aJ (aC (fn:=cH) T.x42 (cG.2 T B) hr ra))) (λC fp s H=>bZ) (λC fp s H=>(aC (fn:=B0) T.x47 (BZ.2 T B) hr ra))) (aA (c7 8 "_law_k" nd (dJ rfl T.x68 (aC (fn:=bW) T.x43 (bV.2 T B) hr ra)) (λC fp s H=>bZ) (λC fp s H=>(aC (fn:=HK) T.x48 (HJ.2 T B) hr ra))) (aA (aI 9 aH (cT aH bF) nd) (aA (iP 10 nd (dJ rfl T.x68 (d8 aH (cE aH (cT aH rv)) (aC (fn:=bS) T.x44 (bR.2 T B) hr ra))) (aA (aI 11 aH (aC (fn:=gB) T.x45 (gA.2 T B) hr (aK rx (aK aJ (aK (aC (fn:=cH) T.x42 (cG.2 T B) hr ra) bY)))) nd) (aA (aI 12 aH (aC (fn:=gB) T.x45 (gA.2 T B) hr (aK rx (aK aJ (aK (aC (fn:=bW) T.x43 (bV.2 T B) hr ra) bY)))) nd) (aD (bT (eE 9 aH (cI (aF rx (aF rx (aF (bM aH aJ (aC (fn:=bS) T.x44 (bR.2 T B) hr ra)) bF)))))))))) (cJ 7 (cJ 8 (cJ 9 (aD (aM rx)))))))))))))))
def zD:M Fl:=no_index HL
def HM:ZI->Res D:=aP 13 [] 0 zD
def sV:(Dq Txt.x50 4 [] [0,0,0,0,0,0] 0):=mq λT B=>λhcd hr nd=>(aA (aI 2 aH (aC (fn:=lC) T.x46 (lB.2 T B) hr ra) nd) (aA (aI 3 aH (aC (fn:=gB) T.x45 (gA.2 T B) hr (aK rx (aK aJ (aK (aC (fn:=bW) T.x43 (bV.2 T B) hr ra) bY)))) nd) (aA (aI 4 aH (aC (fn:=gB) T.x45 (gA.2 T B) hr (aK rx (aK aJ (aK (d8 aH (cE aH (cT aH rv)) (aC (fn:=bS) T.x44 (bR.2 T B) hr ra)) bY)))) nd) (aA (aI 5 aH (iA aH rx (aC (fn:=bW) T.x43 (bV.2 T B) hr ra)) nd) (aA (bU (bJ aH E7 FS rx rx (bB _)) (aD (aI 5 aH rx nd)) aY) (aD (aM (cI (aF (aC (fn:=gB) T.x45 (gA.2 T B) hr ra) (aF (iA aH rx (bM aH aJ (aC (fn:=cH) T.x42 (cG.2 T B) hr ra))) rv))))))))))
def EG:M Fl:=no_index sV
def mD:ZI->Res D:=aP 6 [] 0 EG
def B1:(Dq Txt.x51 5 [] [0,0,0,0,0] 0):=mq λT B=>λhcd hr nd=>(aA (z7 3 (xs:=[ "_law_stack_here" ]) 6 aH aH rfl nd (cN rx) (λC fp s H=>(cW (i:=0) EB rfl (Or.inl rfl))) (m7 aH ⋯ (dG rfl) ⋯ rfl) (λC fp s H F1 H1 σ1=>(cT aH bF))) (aA (iP 4 nd (dJ rfl T.x68 rx) (aD (bT (MZ 3 5 PySem.F.slot_list_append PySem.F.type_list_append tU p6 (λF H σ=>(aC (fn:=bS) T.x44 (bR.2 T B) hr (aK rx (aK rx (aK 'w' bY))))) (λF H σ=>(aF (aC (fn:=mD) T.x50 (sV.2 T B) hr ra) bF)))))) (cJ 3 (aD (aM rx)))))
def u3:M Fl:=no_index B1
def u4:ZI->Res D:=aP 5 [] 0 u3
def g7:(Dq Txt.x52 3 [] [0,0,0] 0):=mq λT B=>λhcd hr nd=>(aA (aI 2 aH (cE aH (cT aH rv)) nd) (aD (aM (d8 aH rx (aC (fn:=cH) T.x42 (cG.2 T B) hr ra)))))
def nX:M Fl:=no_index g7
def g8:ZI->Res D:=aP 3 [] 0 nX
def HN:(Dq Txt.x53 4 [] [0,0,0,0,0,0,0,0,0,0,0] 0):=mq λT B=>λhcd hr nd=>(aA (aI 5 aH (aC (fn:=bW) T.x43 (bV.2 T B) hr ra) nd) (aA (aI 6 aH rx nd) (aA (bU (bJ aH (dD hr.units) fK rx aJ (bB _)) (aA (aI 7 aH (j9 aH (iB aJ) (fX aH (aC (fn:=eV) T.x41 (eU.2 T B) hr ra) (C2 aH aJ aJ))) nd) (aA (aI 8 aH (bM aH rx (fX aH (aC (fn:=eV) T.x41 (eU.2 T B) hr ra) (C2 aH aJ aJ))) nd) (aD (aM (cI (aF rx (aF (d8 aH (cE aH (cT aH (aF (iB aJ) rv))) (aC (fn:=bS) T.x44 (bR.2 T B) hr ra)) bF))))))) aY) (aA (bU (bJ aH (dD hr.units) fK rx aJ (bB _)) (aA (aI 9 aH (d8 aH rx (aC (fn:=bS) T.x44 (bR.2 T B) hr (aK rx (aK rx (aK 'w' bY))))) nd) (aD (aM rx))) aY) (aA (bU (bJ aH (dD hr.units) fK rx aJ (bB _)) (aD (aM (cI (aF (cI (aF (aC (fn:=g8) T.x52 (g7.2 T B) hr ra) rv)) rv)))) aY) (aA (aI 10 aH (d8 aH (cE aH (cT aH (aF aJ (aF (j9 aH aJ (fX aH (aC (fn:=eV) T.x41 (eU.2 T B) hr ra) (C2 aH aJ aJ))) bF)))) (aC (fn:=bS) T.x44 (bR.2 T B) hr ra)) nd) (aA (bU (bJ aH (dD hr.units) fK rx aJ (bB _)) (aD (aM rx)) aY) (aA (bU (bJ aH (dD hr.units) fK rx aJ (bB _)) (aD (aM (cI (aF (cI (aF rx (aF rx (aF (aC (fn:=g8) T.x52 (g7.2 T B) hr ra) rv)))) rv)))) aY) (aA (bU (bJ aH (dD hr.units) fK rx aJ (bB _)) (aD (aM (cI (aF (cI (aF rx (aF rx (aF rx (aF (aC (fn:=g8) T.x52 (g7.2 T B) hr ra) rv))))) rv)))) aY) (aD (aM rx)))))))))))
def zE:M Fl:=no_index HN
def HP:ZI->Res D:=aP 11 [] 0 zE
def jT:(Dq Txt.x54 1 [] [0,0] 0):=mq λT B=>λhcd hr nd=>(aA (iP 1 nd (S7 rx) (aD (bU (bJ aH CI O6 rx bX (by with_unfolding_all rfl)) (aD (aM wZ)) aY))) (aD (aM (xF aH jJ jL jJ jL aJ 'w' aJ))))
def nY:M Fl:=no_index jT
def jU:ZI->Res D:=aP 2 [] 0 nY
def NQ:(Dq Txt.x55 2 [] [0,0,0,0] 0):=mq λT B=>λhcd hr nd=>(aA (aI 3 aH rx nd) (aA (bU (oJ (FJ (bJ aH jJ jL rx aJ (bB _)) (xD (bJ aH aIQ aJA rx rx (bB _))))) (aD (aM bX)) aY) (aA (bU (oJ (FJ (lQ (lO (aC (fn:=jU) T.x54 (jT.2 T B) hr ra))) (xD (bJ aH OY aF1 rx rx (by with_unfolding_all rfl))))) (aD (aM bX)) aY) (aA (bU (bJ aH jJ jL rx aJ (bB _)) (aD (aM bX)) aY) (aA (bU (oJ (FJ (lQ (lO (aC (fn:=jU) T.x54 (jT.2 T B) hr ra))) (xD (lQ (lO (aC (fn:=jU) T.x54 (jT.2 T B) hr ra)))))) (aD (aM bX)) aY) (aA (bU (bJ aH jJ jL rx aJ (bB _)) (aD (aM bX)) aY) (aD (aM bX))))))))
def EH:M Fl:=no_index NQ
def NR:ZI->Res D:=aP 4 [] 0 EH
def g9:M Fl:=
  (cX (eQ 3 (dC (.str "")))
  (cX (J8
   (fS (dH cY [.val (bA 0),.val (bA 1),.val (bA 2)]))
   (λnm=>nB (vX [("NoName",true),("NoNumber",false),("NoStack",false),("NoWeight",false)] nm)
   (eQ 3 (dC (.str "name")))
   ((λnm=>nB (vX [("NoName",false),("NoNumber",false),("NoStack",true),("NoWeight",false)] nm)
   (eQ 3 (dC (.str "stack")))
   ((λnm=>nB (vX [("NoName",false),("NoNumber",false),("NoStack",false),("NoWeight",true)] nm)
   (eQ 3 (dC (.str "weight")))
   ((λ_=>xI) nm)) nm)) nm)))
  (tZ (bA 3))))
def jV:ZI->Res D:=aP 4 [] 0 g9
def sW(T:Txt K mg)(B:qA K mg base):T.x56.Ok P w mg base 9 [] [0,0,0,0] 0 jV:=T.x56.okD f8 λhcd hr=>(aA (aI 3 aH bX f8.nd)
  (aA (TR [] rfl rfl (λK E1 pn g F H σ=>
   (aD (bT (aC (fn:=cY) T.x40 (y0.2 T B) hr (aK (fQ 0) (aK (fQ 1) (aK (fQ 2) bY)))))))
   (DD rfl T.q_NoName (DG (l:=[("NoName",true),("NoNumber",false),("NoStack",false),("NoWeight",false)]) (by intro p hp;simp![Ì,Ø,or_false]at hp;rcases hp with rfl|rfl|rfl|rfl;exact⟨_,T.n_NoName,T.m_NoName_NoName⟩;exact⟨_,T.n_NoNumber,T.m_NoNumber_NoName⟩;exact⟨_,T.n_NoStack,T.m_NoStack_NoName⟩;exact⟨_,T.n_NoWeight,T.m_NoWeight_NoName⟩)) (λa=>
   (aD (aI 3 aH bX f8.nd))) (DD rfl T.q_NoStack (DG (l:=[("NoName",false),("NoNumber",false),("NoStack",true),("NoWeight",false)]) (by intro p hp;simp![Ì,Ø,or_false]at hp;rcases hp with rfl|rfl|rfl|rfl;exact⟨_,T.n_NoName,T.m_NoName_NoStack⟩;exact⟨_,T.n_NoNumber,T.m_NoNumber_NoStack⟩;exact⟨_,T.n_NoStack,T.m_NoStack_NoStack⟩;exact⟨_,T.n_NoWeight,T.m_NoWeight_NoStack⟩)) (λa=>
   (aD (aI 3 aH bX f8.nd))) (DD rfl T.q_NoWeight (DG (l:=[("NoName",false),("NoNumber",false),("NoStack",false),("NoWeight",true)]) (by intro p hp;simp![Ì,Ø,or_false]at hp;rcases hp with rfl|rfl|rfl|rfl;exact⟨_,T.n_NoName,T.m_NoName_NoWeight⟩;exact⟨_,T.n_NoNumber,T.m_NoNumber_NoWeight⟩;exact⟨_,T.n_NoStack,T.m_NoStack_NoWeight⟩;exact⟨_,T.n_NoWeight,T.m_NoWeight_NoWeight⟩)) (λa=>
   (aD (aI 3 aH bX f8.nd))) TQ))) (TW rfl) (J9 rfl))
  (aD (aM (fQ 3)))))
def u5:M Fl:=
  (cX (eQ 4 (dC (.bool false)))
  (cX (J8
   (fS (dH cY [.val (bA 0),.val (bA 1),.val (bA 2)]))
   (λnm=>oN (vX [("NoName",true),("NoNumber",true),("NoStack",true),("NoWeight",true)] nm) 5
   (cX (eQ 4 (iH (mQ [("NoName",true),("NoNumber",true),("NoStack",true),("NoWeight",true)] nm) (rP (mQ [("NoName",false),("NoNumber",true),("NoStack",false),("NoWeight",false)] nm))))
    (cX (eQ 4 (iH (bA 4) (iH (gJ IY (mQ [("NoName",true),("NoNumber",false),("NoStack",false),("NoWeight",false)] nm) (gJ IY (bA 3) (dC (.str "name")))) (gJ IY (mQ [("NoName",false),("NoNumber",false),("NoStack",true),("NoWeight",false)] nm) (gJ IY (bA 3) (dC (.str "stack")))))))
    (eQ 4 (iH (bA 4) (gJ IY (mQ [("NoName",false),("NoNumber",false),("NoStack",false),("NoWeight",true)] nm) (gJ IY (bA 3) (dC (.str "weight"))))))))
   ((λ_=>xI) nm)))
  (tZ (bA 4))))
def B2:ZI->Res D:=aP 6 [] 0 u5
def K8(T:Txt K mg)(B:qA K mg base):T.x57.Ok P w mg base 9 [] [0,0,0,0,0,0] 0 B2:=T.x57.okD gS λhcd hr=>(aA (aI 4 aH wZ gS.nd)
  (aA (TR [5] rfl rfl (λK E1 pn g F H σ=>
   (aD (bT (aC (fn:=cY) T.x40 (y0.2 T B) hr (aK (fQ 0) (aK (fQ 1) (aK (fQ 2) bY)))))))
   (aJE [5] rfl T.q_KeelError gS.nd rfl rfl (DG (l:=[("NoName",true),("NoNumber",true),("NoStack",true),("NoWeight",true)]) (by intro p hp;simp![Ì,Ø,or_false]at hp;rcases hp with rfl|rfl|rfl|rfl;exact⟨_,T.n_NoName,T.m_NoName_KeelError⟩;exact⟨_,T.n_NoNumber,T.m_NoNumber_KeelError⟩;exact⟨_,T.n_NoStack,T.m_NoStack_KeelError⟩;exact⟨_,T.n_NoWeight,T.m_NoWeight_KeelError⟩)) (λnm cls a oa g F H σ hn hoc hod hnc h0=>
   (aA (aI 4 aH (uC (v9 (l:=[("NoName",true),("NoNumber",true),("NoStack",true),("NoWeight",true)]) (by intro p hp;simp![Ì,Ø,or_false]at hp;rcases hp with rfl|rfl|rfl|rfl;exact⟨_,T.n_NoName,T.x_NoName,T.k_NoName_ValueError⟩;exact⟨_,T.n_NoNumber,T.x_NoNumber,T.k_NoNumber_ValueError⟩;exact⟨_,T.n_NoStack,T.x_NoStack,T.k_NoStack_ValueError⟩;exact⟨_,T.n_NoWeight,T.x_NoWeight,T.k_NoWeight_ValueError⟩) hn Ô hoc hod hnc (cV:=(.ty "ValueError")) (cv:=(.type "ValueError")) (λu r=>r) (i:=5) (List.contains_iff_mem.mp rfl) h0 rfl T.x63 (Ž rfl T.x59 zZ)) (p8 (aFN (Z6 (l:=[("NoName",false),("NoNumber",true),("NoStack",false),("NoWeight",false)]) (by intro p hp;simp![Ì,Ø,or_false]at hp;rcases hp with rfl|rfl|rfl|rfl;exact⟨_,T.n_NoName,T.x_NoName,gL T.k_NoName_NoBounds (gL T.k_NoName_NoDeed (gL T.k_NoName_NoLine (gL T.k_NoName_NoNumber (gL T.k_NoName_NoSize (rfl)))))⟩;exact⟨_,T.n_NoNumber,T.x_NoNumber,gL T.k_NoNumber_NoBounds (gL T.k_NoNumber_NoDeed (gL T.k_NoNumber_NoLine (aJF T.k_NoNumber_NoNumber)))⟩;exact⟨_,T.n_NoStack,T.x_NoStack,gL T.k_NoStack_NoBounds (gL T.k_NoStack_NoDeed (gL T.k_NoStack_NoLine (gL T.k_NoStack_NoNumber (gL T.k_NoStack_NoSize (rfl)))))⟩;exact⟨_,T.n_NoWeight,T.x_NoWeight,gL T.k_NoWeight_NoBounds (gL T.k_NoWeight_NoDeed (gL T.k_NoWeight_NoLine (gL T.k_NoWeight_NoNumber (gL T.k_NoWeight_NoSize (rfl)))))⟩) hn Ô hoc hod hnc (cVs:=[.ref T.c_NoBounds,.ref T.c_NoDeed,.ref T.c_NoLine,.ref T.c_NoNumber,.ref T.c_NoSize]) (cvs:=[.ref T.c_NoBounds,.ref T.c_NoDeed,.ref T.c_NoLine,.ref T.c_NoNumber,.ref T.c_NoSize]) (λus r=>A9 (as:=[T.c_NoBounds,T.c_NoDeed,T.c_NoLine,T.c_NoNumber,T.c_NoSize]) r) (i:=5) (List.contains_iff_mem.mp rfl) h0 rfl T.x63 (nD (nC rfl T.q_NoBounds) (nD (nC rfl T.q_NoDeed) (nD (nC rfl T.q_NoLine) (nD (nC rfl T.q_NoNumber) (nD (nC rfl T.q_NoSize) Z5))))))))) gS.nd)
    (aA (aI 4 aH (uC (fQ 4) (uC (j7 aH (dD hr.units) fK (v9 (l:=[("NoName",true),("NoNumber",false),("NoStack",false),("NoWeight",false)]) (by intro p hp;simp![Ì,Ø,or_false]at hp;rcases hp with rfl|rfl|rfl|rfl;exact⟨_,T.n_NoName,T.x_NoName,T.k_NoName_NoName⟩;exact⟨_,T.n_NoNumber,T.x_NoNumber,T.k_NoNumber_NoName⟩;exact⟨_,T.n_NoStack,T.x_NoStack,T.k_NoStack_NoName⟩;exact⟨_,T.n_NoWeight,T.x_NoWeight,T.k_NoWeight_NoName⟩) hn Ô hoc hod hnc (cV:=(.ref T.c_NoName)) (cv:=(.ref T.c_NoName)) (λu r=>r) (i:=5) (List.contains_iff_mem.mp rfl) h0 rfl T.x63 (nC rfl T.q_NoName)) (j7 aH (dD hr.units) fK (fQ 3) bX (bB _)) (bB _)) (p8 (j7 aH (dD hr.units) fK (v9 (l:=[("NoName",false),("NoNumber",false),("NoStack",true),("NoWeight",false)]) (by intro p hp;simp![Ì,Ø,or_false]at hp;rcases hp with rfl|rfl|rfl|rfl;exact⟨_,T.n_NoName,T.x_NoName,T.k_NoName_NoStack⟩;exact⟨_,T.n_NoNumber,T.x_NoNumber,T.k_NoNumber_NoStack⟩;exact⟨_,T.n_NoStack,T.x_NoStack,T.k_NoStack_NoStack⟩;exact⟨_,T.n_NoWeight,T.x_NoWeight,T.k_NoWeight_NoStack⟩) hn Ô hoc hod hnc (cV:=(.ref T.c_NoStack)) (cv:=(.ref T.c_NoStack)) (λu r=>r) (i:=5) (List.contains_iff_mem.mp rfl) h0 rfl T.x63 (nC rfl T.q_NoStack)) (j7 aH (dD hr.units) fK (fQ 3) bX (bB _)) (bB _))))) gS.nd)
    (aD (aI 4 aH (uC (fQ 4) (p8 (j7 aH (dD hr.units) fK (v9 (l:=[("NoName",false),("NoNumber",false),("NoStack",false),("NoWeight",true)]) (by intro p hp;simp![Ì,Ø,or_false]at hp;rcases hp with rfl|rfl|rfl|rfl;exact⟨_,T.n_NoName,T.x_NoName,T.k_NoName_NoWeight⟩;exact⟨_,T.n_NoNumber,T.x_NoNumber,T.k_NoNumber_NoWeight⟩;exact⟨_,T.n_NoStack,T.x_NoStack,T.k_NoStack_NoWeight⟩;exact⟨_,T.n_NoWeight,T.x_NoWeight,T.k_NoWeight_NoWeight⟩) hn Ô hoc hod hnc (cV:=(.ref T.c_NoWeight)) (cv:=(.ref T.c_NoWeight)) (λu r=>r) (i:=5) (List.contains_iff_mem.mp rfl) h0 rfl T.x63 (nC rfl T.q_NoWeight)) (j7 aH (dD hr.units) fK (fQ 3) bX (bB _)) (bB _)))) gS.nd))))) TQ (TW rfl) (J9 rfl) (dG rfl)) (TW rfl) (J9 rfl))
  (aD (aM (fQ 4)))))
def Ϝ:(Dq Txt.x58 10 [] [0,0,0,0,0,0,0,0,0,0,0,0,0] 0):=mq λT B=>λhcd hr nd=>(aA (aI 1 aH (aC (fn:=HM) T.x49 (HL.2 T B) hr ra) nd) (aA (aI 2 aH (bM aH aJ (aC (fn:=cH) T.x42 (cG.2 T B) hr ra)) nd) (aA (aI 3 aH (aC (fn:=u4) T.x51 (B1.2 T B) hr ra) nd) (aA (aI 4 aH (aC (fn:=gB) T.x45 (gA.2 T B) hr (aK rx (aK aJ (aK (aC (fn:=cH) T.x42 (cG.2 T B) hr ra) bY)))) nd) (aA (aI 5 aH (cT aH bF) nd) (aA (iP 6 nd (dJ rfl T.x68 (bM aH aJ (aC (fn:=bW) T.x43 (bV.2 T B) hr ra))) (aD (bT (eE 5 aH (cI (aF (aC (fn:=mD) T.x50 (sV.2 T B) hr ra) (aF (aC (fn:=bW) T.x43 (bV.2 T B) hr (aK rx (aK rx (aK 'w' bY)))) bF))))))) (aA (bU (J7 13 (λF H σ=>(bJ aH (tW hr.units) A0 (aC T.x56 (sW T B) hr ra) bX (bB _)))) (aD (aM wZ)) aY) (aA (aI 7 aH (cT aH (aF (aC (fn:=bS) T.x44 (bR.2 T B) hr (aK rx (aK aJ (aK (v5 5 rfl T.x64) bY)))) bF)) nd) (aA (bU (bJ aH (dD hr.units) fK (aC (fn:=cH) T.x42 (cG.2 T B) hr ra) aJ (bB _)) (aD (bT (eE 7 aH (aC (fn:=bW) T.x43 (bV.2 T B) hr (aK rx (aK aJ (aK (v5 5 rfl T.x64) bY))))))) aY) (aA (iP 8 nd (dJ rfl T.x68 (v5 7 rfl T.x64)) (aA (c7 9 "_law_n" nd (dJ rfl T.x68 (bM aH rx (CV 7 rx))) (λC fp s H=>bZ) (λC fp s H=>(d8 aH (aC (fn:=mD) T.x50 (sV.2 T B) hr ra) aJ))) (cJ 9 (aD (xC 5 aH (aC (fn:=HP) T.x53 (HN.2 T B) hr (aK rx (aK rx (aK (CV 5 (CV 7 rx)) (aK rx (aK 'w' bY)))))) (CV 7 rx)))))) (cJ 5 (aA (aI 10 aH rx nd) (aA (c7 9 "_law_n" nd (dJ rfl T.x68 (bM aH rx (nA 13 (λF H σ=>(fR aH (BR rfl) NO rfl T.x67 SC rv))))) (λC fp s H=>bZ) (λC fp s H=>(d8 aH (aC (fn:=mD) T.x50 (sV.2 T B) hr ra) aJ))) (cJ 9 (aA (aI 11 aH (aC (fn:=NR) T.x55 (NQ.2 T B) hr (aK (d8 aH rx (nA 13 (λF H σ=>(fR aH (BR rfl) NO rfl T.x67 SC rv)))) (aK rx (aK 'w' bY)))) nd) (aA (bU (bJ aH (dD hr.units) fK (aC (fn:=cH) T.x42 (cG.2 T B) hr ra) aJ (bB _)) (aA (aI 10 aH (cI (aF (aC (fn:=g8) T.x52 (g7.2 T B) hr ra) rv)) nd) (aD (aI 11 aH bX nd))) aY) (aA (c7 12 "_law_boxes" nd (cN rx) (λC fp s H=>bZ) (λC fp s H=>(cE aH (tY aH lJ C6 rfl T.x65 rC rv)))) (aA (bU (J7 13 (λF H σ=>(oJ (FJ (bJ aH (tW hr.units) A0 (aC T.x56 (sW T B) hr ra) rx (bB _)) (xD (bJ aH (tW hr.units) A0 rx rx (bB _))))))) (aD (aM wZ)) aY) (cJ 12 (aD (aM (Β (j7 aH (dD hr.units) fK rx bX (bB _)) (p8 (aC T.x57 (K8 T B) hr ra))))))))))))))))))))))))
def WC:M Fl:=no_index Ϝ
def HQ:ZI->Res D:=aP 13 [] 0 WC
def aHE(T:Txt K mg)(B:qA K mg base):T.x58.Ok P w mg base 10 [] [0,0,0,0,0,0,0,0,0,0,0,0,0] 0 HQ:=Ϝ.2 T B
end
end Toy
open L2 in
seal Q8 gJ C3 bA dC aZ cK dH O1 JW m5 cX eQ mJ d9 vW lT z6 xL JX SV SW FQ dB pK SJ FI rP SY iH Ő Ś fS tZ fD bO aV aP ě kB
open PySem L2
local macro_rules| `(tactic|dsimp? [$as,*])=>`(tactic|simp![aOD,aMQ,aMR,aMS,aJV,aMP,aMT,aMU,aMV,aJQ,aJR,aMK,aMM,aML,aMN,UE,aGO,aJT,aJU,aMO,aMJ,aJJ,aGB,k_set,k_fill,aGC,aGD,aJK,Ι,aGE,aGF,aGG,aGH,aGI,aGJ,aGK,aGL,aGM,aGN,aAD,aAE,dP,aU,bL,fU,Nat.reduceAdd,Nat.reduceLT,Nat.reduceLeDiff,↓reduceIte,$as,*])
local macro_rules| `(tactic|ac_nf)=>`(tactic|first|exact aI1 ∅ ∅|exact aI2 ∅ ∅)
namespace Sx
abbrev jW:=Nat->Int
def aS:Nat->(Nat->Int)->Int
 |0,_=>0
 |n+1,f=>aS n f+f n
def bE:∀{n:Nat}{f g:Nat->Int},(∀i,i<n->f i=g i)->aS n f=aS n g
 |0,_,_,_=>rfl
 |n+1,f,g,h=>by
  rw[aS,aS,bE (n:=n) λi hi=>h i 'i',h n (by exact ç _)]
def jD:∀{n:Nat}{f g:Nat->Int},aS n (λi=>f i+g i)=aS n f+aS n g
 |0,_,_=>rfl
 |n+1,f,g=>by
  rw[aS,aS,aS,jD];lia
def eC:∀{n:Nat}{a:Int}{f:Nat->Int},aS n (λi=>a*f i)=a*aS n f
 |0,a,_=>by simp[aS]
 |n+1,a,f=>by
  rw[aS,aS,eC,Int.mul_add]
def fM:∀{n:Nat}{f:Nat->Int},(∀i,i<n->f i=0)->aS n f=0
 |0,_,_=>rfl
 |n+1,f,h=>by
  rw[aS,fM (n:=n) λi hi=>h i 'i',h n (by exact ç _)];rfl
def cP :∀{n:Nat}{f:Nat->Int},k<n->(∀i,i<n->i≠k->f i=0)->aS n f=f k
 |0,_,hk,_=>by grind
 |n+1,f,hk,h=>by
  rw[aS];by_cases e:k=n
  .subst e
   rw[fM λi hi=>h i 'i' (by exact Ê ‹_›)];lia
  .rw[cP (n:=n) ∅ λi hi hne=>h i 'i' hne,h n (by exact ç _) (λz=>e z.symm)]
   lia
def zF(hkl:k≠l):∀{n:Nat}{f:Nat->Int},k<n->l<n->(∀i,i<n->i≠k->i≠l->f i=0)->aS n f=f k+f l
 |0,_,hk,_,_=>by grind
 |n+1,f,hk,hl,h=>by
  rw[aS];by_cases e:k=n
  .subst e
   rw[cP (k:=l) ∅ λi hi hne=>h i 'i' (by exact Ê ‹_›) hne];lia
  .by_cases e2:l=n
   .subst e2
    rw[cP (k:=k) ∅ λi hi hne=>h i 'i' hne (by exact Ê ‹_›)]
   .rw[zF hkl (n:=n) ∅ ∅ λi hi h1 h2=>h i 'i' h1 h2,h n (by exact ç _) (λz=>e z.symm) (λz=>e2 z.symm)]
    lia
def B3:∀{n m:Nat}{f:Nat->Nat->Int},aS n (λi=>aS m (f i))=aS m (λj=>aS n (λi=>f i j))
 |0,m,f=>(fM λ_ _=>rfl).symm
 |n+1,m,f=>by
  rw[aS,B3 (n:=n),<- jD];rfl
def ą(i:Nat):Int:=if i % 2=0 then 1 else -1
def WD(i:Nat):ą (i+1)=-ą i:=by
 unfold ą
 grind
def skip(i r:Nat):Nat:=if r<i then r else r+1
def fB(M:Nat->jW)(i:Nat):Nat->jW:=λr c=>M (skip i r) (c+1)
def c6:Nat->(Nat->jW)->Int
 |0,_=>1
 |n+1,M=>aS (n+1) λi=>ą i*M i 0*c6 n (fB M i)
def lD:∀{n:Nat}{M M':Nat->jW},(∀r c,r<n->c<n->M r c=M' r c)->c6 n M=c6 n M'
 |0,_,_,_=>rfl
 |n+1,M,M',h=>by
  rw[c6,c6];refine bE λi hi=>?_;rw[h i 0 hi (by exact ý _),lD (n:=n) (M:=fB M i) (M':=fB M' i) λr c hr hc=>?_];unfold fB;refine h _ _ ?_ 'i';unfold skip;split<;>lia
def aX(M:Nat->jW)(k:Nat)(w:jW):Nat->jW:=λr=>if r=k then w else M r
def aN{M:Nat->jW}:aX M k w k=w:=Á rfl
def aG{M:Nat->jW}(h:r≠k):aX M k w r=M r:=Â h
def B8{M:Nat->jW}:aX (aX M k u) k w=aX M k w:=by
 funext r;unfold aX;split<;>rfl
def eD{M:Nat->jW}(h:k≠l):aX (aX M k u) l w=aX (aX M l w) k u:=by
 funext r;unfold aX
 grind
def hG{M:Nat->jW}:aX M k (M k)=M:=by
 funext r;unfold aX
 grind
def WE(i k:Nat):Nat:=if k<i then k else k-1
def mE{M:Nat->jW}(h:i≠k):fB (aX M k w) i=aX (fB M i) (WE i k) (λc=>w (c+1)):=by
 funext r c;unfold fB aX skip WE;by_cases h1:r<i
 .rw[Á h1]
  by_cases h2:k<i
  .rw[Á h2]
   by_cases h3:r=k
   all_goals simp_all
  .rw[Â h2,Â ∅,Â ∅]
   simp![h1,if_true]
 .rw[Â h1]
  by_cases h2:k<i
  .rw[Á h2,Â ∅,Â ∅]
   simp![h1,if_false]
  .rw[Â h2]
   by_cases h3:r+1=k
   .rw[Á h3,Á ∅]
   .rw[Â h3,Â ∅]
    simp![h1,if_false]
def mF{M:Nat->jW}:fB (aX M k w) k=fB M k:=by
 funext r c;unfold fB aX skip
 grind
def sX:∀{n:Nat}{M:Nat->jW}{k:Nat}{u v:jW}{a b:Int},k<n->c6 n (aX M k λc=>a*u c+b*v c)=a*c6 n (aX M k u)+b*c6 n (aX M k v)
 |0,_,_,_,_,_,_,h=>by grind
 |n+1,M,k,u,v,a,b,h=>by
  rw[c6,c6,c6,<- eC,<- eC,<- jD];refine bE λi hi=>?_;by_cases e:i=k
  .subst e
   rw[aN,aN,aN,mF,mF,mF]
   grind
  .rw[aG e,aG e,aG e,mE e,mE e,mE e]
   have hd:WE i k<n:=by unfold WE;split<;>lia
   have:=sX (n:=n) (M:=fB M i) (k:=WE i k) (u:=λc=>u (c+1)) (v:=λc=>v (c+1)) (a:=a) (b:=b) hd;rw[this]
   grind
def wE:∀{n:Nat}{M:Nat->jW}{k:Nat},k+1<n->(∀c,M k c=M (k+1) c)->c6 n M=0
 |0,_,_,h,_=>by grind
 |n+1,M,k,h,he=>by
  rw[c6,zF (k:=k) (l:=k+1) ∅ 'a' 'q' λi hi h1 h2=>?_]
  .have em:fB M k=fB M (k+1):=by
    funext r c;unfold fB skip;by_cases h1:r<k
    .grind
    .grind
   rw[em,he 0,WD]
   grind
  .have hz:c6 n (fB M i)=0:=by
    by_cases hk:k+1<i
    .refine wE (n:=n) (k:=k) ∅ λc=>?_
     unfold fB skip
     grind
    .refine wE (n:=n) (k:=k-1) ∅ λc=>?_
     unfold fB skip
     grind
   rw[hz];lia
def oV{M:Nat->jW}(h:k<n):c6 n (aX M k λc=>u c+v c)=c6 n (aX M k u)+c6 n (aX M k v):=by
 have:=sX (M:=M) (u:=u) (v:=v) (a:=1) (b:=1) h
 grind
def QP{M:Nat->jW}(h:k+1<n)(u v:jW):c6 n (aX (aX M k u) (k+1) v)=-c6 n (aX (aX M k v) (k+1) u):=by
 have z:∀w,c6 n (aX (aX M k w) (k+1) w)=0:=λw=>wE h λc=>by rw[aG ∅,aN,aN]
 have h1:=z λc=>u c+v c;rw[oV h,eD ∅,oV 'a',eD (u:=λc=>u c+v c) ∅,oV 'a']at h1;have zu:=z u;have zv:=z v;rw[eD ∅]at zu zv;have e1:c6 n (aX (aX M k u) (k+1) v)=c6 n (aX (aX M (k+1) v) k u):=by rw[eD ∅]
 have e2:c6 n (aX (aX M k v) (k+1) u)=c6 n (aX (aX M (k+1) u) k v):=by rw[eD ∅]
 rw[e1,e2];lia
def K9:∀(d:Nat){n:Nat}{M:Nat->jW}{i j:Nat},j=i+d+1->j<n->(∀c,M i c=M j c)->c6 n M=0
 |0,n,M,i,j,e,h,he=>by
  subst e;exact wE (k:=i) 'q' he
 |d+1,n,M,i,j,e,h,he=>by
  -- Æ j-1 and j change places
  have hj:j-1+1=j:=by lia
  have e1:M=aX (aX M (j-1) (M (j-1))) (j-1+1) (M j):=by
   rw[hG,hj,hG]
  rw[e1,QP ∅];have:=K9 d (n:=n) (M:=aX (aX M (j-1) (M j)) (j-1+1) (M (j-1))) (i:=i) (j:=j-1) ∅ ∅ λc=>by
   rw[aG ∅,aG ∅,aG ∅,aN];exact he c
  rw[this];rfl
def wF{n:Nat}{M:Nat->jW}{i j:Nat}(hi:i<n)(hj:j<n)(hne:i≠j)(he:∀c,M i c=M j c):c6 n M=0:=by
 by_cases h:i<j
 .exact K9 (j-i-1) ∅ hj he
 .exact K9 (i-j-1) (i:=j) (j:=i) ∅ hi λc=>(he c).symm
def HR{M:Nat->jW}(hi:i<n)(hj:j<n)(hne:i≠j)(u v:jW):c6 n (aX (aX M i u) j v)=-c6 n (aX (aX M i v) j u):=by
 have z:∀w,c6 n (aX (aX M i w) j w)=0:=λw=>wF hi hj hne λc=>by rw[aG hne,aN,aN]
 have h1:=z λc=>u c+v c;rw[oV hj,eD hne,oV hi,eD (u:=λc=>u c+v c) hne,oV hi]at h1;have zu:=z u;have zv:=z v;rw[eD hne]at zu zv;have e1:c6 n (aX (aX M i u) j v)=c6 n (aX (aX M j v) i u):=by rw[eD hne]
 have e2:c6 n (aX (aX M i v) j u)=c6 n (aX (aX M j u) i v):=by rw[eD hne]
 rw[e1,e2];lia
def HS{M:Nat->jW}(h:k<n):c6 n (aX M k λ_=>0)=0:=by
 have:=sX (M:=M) (k:=k) (u:=λ_=>0) (v:=λ_=>0) (a:=0) (b:=0) h;simpa using this
def aBD{M:Nat->jW}(h:k<n):c6 n (aX M k λc=>a*u c)=a*c6 n (aX M k u):=by
 have:=sX (M:=M) (k:=k) (u:=u) (v:=λ_=>0) (a:=a) (b:=0) h
 grind
def wG{M:Nat->jW}(h:k<n):∀{m:Nat}{w:Nat->Int}{f:Nat->jW},c6 n (aX M k λc=>aS m λl=>w l*f l c)=aS m λl=>w l*c6 n (aX M k (f l))
 |0,w,f=>HS h
 |m+1,w,f=>by
  have:=sX (M:=M) (k:=k) (u:=λc=>aS m λl=>w l*f l c) (v:=f m) (a:=1) (b:=w m) h;simp![Int.one_mul]at this;rw[aS,<- wG h];exact this
def aKH(hc:c<n)(hj:j<n)(hne:c≠j)(cr:∀x,x<n->c6 n f*h x=aS n λl=>c6 n (aX f l h)*f l x):
  c6 n f*c6 n (aX (aX f c h) j u)=c6 n (aX f c h)*c6 n (aX f j u)-c6 n (aX f j h)*c6 n (aX f c u):=by
 have e1:c6 n f*c6 n (aX (aX f c h) j u)=c6 n (aX (aX f j u) c λx=>c6 n f*h x):=by
  rw[aBD hc,eD hne]
 have e2:c6 n (aX (aX f j u) c λx=>c6 n f*h x)=c6 n (aX (aX f j u) c λx=>aS n λl=>c6 n (aX f l h)*f l x):=by
  refine lD λr x hr hx=>?_;by_cases hrc:r=c
  .subst hrc
   rw[aN,aN];exact cr x hx
  .rw[aG hrc,aG hrc]
 rw[e1,e2,wG hc,zF hne hc hj λl hl h1 h2=>?_]
 .have a1:aX (aX f j u) c (f c)=aX f j u:=by
   rw[eD (Í hne),hG]
  have a2:c6 n (aX (aX f j u) c (f j))=-c6 n (aX f c u):=by
   rw[HR hj hc (Í hne),hG]
  rw[a1,a2]
  grind
 .have:c6 n (aX (aX f j u) c (f l))=0:=wF hc hl (λz=>h1 z.symm) λx=>by rw[aN,aG h1,aG h2]
  rw[this];lia
end Sx
namespace Sx
structure Tab where
 s:Int
 f:Nat->Nat
 h:Nat->Nat
 L:Nat->Nat->Int
structure Pr where
 n:Nat
 k:Nat
 N:Nat
 a:Nat->jW
 c:Nat->Int
def Tab.F(P:Pr)(T:Tab):Nat->jW:=λj=>P.a (T.f j)
structure Inv(P:Pr)(σ:Int)(T:Tab):Prop where
 sg:σ*σ=1
 pos:0<T.s
 sd:T.s=σ*c6 P.n (T.F P)
 ld:∀r,r<=P.k->∀j,j<P.n->T.L r j=-σ*c6 P.n (aX (T.F P) j (P.a (T.h r)))
 lc:∀r,r<=P.k->T.L r P.n=T.s*P.c (T.h r)+aS P.n λj=>T.L r j*P.c (T.f j)
 cr:∀r,r<=P.k->∀x,x<P.n->T.s*P.a (T.h r) x+(aS P.n λj=>T.L r j*P.a (T.f j) x)=0
 fi:∀i j,i<P.n->j<P.n->T.f i=T.f j->i=j
 hi:∀r q,r<=P.k->q<=P.k->T.h r=T.h q->r=q
 fh:∀j r,j<P.n->r<=P.k->T.f j≠T.h r
 hk:T.h P.k=P.N
 all:∀u,u<P.N->(∃j,j<P.n/\T.f j=u)\/∃r,r<P.k/\T.h r=u
 fN:∀j,j<P.n->T.f j<P.N
 hN:∀r,r<P.k->T.h r<P.N
 dual:∀j,j<P.n->0<=T.L P.k j
def swap(T:Tab)(p d:Nat):Tab where
 s:=-T.L p d
 f:=λj=>if j=d then T.h p else T.f j
 h:=λr=>if r=p then T.f d else T.h r
 L:=λr j=>if r=p then (if j=d then -T.s else -T.L p j)else (if j=d then T.L r d else (-T.L p d*T.L r j+T.L r d*T.L p j)/T.s)
section
def WF:(swap T p d).F P=aX (T.F P) d (P.a (T.h p)):=by
 funext j;unfold Tab.F swap aX;dsimp only;split<;>rfl
def NS{n:Nat}{w:Nat->Int}{wu wh s:Int}{wf l p l':Nat->Int}{d:Nat}(hd:d<n)(hs:∀j,j<n->j≠d->s*l' j=-p d*l j+l d*p j)(hl:l' d=l d):
  s*(-p d*wu+aS n λj=>l' j*(if j=d then wh else wf j))=-p d*(s*wu+aS n λj=>l j*wf j)+l d*(s*wh+aS n λj=>p j*wf j):=by
 have e1:s*(aS n λj=>l' j*(if j=d then wh else wf j))=aS n λj=>(-p d*(l j*wf j)+l d*(p j*wf j))+(if j=d then s*l d*wh else 0):=by
  rw[<- eC];refine bE λj hj=>?_;by_cases e:j=d
  .grind
  .grind
 have e2:(aS n λj=>if j=d then s*l d*wh else 0)=s*l d*wh:=by
  rw[cP (k:=d) hd λi _ hne=>Â hne,Á rfl]
 rw[jD,jD,eC,eC,e2]at e1
 grind
def HU{n:Nat}{wh s:Int}{wf p:Nat->Int}{d:Nat}(hd:d<n):
  -p d*wf d+(aS n λj=>(if j=d then -s else -p j)*(if j=d then wh else wf j))=-(s*wh+aS n λj=>p j*wf j):=by
 have e1:(aS n λj=>(if j=d then -s else -p j)*(if j=d then wh else wf j))=aS n λj=>(-1)*(p j*wf j)+(if j=d then p d*wf d-s*wh else 0):=by
  refine bE λj hj=>?_;by_cases e:j=d
  .grind
  .grind
 have e2:(aS n λj=>if j=d then p d*wf d-s*wh else 0)=p d*wf d-s*wh:=by
  rw[cP (k:=d) hd λi _ hne=>Â hne,Á rfl]
 rw[e1,jD,eC,e2]
 grind
def Inv.det_s(I:Inv P σ T):c6 P.n (T.F P)=σ*T.s:=by
 rw[I.sd,<- Int.mul_assoc,I.sg,Int.one_mul]
def Inv.det_l(I:Inv P σ T)(hr:r<=P.k)(hj:j<P.n):c6 P.n (aX (T.F P) j (P.a (T.h r)))=-σ*T.L r j:=by
 rw[I.ld r hr j hj,<- Int.mul_assoc];have:-σ*-σ=1:=by have:=I.sg;grind
 rw[this,Int.one_mul]
def Inv.cramer(I:Inv P σ T)(hr:r<=P.k)(x:Nat)(hx:x<P.n):c6 P.n (T.F P)*P.a (T.h r) x=aS P.n λl=>c6 P.n (aX (T.F P) l (P.a (T.h r)))*T.F P l x:=by
 have e:(aS P.n λl=>c6 P.n (aX (T.F P) l (P.a (T.h r)))*T.F P l x)=aS P.n λl=>-σ*(T.L r l*P.a (T.f l) x):=bE λl hl=>by
  rw[I.det_l hr hl,Int.mul_assoc];rfl
 rw[e,eC,I.det_s];have:=I.cr r hr x hx
 grind
def Inv.exact(I:Inv P σ T) (hp:p<P.k) (hd:d<P.n) (hr:r<=P.k) (hj:j<P.n) (hne:j≠d):
  T.s*(-σ*c6 P.n (aX (aX (T.F P) d (P.a (T.h p))) j (P.a (T.h r))))=-T.L p d*T.L r j+T.L r d*T.L p j:=by
 have pl:=aKH (u:=P.a (T.h r)) hd hj (Í hne) (I.cramer (r:=p) 'a');rw[I.det_s,I.det_l 'a' hd,I.det_l hr hj,I.det_l 'a' hj,I.det_l hr hd]at pl;have sg:=I.sg
 grind
def Inv.quot(I:Inv P σ T)(hp:p<P.k)(hd:d<P.n)(hr:r<=P.k)(hrp:r≠p)(hj:j<P.n)(hne:j≠d):
  T.s*(swap T p d).L r j=-T.L p d*T.L r j+T.L r d*T.L p j/\(swap T p d).L r j=-σ*c6 P.n (aX (aX (T.F P) d (P.a (T.h p))) j (P.a (T.h r))):=by
 have e:=I.exact hp hd hr hj hne;have q:(swap T p d).L r j=-σ*c6 P.n (aX (aX (T.F P) d (P.a (T.h p))) j (P.a (T.h r))):=by
  show (if r=p then (if j=d then -T.s else -T.L p j)else (if j=d then T.L r d else (-T.L p d*T.L r j+T.L r d*T.L p j)/T.s))=_;rw[Â hrp,Â hne,<- e,Int.mul_ediv_cancel_left _ (by have:=I.pos;exact Int.ne_of_gt ‹_›)]
 exact⟨by rw[q,e],q⟩
def sY(hrp:r≠p):(swap T p d).L r d=T.L r d:=by
 show (if r=p then (if d=d then -T.s else -T.L p d)else (if d=d then T.L r d else (-T.L p d*T.L r d+T.L r d*T.L p d)/T.s))=_;rw[Â hrp,Á rfl]
def EI:(swap T p d).L p j=if j=d then -T.s else -T.L p j:=by
 show (if p=p then (if j=d then -T.s else -T.L p j)else _)=_;rw[Á rfl]
def fI:(swap T p d).f j=if j=d then T.h p else T.f j:=rfl
def gW:(swap T p d).h r=if r=p then T.f d else T.h r:=rfl
def Inv.quotN(I:Inv P σ T)(hp:p<P.k)(hd:d<P.n)(hr:r<=P.k)(hrp:r≠p):
  T.s*(swap T p d).L r P.n=-T.L p d*T.L r P.n+T.L r d*T.L p P.n/\(swap T p d).L r P.n=-T.L p d*P.c (T.h r)+aS P.n λj=>(swap T p d).L r j*P.c ((swap T p d).f j):=by
 have e:=NS (w:=λ_=>0) (wu:=P.c (T.h r)) (wh:=P.c (T.h p)) (s:=T.s) (wf:=λj=>P.c (T.f j)) (l:=T.L r) (p:=T.L p) (l':=(swap T p d).L r) hd (λj hj hne=>(I.quot hp hd hr hrp hj hne).1) (sY hrp);rw[<- I.lc r hr,<- I.lc p 'a']at e;have ew:(aS P.n λj=>(swap T p d).L r j*(if j=d then P.c (T.h p)else P.c (T.f j)))=aS P.n λj=>(swap T p d).L r j*P.c ((swap T p d).f j):=bE λj _=>by
  rw[fI];split<;>rfl
 rw[ew]at e;have q:(swap T p d).L r P.n=-T.L p d*P.c (T.h r)+aS P.n λj=>(swap T p d).L r j*P.c ((swap T p d).f j):=by
  show (if r=p then (if P.n=d then -T.s else -T.L p P.n)else (if P.n=d then T.L r d else (-T.L p d*T.L r P.n+T.L r d*T.L p P.n)/T.s))=_;rw[Â hrp,Â (by exact Û ‹_›),<- e,Int.mul_ediv_cancel_left _ (by have:=I.pos;exact Int.ne_of_gt ‹_›)]
 exact⟨by rw[q,e],q⟩
def Inv.swap(I:Inv P σ T)(hp:p<P.k)(hd:d<P.n)(hneg:T.L p d<0)(hmin:∀j,j<P.n->T.L p j<0->T.L P.k d*-T.L p j<=T.L P.k j*-T.L p d):Inv P σ (swap T p d):=by
 have sg:=I.sg;have pos:=I.pos;have hdh:∀r,r<=P.k->T.f d≠T.h r:=λr hr=>I.fh d r hd hr;refine⟨sg,?_,?_,?_,?_,?_,?_,?_,?_,?_,?_,?_,?_,?_⟩
 .show 0 < -T.L p d
  lia
 .show -T.L p d=_
  rw[WF,I.det_l 'a' hd]
  grind
 .intro r hr j hj
  rw[WF];by_cases hrp:r=p
  .subst hrp
   rw[EI,gW,Á rfl];by_cases hjd:j=d
   .subst hjd
    rw[Á rfl,B8];have:aX (T.F P) j (P.a (T.f j))=T.F P:=hG;rw[this,I.det_s,<- Int.mul_assoc]
    grind
   .rw[Â hjd,HR hd hj (Í hjd)]
    have:aX (T.F P) d (P.a (T.f d))=T.F P:=hG;rw[this,I.det_l 'q' hj]
    grind
  .rw[gW,Â hrp]
   by_cases hjd:j=d
   .subst hjd
    rw[sY hrp,B8];exact I.ld r hr j hj
   .exact(I.quot hp hd hr hrp hj hjd).2
 .intro r hr
  by_cases hrp:r=p
  .subst hrp
   have e:=HU (wh:=P.c (T.h r)) (s:=T.s) (wf:=λj=>P.c (T.f j)) (p:=T.L r) hd;rw[<- I.lc r hr]at e;show (if r=r then (if P.n=d then -T.s else -T.L r P.n)else _)=_;rw[Á rfl,Â (by exact Û ‹_›),gW,Á rfl,<- e];show _=-T.L r d*_+_;congr 1;refine bE λj hj=>?_;rw[EI,fI];split<;>rfl
  .rw[gW,Â hrp]
   exact(I.quotN hp hd hr hrp).2
 .intro r hr x hx
  by_cases hrp:r=p
  .subst hrp
   have e:=HU (wh:=P.a (T.h r) x) (s:=T.s) (wf:=λj=>P.a (T.f j) x) (p:=T.L r) hd;rw[I.cr r hr x hx]at e;rw[gW,Á rfl];show -T.L r d*_+_=_;have ew:(aS P.n λj=>(Sx.swap T r d).L r j*P.a ((Sx.swap T r d).f j) x)=aS P.n λj=>(if j=d then -T.s else -T.L r j)*(if j=d then P.a (T.h r) x else P.a (T.f j) x):=bE λj _=>by
    rw[EI,fI];split<;>rfl
   rw[ew,e];rfl
  .have e:=NS (w:=λ_=>0) (wu:=P.a (T.h r) x) (wh:=P.a (T.h p) x) (s:=T.s) (wf:=λj=>P.a (T.f j) x) (l:=T.L r) (p:=T.L p) (l':=(Sx.swap T p d).L r) hd (λj hj hne=>(I.quot hp hd hr hrp hj hne).1) (sY hrp)
   rw[I.cr r hr x hx,I.cr p 'a' x hx]at e;rw[gW,Â hrp];have ew:(aS P.n λj=>(Sx.swap T p d).L r j*P.a ((Sx.swap T p d).f j) x)=aS P.n λj=>(Sx.swap T p d).L r j*(if j=d then P.a (T.h p) x else P.a (T.f j) x):=bE λj _=>by
    rw[fI];split<;>rfl
   show -T.L p d*_+_=_;rw[ew];have e:T.s*(-T.L p d*P.a (T.h r) x+aS P.n λj=>(Sx.swap T p d).L r j*(if j=d then P.a (T.h p) x else P.a (T.f j) x))=0:=by rw[e];lia
   rcases Int.mul_eq_zero.mp e with z|z
   .lia
   .exact z
 .intro i j hi hj e
  rw[fI,fI]at e;split at e
  .split at e
   .lia
   .exact absurd e.symm (I.fh j p hj 'a')
  .split at e
   .exact absurd e (I.fh i p hi 'a')
   .exact I.fi i j hi hj e
 .intro r q hr hq e
  rw[gW,gW]at e;split at e
  .grind
  .split at e
   .grind
   .exact I.hi r q hr hq e
 .intro j r hj hr e
  rw[fI,gW]at e;split at e
  .split at e
   .grind
   .rename_i hrp
    exact hrp (I.hi p r 'a' hr e).symm
  .split at e
   .rename_i hjd _
    exact hjd (I.fi j d hj hd e)
   .exact I.fh j r hj hr e
 .rw[gW,Â (by exact Û ‹_›)]
  exact I.hk
 .intro u hu
  rcases I.all u hu with ⟨j,hj,e⟩|⟨r,hr,e⟩
  .by_cases hjd:j=d
   .subst hjd
    exact .inr ⟨p,hp,by rw[gW,Á rfl];exact e⟩
   .exact .inl ⟨j,hj,by rw[fI,Â hjd];exact e⟩
  .by_cases hrp:r=p
   .subst hrp
    exact .inl ⟨d,hd,by rw[fI,Á rfl];exact e⟩
   .exact .inr ⟨r,hr,by rw[gW,Â hrp];exact e⟩
 .intro j hj
  rw[fI];split
  .exact I.hN p hp
  .exact I.fN j hj
 .intro r hr
  rw[gW];split
  .exact I.fN d hd
  .exact I.hN r hr
 .intro j hj
  by_cases hjd:j=d
  .subst hjd
   rw[sY (by exact Û ‹_›)];exact I.dual j hj
  .have e:=(I.quot hp hd (r:=P.k) (Ç _) (by exact Û ‹_›) hj hjd).1
   have g1:=I.dual j hj;have g2:=I.dual d hd;have hge:0<=-T.L p d*T.L P.k j+T.L P.k d*T.L p j:=by
    by_cases hn:T.L p j<0
    .grind
    .have a1:0<=-T.L p d*T.L P.k j:=Int.mul_nonneg ∅ g1
     have a2:0<=T.L P.k d*T.L p j:=Int.mul_nonneg g2 (by exact Int.not_lt.mp ‹_›);lia
   rw[<- e]at hge;exact Int.nonneg_of_mul_nonneg_right hge pos |> λz=>by first|exact z|lia
end
end Sx
namespace Sx
section
def Inv.indep(I:Inv P σ T){w:Nat->Int}(h:∀x,x<P.n->(aS P.n λi=>w i*P.a (T.f i) x)=0)(i:Nat)(hi:i<P.n):w i=0:=by
 have e1:c6 P.n (aX (T.F P) i λx=>aS P.n λl=>w l*T.F P l x)=0:=by
  rw[<- HS (M:=T.F P) hi];refine lD λr x hr hx=>?_;by_cases e:r=i
  .subst e
   rw[aN,aN];exact h x hx
  .rw[aG e,aG e]
 rw[wG hi,cP (k:=i) hi λl hl hne=>?_]at e1
 .rw[hG,I.det_s]at e1
  rcases Int.mul_eq_zero.mp e1 with z|z
  .exact z
  .rcases Int.mul_eq_zero.mp z with z|z
   .have:=I.sg
    grind
   .have:=I.pos
    lia
 .have:c6 P.n (aX (T.F P) i (T.F P l))=0:=wF hi hl (λz=>hne z.symm) λx=>by rw[aN,aG hne]
  rw[this];lia
structure At(P:Pr)(T:Tab)(u:Nat)(E:Nat->Int)(V:Int):Prop where
 a:∀x,x<P.n->T.s*P.a u x+(aS P.n λi=>E i*P.a (T.f i) x)=0
 c:T.s*P.c u+(aS P.n λi=>E i*P.c (T.f i))=V
def Inv.at_held(I:Inv P σ T)(hr:r<=P.k):At P T (T.h r) (T.L r) (T.L r P.n):=⟨I.cr r hr,(I.lc r hr).symm⟩
def EJ(hj:j<P.n):At P T (T.f j) (λi=>if i=j then -T.s else 0) 0:=by
 refine⟨λx _=>?_,?_⟩
 .rw[cP (k:=j) hj λi _ hne=>by rw[Â hne];lia,Á rfl]
  grind
 .rw[cP (k:=j) hj λi _ hne=>by rw[Â hne];lia,Á rfl]
  grind
def Inv.eval(I:Inv P σ T){ρ:Nat->Int}{u:Nat->Nat}{E:Nat->Nat->Int}{V:Nat->Int}(hat:∀t,t<q->At P T (u t) (E t) (V t))(ha:∀x,x<P.n->(aS q λt=>ρ t*P.a (u t) x)=0)(hc:(aS q λt=>ρ t*P.c (u t))=ρ0):
  (aS q λt=>ρ t*V t)=T.s*ρ0:=by
 have lin:∀b:Nat->Int,(aS P.n λi=>(aS q λt=>ρ t*E t i)*b i)=aS q λt=>ρ t*aS P.n λi=>E t i*b i:=λb=>by
  have e1:(aS P.n λi=>(aS q λt=>ρ t*E t i)*b i)=aS P.n λi=>aS q λt=>ρ t*(E t i*b i):=bE λi _=>by
   rw[Int.mul_comm,<- eC]
   grind
  rw[e1,B3];exact bE λt _=>eC
 have w0:∀i,i<P.n->(aS q λt=>ρ t*E t i)=0:=λi hi=>I.indep (w:=λi=>aS q λt=>ρ t*E t i) (λx hx=>by
  rw[lin λi=>P.a (T.f i) x];have e2:(aS q λt=>ρ t*aS P.n λi=>E t i*P.a (T.f i) x)=aS q λt=>-T.s*(ρ t*P.a (u t) x):=bE λt ht=>by
   have:=(hat t ht).a x hx
   grind
  rw[e2,eC,ha x hx];lia) i hi
 have e4:(aS q λt=>ρ t*V t)=aS q λt=>T.s*(ρ t*P.c (u t))+ρ t*aS P.n λi=>E t i*P.c (T.f i):=bE λt ht=>by
  rw[<- (hat t ht).c]
  grind
 rw[e4,jD,eC,hc,<- lin λi=>P.c (T.f i),fM λi hi=>by rw[w0 i hi];lia];lia
def NT:∀{n:Nat}{g:Nat->Int},aS n g<0->∃m,m<n/\g m<0
 |0,_,h=>by simp[aS]at h
 |n+1,g,h=>by
  rw[aS]at h;by_cases c:g n<0
  .grind
  .obtain⟨m,hm,e⟩:=NT (n:=n) (g:=g) ∅
   grind
structure Ch(P:Pr)(T:Tab)(p d:Nat):Prop where
 hp:p<P.k
 neg:T.L p P.n<0
 first:∀r,r<P.k->T.L r P.n<0->T.h p<=T.h r
 hd:d<P.n
 dneg:T.L p d<0
 best:∀j,j<P.n->T.L p j<0->T.L P.k d*-T.L p j<T.L P.k j*-T.L p d\/(T.L P.k d*-T.L p j=T.L P.k j*-T.L p d/\T.f d<=T.f j)
def Ch.inv(C:Ch P T p d)(I:Inv P σ T):Inv P σ (swap T p d):=I.swap C.hp C.hd C.dneg λj hj hn=>by
 rcases C.best j hj hn with h|h<;>lia
def Fr(P:Pr)(T:Tab)(u:Nat):Prop:=∃j,j<P.n/\T.f j=u
def NZ(P:Pr)(T:Tab)(u:Nat):Prop:=∃j,j<P.n/\T.f j=u/\T.L P.k j≠0
def sZ(C:Ch P T p d)(I:Inv P σ T)(u:Nat):Fr P (swap T p d) u↔u=T.h p\/(Fr P T u/\u≠T.f d):=by
 constructor
 .rintro⟨j,hj,e⟩
  rw[fI]at e;split at e
  .exact .inl e.symm
  .rename_i hjd
   refine .inr ⟨⟨j,hj,e⟩,λz=>hjd (I.fi j d hj C.hd ?_)⟩;rw[e,z]
 .rintro(rfl|⟨⟨j,hj,rfl⟩,hne⟩)
  .exact⟨d,C.hd,by rw[fI,Á rfl]⟩
  .exact⟨j,hj,by rw[fI,Â λz=>hne (by rw[z])]⟩
def aBE(C:Ch P T p d)(I:Inv P σ T)(hz:T.L P.k d=0)(u:Nat):NZ P (swap T p d) u↔NZ P T u:=by
 have pos:=I.pos;have step:∀j,j<P.n->j≠d->((swap T p d).L P.k j≠0↔T.L P.k j≠0):=λj hj hjd=>by
  have e:=(I.quot C.hp C.hd (r:=P.k) (Ç _) (by have:=C.hp;exact Û ‹_›) hj hjd).1;rw[hz,Int.zero_mul,Int.add_zero]at e;have dn:=C.dneg;constructor
  .intro h z
   rw[z,Int.mul_zero]at e;rcases Int.mul_eq_zero.mp e with z|z
   .lia
   .exact h z
  .intro h z
   rw[z,Int.mul_zero]at e;rcases Int.mul_eq_zero.mp e.symm with z|z
   .lia
   .exact h z
 have ed:(swap T p d).L P.k d=0:=by rw[sY (by have:=C.hp;exact Û ‹_›)];exact hz
 constructor
 .rintro⟨j,hj,e,hnz⟩
  rw[fI]at e;by_cases hjd:j=d
  .grind
  .rw[Â hjd]at e
   exact⟨j,hj,e,(step j hj hjd).mp hnz⟩
 .rintro⟨j,hj,e,hnz⟩
  by_cases hjd:j=d
  .grind
  .exact⟨j,hj,by rw[fI,Â hjd];exact e,(step j hj hjd).mpr hnz⟩
def Inv.held_nz(I:Inv P σ T)(hr:r<=P.k):¬NZ P T (T.h r):=λzQ=>by let⟨j,hj,e,_⟩:=zQ;exact I.fh j r hj hr e
def Inv.not_fr(I:Inv P σ T)(hr:r<=P.k):¬Fr P T (T.h r):=λzQ=>by let⟨j,hj,e⟩:=zQ;exact I.fh j r hj hr e
end
structure I9(P:Pr)(σ:Int)(T:Nat->Tab)(p d:Nat->Nat)(l:Nat):Prop where
 inv:Inv P σ (T 0)
 ch:∀i,i<l->Ch P (T i) (p i) (d i)
 next:∀i,i<l->T (i+1)=swap (T i) (p i) (d i)
section
def I9.inv_at(R:I9 P σ T p d l):∀i,i<=l->Inv P σ (T i)
 |0,_=>R.inv
 |i+1,h=>by
  rw[R.next i 'q'];exact(R.ch i 'q').inv (R.inv_at i 'a')
structure Ğ(P:Pr)(T:Nat->Tab)(p d:Nat->Nat)(x y t:Nat):Prop where
 e:∀m,x<=m->m<y->(T m).h (p m)<t
 g:∀m,x<=m->m<y->(T m).f (d m)<t
 z:∀m,x<=m->m<y->(T m).L P.k (d m)=0
def Ğ.fr(R:I9 P σ T p d l)(S:Ğ P T p d x y t)(hy:y<=l)(hu:t<=u):∀m,x<=m->m<=y->(Fr P (T m) u↔Fr P (T x) u):=by
 intro m hx
 induction m with
 |zero=>grind
 |succ m ih=>
  intro hm;by_cases e:x=m+1
  .rw[e]
  .have h1:=S.e m ∅ 'q'
   have h2:=S.g m ∅ 'q';rw[<- ih ∅ 'a',R.next m 'i',sZ (R.ch m 'i') (R.inv_at m 'i')]
   grind
def Ğ.nz(R:I9 P σ T p d l)(S:Ğ P T p d x y t)(hy:y<=l):∀m,x<=m->m<=y->(NZ P (T m) u↔NZ P (T x) u):=by
 intro m hx
 induction m with
 |zero=>grind
 |succ m ih=>
  intro hm;by_cases e:x=m+1
  .rw[e]
  .rw[<- ih ∅ 'a',R.next m 'i']
   exact aBE (R.ch m 'i') (R.inv_at m 'i') (S.z m ∅ 'q') u
theorem NU(R:I9 P σ T p d l)(S:Ğ P T p d x y (t+1))(hy:y<=l)(hi:x<=i)(hi2:i<y)(hj:x<=j)(hj2:j<y)(hA:(T i).h (p i)=t)(hB:(T j).f (d j)=t):False:=by
 have IA:=R.inv_at i 'i';have IB:=R.inv_at j 'i';have CA:=R.ch i 'i';have CB:=R.ch j 'i';have pB:=CB.hp
 -- where an unknown stands at A
 have stand:∀u,u<P.N->∃E V,At P (T i) u E V/\((Fr P (T i) u/\V=0)\/∃r,r<P.k/\(T i).h r=u/\V=(T i).L r P.n):=λu hu=>by
  rcases IA.all u hu with ⟨m,hm,e⟩|⟨r,hr,e⟩
  .exact⟨_,0,by rw[<- e];exact EJ hm,.inl ⟨⟨m,hm,e⟩,rfl⟩⟩
  .exact⟨_,_,by rw[<- e];exact IA.at_held 'a',.inr ⟨r,hr,e,rfl⟩⟩
 -- the unknowns of B's line
 let u:Nat->Nat:=λm=>if m<P.n then (T j).f m else (T j).h (p j);let ρ:Nat->Int:=λm=>if m<P.n then (T j).L (p j) m else (T j).s;have uN:∀m,u m<P.N:=λm=>by
  show (if m<P.n then (T j).f m else (T j).h (p j))<P.N;split
  .rename_i h;exact IB.fN m h
  .exact IB.hN _ pB
 have ev:=IA.eval (q:=P.n+1) (ρ:=ρ) (u:=u) (E:=λm=>(stand (u m) (uN m)).choose) (V:=λm=>(stand (u m) (uN m)).choose_spec.choose) (ρ0:=(T j).L (p j) P.n) (λm _=>(stand (u m) (uN m)).choose_spec.choose_spec.1) (λx hx=>by
  have e:=IB.cr (p j) 'a' x hx;rw[aS];have e1:(aS P.n λm=>ρ m*P.a (u m) x)=aS P.n λm=>(T j).L (p j) m*P.a ((T j).f m) x:=bE λm hm=>by
   grind
  grind) (by
  have e:=IB.lc (p j) 'a';rw[aS];have e1:(aS P.n λm=>ρ m*P.c (u m))=aS P.n λm=>(T j).L (p j) m*P.c ((T j).f m):=bE λm hm=>by
   grind
  grind)
 have neg:(T i).s*(T j).L (p j) P.n<0:=Int.mul_neg_of_pos_of_neg IA.pos CB.neg;rw[<- ev]at neg;let⟨m,hm,hneg⟩:=NT neg;have st:=(stand (u m) (uN m)).choose_spec.choose_spec.2;generalize (stand (u m) (uN m)).choose_spec.choose=V at st hneg
 -- it is held at A
 rcases st with ⟨_,hV⟩|⟨r,hr,hru,hV⟩
 .grind
 .have notA:¬Fr P (T i) (u m):=by rw[<- hru];exact IA.not_fr 'a'
  have fromA:V<0->t<=u m:=λhv=>by
   rw[<- hA,<- hru];exact CA.first r hr (by rw[<- hV];exact hv)
  by_cases hmn:m<P.n
  .have eu:u m=(T j).f m:=Á hmn
   have eρ:ρ m=(T j).L (p j) m:=Á hmn;rw[eρ]at hneg;have frB:Fr P (T j) (u m):=⟨m,hmn,eu.symm⟩
   -- it has moved
   have le:u m<=t:=by
    refine Nat.le_of_not_lt λgt=>?_;have h1:=S.fr R hy (u:=u m) 'q' i hi 'a';have h2:=S.fr R hy (u:=u m) 'q' j hj 'a';exact notA (h1.mpr (h2.mp frB))
   by_cases hv:V<0
   .have:=fromA hv
    have et:(T j).f m=(T j).f (d j):=by rw[hB,<- eu];exact Nat.le_antisymm ‹_› ‹_›
    have:=IB.fi m (d j) hmn CB.hd et;rw[this]at hneg;have dn:=CB.dneg;have:=Int.mul_pos_of_neg_of_neg dn hv;lia
   .have hv0:0<V:=by
     rcases Int.lt_trichotomy V 0 with z|z|z
     .contradiction
     .grind
     .exact z
    have ln:(T j).L (p j) m<0:=by
     refine Int.not_le.mp λz=>?_;have:=Int.mul_nonneg z (ó hv0);lia
    have ne:u m≠t:=λz=>by
     have hrp:r=p i:=IA.hi r (p i) 'a' (by have:=CA.hp;exact È ‹_›) (by rw[hru,hA,z]);rw[hV,hrp]at hv0;have:=CA.neg;lia
    have zB:=S.z j hj hj2;have nzA:¬NZ P (T i) (u m):=by rw[<- hru];exact IA.held_nz 'a'
    have nzB:¬NZ P (T j) (u m):=λz=>nzA ((S.nz R hy i hi 'a').mpr ((S.nz R hy j hj 'a').mp z));have gz:(T j).L P.k m=0:=Ą λz=>nzB ⟨m,hmn,eu.symm,z⟩;rcases CB.best m hmn ln with h|h
    all_goals grind
  .have eu:u m=(T j).h (p j):=Â hmn
   have eρ:ρ m=(T j).s:=Â hmn;rw[eρ]at hneg;have sB:=IB.pos;have hv:V<0:=by
    refine Int.not_le.mp λz=>?_;have:=Int.mul_nonneg (ó sB) z;lia
   have h1:=fromA hv;have h2:=S.e j hj hj2;have et:(T j).f (d j)=(T j).h (p j):=by rw[hB,<- eu];lia
   exact IB.fh (d j) (p j) CB.hd 'a' et
end
end Sx
namespace Sx
section
def ϝ(R:I9 P σ T p d l):∀(n x:Nat),x+n<=l->Fr P (T x) t->¬Fr P (T (x+n)) t->∃m,x<=m/\m<x+n/\(T m).f (d m)=t
 |0,x,_,h1,h2=>absurd h1 h2
 |n+1,x,hl,h1,h2=>by
  by_cases c:Fr P (T (x+n)) t
  .refine⟨x+n,by exact Nat.le_add_right _ _,by exact ç _,?_⟩
   refine Ą λhne=>h2 ?_;rw[<- Nat.add_assoc,R.next (x+n) 'q',sZ (R.ch _ 'q') (R.inv_at _ 'a')]
   grind
  .obtain⟨m,h3,h4,h5⟩:=ϝ R n x 'a' h1 c
   grind
def Ϟ(R:I9 P σ T p d l):∀(n x:Nat),x+n<=l->¬Fr P (T x) t->Fr P (T (x+n)) t->∃m,x<=m/\m<x+n/\(T m).h (p m)=t
 |0,x,_,h1,h2=>absurd h2 h1
 |n+1,x,hl,h1,h2=>by
  by_cases c:Fr P (T (x+n)) t
  .obtain⟨m,h3,h4,h5⟩:=Ϟ R n x 'a' h1 c
   grind
  .refine⟨x+n,by exact Nat.le_add_right _ _,by exact ç _,?_⟩
   rw[<- Nat.add_assoc,R.next (x+n) 'q',sZ (R.ch _ 'q') (R.inv_at _ 'a')]at h2
   grind
def bd:Nat->Nat
 |0=>0
 |t+1=>2*bd t+1
def ϟ(R:I9 P σ T p d l):∀(t x y:Nat),y<=l->Ğ P T p d x y t->y-x<=bd t
 |0,x,y,hy,S=>by
  by_cases h:x<y
  .exact absurd (S.e x (Ç _) h) ∅
  .rw[bd];lia
 |t+1,x,y,hy,S=>by
  have sub:∀x' y',x<=x'->y'<=y->(∀m,x'<=m->m<y'->(T m).h (p m)≠t/\(T m).f (d m)≠t)->y'-x'<=bd t:=λx' y' h1 h2 h3=>ϟ R t x' y' 'i' ⟨λm a b=>by
   have:=S.e m 'i' 'i'
   grind,λm a b=>by
   have:=S.g m 'i' 'i'
   grind,λm a b=>S.z m 'i' 'i'⟩
  by_cases ex:∃m,x<=m/\m<y/\((T m).h (p m)=t\/(T m).f (d m)=t)
  .obtain⟨m0,a0,b0,c0⟩:=ex
   have no2:∀m m',x<=m->m<m'->m'<y->((T m).h (p m)=t\/(T m).f (d m)=t)->((T m').h (p m')=t\/(T m').f (d m')=t)->False:=by
    intro m m' h1 h2 h3 c c';have IM:=R.inv_at m ∅;have CM:=R.ch m ∅;have IM':=R.inv_at m' 'i';have CM':=R.ch m' 'i';rcases c with c|c
    .rcases c' with c'|c'
     ·-- freed twice
      have f1:Fr P (T (m+1)) t:=by
       rw[R.next m ∅,sZ CM IM];exact .inl c.symm
      have f2:¬Fr P (T (m+1+(m'-(m+1)))) t:=by
       rw[show m+1+(m'-(m+1))=m' by lia,<- c'];exact IM'.not_fr (by have:=CM'.hp;exact È ‹_›)
      let⟨q,q1,q2,q3⟩:=ϝ R (m'-(m+1)) (m+1) ∅ f1 f2;exact NU R S hy h1 ∅ ∅ ∅ c q3
     .exact NU R S hy h1 'i' ∅ h3 c c'
    .rcases c' with c'|c'
     .exact NU R S hy ∅ h3 h1 'i' c' c
     .have f1:¬Fr P (T (m+1)) t:=by
       rw[R.next m ∅,sZ CM IM];rintro(h|h)
       .exact IM.fh (d m) (p m) CM.hd (by have:=CM.hp;exact È ‹_›) (by rw[c,h])
       .exact h.2 c.symm
      have f2:Fr P (T (m+1+(m'-(m+1)))) t:=by
       rw[show m+1+(m'-(m+1))=m' by lia];exact⟨d m',CM'.hd,c'⟩
      let⟨q,q1,q2,q3⟩:=Ϟ R (m'-(m+1)) (m+1) ∅ f1 f2;exact NU R S hy ∅ ∅ h1 ∅ q3 c
   have l1:=sub x m0 (Ç _) 'a' λm a b=>⟨λz=>no2 m m0 a b b0 (.inl z) c0,λz=>no2 m m0 a b b0 (.inr z) c0⟩;have l2:=sub (m0+1) y 'i' (Ç _) λm a b=>⟨λz=>no2 m0 m a0 'q' b c0 (.inl z),λz=>no2 m0 m a0 'q' b c0 (.inr z)⟩;rw[bd];lia
  .have:=sub x y (Ç _) (Ç _) λm a b=>⟨λz=>ex ⟨m,a,b,.inl z⟩,λz=>ex ⟨m,a,b,.inr z⟩⟩
   rw[bd];lia
def I9.fN(R:I9 P σ T p d l)(hy:y<=l)(hz:∀m,x<=m->m<y->(T m).L P.k (d m)=0):y-x<=bd P.N:=ϟ R P.N x y hy ⟨λm a b=>(R.inv_at m 'i').hN _ (R.ch m 'i').hp,λm a b=>(R.inv_at m 'i').fN _ (R.ch m 'i').hd,hz⟩
def Ϡ(R:I9 P σ T p d l)(hi:i<l):(T (i+1)).L P.k P.n*(T i).s=(T i).L P.k P.n*(T (i+1)).s+(T i).L P.k (d i)*(T i).L (p i) P.n:=by
 have I:=R.inv_at i 'a';have C:=R.ch i hi;have e:=(I.quotN C.hp C.hd (r:=P.k) (Ç _) (by have:=C.hp;exact Û ‹_›)).1;rw[R.next i hi];show _=_*-(T i).L (p i) (d i)+_
 grind
def aHF{k0 k1 k2 s0 s1 s2 w:Int}(p0:0<s0)(p1:0<s1)(p2:0<s2)(e:k2*s1=k1*s2+w)(ih:k1*s0<=k0*s1)(le:w<=0):k2*s0<=k0*s2:=by
 have b1:k2*s0*s1=(k1*s0)*s2+w*s0:=by
  rw[Int.mul_right_comm,e,Int.add_mul,Int.mul_right_comm]
 have b2:(k1*s0)*s2<=(k0*s1)*s2:=Ē ih (ó p2);have b3:w*s0<=0:=Int.mul_nonpos_of_nonpos_of_nonneg le (ó p0);rw[Int.mul_right_comm k0]at b2;have a1:k2*s0*s1<=k0*s2*s1:=by lia
 exact Int.le_of_mul_le_mul_right a1 p1
def aHG{k0 k1 k2 k3 s0 s1 s2 s3 w:Int}(p0:0<s0)(p1:0<s1)(p2:0<s2)(p3:0<s3)(b:k3*s2<=k2*s3)(e:k2*s1=k1*s2+w)(a:k1*s0<=k0*s1)(lt:w<0):k3*s0<k0*s3:=by
 -- k3 s2<=k2 s3;k2 s1=k1 s2+w;k1 s0<=k0 s1
 have s12:0<s1*s2:=Int.mul_pos p1 p2;have a1:k3*s0*(s1*s2)<k0*s3*(s1*s2):=by
  have b1:k3*s0*(s1*s2)=(k3*s2)*(s0*s1):=by grind
  have b2:(k3*s2)*(s0*s1)<=(k2*s3)*(s0*s1):=Ē b (ó (Int.mul_pos p0 p1));have b3:(k2*s3)*(s0*s1)=(k2*s1)*(s0*s3):=by grind
  have b4:(k2*s1)*(s0*s3)=(k1*s0)*(s2*s3)+w*(s0*s3):=by rw[e];grind
  have b5:(k1*s0)*(s2*s3)<=(k0*s1)*(s2*s3):=Ē a (ó (Int.mul_pos p2 p3));have b6:w*(s0*s3)<0:=Int.mul_neg_of_neg_of_pos lt (Int.mul_pos p0 p3);have b7:(k0*s1)*(s2*s3)=k0*s3*(s1*s2):=by grind
  lia
 simp_all
def EK(R:I9 P σ T p d l):∀n,i+n<=l->(T (i+n)).L P.k P.n*(T i).s<=(T i).L P.k P.n*(T (i+n)).s
 |0,_=>Int.le_refl _
 |n+1,h=>by
  have ih:=EK R n (i:=i) 'a';have e:=Ϡ R (i:=i+n) 'q';have C:=R.ch (i+n) 'q';have I:=R.inv_at (i+n) 'a';have I0:=R.inv_at i ∅;have I1:=R.inv_at (i+n+1) 'q';have g:=I.dual _ C.hd;have neg:=C.neg;have p0:=I0.pos;have p1:=I.pos;have p2:=I1.pos;have le:(T (i+n)).L P.k (d (i+n))*(T (i+n)).L (p (i+n)) P.n<=0:=Int.mul_nonpos_of_nonneg_of_nonpos g (by exact ó ‹_›);rw[<- Nat.add_assoc];exact aHF p0 p1 p2 e ih le
def aBF(R:I9 P σ T p d l)(h1:i<=m)(h2:m<j)(h3:j<=l)(hnz:(T m).L P.k (d m)≠0):(T j).L P.k P.n*(T i).s<(T i).L P.k P.n*(T j).s:=by
 have a:=EK R (i:=i) (m-i) ∅;have b:=EK R (i:=m+1) (j-(m+1)) ∅;rw[show i+(m-i)=m by lia]at a;rw[show m+1+(j-(m+1))=j by lia]at b;have e:=Ϡ R (i:=m) 'i';have C:=R.ch m 'i';have I:=R.inv_at m 'i';have p0:=(R.inv_at i ∅).pos;have p1:=I.pos;have p2:=(R.inv_at (m+1) 'i').pos;have p3:=(R.inv_at j 'q').pos;have g:=I.dual _ C.hd;have neg:=C.neg;have lt:(T m).L P.k (d m)*(T m).L (p m) P.n<0:=Int.mul_neg_of_pos_of_neg ∅ neg;exact aHG p0 p1 p2 p3 b e a lt
def QQ(IA:Inv P σ A)(IB:Inv P σ B)(h:∀u,u<P.N->Fr P B u->Fr P A u):B.s*A.L P.k P.n=A.s*B.L P.k P.n:=by
 let u:Nat->Nat:=λm=>if m<P.n then B.f m else P.N;let ρ:Nat->Int:=λm=>if m<P.n then B.L P.k m else B.s;have stand:∀m,m<P.n+1->∃E,At P A (u m) E (if m<P.n then 0 else A.L P.k P.n):=λm hm=>by
  by_cases c:m<P.n
  .obtain⟨j,hj,e⟩:=h (B.f m) (IB.fN m c) ⟨m,c,rfl⟩
   refine⟨λi=>if i=j then -A.s else 0,?_⟩;rw[Á c];show At P A (if m<P.n then B.f m else P.N) _ 0;rw[Á c,<- e];exact EJ hj
  .refine⟨A.L P.k,?_⟩
   rw[Â c];show At P A (if m<P.n then B.f m else P.N) _ _;rw[Â c,<- IA.hk];exact IA.at_held (Ç _)
 have ev:=IA.eval (q:=P.n+1) (ρ:=ρ) (u:=u) (E:=λm=>open Classical in if hm:m<P.n+1 then (stand m hm).choose else λ_=>0) (V:=λm=>if m<P.n then 0 else A.L P.k P.n) (ρ0:=B.L P.k P.n) (λm hm=>by
  grind) (λx hx=>by
  have e:=IB.cr P.k (Ç _) x hx;rw[IB.hk]at e;rw[aS];have e1:(aS P.n λm=>ρ m*P.a (u m) x)=aS P.n λm=>B.L P.k m*P.a (B.f m) x:=bE λm hm=>by
   grind
  grind) (by
  have e:=IB.lc P.k (Ç _);rw[IB.hk]at e;rw[aS];have e1:(aS P.n λm=>ρ m*P.c (u m))=aS P.n λm=>B.L P.k m*P.c (B.f m):=bE λm hm=>by
   grind
  grind)
 rw[aS,fM λm hm=>by rw[Á hm];lia]at ev
 grind
def ϡ:∀(M:Nat)(g:Nat->Nat),(∀i,i<=M->g i<M)->∃i j,i<j/\j<=M/\g i=g j
 |0,g,h=>absurd (h 0 (Ç _)) ∅
 |M+1,g,h=>by
  by_cases ex:∃i,i<=M/\g i=g (M+1)
  .obtain⟨i,hi,e⟩:=ex
   exact⟨i,M+1,by grind,by exact ç _,e⟩
  .have hv:=h (M+1) (by exact ç _)
   let⟨i,j,h1,h2,h3⟩:=ϡ M (λi=>if g i=M then g (M+1)else g i) λi hi=>by
    grind
   refine⟨i,j,h1,by grind,?_⟩
   grind
def code(b:Nat->Bool):Nat->Nat
 |0=>0
 |n+1=>2*code b n+(if b n=true then 1 else 0)
def NV :∀n,code b n<2^n
 |0=>by simp[code]
 |n+1=>by
  have:=NV (b:=b) n;rw[code,Nat.pow_succ];split<;>lia
def HV :∀n,code b n=code b' n->∀u,u<n->b u=b' u
 |0,_,u,hu=>by grind
 |n+1,e,u,hu=>by
  rw[code,code]at e;have hb:b n=b' n/\code b n=code b' n:=by
   cases h1:b n<;>cases h2:b' n<;>rw[h1,h2]at e<;>simp at e⊢<;>lia
  by_cases c:u=n
  .subst c;exact hb.1
  .exact HV n hb.2 u ∅
def most(N:Nat):Nat:=(2^N+1)*(bd N+1)
def I9.most(R:I9 P σ T p d l):l<Sx.most P.N:=by
 refine Nat.lt_of_not_le λhl=>?_
 -- in each window the goal falls once
 have win:∀w,w<=2^P.N->∃m,w*(bd P.N+1)<=m/\m<(w+1)*(bd P.N+1)/\(T m).L P.k (d m)≠0:=λw hw=>by
  refine Ą λno=>?_;have hle:(w+1)*(bd P.N+1)<=Sx.most P.N:=Nat.mul_le_mul_right _ 'i';have:=R.fN (x:=w*(bd P.N+1)) (y:=(w+1)*(bd P.N+1)) 'i' λm a b=>Ą λz=>no ⟨m,a,b,z⟩
  grind
 let mm:Nat->Nat:=λw=>open Classical in if hw:w<=2^P.N then (win w hw).choose else 0;have mmS:∀w,w<=2^P.N->w*(bd P.N+1)<=mm w/\mm w<(w+1)*(bd P.N+1)/\(T (mm w)).L P.k (d (mm w))≠0:=λw hw=>by
  grind
 let fb:Nat->Nat->Bool:=λw u=>open Classical in decide (Fr P (T (mm w)) u);let⟨i,j,h1,h2,h3⟩:=ϡ (2^P.N) (λw=>code (fb w) P.N) λw _=>NV P.N;have si:=mmS i 'i';have sj:=mmS j h2;have hij:(i+1)*(bd P.N+1)<=j*(bd P.N+1):=Nat.mul_le_mul_right _ 'q';have hjl:(j+1)*(bd P.N+1)<=Sx.most P.N:=Nat.mul_le_mul_right _ 'i';have fl:=aBF R (i:=mm i) (m:=mm i) (j:=mm j) (Ç _) ∅ ∅ si.2.2;have sg:=QQ (R.inv_at (mm i) ∅) (R.inv_at (mm j) ∅) λu hu hf=>by
  have e:=HV P.N h3 u hu
  grind
 grind
end
end Sx
namespace Sx
def shr(n:Nat)(f:Nat->Nat)(w:Nat->Int)(u:Nat):Int:=aS n λj=>if f j=u then w j else 0
def shr_at(hf:∀i j,i<n->j<n->f i=f j->i=j)(hj:j<n):shr n f w (f j)=w j:=by
 unfold shr;rw[cP (k:=j) hj λi hi hne=>Â λz=>hne (hf i j hi hj z),Á rfl]
def shr_no(h:∀j,j<n->f j≠u):shr n f w u=0:=fM λj hj=>Â (h j hj)
structure Lp where
 n:Nat
 m:Nat
 row:Nat->jW
 top:Nat->Int
 room:Nat->Int
def Lp.pr(Q:Lp):Pr where
 n:=Q.n
 k:=Q.m+Q.n
 N:=Q.n+Q.m+Q.n
 a:=λu x=>if u<Q.n then (if x=u then -1 else 0)else if u<Q.n+Q.m then Q.row (u-Q.n) x else if u<Q.n+Q.m+Q.n then (if x=u-(Q.n+Q.m)then 1 else 0)else 1
 c:=λu=>if u<Q.n then 0 else if u<Q.n+Q.m then Q.top (u-Q.n)else if u<Q.n+Q.m+Q.n then Q.room (u-(Q.n+Q.m))else 0
def Lp.start(Q:Lp):Tab where
 s:=1
 f:=λj=>j
 h:=λr=>Q.n+r
 L:=λr j=>if j<Q.n then Q.pr.a (Q.n+r) j else Q.pr.c (Q.n+r)
section
variable {Q:Lp}
def zG(h:i<Q.n):Q.pr.a i x=if x=i then -1 else 0:=Á h
def Ϣ(h:r<Q.m):Q.pr.a (Q.n+r) x=Q.row r x:=by
 show (if Q.n+r<Q.n then _ else if Q.n+r<Q.n+Q.m then Q.row (Q.n+r-Q.n) x else _)=_
 grind
def WG(h:i<Q.n):Q.pr.a (Q.n+Q.m+i) x=if x=i then 1 else 0:=by
 show (if Q.n+Q.m+i<Q.n then _ else if Q.n+Q.m+i<Q.n+Q.m then _ else if Q.n+Q.m+i<Q.n+Q.m+Q.n then (if x=Q.n+Q.m+i-(Q.n+Q.m)then (1:Int)else 0)else _)=_
 grind
def LA:Q.pr.a Q.pr.N x=1:=by
 show (if Q.n+Q.m+Q.n<Q.n then _ else if Q.n+Q.m+Q.n<Q.n+Q.m then _ else if Q.n+Q.m+Q.n<Q.n+Q.m+Q.n then _ else (1:Int))=_
 grind
def WH(h:i<Q.n):Q.pr.c i=0:=Á h
def ϣ(h:r<Q.m):Q.pr.c (Q.n+r)=Q.top r:=by
 show (if Q.n+r<Q.n then _ else if Q.n+r<Q.n+Q.m then Q.top (Q.n+r-Q.n)else _)=_
 grind
def WI(h:i<Q.n):Q.pr.c (Q.n+Q.m+i)=Q.room i:=by
 show (if Q.n+Q.m+i<Q.n then _ else if Q.n+Q.m+i<Q.n+Q.m then _ else if Q.n+Q.m+i<Q.n+Q.m+Q.n then Q.room (Q.n+Q.m+i-(Q.n+Q.m))else _)=_
 grind
def WJ:Q.pr.c Q.pr.N=0:=by
 show (if Q.n+Q.m+Q.n<Q.n then _ else if Q.n+Q.m+Q.n<Q.n+Q.m then _ else if Q.n+Q.m+Q.n<Q.n+Q.m+Q.n then _ else (0:Int))=_
 grind
def aBG:∀n:Nat,c6 (n+1) (λj x=>if x=j then -1 else 0)=-c6 n (λj x=>if x=j then -1 else 0):=λn=>by
 rw[c6,cP (k:=0) (by exact ý _) λi hi hne=>by
  grind]
 have e:fB (λj x=>if x=j then (-1:Int)else 0) 0=λj x=>if x=j then -1 else 0:=by
  funext r c;unfold fB skip;rw[Â ∅];by_cases h:c=r
  .grind
  .grind
 rw[e];show ą 0*(if 0=0 then -1 else 0)*_=_;rw[Á rfl];show 1*-1*_=_;lia
def WK:∀n:Nat,c6 n (λj x=>if x=j then -1 else 0)*c6 n (λj x=>if x=j then -1 else 0)=1
 |0=>rfl
 |n+1=>by
  rw[aBG];have:=WK n
  grind
def Lp.inv(Q:Lp):Inv Q.pr (c6 Q.n (λj x=>if x=j then -1 else 0)) Q.start:=by
 have sq:=WK Q.n;have eF:∀M:Nat->jW,(∀j x,j<Q.n->M j x=if x=j then -1 else 0)->c6 Q.n M=c6 Q.n (λj x=>if x=j then -1 else 0):=λM h=>lD λr c hr _=>h r c hr;have hF:∀j x,j<Q.n->Q.start.F Q.pr j x=if x=j then -1 else 0:=λj x hj=>zG hj;have dF:=eF (Q.start.F Q.pr) hF;have dU:∀(j:Nat)(v:jW),j<Q.n->c6 Q.n (aX (Q.start.F Q.pr) j v)=-v j*c6 Q.n (λj x=>if x=j then -1 else 0):=λj v hj=>by
  have e1:c6 Q.n (aX (Q.start.F Q.pr) j v)=c6 Q.n (aX (Q.start.F Q.pr) j λx=>aS Q.n λl=>-v l*Q.start.F Q.pr l x):=lD λr x hr hx=>by
   by_cases e:r=j
   .subst e
    rw[aN,aN,cP (k:=x) hx λl hl hne=>by grind,hF x x hx,Á rfl];lia
   .rw[aG e,aG e]
  rw[e1,wG hj,cP (k:=j) hj λl hl hne=>?_,hG,dF];have:c6 Q.n (aX (Q.start.F Q.pr) j (Q.start.F Q.pr l))=0:=wF hj hl (λz=>hne z.symm) λx=>by rw[aN,aG hne]
  rw[this];lia
 have Lj:∀r j,j<Q.n->Q.start.L r j=Q.pr.a (Q.n+r) j:=λr j hj=>Á hj;have Ln:∀r,Q.start.L r Q.n=Q.pr.c (Q.n+r):=λr=>Â ∅;have kN:Q.pr.k=Q.m+Q.n:=rfl;have NN:Q.pr.N=Q.n+Q.m+Q.n:=rfl;have nn:Q.pr.n=Q.n:=rfl;refine⟨sq,by show (0:Int)<1;decide,?_,?_,?_,?_,?_,?_,?_,?_,?_,?_,?_,?_⟩
 .show (1:Int)=_*c6 Q.n (Q.start.F Q.pr)
  rw[dF,sq]
 .intro r _ j hj
  rw[Lj r j hj];show _=_*c6 Q.n (aX (Q.start.F Q.pr) j (Q.pr.a (Q.n+r)));rw[dU j _ hj]
  grind
 .intro r _
  show Q.start.L r Q.n=1*Q.pr.c (Q.n+r)+aS Q.n λj=>Q.start.L r j*Q.pr.c j;rw[Ln,fM λj hj=>by rw[WH hj];lia];lia
 .intro r _ x hx
  show 1*Q.pr.a (Q.n+r) x+(aS Q.n λj=>Q.start.L r j*Q.pr.a j x)=0;have hx:x<Q.n:=hx;rw[cP (k:=x) hx λl hl hne=>by rw[zG hl,Â λz=>hne z.symm];lia,zG hx,Á rfl,Lj r x hx];lia
 .exact λi j _ _ e=>e
 .intro r q _ _ e
  have e:Q.n+r=Q.n+q:=e;lia
 .intro j r hj _ e
  have e:j=Q.n+r:=e
  grind
 .show Q.n+(Q.m+Q.n)=Q.n+Q.m+Q.n
  lia
 .intro u hu
  rw[NN]at hu;by_cases h:u<Q.n
  .exact .inl ⟨u,h,rfl⟩
  .refine .inr ⟨u-Q.n,by rw[kN];lia,?_⟩
   show Q.n+(u-Q.n)=u;lia
 .intro j hj
  show j<Q.n+Q.m+Q.n
  grind
 .intro r hr
  show Q.n+r<Q.n+Q.m+Q.n
  grind
 .intro j hj
  rw[Lj _ j hj];have:Q.n+Q.pr.k=Q.pr.N:=by rw[kN,NN];lia
  rw[this,LA];decide
variable {σ:Int}{T:Tab}
def val(P:Pr)(T:Tab)(u:Nat):Int:=shr P.k T.h (λr=>T.L r P.n) u
def LB(I:Inv Q.pr σ T)(hu:u<Q.pr.N):∃E,At Q.pr T u E (val Q.pr T u):=by
 rcases I.all u hu with ⟨j,hj,e⟩|⟨r,hr,e⟩
 .have:val Q.pr T u=0:=shr_no λr hr z=>I.fh j r hj 'a' (by rw[e,z])
  rw[this,<- e];exact⟨_,EJ hj⟩
 .have:val Q.pr T u=T.L r Q.pr.n:=by
   unfold val;rw[<- e];exact shr_at (λi j hi hj z=>I.hi i j 'a' 'a' z) hr
  rw[this,<- e];exact⟨_,I.at_held 'a'⟩
def aKL(I:Inv Q.pr σ T):(∀r,r<Q.m->val Q.pr T (Q.n+r)+(aS Q.n λx=>Q.row r x*val Q.pr T x)=T.s*Q.top r)/\(∀i,i<Q.n->val Q.pr T (Q.n+Q.m+i)+val Q.pr T i=T.s*Q.room i)/\T.L Q.pr.k Q.n+(aS Q.n λx=>val Q.pr T x)=0:=by
 have fillN:∀x,x<Q.n->x<Q.pr.N:=λx hx=>by show x<Q.n+Q.m+Q.n;lia
 -- a relation of the aKL and one more
 have rel:∀(u:Nat)(E:Nat->Int)(V:Int)(w:Nat->Int)(ρ0:Int),At Q.pr T u E V->(∀x,x<Q.n->Q.pr.a u x=w x)->Q.pr.c u=ρ0->V+(aS Q.n λx=>w x*val Q.pr T x)=T.s*ρ0:=λu E V w ρ0 hA ha hc=>by
  have ev:=I.eval (q:=Q.n+1) (ρ:=λm=>if m<Q.n then w m else 1) (u:=λm=>if m<Q.n then m else u) (E:=λm=>open Classical in if hm:m<Q.n then (LB I (fillN m hm)).choose else E) (V:=λm=>if m<Q.n then val Q.pr T m else V) (ρ0:=ρ0) (λm hm=>by
   grind) (λx hx=>by
   have hx:x<Q.n:=hx;rw[aS,Â ∅,Â ∅,ha x hx,cP (k:=x) hx λm hm hne=>by rw[Á hm,Á hm,zG hm,Â λz=>hne z.symm];lia,Á hx,Á hx,zG hx,Á rfl];lia) (by
   rw[aS,Â ∅,Â ∅,hc,fM λm hm=>by rw[Á hm,Á hm,WH hm];lia];lia)
  rw[aS,Â ∅,Â ∅]at ev;have e1:(aS Q.n λm=>(if m<Q.n then w m else 1)*(if m<Q.n then val Q.pr T m else V))=aS Q.n λx=>w x*val Q.pr T x:=bE λm hm=>by rw[Á hm,Á hm]
  rw[e1]at ev;lia
 refine⟨λr hr=>?_,λi hi=>?_,?_⟩
 .obtain⟨E,hA⟩:=LB I (u:=Q.n+r) (by show Q.n+r<Q.n+Q.m+Q.n;lia)
  exact rel _ E _ (Q.row r) (Q.top r) hA (λx _=>Ϣ hr) (ϣ hr)
 .obtain⟨E,hA⟩:=LB I (u:=Q.n+Q.m+i) (by show Q.n+Q.m+i<Q.n+Q.m+Q.n;lia)
  have:=rel _ E _ (λx=>if x=i then 1 else 0) (Q.room i) hA (λx _=>WG hi) (WI hi);rw[cP (k:=i) hi λx _ hne=>by rw[Â hne];lia,Á rfl]at this;lia
 .have hA:=I.at_held (r:=Q.pr.k) (Ç _)
  rw[I.hk]at hA;have:=rel _ _ _ (λ_=>1) 0 hA (λx _=>LA) WJ;have e:(aS Q.n λx=>1*val Q.pr T x)=aS Q.n λx=>val Q.pr T x:=bE λx _=>by lia
  rw[e]at this;have this:T.L Q.pr.k Q.n+(aS Q.n λx=>val Q.pr T x)=T.s*0:=this;lia
end
end Sx
namespace Sx
def simplex_ind{P:Pr}{σ:Int}{Good:Tab->Prop}(step:∀T,Inv P σ T->(∀p d,Ch P T p d->Good (swap T p d))->Good T)(T:Tab)(I:Inv P σ T):Good T:=by
 refine Ą λh=>?_;have nx:∀B:{T:Tab // Inv P σ T/\¬Good T},∃pd:Nat×Nat,Ch P B.1 pd.1 pd.2/\¬Good (swap B.1 pd.1 pd.2):=λB=>by
  refine Ą λz=>B.2.2 (step B.1 B.2.1 λp d C=>?_);exact Ą λg=>z ⟨(p,d),C,g⟩
 let nxt:{T:Tab // Inv P σ T/\¬Good T}->{T:Tab // Inv P σ T/\¬Good T}:=λB=>⟨swap B.1 (nx B).choose.1 (nx B).choose.2,(nx B).choose_spec.1.inv B.2.1,(nx B).choose_spec.2⟩;let sq:Nat->{T:Tab // Inv P σ T/\¬Good T}:=λi=>Nat.rec ⟨T,I,h⟩ (λ_ B=>nxt B) i;have R:I9 P σ (λi=>(sq i).1) (λi=>(nx (sq i)).choose.1) (λi=>(nx (sq i)).choose.2) (most P.N):=⟨I,λi _=>(nx (sq i)).choose_spec.1,λi _=>rfl⟩;exact absurd R.most (ø _)
structure LT where
 s:Int
 free:ZK
 held:ZK
 lines:List (ZK)
 goal:ZK
structure LnR(n:Nat)(ln:ZK)(g:Nat->Int):Prop where
 len:ln.length=n+1
 at':∀j,j<=n->ln[j]?=some (g j)
def LnR.getD(h:LnR n ln g)(hj:j<=n):ln.getD j 0=g j:=by
 rw[Ë,h.at' j hj];rfl
structure Rp(P:Pr)(L:LT)(T:Tab):Prop where
 s:L.s=T.s
 fl:L.free.length=P.n
 hl:L.held.length=P.k
 ll:L.lines.length=P.k
 f:∀j,j<P.n->L.free[j]?=some (T.f j:Int)
 h:∀r,r<P.k->L.held[r]?=some (T.h r:Int)
 l:∀r,r<P.k->∃ln,L.lines[r]?=some ln/\LnR P.n ln (T.L r)
 g:LnR P.n L.goal (T.L P.k)
def clearL(ln pv:ZK)(d:Nat)(s:Int):ZK:=(List.zipWith (λone other=>(-pv.getD d 0*one+ln.getD d 0*other)/s) ln pv).set d (ln.getD d 0)
def turnL(pv:ZK)(d:Nat)(s:Int):ZK:=(pv.map λx=>-x).set d (-s)
def swapL(L:LT)(p d:Nat):LT where
 s:=-(L.lines.getD p []).getD d 0
 free:=L.free.set d (L.held.getD p 0)
 held:=L.held.set p (L.free.getD d 0)
 lines:=(L.lines.map λln=>clearL ln (L.lines.getD p []) d L.s).set p (turnL (L.lines.getD p []) d L.s)
 goal:=clearL L.goal (L.lines.getD p []) d L.s
def HW{ln pv:ZK}(ha:LnR n ln a)(hb:LnR n pv b)(hd:d<=n):LnR n (clearL ln pv d s) λj=>if j=d then a d else (-b d*a j+a d*b j)/s:=by
 refine⟨by unfold clearL;rw[Ö,List.length_zipWith,ha.len,hb.len,Nat.min_self],λj hj=>?_⟩
 unfold clearL;rw[Ă,ha.getD hd,hb.getD hd];by_cases e:d=j
 .rw[Á e,Á (by rw[List.length_zipWith,ha.len,hb.len,Nat.min_self];exact Nat.lt_succ_of_le ‹_›)]
  grind
 .rw[Â e,List.getElem?_zipWith,ha.at' j hj,hb.at' j hj]
  show _=some (if j=d then _ else _);rw[Â (Í e)]
def aBH{pv:ZK}(hb:LnR n pv b)(hd:d<=n):LnR n (turnL pv d s) λj=>if j=d then -s else -b j:=by
 refine⟨by unfold turnL;rw[Ö,Å,hb.len],λj hj=>?_⟩
 unfold turnL;rw[Ă];by_cases e:d=j
 .rw[Á e,Á (by rw[Å,hb.len];exact Nat.lt_succ_of_le ‹_›)]
  grind
 .rw[Â e,Ï,hb.at' j hj]
  grind
def Rp.swap(R:Rp P L T)(hp:p<P.k)(hd:d<P.n):Rp P (swapL L p d) (swap T p d):=by
 let⟨pv,e1,e2⟩:=R.l p hp;have eP:L.lines.getD p []=pv:=by rw[Ë,e1];rfl
 have eH:L.held.getD p 0=T.h p:=by rw[Ë,R.h p hp];rfl
 have eF:L.free.getD d 0=T.f d:=by rw[Ë,R.f d hd];rfl
 refine⟨?_,by show (L.free.set _ _).length=_;rw[Ö,R.fl],by show (L.held.set _ _).length=_;rw[Ö,R.hl],by show ((L.lines.map _).set _ _).length=_;rw[Ö,Å,R.ll],λj hj=>?_,λr hr=>?_,λr hr=>?_,?_⟩
 .show -(L.lines.getD p []).getD d 0=-T.L p d
  rw[eP,e2.getD 'a']
 .show (L.free.set d (L.held.getD p 0))[j]?=some ((if j=d then T.h p else T.f j:Nat):Int)
  rw[Ă,eH];by_cases e:d=j
  .rw[Á e,Á (by rw[R.fl];assumption),Á e.symm]
  .rw[Â e,Â (Í e),R.f j hj]
 .show (L.held.set p (L.free.getD d 0))[r]?=some ((if r=p then T.f d else T.h r:Nat):Int)
  rw[Ă,eF];by_cases e:p=r
  .rw[Á e,Á (by rw[R.hl];assumption),Á e.symm]
  .rw[Â e,Â (Í e),R.h r hr]
 .show ∃ln,((L.lines.map λln=>clearL ln (L.lines.getD p []) d L.s).set p (turnL (L.lines.getD p []) d L.s))[r]?=some ln/\LnR P.n ln (λj=>if r=p then (if j=d then -T.s else -T.L p j)else (if j=d then T.L r d else (-T.L p d*T.L r j+T.L r d*T.L p j)/T.s))
  rw[Ă,eP,R.s];by_cases e:p=r
  .rw[Á e,Á 'i']
   refine⟨_,rfl,?_⟩;have:=aBH (s:=T.s) e2 (d:=d) 'a'
   grind
  .obtain⟨ln,h1,h2⟩:=R.l r hr
   rw[Â e,Ï,h1];refine⟨_,rfl,?_⟩;simp![Â (Í e)];exact HW h2 e2 'a'
 .show LnR P.n (clearL L.goal (L.lines.getD p []) d L.s) (λj=>if P.k=p then (if j=d then -T.s else -T.L p j)else (if j=d then T.L P.k d else (-T.L p d*T.L P.k j+T.L P.k d*T.L p j)/T.s))
  simp![Â (show ¬P.k=p by exact Û ‹_›)];rw[eP,R.s];exact HW R.g e2 'a'
def startL(Æ:ZE)(Ã:ZK):LT where
 s:=1
 free:=(List.range Ã.length).map λ(i:Nat)=>(i:Int)
 held:=(List.range (Æ.length+Ã.length)).map λ(i:Nat)=>((Ã.length+i:Nat):Int)
 lines:=(Æ.map λr=>r.1++[r.2])++(List.range Ã.length).map λ(i:Nat)=>((List.replicate Ã.length 0).set i 1)++[Ã.getD i 0]
 goal:=List.replicate Ã.length 1++[0]
def lpOf(Æ:ZE)(Ã:ZK):Lp where
 n:=Ã.length
 m:=Æ.length
 row:=λr x=>(Æ.getD r ([],0)).1.getD x 0
 top:=λr=>(Æ.getD r ([],0)).2
 room:=λi=>Ã.getD i 0
def LnR.snoc{v:Nat->Int}(h1:a.length=n)(h2:∀j,j<n->a[j]?=some (v j))(h3:v n=b):LnR n (a++[b]) v:=⟨by rw[Ñ,h1];rfl,λj hj=>by
 by_cases c:j<n
 .rw[ï (by rw[h1];exact c)]
  exact h2 j c
 .obtain rfl:n=j:=Nat.le_antisymm (ä.mp c) hj
  rw[ã (by rw[h1];exact Ç _),h1,Nat.sub_self,h3];rfl⟩
def start_ok(hr:∀r∈Æ,r.1.length=Ã.length):Rp (lpOf Æ Ã).pr (startL Æ Ã) (lpOf Æ Ã).start:=by
 have L1:∀r j,j<Ã.length->(lpOf Æ Ã).start.L r j=(lpOf Æ Ã).pr.a (Ã.length+r) j:=λr j hj=>Á hj;have L2:∀r,(lpOf Æ Ã).start.L r Ã.length=(lpOf Æ Ã).pr.c (Ã.length+r):=λr=>Â (ø _);have lm:(Æ.map λr=>r.1++[r.2]).length=Æ.length:=Å ..;have lr:∀{f:Nat->ZK},((List.range Ã.length).map f).length=Ã.length:=λ{f}=>by rw[Å,List.length_range]
 refine⟨rfl,by show ((List.range _).map _).length=Ã.length;rw[Å,List.length_range],by show ((List.range _).map _).length=Æ.length+Ã.length;rw[Å,List.length_range],by show List.length (_++_)=Æ.length+Ã.length;rw[Ñ,lm,lr],λj hj=>?_,λr hr'=>?_,λr hr'=>?_,?_⟩
 .show ((List.range Ã.length).map _)[j]?=_
  rw[Ï,ÿ (n:=Ã.length) hj];rfl
 .show ((List.range (Æ.length+Ã.length)).map _)[r]?=_
  rw[Ï,ÿ (n:=Æ.length+Ã.length) hr'];rfl
 .show ∃ln,(List.append _ _)[r]?=some ln/\LnR Ã.length ln _
  rw[List.append_eq];by_cases c:r<Æ.length
  .have hg:Æ.getD r ([],0)=Æ[r]:=by rw[Ë,É c];rfl
   have hl:=hr Æ[r] (ă c);rw[ï (by rw[lm];exact c),Ï,É c];refine⟨_,rfl,LnR.snoc hl (λj hj=>?_) ?_⟩
   .rw[L1 r j hj,show (lpOf Æ Ã).pr.a (Ã.length+r) j=_ from Ϣ (Q:=lpOf Æ Ã) c]
    show _=some ((Æ.getD r ([],0)).1.getD j 0);rw[hg,Ë,É (by rw[hl];exact hj)];rfl
   .rw[L2,show (lpOf Æ Ã).pr.c (Ã.length+r)=_ from ϣ (Q:=lpOf Æ Ã) c]
    show (Æ.getD r ([],0)).2=_;rw[hg]
  .obtain⟨i,rfl⟩:=Nat.exists_eq_add_of_le (ä.mp c)
   have ci:i<Ã.length:=Nat.lt_of_add_lt_add_left hr';rw[ã (by rw[lm];exact Nat.le_add_right _ _),lm,Nat.add_sub_cancel_left,Ï,ÿ ci];refine⟨_,rfl,LnR.snoc (by rw[Ö,í]) (λj hj=>?_) ?_⟩
   .rw[L1 _ j hj,<- Nat.add_assoc,show (lpOf Æ Ã).pr.a (Ã.length+Æ.length+i) j=_ from WG (Q:=lpOf Æ Ã) ci,Ă,ā,í]
    by_cases e:i=j
    .rw[Á e,Á ci,Á e.symm]
    .rw[Â e,Á hj,Â (Í e)]
   .rw[L2,<- Nat.add_assoc,show (lpOf Æ Ã).pr.c (Ã.length+Æ.length+i)=_ from WI (Q:=lpOf Æ Ã) ci]
    rfl
 .have eN:Ã.length+(lpOf Æ Ã).pr.k=(lpOf Æ Ã).pr.N:=(Nat.add_assoc _ _ _).symm
  refine LnR.snoc (n:=Ã.length) (í ..) (λj hj=>?_) ?_
  .rw[L1 _ j hj,eN,LA,ā,Á hj]
  .rw[L2,eN,WJ]
end Sx
namespace Sx
def BestC(G l:Nat->Int)(f:Nat->Nat)(j:Nat):Option Nat->Prop
 |none=>∀i,i<j->0<=l i
 |some b=>b<j/\l b<0/\∀i,i<j->l i<0->(G b*-l i<G i*-l b\/(G b*-l i=G i*-l b/\f b<=f i))
section
def BestC.zero:BestC G l f 0 none:=λi hi=>by grind
def BestC.skip(h:BestC G l f j o)(hj:¬l j<0):BestC G l f (j+1) o:=by
 cases o with
 |none=>
  intro i hi;by_cases e:i=j
  .grind
  .exact h i ∅
 |some b=>
  let⟨h1,h2,h3⟩:=h;refine⟨by grind,h2,λi hi hn=>?_⟩
  grind
def BestC.first(h:BestC G l f j none)(hj:l j<0):BestC G l f (j+1) (some j):=by
 refine⟨by exact ç _,hj,λi hi hn=>?_⟩;by_cases e:i=j
 .grind
 .exact absurd (h i ∅) ∅
def BestC.worse(h:BestC G l f j (some b))(na:¬(G j*-l b<G b*-l j\/(G j*-l b=G b*-l j/\f j<f b))):BestC G l f (j+1) (some b):=by
 let⟨h1,h2,h3⟩:=h;refine⟨by grind,h2,λi hi hn=>?_⟩;by_cases e:i=j
 .subst e
  generalize hx:G i*-l b=x at na⊢;generalize hy:G b*-l i=y at na⊢;omega
 .exact h3 i ∅ hn
def B4{A B C a b c:Int}(ha:0<a)(hb:0<b)(hc:0<c)(h1:A*b<=B*a)(h2:B*c<=C*b):A*c<=C*a:=by
 have e1:A*b*c<=B*a*c:=Ē h1 (by exact ó ‹_›);have e2:B*c*a<=C*b*a:=Ē h2 (by exact ó ‹_›);have e3:(A*c)*b<=(C*a)*b:=by
  have p1:A*b*c=(A*c)*b:=by grind
  have p2:B*a*c=B*c*a:=by grind
  have p3:C*b*a=(C*a)*b:=by grind
  lia
 simp_all
def QR{A B C a b c:Int}(ha:0<a)(hb:0<b)(hc:0<c)(h1:A*b<=B*a)(h2:B*c<=C*b)(h:A*b<B*a\/B*c<C*b):A*c<C*a:=by
 have p1:A*b*c=(A*c)*b:=by grind
 have p2:B*a*c=B*c*a:=by grind
 have p3:C*b*a=(C*a)*b:=by grind
 have e1:A*b*c<=B*a*c:=Ē h1 (by exact ó ‹_›);have e2:B*c*a<=C*b*a:=Ē h2 (by exact ó ‹_›);have e3:(A*c)*b<(C*a)*b:=by
  rcases h with h|h
  .have e4:A*b*c<B*a*c:=Int.mul_lt_mul_of_pos_right h hc
   lia
  .have e4:B*c*a<C*b*a:=Int.mul_lt_mul_of_pos_right h ha
   lia
 simp_all
def BestC.better(h:BestC G l f j (some b))(hj:l j<0)(ha:G j*-l b<G b*-l j\/(G j*-l b=G b*-l j/\f j<f b)):BestC G l f (j+1) (some j):=by
 let⟨h1,h2,h3⟩:=h;refine⟨by exact ç _,hj,λi hi hn=>?_⟩;by_cases e:i=j
 .grind
 .have q:=h3 i ∅ hn
  have L1:G j*-l b<=G b*-l j:=by rcases ha with z|z<;>lia
  have L2:G b*-l i<=G i*-l b:=by rcases q with z|z<;>lia
  by_cases s:G j*-l b<G b*-l j\/G b*-l i<G i*-l b
  .exact .inl (QR ∅ ∅ ∅ L1 L2 s)
  .have s1:G j*-l b=G b*-l j:=by lia
   have s2:G b*-l i=G i*-l b:=by lia
   have le:=B4 ∅ ∅ ∅ L1 L2;have ge:=B4 (A:=G i) (B:=G b) (C:=G j) (a:=-l i) (b:=-l b) (c:=-l j) ∅ ∅ ∅ ∅ ∅;refine .inr ⟨by omega,?_⟩
   grind
end
def ch_of(hp:p<P.k)(neg:T.L p P.n<0)(first:∀r,r<P.k->T.L r P.n<0->T.h p<=T.h r)(hb:BestC (T.L P.k) (T.L p) T.f P.n (some d)):Ch P T p d:=⟨hp,neg,first,hb.1,hb.2.1,hb.2.2⟩
end Sx
namespace Sx
def zH{X:Int}(hX:0<=X):∀{n:Nat}{f:Nat->Int},(∀i,i<n->(f i).natAbs<=X.natAbs)->(aS n f).natAbs<=n*X.natAbs
 |0,_,_=>by simp[aS]
 |n+1,f,h=>by
  rw[aS];have h1:=zH hX (n:=n) (f:=f) λi hi=>h i (by exact Nat.lt_succ_of_lt ‹_›);have h2:=h n (by exact ç _);have h3:=Int.natAbs_add_le (aS n f) (f n);rw[Nat.add_mul];lia
def aBI(i:Nat):(ą i).natAbs=1:=by
 unfold ą;split<;>rfl
def fac:Nat->Nat
 |0=>1
 |n+1=>(n+1)*fac n
def EL :∀{n:Nat}{M:Nat->jW},(∀r c,r<n->c<n->(M r c).natAbs<=B)->(c6 n M).natAbs<=fac n*B^n
 |0,M,_=>by simp[c6,fac]
 |n+1,M,h=>by
  rw[c6];have key:∀i,i<n+1->(ą i*M i 0*c6 n (fB M i)).natAbs<=((B*(fac n*B^n):Nat):Int).natAbs:=λi hi=>by
   have ih:=EL (B:=B) (n:=n) (M:=fB M i) λr c hr hc=>by
    unfold fB;refine h _ _ ?_ (by exact Nat.succ_lt_succ ‹_›);unfold skip;split<;>lia
   rw[Int.natAbs_mul,Int.natAbs_mul,Int.natAbs_natCast];have h1:(ą i).natAbs=1:=aBI i;rw[h1,Nat.one_mul];exact Nat.mul_le_mul (h i 0 hi (by exact ý _)) ih
  have:=zH (X:=((B*(fac n*B^n):Nat):Int)) ∅ key;rw[Int.natAbs_natCast]at this;refine Õ this (ö ?_);rw[fac,Nat.pow_succ]
  grind
theorem Inv.small(I:Inv P σ T)(ha:∀u x,u<=P.N->x<P.n->(P.a u x).natAbs<=A)(hc:∀u,u<=P.N->(P.c u).natAbs<=C):
  T.s.natAbs<=fac P.n*A^P.n/\(∀r j,r<=P.k->j<P.n->(T.L r j).natAbs<=fac P.n*A^P.n)/\∀r,r<=P.k->(T.L r P.n).natAbs<=(P.n+1)*(fac P.n*A^P.n*C):=by
 have sg:σ.natAbs=1:=by
  have:=congrArg Int.natAbs I.sg;rw[Int.natAbs_mul]at this;have h1:(1:Int).natAbs=1:=rfl;rw[h1]at this;exact Nat.eq_one_of_mul_eq_one_left this
 have hN:∀r,r<=P.k->T.h r<=P.N:=λr hr=>by
  by_cases e:r=P.k
  .rw[e,I.hk];exact Ç _
  .exact È (I.hN r (by exact Nat.lt_of_le_of_ne ‹_› ‹_›))
 have hs:T.s.natAbs<=fac P.n*A^P.n:=by
  rw[I.sd,Int.natAbs_mul,sg,Nat.one_mul];exact EL λr c hr hcn=>ha _ _ (È (I.fN r hr)) hcn
 have hl:∀r j,r<=P.k->j<P.n->(T.L r j).natAbs<=fac P.n*A^P.n:=λr j hr hj=>by
  rw[I.ld r hr j hj,Int.natAbs_mul,Int.natAbs_neg,sg,Nat.one_mul];refine EL λq c hq hcn=>?_;by_cases e:q=j
  .subst e;rw[aN];exact ha _ _ (hN r hr) hcn
  .rw[aG e];exact ha _ _ (È (I.fN q hq)) hcn
 refine⟨hs,hl,λr hr=>?_⟩;rw[I.lc r hr];have h1:(T.s*P.c (T.h r)).natAbs<=fac P.n*A^P.n*C:=by
  rw[Int.natAbs_mul];exact Nat.mul_le_mul hs (hc _ (hN r hr))
 have h2:=zH (X:=((fac P.n*A^P.n*C:Nat):Int)) ∅ (n:=P.n) (f:=λj=>T.L r j*P.c (T.f j)) λj hj=>by
  rw[Int.natAbs_mul,Int.natAbs_natCast];exact Nat.mul_le_mul (hl r j hr hj) (hc _ (È (I.fN j hj)))
 rw[Int.natAbs_natCast]at h2;have h3:=Int.natAbs_add_le (T.s*P.c (T.h r)) (aS P.n λj=>T.L r j*P.c (T.f j));rw[Nat.add_mul];lia
end Sx
namespace L2
open PySem PySem.Spec
def WL(h:∀(K M L:ZO)(S:D->ZO),(∀δ,I δ->K δ)->(∀d δ,R d δ->S d δ)->bO u δ K M L S):bO u δ I N C R:=h I N C R (λ_=>id) λ_ _=>id
def lE{d:D}(h:aV f δ λa δ1=>a=d/\δ1=δ2):f δ=.ok d δ2:=by
 let⟨a,δ1,e,rfl,rfl⟩:=h.ex;exact e
end L2
namespace Toy
open PySem L2
def FD(a b:Nat):Nat.gcd b (a % b)=Nat.gcd a b:=by
 rw[Nat.gcd_comm b,<- Nat.gcd_rec,Nat.gcd_comm]
def aBJ{a b:Nat}(h:0<b):C1 (.int a) (.int b)=some (.int ((a % b:Nat):Int)):=by
 rw[FY ∅];rfl
def NW:∀(n a b:Nat)(o:ZL),b<=n->∃o',fD (dB (gJ C4 (bA 1) (dC (.int 0)))) (cX (eQ 2 (gJ C1 (bA 0) (bA 1))) (cX (eQ 0 (bA 1)) (eQ 1 (bA 2)))) [some (.int a),some (.int b),o]=.ok .next [some (.int (Nat.gcd a b:Nat)),some (.int 0),o']
 |n,a,0,o,_=>⟨o,by
  rw[eR];have:dB (gJ C4 (bA 1) (dC (.int 0))) [some (.int a),some (.int (0:Nat)),o]=.ok false [some (.int a),some (.int (0:Nat)),o]:=pL (iE (bQ rfl) fY rfl);rw[this,Nat.gcd_zero_right];rfl⟩
 |0,a,b+1,o,h=>absurd h (by exact absurd ‹_› (Nat.not_lt_zero _))
 |n+1,a,b+1,o,h=>by
  let⟨o',ih⟩:=NW n (b+1) (a % (b+1)) (some (.int ((a % (b+1):Nat):Int))) (by have:=Nat.mod_lt a (show 0<b+1 by exact ý _);lia);refine⟨o',?_⟩;rw[eR];have c:dB (gJ C4 (bA 1) (dC (.int 0))) [some (.int a),some (.int (b+1:Nat)),o]=.ok true [some (.int a),some (.int (b+1:Nat)),o]:=by
   refine pL (iE (bQ rfl) fY ?_);rw[MH];have:¬((b+1:Nat):Int)=0:=by lia
   simp;assumption
  rw[c];simp![aW,if_true];have e:cX (eQ 2 (gJ C1 (bA 0) (bA 1))) (cX (eQ 0 (bA 1)) (eQ 1 (bA 2))) [some (.int a),some (.int (b+1:Nat)),o]=.ok .next [some (.int (b+1:Nat)),some (.int ((a % (b+1):Nat):Int)),some (.int ((a % (b+1):Nat):Int))]:=by
   simp![cX,eQ,gJ,bA,List.getElem?_cons_zero,List.getElem?_cons_succ,aW,aBJ (show 0<b+1 by exact ý _)];rfl
  rw[e];simp![aW];rw[ih,FD]
def aHH(hb:body=cX (fD (dB (gJ C4 (bA 1) (dC (.int 0)))) (cX (eQ 2 (gJ C1 (bA 0) (bA 1))) (cX (eQ 0 (bA 1)) (eQ 1 (bA 2))))) (tZ (bA 0)))(a b:Nat):aP 3 [] 0 body [.int a,.int b]=.ok (.int (Nat.gcd a b:Nat)) []:=by
 subst hb;let⟨o,h⟩:=NW b a b none (Ç _);sleep 4;refine TH (bO.of (fl:=.next) h ?_);dsimp![TF];exact TJ (aV.of (bQ rfl) ⟨rfl,rfl⟩)
def aKM(a b:Nat):i9 [.int a,.int b]=.ok (.int (Nat.gcd a b:Nat)) []:=aHH rfl a b
def fr(p:Int×Int):D:=.tuple [.int p.1,.int p.2]
abbrev vA(ps:ZF):D:=.list (ps.map fr)
def dv(t b:Int):Int:=if b<0 then -(Nat.gcd t.natAbs b.natAbs:Int)else (Nat.gcd t.natAbs b.natAbs:Int)
def HX(hb:b≠0)(hl:(dv t b).natAbs.log2<9000):lZ [.int t,.int b]=.ok (.tuple [.int (t.fdiv (dv t b)),.int (b.fdiv (dv t b))]) []:=by
 have hg:0<Nat.gcd t.natAbs b.natAbs:=Nat.gcd_pos_of_pos_right _ ∅;have h0:dv t b≠0:=by unfold dv;split<;>lia
 have f1:∀i:Int,FR (.int i) (.int (dv t b))=some (.int (i.fdiv (dv t b))):=λi=>Á ⟨h0,hl⟩;sleep 4;show bO qF [some (.int t),some (.int b),none] _ _ _ _;unfold qF;dsimp? [hb,aKM,decide_eq_true_eq];by_cases hn:b<0
 .have e:dv t b=-(Nat.gcd t.natAbs b.natAbs:Int):=by unfold dv;rw[Á hn]
  rw[e]at f1⊢;dsimp? [hn,f1]
 .have e:dv t b=(Nat.gcd t.natAbs b.natAbs:Int):=by unfold dv;rw[Â hn]
  rw[e]at f1⊢;dsimp? [hn,f1]
end Toy
namespace L2
open PySem PySem.Spec
def zI{α:Type}{enc g:α->D}{e:M D}{δ:DS}:∀{xs:List α}{acc:ZI}{o:ZL},(∀x∈xs,e (some (enc x)::δ)=.ok (g x) (some (enc x)::δ))->acc.length+xs.length<=sizeLine->∃o',bP (eO 0) eA e (xs.map enc) acc (o::δ)=.ok (acc++xs.map g) (o'::δ)
 |[],acc,o,_,_=>⟨o,by simp[bP]⟩
 |x::xs,acc,o,h,hl=>by
  have hd:=h x Ô;rw[Ý]at hl;let⟨o',ih⟩:=zI (xs:=xs) (acc:=acc++[g x]) (o:=some (enc x)) (λy hy=>h y (Ò _ hy)) (by simp;lia);refine⟨o',?_⟩;rw[Ð];unfold bP;have e1:eO 0 (enc x) (o::δ)=some (some (enc x)::δ):=by simp[eO]
  rw[e1];show Res.bind (eA (some (enc x)::δ)) _=_;simp![eA,Res.bind,if_true,hd];rw[Á ∅,ih];simp
def cZ{α:Type}{enc g:α->D}{xs:List α}{f:M (ZI)}{e:M D}{δ:DS}(hf:f δ=.ok (xs.map enc) δ)(hl:xs.length<=1000)(he:∀x∈xs,aV e (some (enc x)::δ) λa δ1=>a=g x/\δ1=some (enc x)::δ):d9 1 (eO 0) f eA e δ=.ok (.list (xs.map g)) δ:=by
 unfold d9;rw[hf];let⟨o',h⟩:=zI (acc:=[]) (o:=none) (λx hx=>cO (he x hx)) (Õ (by simpa using hl) (show 1000<=sizeLine by decide));simp![Res.bind];rw[show List.replicate 1 (none:ZL)++δ=none::δ from rfl,h];simp
def oW{α:Type}{enc A B g:α->D}{xs:List α}{f:M (ZI)}{e:M D}{δ:DS}(hE:∀x,enc x=.tuple [A x,B x])(hf:f δ=.ok (xs.map enc) δ)(hl:xs.length<=1000)(he:∀x∈xs,aV e 'v' λv δ1=>v=g x/\δ1=some (A x)::some (B x)::δ):d9 2 (t0 [0,1]) f eA e δ=.ok (.list (xs.map g)) δ:=by
 have main:∀(xs:List α)(acc:ZI)(o1 o2:ZL),(∀x∈xs,e 'v'=.ok (g x) 'v')->acc.length+xs.length<=sizeLine->∃o1' o2',bP (t0 [0,1]) eA e (xs.map enc) acc (o1::o2::δ)=.ok (acc++xs.map g) (o1'::o2'::δ):=by
  intro xs
  induction xs with
  |nil=>exact λacc o1 o2 _ _=>⟨o1,o2,by simp[bP]⟩
  |cons x xs ih=>
   intro acc o1 o2 h hl;have hd:=h x Ô;rw[Ý]at hl;let⟨o1',o2',ih⟩:=ih (acc++[g x]) (some (A x)) (some (B x)) (λy hy=>h y (Ò _ hy)) (by simp;lia);refine⟨o1',o2',?_⟩;rw[Ð];unfold bP;have e1:t0 [0,1] (enc x) (o1::o2::δ)=some 'v':=by rw[hE];simp[t0,eO]
   rw[e1];show Res.bind (eA 'v') _=_;simp![eA,Res.bind,if_true,hd];rw[Á ∅,ih];simp
 unfold d9;rw[hf];let⟨o1,o2,h⟩:=main xs [] none none (λx hx=>cO (he x hx)) (Õ (by simpa using hl) (show 1000<=sizeLine by decide));simp![Res.bind];rw[show List.replicate 2 (none:ZL)++δ=none::none::δ from rfl,h];simp
def cQ(h:aV f δ λa δ1=>a=.list ds/\δ1=δ):lT f δ=.ok ds δ:=by
 unfold lT;rw[cO h];rfl
def NX{α:Type}{h:α->Bool}:∀{xs:List α},rR (xs.map λx=>.bool (h x))=some (xs.map h)
 |[]=>rfl
 |x::xs=>by
  show (rR (xs.map λx=>PyData.bool (h x))).map (h x::·)=_;rw[NX];rfl
def WM{α:Type}{enc A B g:α->D}{h:α->Bool}{xs:List α}{f:M (ZI)}{t:M Bool}{e:M D}{δ:DS}(hE:∀x,enc x=.tuple [A x,B x])(hf:f δ=.ok (xs.map enc) δ)(hl:xs.length<=1000)(ht:∀x∈xs,aV t 'v' λb δ1=>b=h x/\δ1=some (A x)::some (B x)::δ)(he:∀x∈xs,aV e 'v' λv δ1=>v=g x/\δ1=some (A x)::some (B x)::δ):d9 2 (t0 [0,1]) f t e δ=.ok (.list ((xs.filter h).map g)) δ:=by
 have main:∀(xs:List α)(acc:ZI)(o1 o2:ZL),(∀x∈xs,t 'v'=.ok (h x) 'v')->(∀x∈xs,e 'v'=.ok (g x) 'v')->acc.length+xs.length<=sizeLine->∃o1' o2',bP (t0 [0,1]) t e (xs.map enc) acc (o1::o2::δ)=.ok (acc++(xs.filter h).map g) (o1'::o2'::δ):=by
  intro xs
  induction xs with
  |nil=>exact λacc o1 o2 _ _ _=>⟨o1,o2,by simp[bP]⟩
  |cons x xs ih=>
   intro acc o1 o2 ht he hl;have hd:=ht x Ô;have hv:=he x Ô;rw[Ý]at hl;have e1:t0 [0,1] (enc x) (o1::o2::δ)=some 'v':=by rw[hE];simp[t0,eO]
   cases hk:h x with
   |true=>
    let⟨o1',o2',ih⟩:=ih (acc++[g x]) (some (A x)) (some (B x)) (λy hy=>ht y (Ò _ hy)) (λy hy=>he y (Ò _ hy)) (by simp;lia);refine⟨o1',o2',?_⟩;rw[Ð];unfold bP;rw[e1];simp![hd,hk,Res.bind,if_true,hv];rw[Á ∅,ih];simp[hk]
   |false=>
    let⟨o1',o2',ih⟩:=ih acc (some (A x)) (some (B x)) (λy hy=>ht y (Ò _ hy)) (λy hy=>he y (Ò _ hy)) 'a';refine⟨o1',o2',?_⟩;rw[Ð];unfold bP;rw[e1];simp![hd,hk,Res.bind,Bool.false_eq_true,if_false];rw[Á ∅,ih];simp[hk]
 unfold d9;rw[hf];let⟨o1,o2,q⟩:=main xs [] none none (λx hx=>by
  let⟨b,δ1,e,rfl,rfl⟩:=(ht x hx).ex;exact e) (λx hx=>cO (he x hx)) (Õ (by simpa using hl) (show 1000<=sizeLine by decide))
 simp![Res.bind];rw[show List.replicate 2 (none:ZL)++δ=none::none::δ from rfl,q];simp
end L2
namespace Toy
open PySem L2
def ixN_lt'(h:k<n):mO n (k:Int)=some k:=by
 unfold mO;rw[Á ∅,Á ∅,ú]
def eI{j:Nat}{x:α}(h:l[j]?=some x):atI l (j:Int)=some x:=by
 unfold atI;rw[ixN_lt' (Î.mp h).1];exact h
def QS{l:ZK}{j:Nat}(h:l[j]?=some x):gG (.list (l.map PyData.int)) (.int (j:Int))=some (.int x):=by
 show atI (l.map PyData.int) (j:Int)=_;refine eI ?_;rw[Ï,h];rfl
def WN{l:ZK}(hl:l.length=n+1)(h:l[n]?=some x):gG (.list (l.map PyData.int)) (.int (-1))=some (.int x):=by
 show atI (l.map PyData.int) (-1)=_;have e:mO (l.map PyData.int).length (-1)=some n:=by
  unfold mO;rw[Å,Â ⋯,Á ∅];congr 1;lia
 unfold atI;rw[e];show (l.map PyData.int)[n]?=_;rw[Ï,h];rfl
def Ť{l:List (ZK)}{j:Nat}(h:l[j]?=some x):gG (.list (l.map λx=>.list (x.map PyData.int))) (.int (j:Int))=some (.list (x.map PyData.int)):=by
 show atI (l.map λx=>PyData.list (x.map PyData.int)) (j:Int)=_;refine eI ?_;rw[Ï,h];rfl
def WO{as bs:ZK}(h1:aV f δ λa δ1=>a=.list (as.map PyData.int)/\δ1=δ)(h2:aV g δ λa δ1=>a=.list (bs.map PyData.int)/\δ1=δ):z6 f g δ=.ok ((as.zip bs).map λp=>.tuple [.int p.1,.int p.2]) δ:=by
 have e1:=cO h1;have e2:=cO h2;unfold z6;simp![aZ,e1,e2,aW];congr 1;unfold oZ;rw[List.zipWith_map,List.zip_eq_zipWith,List.map_zipWith]
def NY{ds os:ZI}(h:bO body (ds.map some++List.replicate (m0-ds.length) none) (λδ=>fU δ ps=some os) (λ_=>False) (λ_=>False) λ_ _=>False):aP m0 ps 0 body ds=.ok .none (os.map some):=by
 let⟨fl,δ1,e,q⟩:=h.ex;cases fl with
 |next=>unfold aP;rw[e];dsimp only;rw[Á rfl,q]
 |ret r=>sleep 5
 |brk=>sleep 5
 |cont=>sleep 5
section
variable {n d:Nat}{pv:ZK}{a b:Nat->Int}{s:Int}
def zJ(ha:Sx.LnR n ln a)(hb:Sx.LnR n pv b)(hd:d<=n)(hs:0<s)(hn:n<=900)(fa:∀j,j<=n->fG 4000 (a j))(fb:∀j,j<=n->fG 4000 (b j))(fs:fG 4000 s):uU [.list (ln.map .int),.list (pv.map .int),.int (d:Int),.int s]=.ok (.list ((Sx.clearL ln pv d s).map .int)) []:=by
 have e1:=QS (hb.at' d hd);have e2:=QS (ha.at' d hd);have ga:ln.getD d 0=a d:=ha.getD hd;have gb:pv.getD d 0=b d:=hb.getD hd;sleep 4;show bO uT [some (.list (ln.map .int)),some (.list (pv.map .int)),some (.int (d:Int)),some (.int s),none,none,none] _ _ _ _;unfold uT;dsimp? [e1,e2];refine aV.of (oW (xs:=ln.zip pv) (enc:=λp=>.tuple [.int p.1,.int p.2]) (A:=λp=>.int p.1) (B:=λp=>.int p.2) (g:=λp=>.int ((-b d*p.1+a d*p.2)/s)) (λ_=>rfl) (WO (by dsimp? []) (by dsimp? [])) (by rw[é,ha.len];lia) λp hp=>?_) ?_
 .obtain⟨j,hj,ej⟩:=List.getElem_of_mem hp
  rw[é,ha.len,hb.len,Nat.min_self]at hj;have p1:ln[j]?=some p.1:=by
   rw[<- ej,List.getElem_zip,É (by rw[ha.len];exact hj)]
  have p2:pv[j]?=some p.2:=by
   rw[<- ej,List.getElem_zip,É (by rw[hb.len];exact hj)]
  rw[ha.at' j (by exact Nat.le_of_lt_succ ‹_›)]at p1;rw[hb.at' j (by exact Nat.le_of_lt_succ ‹_›)]at p2;have q1:fG 4000 p.1:=by rw[<- Option.some.inj p1];exact fa j (by exact Nat.le_of_lt_succ ‹_›)
  have q2:fG 4000 p.2:=by rw[<- Option.some.inj p2];exact fb j (by exact Nat.le_of_lt_succ ‹_›)
  dsimp? [(fb d hd).neg.mulOk q1,(fa d hd).mulOk q2,aAF hs (fs.mono ⋯)]
 .have el:((ln.zip pv).map λp=>PyData.int ((-b d*p.1+a d*p.2)/s)).length=n+1:=by rw[Å,é,ha.len,hb.len,Nat.min_self]
  have ei:=ixN_lt' (show d<((ln.zip pv).map λp=>PyData.int ((-b d*p.1+a d*p.2)/s)).length by rw[el];exact Nat.lt_succ_of_le ‹_›);dsimp? [ei];unfold Sx.clearL;rw[ga,gb,List.map_set,List.zip_eq_zipWith,List.map_zipWith,List.map_zipWith]
def QT(hb:Sx.LnR n pv b)(hd:d<=n)(hn:n<=900):HE [.list (pv.map .int),.int (d:Int),.int s]=.ok (.list ((Sx.turnL pv d s).map .int)) []:=by
 sleep 4;show bO yJ [some (.list (pv.map .int)),some (.int (d:Int)),some (.int s),none] _ _ _ _;unfold yJ;dsimp? [];refine aV.of (cZ (xs:=pv) (enc:=PyData.int) (g:=λx=>.int (-x)) (cQ (by dsimp? [])) (by rw[hb.len];lia) λp hp=>by dsimp? []) ?_;have ei:=ixN_lt' (show d<(pv.map λx=>PyData.int (-x)).length by rw[Å,hb.len];exact Nat.lt_succ_of_le ‹_›);dsimp? [ei];unfold Sx.turnL;rw[List.map_set,ê];rfl
end
def tb(s f h l g:D):D:=.dict [(.none,.str "Table"),(.str "scale",s),(.str "free",f),(.str "held",h),(.str "lines",l),(.str "goal",g)]
section
def zK:gR "Table" "scale" (tb s f h l g)=some s:=by with_unfolding_all rfl
def oX:gR "Table" "free" (tb s f h l g)=some f:=by with_unfolding_all rfl
def wH:gR "Table" "held" (tb s f h l g)=some h:=by with_unfolding_all rfl
def s8:gR "Table" "lines" (tb s f h l g)=some l:=by with_unfolding_all rfl
def N0:gR "Table" "goal" (tb s f h l g)=some g:=by with_unfolding_all rfl
def HY:BP 20 "Table" "scale" (tb s f h l g)=some s:=by with_unfolding_all rfl
def HZ:BP 20 "Table" "lines" (tb s f h l g)=some l:=by with_unfolding_all rfl
def aBK:BP 20 "Table" "goal" (tb s f h l g)=some g:=by with_unfolding_all rfl
def WP:nG 20 0 "Table" "scale" y (tb s f h l g)=some (tb y f h l g):=by with_unfolding_all rfl
def WQ:nG 20 0 "Table" "lines" y (tb s f h l g)=some (tb s f h y g):=by with_unfolding_all rfl
def aBL:nG 20 0 "Table" "goal" y (tb s f h l g)=some (tb s f h l y):=by with_unfolding_all rfl
def aBM(e:mO hs.length i=some j):xX 20 "Table" "held" (.int i) v (tb s f (.list hs) l g)=some (tb s f (.list (hs.set j v)) l g):=by
 have:xX 20 "Table" "held" (.int i) v (tb s f (.list hs) l g)=(match mO hs.length i with
  |some j=>some (tb s f (.list (hs.set j v)) l g)
  |none=>none):=by with_unfolding_all rfl
 rw[this,e]
def aBN(e:mO hs.length i=some j):xX 20 "Table" "free" (.int i) v (tb s (.list hs) h l g)=some (tb s (.list (hs.set j v)) h l g):=by
 have:xX 20 "Table" "free" (.int i) v (tb s (.list hs) h l g)=(match mO hs.length i with
  |some j=>some (tb s (.list (hs.set j v)) h l g)
  |none=>none):=by with_unfolding_all rfl
 rw[this,e]
def aBO:xY "Table" "swap" (tb s f h l g):=⟨rfl,by with_unfolding_all rfl⟩
end
abbrev QU(l:List (ZK)):D:=.list (l.map λx=>.list (x.map PyData.int))
def b9(L:Sx.LT):D:=tb (.int L.s) (.list (L.free.map .int)) (.list (L.held.map .int)) (QU L.lines) (.list (L.goal.map .int))
structure Ok(P:Sx.Pr)(L:Sx.LT)(T:Sx.Tab):Prop where
 rp:Sx.Rp P L T
 pos:0<T.s
 fs:fG 4000 T.s
 fl:∀r j,r<=P.k->j<=P.n->fG 4000 (T.L r j)
 n:P.n<=900
 k:P.k<=900
def aBP(K:Ok P L T)(hp:p<P.k)(hd:d<P.n):l8 [b9 L,.int (p:Int),.int (d:Int)]=.ok .none [some (b9 (Sx.swapL L p d))]:=by
 have R:=K.rp;let⟨pv,e1,e2⟩:=R.l p hp;have eP:L.lines.getD p []=pv:=by rw[Ë,e1];rfl
 have eH:L.held.getD p 0=T.h p:=by rw[Ë,R.h p hp];rfl
 have eF:L.free.getD d 0=T.f d:=by rw[Ë,R.f d hd];rfl
 have hs:0<L.s:=by rw[R.s];exact K.pos
 have fs:fG 4000 L.s:=by rw[R.s];exact K.fs
 have i1:=Ť e1;have i2:=QS (e2.at' d 'a');have i3:=QS (R.h p hp);have i4:=QS (R.f d hd);have fp:∀j,j<=P.n->fG 4000 (T.L p j):=λj hj=>K.fl p j 'a' hj;have cg:=zJ (d:=d) (s:=L.s) R.g e2 'a' hs K.n (λj hj=>K.fl P.k j (Ç _) hj) fp fs;have ct:=QT (s:=L.s) e2 (d:=d) 'a' K.n;refine NY (os:=[b9 (Sx.swapL L p d)]) ?_;show bO l7 [some (b9 L),some (.int (p:Int)),some (.int (d:Int)),none,none,none] _ _ _ _;unfold l7 b9;dsimp? [DZ,HZ,i1];refine aV.of (cZ (xs:=L.lines) (enc:=λx=>.list (x.map PyData.int)) (g:=λln=>.list ((Sx.clearL ln pv d L.s).map PyData.int)) (cQ (by dsimp? [DZ,HZ])) (by rw[R.ll];have:=K.k;lia) λln hln=>?_) ?_
 .obtain⟨r,hr,er⟩:=List.getElem_of_mem hln
  rw[R.ll]at hr;let⟨ln',q1,q2⟩:=R.l r hr;have:ln'=ln:=by
   rw[É (by rw[R.ll];exact hr),er]at q1;exact(Option.some.inj q1).symm
  subst this;have cl:=zJ (d:=d) (s:=L.s) q2 e2 'a' hs K.n (λj hj=>K.fl r j 'a' hj) fp fs;dsimp? [DZ,HY,cl]
 .have el:(L.lines.map λln=>PyData.list ((Sx.clearL ln pv d L.s).map PyData.int)).length=P.k:=by rw[Å,R.ll]
  have ei:=ixN_lt' (show p<(L.lines.map λln=>PyData.list ((Sx.clearL ln pv d L.s).map PyData.int)).length by rw[el];assumption);have ih:=ixN_lt' (show p<(L.held.map PyData.int).length by rw[Å,R.hl];assumption);have jf:=ixN_lt' (show d<(L.free.map PyData.int).length by rw[Å,R.fl];assumption);dsimp? [DZ,HY,ct,ei,aBK,cg,yA,aBL,WQ,i2,WP,yC,VN,wH,i3,oX,i4,VJ,aBM ih,aBN jf];unfold Sx.swapL;rw[eP,eH,eF,e2.getD (by exact È ‹_›:d<=P.n)];simp![QU,List.map_set,ê,Function.comp_def]
def qT :∀(l:List (α×Int))(o:Option (α×Int)),match cS o l with
  |none=>o=none/\l=[]
  |some m=>(o=some m\/m∈l)/\(∀x∈l,m.2<=x.2)/\∀x,o=some x->m.2<=x.2
 |[],o=>by
  rw[oQ];cases o with
  |none=>exact⟨rfl,rfl⟩
  |some m=>exact⟨.inl rfl,λx hx=>(by cases hx),λx e=>by cases e;exact Int.le_refl _⟩
 |y::ys,none=>by
  have ih:=qT ys (some y);rw[show cS none (y::ys)=cS (some y) ys from rfl];cases e:cS (some y) ys with
  |none=>rw[e]at ih;exact absurd ih.1 'e'
  |some m=>
   rw[e]at ih;let⟨h1,h2,h3⟩:=ih;refine⟨.inr ?_,λx hx=>?_,λx e=>by cases e⟩
   .rcases h1 with h|h
    .cases h;exact Ô
    .exact Ò _ h
   .rcases Ì.mp hx with rfl|hx
    .exact h3 _ rfl
    .exact h2 x hx
 |y::ys,some z=>by
  have ih:=qT ys (some (if y.2<z.2 then y else z));rw[show cS (some z) (y::ys)=cS (some (if y.2<z.2 then y else z)) ys from rfl];cases e:cS (some (if y.2<z.2 then y else z)) ys with
  |none=>rw[e]at ih;exact absurd ih.1 'e'
  |some m=>
   rw[e]at ih;let⟨h1,h2,h3⟩:=ih;have h4:=h3 _ rfl;refine⟨?_,λx hx=>?_,λx e=>?_⟩
   .rcases h1 with h|h
    .have h:=Option.some.inj h
     split at h
     .subst h;exact .inr Ô
     .subst h;exact .inl rfl
    .exact .inr (Ò _ h)
   .rcases Ì.mp hx with rfl|hx
    .split at h4<;>lia
    .exact h2 x hx
   .cases e
    split at h4<;>lia
def zL{α:Type}{u k:α->Int}:∀{xs:List α},(∀x∈xs,atI hs (u x)=some (k x))->iF hs (xs.map u)=some (xs.map k)
 |[],_=>rfl
 |x::xs,h=>by
  rw[Ð,Ð];unfold iF;rw[h x Ô,zL λy hy=>h y (Ò _ hy)]
def N1{α:Type}{enc:α->D}{xs:List α}(h:aV f δ λa δ1=>a=.list (xs.map enc)/\δ1=δ):xL f δ=.ok ((xs.zipIdx.map λp=>(p.2,p.1)).map λp:Nat×α=>.tuple [.int (p.1:Int),enc p.2]) δ:=by
 have e:=cO h;unfold xL;simp![aZ,e,aW];congr 1;unfold eZ;rw[List.mapIdx_eq_zipIdx_map,ê,List.zipIdx_map,ê];rfl
def H8{α:Type}{xs:List α}{p:Nat×α}:p∈xs.zipIdx.map (λp=>(p.2,p.1))↔xs[p.1]?=some p.2:=by
 rw[Ü];constructor
 .rintro⟨q,hq,rfl⟩
  exact List.mem_zipIdx_iff_getElem?.mp hq
 .intro h
  exact⟨(p.2,p.1),List.mem_zipIdx_iff_getElem?.mpr h,rfl⟩
def zM(K:Ok P L T):
  ((∀r,r<P.k->0<=T.L r P.n)/\cB [b9 L]=.ok .none [])\/∃p,p<P.k/\T.L p P.n<0/\(∀r,r<P.k->T.L r P.n<0->T.h p<=T.h r)/\cB [b9 L]=.ok (.int (p:Int)) []:=by
 have R:=K.rp;let xs:List (Nat×ZK):=L.lines.zipIdx.map λp=>(p.2,p.1);let ys:=xs.filter λp=>decide (p.2.getD P.n 0<0);have hx:∀p∈xs,p.1<P.k/\p.2.length=P.n+1/\p.2[P.n]?=some (T.L p.1 P.n)/\p.2.getD P.n 0=T.L p.1 P.n:=λp hp=>by
  have e:=H8.mp hp;have hk:p.1<P.k:=by have:=(Î.mp e).1;rw[R.ll]at this;exact this
  let⟨ln,q1,q2⟩:=R.l p.1 hk;rw[e]at q1;have:ln=p.2:=(Option.some.inj q1).symm;subst this;exact⟨hk,q2.len,q2.at' _ (Ç _),q2.getD (Ç _)⟩
 have hall:∀r,r<P.k->∃ln,(r,ln)∈xs/\ln.getD P.n 0=T.L r P.n:=λr hr=>by
  let⟨ln,q1,q2⟩:=R.l r hr;exact⟨ln,H8.mpr q1,q2.getD (Ç _)⟩
 have ek:iF L.held (ys.map λp=>(p.1:Int))=some (ys.map λp=>(T.h p.1:Int)):=zL λp hp=>by
  have:=hx p (List.mem_filter.mp hp).1;exact eI (R.h p.1 this.1)
 have em:GU "Table" "held" (.list (ys.map λp=>PyData.int (p.1:Int))) (b9 L)=some ((cS none (ys.map λp=>((p.1:Int),(T.h p.1:Int)))).elim .none λm=>.int m.1):=by
  unfold GU b9;dsimp only;rw[wH];dsimp only;have e1:(ys.map λp=>PyData.int (p.1:Int))=(ys.map λp=>(p.1:Int)).map PyData.int:=by rw[ê];rfl
  rw[iX,e1,iX];dsimp only;rw[ek];dsimp only;rw[List.zip_map']
 have main:∀r:D,(EY r).isSome=true->(cS none (ys.map λp=>((p.1:Int),(T.h p.1:Int)))).elim PyData.none (λm=>.int m.1)=r->cB [b9 L]=.ok r []:=λr hr er=>by
  refine aQ (os:=[]) ?_;show bO kG [some (b9 L),none] _ _ _ _;unfold kG;dsimp? [];refine aV.of (WM (xs:=xs) (enc:=λp=>.tuple [.int (p.1:Int),.list (p.2.map PyData.int)]) (A:=λp=>.int (p.1:Int)) (B:=λp=>.list (p.2.map PyData.int)) (g:=λp=>.int (p.1:Int)) (h:=λp=>decide (p.2.getD P.n 0<0)) (λ_=>rfl) (N1 (enc:=λx=>.list (x.map PyData.int)) (xs:=L.lines) (by unfold b9;dsimp? [s8])) (by
   show xs.length<=1000;have:=K.k;simp![xs,Å,List.length_zipIdx,R.ll];lia) (λp hp=>by
   let⟨h1,h2,h3,h4⟩:=hx p hp;dsimp? [WN h2 h3,h4]) (λp hp=>by dsimp? [])) ?_
  dsimp? [VM,yC];rw[show (List.map (λp:Nat×ZK=>PyData.int (p.1:Int)) (xs.filter λp=>decide (p.2.getD P.n 0<0)))=ys.map λp=>PyData.int (p.1:Int)from rfl,em,er];dsimp? [];exact⟨hr,rfl,rfl⟩
 have sp:=qT (ys.map λp=>((p.1:Int),(T.h p.1:Int))) none;cases eb:cS none (ys.map λp=>((p.1:Int),(T.h p.1:Int)))with
 |none=>
  rw[eb]at sp;refine .inl ⟨λr hr=>?_,main .none rfl (by rw[eb];rfl)⟩;let⟨ln,h1,h2⟩:=hall r hr;by_cases c:T.L r P.n<0
  .exfalso
   have hm:(r,ln)∈ys:=List.mem_filter.mpr ⟨h1,decide_eq_true (by show ln.getD P.n 0<0;lia)⟩;have:ys=[]:=by simpa using sp.2
   rw[this]at hm;cases hm
  .exact Int.not_lt.mp ‹_›
 |some m=>
  rw[eb]at sp;let⟨h1,h2,_⟩:=sp;rcases h1 with h1|h1
  .cases h1
  .obtain⟨p,hp,rfl⟩:=Ü.mp h1
   let⟨m1,m2⟩:=List.mem_filter.mp hp;let⟨a1,_,_,a4⟩:=hx p m1;refine .inr ⟨p.1,a1,?_,λr hr hn=>?_,main (.int (p.1:Int)) rfl (by rw[eb];rfl)⟩
   .have:=of_decide_eq_true m2
    lia
   .obtain⟨ln,b1,b2⟩:=hall r hr
    have hm:(r,ln)∈ys:=List.mem_filter.mpr ⟨b1,decide_eq_true (by show ln.getD P.n 0<0;lia)⟩;have:=h2 _ (List.mem_map_of_mem (f:=λp:Nat×ZK=>((p.1:Int),(T.h p.1:Int))) hm);dsimp only at this;lia
def WR(K:Ok P L T){pv:ZK}(hp:p<P.k)(e2:Sx.LnR P.n pv (T.L p))(hc:c<P.n)(hb:b<P.n):
  sR [b9 L,.list (pv.map .int),.int (c:Int),.int (b:Int)]=.ok (.bool (decide (T.L P.k c*-T.L p b<T.L P.k b*-T.L p c\/(T.L P.k c*-T.L p b=T.L P.k b*-T.L p c/\T.f c<T.f b)))) []:=by
 have R:=K.rp;have g1:=QS (R.g.at' c 'a');have g2:=QS (R.g.at' b 'a');have l1:=QS (e2.at' c 'a');have l2:=QS (e2.at' b 'a');have f1:=QS (R.f c hc);have f2:=QS (R.f b hb);have m1:IntMulOk (T.L P.k c) (-T.L p b):=(K.fl P.k c (Ç _) 'a').mulOk (K.fl p b 'a' 'a').neg;have m2:IntMulOk (T.L P.k b) (-T.L p c):=(K.fl P.k b (Ç _) 'a').mulOk (K.fl p c 'a' 'a').neg;sleep 4;show bO l5 [some (b9 L),some (.list (pv.map .int)),some (.int (c:Int)),some (.int (b:Int)),none,none] _ _ _ _;unfold l5 b9;dsimp? [N0,g1,g2,l1,l2,m1,m2];generalize T.L P.k c*-T.L p b=x;generalize T.L P.k b*-T.L p c=y;have ef:((T.f c:Int)<(T.f b:Int))↔T.f c<T.f b:=by lia
 by_cases h1:x<y
 .dsimp? [h1,decide_true]
  simp
 .by_cases h2:x=y
  .subst h2
   dsimp? [h1,decide_false,decide_true,oX,f1,f2];simp![ef];simp
  .dsimp? [h1,h2,decide_false]
   simp
def Ϥ:Ħ .none .none=some 'u':=rfl
def ť:Ħ (.int i) .none=some (.bool false):=rfl
def aKO:xE .none .none=some (.bool false):=rfl
def aKP:xE (.int i) .none=some 'u':=rfl
def oD:Option Nat->D
 |none=>.none
 |some d=>.int (d:Int)
def QV(K:Ok P L T){pv:ZK}(hp:p<P.k)(e2:Sx.LnR P.n pv (T.L p)):∃o,Sx.BestC (T.L P.k) (T.L p) T.f P.n o/\l6 [b9 L,.list (pv.map .int)]=.ok (oD o) []:=by
 have R:=K.rp;have main:=jN (m0:=4) (rm:=0) (body:=iS) (ds:=[b9 L,.list (pv.map .int)]) (P:=λr=>∃o,Sx.BestC (T.L P.k) (T.L p) T.f P.n o/\r=oD o) (by
  show bO iS [some (b9 L),some (.list (pv.map .int)),none,none] _ _ _ _;unfold iS;dsimp? [];refine KA (j:=P.n) (δ1:=_) (λk δ=>∃o o3,Sx.BestC (T.L P.k) (T.L p) T.f k o/\δ=[some (b9 L),some (.list (pv.map .int)),some (oD o),o3]) (lE (by unfold b9;dsimp? [oX,Å,R.fl];rfl)) (by have:=K.n;lia) ⟨none,none,Sx.BestC.zero,rfl⟩ ?_ ?_
  .rintro k δ hk ⟨o,o3,hB,rfl⟩
   refine⟨_,rfl,?_⟩;have l1:=QS (e2.at' k 'a');by_cases hn:T.L p k<0
   .cases o with
    |none=>
     dsimp? [l1,hn,decide_true,oD,Ϥ];exact⟨some k,_,hB.first hn,rfl⟩
    |some b=>
     have ha:=WR K hp e2 (c:=k) (b:=b) hk (by have:=hB.1;exact Nat.lt_trans ‹_› ‹_›);by_cases hh:T.L P.k k*-T.L p b<T.L P.k b*-T.L p k\/(T.L P.k k*-T.L p b=T.L P.k b*-T.L p k/\T.f k<T.f b)
     .rw[decide_eq_true hh]at ha
      dsimp? [l1,hn,decide_true,oD,ť,ha];exact⟨some k,_,hB.better hn hh,rfl⟩
     .rw[decide_eq_false hh]at ha
      dsimp? [l1,hn,decide_true,oD,ť,ha];exact⟨some b,_,hB.worse hh,rfl⟩
   .dsimp? [l1,hn,decide_false]
    exact⟨o,_,hB.skip hn,rfl⟩
  .rintro δ ⟨o,o3,hB,rfl⟩
   dsimp? [];exact⟨o,hB,rfl⟩)
 let⟨r,e,o,hB,rfl⟩:=main;exact⟨o,hB,e⟩
def dI(À:ZF):D:=.dict (À.map λp=>(.int p.1,.int p.2))
def gI(À:ZF)(u:Int):(Option Int):=(À.find? λp=>p.1 == u).map (·.2)
section
def N2(h:∀p∈À,p.1≠u)(hl:À.length<sizeLine):xZ (.int u) (.int w) (dI À)=some (dI (À++[(u,w)])):=by
 unfold xZ dI;show (if (À.map λp=>(PyData.int p.1,PyData.int p.2)).length<sizeLine then some (PyData.dict (KK (.inl u) (.int w) (À.map λp=>(PyData.int p.1,PyData.int p.2))))else none)=_;rw[Á (by rw[Å];exact hl)];unfold KK;have e:((À.map λp=>(PyData.int p.1,PyData.int p.2)).any λkv=>decide (c8 kv.1=some (.inl u)))=false:=by
  rw[List.any_eq_false];intro x hx;let⟨p,hp,rfl⟩:=Ü.mp hx;have:=h p hp;simp![c8,Option.some.injEq,Sum.inl.injEq,decide_eq_true_eq];exact this
 rw[Â (by rw[e];simp)];simp[EW]
def WS:NI (dI À) (.int u) z=some (((gI À u).map PyData.int).getD z):=by
 unfold NI dI;show some ((jO (.inl u) (À.map λp=>(PyData.int p.1,PyData.int p.2))).getD z)=_;congr 2;unfold jO gI;rw[List.find?_map,Option.map_map,Option.map_map];have e:((λkv:D×D=>decide (c8 kv.1=some (Sum.inl u)))∘λp:Int×Int=>(PyData.int p.1,PyData.int p.2))=λp=>p.1 == u:=by
  funext p;simp![Function.comp,c8,Option.some.injEq,Sum.inl.injEq];by_cases c:p.1=u
  .simp[c]
  .simp[c]
 rw[e];rfl
def WT:dctD' (dI À)=true:=by
 show (À.map λp=>(PyData.int p.1,PyData.int p.2)).all (λkv=>(c8 kv.1).isSome)=true;rw[List.all_map,æ];intro p _;rfl
def aBQ(hd:(À.map (·.1)).Nodup)(h:(u,w)∈À):gI À u=some w:=by
 induction À with
 |nil=>cases h
 |cons p r ih=>
  rw[Ð,List.nodup_cons]at hd;unfold gI;rw[Ā];rcases Ì.mp h with rfl|h
  .simp
  .have:p.1≠u:=λe=>hd.1 (by rw[e];exact List.mem_map_of_mem (f:=(·.1)) h)
   rw[beq_eq_false_iff_ne.mpr this];exact ih hd.2 h
def aBR(h:∀p∈À,p.1≠u):gI À u=none:=by
 unfold gI;rw[List.find?_eq_none.mpr λp hp=>by simpa using h p hp];rfl
end
def LC{fs ws:ZK}(hf:fs.length=n)(hw:ws.length=n)(ef:∀j,j<n->fs[j]?=some (f j:Int))(ew:∀j,j<n->ws[j]?=some (w j))(inj:∀i j,i<n->j<n->f i=f j->i=j)(u:Nat):
  (gI (fs.zip ws) (u:Int)).getD 0=Sx.shr n f w u/\(gI (fs.zip ws) (u:Int)=none↔∀j,j<n->f j≠u):=by
 have hz:∀j,j<n->(fs.zip ws)[j]?=some ((f j:Int),w j):=λj hj=>by
  rw[ē];exact⟨ef j hj,ew j hj⟩
 have hl:(fs.zip ws).length=n:=by rw[é,hf,hw,Nat.min_self]
 have hm:∀p∈fs.zip ws,∃j,j<n/\p=((f j:Int),w j):=λp hp=>by
  let⟨j,hj,e⟩:=List.getElem_of_mem hp;rw[hl]at hj;have:=hz j hj;rw[É (by rw[hl];exact hj),e]at this;exact⟨j,hj,Option.some.inj this⟩
 have nd:((fs.zip ws).map (·.1)).Nodup:=by
  refine List.pairwise_iff_getElem.mpr λi j hi hj hij e=>?_;rw[Å,hl]at hi hj;have ei:((fs.zip ws).map (·.1))[i]?=some (f i:Int):=by rw[Ï,hz i hi];rfl
  have ej:((fs.zip ws).map (·.1))[j]?=some (f j:Int):=by rw[Ï,hz j hj];rfl
  rw[É (by rw[Å,hl];exact hi),e,<- É,ej]at ei;have:=Option.some.inj ei;have:=inj i j hi hj ∅;lia
 by_cases c:∃j,j<n/\f j=u
 .obtain⟨j,hj,rfl⟩:=c
  have e:gI (fs.zip ws) (f j:Int)=some (w j):=aBQ nd (õ (hz j hj));rw[e,Sx.shr_at inj hj];exact⟨rfl,by simp;exact⟨j,hj,rfl⟩⟩
 .have hn:∀j,j<n->f j≠u:=λj hj e=>c ⟨j,hj,e⟩
  have e:gI (fs.zip ws) (u:Int)=none:=aBR λp hp=>by
   let⟨j,hj,rfl⟩:=hm p hp;show (f j:Int)≠(u:Int);have:=hn j hj;lia
  rw[e,Sx.shr_no hn];exact⟨rfl,by simp;exact hn⟩
def WU(h:ds.length=n+1):C7 (.list ds) none (some (-1))=some (.list (ds.take n)):=by
 have e1:HT.sIx ds.length 0 none=0:=rfl;have e2:HT.sIx ds.length ds.length (some (-1))=n:=by
  unfold HT.sIx;simp[h];lia
 show some (PyData.list ((ds.drop (HT.sIx ds.length 0 none)).take (HT.sIx ds.length ds.length (some (-1))-HT.sIx ds.length 0 none)))=_;rw[e1,e2,List.drop_zero,Nat.sub_zero]
def H9{fs:ZK}{f:Nat->Nat}(hf:fs.length=n)(ef:∀j,j<n->fs[j]?=some (f j:Int))(inj:∀i j,i<n->j<n->f i=f j->i=j)(hn:n<=900)(hk:(fs.zip ws)[k]?=some (u,w)):
  xZ (.int u) (.int w) (dI ((fs.zip ws).take k))=some (dI ((fs.zip ws).take (k+1))):=by
 have hkl:=(Î.mp hk).1;rw[é]at hkl;have hu:fs[k]?=some u:=(ē.mp hk).1;rw[N2 (λp hp=>?_) (by
  rw[ù,é,hf];have:900<sizeLine:=by decide
  lia)]
 .rw[List.take_add_one,hk]
  rfl
 .obtain⟨i,hi,e⟩:=List.getElem_of_mem hp
  rw[ù,é]at hi;have e2:(fs.zip ws)[i]?=some p:=by
   rw[List.getElem_take]at e;rw[É (by rw[é];lia),e]
  have hp1:fs[i]?=some p.1:=(ē.mp e2).1;rw[ef i ∅]at hp1;rw[ef k ∅]at hu;intro z;have:=inj i k ∅ ∅ (by have:=Option.some.inj hp1;have:=Option.some.inj hu;lia);lia
def B5(K:Ok P L T)(I:Sx.Inv P σ T)(e2:Sx.LnR P.n ln w):nK [b9 L,.list (ln.map .int)]=.ok (dI (L.free.zip (ln.take P.n))) []:=by
 have R:=K.rp;have el:(L.free.zip (ln.take P.n)).length=P.n:=by rw[é,R.fl,ù,e2.len];lia
 refine aQ (os:=[]) ?_;show bO nJ [some (b9 L),some (.list (ln.map .int)),none,none,none] _ _ _ _;unfold nJ;dsimp? [];have hz:z6 (C3 (gR "Table" "free") (bA 0)) (ě C7 (bA 1) none (some (C3 œ (dC (.int 1))))) [some (b9 L),some (.list (ln.map .int)),some (kL [] []),none,none]=.ok ((L.free.zip (ln.take P.n)).map λp=>.tuple [.int p.1,.int p.2]) [some (b9 L),some (.list (ln.map .int)),some (kL [] []),none,none]:=WO (by unfold b9;dsimp? [oX]) (by
  have:=WU (ds:=ln.map PyData.int) (n:=P.n) (by rw[Å,e2.len]);dsimp? [UG,uF,uG,BG,this];rw[List.map_take])
 refine eG (λk δ=>∃o3 o4,δ=[some (b9 L),some (.list (ln.map .int)),some (dI ((L.free.zip (ln.take P.n)).take k)),o3,o4]) hz ⟨none,none,rfl⟩ ?_ ?_
 .rintro k d δ hk ⟨o3,o4,rfl⟩
  rw[Ï]at hk;cases e:(L.free.zip (ln.take P.n))[k]? with
  |none=>rw[e]at hk;cases hk
  |some p=>
   rw[e]at hk;cases hk;refine⟨_,rfl,?_⟩;have pt:=H9 R.fl R.f I.fi K.n e;dsimp? [yB,pt];exact⟨_,_,rfl⟩
 .rintro δ ⟨o3,o4,rfl⟩
  rw[Å,List.take_length];dsimp? [DQ]
def N3(t b:Int):(Int×Int):=(ĵ t b t,ĵ t b b)
def WV(hb:b≠0)(fb:fG 9000 b):lZ [.int t,.int b]=.ok (fr (N3 t b)) []:=by
 have hd:dv t b=(if b<0 then -(Int.gcd t b:Int)else (Int.gcd t b:Int)):=rfl;have gl:(Int.gcd t b:Int).natAbs<=b.natAbs:=by
  have:=Int.gcd_le_natAbs_right (a:=t) hb;assumption
 have hl:(dv t b).natAbs.log2<9000:=by
  have fg:fG 9000 (Int.gcd t b:Int):=fb.le gl;rw[hd];split
  .exact fg.neg.log2
  .exact fg.log2
 rw[HX hb hl,hd,FE (Int.gcd_dvd_left t b),FE (Int.gcd_dvd_right t b)];rfl
def aBS{a b:Nat}(h:a+b<=ds.length):C7 (.list ds) (some (a:Int)) (some ((a+b:Nat):Int))=some (.list ((ds.drop a).take b)):=by
 have e1:HT.sIx ds.length 0 (some (a:Int))=a:=by rw[HT.sIx_nat];lia
 have e2:HT.sIx ds.length ds.length (some ((a+b:Nat):Int))=a+b:=by rw[HT.sIx_nat];lia
 show some (PyData.list ((ds.drop (HT.sIx ds.length 0 (some (a:Int)))).take (HT.sIx ds.length ds.length (some ((a+b:Nat):Int))-HT.sIx ds.length 0 (some (a:Int)))))=_;rw[e1,e2,Nat.add_sub_cancel_left]
def ğ(n m:Nat)(y:Nat->Int)(s:Int):D:=.tuple [.list ((List.range m).map λr=>fr (N3 (y (n+r)) s)),.list ((List.range n).map λi=>fr (N3 (y (n+m+i)) s))]
def IC(K:Ok P L T)(hm:rs.length=m)(hk:P.k=m+P.n)(hy:∀u,u<P.n+m+P.n->(gI À (u:Int)).getD 0=y u):qI [b9 L,.list rs,dI À]=.ok (ğ P.n m y T.s) []:=by
 have R:=K.rp;have kn:=K.k;have nn:=K.n;have hs0:T.s≠0:=by have:=K.pos;exact Int.ne_of_gt ‹_›
 sleep 4;show bO qH [some (b9 L),some (.list rs),some (dI À),none,none,none] _ _ _ _;unfold qH;unfold b9;dsimp? [oX,Å,R.fl,hm];refine aV.of (rY (n:=((P.n+m+P.n:Nat):Int)) (g:=λu=>fr (N3 (y u) T.s)) (cO (by dsimp? [oX,Å,R.fl];simp)) ∅ ∅ λk hk=>?_) ?_
 .have hk:k<P.n+m+P.n:=by lia
  have e:=hy k hk;have g0:((gI À (k:Int)).map PyData.int).getD (.int 0)=.int (y k):=by
   rw[<- e];cases gI À (k:Int)<;>rfl
  dsimp? [VL,WT,WS,g0,zK,R.s,WV hs0 (K.fs.mono ⋯)]
 .rw[ú]
  have c1:=aBS (ds:=(List.range (P.n+m+P.n)).map λu=>fr (N3 (y u) T.s)) (a:=P.n) (b:=m) 'e';have c2:=rZ (ds:=(List.range (P.n+m+P.n)).map λu=>fr (N3 (y u) T.s)) (k:=P.n+m) 'e';have ec:((P.n+m:Nat):Int)=(P.n:Int)+(m:Int):=by simp
  rw[ec]at c1 c2;dsimp? [aJ2,uF,uG,BG,c1,c2];unfold ğ;have d1:(((List.range (P.n+m+P.n)).map λu=>fr (N3 (y u) T.s)).drop P.n).take m=(List.range m).map λr=>fr (N3 (y (P.n+r)) T.s):=by
   refine List.ext_getElem? λj=>?_;rw[List.getElem?_take];split
   .rename_i hj
    rw[List.getElem?_drop,Ï,ÿ ∅,Ï,ÿ hj];rfl
   .rw[å (by simp;exact ä.mp ‹_›)]
  have d2:((List.range (P.n+m+P.n)).map λu=>fr (N3 (y u) T.s)).drop (P.n+m)=(List.range P.n).map λi=>fr (N3 (y (P.n+m+i)) T.s):=by
   refine List.ext_getElem? λj=>?_;rw[List.getElem?_drop];by_cases hj:j<P.n
   .rw[Ï,ÿ ∅,Ï,ÿ hj]
    rfl
   .rw[å (by simp;exact ä.mp ‹_›),å (by simp;exact ä.mp ‹_›)]
  rw[d1,d2]
theorem N4(e2:Sx.LnR n ln w):(ln.take n).length=n/\∀j,j<n->(ln.take n)[j]?=some (w j):=
 ⟨by rw[ù,e2.len];lia,λj hj=>by rw[List.getElem?_take,Á hj];exact e2.at' j 'a'⟩
def aBT(K:Ok P L T)(I:Sx.Inv P σ T)(hm:rs.length=m)(hk:P.k=m+P.n)(hp:p<P.k):
  nM [b9 L,.list rs,.int (p:Int)]=.ok (.tuple [.str "none",ğ P.n m (λu=>if u=T.h p then T.s else Sx.shr P.n T.f (T.L p) u) T.s]) []:=by
 have R:=K.rp;let⟨pv,e1,e2⟩:=R.l p hp;have i1:=Ť e1;have i2:=QS (R.h p hp);have sh:=B5 K I e2;let⟨t1,t2⟩:=N4 e2;have gs:=λu=>LC R.fl t1 R.f t2 I.fi u;have hnew:∀q∈L.free.zip (pv.take P.n),q.1≠(T.h p:Int):=λq hq z=>by
  have h1:=(gs (T.h p)).2.mpr λj hj=>I.fh j p hj 'a';have h2:gI (L.free.zip (pv.take P.n)) (T.h p:Int)≠none:=by
   unfold gI;intro y;rw[Option.map_eq_none_iff,List.find?_eq_none]at y;exact y q hq (by simp[z])
  exact h2 h1
 have hzl:(L.free.zip (pv.take P.n)).length=P.n:=by rw[é,R.fl,t1,Nat.min_self]
 have pn:=N2 (w:=L.s) hnew (by rw[hzl];have:=K.n;have:900<sizeLine:=⋯;exact Ĉ ‹_› ‹_›)
 have pe:=IC K hm hk (À:=L.free.zip (pv.take P.n)++[((T.h p:Int),L.s)]) (y:=λu=>if u=T.h p then T.s else Sx.shr P.n T.f (T.L p) u) λu _=>by
  have e:gI (L.free.zip (pv.take P.n)++[((T.h p:Int),L.s)]) (u:Int)=(gI (L.free.zip (pv.take P.n)) (u:Int)).or (if (T.h p:Int)=(u:Int)then some L.s else none):=by
   unfold gI;rw[List.find?_append,Option.map_or,List.find?_singleton];congr 1;by_cases c:(T.h p:Int)=(u:Int)
   .simp[c]
   .simp[c]
  rw[e];by_cases c:u=T.h p
  .subst c
   rw[(gs (T.h p)).2.mpr λj hj=>I.fh j p hj 'a',Á rfl,Á rfl,R.s];rfl
  .rw[Â c,Â ∅,Option.or_none]
   exact(gs u).1
 sleep 4;show bO nL [some (b9 L),some (.list rs),some (.int (p:Int)),none] _ _ _ _;unfold nL;have tl:gR "Table" "lines" (b9 L)=some (QU L.lines):=s8;have th:gR "Table" "held" (b9 L)=some (.list (L.held.map .int)):=wH;have ts:gR "Table" "scale" (b9 L)=some (.int L.s):=zK;dsimp? [tl,i1,sh,ts,yB,th,i2,pn,pe]
def aBU(K:Ok P L T)(I:Sx.Inv P σ T){Ã:ZK}(hm:rs.length=m)(hk:P.k=m+P.n)(hr:Ã.length=P.n):
  nO [b9 L,.list rs,.list (Ã.map .int)]=.ok (.tuple [.str "fill",.list ((List.range P.n).map λx=>fr (N3 (Sx.val P T x) T.s)),ğ P.n m (λu=>Sx.shr P.n T.f (T.L P.k) u) T.s]) []:=by
 have R:=K.rp;have kk:=K.k;have hs0:T.s≠0:=by have:=K.pos;exact Int.ne_of_gt ‹_›
 have sh:=B5 K I R.g;let⟨t1,t2⟩:=N4 R.g;have gs:=λu=>LC R.fl t1 R.f t2 I.fi u;have pe:=IC K hm hk (À:=L.free.zip (L.goal.take P.n)) (y:=λu=>Sx.shr P.n T.f (T.L P.k) u) λu _=>(gs u).1;let ws:ZK:=L.lines.map λln=>ln.getD P.n 0;have wl:ws.length=P.k:=by simp![ws,Å,R.ll]
 have wa:∀r,r<P.k->ws[r]?=some (T.L r P.n):=λr hr=>by
  let⟨ln,q1,q2⟩:=R.l r hr;simp![ws,Ï,q1,Option.map_some,q2.getD (Ç _)]
 have hv:=λu=>LC R.hl wl R.h wa (λi j hi hj e=>I.hi i j 'a' 'a' e) u;sleep 4;show bO nN [some (b9 L),some (.list rs),some (.list (Ã.map .int)),none,none,none,none] _ _ _ _;unfold nN;have tl:gR "Table" "lines" (b9 L)=some (QU L.lines):=s8;have th:gR "Table" "held" (b9 L)=some (.list (L.held.map .int)):=wH;have ts:gR "Table" "scale" (b9 L)=some (.int L.s):=zK;have tg:gR "Table" "goal" (b9 L)=some (.list (L.goal.map .int)):=N0;dsimp? [];have hz:z6 (C3 (gR "Table" "held") (bA 0)) (C3 (gR "Table" "lines") (bA 0)) [some (b9 L),some (.list rs),some (.list (Ã.map .int)),some (kL [] []),none,none,none]=.ok ((L.held.zip L.lines).map λp=>.tuple [.int p.1,.list (p.2.map PyData.int)]) [some (b9 L),some (.list rs),some (.list (Ã.map .int)),some (kL [] []),none,none,none]:=by
  have e1:C3 (gR "Table" "held") (bA 0) [some (b9 L),some (.list rs),some (.list (Ã.map .int)),some (kL [] []),none,none,none]=.ok (.list (L.held.map .int)) [some (b9 L),some (.list rs),some (.list (Ã.map .int)),some (kL [] []),none,none,none]:=cO (by dsimp? [th]);have e2:C3 (gR "Table" "lines") (bA 0) [some (b9 L),some (.list rs),some (.list (Ã.map .int)),some (kL [] []),none,none,none]=.ok (QU L.lines) [some (b9 L),some (.list rs),some (.list (Ã.map .int)),some (kL [] []),none,none,none]:=cO (by dsimp? [tl]);unfold z6;simp![aZ,e1,e2,aW];congr 1;unfold oZ;rw[List.zipWith_map,List.zip_eq_zipWith,List.map_zipWith]
 refine eG (λk δ=>∃o4 o5,δ=[some (b9 L),some (.list rs),some (.list (Ã.map .int)),some (dI ((L.held.zip ws).take k)),o4,o5,none]) hz ⟨none,none,rfl⟩ ?_ ?_
 .rintro k d δ hkd ⟨o4,o5,rfl⟩
  rw[Ï]at hkd;cases e:(L.held.zip L.lines)[k]? with
  |none=>rw[e]at hkd;cases hkd
  |some q=>
   rw[e]at hkd;cases hkd;let⟨q1,q2⟩:=ē.mp e;have hk':k<P.k:=by have:=(Î.mp q1).1;rw[R.hl]at this;exact this
   let⟨ln,l1,l2⟩:=R.l k hk';rw[q2]at l1;have el:ln=q.2:=(Option.some.inj l1).symm;subst el;refine⟨_,rfl,?_⟩;have ez:(L.held.zip ws)[k]?=some (q.1,T.L k P.n):=by rw[ē];exact⟨q1,wa k hk'⟩
   have pt:=H9 R.hl R.h (λi j hi hj e=>I.hi i j 'a' 'a' e) kk ez;have il:=WN l2.len (l2.at' P.n (Ç _));dsimp? [yB,il,pt];exact⟨_,_,rfl⟩
 .rintro δ ⟨o4,o5,rfl⟩
  rw[Å,é,R.hl,R.ll,Nat.min_self,List.take_of_length_le (by rw[é,R.hl,wl];lia)];dsimp? [];refine aV.of (rY (n:=(P.n:Int)) (g:=λu=>fr (N3 (Sx.val P T u) T.s)) (cO (by dsimp? [Å,hr])) ∅ (by have:=K.n;lia) λk hk=>?_) ?_
  .have e:=(hv k).1
   have g0:((gI (L.held.zip ws) (k:Int)).map PyData.int).getD (.int 0)=.int (Sx.val P T k):=by
    unfold Sx.val;rw[<- e];cases gI (L.held.zip ws) (k:Int)<;>rfl
   dsimp? [VL,WT,WS,g0,ts,R.s,WV hs0 (K.fs.mono ⋯)]
  .rw[ú]
   dsimp? [tg,sh,pe]
def aKQ(h:aV c δ λb δ1=>if b=true then bO u δ1 (λδ2=>bO (fD c u) δ2 N B C R) N (λδ2=>bO (fD c u) δ2 N B C R) R else N δ1):bO (fD c u) δ N B C R:=by
 let⟨b,δ1,e,q⟩:=h.ex;cases b with
 |false=>
  refine bO.of (fl:=.next) (by rw[eR,e];rfl) ?_;exact(by simpa using q:N δ1)
 |true=>
  rw[Á rfl]at q;let⟨fl,δ2,e2,q2⟩:=q.ex;cases fl with
  |next=>
   let⟨fl3,δ3,e3,q3⟩:=bO.ex q2;exact bO.of (fl:=fl3) (by rw[eR,e];simp![aW,if_true,e2];exact e3) q3
  |cont=>
   let⟨fl3,δ3,e3,q3⟩:=bO.ex q2;exact bO.of (fl:=fl3) (by rw[eR,e];simp![aW,if_true,e2];exact e3) q3
  |brk=>exact bO.of (fl:=.next) (by rw[eR,e];simp![aW,if_true,e2]) q2
  |ret r=>exact bO.of (fl:=.ret r) (by rw[eR,e];simp![aW,if_true,e2]) q2
def ė(Ã:ZK)(i:Nat):D:=.list ((((List.replicate Ã.length (0:Int)).set i 1)++[Ã.getD i 0]).map PyData.int)
def WW(hn:Ã.length<=900):sO [.list (Ã.map .int)]=.ok (.list ((List.range Ã.length).map (ė Ã))) []:=by
 sleep 4;show bO l0 [some (.list (Ã.map .int)),none,none,none,none] _ _ _ _;unfold l0;dsimp? [];refine eG (λk δ=>∃o2 o3 o4,δ=[some (.list (Ã.map .int)),some (.list ((List.range k).map (ė Ã))),o2,o3,o4]) (N1 (enc:=PyData.int) (xs:=Ã) (by dsimp? [])) ⟨none,none,none,rfl⟩ ?_ ?_
 .rintro k d δ hk ⟨o2,o3,o4,rfl⟩
  have hk0:=(Î.mp hk).1;simp![Å,List.length_zipIdx]at hk0;have ed:d=.tuple [.int (k:Int),.int (Ã.getD k 0)]:=by
   rw[Ï,Ï,List.getElem?_zipIdx,É hk0]at hk;simp![Option.map_some,Option.some.injEq]at hk;rw[<- hk,Ë,É hk0];simp
  subst ed;refine⟨_,rfl,?_⟩;dsimp? [];refine aV.of (cZ (xs:=Ã) (enc:=PyData.int) (g:=λ_=>.int 0) (cQ (by dsimp? [])) ∅ λx _=>by dsimp? []) ?_;have ei:=ixN_lt' (show k<((Ã.map λ_=>PyData.int 0)++[PyData.int (Ã.getD k 0)]).length by simp;exact Nat.lt_succ_of_lt ‹_›);have er:(List.range (k+1)).map (ė Ã)=(List.range k).map (ė Ã)++[ė Ã k]:=by rw[List.range_succ,ß];rfl
  rw[er];have e0:(Ã.map λ_=>PyData.int 0)=(List.replicate Ã.length (0:Int)).map PyData.int:=by
   rw[List.map_replicate];exact List.map_const' ..
  have el:(((Ã.map λ_=>PyData.int 0)++[PyData.int (Ã.getD k 0)]).set k (.int 1))=(((List.replicate Ã.length (0:Int)).set k 1)++[Ã.getD k 0]).map PyData.int:=by
   rw[e0,List.set_append_left _ _ (by simpa using hk0),ß,List.map_set];rfl
  have cat:SX (.list (Ã.map λ_=>PyData.int 0)) (.list [PyData.int (Ã.getD k 0)])=some (.list ((Ã.map λ_=>PyData.int 0)++[PyData.int (Ã.getD k 0)])):=Á (by
   simp![Å,Ý,List.length_nil];have:901<=sizeLine:=by decide
   exact Ĉ ‹_› ‹_›)
  dsimp? [cat,ei,el];refine⟨by have:900<sizeLine:=⋯;simp![Å,List.length_range];lia,_,_,_,rfl⟩
 .rintro δ ⟨o2,o3,o4,rfl⟩
  simp![Å,List.length_zipIdx];dsimp? []
def aOJ:nG 20 0 "Table" "scale" s (dE "Table" [] [])=some (.dict [(.none,.str "Table"),(.str "scale",s)]):=by with_unfolding_all rfl
def aOK:nG 20 1 "Table" "free" f (.dict [(.none,.str "Table"),(.str "scale",s)])=some (.dict [(.none,.str "Table"),(.str "scale",s),(.str "free",f)]):=by with_unfolding_all rfl
def aOL:nG 20 1 "Table" "held" h (.dict [(.none,.str "Table"),(.str "scale",s),(.str "free",f)])=some (.dict [(.none,.str "Table"),(.str "scale",s),(.str "free",f),(.str "held",h)]):=by with_unfolding_all rfl
def aOM:nG 20 0 "Table" "lines" l (.dict [(.none,.str "Table"),(.str "scale",s),(.str "free",f),(.str "held",h)])=some (.dict [(.none,.str "Table"),(.str "scale",s),(.str "free",f),(.str "held",h),(.str "lines",l)]):=by with_unfolding_all rfl
def aON:nG 20 0 "Table" "goal" g (.dict [(.none,.str "Table"),(.str "scale",s),(.str "free",f),(.str "held",h),(.str "lines",l)])=some (tb s f h l g):=by with_unfolding_all rfl
def aOO{n:Nat}(h:n<=1000):mP [.int (n:Int)]=some (0,n):=by
 unfold mP;dsimp only;rw[Á ⟨∅,∅⟩,ú]
def aOP{n m:Nat}(h:n+m<=1000):mP [.int (n:Int),.int ((n+m:Nat):Int)]=some ((n:Int),m):=by
 unfold mP;dsimp only;rw[Á ⟨∅,∅,∅,∅⟩];have e:((((n+m:Nat):Int))-(n:Int)).toNat=m:=by lia
 rw[e]
def Ŧ(h:n<=1000):n<=sizeLine:=Õ h (show 1000<=sizeLine by decide)
def WX(h:mP ds=some (lo,n))(hn:n<=1000):ĝ ds=some (.list (kP lo n)):=by
 unfold ĝ;rw[h];exact Á (Ŧ hn)
def aOQ{n:Nat}(h:n<=1000):ĝ [.int (n:Int)]=some (.list (((List.range n).map λ(i:Nat)=>(i:Int)).map PyData.int)):=by
 rw[WX (aOO h) h];have e:kP 0 n=((List.range n).map λ(i:Nat)=>(i:Int)).map PyData.int:=by
  unfold kP;rw[ê];refine List.map_congr_left λk _=>?_;show PyData.int (0+(k:Int))=.int (k:Int);rw[Int.zero_add]
 rw[e]
def aOR{n m:Nat}(h:n+m<=1000):ĝ [.int (n:Int),.int ((n+m:Nat):Int)]=some (.list (((List.range m).map λ(i:Nat)=>((n+i:Nat):Int)).map PyData.int)):=by
 rw[WX (aOP h) ∅];have e:kP (n:Int) m=((List.range m).map λ(i:Nat)=>((n+i:Nat):Int)).map PyData.int:=by
  unfold kP;rw[ê];refine List.map_congr_left λk _=>?_;show PyData.int ((n:Int)+(k:Int))=.int ((n+k:Nat):Int);rw[Int.natCast_add]
 rw[e]
def Ĭ(r:ZK×Int):D:=.tuple [.list (r.1.map PyData.int),.int r.2]
abbrev QW(rs:ZE):D:=.list (rs.map Ĭ)
def aBV(hm:Æ.length<=300)(hn:Ã.length<=300)(hr:∀r∈Æ,r.1.length=Ã.length):k4 [dE "Table" [] [],QW Æ,.list (Ã.map .int)]=.ok .none [some (b9 (Sx.startL Æ Ã))]:=by
 have sz:1000<=sizeLine:=by decide
 refine NY (os:=[b9 (Sx.startL Æ Ã)]) ?_;show bO gT [some (dE "Table" [] []),some (QW Æ),some (.list (Ã.map .int))] _ _ _ _;unfold gT;have e1:=aOQ (n:=Ã.length) ∅;have e2:=aOR (n:=Ã.length) (m:=Æ.length+Ã.length) ∅;have e3:((Ã.length+(Æ.length+Ã.length):Nat):Int)=(Ã.length:Int)+(Æ.length:Int)+(Ã.length:Int):=by lia
 rw[e3]at e2;have er:=WW (Ã:=Ã) ∅;dsimp? [yA,aOJ,aG8,Å,e1,aOK,e2,aOL,QW];refine aV.of (oW (xs:=Æ) (enc:=Ĭ) (A:=λr=>.list (r.1.map PyData.int)) (B:=λr=>.int r.2) (g:=λr=>.list ((r.1++[r.2]).map PyData.int)) (λ_=>rfl) (cQ (by dsimp? [])) ∅ λr hr'=>?_) ?_
 .have hl:=hr r hr'
  have ll:∀l:ZI,MF [.list l]=some (.list l):=λ_=>rfl;dsimp? [ll,Å,ß,Ð,List.map_nil,Ý,List.length_nil];exact Ŧ ∅
 .dsimp? [er,Å,List.length_range]
  refine⟨∅,?_⟩;dsimp? [aOM,yA];refine aV.of (cZ (xs:=Ã) (enc:=PyData.int) (g:=λ_=>.int 1) (cQ (by dsimp? [])) ∅ λx _=>by dsimp? []) ?_;have g1:(Ã.map λ_=>PyData.int 1)++[PyData.int 0]=(List.replicate Ã.length (1:Int)++[0]).map PyData.int:=by
   have e0:(Ã.map λ_=>PyData.int 1)=List.replicate Ã.length (PyData.int 1):=List.map_const' ..;rw[ß,List.map_replicate,e0,Ð,List.map_nil]
  have g2:(Æ.map λr=>PyData.list ((r.1++[r.2]).map PyData.int))++(List.range Ã.length).map (ė Ã)=((Æ.map λr=>r.1++[r.2])++(List.range Ã.length).map λ(i:Nat)=>((List.replicate Ã.length (0:Int)).set i 1)++[Ã.getD i 0]).map λx=>PyData.list (x.map PyData.int):=by
   rw[ß,ê,ê];congr 1
  have fin:tb (.int 1) (.list (((List.range Ã.length).map λ(i:Nat)=>(i:Int)).map PyData.int)) (.list (((List.range (Æ.length+Ã.length)).map λ(i:Nat)=>((Ã.length+i:Nat):Int)).map PyData.int)) (.list ((Æ.map λr=>PyData.list ((r.1++[r.2]).map PyData.int))++(List.range Ã.length).map (ė Ã))) (.list ((Ã.map λ_=>PyData.int 1)++[PyData.int 0]))=b9 (Sx.startL Æ Ã):=by
   rw[g1,g2];rfl
  dsimp? [Å,Ý,List.length_nil];refine⟨Ŧ ∅,?_⟩;dsimp? [aON,fin]
structure Ć(Æ:ZE)(Ã:ZK)(A C:Nat):Prop where
 len:∀r∈Æ,r.1.length=Ã.length
 m:Æ.length<=300
 n:Ã.length<=300
 a1:1<=A
 a:∀r∈Æ,∀x∈r.1,x.natAbs<=A
 c:∀r∈Æ,r.2.natAbs<=C
 cr:∀x∈Ã,x.natAbs<=C
 f1:Sx.fac Ã.length*A^Ã.length<2^4000
 f2:(Ã.length+1)*(Sx.fac Ã.length*A^Ã.length*C)<2^4000
section
def ID{l:ZK}(h:∀y∈l,y.natAbs<=A):(l.getD x 0).natAbs<=A:=by
 rw[Ë];cases e:l[x]? with
 |none=>simp
 |some y=>exact h y (õ e)
def Ć.pa(b:Ć Æ Ã A C)(u x:Nat):((Sx.lpOf Æ Ã).pr.a u x).natAbs<=A:=by
 have a1:=b.a1;have h0:(0:Int).natAbs<=A:=by simp
 have h1:(1:Int).natAbs<=A:=by simpa using a1
 have h2:(-1:Int).natAbs<=A:=by simpa using a1
 show (if u<Ã.length then (if x=u then -1 else 0)else if u<Ã.length+Æ.length then (Æ.getD (u-Ã.length) ([],0)).1.getD x 0 else if u<Ã.length+Æ.length+Ã.length then (if x=u-(Ã.length+Æ.length)then 1 else 0)else 1:Int).natAbs<=A;split
 .split
  .exact h2
  .exact h0
 .split
  .refine ID λy hy=>?_
   rw[Ë]at hy;cases e:Æ[u-Ã.length]? with
   |none=>rw[e]at hy;cases hy
   |some r=>rw[e]at hy;exact b.a r (õ e) y hy
  .split
   .split
    .exact h1
    .exact h0
   .exact h1
def Ć.pc(b:Ć Æ Ã A C)(u:Nat):((Sx.lpOf Æ Ã).pr.c u).natAbs<=C:=by
 have h0:(0:Int).natAbs<=C:=by simp
 show (if u<Ã.length then 0 else if u<Ã.length+Æ.length then (Æ.getD (u-Ã.length) ([],0)).2 else if u<Ã.length+Æ.length+Ã.length then Ã.getD (u-(Ã.length+Æ.length)) 0 else 0:Int).natAbs<=C;split
 .exact h0
 .split
  .rw[Ë]
   cases e:Æ[u-Ã.length]? with
   |none=>exact h0
   |some r=>exact b.c r (õ e)
  .split
   .exact ID b.cr
   .exact h0
def Ć.ok(b:Ć Æ Ã A C)(I:Sx.Inv (Sx.lpOf Æ Ã).pr σ T)(R:Sx.Rp (Sx.lpOf Æ Ã).pr L T):Ok (Sx.lpOf Æ Ã).pr L T:=by
 let⟨h1,h2,h3⟩:=I.small (A:=A) (C:=C) (λu x _ _=>b.pa u x) (λu _=>b.pc u);have bm:=b.m;have bn:=b.n;refine⟨R,I.pos,Ĉ h1 b.f1,λr j hr hj=>?_,?_,?_⟩
 .by_cases e:j<(Sx.lpOf Æ Ã).pr.n
  .exact Ĉ (h2 r j hr e) b.f1
  .have e:j=(Sx.lpOf Æ Ã).pr.n:=by lia
   subst e;exact Ĉ (h3 r hr) b.f2
 .show Ã.length<=900
  lia
 .show Æ.length+Ã.length<=900
  lia
end
def aKS(Q:Sx.Lp)(T:Sx.Tab):D:=.tuple [.str "fill",.list ((List.range Q.n).map λx=>fr (N3 (Sx.val Q.pr T x) T.s)),ğ Q.n Q.m (λu=>Sx.shr Q.n T.f (T.L Q.pr.k) u) T.s]
def aKT(Q:Sx.Lp)(T:Sx.Tab)(p:Nat):D:=.tuple [.str "none",ğ Q.n Q.m (λu=>if u=T.h p then T.s else Sx.shr Q.n T.f (T.L p) u) T.s]
def ϥ(Q:Sx.Lp)(r:D):Prop:=∃T σ,Sx.Inv Q.pr σ T/\(((∀r,r<Q.pr.k->0<=T.L r Q.n)/\r=aKS Q T)\/∃p,p<Q.pr.k/\T.L p Q.n<0/\(∀j,j<Q.n->0<=T.L p j)/\r=aKT Q T p)
def Ϧ(Æ:ZE)(Ã:ZK)(T:Sx.Tab):Prop:=∀(L:Sx.LT),Sx.Rp (Sx.lpOf Æ Ã).pr L T->∀(o4:ZL)(pl:D),cB [b9 L]=.ok pl [] ->
   bO (cX (fD (dB (gJ xE (bA 3) (dC .none)))
   (cX (eQ 4 (F8 (dH l6 [.val (bA 2),.val (gJ gG (C3 (gR "Table" "lines") (bA 2)) (bA 3))])))
   (cX (m5 (dB (gJ Ħ (bA 4) (dC .none)))
    (tZ (dH nM [.val (bA 2),.val (bA 0),.val (bA 3)]))
    AX)
   (cX (fS (xQ 2 "Table" "swap" l8 [.val (bA 3),.val (bA 4)]))
   (eQ 3 (F8 (dH cB [.val (bA 2)])))))))
  (tZ (dH nO [.val (bA 2),.val (bA 0),.val (bA 1)]))) [some (QW Æ),some (.list (Ã.map .int)),some (b9 L),some pl,o4] (λ_=>False) (λ_=>False) (λ_=>False) λr _=>ϥ (Sx.lpOf Æ Ã) r
def aBX(b:Ć Æ Ã A C)(T:Sx.Tab)(I:Sx.Inv (Sx.lpOf Æ Ã).pr σ T):Ϧ Æ Ã T:=by
 refine Sx.simplex_ind (Good:=Ϧ Æ Ã) ?_ T I;clear I T;intro T I ih L R o4 pl hpl;have K:=b.ok I R;have hk:(Sx.lpOf Æ Ã).pr.k=Æ.length+(Sx.lpOf Æ Ã).pr.n:=rfl;have hm:(Æ.map Ĭ).length=Æ.length:=Å _;have tl:gR "Table" "lines" (b9 L)=some (QU L.lines):=s8;rw[BD];refine aKQ ?_;rcases zM K with ⟨all,e⟩|⟨p,hp,neg,first,e⟩
 .rw[e]at hpl
  cases hpl;have fe:=aBU K I (rs:=Æ.map Ĭ) (Ã:=Ã) hm hk rfl;dsimp? [aKO,Bool.false_eq_true,if_false,fe];exact⟨T,σ,I,.inl ⟨all,rfl⟩⟩
 .rw[e]at hpl
  cases hpl;let⟨pv,e1,e2⟩:=R.l p hp;let⟨o,hB,ec⟩:=QV K hp e2;have i1:=Ť e1;dsimp? [aKP,if_true,tl,i1,ec,yC];cases o with
  |none=>
   have ne:=aBT K I (rs:=Æ.map Ĭ) hm hk hp;simp![oD,aG9];dsimp? [Ϥ,ne];exact⟨T,σ,I,.inr ⟨p,hp,neg,hB,rfl⟩⟩
  |some d=>
   have C:=Sx.ch_of hp neg first hB
   have R':=R.swap hp C.hd;have I':=C.inv I;have K':=b.ok I' R';have sw:=aBP K hp C.hd;obtain⟨pl',ep,hv⟩:∃pl',cB [b9 (Sx.swapL L p d)]=.ok pl' []/\(EY pl').isSome=true:=by
    rcases zM K' with ⟨_,e⟩|⟨q,_,_,_,e⟩
    .exact⟨_,e,rfl⟩
    .exact⟨_,e,rfl⟩
   have nx:=ih p d C (Sx.swapL L p d) R' (some (.int (d:Int))) pl' ep;rw[BD]at nx;simp![oD,VN];have tm:xY "Table" "swap" (b9 L):=aBO;dsimp? [ť,aG6,tm,true_and,sw,ep,yC];refine⟨hv,?_⟩;dsimp? [];exact nx
def WY(b:Ć Æ Ã A C):∃r,ED [QW Æ,.list (Ã.map .int)]=.ok r []/\ϥ (Sx.lpOf Æ Ã) r:=by
 have bm:=b.m;have bn:=b.n;have R:=Sx.start_ok b.len;have I:=(Sx.lpOf Æ Ã).inv;have K:=b.ok I R;have ie:=aBV (Æ:=Æ) (Ã:=Ã) 'q' 'q' b.len;obtain⟨pl,ep,hv⟩:∃pl,cB [b9 (Sx.startL Æ Ã)]=.ok pl []/\(EY pl).isSome=true:=by
  rcases zM K with ⟨_,e⟩|⟨q,_,_,_,e⟩
  .exact⟨_,e,rfl⟩
  .exact⟨_,e,rfl⟩
 have wk:=aBX b _ I (Sx.startL Æ Ã) R none pl ep;refine jN (m0:=5) (rm:=0) ?_;show bO EC [some (QW Æ),some (.list (Ã.map .int)),none,none,none] _ _ _ _;unfold EC;dsimp? [aG7];unfold VI;refine⟨_,_,rfl,ie,?_⟩;dsimp? [ep,yC];refine⟨hv,?_⟩;dsimp? [];rw[BD]at wk;exact wk
abbrev iL(ns:ZK):D:=.list (ns.map PyData.int)
def QX(r:ZK×Int):D:=.tuple [iL r.1,.int r.2]
abbrev ϧ(rs:ZE):D:=.list (rs.map QX)
def Ϩ(a:Nat)(ns:ZK):Prop:=∀n∈ns,fG a n
def aM8(h:1<=n):fG n 1:=by
 show (1:Int).natAbs<2^n;have:2^1<=2^n:=Nat.pow_le_pow_right ⋯ h;simp;exact Û ‹_›
def aBY{ns:ZK}(h:k<ns.length):atI (ns.map PyData.int) (k:Int)=some (.int (ns.getD k 0)):=by
 refine eI ?_;rw[Ï,É h,Ë,É h];rfl
end Toy
namespace L2
open PySem PySem.Spec
end L2
namespace Toy
open PySem L2
section
end
def qs(n:Nat)(y:Nat->Int)(s:Int):ZF:=(List.range n).map λx=>N3 (y x) s
section
end
section
abbrev y1(Æ:ZE)(Ã:ZK)(y:Nat->Int)(i:Nat):Int:=y (Ã.length+Æ.length+i)
end
section
end
end Toy
namespace L2
open PySem PySem.Spec
def u6(P:ZO)(h1:bO u δ P B C R)(h2:∀δ1,P δ1->bO v δ1 N B C R):bO (cX u v) δ N B C R:=by
 rw[BD];let⟨fl,δ1,e,q⟩:=h1.ex;refine .of e ?_;cases fl with
 |next=>exact h2 _ q
 |_=>exact q
def seq_assoc:cX a (cX b c)=cX (cX a b) c:=by
 funext δ;unfold cX;cases a δ with
 |stuck=>rfl
 |err x d=>rfl
 |ok fl d=>cases fl<;>rfl
end L2
namespace Toy
open PySem L2
def ϖ:ħ true (.str "fill") (.tuple [.str "fill",.str "none"])=some (.bool false):=by with_unfolding_all rfl
def aM9:C4 (.str "fill") (.str "fill")=some (.bool false):=by with_unfolding_all rfl
end Toy
namespace L2
open PySem PySem.Spec
section
end
def eY{i:Nat}{δ:DS}(h1:δ[i]?=some (some (.list as))):lT (bA i) δ=.ok as δ:=by
 simp![lT,bQ h1,aW]
def aBZ(h:aV (aZ [f,g]) δ λds δ1=>ds=[.list as,.list bs]/\δ1=δ):z6 f g δ=.ok (oZ as bs) δ:=by
 let⟨ds,δ1,e,rfl,rfl⟩:=h.ex;unfold z6;rw[e,aW]
def jX{i:Nat}{δ:DS}(h1:δ[i]?=some (some (.list as))):xL (bA i) δ=.ok (eZ as) δ:=by
 simp![xL,aZ,bQ h1,aW]
def aB0(h:as.length=bs.length):(oZ as bs).length=as.length:=by simp[oZ,h]
def hJ:(eZ as).length=as.length:=by simp[eZ]
def fH:lT (JW [dC a,dC b]) δ=.ok [a,b] δ:=by
 simp![lT,JW,aZ,fY,aW];rw[Á (show [a,b].length<=sizeLine from Õ (show 2<=1000 by decide) ⋯)];rfl
def u7{α:Type}{enc g:α->D}{h:α->Bool}{t:M Bool}{e:M D}{δ:DS}:∀{xs:List α}{acc:ZI}{o:ZL},(∀x∈xs,t (some (enc x)::δ)=.ok (h x) (some (enc x)::δ))->(∀x∈xs,e (some (enc x)::δ)=.ok (g x) (some (enc x)::δ))->acc.length+xs.length<=sizeLine->∃o',bP (eO 0) t e (xs.map enc) acc (o::δ)=.ok (acc++(xs.filter h).map g) (o'::δ)
 |[],acc,o,_,_,_=>⟨o,by simp[bP]⟩
 |x::xs,acc,o,ht,he,hl=>by
  have hd:=ht x Ô;have hv:=he x Ô;rw[Ý]at hl;have e1:eO 0 (enc x) (o::δ)=some (some (enc x)::δ):=by simp[eO]
  cases hk:h x with
  |true=>
   let⟨o',ih⟩:=u7 (xs:=xs) (acc:=acc++[g x]) (o:=some (enc x)) (λy hy=>ht y (Ò _ hy)) (λy hy=>he y (Ò _ hy)) (by simp;lia);refine⟨o',?_⟩;rw[Ð];unfold bP;rw[e1];simp![hd,hk,Res.bind,if_true,hv];rw[Á ∅,ih];simp[hk]
  |false=>
   let⟨o',ih⟩:=u7 (xs:=xs) (acc:=acc) (o:=some (enc x)) (λy hy=>ht y (Ò _ hy)) (λy hy=>he y (Ò _ hy)) ∅;refine⟨o',?_⟩;rw[Ð];unfold bP;rw[e1];simp![hd,hk,Res.bind,Bool.false_eq_true,if_false];rw[Á ∅,ih];simp[hk]
def EM{α:Type}{enc g:α->D}{h:α->Bool}{f:M (ZI)}{t:M Bool}{e:M D}{δ:DS}{xs:List α}(hf:f δ=.ok (xs.map enc) δ)(hl:xs.length<=1000)(ht:∀x∈xs,aV t (some (enc x)::δ) λb δ1=>b=h x/\δ1=some (enc x)::δ)(he:∀x∈xs,aV e (some (enc x)::δ) λa δ1=>a=g x/\δ1=some (enc x)::δ):d9 1 (eO 0) f t e δ=.ok (.list ((xs.filter h).map g)) δ:=by
 unfold d9;rw[hf];let⟨o',q⟩:=u7 (h:=h) (t:=t) (acc:=[]) (o:=none) (λx hx=>by
  let⟨b,δ1,e,rfl,rfl⟩:=(ht x hx).ex;exact e) (λx hx=>cO (he x hx)) (by rw[List.length_nil,Nat.zero_add];exact Õ hl (show 1000<=sizeLine by decide))
 simp![Res.bind];rw[show List.replicate 1 (none:ZL)++δ=none::δ from rfl,q];simp
def ϩ{n:Nat}{k:Int}(h0:0<=k)(h1:k<n):mO n k=some k.toNat:=by
 unfold mO;rw[Á ∅,Á ∅]
def aB1(h:c<1000):PyData.strOk ⟨#[c]⟩=true:=by
 show (#[c]:Array Nat).all (·<0x110000)=true;simp;lia
def B6(h:x.length+y.length<=1000):J1 (.str x) (.str y)=some (.str (x++y)):=by
 have hz:sizeLine=2^24:=rfl;have:CZ (.str x) (.str y)=some (.str (x++y)):=Á ∅;unfold J1;rw[this];rfl
def hU{x y:Str}:(x++y).length=x.length+y.length:=by
 show (x.cps++y.cps).size=_;rw[Array.size_append];rfl
def zN(hx:PyData.strOk x=true)(hy:PyData.strOk y=true):PyData.strOk (x++y)=true:=by
 show (x.cps++y.cps).all (·<0x110000)=true;rw[Array.all_append,show x.cps.all (·<0x110000)=true from hx,show y.cps.all (·<0x110000)=true from hy];rfl
def dQ(s:String):PyData.strOk (Str.ofString s)=true:=by
 rw[Str.ofString_eq_toList];show ((s.toList.map Char.toNat).toArray).all (·<0x110000)=true;rw[List.all_toArray,æ];intro x hx;let⟨c,_,rfl⟩:=Ü.mp hx;have:=c.valid;rw[decide_eq_true_eq];rcases this with h|h
 .exact Nat.lt_trans h ⋯
 .exact h.2
structure bN(z:Str):Prop where
 len:z.length<=8
 ok:PyData.strOk z=true
def bN.sh(h:bN z):Sh 1 (.str z):=by
 have hz:sizeLine=2^24:=rfl;have:=h.len;exact⟨by simp[PyData.canLay0,h.ok],by simp[PyData.depth]⟩
def B7(hx:bN x)(hy:bN y):IY (.str x) (.str y)=some (.bool (x == y)):=by
 unfold IY;rw[Á ⟨hx.sh.shaped ⋯,hy.sh.shaped ⋯⟩];rfl
def aKV(hx:bN x)(hy:bN y):C4 (.str x) (.str y)=some (.bool (!(x == y))):=by
 unfold C4;rw[Á ⟨hx.sh.shaped ⋯,hy.sh.shaped ⋯⟩];rfl
end L2
namespace Toy
open PySem L2
structure St where
 nm:Str
 x:Int
 y:Int
 z:Int
 t:Int
 h:Int
 m:Int
structure Bx where
 nm:Str
 w:Int
 p:Str
 k:Str
 b:Int
structure Tk where
 nm:Str
 x:Int
 y:Int
 z:Int
 r:Int
def qW(s:St):D:=.tuple [.str s.nm,.int s.x,.int s.y,.int s.z,.int s.t,.int s.h,.int s.m]
def eW(b:Bx):D:=.tuple [.str b.nm,.int b.w,.str b.p,.str b.k,.int b.b]
def AH(t:Tk):D:=.tuple [.str t.nm,.int t.x,.int t.y,.int t.z,.int t.r]
def aR(bs:List Bx):D:=.list (bs.map eW)
def qX(x:Int):Prop:=-1000000000<=x/\x<=1000000000
structure EN(s:St):Prop where
 nm:bN s.nm
 x:qX s.x
 y:qX s.y
 z:qX s.z
 t:qX s.t
structure EO(s:Tk):Prop where
 nm:bN s.nm
 x:qX s.x
 y:qX s.y
 z:qX s.z
 r:0<=s.r/\s.r<=1000000000
structure aHK(b:Bx):Prop where
 nm:bN b.nm
 p:bN b.p
 k:bN b.k
 w:1<=b.w/\b.w<=1000000000
structure sJ(own:Int×Int×Int×Int)(ss:List St)(cs:List (List Bx))(ts:List Tk):Prop where
 o0:1<=own.1/\own.1<=1000000000
 o1:qX own.2.1/\qX own.2.2.1/\qX own.2.2.2
 ls:ss.length<=10
 lc:cs.length=ss.length
 lb:∀c∈cs,c.length<=30
 lt:ts.length<=4
 gs:∀s∈ss,EN s
 gb:∀c∈cs,∀b∈c,aHK b
 gt:∀t∈ts,EO t
def EQ(o:Int×Int×Int×Int):D:=.tuple [.int o.1,.int o.2.1,.int o.2.2.1,.int o.2.2.2]
abbrev Q4:=Int×Int×Int×Int
def T4:List Q4->Q4
 |[]=>(0,0,0,0)
 |p::l=>(p.1+(T4 l).1,p.1*p.2.1+(T4 l).2.1,p.1*p.2.2.1+(T4 l).2.2.1,p.1*p.2.2.2+(T4 l).2.2.2)
def WZ:∀(l m:List Q4),T4 (l++m)=((T4 l).1+(T4 m).1,(T4 l).2.1+(T4 m).2.1,(T4 l).2.2.1+(T4 m).2.2.1,(T4 l).2.2.2+(T4 m).2.2.2)
 |[],m=>by simp[T4]
 |p::l,m=>by
  rw[List.cons_append,T4,WZ l m,T4];simp![Int.add_assoc]
def aB2(l:List Q4)(p:Q4):T4 (l++[p])=((T4 l).1+p.1,(T4 l).2.1+p.1*p.2.1,(T4 l).2.2.1+p.1*p.2.2.1,(T4 l).2.2.2+p.1*p.2.2.2):=by
 rw[WZ];simp[T4]
def AI:St:=⟨"",0,0,0,0,0,0⟩
def zU:Bx:=⟨"",0,"","",0⟩
def aOS:Tk:=⟨"",0,0,0,0⟩
def JA(s:St)(bs:List Bx)(t:Nat):(List Q4):=(List.range t).map λ(j:Nat)=>((bs.getD j zU).w,s.x,s.y,s.z+(j:Int)*s.t)
def s9(ss:List St)(cs:List (List Bx))(k:Nat):(List Q4):=((List.range k).map λj=>JA (ss.getD j AI) (cs.getD j []) (cs.getD j []).length).flatten
def W0:JA s bs (t+1)=JA s bs t++[((bs.getD t zU).w,s.x,s.y,s.z+(t:Int)*s.t)]:=by
 unfold JA;rw[List.range_succ,ß];rfl
def IE:s9 ss cs (k+1)=s9 ss cs k++JA (ss.getD k AI) (cs.getD k []) (cs.getD k []).length:=by
 unfold s9;rw[List.range_succ,ß,List.flatten_append];simp
def gD{α:Type}{l:List α}{d:α}(h:k<l.length):l[k]?=some (l.getD k d):=by
 rw[Ë,É h];rfl
def cR{α:Type}{l:List α}{d:α}(h:k<l.length):l.getD k d∈l:=õ (gD h)
def LD{α:Type}{enc:α->D}{l:List α}{d:α}(h:k<l.length):atI (l.map enc) (k:Int)=some (enc (l.getD k d)):=by
 refine eI ?_;rw[Ï,gD (d:=d) h];rfl
def LG(q:Q4):D:=.tuple [.int q.1,.int q.2.1,.int q.2.2.1,.int q.2.2.2]
def Sm(x:Int):Prop:=-18446744073709551616<x/\x<18446744073709551616
def IF(hw:Sm w):wD [LG q,.int w,.tuple [.int x,.int y,.int z]]=.ok (LG (q.1+w,q.2.1+w*x,q.2.2.1+w*y,q.2.2.2+w*z)) []:=by
 let⟨h1,h2⟩:=hw;sleep 4;show bO EF [some (LG q),some (.int w),some (.tuple [.int x,.int y,.int z])] _ _ _ _;unfold EF;dsimp? [LG];exact⟨by ac_nf,by ac_nf,by ac_nf⟩
def W1{α β:Type}{f:α->D}{g:β->D}{as:List α}{bs:List β}{a0:α}{b0:β}{k:Nat}{d:D}(h:(oZ (as.map f) (bs.map g))[k]?=some d):k<as.length/\k<bs.length/\d=.tuple [f (as.getD k a0),g (bs.getD k b0)]:=by
 have hi:=(Î.mp h).1;simp![oZ,List.length_zipWith,Å]at hi;have h1:k<as.length:=by lia
 have h2:k<bs.length:=by lia
 refine⟨h1,h2,?_⟩;rw[oZ,List.getElem?_zipWith,Ï,Ï,gD (d:=a0) h1,gD (d:=b0) h2]at h;simp![Option.map_some,Option.some.injEq]at h;rw[<- h]
def fO{α:Type}{f:α->D}{as:List α}{a0:α}{k:Nat}{d:D}(h:(eZ (as.map f))[k]?=some d):k<as.length/\d=.tuple [.int (k:Int),f (as.getD k a0)]:=by
 have hi:=(Î.mp h).1;simp![eZ,List.length_mapIdx,Å]at hi;refine⟨hi,?_⟩;rw[eZ,List.getElem?_mapIdx,Ï,gD (d:=a0) hi]at h;simp![Option.map_some,Option.some.injEq]at h;rw[<- h]
def aKW:ZU (.tuple (a::l)) (some 1) none=some (.tuple l):=by
 show (if HT.sIx (l.length+1) 0 (some ((1:Nat):Int))=0/\HT.sIx (l.length+1) (l.length+1) none=l.length+1 then none else some (PyData.tuple (FV (a::l) (some ((1:Nat):Int)) none)))=_;rw[HT.sIx_nat,Â ∅];have:=rZ (ds:=a::l) (k:=1) 'e';have:=PyData.list.inj (Option.some.inj this);rw[this];rfl
section
variable {own:Q4}{ss:List St}{cs:List (List Bx)}{ts:List Tk}{bd ap tk:D}
def LH(M:sJ own ss cs ts):BU [.tuple [EQ own,bd,.list (ss.map qW),tk,ap],.list (cs.map aR)]=.ok (LG (T4 (own::s9 ss cs ss.length))) []:=by
 have lc:=M.lc;have ls:=M.ls;have o0:=M.o0;sleep 4;show bO uV [some (.tuple [EQ own,bd,.list (ss.map qW),tk,ap]),some 'c',none,none,none,none,none,none,none] _ _ _ _;unfold uV;have e0:=IF (q:=(0,0,0,0)) (w:=own.1) (x:=own.2.1) (y:=own.2.2.1) (z:=own.2.2.2) (by unfold Sm;lia);have z0:((0+own.1,0+own.1*own.2.1,0+own.1*own.2.2.1,0+own.1*own.2.2.2):Q4)=T4 [own]:=by simp[T4]
 rw[z0]at e0;have e0':wD [.tuple [.int 0,.int 0,.int 0,.int 0],.int own.1,.tuple [.int own.2.1,.int own.2.2.1,.int own.2.2.2]]=.ok (LG (T4 [own])) []:=e0;dsimp? [EQ,UG,uF,uG,BG,aKW,e0'];refine eG (ds:=oZ (ss.map qW) (cs.map aR)) (δ1:=_) (λk δ=>∃o4 o5 o6 o7 o8,δ=[some (.tuple [.tuple [.int own.1,.int own.2.1,.int own.2.2.1,.int own.2.2.2],bd,.list (ss.map qW),tk,ap]),some 'c',some (.tuple [.int own.1,.int own.2.1,.int own.2.2.1,.int own.2.2.2]),some (LG (T4 (own::s9 ss cs k))),o4,o5,o6,o7,o8]) (aBZ (by dsimp? [])) ⟨_,_,_,_,_,by simp[s9];exact⟨rfl,rfl,rfl,rfl,rfl⟩⟩ ?_ ?_
 .rintro k d δ hk ⟨o4,o5,o6,o7,o8,rfl⟩
  let⟨k1,k2,rfl⟩:=W1 (a0:=AI) (b0:=[]) hk;have gb:=M.gb _ (cR (d:=[]) k2);refine⟨_,rfl,?_⟩;refine eG (ds:=eZ ((cs.getD k []).map eW)) (λt δ=>∃o6 o7 o8,δ=[some (.tuple [.tuple [.int own.1,.int own.2.1,.int own.2.2.1,.int own.2.2.2],bd,.list (ss.map qW),tk,ap]),some 'c',some (.tuple [.int own.1,.int own.2.1,.int own.2.2.1,.int own.2.2.2]),some (LG (T4 (own::s9 ss cs k++JA (ss.getD k AI) (cs.getD k []) t))),some (qW (ss.getD k AI)),some (aR (cs.getD k [])),o6,o7,o8]) (jX rfl) ⟨_,_,_,by simp[JA];exact⟨rfl,rfl,rfl⟩⟩ ?_ ?_
  .rintro t d δ ht ⟨o6,o7,o8,rfl⟩
   let⟨t1,rfl⟩:=fO (a0:=zU) ht;have gw:=gb _ (cR (d:=zU) t1);generalize hs:ss.getD k AI=s at *;generalize hb:(cs.getD k []).getD t zU=b at *;have e1:=IF (q:=T4 (own::s9 ss cs k++JA s (cs.getD k []) t)) (w:=b.w) (x:=s.x) (y:=s.y) (z:=s.z+(t:Int)*s.t) (by unfold Sm;have:=gw.w;lia);have lb:=M.lb _ (cR (d:=[]) k2);refine⟨_,rfl,?_⟩;dsimp? [qW,eW,e1];have eT:T4 (own::s9 ss cs k++JA s (cs.getD k []) (t+1))=((T4 (own::s9 ss cs k++JA s (cs.getD k []) t)).1+b.w,(T4 (own::s9 ss cs k++JA s (cs.getD k []) t)).2.1+b.w*s.x,(T4 (own::s9 ss cs k++JA s (cs.getD k []) t)).2.2.1+b.w*s.y,(T4 (own::s9 ss cs k++JA s (cs.getD k []) t)).2.2.2+b.w*(s.z+(t:Int)*s.t)):=by
    rw[W0,<- List.append_assoc,aB2,hb]
   rw[eT];exact⟨by ac_nf,_,_,_,rfl⟩
  .rintro δ ⟨o6,o7,o8,rfl⟩
   rw[hJ,Å,IE];exact⟨_,_,_,_,_,rfl⟩
 .rintro δ ⟨o4,o5,o6,o7,o8,rfl⟩
  rw[aB0 (by simp[lc]),Å];dsimp? []
end
section
variable {own:Q4}{ss:List St}{cs:List (List Bx)}{ts:List Tk}
def N5:(ts.map λt=>PyData.int (f t))=(ts.map f).map PyData.int:=by simp
def ER{g:Tk->Int}(hl:ts.length<=10)(hg:∀t:Tk,atI [PyData.str t.nm,.int t.x,.int t.y,.int t.z,.int t.r] axis=some (.int (g t)))(hq:atI [PyData.int q.1,.int q.2.1,.int q.2.2.1,.int q.2.2.2] axis=some (.int qa))(hh:qX high):
  gZ [.list (ts.map AH),.int axis,.int high,LG q]=.ok (QX (ts.map λt=>g t-high,high*q.1-qa)) []:=by
 unfold qX at hh;sleep 4;show bO kH [some (.list (ts.map AH)),some (.int axis),some (.int high),some (LG q)] _ _ _ _;unfold kH;dsimp? [];refine aV.of (cZ (enc:=AH) (xs:=ts) (g:=λt=>.int (g t-high)) (eY rfl) ∅ λt _=>?_) ?_
 .dsimp? [AH,hg]
 .rw[N5]
  dsimp? [LG,hq,QX];exact(by ac_nf)
def W2{g:Tk->Int}(hl:ts.length<=10)(hg:∀t:Tk,atI [PyData.str t.nm,.int t.x,.int t.y,.int t.z,.int t.r] axis=some (.int (g t)))(hq:atI [PyData.int q.1,.int q.2.1,.int q.2.2.1,.int q.2.2.2] axis=some (.int qa))(hh:qX low):
  mC [.list (ts.map AH),.int axis,.int low,LG q]=.ok (QX (ts.map λt=>low-g t,qa-low*q.1)) []:=by
 unfold qX at hh;sleep 4;show bO mB [some (.list (ts.map AH)),some (.int axis),some (.int low),some (LG q)] _ _ _ _;unfold mB;dsimp? [];refine aV.of (cZ (enc:=AH) (xs:=ts) (g:=λt=>.int (low-g t)) (eY rfl) ∅ λt _=>?_) ?_
 .dsimp? [AH,hg]
 .rw[N5]
  dsimp? [LG,hq,QX];exact(by ac_nf)
structure W3 where
 b0:Int
 b1:Int
 b2:Int
 b3:Int
 b4:Int
 b5:Int
structure tE(b:W3):Prop where
 b0:qX b.b0
 b1:qX b.b1
 b2:qX b.b2
 b3:qX b.b3
 b4:qX b.b4
 b5:qX b.b5
def đ(b:W3):D:=.tuple [.int b.b0,.int b.b1,.int b.b2,.int b.b3,.int b.b4,.int b.b5]
def IG(ts:List Tk)(b:W3)(q:Q4):ZE:=
 [(ts.map λt=>t.x-b.b1,b.b1*q.1-q.2.1),(ts.map λt=>b.b0-t.x,q.2.1-b.b0*q.1),(ts.map λt=>t.y-b.b3,b.b3*q.1-q.2.2.1),(ts.map λt=>b.b2-t.y,q.2.2.1-b.b2*q.1),(ts.map λt=>t.z-b.b4,b.b4*q.1-q.2.2.2),(ts.map λ_=>1,b.b5-q.1)]
def aB3(M:sJ own ss cs ts)(g:tE b):uX [.tuple [EQ own,đ b,.list (ss.map qW),.list (ts.map AH),ap],.list (cs.map aR)]=.ok (.list ((IG ts b (T4 (own::s9 ss cs ss.length))).map QX)) []:=by
 have lt:ts.length<=10:=Õ M.lt ⋯;have e0:=LH (bd:=đ b) (tk:=.list (ts.map AH)) (ap:=ap) M;generalize T4 (own::s9 ss cs ss.length)=q at *;have h1:=ER (ts:=ts) (axis:=1) (g:=λt=>t.x) (q:=q) (qa:=q.2.1) lt (λ_=>BE) BE g.b1;have h2:=W2 (ts:=ts) (axis:=1) (g:=λt=>t.x) (q:=q) (qa:=q.2.1) lt (λ_=>BE) BE g.b0;have h3:=ER (ts:=ts) (axis:=2) (g:=λt=>t.y) (q:=q) (qa:=q.2.2.1) lt (λ_=>BF) BF g.b3;have h4:=W2 (ts:=ts) (axis:=2) (g:=λt=>t.y) (q:=q) (qa:=q.2.2.1) lt (λ_=>BF) BF g.b2;have h5:=ER (ts:=ts) (axis:=3) (g:=λt=>t.z) (q:=q) (qa:=q.2.2.2) lt (λ_=>MT) MT g.b4;sleep 4;show bO uW [some (.tuple [EQ own,đ b,.list (ss.map qW),.list (ts.map AH),ap]),some 'c',none,none,none] _ _ _ _;unfold uW;dsimp? [e0];simp![đ];dsimp? [h1,h2,h3,h4,h5];refine aV.of (cZ (enc:=AH) (xs:=ts) (g:=λ_=>.int 1) (eY rfl) ∅ λt _=>by dsimp? []) ?_;rw[N5 (f:=λ_=>1)];dsimp? [LG];rfl
def LJ(lt:ts.length<=10):qK [.tuple [A,B,C,.list (ts.map AH),E]]=.ok (iL (ts.map λt=>t.r)) []:=by
 sleep 4;show bO qJ [some (.tuple [A,B,C,.list (ts.map AH),E])] _ _ _ _;unfold qJ;dsimp? [];refine aV.of (cZ (enc:=AH) (xs:=ts) (g:=λt=>.int t.r) (cQ (by dsimp? [])) ∅ λt _=>by dsimp? [AH]) ?_;rw[N5];exact⟨rfl,rfl⟩
end
section
variable {own:Q4}{ss:List St}{cs:List (List Bx)}{ts:List Tk}
def Ϫ(h1:-1000000000<=x)(h2:x<=1000000000):fG 30 x:=by show x.natAbs<2^30;lia
def qX.fit(h:qX x):fG 30 x:=Ϫ h.1 h.2
def N6:∀l:List Q4,T4 l=((l.map λq=>q.1).sum,(l.map λq=>q.1*q.2.1).sum,(l.map λq=>q.1*q.2.2.1).sum,(l.map λq=>q.1*q.2.2.2).sum)
 |[]=>rfl
 |p::l=>by rw[T4,N6 l];simp
def N7(M:sJ own ss cs ts):∀k,k<=ss.length->(s9 ss cs k).length<=30*k
 |0,_=>by simp[s9]
 |k+1,hk=>by
  have ih:=N7 M k ∅;have lc:=M.lc;have lb:=M.lb _ (cR (d:=[]) (show k<cs.length by lia));rw[IE,Ñ];have:(JA (ss.getD k AI) (cs.getD k []) (cs.getD k []).length).length=(cs.getD k []).length:=by simp[JA]
  lia
structure aOT(p:Q4):Prop where
 w:1<=p.1/\p.1<=1000000000
 x:fG 40 p.2.1
 y:fG 40 p.2.2.1
 z:fG 40 p.2.2.2
def aHL(M:sJ own ss cs ts):∀p∈own::s9 ss cs ss.length,aOT p:=λp hp=>by
 rcases Ì.mp hp with rfl|hp
 .have:=M.o1
  exact⟨M.o0,this.1.fit.mono ⋯,this.2.1.fit.mono ⋯,this.2.2.fit.mono ⋯⟩
 .unfold s9 at hp
  let⟨l,hl,hq⟩:=List.mem_flatten.mp hp;let⟨j,hj,rfl⟩:=Ü.mp hl;have hj:=List.mem_range.mp hj;unfold JA at hq;let⟨t,ht,rfl⟩:=Ü.mp hq;have ht:=List.mem_range.mp ht;have lc:=M.lc;have hc:j<cs.length:=by lia
  have gb:=M.gb _ (cR (d:=[]) hc) _ (cR (d:=zU) ht);have lb:=M.lb _ (cR (d:=[]) hc);have gs:=M.gs _ (cR (d:=AI) hj);refine⟨gb.w,gs.x.fit.mono ⋯,gs.y.fit.mono ⋯,?_⟩;have h1:=gs.z;have h2:=gs.t;unfold qX at h1 h2;have ht':(t:Int)<=30:=by lia
  have e1:(t:Int)*(ss.getD j AI).t<=30*1000000000:=by
   have a1:=Int.mul_le_mul_of_nonneg_left h2.2 (show (0:Int)<=(t:Int) by lia);lia
  have e2:-(30*1000000000)<=(t:Int)*(ss.getD j AI).t:=by
   have a1:=Int.mul_le_mul_of_nonneg_left h2.1 (show (0:Int)<=(t:Int) by lia);lia
  show ((ss.getD j AI).z+(t:Int)*(ss.getD j AI).t).natAbs<2^40;lia
open Classical in
end
def W4 :∀xs:ZK,(∀x∈xs,fG m x)->xs.sum.natAbs<=xs.length*2^m
 |[],_=>î _
 |x::xs,h=>by
  have h1:x.natAbs<2^m:=h x Ô;have h2:=W4 xs λq hq=>h q (Ò _ hq);rw[List.sum_cons,Ý,Nat.succ_mul];have:=Int.natAbs_add_le x xs.sum;lia
def aB4{xs:ZK}(hl:xs.length<512)(hn:m+9=n)(h:∀x∈xs,fG m x):fG n xs.sum:=by
 subst hn;have:=W4 xs h;have h2:=Nat.two_pow_pos m;show _<2^(m+9);rw[Nat.pow_add,Nat.mul_comm];exact Ĉ this ((Nat.mul_lt_mul_right h2).mpr hl)
section
variable {own:Q4}{ss:List St}{cs:List (List Bx)}{ts:List Tk}
def aHM(M:sJ own ss cs ts):fG 80 (T4 (own::s9 ss cs ss.length)).1/\fG 80 (T4 (own::s9 ss cs ss.length)).2.1/\fG 80 (T4 (own::s9 ss cs ss.length)).2.2.1/\fG 80 (T4 (own::s9 ss cs ss.length)).2.2.2:=by
 have ls:=M.ls;have len:=N7 M ss.length (Ç _);have al:=aHL M;rw[N6];have l1:(own::s9 ss cs ss.length).length<512:=by rw[Ý];lia
 generalize own::s9 ss cs ss.length=L at *;have w:∀p∈L,fG 30 p.1:=λp hp=>Ϫ (by have:=(al p hp).w;lia) (al p hp).w.2;have main:∀f:Q4->Int,(∀p∈L,fG 71 (f p))->fG 80 (L.map f).sum:=λf hf=>aB4 (m:=71) (by rw[Å];exact l1) rfl λx hx=>by
  let⟨p,hp,rfl⟩:=Ü.mp hx;exact hf p hp
 exact⟨main _ λp hp=>(w p hp).mono ⋯,main _ λp hp=>(w p hp).mul (al p hp).x ⋯,main _ λp hp=>(w p hp).mul (al p hp).y ⋯,main _ λp hp=>(w p hp).mul (al p hp).z ⋯⟩
structure W9(Æ:ZE)(Ã:ZK):Prop where
 n:Ã.length<=4
 m:Æ.length<=8
 rw:∀r∈Æ,r.1.length=Ã.length/\Ϩ 40 r.1/\fG 120 r.2
 ro:∀r∈Ã,0<=r/\r<=1000000000
def aB5(M:sJ own ss cs ts)(g:tE b):W9 (IG ts b (T4 (own::s9 ss cs ss.length))) (ts.map λt=>t.r):=by
 let⟨f0,f1,f2,f3⟩:=aHM M;have mp:∀(h:Tk->Int),(∀t∈ts,fG 31 (h t))->Ϩ 40 (ts.map h):=λh hh x hx=>by
  let⟨t,ht,rfl⟩:=Ü.mp hx;exact(hh t ht).mono ⋯
 generalize T4 (own::s9 ss cs ss.length)=q at *;refine⟨by rw[Å];exact M.lt,Nat.le_of_ble_eq_true rfl,λr hr=>?_,λr hr=>?_⟩
 .unfold IG at hr
  simp![Ì,Ø,or_false]at hr;rcases hr with rfl|rfl|rfl|rfl|rfl|rfl
  .exact⟨by simp,mp _ λt ht=>(M.gt t ht).x.fit.sub g.b1.fit ⋯,(g.b1.fit.mul f0 (k:=110) ⋯).sub f1 ⋯⟩
  .exact⟨by simp,mp _ λt ht=>g.b0.fit.sub (M.gt t ht).x.fit ⋯,f1.sub (g.b0.fit.mul f0 (k:=110) ⋯) ⋯⟩
  .exact⟨by simp,mp _ λt ht=>(M.gt t ht).y.fit.sub g.b3.fit ⋯,(g.b3.fit.mul f0 (k:=110) ⋯).sub f2 ⋯⟩
  .exact⟨by simp,mp _ λt ht=>g.b2.fit.sub (M.gt t ht).y.fit ⋯,f2.sub (g.b2.fit.mul f0 (k:=110) ⋯) ⋯⟩
  .exact⟨by simp,mp _ λt ht=>(M.gt t ht).z.fit.sub g.b4.fit ⋯,(g.b4.fit.mul f0 (k:=110) ⋯).sub f3 ⋯⟩
  .exact⟨by simp,mp _ λt ht=>aM8 ⋯,g.b5.fit.sub f0 ⋯⟩
 .obtain⟨t,ht,rfl⟩:=Ü.mp hr
  exact(M.gt t ht).r
end
section
def W9.bnd(W:W9 Æ Ã):Ć Æ Ã (2^40) (2^120)/\Sx.fac Ã.length*(2^40)^Ã.length<2^300/\(Ã.length+1)*(Sx.fac Ã.length*(2^40)^Ã.length*2^120)<2^300:=by
 have n4:=W.n;have r8:=W.m;have hh:Sx.fac Ã.length*(2^40)^Ã.length<2^300/\(Ã.length+1)*(Sx.fac Ã.length*(2^40)^Ã.length*2^120)<2^300:=by
  have:Ã.length=0\/Ã.length=1\/Ã.length=2\/Ã.length=3\/Ã.length=4:=by lia
  rcases this with h|h|h|h|h<;>rw[h]<;>decide
 have up:(2:Nat)^300<2^4000:=by decide
 refine⟨⟨λr hr=>(W.rw r hr).1,∅,∅,⋯,λr hr x hx=>È ((W.rw r hr).2.1 x hx),λr hr=>È (W.rw r hr).2.2,λx hx=>?_,Nat.lt_trans hh.1 up,Nat.lt_trans hh.2 up⟩,hh⟩;have:=W.ro x hx;have h70:(1000000000:Nat)<=2^120:=by decide
 lia
end
section
def cell(ns:ZK)(k:Int):Int:=ns.getD k.toNat 0
def wI(h0:0<=k):eV [iL ns,.int k]=.ok (.int (cell ns k)) []:=by
 sleep 4;show bO nW [some (iL ns),some (.int k)] _ _ _ _;unfold nW;by_cases h:k<(ns.length:Int)
 .have e:k=(k.toNat:Int):=by lia
  have e2:=aBY (ns:=ns) (k:=k.toNat) ∅;rw[<- e]at e2;dsimp? [Å,h,decide_true,e2,cell]
 .have e:cell ns k=0:=by unfold cell;rw[Ë,å ∅];rfl
  dsimp? [Å,h,decide_false,Bool.false_eq_true,e]
def dr(ns:ZK)(k m:Int):Int:=(cell ns k % 1000003+k*k)*48271 % 999983 % m
def ot(ns:ZK)(k m:Int):Int:=(cell ns k % 1000033+7*k+1)*69621 % 1000003 % m
def th(ns:ZK)(k m:Int):Int:=(cell ns k % 1000037+11*k+5)*16807 % 999979 % m
def gE(h:0<m):0<=dr ns k m/\dr ns k m<m:=⟨Int.emod_nonneg _ ∅,Int.emod_lt_of_pos _ h⟩
def iJ(h:0<m):0<=ot ns k m/\ot ns k m<m:=⟨Int.emod_nonneg _ ∅,Int.emod_lt_of_pos _ h⟩
def iK(h:0<m):0<=th ns k m/\th ns k m<m:=⟨Int.emod_nonneg _ ∅,Int.emod_lt_of_pos _ h⟩
def jE(h0:0<=k)(h1:k<=1000)(h:0<m):cH [iL ns,.int k,.int m]=.ok (.int (dr ns k m)) []:=by
 sleep 4;show bO y8 [some (iL ns),some (.int k),some (.int m)] _ _ _ _;unfold y8;dsimp? [wI h0,rX,Int.reduceLT,h,dr];exact⟨by ac_nf,by ac_nf⟩
def jY(h0:0<=k)(h1:k<=1000)(h:0<m):bW [iL ns,.int k,.int m]=.ok (.int (ot ns k m)) []:=by
 sleep 4;show bO uZ [some (iL ns),some (.int k),some (.int m)] _ _ _ _;unfold uZ;dsimp? [wI h0,rX,Int.reduceLT,h,ot];exact⟨by ac_nf,by ac_nf⟩
def lF(h0:0<=k)(h1:k<=1000)(h:0<m):bS [iL ns,.int k,.int m]=.ok (.int (th ns k m)) []:=by
 sleep 4;show bO u0 [some (iL ns),some (.int k),some (.int m)] _ _ _ _;unfold u0;dsimp? [wI h0,rX,Int.reduceLT,h,th];exact⟨by ac_nf,by ac_nf⟩
def jI(i:Int):Str:=⟨#[97+i.toNat]⟩
def W5:∀n<26,(match gG (.str "abcdefghijklmnopqrstuvwxyz") (.int (n:Nat))with|some (.str z)=>z.cps == #[97+n]|_=>false)=true:=by decide +kernel
def wJ(h0:0<=i)(h1:i<26):gG (.str "abcdefghijklmnopqrstuvwxyz") (.int i)=some (.str (jI i))/\(jI i).length=1/\PyData.strOk (jI i)=true:=by
 refine⟨?_,rfl,aB1 ∅⟩;have h:=W5 i.toNat ∅;rw[Int.toNat_of_nonneg h0]at h;split at h
 .rename_i z e
  rw[e];unfold jI;congr 2;cases z;exact congrArg Str.mk (beq_iff_eq.mp h)
 .cases h
def nm(ns:ZK)(k n:Int):Str:=
 iQ (jI (dr ns k 26)) (ot ns k (1+th ns k 8))++jI ((7*n+ot ns (k+1) 26) % 26)++iQ (jI (dr ns k 26)) (1+th ns k 8-1-ot ns k (1+th ns k 8))
def IH:(jI (dr ns k 26)).length=1/\PyData.strOk (jI (dr ns k 26))=true/\(jI ((7*n+ot ns (k+1) 26) % 26)).length=1/\PyData.strOk (jI ((7*n+ot ns (k+1) 26) % 26))=true:=by
 have h1:=gE (ns:=ns) (k:=k) (m:=26) ⋯;have a:=wJ h1.1 h1.2;have b:=wJ (i:=(7*n+ot ns (k+1) 26) % 26) ∅ ∅;exact⟨a.2.1,a.2.2,b.2.1,b.2.2⟩
def jZ:bN (nm ns k n):=by
 let⟨a1,a2,b1,b2⟩:=IH (ns:=ns) (k:=k) (n:=n);have h1:=iK (ns:=ns) (k:=k) (m:=8) ⋯;have h2:=iJ (ns:=ns) (k:=k) (m:=1+th ns k 8) ∅;unfold nm;refine⟨?_,zN (zN (M1 a2) b2) (M1 a2)⟩;rw[hU,hU,i6,i6,a1,b1];lia
def j5(h0:0<=k)(h1:k<=900)(n0:0<=n)(n1:n<=1000):gB [iL ns,.int k,.int n]=.ok (.str (nm ns k n)) []:=by
 sleep 4;show bO y9 [some (iL ns),some (.int k),some (.int n),none,none,none,none,none] _ _ _ _;unfold y9;have t1:=iK (ns:=ns) (k:=k) (m:=8) ⋯;have t2:=iJ (ns:=ns) (k:=k) (m:=1+th ns k 8) ∅;have t3:=gE (ns:=ns) (k:=k) (m:=26) ⋯;have p1:=wJ t3.1 t3.2;have p2:=wJ (i:=(7*n+ot ns (k+1) 26) % 26) ∅ ∅;have e1:=lF (ns:=ns) (k:=k) (m:=8) h0 ∅ ⋯;have e2:=jY (ns:=ns) (k:=k) (m:=1+th ns k 8) h0 ∅ ∅;have e3:=jE (ns:=ns) (k:=k) (m:=26) h0 ∅ ⋯;have e4:=jY (ns:=ns) (k:=k+1) (m:=26) ∅ ∅ ⋯;have en:nm ns k n=iQ (jI (dr ns k 26)) (ot ns k (1+th ns k 8))++jI ((7*n+ot ns (k+1) 26) % 26)++iQ (jI (dr ns k 26)) (1+th ns k 8-1-ot ns k (1+th ns k 8)):=rfl;rw[en];clear en;generalize jI (dr ns k 26)=x at *;generalize jI ((7*n+ot ns (k+1) 26) % 26)=y at *;have l1:=i6 (x:=x) (n:=ot ns k (1+th ns k 8));have l2:=i6 (x:=x) (n:=1+th ns k 8-1-ot ns k (1+th ns k 8));have r1:=ϑ (i:=x) (n:=ot ns k (1+th ns k 8)) ∅ ∅ ∅;have r2:=ϑ (i:=x) (n:=1+th ns k 8-1-ot ns k (1+th ns k 8)) ∅ ∅ ∅;rw[p1.2.1,Nat.mul_one]at l1 l2;have s1:=B6 (x:=iQ x (ot ns k (1+th ns k 8))) (y:=y) ∅;have l3:(iQ x (ot ns k (1+th ns k 8))++y).length=_:=hU;have s2:=B6 (x:=iQ x (ot ns k (1+th ns k 8))++y) (y:=iQ x (1+th ns k 8-1-ot ns k (1+th ns k 8))) ∅;dsimp? [e1,e2,e3,e4,p1.1,p2.1,rX,Int.reduceLT,r1,r2,s1,s2];exact(by ac_nf)
def vR(ns:ZK):Int:=if dr ns 0 4=2 then 997 else if dr ns 0 4=3 then 1000000 else 1
def qU:1<=vR ns/\vR ns<=1000000:=by
 unfold vR;split
 .decide
 .split<;>decide
def aOU:J2 (.int 10) (.int 6)=some (.int 1000000):=by
 rw[MG (ž ∅ ∅ ⋯)];rfl
def nZ:lC [iL ns]=.ok (.int (vR ns)) []:=by
 sleep 4;show bO u1 [some (iL ns)] _ _ _ _;unfold u1;have t:=gE (ns:=ns) (k:=0) (m:=4) ⋯;have e:atI [PyData.int 1,.int 1,.int 997,.int 1000000] (dr ns 0 4)=some (.int (vR ns)):=by
  unfold vR;have:dr ns 0 4=0\/dr ns 0 4=1\/dr ns 0 4=2\/dr ns 0 4=3:=by lia
  rcases this with z|z|z|z<;>rw[z]<;>rfl
 dsimp? [aOU,jE,Int.reduceLE,Int.reduceLT,e]
structure tF(b:Bx):Prop where
 nm:bN b.nm
 p:bN b.p
 k:bN b.k
def kd(ns:ZK)(n:Int):Int:=if th ns (20+n) 6=4 then 1 else if th ns (20+n) 6=5 then 2 else 0
def ĭ(ns:ZK)(n:Int):Int:=if vR ns*ot ns (21+n) 90>9*vR ns then vR ns*ot ns (21+n) 90+40*vR ns else vR ns*ot ns (21+n) 90
def bx(ns:ZK)(n:Int):Bx:=⟨nm ns 16 n,vR ns*(1+dr ns (20+n) 20),nm ns 17 (ot ns (20+n) 4),nm ns 18 (kd ns n),ĭ ns n⟩
def aB6:tF (bx ns n):=⟨jZ,jZ,jZ⟩
def LK(n0:0<=n)(n1:n<=100):mD [iL ns,.int n]=.ok (eW (bx ns n)) []:=by
 sleep 4;show bO EG [some (iL ns),some (.int n),none,none,none,none] _ _ _ _;unfold EG;have s:=qU (ns:=ns);have t1:=iJ (ns:=ns) (k:=20+n) (m:=4) ⋯;have t2:=iK (ns:=ns) (k:=20+n) (m:=6) ⋯;have t3:=iJ (ns:=ns) (k:=21+n) (m:=90) ⋯;have t4:=gE (ns:=ns) (k:=20+n) (m:=20) ⋯;have e1:=jY (ns:=ns) (k:=20+n) (m:=4) ∅ ∅ ⋯;have e2:=lF (ns:=ns) (k:=20+n) (m:=6) ∅ ∅ ⋯;have e3:=jY (ns:=ns) (k:=21+n) (m:=90) ∅ ∅ ⋯;have e4:=jE (ns:=ns) (k:=20+n) (m:=20) ∅ ∅ ⋯;have ek:atI [PyData.int 0,.int 0,.int 0,.int 0,.int 1,.int 2] (th ns (20+n) 6)=some (.int (kd ns n)):=by
  unfold kd;have:th ns (20+n) 6=0\/th ns (20+n) 6=1\/th ns (20+n) 6=2\/th ns (20+n) 6=3\/th ns (20+n) 6=4\/th ns (20+n) 6=5:=by lia
  rcases this with z|z|z|z|z|z<;>rw[z]<;>rfl
 have k0:0<=kd ns n/\kd ns n<=2:=by unfold kd;split<;>(try split)<;>lia
 have n1:=j5 (ns:=ns) (k:=17) (n:=ot ns (20+n) 4) ⋯ ⋯ ∅ ∅;have n2:=j5 (ns:=ns) (k:=18) (n:=kd ns n) ⋯ ⋯ ∅ ∅;have n3:=j5 (ns:=ns) (k:=16) (n:=n) ⋯ ⋯ ∅ ∅;by_cases c:vR ns*ot ns (21+n) 90>9*vR ns
 .have eb:ĭ ns n=vR ns*ot ns (21+n) 90+40*vR ns:=Á c
  have c':9*vR ns<vR ns*ot ns (21+n) 90:=c;dsimp? [nZ,e1,e2,e3,e4,ek,n1,n2,n3,c',decide_true,eW,bx,eb];exact⟨by ac_nf,by ac_nf,by ac_nf,by ac_nf⟩
 .have eb:ĭ ns n=vR ns*ot ns (21+n) 90:=Â c
  have c':¬9*vR ns<vR ns*ot ns (21+n) 90:=c;dsimp? [nZ,e1,e2,e3,e4,ek,n1,n2,n3,c',decide_false,Bool.false_eq_true,eW,bx,eb];exact⟨by ac_nf,by ac_nf,by ac_nf⟩
end
end Toy
namespace L2
open PySem PySem.Spec
def aHN{i:Nat}{δ:DS}(h:δ[i]?=some (some (.list as))):Ŀ (bA i) δ=.ok as.reverse δ:=by
 simp![Ŀ,aZ,bQ h,aW]
end L2
namespace Toy
open PySem L2
def II(cs:List (List Bx))(m:Nat):Prop:=∀c∈cs,c.length<=m/\∀b∈c,tF b
section
def wK(bs:List Bx)(p:Str):(List Bx):=bs.drop (bs.findIdx λb=>b.p == p)
def N8:(wK bs p).length<=bs.length:=by unfold wK;rw[Č];lia
def N9(h:b∈wK bs p):b∈bs:=List.mem_of_mem_drop h
def QY(gb:∀b∈bs,tF b)(gp:bN p):nV [aR bs,.str p]=.ok (aR (wK bs p)) []:=by
 sleep 4;show bO jC [some (aR bs),some (.str p),none,none] _ _ _ _;unfold jC;dsimp? [];refine eG (ds:=eZ (bs.map eW)) (δ1:=_) (λk δ=>∃o2 o3,δ=[some (aR bs),some (.str p),o2,o3]/\∀i(hi:i<bs.length),i<k->(bs[i].p == p)=false) (jX rfl) ⟨none,none,rfl,λi hi h=>by lia⟩ ?_ ?_
 .rintro k d δ hk ⟨o2,o3,rfl,ih⟩
  let⟨k1,rfl⟩:=fO (a0:=zU) hk;have eg:bs.getD k zU=bs[k]:=by rw[Ë,É k1];rfl
  rw[eg];have gk:=gb _ (ă k1);refine⟨_,rfl,?_⟩;cases c:(bs[k].p == p)with
  |true=>
   have e1:bs.findIdx (λb=>b.p == p)=k:=by
    rw[List.findIdx_eq k1];exact⟨c,λj hj=>ih j ∅ hj⟩
   have e2:C7 (.list (bs.map eW)) (some (k:Int)) none=some (.list ((bs.map eW).drop k)):=rZ (by rw[Å];lia);dsimp? [eW,B7 gk.p gp,c];have e3:wK bs p=bs.drop k:=by unfold wK;rw[e1]
   dsimp? [UG,uF,uG,BG,aR,e2,e3,List.map_drop]
  |false=>
   dsimp? [eW,B7 gk.p gp,c];refine⟨_,_,rfl,λi hi h=>?_⟩;by_cases z:i=k
   .subst z;exact c
   .exact ih i hi ∅
 .rintro δ ⟨o2,o3,rfl,ih⟩
  rw[hJ,Å]at ih;have e1:wK bs p=[]:=by
   unfold wK;have:bs.findIdx (λb=>b.p == p)=bs.length:=by
    rw[List.findIdx_eq_length];intro x hx;let⟨i,hi,rfl⟩:=List.mem_iff_getElem.mp hx;exact ih i hi hi
   rw[this,List.drop_length]
  dsimp? [e1,aR,List.map_nil]
structure Ń where
 w:Str
 s:Int
 z:Str
def tG(t:Ń):D:=.tuple [.str t.w,.int t.s,.str t.z]
abbrev Mv:=Ń×D
def IJ(m:Mv):D:=.tuple [tG m.1,m.2]
def W6(s:Int)(b:Bx):Mv:=(⟨"off",s,b.nm⟩,.none)
def Į(s:Int)(b:Bx):Mv:=(⟨"back",s,b.nm⟩,eW b)
abbrev Ld:=Bx×Int
def n5(x:Ld):D:=.tuple [eW x.1,.int x.2]
def į(x:Ld):Mv:=(⟨"on",x.2,x.1.nm⟩,eW x.1)
def nP(p:Str)(b:Bx):Bool:=!(b.p == p)
def ć(bs:List Bx)(s:Int)(p:Str):(List Mv):=(wK bs p).reverse.map (W6 s)++((wK bs p).filter (nP p)).map (Į s)
def OA:(ć bs s p).length<=2*bs.length:=by
 have h1:=N8 (bs:=bs) (p:=p);have h2:=List.length_filter_le (nP p) (wK bs p);unfold ć;rw[Ñ,Å,Å,List.length_reverse];lia
def W7(gb:∀b∈bs,tF b)(gp:bN p)(l:bs.length<=100):k8 [aR bs,.int s,.str p]=.ok (.list ((ć bs s p).map IJ)) []:=by
 have hz:sizeLine=2^24:=rfl;have h1:=N8 (bs:=bs) (p:=p);have h2:=List.length_filter_le (nP p) (wK bs p);sleep 4;show bO gU [some (aR bs),some (.int s),some (.str p),none,none] _ _ _ _;unfold gU;dsimp? [QY gb gp];have er:((wK bs p).map eW).reverse=(wK bs p).reverse.map eW:=by rw[List.map_reverse]
 refine aV.of (cZ (enc:=eW) (xs:=(wK bs p).reverse) (g:=λb=>IJ (W6 s b)) (by rw[<- er];exact aHN rfl) (by rw[List.length_reverse];lia) λx _=>by dsimp? [eW,IJ,W6,tG]) ?_;dsimp? [];refine aV.of (EM (enc:=eW) (xs:=wK bs p) (h:=nP p) (g:=λb=>IJ (Į s b)) (cQ (by dsimp? [aR])) ∅ (λx hx=>by
  have gx:=gb x (N9 hx);dsimp? [eW,aKV gx.p gp,nP]) λx _=>by dsimp? [eW,IJ,Į,tG]) ?_
 have em:(ć bs s p).map IJ=((wK bs p).reverse.map λb=>IJ (W6 s b))++(((wK bs p).filter (nP p)).map λb=>IJ (Į s b)):=by
  unfold ć;rw[ß,ê,ê];rfl
 dsimp? [xO,em];rw[Å,Å,List.length_reverse];lia
def X8(cs:List (List Bx))(p:Str)(k:Nat):(List Mv):=((List.range k).map λ(j:Nat)=>ć (cs.getD j []) (j:Int) p).flatten
def zO:X8 cs p (k+1)=X8 cs p k++ć (cs.getD k []) (k:Int) p:=by
 unfold X8;rw[List.range_succ,ß,List.flatten_append];simp
def wL(h:∀c∈cs,c.length<=50):∀k,k<=cs.length->(X8 cs p k).length<=100*k
 |0,_=>by simp[X8]
 |k+1,hk=>by
  rw[zO,Ñ];have h1:=wL (p:=p) h k ∅;have h2:=OA (bs:=cs.getD k []) (s:=(k:Int)) (p:=p);have h3:=h _ (cR (d:=[]) (show k<cs.length by lia));lia
def eX(p:Str)(ld:List Ld):D:=.tuple [.str p,.list (ld.map n5)]
def v3(cs:List (List Bx))(p:Str)(ld:List Ld):(List Mv):=X8 cs p cs.length++ld.map į
def IK(gc:II cs 50)(gp:bN p)(lc:cs.length<=8)(ll:ld.length<=50):qO [.list (cs.map aR),eX p ld]=.ok (.list ((v3 cs p ld).map IJ)) []:=by
 have hz:sizeLine=2^24:=rfl;have hl:∀c∈cs,c.length<=50:=λc hc=>(gc c hc).1;sleep 4;show bO qN [some 'c',some (eX p ld),none,none,none] _ _ _ _;unfold qN;dsimp? [];refine eG (ds:=eZ (cs.map aR)) (δ1:=_) (λk δ=>∃o3 o4,δ=[some 'c',some (eX p ld),some (.list ((X8 cs p k).map IJ)),o3,o4]) (jX rfl) ⟨none,none,rfl⟩ ?_ ?_
 .rintro k d δ hk ⟨o3,o4,rfl⟩
  let⟨k1,rfl⟩:=fO (a0:=[]) hk;refine⟨_,rfl,?_⟩;have g1:=gc _ (cR (d:=[]) k1);have l1:=wL (p:=p) hl k ∅;have l2:=OA (bs:=cs.getD k []) (s:=(k:Int)) (p:=p);have e1:=W7 (bs:=cs.getD k []) (s:=(k:Int)) (p:=p) g1.2 gp ∅;rw[zO,ß];dsimp? [eX,e1,xO];refine⟨by rw[Å,Å];lia,_,_,rfl⟩
 .rintro δ ⟨o3,o4,rfl⟩
  rw[hJ,Å];have l1:=wL (p:=p) hl cs.length (Ç _);dsimp? [];refine aV.of (oW (enc:=n5) (A:=λx=>eW x.1) (B:=λx=>.int x.2) (xs:=ld) (g:=λx=>IJ (į x)) (λx=>rfl) (cQ (by dsimp? [eX])) ∅ λx _=>by dsimp? [eW,IJ,į,tG]) ?_;have em:(v3 cs p ld).map IJ=(X8 cs p cs.length).map IJ++ld.map λx=>IJ (į x):=by
   unfold v3;rw[ß,ê];rfl
  dsimp? [xO,em];rw[Å,Å];lia
def zP(gc:II cs 50)(lc:cs.length<=8)(ll:ld.length<=50):(v3 cs p ld).length<=1000:=by
 have l1:=wL (p:=p) (λc hc=>(gc c hc).1) cs.length (Ç _);unfold v3;rw[Ñ,Å];lia
def LL(cs:List (List Bx))(p:Str)(ld:List Ld):(List Ń):=(v3 cs p ld).map Prod.fst
def W8(gc:II cs 50)(gp:bN p)(lc:cs.length<=8)(ll:ld.length<=50):yQ [.list (cs.map aR),eX p ld]=.ok (.list ((LL cs p ld).map tG)) []:=by
 have l1:=zP (p:=p) gc lc ll;sleep 4;show bO qP [some 'c',some (eX p ld)] _ _ _ _;unfold qP;dsimp? [];refine aV.of (oW (enc:=IJ) (A:=λm=>tG m.1) (B:=λm=>m.2) (xs:=v3 cs p ld) (g:=λm=>tG m.1) (λx=>rfl) (cQ (by dsimp? [IK gc gp lc ll])) ∅ λx _=>by dsimp? []) ?_;have e:(LL cs p ld).map tG=(v3 cs p ld).map λm=>tG m.1:=by
  unfold LL;rw[ê];rfl
 rw[e];exact⟨rfl,rfl⟩
def ŧ(t:Ń):Bool:=t.w == "back"
def aOV:bN "off":=⟨⋯,dQ _⟩
def Ũ:bN "back":=⟨⋯,dQ _⟩
def ϫ:bN "on":=⟨⋯,dQ _⟩
def aNB(h:m∈v3 cs p ld):bN m.1.w:=by
 unfold v3 at h;rcases þ.mp h with h|h
 .unfold X8 at h
  let⟨l,hl,h⟩:=List.mem_flatten.mp h;let⟨j,_,rfl⟩:=Ü.mp hl;unfold ć at h;rcases þ.mp h with h|h
  .obtain⟨b,_,rfl⟩:=Ü.mp h
   exact aOV
  .obtain⟨b,_,rfl⟩:=Ü.mp h
   exact Ũ
 .obtain⟨b,_,rfl⟩:=Ü.mp h
  exact ϫ
def aK1(h:t∈LL cs p ld):bN t.w:=by
 let⟨m,hm,rfl⟩:=Ü.mp h;exact aNB hm
def XA(gc:II cs 50)(gp:bN p)(lc:cs.length<=8)(ll:ld.length<=50):yS [.list (cs.map aR),eX p ld]=.ok (.list (((LL cs p ld).filter ŧ).map λt=>.str t.z)) []:=by
 have l1:=zP (p:=p) gc lc ll;sleep 4;show bO qQ [some 'c',some (eX p ld)] _ _ _ _;unfold qQ;dsimp? [];refine aV.of (EM (enc:=tG) (xs:=LL cs p ld) (h:=ŧ) (g:=λt=>.str t.z) (cQ (by dsimp? [W8 gc gp lc ll])) (by unfold LL;rw[Å];lia) (λt ht=>by dsimp? [tG,B7 (aK1 ht) Ũ,ŧ]) λt _=>by dsimp? [tG]) ?_
 exact⟨rfl,rfl⟩
end
section
variable {cs:List (List Bx)}
def u8(lc:cs.length<=100):yV [.list (cs.map aR)]=.ok 'c' []:=by
 sleep 4;show bO yU [some 'c'] _ _ _ _;unfold yU;dsimp? [];refine aV.of (cZ (enc:=aR) (xs:=cs) (g:=aR) (cQ (by dsimp? [])) ∅ λx _=>by dsimp? [aR,DN]) ?_;dsimp? []
def XB(s0:0<=s)(s1:s.toNat<cs.length):mO (cs.map aR).length s=some s.toNat/\(cs.map aR)[s.toNat]?=some (.list ((cs[s.toNat]).map eW)):=by
 refine⟨ϩ s0 (by rw[Å];lia),?_⟩;rw[Ï,É s1];rfl
def QZ(gw:bN w)(hw:(w == "off")=false)(lc:cs.length<=100)(s0:0<=s)(s1:s.toNat<cs.length)(l1:(cs[s.toNat]).length<=100):oU [.list (cs.map aR),.tuple [.str w,.int s,x],eW b]=.ok (.list ((cs.set s.toNat (cs[s.toNat]++[b])).map aR)) []:=by
 have hz:sizeLine=2^24:=rfl;sleep 4;show bO k9 [some 'c',some (.tuple [.str w,.int s,x]),some (eW b),none] _ _ _ _;unfold k9;let⟨e1,e2⟩:=XB s0 s1;have eh:I8 [0,0,0,2] [some 'c',some (.tuple [.str w,.int s,x]),some (eW b),some 'c']=[some 'c',some (.tuple [.str w,.int s,x]),some (eW b),none]:=rfl;have go:bN "off":=⟨⋯,dQ _⟩;dsimp? [u8 lc,B7 gw go,hw,KG,KH e1 e2,eh,DR,DQ];refine⟨by rw[Å];lia,?_⟩;simp[List.map_set,aR]
def LM(lc:cs.length<=100)(s0:0<=s)(s1:s.toNat<cs.length)(l1:cs[s.toNat]=c++[b]):oU [.list (cs.map aR),.tuple [.str "off",.int s,x],y]=.ok (.list ((cs.set s.toNat c).map aR)) []:=by
 sleep 4;show bO k9 [some 'c',some (.tuple [.str "off",.int s,x]),some y,none] _ _ _ _;unfold k9;let⟨e1,e2⟩:=XB s0 s1;have eh:I8 [0,0,0,2] [some 'c',some (.tuple [.str "off",.int s,x]),some y,some 'c']=[some 'c',some (.tuple [.str "off",.int s,x]),some y,none]:=rfl;have go:bN "off":=⟨⋯,dQ _⟩;have ep:Ľ ((cs[s.toNat]).map eW) []=some (eW b,c.map eW):=by
  rw[l1];unfold Ľ;simp
 have et:("off" == ("off":Str))=true:=by decide
 dsimp? [u8 lc,B7 go go,et,KG,KH e1 e2,eh,DQ,ep,aGT];simp[List.map_set,aR]
end
def wM(m:M Fl)(δ:DS)(N:ZO)(E:D->Prop):Prop:=match m δ with
 |.ok .next δ1=>N δ1
 |.err x _=>E x
 |_=>False
def ũ:Option Str->Res D
 |none=>.ok .none []
 |some x=>.err (.str x) []
section
def OB(h:wM u δ (λδ1=>wM v δ1 N E) E):wM (cX u v) δ N E:=by
 unfold wM cX at *;cases e:u δ with
 |stuck=>rw[e]at h;exact h
 |err x d=>rw[e]at h;exact h
 |ok fl δ1=>
  rw[e]at h;cases fl<;>first|exact h|exact h.elim
def aHP(h:N δ):wM AX δ N E:=h
def Ϭ(h:bO u δ N (λ_=>False) (λ_=>False) (λ_ _=>False)):wM u δ N E:=by
 unfold bO at h;unfold wM;cases e:u δ with
 |stuck=>sleep 1
 |err x d=>sleep 1
 |ok fl δ1=>
  rw[e]at h;cases fl<;>first|exact h|exact h.elim
def ϭ(h:aV c δ λb δ1=>if b=true then wM u δ1 N E else wM v δ1 N E):wM (m5 c u v) δ N E:=by
 unfold aV at h;unfold wM m5;cases e:c δ with
 |stuck=>sleep 1
 |err x d=>sleep 1
 |ok b δ1=>
  rw[e]at h;simp![Res.bind];cases b<;>exact h
def aB8(h:aV (aZ fs) δ λds _=>ds.length<=1000/\E (.str x)):wM (kC x fs) δ N E:=by
 unfold aV at h;unfold wM kC;cases e:aZ fs δ with
 |stuck=>sleep 1
 |err x d=>sleep 1
 |ok ds δ1=>
  rw[e]at h;simp![Res.bind,Á h.1];exact h.2
def XC{set:D->DS->Option DS}(I:Nat->ZO){ds:ZI}(hs:∀(k:Nat)(d:D)(δ:DS),ds[k]?=some d->I k δ->∃δ1,set d δ=some δ1/\wM u δ1 (I (k+1)) E)(hN:∀δ,I ds.length δ->N δ):
  ∀(n k:Nat)(δ:DS),n+k=ds.length->I k δ->wM (fJ set u (ds.drop k)) δ N E
 |0,k,δ,hk,h=>by
  have e:k=ds.length:=by lia
  subst e;rw[List.drop_length];exact hN δ h
 |n+1,k,δ,hk,h=>by
  have hlt:k<ds.length:=by lia
  rw[û hlt];let⟨δ1,e1,h1⟩:=hs k ds[k] δ (É hlt) h;have ih:=XC I hs hN n (k+1);unfold wM at h1 ih⊢;unfold fJ;simp![e1];cases e:u δ1 with
  |stuck=>rw[e]at h1;exact h1.elim
  |err x d=>rw[e]at h1;exact h1
  |ok fl δ2=>
   rw[e]at h1;cases fl<;>first|exact h1.elim|exact ih δ2 ∅ h1
def aK3{set:D->DS->Option DS}(I:Nat->ZO){ds:ZI}(hg:aV g δ λes δ1=>es=ds/\I 0 δ1)(hs:∀(k:Nat)(d:D)(δ:DS),ds[k]?=some d->I k δ->∃δ1,set d δ=some δ1/\wM u δ1 (I (k+1)) E)(hN:∀δ,I ds.length δ->N δ):wM (mJ set g u) δ N E:=by
 unfold aV at hg;cases e:g δ with
 |stuck=>rw[e]at hg;exact hg.elim
 |err x d=>rw[e]at hg;exact hg.elim
 |ok es δ1=>
  rw[e]at hg;let⟨rfl,h0⟩:=hg;have:=XC I hs hN es.length 0 δ1 ∅ h0;rw[List.drop_zero]at this;unfold wM mJ at *;rw[e];exact this
def aND(o:Option Str)(h:wM u (ds.map some++List.replicate (m-ds.length) none) (λ_=>o=none) (λy=>o.map PyData.str=some y)):aP m [] 0 u ds=ũ o:=by
 unfold wM at h;unfold aP;cases e:u (ds.map some++List.replicate (m-ds.length) none)with
 |stuck=>sleep 1
 |err y d=>
  rw[e]at h;cases o with
  |none=>cases h
  |some z=>cases h;rfl
 |ok fl d=>
  rw[e]at h;cases fl<;>first|exact h.elim|(cases h;rfl)
end
def vS(zs:ZG):D:=.dict (zs.map λz=>(.str z,.bool true))
def aHQ(zs:ZG):((zs.map λz=>((.str z,.bool true):D×D)).all λkv=>(c8 kv.1).isSome)=true:=by
 rw[æ];intro kv h;let⟨z,_,rfl⟩:=Ü.mp h;rfl
def XD(z:Str):∀zs:ZG,jO (.inr z) (zs.map λz=>((.str z,.bool true):D×D))=if z∈zs then some 'u'else none
 |[]=>rfl
 |y::zs=>by
  have ih:=XD z zs;unfold jO at ih⊢;rw[Ð,Ā];by_cases e:y=z
  .subst e
   rw[Á Ô];simp[c8]
  .have:decide (c8 (PyData.str y)=some (Sum.inr z))=false:=decide_eq_false λh=>e (by cases h;rfl)
   rw[this];rw[ih];by_cases h:z∈zs
   .rw[Á h,Á (Ò _ h)]
   .rw[Â h,Â λq=>(Ì.mp q).elim (λq=>e q.symm) h]
def aK4:vM false (.str z) (vS zs)=some (.bool (decide (z∈zs))):=by
 unfold vM VO vS;dsimp only;rw[Á (aHQ zs)];show (some (jO (.inr z) _)).map _=_;rw[XD];by_cases h:z∈zs
 .rw[Á h,decide_eq_true h];rfl
 .rw[Â h,decide_eq_false h];rfl
def XE(hz:z∉zs)(hl:zs.length<=1000):xZ (.str z) 'u' (vS zs)=some (vS (zs++[z])):=by
 have hs:sizeLine=16777216:=by decide
 unfold xZ vS;dsimp only;show (if _ then _ else _)=_;rw[Á (by rw[Å];omega)];unfold KK;have:((zs.map λz=>((.str z,.bool true):D×D)).any λkv=>decide (c8 kv.1=some (Sum.inr z)))=false:=by
  rw[List.any_eq_false];intro kv h;let⟨y,hy,rfl⟩:=Ü.mp h;intro q;have q:=of_decide_eq_true q;cases q;exact hz hy
 rw[this,ß];rfl
def JB(c:Nat):Bool:=decide (97<=c/\c<=122)
def aK5:∀c<128,((!decide ((⟨#[c]⟩:Str).cps.toList<(Str.ofString "a").cps.toList)) && (!decide ((Str.ofString "z").cps.toList<(⟨#[c]⟩:Str).cps.toList)))=JB c:=by decide +kernel
def mK(z:Str):Bool:=decide (1<=z.length/\z.length<=8) && z.cps.toList.all JB
def Ū:D->D
 |.str z=>.bool (z.cps.toList.all JB)
 |_=>.none
def name_ev'(hz:z.length<=100)(hs:∀c∈z.cps.toList,c<128):fL [.str z]=.ok (.bool (mK z)) []:=by
 have hl:rO [.str z]=some (.int z.length):=FZ rfl (Õ hz ⋯);have hc:∀δ:DS,d9 1 (eO 0) (uD (bA 0)) eA (iC Ė Ė (dC (.str "a")) (bA 0) (dC (.str "z"))) (some (.str z)::δ)=.ok (.list (z.cps.toList.map λc=>.bool (JB c))) (some (.str z)::δ):=λδ=>by
  have hg:∀d∈iW z,(iC Ė Ė (dC (.str "a")) (bA 0) (dC (.str "z"))) (some d::some (.str z)::δ)=.ok (Ū d) (some d::some (.str z)::δ):=λd hd=>by
   unfold iW at hd;let⟨c,hc,rfl⟩:=Ü.mp hd;have:=aK5 c (hs c hc);simp![iC,dC,aW,bA,List.getElem?_cons_zero,Ė,Ū,List.all_cons,List.all_nil,Bool.and_true];cases h1:(!decide ((⟨#[c]⟩:Str).cps.toList<(Str.ofString "a").cps.toList))with
   |true=>rw[h1,Bool.true_and]at this;rw[this]
   |false=>rw[h1,Bool.false_and]at this;rw[<- this]
  have:=A7 (f:=uD (bA 0)) (δ:=some (.str z)::δ) (δ1:=some (.str z)::δ) (ds:=iW z) (by simp[uD,bA,Res.bind]) hg (by unfold iW;rw[Å];exact Õ hz ⋯)
  rw[this];unfold iW;rw[ê];congr 2;apply List.map_congr_left;intro c _;simp[Ū]
 have ha:ř [.list (z.cps.toList.map λc=>.bool (JB c))]=some (.bool (z.cps.toList.all JB)):=by
  show (rR _).map _=_;rw[NX];simp
 have hsi:FU .str (.str z)=some 'u':=rfl;have hni:pK (dB (C3 (FU .str) (bA 0))) [some (.str z)]=.ok false [some (.str z)]:=m9 (b:=true) (pL (aFX (bQ rfl) hsi));have e0:oR [some (.str z)]=.ok (.ret (.bool (mK z))) [some (.str z)]:=by
  unfold oR;rw[MI (δ1:=[some (.str z)]) (by rw[TD (δ1:=[some (.str z)]) hni];rfl)];refine iO ?_;have hlen:Q8 rO [bA 0] [some (.str z)]=.ok (.int z.length) [some (.str z)]:=v7 (bQ rfl) hl;unfold mK;by_cases h:1<=z.length/\z.length<=8
  .rw[ZY (δ1:=[some (.str z)]),decide_eq_true h,Bool.true_and]
   .exact v7 (hc []) ha
   .simp![iC,fY,aW,hlen,ĥ,X7]
    rw[decide_eq_true (show (1:Int)<=z.length by lia),decide_eq_true (show (z.length:Int)<=8 by lia)]
  .rw[ZZ (δ1:=[some (.str z)]),decide_eq_false h,Bool.false_and]
   simp![iC,fY,aW,hlen,ĥ,X7];by_cases h1:(1:Int)<=z.length
   .rw[decide_eq_true h1,decide_eq_false (show ¬(z.length:Int)<=8 by lia)]
   .rw[decide_eq_false h1]
 show (match oR [some (.str z)]with|_=>_)=_;unfold fL aP;simp[e0,fU]
def zQ{i:Int}(_:0<=i)(_:i<26):jI i=⟨#[97+i.toNat]⟩:=rfl
def OC{x y:Str}(hx:x.cps.toList.all p=true)(hy:y.cps.toList.all p=true):(x++y).cps.toList.all p=true:=by
 show ((x.cps++y.cps).toList).all p=true;rw[Array.toList_append,List.all_append,hx,hy];rfl
def OD(hx:x.toList.all p=true):∀(n:Nat)(a:Array Nat),a.toList.all p=true->((List.replicate n x).foldl (·++·) a).toList.all p=true
 |0,_,h=>h
 |n+1,a,h=>by
  rw[List.replicate_succ,List.foldl_cons];exact OD hx n _ (by rw[Array.toList_append,List.all_append,h,hx];rfl)
def XF(h0:0<=i)(h1:i<26):(jI i).cps.toList.all JB=true:=by
 rw[zQ h0 h1];simp![List.all_cons,List.all_nil,Bool.and_true,JB];exact decide_eq_true ∅
section
def kJ:mK (nm ns k n)=true:=by
 let⟨a1,a2,b1,b2⟩:=IH (ns:=ns) (k:=k) (n:=n);have h1:=iK (ns:=ns) (k:=k) (m:=8) ⋯;have h2:=iJ (ns:=ns) (k:=k) (m:=1+th ns k 8) ∅;have h3:=gE (ns:=ns) (k:=k) (m:=26) ⋯;have e1:=XF h3.1 h3.2;have e2:=XF (i:=(7*n+ot ns (k+1) 26) % 26) ∅ ∅;have r:∀j,(iQ (jI (dr ns k 26)) j).cps.toList.all JB=true:=λj=>OD e1 _ _ rfl;have l:(nm ns k n).length=_:=hU;rw[hU,i6,i6,a1,b1]at l;unfold mK;rw[decide_eq_true ∅,show (nm ns k n).cps.toList.all JB=true from OC (OC (r _) e2) (r _)];rfl
def tH(h:mK z=true):z.length<=100/\∀c∈z.cps.toList,c<128:=by
 unfold mK at h;rw[â,decide_eq_true_eq,æ]at h;refine⟨∅,λc hc=>?_⟩;have:=of_decide_eq_true (h.2 c hc);lia
def aHR(n0:0<=n)(n1:n<26)(m0:0<=m)(m1:m<26)(h:nm ns k n=nm ns k m):n=m:=by
 have cv:(nm ns k n).cps.toList=(nm ns k m).cps.toList:=by rw[h]
 have e:∀j,(nm ns k j).cps.toList=(iQ (jI (dr ns k 26)) (ot ns k (1+th ns k 8))).cps.toList++(jI ((7*j+ot ns (k+1) 26) % 26)).cps.toList++(iQ (jI (dr ns k 26)) (1+th ns k 8-1-ot ns k (1+th ns k 8))).cps.toList:=λj=>by
  show ((_++_:Array Nat)++_).toList=_;rw[Array.toList_append,Array.toList_append]
 rw[e,e]at cv;have cv:=List.append_cancel_left (List.append_cancel_right cv);rw[zQ ∅ ∅,zQ ∅ ∅]at cv;have cv:97+((7*n+ot ns (k+1) 26) % 26).toNat=97+((7*m+ot ns (k+1) 26) % 26).toNat:=(List.cons.inj cv).1;clear e h;generalize ot ns (k+1) 26=c at *;have q:(7*n+c) % 26=(7*m+c) % 26:=by lia
 have h1:7*(n-m)=26*((7*n+c)/26-(7*m+c)/26):=by lia
 generalize (7*n+c)/26-(7*m+c)/26=t at *;have h2:n-m=26*(15*t-4*(n-m)):=by lia
 generalize 15*t-4*(n-m)=u at *;lia
end
end Toy
namespace L2
open PySem PySem.Spec
def OE{α:Type}{enc:α->D}{P:α->Prop}(x0:α){f e:M D}{δ:DS}{n:Int}{Q:D->ZO}(hf:aV f δ λa δ1=>a=.int n/\δ1=δ)(h0:0<=n)(h1:n<=1000)(he:∀k:Nat,(k:Int)<n->∃x,P x/\aV e (some (.int k)::δ) λa δ1=>a=enc x/\δ1=some (.int k)::δ)(hq:∀xs:List α,(xs.length:Int)=n->(∀x∈xs,P x)->Q (.list (xs.map enc)) δ):aV (d9 1 (eO 0) (vW [f]) eA e) δ Q:=by
 obtain⟨c,hc⟩:∃c:Nat->α,∀k:Nat,(k:Int)<n->P (c k)/\aV e (some (.int k)::δ) λa δ1=>a=enc (c k)/\δ1=some (.int k)::δ:=⟨λk=>open Classical in if h:(k:Int)<n then (he k h).choose else x0,λk hk=>by
  dsimp only;rw[dif_pos hk];exact(he k hk).choose_spec⟩
 have:=rY (f:=f) (e:=e) (δ:=δ) (n:=n) (g:=λk=>enc (c k)) (cO hf) h0 ∅ λk hk=>(hc k hk).2;refine aV.of this ?_;have q:=hq ((List.range n.toNat).map c) (by simp;lia) λx hx=>by
  let⟨k,hk,rfl⟩:=Ü.mp hx;exact(hc k (by have:=List.mem_range.mp hk;lia)).1
 rw[ê]at q;exact q
end L2
namespace Toy
open PySem L2
structure Ap where
 x:Str
 y:Str
 n:Int
def Ę(a:Ap):D:=.tuple [.str a.x,.str a.y,.int a.n]
abbrev tK(own:Q4)(b:W3)(ss:List St)(ts:List Tk)(as:List Ap):D:=.tuple [EQ own,đ b,.list (ss.map qW),.list (ts.map AH),.list (as.map Ę)]
structure ń(own:Q4)(b:W3)(ss:List St)(ts:List Tk)(as:List Ap):Prop where
 o0:1<=own.1/\own.1<=1000000000
 o1:qX own.2.1/\qX own.2.2.1/\qX own.2.2.2
 b:tE b
 ls:1<=ss.length/\ss.length<=4
 lt:ts.length<=3
 la:as.length<=3
 gs:∀s∈ss,EN s
 gt:∀t∈ts,EO t
 ga:∀a∈as,bN a.x/\bN a.y
def n6{α:Type}{P:α->Prop}{l:List α}{x:α}(h:∀y∈l,P y)(hx:P x):∀y∈l++[x],P y:=λy hy=>by
 rcases þ.mp hy with z|z
 .exact h y z
 .rw[ð.mp z]
  exact hx
section
def jF(h0:-1000<=x)(h1:x<=1000):qX x:=⟨∅,∅⟩
def zR(h0:0<=x)(h1:x<=m)(hm:m<=1000):0<=vR ns*x/\vR ns*x<=1000000000:=by
 have s:=qU (ns:=ns);have a:=Int.mul_nonneg (show 0<=vR ns by lia) h0;have b:=Int.mul_le_mul s.2 (show x<=1000 by lia) h0 ⋯;exact⟨a,∅⟩
def OF(h:1<=x):1<=vR ns*x:=Int.mul_pos (a:=vR ns) (b:=x) (by have:=qU (ns:=ns);lia) h
def aK6(n0:0<=n)(n1:n<=100):∃d,B0 [iL ns,.int n]=.ok d []/\∃s,d=qW s/\EN s:=by
 refine jN ?_;show bO u2 [some (iL ns),some (.int n),none,none,none,none,none] _ _ _ _;unfold u2;have s:=qU (ns:=ns);have e1:=λm(h:0<m)=>jE (ns:=ns) (k:=2+n) (m:=m) ∅ ∅ h;have e2:=λm(h:0<m)=>jY (ns:=ns) (k:=2+n) (m:=m) ∅ ∅ h;have e3:=λm(h:0<m)=>lF (ns:=ns) (k:=6+n) (m:=m) ∅ ∅ h;have e4:=λm(h:0<m)=>jY (ns:=ns) (k:=6+n) (m:=m) ∅ ∅ h;have e5:=λm(h:0<m)=>lF (ns:=ns) (k:=2+n) (m:=m) ∅ ∅ h;have e6:=λm(h:0<m)=>jE (ns:=ns) (k:=6+n) (m:=m) ∅ ∅ h;have n3:=j5 (ns:=ns) (k:=14) (n:=n) ⋯ ⋯ ∅ ∅;have l1:=gE (ns:=ns) (k:=2+n) (m:=21) ⋯;have l2:=iJ (ns:=ns) (k:=2+n) (m:=21) ⋯;have l3:=iK (ns:=ns) (k:=2+n) (m:=5) ⋯;have l4:=gE (ns:=ns) (k:=6+n) (m:=3) ⋯;dsimp? [nZ,e1,e2,e3,e4,e5,e6,n3,Int.reduceLT];exact⟨by ac_nf,⟨_,_,_,_,_,_,_⟩,rfl,jZ,jF ∅ ∅,jF ∅ ∅,jF ∅ ∅,jF ∅ ∅⟩
def aK7(n0:0<=n)(n1:n<=100):∃d,HK [iL ns,.int n]=.ok d []/\∃t,d=AH t/\EO t:=by
 refine jN ?_;show bO zC [some (iL ns),some (.int n),none,none,none] _ _ _ _;unfold zC;have s:=qU (ns:=ns);have e1:=λm(h:0<m)=>jE (ns:=ns) (k:=10+n) (m:=m) ∅ ∅ h;have e2:=λm(h:0<m)=>jY (ns:=ns) (k:=10+n) (m:=m) ∅ ∅ h;have e5:=λm(h:0<m)=>lF (ns:=ns) (k:=10+n) (m:=m) ∅ ∅ h;have e6:=λm(h:0<m)=>jE (ns:=ns) (k:=13+n) (m:=m) ∅ ∅ h;have n3:=j5 (ns:=ns) (k:=15) (n:=n) ⋯ ⋯ ∅ ∅;have l1:=gE (ns:=ns) (k:=10+n) (m:=81) ⋯;have l2:=iJ (ns:=ns) (k:=10+n) (m:=81) ⋯;have l3:=iK (ns:=ns) (k:=10+n) (m:=5) ⋯;have l4:=gE (ns:=ns) (k:=13+n) (m:=60) ⋯;dsimp? [nZ,e1,e2,e5,e6,n3,Int.reduceLT];exact⟨by ac_nf,⟨_,_,_,_,_⟩,rfl,jZ,jF ∅ ∅,jF ∅ ∅,jF ∅ ∅,zR ∅ ∅ (Int.le_refl _)⟩
def aB9:∃r,HM [iL ns]=.ok r []/\∃own b ss ts as,r=tK own b ss ts as/\ń own b ss ts as:=by
 refine jN ?_;show bO zD [some (iL ns),none,none,none,none,none,none,none,none,none,none,none,none] _ _ _ _;unfold zD;have hz:sizeLine=2^24:=rfl;have s:=qU (ns:=ns);have q1:=gE (ns:=ns) (k:=1) (m:=4) ⋯;have q2:=iJ (ns:=ns) (k:=1) (m:=4) ⋯;have q3:=iK (ns:=ns) (k:=1) (m:=5) ⋯;have d0:=gE (ns:=ns) (k:=13) (m:=80) ⋯;have d1:=iJ (ns:=ns) (k:=13) (m:=7) ⋯;have d2:=iK (ns:=ns) (k:=13) (m:=5) ⋯;have d3:=iK (ns:=ns) (k:=14) (m:=6) ⋯;have d4:=iK (ns:=ns) (k:=15) (m:=6) ⋯;have d5:=gE (ns:=ns) (k:=15) (m:=2) ⋯;have d6:=iK (ns:=ns) (k:=0) (m:=9) ⋯;have d7:=iJ (ns:=ns) (k:=0) (m:=200) ⋯;rw[L2.seq_assoc,L2.seq_assoc,L2.seq_assoc,L2.seq_assoc,L2.seq_assoc];refine u6 (λδ=>∃(own:Q4)(b:W3)(o1 o3 o4 o5:ZL),((1<=own.1/\own.1<=1000000000)/\(qX own.2.1/\qX own.2.2.1/\qX own.2.2.2)/\tE b)/\δ=[some (iL ns),o1,some (EQ own),o3,o4,o5,some (đ b),none,none,none,none,none,none]) ?_ ?_
 .refine WL λK _ _ _ hK _=>?_
  dsimp? [nZ,jE,jY,lF,Int.reduceLE,Int.reduceLT];exact⟨by ac_nf,by ac_nf,hK _ ⟨(_,_,_,_),⟨_,_,_,_,_,_⟩,_,_,_,_,⟨⟨OF ∅,(zR ∅ ∅ (m:=120) ⋯).2⟩,⟨jF ∅ ∅,jF ∅ ∅,jF (x:=2) ⋯ ⋯⟩,jF ∅ ∅,jF ∅ ∅,jF ∅ ∅,jF ∅ ∅,jF ∅ ∅,by have:=zR (ns:=ns) (x:=120+ot ns 0 200) (m:=320) ∅ ∅ ⋯;exact⟨by dsimp only;lia,this.2⟩⟩,rfl⟩⟩
 rintro δ ⟨own,b,o1,o3,o4,o5,ho,rfl⟩;dsimp? [];refine OE (enc:=qW) (P:=EN) AI (n:=1+dr ns 1 4) (by dsimp? [jE,Int.reduceLE,Int.reduceLT]) ∅ ∅ (λk hk=>?_) λss ls gs=>?_
 .obtain⟨d,ed,t,rfl,g⟩:=aK6 (ns:=ns) (n:=(k:Int)) ∅ ∅
  exact⟨t,g,by dsimp? [ed]⟩
 dsimp? [];refine OE (enc:=AH) (P:=EO) aOS (n:=ot ns 1 4) (by dsimp? [jY,Int.reduceLE,Int.reduceLT]) ∅ ∅ (λk hk=>?_) λts lt gt=>?_
 .obtain⟨d,ed,t,rfl,g⟩:=aK7 (ns:=ns) (n:=(k:Int)) ∅ ∅
  exact⟨t,g,by dsimp? [ed]⟩
 dsimp? [];obtain⟨r,er,r0,r1⟩:∃r:Int,atI [PyData.int 0,.int 0,.int 0,.int 1,.int 2] (th ns 1 5)=some (.int r)/\0<=r/\r<=2:=by
  have:th ns 1 5=0\/th ns 1 5=1\/th ns 1 5=2\/th ns 1 5=3\/th ns 1 5=4:=by lia
  rcases this with z|z|z|z|z<;>rw[z]<;>exact⟨_,rfl,⋯,⋯⟩
 refine DM (j:=r) (δ1:=_) (λk δ=>∃(as:List Ap)(p1 p2 p3:ZL),δ=[some (iL ns),o1,some (EQ own),o3,o4,o5,some (đ b),some (.list (ss.map qW)),some (.list (ts.map AH)),some (.list (as.map Ę)),p1,p2,p3]/\as.length=k/\∀a∈as,bN a.x/\bN a.y) (lE (by dsimp? [lF,Int.reduceLE,Int.reduceLT,er];rfl)) ∅ ∅ ⟨[],none,none,none,rfl,rfl,λa ha=>by cases ha⟩ ?_ ?_
 .rintro k δ hk ⟨as,p1,p2,p3,rfl,la,ga⟩
  refine⟨_,rfl,?_⟩;refine WL λK _ _ _ hK _=>?_;have d1:=gE (ns:=ns) (k:=17+(k:Int)) (m:=3) ⋯;have d2:=iJ (ns:=ns) (k:=17+(k:Int)) (m:=3) ⋯;have e1:=jE (ns:=ns) (k:=17+(k:Int)) (m:=3) ∅ ∅ ⋯;have e2:=jY (ns:=ns) (k:=17+(k:Int)) (m:=3) ∅ ∅ ⋯;have e3:=lF (ns:=ns) (k:=17+(k:Int)) (m:=9) ∅ ∅ ⋯;have n1:=j5 (ns:=ns) (k:=18) (n:=dr ns (17+(k:Int)) 3) ⋯ ⋯ ∅ ∅;have n2:=j5 (ns:=ns) (k:=18) (n:=ot ns (17+(k:Int)) 3) ⋯ ⋯ ∅ ∅;dsimp? [e1,e2,e3,n1,n2,Å];exact⟨∅,hK _ ⟨as++[⟨_,_,_⟩],_,_,_,by rw[ß];rfl,by rw[Ñ,la];rfl,n6 ga ⟨jZ,jZ⟩⟩⟩
 .rintro δ ⟨as,p1,p2,p3,rfl,la,ga⟩
  dsimp? [];exact⟨own,b,ss,ts,as,rfl,ho.1,ho.2.1,ho.2.2,∅,∅,∅,gs,gt,ga⟩
end
def Ϯ(ha:Sh 1 (.str a))(hb:Sh 1 (.str b))(hp:Sh 1 (.str p))(hq:Sh 1 (.str q)):∃r:Bool,ĩ (.tuple [.str p,.str q]) (.tuple [.tuple [.str a,.str b],.tuple [.str b,.str a]])=some (.bool r):=by
 have s:∀{x y:Str},Sh 1 (.str x)->Sh 1 (.str y)->Sh 2 (.tuple [.str x,.str y]):=λhx hy=>KC λd hd=>by
  simp![Ì,Ø,or_false]at hd;rcases hd with rfl|rfl<;>assumption
 have h1:=(s hp hq).shaped ⋯;have h2:SeqAt.shaped (.tuple [.tuple [.str a,.str b],.tuple [.str b,.str a]])=true:=Sh.shaped (k:=3) (KC λx hx=>by
  simp![Ì,Ø,or_false]at hx;rcases hx with rfl|rfl
  .exact s ha hb
  .exact s hb ha) ⋯
 unfold ĩ;simp![wA];rw[Á ⟨h1,h2⟩];exact⟨_,rfl⟩
def Q0(h:∃r,aP m [] 0 u ds=.ok r []/\∃L,r=.list L):∃L,aP m [] 0 u ds=.ok (.list L) []:=by
 let⟨r,e,L,rfl⟩:=h;exact⟨L,e⟩
def LN(hl:bs.length<=100):∃r,jS [qW st,.int s,aR bs]=.ok r []/\∃L,r=.list L/\L.length<=bs.length+2:=by
 have e24:sizeLine=2^24:=rfl;refine jN ?_;show bO f9 [some (qW st),some (.int s),some (aR bs),none,none,none,none] _ _ _ _;unfold f9;rw[L2.seq_assoc,L2.seq_assoc,L2.seq_assoc];refine u6 (λδ=>∃(L:ZI)(w:Int),L.length<=2/\δ=[some (qW st),some (.int s),some (aR bs),some (.list L),some (.int w),none,none]) ?_ ?_
 .dsimp? []
  refine aV.of (cZ (enc:=eW) (xs:=bs) (g:=λb=>.int b.w) (eY rfl) ∅ λb _=>by dsimp? [eW]) ?_;have es:Z1 [.list (bs.map λb=>PyData.int b.w)]=some (.int (bs.map λb=>b.w).sum):=by
   rw[show (bs.map λb=>PyData.int b.w)=(bs.map λb=>b.w).map PyData.int by simp,aJZ]
  have eb:aR bs=.list (bs.map eW):=rfl;generalize (bs.map λb=>b.w).sum=W at *;by_cases c1:st.h<(bs.length:Int)<;>by_cases c2:st.m<W
  .dsimp? [es,qW,eb,Å,c1,c2,decide_true,List.nil_append]
   exact⟨∅,∅,_,_,by simp,rfl⟩
  .dsimp? [es,qW,eb,Å,c1,c2,decide_true,decide_false,Bool.false_eq_true,List.nil_append]
   exact⟨∅,_,_,by simp,rfl⟩
  .dsimp? [es,qW,eb,Å,c1,c2,decide_true,decide_false,Bool.false_eq_true,List.nil_append]
   exact⟨∅,_,_,by simp,rfl⟩
  .dsimp? [es,qW,eb,Å,c1,c2,decide_false,Bool.false_eq_true]
   exact⟨_,_,by simp,rfl⟩
 rintro _ ⟨L,w,lL,rfl⟩;refine u6 (λδ=>∃(L:ZI)(o4 o5 o6:ZL),L.length<=bs.length+2/\δ=[some (qW st),some (.int s),some (aR bs),some (.list L),o4,o5,o6]) ?_ ?_
 .refine eG (ds:=eZ (bs.map eW)) (δ1:=_) (λt δ=>∃(L:ZI)(w:Int)(o5 o6:ZL),L.length<=t+2/\δ=[some (qW st),some (.int s),some (aR bs),some (.list L),some (.int w),o5,o6]) (jX rfl) ⟨L,w,none,none,∅,rfl⟩ ?_ ?_
  .rintro t d δ ht ⟨L,w,o5,o6,lL,rfl⟩
   let⟨t1,rfl⟩:=fO (a0:=zU) ht;refine⟨_,rfl,?_⟩;generalize bs.getD t zU=bt at *;by_cases c:bt.b<w-bt.w
   .dsimp? [eW,c,decide_true]
    exact⟨∅,_,_,_,_,by rw[Ñ,ñ];lia,rfl⟩
   .dsimp? [eW,c,decide_false,Bool.false_eq_true]
    exact⟨_,_,_,_,∅,rfl⟩
  .rintro δ ⟨L,w,o5,o6,lL,rfl⟩
   rw[hJ,Å]at lL;exact⟨L,_,_,_,lL,rfl⟩
 rintro _ ⟨L,o4,o5,o6,lL,rfl⟩;dsimp? [];exact lL
section
variable {own:Q4}{b:W3}{ss:List St}{cs:List (List Bx)}{ts:List Tk}{as:List Ap}
def XG(la:as.length<=10)(ga:∀a∈as,bN a.x/\bN a.y)(hx:bN x)(hy:bN y):∃r,HG [tK own b ss ts as,.str x,.str y]=.ok r []/\∃n:Int,r=.int n:=by
 refine jN ?_;show bO yN [some (tK own b ss ts as),some (.str x),some (.str y)] _ _ _ _;unfold yN;have i4:gG (tK own b ss ts as) (.int 4)=some (.list (as.map Ę)):=rfl;have ct:∀x y z:D,ZU (.tuple [x,y,z]) none (some 2)=some (.tuple [x,y]):=λ_ _ _=>rfl;obtain⟨h,hh⟩:∃h:Ap->Bool,∀a∈as,ĩ (.tuple [.str a.x,.str a.y]) (.tuple [.tuple [.str x,.str y],.tuple [.str y,.str x]])=some (.bool (h a)):=by
  refine⟨λa=>open Classical in if q:a∈as then (Ϯ hx.sh hy.sh (ga a q).1.sh (ga a q).2.sh).choose else false,λa q=>?_⟩;dsimp only;rw[dif_pos q];exact(Ϯ hx.sh hy.sh (ga a q).1.sh (ga a q).2.sh).choose_spec
 have em:∃n:Int,MX (.list ((as.filter h).map λr=>PyData.int r.n)) (.int 0)=some (.int n):=by
  rw[show ((as.filter h).map λr=>PyData.int r.n)=((as.filter h).map λr=>r.n).map PyData.int by simp];refine⟨(f7 none ((as.filter h).map λr=>r.n)).getD 0,?_⟩;show (cF _).map _=_;rw[iX];rfl
 let⟨n,em⟩:=em;generalize tK own b ss ts as=sh at *;dsimp? [aGP];refine aV.of (EM (enc:=Ę) (xs:=as) (h:=h) (g:=λr=>.int r.n) (cQ (by dsimp? [i4])) ∅ (λr hr=>?_) λr hr=>by dsimp? [Ę]) ?_
 .dsimp? [Ę,UG,uF,uG,BG,ct,hh r hr]
 .dsimp? [em]
  exact⟨n,rfl⟩
def XH(hi:i<ss.length)(hj:j<ss.length):∃n:Int,yM [tK own b ss ts as,.int i,.int j]=.ok (.int n) []:=by
 refine⟨(((ss.getD i AI).x-(ss.getD j AI).x).natAbs:Int)+(((ss.getD i AI).y-(ss.getD j AI).y).natAbs:Int),aQ (os:=[]) ?_⟩;show bO qL [some (tK own b ss ts as),some (.int i),some (.int j),none,none] _ _ _ _;unfold qL;dsimp? [LD (enc:=qW) (l:=ss) (d:=AI) hi,LD (enc:=qW) (l:=ss) (d:=AI) hj,qW]
def ū(n:Nat)(d:D):Prop:=∃(i j:Nat)(z:Str),i<n/\bN z/\d=.tuple [.int i,.int j,.str z]
def Q1(lc:cs.length<=10)(gc:∀c∈cs,c.length<=30/\∀b∈c,tF b):∃r,nR [.list (cs.map aR)]=.ok r []/\∃P,r=.list P/\P.length<=300/\∀d∈P,ū cs.length d:=by
 have e24:sizeLine=2^24:=rfl;refine jN ?_;show bO jA [some 'c',none,none,none,none,none] _ _ _ _;unfold jA;dsimp? [];refine eG (ds:=eZ (cs.map aR)) (δ1:=_) (λk δ=>∃P o2 o3 o4 o5,δ=[some 'c',some (.list P),o2,o3,o4,o5]/\P.length<=30*k/\∀d∈P,ū cs.length d) (jX rfl) ⟨[],_,_,_,_,rfl,by simp,by simp⟩ ?_ ?_
 .rintro k d δ hk ⟨P,o2,o3,o4,o5,rfl,lP,gP⟩
  let⟨k1,rfl⟩:=fO (a0:=[]) hk;let⟨lb1,gb1⟩:=gc _ (cR (d:=[]) k1);refine⟨_,rfl,?_⟩;generalize cs.getD k []=bs at *;refine eG (ds:=eZ (bs.map eW)) (δ1:=_) (λt δ=>∃P o4 o5,δ=[some 'c',some (.list P),some (.int k),some (aR bs),o4,o5]/\P.length<=30*k+t/\∀d∈P,ū cs.length d) (jX rfl) ⟨P,_,_,rfl,∅,gP⟩ ?_ ?_
  .rintro t d δ ht ⟨P,o4,o5,rfl,lP,gP⟩
   let⟨t1,rfl⟩:=fO (a0:=zU) ht;have gk:=(gb1 _ (cR (d:=zU) t1)).k;refine⟨_,rfl,?_⟩;generalize bs.getD t zU=bt at *;dsimp? [eW];refine⟨∅,_,_,_,rfl,by rw[Ñ,ñ];lia,n6 gP ⟨k,t,_,k1,gk,rfl⟩⟩
  .rintro δ ⟨P,o4,o5,rfl,lP,gP⟩
   rw[hJ,Å]at lP;exact⟨P,_,_,_,_,rfl,∅,gP⟩
 .rintro δ ⟨P,o2,o3,o4,o5,rfl,lP,gP⟩
  rw[hJ,Å]at lP;dsimp? [];exact⟨∅,gP⟩
def IL(la:as.length<=10)(ga:∀a∈as,bN a.x/\bN a.y)(ls:cs.length=ss.length)(lc:cs.length<=10)(gc:∀c∈cs,c.length<=30/\∀b∈c,tF b):∃r,nT [tK own b ss ts as,.list (cs.map aR)]=.ok r []/\∃L,r=.list L/\L.length<=90000:=by
 have e24:sizeLine=2^24:=rfl;let⟨r,eP,P,rfl,lP,gP⟩:=Q1 lc gc;have fs:=λ(x y:Str)hx hy=>XG (own:=own) (b:=b) (ss:=ss) (ts:=ts) (as:=as) (x:=x) (y:=y) la ga hx hy;have ap:=λ(i j:Nat)hi hj=>XH (own:=own) (b:=b) (ss:=ss) (ts:=ts) (as:=as) (i:=i) (j:=j) hi hj;generalize tK own b ss ts as=sh at *;refine jN ?_;show bO jB [some sh,some 'c',none,none,none,none,none] _ _ _ _;unfold jB;dsimp? [eP];refine eG (ds:=eZ P) (δ1:=_) (λk δ=>∃L o4 o5 o6,L.length<=300*k/\δ=[some sh,some 'c',some (.list L),some (.list P),o4,o5,o6]) (jX rfl) ⟨[],_,_,_,by simp,rfl⟩ ?_ ?_
 .rintro k d δ hk ⟨L,o4,o5,o6,lL,rfl⟩
  have eid:P=P.map id:=by simp
  rw[eid]at hk;let⟨k1,rfl⟩:=fO (a0:=.none) hk;refine⟨_,rfl,?_⟩;let⟨i,j,z,hi,gz,e1⟩:=gP _ (cR (d:=.none) k1);simp![id,e1];have ct:C7 (.list P) (some ((k:Int)+1)) none=some (.list (P.drop (k+1))):=rZ (k:=k+1) ∅;refine eG (ds:=P.drop (k+1)) (δ1:=_) (λt δ=>∃L o6,L.length<=300*k+t/\δ=[some sh,some 'c',some (.list L),some (.list P),some (.int k),some (.tuple [.int i,.int j,.str z]),o6]) (cQ (by dsimp? [UG,uF,uG,BG,ct])) ⟨L,_,∅,rfl⟩ ?_ ?_
  .rintro t d δ ht ⟨L,o6,lL,rfl⟩
   have ht1:=(Î.mp ht).1;rw[Č]at ht1;let⟨i2,j2,z2,hi2,gz2,rfl⟩:=gP d (List.mem_of_mem_drop (õ ht));refine⟨_,rfl,?_⟩;let⟨n,en⟩:=ap i i2 ∅ ∅;let⟨_,ef,m,rfl⟩:=fs z z2 gz gz2;by_cases c:n<m
   .dsimp? [ef,en,c,decide_true]
    exact⟨∅,_,_,by rw[Ñ,ñ];lia,rfl⟩
   .dsimp? [ef,en,c,decide_false,Bool.false_eq_true]
    exact⟨_,_,∅,rfl⟩
  .rintro δ ⟨L,o6,lL,rfl⟩
   rw[Č]at lL;exact⟨L,_,_,_,∅,rfl⟩
 .rintro δ ⟨L,o4,o5,o6,lL,rfl⟩
  rw[hJ]at lL;dsimp? [];lia
def IN(la:as.length<=10)(ga:∀a∈as,bN a.x/\bN a.y)(ls:cs.length=ss.length)(lc:cs.length<=10)(gc:∀c∈cs,c.length<=30/\∀b∈c,tF b):∃L,HI [tK own b ss ts as,.list (cs.map aR)]=.ok (.list L) []:=by
 have e24:sizeLine=2^24:=rfl;let⟨r,ea,A,rfl,lA⟩:=IL (own:=own) (b:=b) (ts:=ts) la ga ls lc gc;have i2:gG (tK own b ss ts as) (.int 2)=some (.list (ss.map qW)):=rfl;generalize tK own b ss ts as=sh at *;refine Q0 (jN ?_);show bO yO [some sh,some 'c',none,none,none] _ _ _ _;unfold yO;dsimp? [];refine eG (ds:=eZ (cs.map aR)) (δ1:=_) (λk δ=>∃L o3 o4,L.length<=32*k/\δ=[some sh,some 'c',some (.list L),o3,o4]) (jX rfl) ⟨[],_,_,by simp,rfl⟩ ?_ ?_
 .rintro k d δ hk ⟨L,o3,o4,lL,rfl⟩
  let⟨k1,rfl⟩:=fO (a0:=[]) hk;have lb1:=(gc _ (cR (d:=[]) k1)).1;refine⟨_,rfl,?_⟩;let⟨_,e1,L1,rfl,l1⟩:=LN (st:=ss.getD k AI) (s:=(k:Int)) (bs:=cs.getD k []) ∅;dsimp? [i2,LD (enc:=qW) (l:=ss) (d:=AI) (show k<ss.length by lia),e1,xO];exact⟨∅,_,_,_,by rw[Ñ];lia,rfl⟩
 .rintro δ ⟨L,o3,o4,lL,rfl⟩
  rw[hJ,Å]at lL;dsimp? [ea,xO];exact⟨∅,_,rfl⟩
end
section
def XI(r:D):Prop:=(∃a b,r=.tuple [.str "fill",a,b])\/∃(k:Str)(a:D),(k="none"\/k="broken")/\r=.tuple [.str k,a]
def LO(W:W9 Æ Ã):∃r,ED [ϧ Æ,iL Ã]=.ok r []/\XI r:=by
 let⟨b,_,_⟩:=W.bnd;let⟨r,el,T,σ,I,h⟩:=WY b;refine⟨r,el,?_⟩;rcases h with ⟨all,rfl⟩|⟨p,hp,hneg,ha,rfl⟩
 .exact .inl ⟨_,_,rfl⟩
 .exact .inr ⟨"none",_,.inl rfl,rfl⟩
end
section
variable {own:Q4}{b:W3}{ss:List St}{cs:List (List Bx)}{ts:List Tk}{as:List Ap}
def ES(M:sJ own ss cs ts)(g:tE b):∃r,BX [tK own b ss ts as,.list (cs.map aR)]=.ok r []/\XI r:=by
 have lt:=M.lt;let⟨r,el,hr⟩:=LO (aB5 M g);refine⟨r,?_,hr⟩;have e0:uX [tK own b ss ts as,.list (cs.map aR)]=.ok (ϧ (IG ts b (T4 (own::s9 ss cs ss.length)))) []:=aB3 M g;have e1:qK [tK own b ss ts as]=.ok (iL (ts.map λt=>t.r)) []:=LJ ∅;generalize IG ts b (T4 (own::s9 ss cs ss.length))=Æ at *;generalize tK own b ss ts as=sh at *;sleep 4;show bO uY [some sh,some 'c'] _ _ _ _;unfold uY;dsimp? [e0,e1,el]
def ϯ(cs:List (List Bx)):Prop:=∀c∈cs,c.length<=30/\∀b∈c,tF b/\1<=b.w/\b.w<=1000000000
def aCA(S:ń own b ss ts as)(lc:cs.length=ss.length)(gc:ϯ cs):sJ own ss cs ts:=
 ⟨S.o0,S.o1,by have:=S.ls;lia,lc,λc hc=>(gc c hc).1,by have:=S.lt;lia,S.gs,λc hc b hb=>by have:=(gc c hc).2 b hb;exact⟨this.1.nm,this.1.p,this.1.k,this.2⟩,S.gt⟩
def AJ(S:ń own b ss ts as)(lc:cs.length=ss.length)(gc:ϯ cs):∃r,yZ [tK own b ss ts as,.list (cs.map aR)]=.ok r []/\XI r:=by
 have ls:=S.ls;let⟨r,eb,hr⟩:=ES (as:=as) (aCA S lc gc) S.b;let⟨L,ek⟩:=IN (own:=own) (b:=b) (ts:=ts) (by have:=S.la;lia) S.ga lc ∅ λc hc=>⟨(gc c hc).1,λx hx=>((gc c hc).2 x hx).1⟩;generalize tK own b ss ts as=sh at *;refine jN ?_;show bO qS [some sh,some 'c',none] _ _ _ _;unfold qS;dsimp? [ek];refine aHD (bQ rfl) ?_;cases L with
 |nil=>
  dsimp? [List.isEmpty_nil,Bool.not_true,Bool.false_eq_true,eb];exact hr
 |cons x L=>
  dsimp? [List.isEmpty_cons,Bool.not_false];exact .inr ⟨"broken",_,.inr rfl,rfl⟩
end
def Ŭ(n:D):Option Str->Res D
 |none=>.ok .none [some n]
 |some x=>.err (.str x) [some n]
def aNF(δ:DS):Option Str->Res Fl
 |none=>.ok .next δ
 |some x=>.err (.str x) δ
def ę{c:M Bool}{v:M Fl}{x:Str}{m:D}{δ:DS}{b:Bool}(h:c δ=.ok b δ):cX (m5 c (kC x [dC m]) AX) v δ=if b=true then .err (.str x) δ else v δ:=by
 have hr:kC x [dC m] δ=.err (.str x) δ:=by
  unfold kC;simp[aZ,fY,Res.bind]
 unfold cX m5;rw[h];simp![Res.bind];cases b
 .rfl
 .simp[hr]
def aNG{c:M Bool}{x:Str}{m:D}{δ:DS}{b:Bool}(h:c δ=.ok b δ):m5 c (kC x [dC m]) AX δ=if b=true then .err (.str x) δ else .ok .next δ:=by
 have hr:kC x [dC m] δ=.err (.str x) δ:=by
  unfold kC;simp[aZ,fY,Res.bind]
 unfold m5;rw[h];simp![Res.bind];cases b
 .rfl
 .simp[hr]
def aCB{u:D->Prop}{N:ZO}{δ:DS}{fn:ZI->Res D}{as:List L2.Arg}{j:Nat}(ho:aU as=[j])(h:aV (cK as) δ λods δ1=>∃ds n o,dP δ1 as ods=some ds/\fn ds=Ŭ n o/\o.elim (N (δ1.set j (some n))) λx=>u (.str x)):wM (fS (dH fn as)) δ N u:=by
 unfold aV at h;unfold wM fS dH;cases e:cK as δ with
 |stuck=>sleep 1
 |err x d=>sleep 1
 |ok ods δ1=>
  rw[e]at h;let⟨ds,n,o,h1,h2,h3⟩:=h;simp![Res.bind,h1,h2,ho];cases o<;>exact h3
def IP{o o':D->D->ZL}{f g k:M D}{δ:DS}{a b c:D}{r r':Bool}(hf:f δ=.ok a δ)(hg:g δ=.ok b δ)(hk:k δ=.ok c δ)(h1:o a b=some (.bool r))(h2:o' b c=some (.bool r')):iC o o' f g k δ=.ok (.bool (r && r')) δ:=by
 unfold iC;rw[hf,aW,hg,aW,h1];cases r
 .rfl
 .simp![hk,aW,h2,Bool.true_and]
def JC(z:Str):Prop:=z.length<=100/\∀c∈z.cps.toList,c<128
structure u9(b:Bx):Prop where
 nm:JC b.nm
 p:JC b.p
 k:JC b.k
def ET(h:JC z):fL [.str z]=.ok (.bool (mK z)) []:=name_ev' h.1 h.2
def zV(zs:ZG)(b:Bx):(Option Str):=if mK b.nm=false then some "NoName"else if b.nm∈zs then some "NoName"else if b.w<1 then some "NoWeight"else if mK b.p=false then some "NoName"else if mK b.k=false then some "NoName"else if b.b<0 then some "NoWeight"else none
def XJ(A:u9 b):jQ [eW b,vS zs]=Ŭ (vS zs) (zV zs b):=by
 have i0:gG (eW b) (.int 0)=some (.str b.nm):=rfl;have i1:gG (eW b) (.int 1)=some (.int b.w):=rfl;have i2:gG (eW b) (.int 2)=some (.str b.p):=rfl;have i3:gG (eW b) (.int 3)=some (.str b.k):=rfl;have i4:gG (eW b) (.int 4)=some (.int b.b):=rfl;generalize eW b=T at *;have fin:∀r:Res Fl,jP [some T,some (vS zs)]=r->r=aNF [some T,some (vS zs)] (zV zs b)->jQ [T,vS zs]=Ŭ (vS zs) (zV zs b):=λr e1 e2=>by
  unfold jQ aP;show (match jP [some T,some (vS zs)]with|.ok (.ret d) δ=>_|.ok .next δ=>_|.ok _ _=>_|.err x δ=>_|.stuck=>_)=_;rw[e1,e2];cases zV zs b<;>rfl
 have cl:∀(j:Int)(z:Str),gG T (.int j)=some (.str z)->JC z->pK (dB (dH fL [.val (gJ gG (bA 0) (dC (.int j)))])) [some T,some (vS zs)]=.ok (!mK z) [some T,some (vS zs)]:=λj z hj hz=>
  m9 (pL (uE (iE (bQ rfl) fY hj) (ET hz)))
 refine fin _ rfl ?_;unfold jP zV;have ci:A8 (dB (gJ (vM false) (gJ gG (bA 0) (dC (.int 0))) (bA 1))) [some T,some (vS zs)]=.ok (decide (b.nm∈zs)) [some T,some (vS zs)]:=by
  have:=pL (iE (op:=vM false) (iE (δ:=[some T,some (vS zs)]) (bQ (i:=0) rfl) fY i0) (bQ (i:=1) rfl) aK4);unfold A8;rw[this]
 rw[ę (cl 0 _ i0 A.nm)];cases h0:mK b.nm with
 |false=>rfl
 |true=>
 rw[Â ⋯,Â ⋯,ę ci];by_cases h1:b.nm∈zs
 .rw[decide_eq_true h1,Á rfl,Á h1];rfl
 rw[decide_eq_false h1,Â ⋯,Â h1,ę (b:=decide (b.w<1)) (pL (iE (iE (bQ rfl) fY i1) fY rfl))];by_cases h2:b.w<1
 .rw[decide_eq_true h2,Á rfl,Á h2];rfl
 rw[decide_eq_false h2,Â ⋯,Â h2,ę (cl 2 _ i2 A.p)];cases h3:mK b.p with
 |false=>rfl
 |true=>
 rw[Â ⋯,Â ⋯,ę (cl 3 _ i3 A.k)];cases h4:mK b.k with
 |false=>rfl
 |true=>
 rw[Â ⋯,Â ⋯,aNG (b:=decide (b.b<0)) (pL (iE (iE (bQ rfl) fY i4) fY rfl))];by_cases h5:b.b<0
 .rw[decide_eq_true h5,Á rfl,Á h5];rfl
 .rw[decide_eq_false h5,Â ⋯,Â h5];rfl
abbrev dR(bs:List Bx):ZG:=bs.map λb=>b.nm
def AK(m:Nat):ZG->List Ld->Option Str
 |_,[]=>none
 |zs,x::r=>if 0<=x.2/\x.2<(m:Int)then (match zV zs x.1 with
  |some e=>some e
  |none=>AK m (zs++[x.1.nm]) r)else some "NoStack"
def aCC(h:zV zs b=none):b.nm∉zs:=λhm=>by
 unfold zV at h;rw[Á hm]at h;split at h<;>cases h
def XL{cs:List (List Bx)}(nd:(dR cs.flatten).Nodup)(hl:cs.flatten.length<=300):yX [.list (cs.map aR)]=.ok (vS (dR cs.flatten)) []:=by
 sleep 4;show bO qR [some 'c',none,none,none] _ _ _ _;unfold qR;dsimp? [];have e0:kL [] []=vS (dR ([]:List (List Bx)).flatten):=rfl;rw[e0];have sub:∀k,∃rest,cs.flatten=(cs.take k).flatten++rest:=λk=>⟨(cs.drop k).flatten,by rw[<- List.flatten_append,List.take_append_drop]⟩;refine eG (ds:=cs.map aR) (δ1:=_) (λk δ=>∃o2 o3,δ=[some 'c',some (vS (dR (cs.take k).flatten)),o2,o3]) (eY rfl) ⟨none,none,rfl⟩ ?_ ?_
 .rintro k d δ hk ⟨o2,o3,rfl⟩
  have k1:k<cs.length:=by have:=(Î.mp hk).1;rwa [Å]at this
  rw[Ï,gD (d:=[]) k1]at hk;cases hk;refine⟨_,rfl,?_⟩;have ek:(cs.take (k+1)).flatten=(cs.take k).flatten++cs.getD k []:=by
   rw[List.take_add_one,gD (d:=[]) k1,List.flatten_append];simp
  let⟨rest,er⟩:=sub (k+1);rw[ek]at er;rw[er]at nd hl;rw[ek];generalize (cs.take k).flatten=P at *;generalize cs.getD k []=bs at *;refine eG (ds:=bs.map eW) (δ1:=_) (λt δ=>∃o3,δ=[some 'c',some (vS (dR (P++bs.take t))),some (aR bs),o3]) (eY rfl) ⟨o3,by rw[List.take_zero,ì];rfl⟩ ?_ ?_
  .rintro t d δ ht ⟨o3,rfl⟩
   have t1:t<bs.length:=by have:=(Î.mp ht).1;rwa [Å]at this
   rw[Ï,gD (d:=zU) t1]at ht;cases ht;have et:P++bs.take (t+1)=P++bs.take t++[bs.getD t zU]:=by rw[List.take_add_one,gD (d:=zU) t1,List.append_assoc];rfl
   have eb:bs=bs.take t++(bs.getD t zU::bs.drop (t+1)):=by
    have:=List.take_append_drop t bs;rw[û t1]at this;rw[Ë,É t1];exact this.symm
   have ni:(bs.getD t zU).nm∉dR (P++bs.take t):=by
    rw[eb,<- List.append_assoc,List.append_assoc]at nd;have nd:((P++bs.take t).map (λb=>b.nm)++(bs.getD t zU::bs.drop (t+1)++rest).map λb=>b.nm).Nodup:=by rw[<- ß];exact nd
    have:=(List.nodup_append.mp nd).2.2;intro hm;exact this _ hm _ 'e' rfl
   have ln:(dR (P++bs.take t)).length<=1000:=by
    rw[Ñ,Ñ]at hl;rw[Å,Ñ,ù];lia
   refine⟨_,rfl,?_⟩;rw[et,show dR (P++bs.take t++[bs.getD t zU])=dR (P++bs.take t)++[(bs.getD t zU).nm]from ß];generalize bs.getD t zU=x at *;have i0:gG (eW x) (.int 0)=some (.str x.nm):=rfl;dsimp? [yB,i0,XE ni ln];exact⟨_,rfl⟩
  .rintro δ ⟨o3,rfl⟩
   rw[Å,List.take_length];exact⟨_,_,rfl⟩
 .rintro δ ⟨o2,o3,rfl⟩
  rw[Å,List.take_length];dsimp? [DQ]
def IQ{cs:List (List Bx)}(hs:gG sh (.int 2)=some (.list st))(nd:(dR cs.flatten).Nodup)(hl:cs.flatten.length<=300)(ll:ld.length<=300)(A:∀x∈ld,u9 x.1):fE [sh,.list (cs.map aR),.list (ld.map n5)]=ũ (AK st.length (dR cs.flatten) ld):=by
 unfold fE pV;refine aND _ ?_;show wM _ [some sh,some 'c',some (.list (ld.map n5)),none,none,none] _ _;have en:=XL nd hl;refine OB (Ϭ ?_);dsimp? [en];have lz:(dR cs.flatten).length<=300:=by rw[Å];exact hl
 generalize dR cs.flatten=zs at *;refine aK3 (ds:=ld.map n5) (λk δ=>AK st.length zs ld=AK st.length (zs++(ld.take k).map λx=>x.1.nm) (ld.drop k)/\∃o4 o5,δ=[some sh,some 'c',some (.list (ld.map n5)),some (vS (zs++(ld.take k).map λx=>x.1.nm)),o4,o5]) (aV.of (eY rfl) ⟨rfl,by rw[List.take_zero,List.map_nil,ì,List.drop_zero],none,none,by rw[List.take_zero,List.map_nil,ì]⟩) ?_ ?_
 .rintro k d δ hk ⟨he,o4,o5,rfl⟩
  have k1:k<ld.length:=by have:=(Î.mp hk).1;rwa [Å]at this
  rw[Ï,É k1]at hk;cases hk;have Ax:=A _ (ă k1);have ez:(ld.take (k+1)).map (λx=>x.1.nm)=(ld.take k).map (λx=>x.1.nm)++[ld[k].1.nm]:=by
   rw[List.take_add_one,É k1,ß];rfl
  have lk:(zs++(ld.take k).map λx=>x.1.nm).length<=1000:=by
   rw[Ñ,Å,ù];lia
  rw[ez,<- List.append_assoc];rw[û k1,AK]at he;generalize zs++(ld.take k).map (λx=>x.1.nm)=ys at *;generalize ld[k]=x at *;refine⟨[some sh,some 'c',some (.list (ld.map n5)),some (vS ys),some (eW x.1),some (.int x.2)],rfl,?_⟩;have ech:pK (dB (iC ĥ Ŕ (dC (.int 0)) (bA 5) (Q8 rO [(gJ gG (bA 0) (dC (.int 2)))]))) [some sh,some 'c',some (.list (ld.map n5)),some (vS ys),some (eW x.1),some (.int x.2)]=.ok (!(decide (0<=x.2) && decide (x.2<(st.length:Int)))) [some sh,some 'c',some (.list (ld.map n5)),some (vS ys),some (eW x.1),some (.int x.2)]:=m9 (pL (IP fY (bQ rfl) (v7 (iE (bQ rfl) fY hs) UE) rfl rfl));by_cases c:0<=x.2/\x.2<(st.length:Int)
  .rw[Á c]at he
   rw[decide_eq_true c.1,decide_eq_true c.2]at ech;have eB:=XJ (zs:=ys) Ax;refine OB (ϭ (aV.of ech ?_));rw[Â ⋯];refine aHP ?_;refine OB (aCB rfl ?_);dsimp? [];refine⟨_,_,_,rfl,eB,?_⟩;cases hc:zV ys x.1 with
   |some e=>
    rw[hc]at he;show Option.map PyData.str _=_;rw[he];rfl
   |none=>
    rw[hc]at he;have i0:gG (eW x.1) (.int 0)=some (.str x.1.nm):=rfl;refine Ϭ ?_;show bO _ [some sh,some 'c',some (.list (ld.map n5)),some (vS ys),some (eW x.1),some (.int x.2)] _ _ _ _;generalize eW x.1=T at *;dsimp? [yB,i0,XE (aCC hc) lk];exact⟨he,_,_,rfl⟩
  .rw[Â c]at he
   have:(decide (0<=x.2) && decide (x.2<(st.length:Int)))=false:=by
    rw[<- Bool.decide_and];exact decide_eq_false c
   rw[this]at ech;refine OB (ϭ (aV.of ech ?_));rw[Á ⋯];refine aB8 ?_;dsimp? [];rw[he];rfl
 .rintro δ ⟨he,_⟩
  rw[Å,List.drop_length]at he;exact he
def RB(b:Bx):Prop:=tF b/\1<=b.w/\b.w<=1000000000
def dS(cs:List (List Bx))(m:Nat):Prop:=∀c∈cs,c.length<=m/\∀b∈c,RB b
def dS.mono(h:dS cs m)(e:m<=n):dS cs n:=λc hc=>⟨Õ (h c hc).1 e,(h c hc).2⟩
def dS.set(h:dS cs m)(lc:c.length<=m)(gc:∀b∈c,RB b):dS (cs.set k c) m:=λx hx=>by
 rcases List.mem_or_eq_of_mem_set hx with z|rfl
 .exact h x z
 .exact⟨lc,gc⟩
def dS.at(h:dS cs m):(cs.getD k []).length<=m/\∀b∈cs.getD k [],RB b:=by
 by_cases hk:k<cs.length
 .exact h _ (cR hk)
 .rw[Ë,å ∅]
  exact⟨î _,λb hb=>by cases hb⟩
def ϰ(m:Mv)(cs cs':List (List Bx)):Prop:=∃k:Nat,k<cs.length/\((∃z c b,m=(⟨"off",(k:Int),z⟩,.none)/\cs.getD k []=c++[b]/\cs'=cs.set k c)\/∃w z b,bN w/\(w == "off")=false/\m=(⟨w,(k:Int),z⟩,eW b)/\cs'=cs.set k (cs.getD k []++[b]))
def mL:List Mv->List (List Bx)->List (List Bx)->Prop
 |[],cs,cs1=>cs1=cs
 |m::ms,cs,cs1=>∃cs',ϰ m cs cs'/\dS cs' 30/\mL ms cs' cs1
def mL.app:∀{ms ms':List Mv}{cs cs1 cs2:List (List Bx)},mL ms cs cs1->mL ms' cs1 cs2->mL (ms++ms') cs cs2
 |[],_,_,_,_,h,g=>by cases h;exact g
 |_::_,_,_,_,_,⟨cs',s,q,h⟩,g=>⟨cs',s,q,h.app g⟩
def n8{cs:List (List Bx)}(h:k<cs.length):(cs.set k c).getD k []=c:=by
 rw[Ë,è h];rfl
def aCD{cs:List (List Bx)}(h:k≠j):(cs.set k c).getD j []=cs.getD j []:=by
 rw[Ë,Ú h,Ë]
def IR{cs:List (List Bx)}(h:k<cs.length):cs.set k (cs.getD k [])=cs:=by
 rw[Ë,É h];exact List.set_getElem_self h
def OG :∀{l:List Bx}{cs:List (List Bx)},k<cs.length->dS cs 30->cs.getD k []=keep++l.reverse->mL (l.map (W6 (k:Int))) cs (cs.set k keep)
 |[],cs,hk,_,e=>by
  rw[List.reverse_nil,ì]at e;show cs.set k keep=cs;rw[<- e,IR hk]
 |b::l,cs,hk,g,e=>by
  rw[List.reverse_cons,<- List.append_assoc]at e;have ga:=g.at (k:=k);rw[e]at ga;have lg:(keep++l.reverse).length<=30:=by have:=ga.1;rw[Ñ]at this;lia
  have g':dS (cs.set k (keep++l.reverse)) 30:=g.set lg λx hx=>ga.2 x (ü _ hx);refine⟨cs.set k (keep++l.reverse),⟨k,hk,.inl ⟨_,_,_,rfl,e,rfl⟩⟩,g',?_⟩;have:=OG (k:=k) (keep:=keep) (l:=l) (cs:=cs.set k (keep++l.reverse)) (by rw[Ö];exact hk) g' (n8 hk)
  rwa [List.set_set]at this
def XM :∀{l:List Bx}{cs:List (List Bx)},k<cs.length->dS cs 30->(cs.getD k []).length+l.length<=30->(∀b∈l,RB b)->mL (l.map (Į (k:Int))) cs (cs.set k (cs.getD k []++l))
 |[],cs,hk,_,_,_=>by
  show cs.set k (cs.getD k []++[])=cs;rw[ì,IR hk]
 |b::l,cs,hk,g,hl,gl=>by
  rw[Ý]at hl;have g':dS (cs.set k (cs.getD k []++[b])) 30:=g.set (by rw[Ñ,ñ];lia) (n6 g.at.2 (gl b Ô));refine⟨cs.set k (cs.getD k []++[b]),⟨k,hk,.inr ⟨"back",_,b,Ũ,⋯,rfl,rfl⟩⟩,g',?_⟩;have:=XM (k:=k) (l:=l) (cs:=cs.set k (cs.getD k []++[b])) (by rw[Ö];exact hk) g' (by rw[n8 hk,Ñ,ñ];lia) λx hx=>gl x (Ò _ hx)
  rwa [List.set_set,n8 hk,List.append_assoc]at this
def Q2(hk:k<cs.length)(g:dS cs 10):∃c,c.length<=10/\(∀b∈c,RB b)/\mL (ć (cs.getD k []) (k:Int) p) cs (cs.set k c):=by
 have ga:=g.at (k:=k);have g3:=g.mono (show 10<=30 by decide);generalize hb:cs.getD k []=bs at *;have e:bs.take (bs.findIdx λb=>b.p == p)++wK bs p=bs:=List.take_append_drop _ _;have fl:=List.length_filter_le (nP p) (wK bs p);have le:=congrArg List.length e;rw[Ñ]at le;have gk:∀b∈bs.take (bs.findIdx λb=>b.p == p),RB b:=λb hb=>ga.2 b (List.mem_of_mem_take hb);have gf:∀b∈(wK bs p).filter (nP p),RB b:=λb hb=>ga.2 b (N9 (List.mem_filter.mp hb).1);generalize bs.take (bs.findIdx λb=>b.p == p)=keep at *;have r1:=OG (k:=k) (keep:=keep) (l:=(wK bs p).reverse) hk g3 (by rw[List.reverse_reverse,e,hb]);have r2:=XM (k:=k) (l:=(wK bs p).filter (nP p)) (cs:=cs.set k keep) (by rw[Ö];exact hk) (g3.set ∅ gk) (by rw[n8 hk];lia) gf;rw[List.set_set,n8 hk]at r2;refine⟨keep++(wK bs p).filter (nP p),by rw[Ñ];lia,λb hb=>?_,r1.app r2⟩;rcases þ.mp hb with h|h
 .exact gk b h
 .exact gf b h
def OH(g:dS cs 10):∀k,k<=cs.length->∃cs1,cs1.length=cs.length/\dS cs1 10/\(∀j,k<=j->cs1.getD j []=cs.getD j [])/\mL (X8 cs p k) cs cs1
 |0,_=>⟨cs,rfl,g,λ_ _=>rfl,rfl⟩
 |k+1,hk=>by
  let⟨cs1,l1,g1,e1,r1⟩:=OH (p:=p) g k (È hk);let⟨c,lc,gc,r2⟩:=Q2 (k:=k) (cs:=cs1) (p:=p) ∅ g1;rw[e1 k (Ç _)]at r2;rw[zO];exact⟨cs1.set k c,by rw[Ö];exact l1,g1.set lc gc,λj hj=>by rw[aCD ∅,e1 j ∅],r1.app r2⟩
def XN:∀{ld:List Ld}{cs:List (List Bx)}{m:Nat},dS cs m->m+ld.length<=30->(∀x∈ld,RB x.1/\0<=x.2/\x.2<(cs.length:Int))->∃cs1,mL (ld.map į) cs cs1
 |[],cs,_,_,_,_=>⟨cs,rfl⟩
 |x::ld,cs,m,g,hl,h=>by
  let⟨hb,h0,h1⟩:=h x Ô;rw[Ý]at hl;have hk:x.2.toNat<cs.length:=by lia
  have g':dS (cs.set x.2.toNat (cs.getD x.2.toNat []++[x.1])) (m+1):=(g.mono (Nat.le_succ m)).set (by rw[Ñ,ñ];have:=(g.at (k:=x.2.toNat)).1;lia) (n6 g.at.2 hb)
  let⟨cs1,r⟩:=XN (ld:=ld) g' ∅ λy hy=>by rw[Ö];exact h y (Ò _ hy)
  refine⟨cs1,_,⟨x.2.toNat,hk,.inr ⟨"on",x.1.nm,x.1,ϫ,⋯,?_,rfl⟩⟩,g'.mono ∅,r⟩;rw[show ((x.2.toNat:Nat):Int)=x.2 by lia];rfl
def XO(g:dS cs 10)(ll:ld.length<=20)(h:∀x∈ld,RB x.1/\0<=x.2/\x.2<(cs.length:Int)):∃cs1,mL (v3 cs p ld) cs cs1:=by
 let⟨cs1,l1,g1,_,r1⟩:=OH (p:=p) g cs.length (Ç _);let⟨cs2,r2⟩:=XN (ld:=ld) g1 ∅ λx hx=>by rw[l1];exact h x hx
 exact⟨cs2,r1.app r2⟩
def XQ(s:ϰ m cs cs')(g:dS cs 30)(lc:cs.length<=10):oU [.list (cs.map aR),tG m.1,m.2]=.ok (.list (cs'.map aR)) []/\cs'.length=cs.length:=by
 obtain⟨k,hk,⟨z,c,b,rfl,e,rfl⟩|⟨w,z,b,gw,hw,rfl,rfl⟩⟩:=s
 .have hk':((k:Nat):Int).toNat<cs.length:=by lia
  have e2:cs[((k:Nat):Int).toNat]=c++[b]:=by
   have:=gD (d:=[]) hk';rw[É hk']at this;rw[Option.some.inj this,ú];exact e
  have:=LM (x:=.str z) (y:=.none) (s:=(k:Int)) (b:=b) ∅ ∅ hk' e2;rw[ú]at this;exact⟨this,Ö⟩
 .have hk':((k:Nat):Int).toNat<cs.length:=by lia
  have e2:cs[((k:Nat):Int).toNat]=cs.getD k []:=by
   have:=gD (d:=[]) hk';rw[É hk']at this;rw[Option.some.inj this,ú]
  have lg:=(g.at (k:=k)).1;have:=QZ (x:=.str z) (s:=(k:Int)) (b:=b) gw hw ∅ ∅ hk' (by rw[e2];lia);rw[e2,ú]at this;exact⟨this,Ö⟩
section
variable {own:Q4}{b:W3}{ss:List St}{cs:List (List Bx)}{ts:List Tk}{as:List Ap}{p:Str}{ld:List Ld}
def IS(hp:JC p)(h:mK p=false):cY [sh,cg,eX p ld]=.err (.str "NoName") []:=by
 have i0:gG (eX p ld) (.int 0)=some (.str p):=rfl;generalize eX p ld=cl at *;have e:eS [some sh,some cg,some cl,none,none,none,none,none]=.err (.str "NoName") [some sh,some cg,some cl,none,none,none,none,none]:=by
  unfold eS;rw[ę (b:=true) (by rw[m9 (pL (uE (iE (bQ rfl) fY i0) (ET hp))),h];rfl)];rfl
 show aP 8 [] 0 eS [sh,cg,cl]=_;unfold aP;show (match eS [some sh,some cg,some cl,none,none,none,none,none]with|.ok (.ret d) δ=>_|.ok .next δ=>_|.ok _ _=>_|.err x δ=>_|.stuck=>_)=_;rw[e];rfl
def LP(hp:JC p)(h:mK p=true)(nd:(dR cs.flatten).Nodup)(hl:cs.flatten.length<=300)(ll:ld.length<=300)(A:∀x∈ld,u9 x.1)(hc:AK ss.length (dR cs.flatten) ld=some e):cY [tK own b ss ts as,.list (cs.map aR),eX p ld]=.err (.str e) []:=by
 have i0:gG (eX p ld) (.int 0)=some (.str p):=rfl;have i1:gG (eX p ld) (.int 1)=some (.list (ld.map n5)):=rfl;have eL:=IQ (cs:=cs) (ld:=ld) (sh:=tK own b ss ts as) (st:=ss.map qW) rfl nd hl ll A;rw[Å,hc]at eL;generalize eX p ld=cl at *;generalize tK own b ss ts as=sh at *;generalize PyData.list (cs.map aR)=cg at *;have e:eS [some sh,some cg,some cl,none,none,none,none,none]=.err (.str e) [some sh,some cg,some cl,none,none,none,none,none]:=by
  unfold eS;rw[ę (b:=false) (by rw[m9 (pL (uE (iE (bQ rfl) fY i0) (ET hp))),h];rfl),Â ⋯];have:fS (dH fE [.val (bA 0),.val (bA 1),.val (gJ gG (bA 2) (dC (.int 1)))]) [some sh,some cg,some cl,none,none,none,none,none]=.err (.str e) [some sh,some cg,some cl,none,none,none,none,none]:=by
   unfold fS dH;simp![cK,bA,gJ,dC,List.getElem?_cons_zero,List.getElem?_cons_succ,Res.bind,i1,dP,Option.map,eL,ũ,aU,bL]
  unfold cX;rw[this];rfl
 show aP 8 [] 0 eS [sh,cg,cl]=_;unfold aP;show (match eS [some sh,some cg,some cl,none,none,none,none,none]with|.ok (.ret d) δ=>_|.ok .next δ=>_|.ok _ _=>_|.err x δ=>_|.stuck=>_)=_;rw[e];rfl
def aHW:∀k:Str,(k="none"\/k="broken")->C4 (.str k) (.str "fill")=some 'u':=λk h=>by
 rcases h with rfl|rfl<;>with_unfolding_all rfl
def Q3(S:ń own b ss ts as)(lc:cs.length=ss.length)(g:dS cs 10)(gp:bN p)(hp:JC p)(h:mK p=true)(nd:(dR cs.flatten).Nodup)(hl:cs.flatten.length<=300)(ll:ld.length<=20)(A:∀x∈ld,u9 x.1)(hb:∀x∈ld,RB x.1/\0<=x.2/\x.2<(cs.length:Int))(hc:AK ss.length (dR cs.flatten) ld=none):∃r,cY [tK own b ss ts as,.list (cs.map aR),eX p ld]=.ok r []/\True:=by
 have hz:sizeLine=2^24:=rfl;have ls:=S.ls;have i0:gG (eX p ld) (.int 0)=some (.str p):=rfl;have i1:gG (eX p ld) (.int 1)=some (.list (ld.map n5)):=rfl;have eL:=IQ (cs:=cs) (ld:=ld) (sh:=tK own b ss ts as) (st:=ss.map qW) rfl nd hl ∅ A;rw[Å,hc]at eL;have eL:fE [tK own b ss ts as,.list (cs.map aR),.list (ld.map n5)]=.ok .none []:=eL;have gC:II cs 50:=λc hc=>⟨by have:=(g c hc).1;lia,λx hx=>((g c hc).2 x hx).1⟩
 have em:=IK (ld:=ld) gC gp ∅ ∅;have ev:=XA (ld:=ld) gC gp ∅ ∅;have lm:=zP (p:=p) (ld:=ld) gC ∅ ∅;have ei:=ET hp;rw[h]at ei;have ec:=u8 (cs:=cs) ∅;let⟨csE,rn⟩:=XO (p:=p) g ll hb;have es:=λ(cs':List (List Bx))(l':cs'.length=ss.length)(g':dS cs' 30)=>AJ (as:=as) S l' λc hc=>⟨(g' c hc).1,λx hx=>(g' c hc).2 x hx⟩;generalize eX p ld=cl at *;generalize tK own b ss ts as=sh at *;generalize v3 cs p ld=ms at *;refine jN ?_;show bO eS [some sh,some 'c',some cl,none,none,none,none,none] _ _ _ _;unfold eS;dsimp? [i0,ei,Bool.not_true,Bool.false_eq_true,i1,eL,ec];refine eG (ds:=ms.map IJ) (δ1:=_) (λk δ=>∃(cs':List (List Bx))(L:ZI)(o5 o6 o7:ZL),L.length<=k/\cs'.length=cs.length/\dS cs' 30/\mL (ms.drop k) cs' csE/\δ=[some sh,some 'c',some cl,some (.list (cs'.map aR)),some (.list L),o5,o6,o7]) (cQ (by dsimp? [em])) ⟨cs,[],none,none,none,Ç _,rfl,g.mono ⋯,by rw[List.drop_zero];exact rn,rfl⟩ ?_ ?_
 .rintro k d δ hk ⟨cs',L,o5,o6,o7,lL,l',g',r',rfl⟩
  have k1:k<ms.length:=by have:=(Î.mp hk).1;rwa [Å]at this
  rw[Ï,É k1]at hk;cases hk;rw[û k1]at r';let⟨cs2,s2,g2,r2⟩:=r';generalize ms[k]=m at *;let⟨e1,l2⟩:=XQ s2 g' ∅;let⟨r,er,hr⟩:=es cs2 ∅ g2;refine⟨[some sh,some 'c',some cl,some (.list (cs'.map aR)),some (.list L),some (tG m.1),some m.2,o7],rfl,?_⟩;rcases hr with ⟨x,y,rfl⟩|⟨kd,x,hk,rfl⟩
  .have x0:gG (.tuple [.str "fill",x,y]) (.int 0)=some (.str "fill"):=rfl
   have x1:gG (.tuple [.str "fill",x,y]) (.int 1)=some x:=rfl;dsimp? [e1,er,x0,x1,aM9,Bool.false_eq_true];exact⟨∅,cs2,_,_,_,_,by rw[Ñ,ñ];lia,∅,g2,r2,rfl⟩
  .have x0:gG (.tuple [.str kd,x]) (.int 0)=some (.str kd):=rfl
   dsimp? [e1,er,x0,aHW kd hk]
 .rintro δ ⟨cs',L,o5,o6,o7,lL,l',g',r',rfl⟩
  dsimp? [ev]
end
def OI:∀ps:ZG,J6 (ps.map PyData.str)=some (ps.map V.str)
 |[]=>rfl
 |p::ps=>by
  have:=OI ps;show (match EY (.str p),J6 (ps.map PyData.str)with|some v,some vs=>some (v::vs)|_,_=>none)=_;rw[this];rfl
def aCE{ps:ZG}:ħ false (.str p) (.list (ps.map PyData.str))=some (.bool (decide (p∈ps))):=by
 unfold ħ;dsimp only;rw[OI];show some (PyData.bool (ď (.str p) (ps.map V.str)))=_;unfold ď;rw[List.any_map];congr 2;show (ps.any λx=>x == p)=_;rw[Bool.eq_iff_iff,decide_eq_true_eq,List.any_eq_true];exact⟨λ⟨x,h,e⟩=>beq_iff_eq.mp e▸h,λh=>⟨p,h,beq_self_eq_true p⟩⟩
def mM:Option Str->Str
 |none=>""
 |some e=>if e="NoStack"then "stack"else if e="NoName"then "name"else "weight"
def AL(m:Nat)(zs:ZG)(x:Ld):(Option Str):=if 0<=x.2/\x.2<(m:Int)then zV zs x.1 else some "NoStack"
def aHX:∀c<128,Ř (Str.ofString "abcdefghijklmnopqrstuvwxyz") ⟨#[c]⟩=JB c:=by decide +kernel
def EU(h:JC z):jU [.str z]=.ok (.bool (mK z)) []:=by
 have hl:rO [.str z]=some (.int z.length):=FZ rfl (Õ h.1 ⋯);have eo:mK z=(decide (1<=z.length/\z.length<=8) && z.cps.toList.all JB):=rfl;sleep 4;show bO nY [some (.str z),none] _ _ _ _;unfold nY;dsimp? [];refine eG (ds:=iW z) (δ1:=[some (.str z),none]) (λk δ=>(∀c∈z.cps.toList.take k,JB c=true)/\∃o,δ=[some (.str z),o]) (by simp[uD,bA,Res.bind]) ⟨(λc hc=>by cases hc),none,rfl⟩ ?_ ?_
 .rintro k d δ hk ⟨ha,o,rfl⟩
  unfold iW at hk;rw[Ï]at hk;let⟨c,hc,rfl⟩:=Option.map_eq_some_iff.mp hk;have hm:=õ hc;have hh:J5 (.str ⟨#[c]⟩) (.str "abcdefghijklmnopqrstuvwxyz")=some (.bool (!JB c)):=by
   show some (PyData.bool (!Ř _ _))=_;rw[aHX c (h.2 c hm)]
  refine⟨[some (.str z),some (.str ⟨#[c]⟩)],rfl,?_⟩;cases hk2:JB c with
  |true=>
   rw[hk2]at hh;dsimp? [hh,Bool.not_true,Bool.false_eq_true];refine⟨λx hx=>?_,_,rfl⟩;rw[List.take_add_one,hc]at hx;rcases þ.mp hx with q|q
   .exact ha x q
   .rw[ð.mp q]
    exact hk2
  |false=>
   rw[hk2]at hh;have:z.cps.toList.all JB=false:=List.all_eq_false.mpr ⟨c,hm,by rw[hk2];decide⟩;rw[eo,this,Bool.and_false];dsimp? [hh,Bool.not_false]
 .rintro δ ⟨ha,o,rfl⟩
  unfold iW at ha;rw[Å,List.take_length]at ha;rw[eo,æ.mpr ha,Bool.and_true];refine TJ (aV.of (IP fY (v7 (bQ rfl) hl) fY rfl rfl) ⟨?_,rfl⟩);congr 1;rw[<- Bool.decide_and,decide_eq_decide];lia
def aHY{m:Nat}(A:u9 x.1):NR [n5 x,.list (zs.map PyData.str),.int (m:Int)]=.ok (.str (mM (AL m zs x))) []:=by
 have i0:gG (n5 x) (.int 0)=some (eW x.1):=rfl;have i1:gG (n5 x) (.int 1)=some (.int x.2):=rfl;have j0:gG (eW x.1) (.int 0)=some (.str x.1.nm):=rfl;have j1:gG (eW x.1) (.int 1)=some (.int x.1.w):=rfl;have j2:gG (eW x.1) (.int 2)=some (.str x.1.p):=rfl;have j3:gG (eW x.1) (.int 3)=some (.str x.1.k):=rfl;have j4:gG (eW x.1) (.int 4)=some (.int x.1.b):=rfl;have n0:=EU A.nm;have n2:=EU A.p;have n3:=EU A.k;have hi:=aCE (p:=x.1.nm) (ps:=zs);generalize PyData.list (zs.map PyData.str)=zl at *;sleep 4;show bO EH [some (n5 x),some zl,some (.int (m:Int)),none] _ _ _ _;unfold EH AL;generalize n5 x=L at *;by_cases c0:x.2<0
 .rw[Â ∅]
  dsimp? [i0,i1,c0,decide_true];rfl
 by_cases c1:x.2<(m:Int)
 .rw[Á ⟨∅,c1⟩]
  unfold zV;have c1':¬(m:Int)<=x.2:=by lia
  generalize eW x.1=T at *;cases h0:mK x.1.nm with
  |false=>
   rw[h0]at n0;dsimp? [i0,i1,c0,c1',decide_false,Bool.false_eq_true,j0,n0,Bool.not_false];rfl
  |true=>
  rw[h0]at n0;rw[Â ⋯];by_cases h1:x.1.nm∈zs
  .rw[Á h1]
   rw[decide_eq_true h1]at hi;dsimp? [i0,i1,c0,c1',decide_false,Bool.false_eq_true,j0,n0,Bool.not_true,hi];rfl
  rw[Â h1];rw[decide_eq_false h1]at hi;by_cases h2:x.1.w<1
  .rw[Á h2]
   dsimp? [i0,i1,c0,c1',decide_false,decide_true,Bool.false_eq_true,j0,n0,Bool.not_true,hi,j1,h2];rfl
  rw[Â h2];cases h3:mK x.1.p with
  |false=>
   rw[h3]at n2;dsimp? [i0,i1,c0,c1',decide_false,Bool.false_eq_true,j0,n0,Bool.not_true,hi,j1,h2,j2,n2,Bool.not_false];rfl
  |true=>
  rw[h3]at n2;rw[Â ⋯];cases h4:mK x.1.k with
  |false=>
   rw[h4]at n3;dsimp? [i0,i1,c0,c1',decide_false,Bool.false_eq_true,j0,n0,Bool.not_true,hi,j1,h2,j2,n2,j3,n3,Bool.not_false];rfl
  |true=>
  rw[h4]at n3;rw[Â ⋯];by_cases h5:x.1.b<0
  .rw[Á h5]
   dsimp? [i0,i1,c0,c1',decide_false,decide_true,Bool.false_eq_true,j0,n0,Bool.not_true,hi,j1,h2,j2,n2,j3,n3,j4,h5];rfl
  .rw[Â h5]
   dsimp? [i0,i1,c0,c1',decide_false,Bool.false_eq_true,j0,n0,Bool.not_true,hi,j1,h2,j2,n2,j3,n3,j4,h5];rfl
 .rw[Â ∅]
  have c1':(m:Int)<=x.2:=by lia
  dsimp? [i0,i1,c0,c1',decide_false,decide_true,Bool.false_eq_true];rfl
def lG(h:zV zs b=none):mK b.nm=true/\b.nm∉zs/\1<=b.w/\mK b.p=true/\mK b.k=true/\0<=b.b:=by
 unfold zV at h;split at h
 .cases h
 split at h
 .cases h
 split at h
 .cases h
 split at h
 .cases h
 split at h
 .cases h
 split at h
 .cases h
 rename_i a1 a2 a3 a4 a5 a6;exact⟨by simpa using a1,a2,∅,by simpa using a4,by simpa using a5,∅⟩
def aCF(h:b.nm∈zs↔b.nm∈ys):zV zs b=zV ys b:=by
 unfold zV;by_cases c:b.nm∈zs
 .rw[Á c,Á (h.mp c)]
 .rw[Â c,Â λz=>c (h.mpr z)]
def aCG(h:x.1.nm∈zs↔x.1.nm∈ys):AL m zs x=AL m ys x:=by
 unfold AL;rw[aCF h]
def OJ{rest:List Ld}:∀{pre:List Ld}{zs:ZG},AK m zs pre=none->AK m zs (pre++rest)=AK m (zs++pre.map λx=>x.1.nm) rest
 |[],zs,_=>by rw[List.nil_append,List.map_nil,ì]
 |x::pre,zs,h=>by
  rw[AK]at h;rw[List.cons_append,AK];split at h
  .rename_i c
   rw[Á c];cases e:zV zs x.1 with
   |some y=>rw[e]at h;cases h
   |none=>
    rw[e]at h;dsimp only at h⊢;rw[OJ h,Ð,List.append_assoc];rfl
  .cases h
def aHZ(h:AL m zs x≠none):AK m zs (x::post)=AL m zs x:=by
 rw[AK];unfold AL at h⊢;split
 .rename_i c
  rw[Á c]at h;cases e:zV zs x.1 with
  |none=>exact absurd e h
  |some y=>rfl
 .rfl
def XR{m:Nat}:∀{ld:List Ld}{zs:ZG},(zs++ld.map λx=>x.1.nm).Nodup->(∀x∈ld,(0<=x.2/\x.2<(m:Int))/\mK x.1.nm=true/\1<=x.1.w/\mK x.1.p=true/\mK x.1.k=true/\0<=x.1.b)->AK m zs ld=none
 |[],_,_,_=>rfl
 |x::ld,zs,nd,h=>by
  let⟨h1,h2,h3,h4,h5,h6⟩:=h x Ô;have ni:x.1.nm∉zs:=λhm=>(List.nodup_append.mp nd).2.2 _ hm _ 'e' rfl;have:zV zs x.1=none:=by
   unfold zV;rw[h2,h4,h5,Â ⋯,Â ni,Â ∅,Â ⋯,Â ⋯,Â ∅]
  rw[AK,Á h1,this];refine XR (by rw[List.append_assoc];exact nd) λy hy=>h y (Ò _ hy)
section
def pw(j:Nat)(h:j<=1000):J2 (.int 10) (.int (j:Int))=some (.int (10^j)):=by
 rw[MG (ž ∅ ∅ ⋯)];rfl
def Ě:J2 (.int 10) (.int 9)=some (.int 1000000000):=pw 9 ⋯
def aOW:J2 (.int 10) (.int 8)=some (.int 100000000):=pw 8 ⋯
def ϱ(h0:0<=k)(h1:k<=1000):∃z,g8 [iL ns,.int k]=.ok (.str z) []/\JC z/\mK z=false:=by
 have t:=gE (ns:=ns) (k:=k) (m:=10) ⋯;have e:=jE (ns:=ns) (m:=10) h0 h1 ⋯;generalize dr ns k 10=i at *;obtain⟨z,ez,hz⟩:∃z,atI [PyData.str "",.str "A",.str "aB",.str "abcdefghi",.str "a b",.str "a1",.str "-",.str " a",.str "a,",.str "abcdefgh "] i=some (.str z)/\JC z/\mK z=false:=by
  unfold JC;have:i=0\/i=1\/i=2\/i=3\/i=4\/i=5\/i=6\/i=7\/i=8\/i=9:=by lia
  rcases this with z|z|z|z|z|z|z|z|z|z<;>rw[z]<;>exact⟨_,rfl,by decide +kernel⟩
 refine⟨z,aQ (os:=[]) ?_,hz⟩;show bO nX [some (iL ns),some (.int k),none] _ _ _ _;unfold nX;dsimp? [e,ez]
def aOX{zs:ZG}(h0:0<=i)(h1:i<(zs.length:Int)):∃z,z∈zs/\atI (zs.map PyData.str) i=some (.str z):=by
 have hi:i.toNat<zs.length:=by lia
 refine⟨zs[i.toNat],ă hi,?_⟩;have e:i=(i.toNat:Int):=by lia
 exact CL e (by rw[Ï,É hi];rfl)
def aCH{m:Nat}(A:u9 x.1)(h0:0<=k)(h1:k<=900)(hz:0<zs.length)(hl:zs.length<=1000)(az:∀z∈zs,JC z)(hm:m<=1000):∃r,HP [iL ns,.int k,n5 x,.list (zs.map PyData.str),.int (m:Int)]=.ok r []/\∃x':Ld,r=n5 x'/\u9 x'.1/\AL m zs x'≠none:=by
 have hs:sizeLine=2^24:=rfl;have i0:gG (n5 x) (.int 0)=some (eW x.1):=rfl;have i1:gG (n5 x) (.int 1)=some (.int x.2):=rfl;have j0:gG (eW x.1) (.int 0)=some (.str x.1.nm):=rfl;have j1:gG (eW x.1) (.int 1)=some (.int x.1.w):=rfl;have j2:gG (eW x.1) (.int 2)=some (.str x.1.p):=rfl;have j3:gG (eW x.1) (.int 3)=some (.str x.1.k):=rfl;have j4:gG (eW x.1) (.int 4)=some (.int x.1.b):=rfl;have e1:=jY (ns:=ns) (k:=k) (m:=7) h0 ∅ ⋯;have t1:=iJ (ns:=ns) (k:=k) (m:=7) ⋯;have ec:=wI (ns:=ns) (k:=k+1) ∅;let⟨z,en,nz⟩:=ϱ (ns:=ns) (k:=k) h0 ∅;have e2:=lF (ns:=ns) (k:=k) (m:=2) h0 ∅ ⋯;have t2:=iK (ns:=ns) (k:=k) (m:=2) ⋯;have e4:=lF (ns:=ns) (k:=k) (m:=4) h0 ∅ ⋯;have t4:=iK (ns:=ns) (k:=k) (m:=4) ⋯;have e5:=lF (ns:=ns) (k:=k) (m:=(zs.length:Int)) h0 ∅ ∅;have t5:=iK (ns:=ns) (k:=k) (m:=(zs.length:Int)) ∅;let⟨y,hy,ey⟩:=aOX t5.1 t5.2;generalize ot ns k 7=w at *;generalize th ns k 2=a2 at *;generalize th ns k 4=a4 at *;generalize th ns k (zs.length:Int)=a5 at *;generalize cell ns (k+1)=c at *;have em1:(c % 1000000000:Int)≥0/\(c % 1000000000:Int)<1000000000:=by lia
 have em2:(c % 100000000:Int)≥0/\(c % 100000000:Int)<100000000:=by lia
 obtain⟨low,el,hlow⟩:∃l:Int,atI [PyData.int 0,.int (0-c % 1000000000)] a2=some (.int l)/\(l<=0/\-1000000000<=l):=by
  have:a2=0\/a2=1:=by lia
  rcases this with rfl|rfl
  .exact⟨0,rfl,⋯,⋯⟩
  .exact⟨_,rfl,∅,∅⟩
 obtain⟨bad,eb,hbad⟩:∃l:Int,atI [PyData.int (-1),.int (m:Int),.int (-1-c % 1000000000),.int ((m:Int)+c % 100000000)] a4=some (.int l)/\¬(0<=l/\l<(m:Int)):=by
  have:a4=0\/a4=1\/a4=2\/a4=3:=by lia
  rcases this with rfl|rfl|rfl|rfl<;>exact⟨_,rfl,∅⟩
 have cb:∀{b:Bx},zV zs b≠none->AL m zs (b,x.2)≠none:=λh=>by
  unfold AL;split
  .exact h
  .exact λz=>nomatch z
 refine jN ?_;show bO zE [some (iL ns),some (.int k),some (n5 x),some (.list (zs.map PyData.str)),some (.int (m:Int)),none,none,none,none,none,none] _ _ _ _;unfold zE;have hz2:(zs.map PyData.str).length=zs.length:=Å ..;generalize n5 x=L at *;generalize eT:eW x.1=T at *;have:w=0\/w=1\/w=2\/w=3\/w=4\/w=5\/w=6:=by lia
 rcases this with rfl|rfl|rfl|rfl|rfl|rfl|rfl
 .dsimp? [e1,i0,vZ,decide_true,UD,ec,Ě,aOW,rX,Int.reduceLT,e4,eb]
  exact⟨(x.1,bad),by rw[<- eT];rfl,A,by unfold AL;rw[Â hbad];exact λz=>nomatch z⟩
 .dsimp? [e1,i0,i1,vZ,Int.reduceEq,decide_true,decide_false,Bool.false_eq_true,hz2,e5,ey,j1,j2,j3,j4]
  exact⟨(⟨y,x.1.w,x.1.p,x.1.k,x.1.b⟩,x.2),rfl,⟨az y hy,A.p,A.k⟩,cb λh=>(lG h).2.1 hy⟩
 .dsimp? [e1,i0,i1,vZ,Int.reduceEq,decide_true,decide_false,Bool.false_eq_true,en,j1,j2,j3,j4]
  exact⟨(⟨z,x.1.w,x.1.p,x.1.k,x.1.b⟩,x.2),rfl,⟨nz.1,A.p,A.k⟩,cb λh=>absurd ((lG h).1.symm.trans nz.2) ⋯⟩
 .dsimp? [e1,i0,i1,vZ,Int.reduceEq,decide_true,decide_false,Bool.false_eq_true,ec,Ě,rX,Int.reduceLT,e2,el,j0,j2,j3,j4]
  refine⟨(⟨x.1.nm,low,x.1.p,x.1.k,x.1.b⟩,x.2),rfl,⟨A.nm,A.p,A.k⟩,cb λh=>absurd (lG h).2.2.1 ?_⟩;show ¬1<=low;lia
 .dsimp? [e1,i0,i1,vZ,Int.reduceEq,decide_true,decide_false,Bool.false_eq_true,ec,Ě,rX,Int.reduceLT,e2,el,j0,j1,j3,j4,en]
  exact⟨(⟨x.1.nm,x.1.w,z,x.1.k,x.1.b⟩,x.2),rfl,⟨A.nm,nz.1,A.k⟩,cb λh=>absurd ((lG h).2.2.2.1.symm.trans nz.2) ⋯⟩
 .dsimp? [e1,i0,i1,vZ,Int.reduceEq,decide_true,decide_false,Bool.false_eq_true,ec,Ě,rX,Int.reduceLT,e2,el,j0,j1,j2,j4,en]
  exact⟨(⟨x.1.nm,x.1.w,x.1.p,z,x.1.b⟩,x.2),rfl,⟨A.nm,A.p,nz.1⟩,cb λh=>absurd ((lG h).2.2.2.2.1.symm.trans nz.2) ⋯⟩
 .dsimp? [e1,i0,i1,vZ,Int.reduceEq,decide_true,decide_false,Bool.false_eq_true,ec,Ě,rX,Int.reduceLT,e2,el,j0,j1,j2,j3]
  refine⟨(⟨x.1.nm,x.1.w,x.1.p,x.1.k,low-1⟩,x.2),rfl,⟨A.nm,A.p,A.k⟩,cb λh=>absurd (lG h).2.2.2.2.2 ?_⟩;show ¬0<=low-1;lia
end
def IT :∀{cs:List (List Bx)}{j:Nat}(h:j<cs.length),((cs.set j (cs[j]++[x])).flatten).Perm (cs.flatten++[x])
 |c::cs,0,_=>by
  show ((c++[x])++cs.flatten).Perm ((c++cs.flatten)++[x]);rw[List.append_assoc,List.append_assoc];exact List.perm_append_comm.append_left c
 |c::cs,j+1,h=>by
  show (c++(cs.set j (cs[j]'(Nat.lt_of_succ_lt_succ h)++[x])).flatten).Perm ((c++cs.flatten)++[x]);rw[List.append_assoc];exact(IT (Nat.lt_of_succ_lt_succ h)).append_left c
section
def LQ:RB (bx ns n):=by
 have t:=gE (ns:=ns) (k:=20+n) (m:=20) ⋯;exact⟨aB6,OF ∅,(zR (m:=20) ∅ ∅ ⋯).2⟩
def XS:u9 (bx ns n):=⟨tH kJ,tH kJ,tH kJ⟩
def aK8:0<=(bx ns n).b:=by
 have t:=iJ (ns:=ns) (k:=21+n) (m:=90) ⋯;have a:=(zR (ns:=ns) (m:=90) t.1 ∅ ⋯).1;have s:=qU (ns:=ns);show 0<=ĭ ns n;unfold ĭ;split<;>lia
def XU(m0:0<=m)(m1:m<=10)(s0:1<=ss.length)(s1:ss.length<=50):∃r,u4 [iL ns,.tuple [a,b,.list ss,c,d],.int m]=.ok r []/\∃cs:List (List Bx),r=.list (cs.map aR)/\cs.length=ss.length/\dS cs 10/\cs.flatten.Perm ((List.range m.toNat).map λi:Nat=>bx ns (i:Int)):=by
 refine jN ?_;show bO u3 [some (iL ns),some (.tuple [a,b,.list ss,c,d]),some (.int m),none,none] _ _ _ _;unfold u3;have hz:sizeLine=2^24:=rfl;dsimp? [];refine aV.of (cZ (enc:=id) (xs:=ss) (g:=λ_=>.list []) (cQ (by dsimp? [List.map_id])) ∅ λx _=>by dsimp? []) ?_;dsimp? [];refine DM (j:=m) (δ1:=_) (λk δ=>∃(cs:List (List Bx))(o4:ZL),δ=[some (iL ns),some (.tuple [a,b,.list ss,c,d]),some (.int m),some 'c',o4]/\cs.length=ss.length/\dS cs k/\cs.flatten.Perm ((List.range k).map λi:Nat=>bx ns (i:Int))) (lE (by dsimp? [];rfl)) ∅ ∅ ⟨ss.map λ_=>[],none,?_,by simp,λc hc=>?_,?_⟩ ?_ ?_
 .simp[aR]
 .obtain⟨_,_,rfl⟩:=Ü.mp hc
  exact⟨by simp,λb hb=>by cases hb⟩
 .simp
 .rintro k δ hk ⟨cs,o4,rfl,lc,gc,pc⟩
  refine⟨_,rfl,?_⟩;have t1:=iK (ns:=ns) (k:=21+(k:Int)) (m:=(cs.length:Int)) ∅;have e1:=lF (ns:=ns) (k:=21+(k:Int)) (m:=(cs.length:Int)) ∅ ∅ ∅;have e2:=LK (ns:=ns) (n:=(k:Int)) ∅ ∅;generalize th ns (21+(k:Int)) (cs.length:Int)=j at *;have hj:j.toNat<cs.length:=by lia
  have eh:I8 [0,0,0,2,0] [some (iL ns),some (.tuple [a,b,.list ss,c,d]),some (.int m),some 'c',some (.int (k:Int))]=[some (iL ns),some (.tuple [a,b,.list ss,c,d]),some (.int m),none,some (.int (k:Int))]:=rfl;have ea:(cs.map aR)[j.toNat]?=some (.list ((cs[j.toNat]).map eW)):=by rw[Ï,É hj];rfl
  have gj:=gc _ (ă hj);dsimp? [KG,Å,e1,KH (ϩ (n:=(cs.map aR).length) (k:=j) t1.1 (by rw[Å];exact t1.2)) ea,eh,e2,DR];refine⟨∅,?_⟩;refine⟨cs.set j.toNat (cs[j.toNat]++[bx ns (k:Int)]),some (.int (k:Int)),?_,by rw[Ö];exact lc,λc hc=>?_,?_⟩
  .simp[List.map_set,aR]
  .rcases List.mem_or_eq_of_mem_set hc with h|rfl
   .exact⟨by have:=(gc c h).1;lia,(gc c h).2⟩
   .exact⟨by rw[Ñ,ñ];lia,n6 gj.2 LQ⟩
  .rw[List.range_succ,ß]
   exact(IT hj).trans (pc.append_right _)
 .rintro δ ⟨cs,o4,rfl,lc,gc,pc⟩
  dsimp? [];exact⟨cs,rfl,lc,gc.mono ∅,pc⟩
end
section
variable {S C Kc:D}
def XV:dH cY [.val (bA 0),.val (bA 1),.val (bA 2)] (some S::some C::some Kc::δ)=(match cY [S,C,Kc]with|.ok d outs=>Res.ok d (bL [] (outs.filterMap id) (some S::some C::some Kc::δ))|.err x outs=>.err x (bL [] (outs.filterMap id) (some S::some C::some Kc::δ))|.stuck=>.stuck):=by
 have:cK [.val (bA 0),.val (bA 1),.val (bA 2)] (some S::some C::some Kc::δ)=.ok [some S,some C,some Kc] (some S::some C::some Kc::δ):=by simp[cK,bA,Res.bind]
 unfold dH;rw[this];simp![Res.bind,dP,aU,Option.map]
 all_goals (cases cY [S,C,Kc]<;>rfl)
def aH0(h:cY [S,C,Kc]=.ok r []):jV [S,C,Kc]=.ok (.str "") []:=by
 have hc:=XV (S:=S) (C:=C) (Kc:=Kc) (δ:=[some (.str "")]);rw[h]at hc;sleep 4;show bO g9 [some S,some C,some Kc,none] _ _ _ _;unfold g9;dsimp? [];unfold bO J8;simp[hc,bL,Res.bind,fS];rw[iO (bQ rfl)]
def OK{e:Str}(he:e="NoName"\/e="NoStack"\/e="NoWeight")(h:cY [S,C,Kc]=.err (.str e) []):jV [S,C,Kc]=.ok (.str (mM (some e))) []:=by
 have hc:=XV (S:=S) (C:=C) (Kc:=Kc) (δ:=[some (.str "")]);rw[h]at hc;sleep 4;show bO g9 [some S,some C,some Kc,none] _ _ _ _;unfold g9;dsimp? [];unfold bO J8;have e1:(Str.ofString "NoName" == Str.ofString "NoStack")=false:=by decide
 have e2:(Str.ofString "NoName" == Str.ofString "NoWeight")=false:=by decide
 have e3:(Str.ofString "NoStack" == Str.ofString "NoName")=false:=by decide
 have e4:(Str.ofString "NoStack" == Str.ofString "NoNumber")=false:=by decide
 have e5:(Str.ofString "NoStack" == Str.ofString "NoWeight")=false:=by decide
 have e6:(Str.ofString "NoWeight" == Str.ofString "NoName")=false:=by decide
 have e7:(Str.ofString "NoWeight" == Str.ofString "NoNumber")=false:=by decide
 have e8:(Str.ofString "NoWeight" == Str.ofString "NoStack")=false:=by decide
 rcases he with rfl|rfl|rfl
 .simp[hc,bL,Res.bind,fS,PD,nB,vX,List.lookup,eQ,dC]
  rw[iO (bQ rfl)];rfl
 .simp[hc,bL,Res.bind,fS,PD,nB,vX,List.lookup,eQ,dC,e3,e4]
  rw[iO (bQ rfl)];rfl
 .simp[hc,bL,Res.bind,fS,PD,nB,vX,List.lookup,eQ,dC,e6,e7,e8]
  rw[iO (bQ rfl)];rfl
def XW{e:Str}(he:e="NoName"\/e="NoStack"\/e="NoWeight")(h:cY [S,C,Kc]=.err (.str e) []):B2 [S,C,Kc,.str (mM (some e))]=.ok 'u' []:=by
 have hc:=XV (S:=S) (C:=C) (Kc:=Kc) (δ:=[some (.str (mM (some e))),some (.bool false),none]);rw[h]at hc;sleep 4;show bO u5 [some S,some C,some Kc,some (.str (mM (some e))),none,none] _ _ _ _;unfold u5;dsimp? [];unfold bO J8;have e1:(Str.ofString "NoName" == Str.ofString "NoStack")=false:=by decide
 have e2:(Str.ofString "NoName" == Str.ofString "NoWeight")=false:=by decide
 have e3:(Str.ofString "NoStack" == Str.ofString "NoName")=false:=by decide
 have e4:(Str.ofString "NoStack" == Str.ofString "NoNumber")=false:=by decide
 have e5:(Str.ofString "NoStack" == Str.ofString "NoWeight")=false:=by decide
 have e6:(Str.ofString "NoWeight" == Str.ofString "NoName")=false:=by decide
 have e7:(Str.ofString "NoWeight" == Str.ofString "NoNumber")=false:=by decide
 have e8:(Str.ofString "NoWeight" == Str.ofString "NoStack")=false:=by decide
 have wn:mM (some (Str.ofString "NoName"))="name":=rfl;have ws:mM (some (Str.ofString "NoStack"))="stack":=rfl;have ww:mM (some (Str.ofString "NoWeight"))="weight":=rfl;have bt:IY 'u' 'u'=some 'u':=by with_unfolding_all rfl
 have bf:IY (.bool false) (.bool false)=some 'u':=by with_unfolding_all rfl
 have q:∀(x y:Str)(b:Bool),bN x->bN y->(x == y)=b->IY (.str x) (.str y)=some (.bool b):=λx y b hx hy e=>by rw[B7 hx hy,e]
 have gn:bN "name":=⟨⋯,dQ _⟩;have gs:bN "stack":=⟨⋯,dQ _⟩;have gw:bN "weight":=⟨⋯,dQ _⟩;have q1:=q _ _ _ gn gn rfl;have q2:=q _ _ false gn gs ⋯;have q3:=q _ _ false gn gw ⋯;have q4:=q _ _ false gs gn ⋯;have q5:=q _ _ true gs gs ⋯;have q6:=q _ _ false gs gw ⋯;have q7:=q _ _ false gw gn ⋯;have q8:=q _ _ false gw gs ⋯;have q9:=q _ _ true gw gw ⋯;rcases he with rfl|rfl|rfl
 .rw[wn]at hc
  simp[hc,bL,Res.bind,fS,oN,vX,List.lookup,eQ,dC,cX,iH,rP,mQ,bA,gJ,Ĝ,wn,q1,q2,q3,bt,bf];rw[iO (bQ rfl)]
 .rw[ws]at hc
  simp[hc,bL,Res.bind,fS,oN,vX,List.lookup,eQ,dC,cX,iH,rP,mQ,bA,gJ,Ĝ,ws,q4,q5,q6,bt,bf,e3,e4];rw[iO (bQ rfl)]
 .rw[ww]at hc
  simp[hc,bL,Res.bind,fS,oN,vX,List.lookup,eQ,dC,cX,iH,rP,mQ,bA,gJ,Ĝ,ww,q7,q8,q9,bt,bf,e6,e7,e8];rw[iO (bQ rfl)]
end
section
variable {ns:ZK}{M n N:Nat}{c:Int}
def wN(ns:ZK)(M:Nat)(c:Int)(n:Nat):(List Ld):=(List.range n).map λi:Nat=>(bx ns ((M:Int)+(i:Int)),ot ns (30+(i:Int)) c)
def AM(ns:ZK)(n:Nat):ZG:=(List.range n).map λi:Nat=>(bx ns (i:Int)).nm
def wO:(wN ns M c n).length=n:=by unfold wN;rw[Å,List.length_range]
def OL:(AM ns n).length=n:=by unfold AM;rw[Å,List.length_range]
def IU:wN ns M c (n+1)=wN ns M c n++[(bx ns ((M:Int)+(n:Int)),ot ns (30+(n:Int)) c)]:=by
 unfold wN;rw[List.range_succ,ß];rfl
def OM:∀n,AM ns (M+n)=AM ns M++(wN ns M c n).map λx=>x.1.nm
 |0=>by simp[wN]
 |n+1=>by
  rw[IU,ß,<- List.append_assoc,<- OM n];unfold AM;rw[<- Nat.add_assoc,List.range_succ,ß];rfl
def XX(h:n<=26):(AM ns n).Nodup:=by
 unfold AM;refine List.pairwise_map.mpr (List.Pairwise.imp_of_mem (λ{a b}ha hb hab e=>hab ?_) List.nodup_range);have:=List.mem_range.mp ha;have:=List.mem_range.mp hb;have:=aHR (ns:=ns) (k:=16) (n:=(a:Int)) (m:=(b:Int)) ∅ ∅ ∅ ∅ e;lia
def aCI:∀z∈AM ns n,JC z:=λz hz=>by
 unfold AM at hz;let⟨i,_,rfl⟩:=Ü.mp hz;exact XS.nm
def tJ(hc:0<c)(h:x∈wN ns M c n):u9 x.1/\RB x.1/\(0<=x.2/\x.2<c)/\mK x.1.nm=true/\1<=x.1.w/\mK x.1.p=true/\mK x.1.k=true/\0<=x.1.b:=by
 unfold wN at h;let⟨i,_,rfl⟩:=Ü.mp h;exact⟨XS,LQ,iJ hc,kJ,LQ.2.1,kJ,kJ,aK8⟩
def XY(h:k<=n):(wN ns M c n).take k=wN ns M c k:=by
 unfold wN;rw[<- List.map_take,List.take_range,Nat.min_eq_left h]
variable {cs:List (List Bx)}{m:Nat}
abbrev IV(ns:ZK)(M:Nat)(cs:List (List Bx)):Prop:=cs.flatten.Perm ((List.range M).map λi:Nat=>bx ns (i:Int))
def IW(h:IV ns M cs):(dR cs.flatten).Perm (AM ns M):=by
 have:=h.map λb=>b.nm;rw[ê]at this;exact this
def IX(h:IV ns M cs):(dR cs.flatten++(wN ns M c n).map λx=>x.1.nm).Perm (AM ns (M+n)):=by
 rw[OM (c:=c) n];exact(IW h).append_right _
def XZ(h:IV ns M cs):cs.flatten.length=M:=by
 rw[h.length_eq,Å,List.length_range]
def X0(h:IV ns M cs)(hn:M+n<=26)(hm:0<m):AK m (dR cs.flatten) (wN ns M (m:Int) n)=none:=
 XR ((IX h).nodup_iff.mpr (XX hn)) λx hx=>(tJ ∅ hx).2.2
structure AN(ns:ZK)(M N m:Nat)(sp:ZH)(k:Nat)(ld:List Ld):Prop where
 len:ld.length=N
 asc:∀x∈ld,u9 x.1
 same:∀i,(∀j,j<k->sp[j]?≠some i)->ld[i]?=(wN ns M (m:Int) N)[i]?
 bad:∀j s,j<k->sp[j]?=some s->∃x,ld[s]?=some x/\AL m (AM ns (M+s)) x≠none
def AN.zero(hm:0<m):AN ns M N m sp 0 (wN ns M (m:Int) N):=⟨wO,λx hx=>(tJ ∅ hx).1,λ_ _=>rfl,λ_ _ h=>absurd h (Nat.not_lt_zero _)⟩
def AN.step(B:AN ns M N m sp k ld)(hk:sp[k]?=some s)(hs:s<N)(A:u9 x.1)(hx:AL m (AM ns (M+s)) x≠none):AN ns M N m sp (k+1) (ld.set s x):=by
 have ll:=B.len;refine⟨by rw[Ö];exact ll,λy hy=>?_,λi hi=>?_,λj t hj ht=>?_⟩
 .rcases List.mem_or_eq_of_mem_set hy with z|rfl
  .exact B.asc y z
  .exact A
 .have ne:s≠i:=λe=>hi k (ç k) (by rw[<- e];exact hk)
  rw[Ú ne];exact B.same i λj hj=>hi j (Nat.lt_succ_of_lt hj)
 .by_cases e:s=t
  .subst e
   exact⟨x,è ∅,hx⟩
  .rw[Ú e]
   refine B.bad j t ?_ ht;rcases Nat.lt_succ_iff_lt_or_eq.mp hj with z|rfl
   .exact z
   .exact absurd (Option.some.inj (hk.symm.trans ht)) e
def AN.due(B:AN ns M N m sp sp.length ld)(h:IV ns M cs)(hn:M+N<=26)(hm:0<m)(hs:s∈sp)(hl:∀t∈sp,s<=t)(hN:s<N):∃x,ld[s]?=some x/\u9 x.1/\AL m (AM ns (M+s)) x≠none/\AK m (dR cs.flatten) ld=AL m (AM ns (M+s)) x:=by
 let⟨j,hj,ej⟩:=List.mem_iff_getElem.mp hs;let⟨x,ex,hx⟩:=B.bad j s hj (by rw[É hj,ej]);have ll:=B.len;refine⟨x,ex,B.asc x (õ ex),hx,?_⟩;have e1:ld.take s=wN ns M (m:Int) s:=by
  rw[<- XY (n:=N) (È hN)];refine List.ext_getElem? λi=>?_;rw[List.getElem?_take,List.getElem?_take];split
  .refine B.same i λj hj e=>?_
   have:=hl i (õ e);lia
  .rfl
 have e2:ld=wN ns M (m:Int) s++x::ld.drop (s+1):=by
  let⟨h1,h2⟩:=Î.mp ex;rw[<- e1,<- h2,<- û h1,List.take_append_drop]
 have pm:=IX (c:=(m:Int)) (n:=s) h;have e3:AL m (dR cs.flatten++(wN ns M (m:Int) s).map λx=>x.1.nm) x=AL m (AM ns (M+s)) x:=aCG pm.mem_iff;rw[e2,OJ (X0 h ∅ hm),aHZ (by rw[e3];exact hx),e3]
def X1(h:AL m zs x=some e):e="NoName"\/e="NoStack"\/e="NoWeight":=by
 unfold AL zV at h
 repeat (split at h<;>first|(cases h;simp;done)|skip)
 all_goals first|cases h|(cases h;simp)
end
section
variable {a0 a1 a2 a3 a4 a5 a6 a7 a8 a9 a10 a11 a12:ZL}{d:D}{δ:DS}{N:ZO}
def rW:BC 12 d (a0::a1::a2::a3::a4::a5::a6::a7::a8::a9::a10::a11::a12::δ) N=N (a0::a1::a2::a3::a4::a5::a6::a7::a8::a9::a10::a11::some d::δ):=rfl
end
def X2(h:dS cs m):Sh 4 'c':=MV λd hd=>by
 let⟨c,hc,rfl⟩:=Ü.mp hd;refine MV λd hd=>?_;let⟨b,hb,rfl⟩:=Ü.mp hd;have g:=((h c hc).2 b hb).1;refine KC λd hd=>?_;simp![Ì,Ø,or_false]at hd;rcases hd with rfl|rfl|rfl|rfl|rfl
 .exact g.nm.sh
 .exact UF
 .exact g.p.sh
 .exact g.k.sh
 .exact UF
def aH1{sp:ZH}(h:sp=[a]\/sp=[a,b]):∃mn:Nat,GV [.list (sp.map λ(s:Nat)=>.int (s:Int))]=some (.int (mn:Int))/\mn∈sp/\∀t∈sp,mn<=t:=by
 rcases h with rfl|rfl
 .exact⟨a,rfl,by simp,by simp⟩
 .by_cases c:(b:Int)<(a:Int)
  .refine⟨b,?_,by simp,by simp;lia⟩
   simp[GV,cF,VR,argBest,c]
  .refine⟨a,?_,by simp,by simp;lia⟩
   simp[GV,cF,VR,argBest,c]
def ϲ(hn:n<=30)(hf:aV f (some (iL ns)::δ) λd δ1=>d=.int (n:Int)/\δ1=some (iL ns)::δ):d9 1 (eO 0) (vW [f]) eA (gJ gG (dH mD [.val (bA 1),.val (bA 0)]) (dC (.int 0))) (some (iL ns)::δ)=.ok (.list ((AM ns n).map PyData.str)) (some (iL ns)::δ):=by
 have:=rY (f:=f) (e:=gJ gG (dH mD [.val (bA 1),.val (bA 0)]) (dC (.int 0))) (δ:=some (iL ns)::δ) (n:=(n:Int)) (g:=λk=>.str (bx ns (k:Int)).nm) (cO hf) ∅ ∅ λk hk=>by
  have e:=LK (ns:=ns) (n:=(k:Int)) ∅ ∅;have i0:gG (eW (bx ns (k:Int))) (.int 0)=some (.str (bx ns (k:Int)).nm):=rfl;dsimp? [e,i0]
 rw[this];unfold AM;rw[ê,ú];rfl
def X3(ns:ZK)(hn:ns.length<=63):HQ [.list (ns.map .int)]=.ok 'u' []:=by
 have e24:sizeLine=2^24:=rfl;let⟨r,e1,own,b,ss,ts,as,rfl,S⟩:=aB9 (ns:=ns);have ls:=S.ls;have tM:=gE (ns:=ns) (k:=19) (m:=7) ⋯;have eM:=jE (ns:=ns) (k:=19) (m:=7) ⋯ ⋯ ⋯;obtain⟨M,hM⟩:∃M:Nat,1+dr ns 19 7=(M:Int):=⟨(1+dr ns 19 7).toNat,∅⟩;let⟨r,e2,cs,rfl,lc,gc,pc⟩:=XU (ns:=ns) (m:=(M:Int)) (a:=EQ own) (b:=đ b) (c:=.list (ts.map AH)) (d:=.list (as.map Ę)) (ss:=ss.map qW) ∅ ∅ (by rw[Å];lia) (by rw[Å];lia);rw[ú]at pc;have e2:u4 [iL ns,tK own b ss ts as,.int (M:Int)]=.ok 'c' []:=e2;rw[Å]at lc;have t41:=gE (ns:=ns) (k:=41) (m:=4) ⋯;have e41:=jE (ns:=ns) (k:=41) (m:=4) ⋯ ⋯ ⋯;have e4:=j5 (ns:=ns) (k:=17) (n:=dr ns 41 4) ⋯ ⋯ ∅ ∅;have tN:=iJ (ns:=ns) (k:=41) (m:=4) ⋯;have eN:=jY (ns:=ns) (k:=41) (m:=4) ⋯ ⋯ ⋯;obtain⟨N,hN⟩:∃N:Nat,1+ot ns 41 4=(N:Int):=⟨(1+ot ns 41 4).toNat,∅⟩;have nd:(dR cs.flatten).Nodup:=(IW pc).nodup_iff.mpr (XX ∅);have fl:=XZ pc;let⟨r0,ok0,_⟩:=Q3 (b:=b) (as:=as) (p:=nm ns 17 (dr ns 41 4)) (ld:=wN ns M (cs.length:Int) N) S lc gc jZ (tH kJ) kJ nd ∅ (by rw[wO];lia) (λx hx=>(tJ ∅ hx).1) (λx hx=>⟨(tJ ∅ hx).2.1,(tJ ∅ hx).2.2.1⟩) (by rw[<- lc];exact X0 pc ∅ ∅)
 have rf0:=aH0 ok0;have hE:∀(p:Str)(ld:List Ld),JC p->ld.length=N->(∀x∈ld,u9 x.1)->mK p=false\/(mK p=true/\AK cs.length (dR cs.flatten) ld≠none)->cY [tK own b ss ts as,.list (cs.map aR),eX p ld]=.err (.str (if mK p=true then (AK cs.length (dR cs.flatten) ld).getD ""else "NoName")) []:=λp ld hp hl hA h=>by
  rcases h with h|⟨h,h2⟩
  .rw[h,Â ⋯]
   exact IS hp h
  .rw[h,Á rfl]
   cases e:AK cs.length (dR cs.flatten) ld with
   |none=>exact absurd e h2
   |some z=>exact LP hp h nd ∅ ∅ hA (by rw[<- lc];exact e)
 have shc:C4 'c' 'c'=some (.bool false):=aAG (k:=4) (X2 gc) ⋯;generalize hp:nm ns 17 (dr ns 41 4)=p at *;have gp:JC p/\mK p=true:=by rw[<- hp];exact⟨tH kJ,kJ⟩
 generalize tK own b ss ts as=sh at *;clear ok0 nd S gc;sleep 4;show bO WC [some (iL ns),none,none,none,none,none,none,none,none,none,none,none,none] _ _ _ _;unfold WC;rw[L2.seq_assoc,L2.seq_assoc,L2.seq_assoc,L2.seq_assoc,L2.seq_assoc,L2.seq_assoc];refine u6 (λδ=>∃o6,δ=[some (iL ns),some sh,some (.int (M:Int)),some 'c',some (.str p),some (.list ((wN ns M (cs.length:Int) N).map n5)),o6,none,none,none,none,none,none]) ?_ ?_
 .dsimp? [e1,eM,hM,e2,e41,e4]
  refine KA (j:=N) (δ1:=_) (λk δ=>∃o6,δ=[some (iL ns),some sh,some (.int (M:Int)),some 'c',some (.str p),some (.list ((wN ns M (cs.length:Int) k).map n5)),o6,none,none,none,none,none,none]) (lE (by dsimp? [eN,hN];rfl)) ∅ ⟨none,rfl⟩ ?_ ?_
  .rintro k δ hk ⟨o6,rfl⟩
   refine⟨_,rfl,?_⟩;have e5:=LK (ns:=ns) (n:=(M:Int)+(k:Int)) ∅ ∅;have e6:=jY (ns:=ns) (k:=30+(k:Int)) (m:=(cs.length:Int)) ∅ ∅ ∅;dsimp? [e5,e6,Å,DR];rw[IU,ß,wO];exact⟨∅,_,rfl⟩
  .rintro δ ⟨o6,rfl⟩
   have rf0:jV [sh,.list (cs.map aR),.tuple [.str p,.list ((wN ns M (cs.length:Int) N).map n5)]]=.ok (.str "") []:=rf0;have ne0:C4 (.str "") (.str "")=some (.bool false):=by with_unfolding_all rfl
   dsimp? [KD,rf0,ne0,Bool.false_eq_true];exact⟨_,rfl⟩
 rintro _ ⟨o6,rfl⟩;have t7:=iK (ns:=ns) (k:=41) (m:=(N:Int)) ∅;have e7:=lF (ns:=ns) (k:=41) (m:=(N:Int)) ⋯ ⋯ ∅;have t8:=gE (ns:=ns) (k:=48) (m:=2) ⋯;have e8:=jE (ns:=ns) (k:=48) (m:=2) ⋯ ⋯ ⋯;have t9:=iJ (ns:=ns) (k:=48) (m:=(N:Int)) ∅;have e9:=jY (ns:=ns) (k:=48) (m:=(N:Int)) ⋯ ⋯ ∅;obtain⟨a,ha⟩:∃a:Nat,th ns 41 (N:Int)=(a:Int):=⟨(th ns 41 (N:Int)).toNat,∅⟩;obtain⟨c,hc⟩:∃c:Nat,ot ns 48 (N:Int)=(c:Int):=⟨(ot ns 48 (N:Int)).toNat,∅⟩;rw[L2.seq_assoc];refine u6 (λδ=>∃sp:ZH,(sp=[a]\/sp=[a,c])/\δ=[some (iL ns),some sh,some (.int (M:Int)),some 'c',some (.str p),some (.list ((wN ns M (cs.length:Int) N).map n5)),o6,some (.list (sp.map λ(s:Nat)=>.int (s:Int))),none,none,none,none,none]) ?_ ?_
 .dsimp? [Å,wO,e7,e8,ha,e9,hc,vZ,DR,decide_eq_true_eq]
  split
  .exact⟨∅,[a,c],.inr rfl,rfl⟩
  .exact⟨[a],.inl rfl,rfl⟩
 rintro _ ⟨sp,hsp,rfl⟩;have lsp:sp.length<=2/\∀s∈sp,s<N:=by
  rcases hsp with rfl|rfl<;>simp<;>lia
 refine u6 (λδ=>∃(ld:List Ld)(o8 o9:ZL),AN ns M N cs.length sp sp.length ld/\δ=[some (iL ns),some sh,some (.int (M:Int)),some 'c',some (.str p),some (.list (ld.map n5)),o6,some (.list (sp.map λ(s:Nat)=>.int (s:Int))),o8,o9,none,none,none]) ?_ ?_
 .refine KA (j:=sp.length) (δ1:=_) (λk δ=>∃(ld:List Ld)(o8 o9:ZL),AN ns M N cs.length sp k ld/\δ=[some (iL ns),some sh,some (.int (M:Int)),some 'c',some (.str p),some (.list (ld.map n5)),o6,some (.list (sp.map λ(s:Nat)=>.int (s:Int))),o8,o9,none,none,none]) (lE (by dsimp? [Å])) ∅ ⟨_,none,none,AN.zero ∅,rfl⟩ ?_ ?_
  .rintro k δ hk ⟨ld,o8,o9,B,rfl⟩
   refine⟨_,rfl,?_⟩;have ll:=B.len;have es:atI (sp.map λ(s:Nat)=>PyData.int (s:Int)) (k:Int)=some (.int ((sp[k]:Nat):Int)):=CL rfl (by rw[Ï,É hk];rfl);have hs:=lsp.2 _ (ă hk);have ek:sp[k]?=some sp[k]:=É hk;generalize sp[k]=s at *;have hs':s<ld.length:=by lia
   have el:atI (ld.map n5) (s:Int)=some (n5 ld[s]):=CL rfl (by rw[Ï,É hs'];rfl);let⟨r,eb,x,rfl,ax,hx⟩:=aCH (ns:=ns) (k:=42+3*(k:Int)) (x:=ld[s]) (zs:=AM ns (M+s)) (m:=cs.length) (B.asc _ (ă hs')) ∅ ∅ (by rw[OL];lia) (by rw[OL];lia) aCI ∅;dsimp? [];refine aV.of (ϲ (n:=M+s) ∅ ?_) ?_
   .dsimp? [es]
    rfl
   have ix:mO ld.length (s:Int)=some s:=aFA rfl hs';dsimp? [es,el,eb,Å,Ĩ,ix];exact⟨by ac_nf,ld.set s x,_,_,B.step ek ∅ ax hx,by rw[List.map_set]⟩
  .rintro δ ⟨ld,o8,o9,B,rfl⟩
   exact⟨ld,o8,o9,B,rfl⟩
 rintro _ ⟨ld,o8,o9,B,rfl⟩;let⟨mn,em,hmn,hle⟩:=aH1 hsp;let⟨x,ex,ax,hx,ec⟩:=B.due pc ∅ ∅ hmn hle (lsp.2 _ hmn);have ll:=B.len;have hE:=λp hp h=>hE p ld hp ll B.asc h;have hs:=lsp.2 _ hmn;have el:gG (.list (ld.map n5)) (.int (mn:Int))=some (n5 x):=by
  show atI (ld.map n5) (mn:Int)=_;exact CL rfl (by rw[Ï,ex];rfl)
 have ed:=aHY (zs:=AM ns (M+mn)) (m:=cs.length) ax;obtain⟨e,he⟩:∃e,AL cs.length (AM ns (M+mn)) x=some e:=Option.ne_none_iff_exists'.mp hx;have hw:=X1 he;have t49:=gE (ns:=ns) (k:=49) (m:=8) ⋯;have e49:=jE (ns:=ns) (k:=49) (m:=8) ⋯ ⋯ ⋯;let⟨z,en,nz⟩:=ϱ (ns:=ns) (k:=49) ⋯ ⋯;rw[he]at ed;have vi:(EY (.int (mn:Int))).isSome=true:=rfl;have wg:∀e:Str,(e="NoName"\/e="NoStack"\/e="NoWeight")->C4 (.str (mM (some e))) (.str (mM (some e)))=some (.bool false)/\IY (.str (mM (some e))) (.str "")=some (.bool false):=λe h=>by
  rcases h with rfl|rfl|rfl<;>exact⟨by with_unfolding_all rfl,by with_unfolding_all rfl⟩
 dsimp? [];refine aV.of (ϲ (n:=M+mn) ∅ ?_) ?_
 .dsimp? [UM,em,vi]
  rfl
 by_cases c3:dr ns 49 8=3
 .have hE:=hE z nz.1 (.inl nz.2)
  rw[nz.2,Â ⋯]at hE;have r1:=OK (.inl rfl) hE;have a1:=XW (.inl rfl) hE;let⟨w1,w2⟩:=wg "NoName" (.inl rfl);have wn:mM (some "NoName")="name":=rfl;rw[wn]at r1 a1 w1 w2;unfold eX at r1 a1;dsimp? [UM,em,vi,el,Å,ed,e49,vZ,c3,decide_true,en];refine aV.of (cZ (enc:=aR) (xs:=cs) (g:=aR) (eY rfl) ∅ λc _=>by dsimp? [aR,DN]) ?_;dsimp? [rW,KD,r1,w1,w2,shc,Bool.false_eq_true,a1]
 .have hE:=hE p gp.1 (.inr ⟨gp.2,by rw[ec];exact hx⟩)
  rw[gp.2,Á rfl,ec,he]at hE;have r1:=OK hw hE;have a1:=XW hw hE;let⟨w1,w2⟩:=wg e hw;unfold eX at r1 a1;dsimp? [UM,em,vi,el,Å,ed,e49,vZ,c3,decide_false,Bool.false_eq_true];refine aV.of (cZ (enc:=aR) (xs:=cs) (g:=aR) (eY rfl) ∅ λc _=>by dsimp? [aR,DN]) ?_;dsimp? [rW,KD,r1,w1,w2,shc,Bool.false_eq_true,a1]
theorem all_mk{l:W.OpenLaw}(T:Txt K mg)(lnt:W.noTabs K=true)(hfa:mg "law"=some (.ref fa)):
  (W.noTabs K=true/\∃c P pos,jK K=some (c,P,pos))/\∃fd:FuncData,(∀(s:Shared)(v:Value),BindsTo s fd ⟨[v],[]⟩ [("_law_script",v)])/\∀base:Heap,K.In base->base.Ns mainGlobals mg->qA K mg base->qZ l.prog w K mg base (zY l.prog w K) 10 fa fd ["_law_script"] (SR K ["_law_script"] [] [0,0,0,0,0,0,0,0,0,0,0,0,0] 0 HQ):=by
 have e:=hfa.symm.trans T.x58.m;cases e;exact⟨⟨lnt,_,_,_,T.lamE⟩,T.x58.fd,λs v=>by
  let⟨_,_,_,_,_,_,_,_,_,e,_⟩:=T.x58.F.ex;rw[e];exact .of_eq rfl,λbase _ _ B=>aHE T B⟩
def walk{l:W.OpenLaw}{q:Program}{loose:ZG}{XP:(ZD)->Heap->Prop}{YP:World->Heap->Prop}{d:DefRec}{K:Params->ZC}(hn:l.most=some 63)(hdf:d.params.defaults=[])(hY:∀(w:World)(h:Heap),YP w h->(K w.params).In h)(hrec:∃dl,(PyProof.Rows.recsOf q).find? (λe=>e.name == mY)=some dl)(F:∀(w:World)(mg:ZD)(fa:Addr)(h:Heap),(K w.params).In h->h.Ns mainGlobals mg->mg d.name=some (.ref fa) ->
   (W.noTabs (K w.params)=true/\∃c P pos,jK (K w.params)=some (c,P,pos))/\∃fd:FuncData,(∀(s:Shared)(u:Value),BindsTo s fd ⟨[u],[]⟩ [("_law_script",u)])/\∀base:Heap,(K w.params).In base->base.Ns mainGlobals mg->qA (K w.params) mg base->qZ l.prog w (K w.params) mg base (zY l.prog w (K w.params)) 10 fa fd ["_law_script"] (SR (K w.params) ["_law_script"] [] [0,0,0,0,0,0,0,0,0,0,0,0,0] 0 HQ)):
  W.WalkO q loose XP YP l.row.toRowW d [] (λf vs=>PySem.call f vs):=
 let ⟨_,hrec⟩:=hrec
 L2.walk_ofL (n:=63) (k:=10) (x:="_law_script") (CX:=λw=>zY l.prog w (K w.params)) (sp:=λw=>SR (K w.params) ["_law_script"] [] [0,0,0,0,0,0,0,0,0,0,0,0,0] 0 HQ) hn ⋯ hdf ⟨rfl,⋯,⋯⟩ hY hrec F (λ_ _ a ns hl hL hS=>KL hS (X3 ns hl) hL) λ_ _ _ _ _ z=>O8 z
@[inline]def ϳ{α:Type _}{β:Type _}(a:α)(_:β):α:=a
@[inline]def pv:Program:={PySem.Challenge.pw_keel_k63_refused_calls with main:={PySem.Challenge.pw_keel_k63_refused_calls.main with body:=[top 0,top 1,top 2,top 3,top 4,top 5,top 6,top 7,top 8,top 9,top 10,top 11,top 12,top 13,top 14,top 15,top 16,top 17,ϳ (top 18) (PySem.Stmt.FunctionDef (ϳ ("":Str) PySem.Expr.Lambda)),top 19,top 20,top 21,top 22,top 23,top 24,top 25,top 26,top 27,top 28,top 29,top 30,top 31,top 32,top 33,top 34,top 35,top 36,top 37,top 38,top 39,top 40,top 41,top 42,top 43,top 44,top 45,top 46,top 47,top 48,top 49,top 50,top 51,top 52,top 53,top 54,top 55,top 56,top 57,top 58,top 59,top 60,top 61,top 62,top 63,top 64,top 65,top 66,top 67,top 68,top 69,top 70,top 71,top 72,top 73,top 74,top 75,top 76,top 77,top 78,top 79]}}
@[inline]def rv:W.OpenLaw:={PySem.Challenge.rw_keel_k63_refused_calls with prog:=pv}
def aOY:PySem.Challenge.rw_keel_k63_refused_calls=rv:=by kernel_rfl
theorem tv(h:rv.Holds):PySem.Challenge.rw_keel_k63_refused_calls.Holds:=by rw[aOY];exact h
end Toy
namespace PySem.W.Fast
local macro_rules|`(seal $xs*)=>do return Lean.mkNullNode (<- xs.mapM λx=>`(command|theorem $(Lean.mkIdent (.mkSimple s!"tw{x.getId.toString.foldl (λa c=>let n:=c.toNat;a*62+(if n<58 then n+4 else if n<91 then n-65 else n-71)) 0}")):ident:True:=trivial))
seal O6OBjtvhmzD EOgbKOLu5ep VtcA24cdr9Y TjRvkCiqMTa MNyhOe8CH0E PVpj6OHrLEQ VCz2ueViymP TlFlf0FTLh1 DyugxCnJ8ME URpKK2JA96r ENeEicfHzCH NCC7lHXNYlZ UDa6vuer5gZ N2S7Kg2g7n7 RaCh9kq0Vk2 SzOENWfQdFO JAgJEhNOgvE NDKNBgS19EV D35b7J7sLiD U9ziMOjJAF7 JmWQCOJUJZx LjtvtHbWv9D PMlNNzSKiME LY855eZqnyj PQTpHZfmWHV GpZBBkYyMWK SOnHNBCzwdt IHBQxncCjRa SPAJzy5SPf2 CNjSirYU8uo N3NKC9Td76O TC66MYy3CW9 JOO8RpJL8VX Cjof5feWh1l J49qRMbkUGf BEiyQvqSeiz COGJMurIABP BARGIUWjos7 Ojphj5Uk3H7 Sy8vh7CxEyJ OxBIc0xLO92 Jy7mlXTuNEf SMPcH57oP4r SXJd5iIczrk NCl5wk7LFWi DSzpitp6EIb Lexd6DhUmBp IK4JXwKPv2L EGEC4ZACU05 Ag3OCq4xSG5 TAifxdGF4Zj VjGi2SHGxn6 Sik7E4ili3T FOA7BEL4ztN FMFOVJx1ZOj TR3Y8xI4GWa NkAHtTJwuV4 HrVf0rjO1mx GqMwnecCauH LQGa7ELs46H VIsFMdp9AQ5 M8nUzbcjz81 A6GexX0zFD5 BywnYinptE0 PSyWAuL9IIZ JLT84aV4Ds4 BAAVYAprdWO Rou98exUdQ4 MoCXZvnjp3U Lev828iSAJo VYiq0pe8e2p AKnFL6bICN0 I9ZejnpVdtI G1u4ONhG4No RRShkwzHju7 OdHHB3uFYBa HQglF8l8CuT Ey2HzGXG75Y SWLGYgTnydH V6GeguZzuL7 FbKPIbK93uX HwBcEq7hPaj MqAW3bNlKtm MG0wO395w0G DeWSdTiNzE6 KwiKpenxDEc HWT4hmZ2Kt0 OLMZkx90c5k EbPXRgjIDcv NKi3romHmXl V711aWtX0fV QfX574Fm1bE K5bt7lTN8O6 SDaHNipl3hC QJLgD7OzXHu Vzv6iG4c8Oo TRudcsuWczY BD4IqKRZnTA AWDcDcGBZCQ ECtiSyfy5jQ N1czyUw3tjV Axiiv97LCmY EGh5sAjZ7nc BIpYiCdAVXH E7Rhk8GwFcO NzEzFR4rDHz UYmy8hAgjTO Rfh9fBKdUkd CF54blKekJ6 H6PDMfQQogc DsWJqgSnruN Grt5mDRsxpd EfYM3Vvw2SC NGzj22tuoFI CnnsECBmUyW IvihzArwixP HljoxHBFslH SMN0AgEZO6o PkwfcBCB5Ro PaimLH10bt8 A8Urs3sFSkV UvNgNE9fOBw K8FVhOqKnuQ S6qcA1Ff0Hq GUcJFnaucyb HdkDep3jNQW LzVCC08kQ6z UmSYCJ2ix5U Drm6ZBLWyzL P2YWsVr8aZz Pq3OTC9sAo3 ODI6M4oSk27 TGfa0tEZ6gM RYpQPqtue9K I58cg6DCtmE PmT4vFlbhks AbNbXNFZrQA PC0V1lYxALa BIO0tNXtckx JCzvSgbN64M Nclubqv8hNH EXGqwnlXFVt VyOBuCM8pC5 MwZbjNCyn07 SEeYe1AyoFp RLqtBlXqGyd TCKOeTBKtx2 RXA0kJ3NyvJ I0ktHoDHVaM VHJmKauaOLK DUzvdfx5DbI KUX97XoGEKh NCcTMPLpazM HGajVkIp9mv FZsERlmNIgP NMHiqk89FWF NCU2rvvps4u JumNjTrjXD3 NmjHt8ooLlL FZTXf0z7adG J6pAnkKuGfi UTvq16V3QbH JtNPRJpe2kE Q6ct7AWnrgp KCbWqBqePAh JTkJ4NBxylL HS6zG1zrAvO F8t7oHbP5Tr PxplQrmeJPY NdKlbzN0xRd F5dg3hToHpO BtJZaJzTiHS BfPSk7ihd0N NzImaeJe3Cv P8WuAaaPx1j JEwRsmi5C1X DICI60D75BY HJUYrJBp45M QdFz8FByBpD AnLsGzPMlgR PkKs5rlir9v MfJi9aNnujY QcGhmpKGLvN TVxrZFpZE4U SvE6dFIT7Mo KmYAVTkuwui HNBNPGHsDcE UhFNUf9EHC6 P8l6LX6WsZ5 G0PBYZ0R588 Pg2kTLWmMAY TRvW7tIqLKt RqdwPH7bOBi Mb9YljMMXtf DTw1jgjawgY V5QdDS3oyJG LyQfyvRDwHC VQDj0RHwFi8 KWf5nmRYad3 LVXFhLlNeos FEUFpfIxfGK OlRCOzUcnqk I5d28KYNfBc KRj8XeHk9fh Trlwsrq321P Cb56hU2aWPH BYycEfhHtND KxXdDpigqKU CnUEUzqgjSm RxHb48011D3 PILMCOWZ5Hq Dp3GStjjJvn GTf4Z1bHi4V CKGH3ulpudk QBScqdrFeYe TmMPeRZgAmO E7TH0bJ6tUI D1qVNZARGzA TGm2gkgLLpJ KmDHiNoNjnE Lp3M6nPf7LU Fn5XKlRHipu TGwlxGGXSm4 VRRRJ2IHzaE C3EDToWn2fx DgU3ptrkIUp O28dAeeYSE9 DTxESZkVS6j RLz1Kh7B92s L6NpltT78gQ UOPV76i9okA SyhyC674SbV GJSbX2YHPDl IGPIXCXJQAC ExedA7TmZ0L FLnLHKApLy1 SMaaHdT0ABE UBlfn1tfWW5 JQydvOSlhS6 NOGzun7XHAI E3Bzl0KTdfM I5urJHpRFPo OodvN2c1or9 O5AlmFUOj9x BeLugPqsY3m LgErLtxB1G2 TYZcYQnoqPT BTg1DfTm2ML SMapzPkkO4A NMbT8Tuji6h RnNJnkmte8L PcsXLgOlWOF PSnt4F99T3g GLzU2FuJwZ2 UqFHqJcCpGj Mf8wyuUxcmV Qc4fryocSg5 M8RxAk5fd8f JnLii8DT96f V7BA88umum1 PNO6i3pJ1qM EFNF9cLryIB DU7HB6JIY7o PRTjmKztFHU LJ5mp933Oqe MpucevFdD33 Un0zGuBod2J Tkl0YSRyFiM QoeOiIcUcXN M0iW37SMlpP CyumDndwDW8 K3odCSbpyRm PNorDE4SR4k LQ1B0EPc9Sn NWAw5pyRIPj ClLmI9n9iCY GGta3oQEMRH VjZ9sjSZ5j9 VjCuIirpans GMuDw8t9Z9c BtsMCzUKbyG MWU9lDYlAdh DJ1bJZPmX1g FrsSoPJjVNv NpHDu0ItB5v E7VWQhGQ75J L01BL3WGKJ7 IK3jCvhbeZy LpLum117h27 TpuTSYXAMTs PLCpiz4xwFT SmZJ0rdTkcR Lc23kHYktKu PLrfp0AzS8w EeziM2LpSqP GvCeSNeFEhN S9TYQl31WmU VsGz4UErdwu UPxuGUYiE2J FEI9AZoi2BT Tq8lkawxhf4 Se9dkXVEXeu U5Gz1WtC7MA DDul3wqqk0W GnpXwYVunpn H4Z5XutraaT TGPxGzJCb0T D96J1GuMU3D He3KTdQltSL GB0LCYCkLOq HTZGoBBBPYI GatIu8vT78d PoPKv2bgjcg Kr6QbApQpKf TEDevrXUNSa GoTdIFdiKfU S4OeFI1MUuy KwmCP3zuLMt EBKF5PMroMB JxPhIYItFz1 ERdaDf8iqWf KGdwRt9oZAL Rtqcebac2M3 UpvbUidX8h3 StmdUrCQQ1H DIi4pmte3ay RQ5E35Clne7 B4oK6cjXS0f Is9qvYgYncy JLe8jiR3rIL L00o3nPv5T2 HoJxVjVZftA KumFzUzL4Io RsX5QYoyRKx DZS20N0q4As Kc5YmaG2Xx8 G3GWL906aRr QhBzn8e3JvE PpmoKqcAbWU I51spzcX5pj Sw0xgaXeoSH H2WFTtJwJ8v QV9Mkqmpkq1 Pc1QEcWR0Eg KjZVROl2Ctc U7ekzEoHHsI KaduataurqX QprcFeWv4gh U93sp287HVK Igcba2K9dmS BrOdmKCoKvz PyGpJ7Ylq3B VvMN20laSxM IcGVrOXwQdO BI0jpfj06gS FFIROsajG4J AKLd8Vo8ogB GAC0yvT4Van K8dXEyy8FcL CUfhds7OyUl SRVbaGeb0Wb CNalHnj23gL CeOlvgxZeBt CxO7TmlpkZO VbHdh8r06zi A4NSSVFuDOV DiXyFRsB1Pb VhWdL30dzhQ NqQEDGov3gB VrU325nyte8 Ib0IuGCanhf Fk7DO0HwAkh IpsLGhYnoM0 G91I5xyOZI5 I51VCAELg1c G1PUibOOH1B SOIjfku0PQb LwpeGY460KC OX148iC5zWJ L7mXWaz1KMu Pxppg56Clzf Agdi44SUcPp GYs7Cn0v5sh P9dAH2TNhYp L2EaB74Lzdx T3uhDwjDA3P DXKZeBxhi4N FVubmfo39GE F2xQep4dAM2 SoetELkyHPi G1l5kynLkmA D9owX4zFvOz CTRRFvM0To0 RbVRQ5zuZbN GMp8UzizZAG JzumlZSUWDJ JuuUzH4wqYQ P9Qy6KmA1oc NMrhlnTrsqd IqoPgMChM8G GiSJALq8r0P SaQuP10801e SxFprMJzyTe HE1mNkfSPNI M0yDJvhiPvw Bq5Xtt4uyZp ExRpHxRY0zi DVuC3alnGPS O4F8B4ilMKz MkYq2kVXAGV ADpaEVusnaR Ifl7UN4uYip VEvgqIkIeWU BQxlZSG3ddJ GP83rg6lPV5 OkaF0WwxD9B KV0EASKcGqM JvVh14Vt6YD MoYhyhMIxqo N4mnYyO3zxa CJSoAQVuFHm IpdP82JXP8L A7MDXbMG8ZD GBETZjto2Ur EuXnpSlppRT UU5kBnUJc5a Prwcv54PEXo NAGivZo3hSB Ow8cyRWPxAL HUhVy9y1gcM IYGGRVnkaJT NlKehdWcRxy OSKwGMdz36R P0LAWeIkskB PWvWUrMTlpk RyxyWw8rTi9 GO1K20be6DF J53ionAE0O9 OBvrp88ACuS U3hpyivyUNh GWrLxJRUWc6 GKLUlvnubPM EqlHKxMSI4N O7sbEAjVA2m BbAWOmqZ8qP NIxI0RF3vjQ Un5h9dwrmFm II4G5jdHlYS NgHayoMYH2K NqL2LGOQk6V L2JcMACqcCJ BlKKyXn9JfU RIbfgIRwIKL UsQOkmi0M0f TY5NhlD2GZB VS262J3I3t4 TEYkUbVRkB5 N9hIE3fc1Mo CQrC0JO7wQc Jv206DY8jg3 DizYcUJSfg5 QVo29TBaufu VNz0TrySKVk LW9BIIuaKtq Acq2uxNQdtQ GMttIPrIk7K PvdaPEEhNIG K7Ig8hxOjdv ArForrGY6LK BdFyXiXhMU4 QzXREXi6FSA JcU3sMYfYUa MDxWuFZP0nX LdgQqalT8Gk PS7Hn55Ofnc EwtGkmAJn5A TV7TAEtBfay DvSTGLuu74B RpmwQaYapZA
end PySem.W.Fast
open PySem PySem.W PyProof.Rows L2
set_option maxRecDepth 100000 in
set_option maxHeartbeats 0 in
theorem PySem.Challenge.cw_keel_k63_refused_calls_holds : PySem.Challenge.rw_keel_k63_refused_calls.Holds := by
 refine Toy.tv ?_
 w_on;o_law;k_head;(case hw=>w_witness2)
 k_fill
 refine Toy.walk (l:=Toy.rv) rfl rfl (λw h Y=>PySem.W.km_in_of Y) ?R ?F
 case R=>exact⟨_,rfl⟩
 case F=>
  intro w mg fa h KX G hmg;refine' Toy.all_mk (Toy.Txt.mk ?_ ?_ ?_ ?_ ?_ ⟨⟨?f6,_,?F6,Q6.binds ?F6 ?b6⟩,aQL KX G ?a6⟩ ?_ ?_ ?_ ?_ ?_ ?_ ⟨?f13,_,?F13,Q6.binds ?F13 ?b13⟩ ⟨?f14,_,?F14,Q6.binds ?F14 ?b14⟩ ?_ ?_ ?_ ?_ ?_ ?_ ?_ ?_ ?_ ?_ ?_ ?_ ?_ ?_ ?_ ?_ ?_ ?_ ?_ ?_ ?_ ?_ ?_ ?_ ?_ ?_ ?_ ?_ ?_ ?_ ?_ ?_ ?_ ?_ ?_ ?_ ?_ ?_ ?_ ?_ ?_ ?_ ?_ ?_ ?_ ?cc_Table ?nn_Table (aQL KX G ?nn_Table) ⟨?pg_Table,?hd_Table,?po_Table,?sa_Table⟩ (xW ?nn_Table ⟨?pg_Table,?hd_Table,?po_Table,?sa_Table⟩ ?at_Table_free) (xW ?nn_Table ⟨?pg_Table,?hd_Table,?po_Table,?sa_Table⟩ ?at_Table_goal) (xW ?nn_Table ⟨?pg_Table,?hd_Table,?po_Table,?sa_Table⟩ ?at_Table_held) (xW ?nn_Table ⟨?pg_Table,?hd_Table,?po_Table,?sa_Table⟩ ?at_Table_lines) (xW ?nn_Table ⟨?pg_Table,?hd_Table,?po_Table,?sa_Table⟩ ?at_Table_scale) ⟨?km_Table,?a13,?i13,?kk_Table⟩ ⟨?a14,?i14,?k14⟩ ?lc ?lp (VH ?a6 ?F6 ?lcd ?lk ?lv rfl) ?lcd (aQR KX G ?_) (aQR KX G ?_) (aQR KX G ?_) (aQR KX G ?_) (aQR KX G ?_) (aQR KX G ?_) (aQR KX G ?_) (aQR KX G ?_) (aQR KX G ?_) (aQR KX G ?_) (aQR KX G ?_) (aQR KX G ?_) (aQR KX G ?_) (aQR KX G ?_) (NJ KX G ?_) (NJ KX G ?_) (NJ KX G ?_) (NJ KX G ?_) 24 ?nn_KeelError (aQL KX G ?nn_KeelError) 61 ?nn_NoBounds (aQL KX G ?nn_NoBounds) 109 ?nn_NoDeed (aQL KX G ?nn_NoDeed) 128 ?nn_NoLine (aQL KX G ?nn_NoLine) _ ?nn_NoName (aQL KX G ?nn_NoName) ?ee_NoName ⟨?_,?_,?_,?_,?_,?_,?_,?_⟩ _ ?nn_NoNumber (aQL KX G ?nn_NoNumber) ?ee_NoNumber ⟨?_,?_,?_,?_,?_,?_,?_,?_⟩ 73 ?nn_NoSize (aQL KX G ?nn_NoSize) _ ?nn_NoStack (aQL KX G ?nn_NoStack) ?ee_NoStack ⟨?_,?_,?_,?_,?_,?_,?_,?_⟩ _ ?nn_NoWeight (aQL KX G ?nn_NoWeight) ?ee_NoWeight ⟨?_,?_,?_,?_,?_,?_,?_,?_⟩ ?mm_NoName_KeelError ?mm_NoName_NoName ?mm_NoName_NoStack ?mm_NoName_NoWeight ?mm_NoNumber_KeelError ?mm_NoNumber_NoName ?mm_NoNumber_NoStack ?mm_NoNumber_NoWeight ?mm_NoStack_KeelError ?mm_NoStack_NoName ?mm_NoStack_NoStack ?mm_NoStack_NoWeight ?mm_NoWeight_KeelError ?mm_NoWeight_NoName ?mm_NoWeight_NoStack ?mm_NoWeight_NoWeight ?kk_NoName_NoBounds ?kk_NoName_NoDeed ?kk_NoName_NoLine ?kk_NoName_NoName ?kk_NoName_NoNumber ?kk_NoName_NoSize ?kk_NoName_NoStack ?kk_NoName_NoWeight ?kk_NoName_ValueError ?kk_NoNumber_NoBounds ?kk_NoNumber_NoDeed ?kk_NoNumber_NoLine ?kk_NoNumber_NoName ?kk_NoNumber_NoNumber ?kk_NoNumber_NoSize ?kk_NoNumber_NoStack ?kk_NoNumber_NoWeight ?kk_NoNumber_ValueError ?kk_NoStack_NoBounds ?kk_NoStack_NoDeed ?kk_NoStack_NoLine ?kk_NoStack_NoName ?kk_NoStack_NoNumber ?kk_NoStack_NoSize ?kk_NoStack_NoStack ?kk_NoStack_NoWeight ?kk_NoStack_ValueError ?kk_NoWeight_NoBounds ?kk_NoWeight_NoDeed ?kk_NoWeight_NoLine ?kk_NoWeight_NoName ?kk_NoWeight_NoNumber ?kk_NoWeight_NoSize ?kk_NoWeight_NoStack ?kk_NoWeight_NoWeight ?kk_NoWeight_ValueError) ?lnt hmg
  any_goals (refine' aKD KX G ?a ?l ?c ?k ?b;(case a=>k_is);(case l=>k_is);(case c=>k_is);(case k=>k_is);(case b=>(intro _ _ _ _ _ _ us hl;first|exact aNV hl λ_=>rfl|exact aNW hl λ_ _=>rfl|exact aNX hl λ_ _ _=>rfl|exact aNY hl λ_ _ _ _=>rfl|exact aNZ hl λ_ _ _ _ _=>rfl)))
  all_goals try k_is
  all_goals try (unfold lI;k_is)
  all_goals try k_is
  all_goals try (refine' JT ?l ?c ?k;(case l=>k_is);(case c=>k_is);(case k=>k_is))
  all_goals try (intro _ _ _ _ _ _ us hl;first|exact aNV hl λ_=>rfl|exact aNW hl λ_ _=>rfl|exact aNX hl λ_ _ _=>rfl|exact aNY hl λ_ _ _ _=>rfl|exact aNZ hl λ_ _ _ _ _=>rfl)
  all_goals try (dsimp only;k_is)
  (case lnt=>first|kernel_rfl|k_is)
  all_goals try exact Option.isSome_iff_exists.mpr ⟨_,by k_is⟩
  (case lcd=>exact rfl);(case lk=>k_is);(case lv=>exact rfl)
  (case ee_NoName=>kernel_rfl)
  (case ee_NoNumber=>kernel_rfl)
  (case ee_NoStack=>kernel_rfl)
  (case ee_NoWeight=>kernel_rfl)
  (case mm_NoName_KeelError=>kernel_rfl)
  (case mm_NoName_NoName=>kernel_rfl)
  (case mm_NoName_NoStack=>kernel_rfl)
  (case mm_NoName_NoWeight=>kernel_rfl)
  (case mm_NoNumber_KeelError=>kernel_rfl)
  (case mm_NoNumber_NoName=>kernel_rfl)
  (case mm_NoNumber_NoStack=>kernel_rfl)
  (case mm_NoNumber_NoWeight=>kernel_rfl)
  (case mm_NoStack_KeelError=>kernel_rfl)
  (case mm_NoStack_NoName=>kernel_rfl)
  (case mm_NoStack_NoStack=>kernel_rfl)
  (case mm_NoStack_NoWeight=>kernel_rfl)
  (case mm_NoWeight_KeelError=>kernel_rfl)
  (case mm_NoWeight_NoName=>kernel_rfl)
  (case mm_NoWeight_NoStack=>kernel_rfl)
  (case mm_NoWeight_NoWeight=>kernel_rfl)
  (case kk_NoName_NoBounds=>kernel_rfl)
  (case kk_NoName_NoDeed=>kernel_rfl)
  (case kk_NoName_NoLine=>kernel_rfl)
  (case kk_NoName_NoName=>kernel_rfl)
  (case kk_NoName_NoNumber=>kernel_rfl)
  (case kk_NoName_NoSize=>kernel_rfl)
  (case kk_NoName_NoStack=>kernel_rfl)
  (case kk_NoName_NoWeight=>kernel_rfl)
  (case kk_NoName_ValueError=>kernel_rfl)
  (case kk_NoNumber_NoBounds=>kernel_rfl)
  (case kk_NoNumber_NoDeed=>kernel_rfl)
  (case kk_NoNumber_NoLine=>kernel_rfl)
  (case kk_NoNumber_NoName=>kernel_rfl)
  (case kk_NoNumber_NoNumber=>kernel_rfl)
  (case kk_NoNumber_NoSize=>kernel_rfl)
  (case kk_NoNumber_NoStack=>kernel_rfl)
  (case kk_NoNumber_NoWeight=>kernel_rfl)
  (case kk_NoNumber_ValueError=>kernel_rfl)
  (case kk_NoStack_NoBounds=>kernel_rfl)
  (case kk_NoStack_NoDeed=>kernel_rfl)
  (case kk_NoStack_NoLine=>kernel_rfl)
  (case kk_NoStack_NoName=>kernel_rfl)
  (case kk_NoStack_NoNumber=>kernel_rfl)
  (case kk_NoStack_NoSize=>kernel_rfl)
  (case kk_NoStack_NoStack=>kernel_rfl)
  (case kk_NoStack_NoWeight=>kernel_rfl)
  (case kk_NoStack_ValueError=>kernel_rfl)
  (case kk_NoWeight_NoBounds=>kernel_rfl)
  (case kk_NoWeight_NoDeed=>kernel_rfl)
  (case kk_NoWeight_NoLine=>kernel_rfl)
  (case kk_NoWeight_NoName=>kernel_rfl)
  (case kk_NoWeight_NoNumber=>kernel_rfl)
  (case kk_NoWeight_NoSize=>kernel_rfl)
  (case kk_NoWeight_NoStack=>kernel_rfl)
  (case kk_NoWeight_NoWeight=>kernel_rfl)
  (case kk_NoWeight_ValueError=>kernel_rfl)
