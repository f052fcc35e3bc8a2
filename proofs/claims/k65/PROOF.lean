import PyProof.Rows.All
import Wide.All
import OpenK.AllK
import Wide.FinOn
import Lean
import PyProof.EqAt
import PyProof.EqKinds
import PyProof.TupleCall
import PyProof.CollectIter
import PyProof.Rows.StrInSeq3
import PyProof.ZipIter
import PyProof.EnumMake
import PyProof.EnumFor
import PyProof.Rows.FactsT2
import PyProof.Rows.EnumRows
import PyProof.ConsumeWalk
import PyProof.ListMulRoad
import PyProof.AutoListH
import PyProof.MinMaxWalk
import PyProof.WalkInts
import PyProof.Rows.CallKwBuiltin
import PyProof.Rows.Range3
import PyProof.P3In
import PyProof.FactsAll.list_3
import PyProof.EqAt
import PyProof.StrOps2
import KE.KRevIter
import PyProof.StrBlockI
import KE.KNest
import KE.KLam
import PyProof.ListRange
import PyProof.Rows.FStr
import PyProof.Rows.SortRev
import PySem.Challenge.RW_keel_k65_whole_out_at_their_port

set_option autoImplicit true
set_option bootstrap.genMatcherCode false
set_option genSizeOf false
set_option Elab.async false
set_option linter.all false
set_option maxRecDepth 100000
theorem Ë:type_of% @List.getD_eq_getElem?_getD:=@List.getD_eq_getElem?_getD
theorem Ê:type_of% @List.getElem?_eq_getElem:=@List.getElem?_eq_getElem
theorem Å:type_of% @List.length_map:=@List.length_map
theorem É:type_of% @Nat.le_of_lt:=@Nat.le_of_lt
theorem Ù:type_of% @Nat.lt_of_lt_of_le:=@Nat.lt_of_lt_of_le
theorem È:type_of% @Nat.le_refl:=@Nat.le_refl
theorem Î:type_of% @List.getElem?_eq_some_iff:=@List.getElem?_eq_some_iff
theorem Ó:type_of% @List.mem_cons_of_mem:=@List.mem_cons_of_mem
theorem Ò:type_of% @List.getElem?_map:=@List.getElem?_map
theorem Ý:type_of% @List.mem_append_right:=@List.mem_append_right
theorem ã:type_of% @List.getElem?_append_right:=@List.getElem?_append_right
theorem Ð:type_of% @Nat.ne_of_lt:=@Nat.ne_of_lt
theorem õ:type_of% @Nat.lt_of_lt_of_eq:=@Nat.lt_of_lt_of_eq
theorem Ñ:type_of% @List.length_append:=@List.length_append
theorem Ü:type_of% @Nat.le_trans:=@Nat.le_trans
theorem Ú:type_of% @List.getElem?_set_ne:=@List.getElem?_set_ne
theorem ç:type_of% @List.getElem?_eq_none:=@List.getElem?_eq_none
theorem é:type_of% @List.size_toArray:=@List.size_toArray
theorem ô:type_of% @List.getElem?_append_left:=@List.getElem?_append_left
theorem Ï:type_of% @List.length_set:=@List.length_set
theorem ï:type_of% @List.length_replicate:=@List.length_replicate
theorem Þ:type_of% @Nat.ne_of_gt:=@Nat.ne_of_gt
theorem Č:type_of% @List.mem_of_getElem?:=@List.mem_of_getElem?
theorem ì:type_of% @List.length_zip:=@List.length_zip
theorem ö:type_of% @Int.le_of_lt:=@Int.le_of_lt
theorem ġ:type_of% @Int.mul_le_mul_of_nonneg_right:=@Int.mul_le_mul_of_nonneg_right
theorem ò:type_of% @List.mem_singleton:=@List.mem_singleton
theorem Ö:type_of% @List.mem_map:=@List.mem_map
theorem ø:type_of% @List.mem_append:=@List.mem_append
theorem ÿ:type_of% @List.getElem?_range:=@List.getElem?_range
theorem Ā:type_of% @List.getElem?_replicate:=@List.getElem?_replicate
theorem è:type_of% @Nat.not_lt:=@Nat.not_lt
theorem ę:type_of% @Nat.lt_of_le_of_lt:=@Nat.lt_of_le_of_lt
theorem ù:type_of% @Nat.le_of_eq:=@Nat.le_of_eq
theorem Ģ:type_of% @List.getElem?_zip_eq_some:=@List.getElem?_zip_eq_some
theorem ú:type_of% @Nat.lt_irrefl:=@Nat.lt_irrefl
theorem č:type_of% @List.getElem?_set:=@List.getElem?_set
theorem ê:type_of% @List.length_take:=@List.length_take
theorem ü:type_of% @Int.toNat_natCast:=@Int.toNat_natCast
theorem Ě:type_of% @List.map_snd_zip:=@List.map_snd_zip
theorem ě:type_of% @List.map_fst_zip:=@List.map_fst_zip
theorem ý:type_of% @List.getElem_mem:=@List.getElem_mem
theorem Ĝ:type_of% @Nat.add_sub_cancel:=@Nat.add_sub_cancel
theorem Ø:type_of% @List.map_append:=@List.map_append
theorem ģ:type_of% @List.mem_append_left:=@List.mem_append_left
theorem í:type_of% @List.all_eq_true:=@List.all_eq_true
theorem Õ:type_of% @List.mem_cons:=@List.mem_cons
theorem Ì:type_of% @List.map_cons:=@List.map_cons
theorem Ô:type_of% @List.mem_cons_self:=@List.mem_cons_self
theorem ë:type_of% @List.not_mem_nil:=@List.not_mem_nil
theorem Û:type_of% @List.length_cons:=@List.length_cons
theorem ä:type_of% @List.zip_cons_cons:=@List.zip_cons_cons
theorem á:type_of% @Bool.false_ne_true:=@Bool.false_ne_true
theorem ð:type_of% @Nat.lt_succ_self:=@Nat.lt_succ_self
theorem å:type_of% @List.lookup_cons:=@List.lookup_cons
theorem Í:type_of% @Ne.symm:=@Ne.symm
theorem ß:type_of% @List.getElem?_set_self:=@List.getElem?_set_self
theorem Ď:type_of% @Classical.byContradiction:=@Classical.byContradiction
theorem aSW:type_of% @PySem.W.mg_none_of:=@PySem.W.mg_none_of
theorem ā:type_of% @PySem.mem_of_lookup:=@PySem.mem_of_lookup
theorem æ:type_of% @Bool.and_eq_true:=@Bool.and_eq_true
theorem à:type_of% @List.map_map:=@List.map_map
theorem â:type_of% @List.append_nil:=@List.append_nil
theorem Ă:type_of% @List.find?_cons:=@List.find?_cons
theorem ñ:type_of% @List.drop_eq_getElem_cons:=@List.drop_eq_getElem_cons
theorem ó:type_of% @List.length_singleton:=@List.length_singleton
theorem î:type_of% @Nat.zero_le:=@Nat.zero_le
theorem ď:type_of% @List.length_drop:=@List.length_drop
theorem û:type_of% @Nat.sub_self:=@Nat.sub_self
theorem ă:type_of% @Nat.zero_lt_succ:=@Nat.zero_lt_succ
theorem Đ:type_of% @List.mem_filter:=@List.mem_filter
theorem Â:type_of% @if_pos:=@if_pos
theorem Ã:type_of% @if_neg:=@if_neg
theorem Æ:type_of% @And.intro:=@And.intro
set_option compiler.extract_closed false
noncomputable section
abbrev Zdb(x:PySem.Str):Prop:=(x == ("__debug__":PySem.Str))=false
abbrev Zcd(x:PySem.Str):Prop:=(x == ("__classdict__":PySem.Str))=false
abbrev Zse(a:PySem.Expr)(l:List PySem.Expr)(v:PySem.Env):Prop:=PySem.starEach (a::l) v=(false,PySem.eval a v)::PySem.starEach l v
abbrev Zbt(p:PySem.Pos)(l:List PySem.Expr)(v:PySem.Env):Prop:=(PySem.backTo p (PySem.starEach l v)).any (·.1)=false
abbrev Zfi(e:PySem.Expr)(v:PySem.Env):Prop:=∀x,PySem.foldedSetIterable e v x=pure x
set_option hygiene false
local macro_rules|`(tactic|sleep 1)=>`(tactic|(refine⟨F,δ,R,?_⟩))
local macro_rules|`(tactic|sleep 2)=>`(tactic|(intro X hP hw hK hc i À s σ H E I hf st hg;subst hP hw hK))
local macro_rules|`(tactic|sleep 3)=>`(tactic|(refine aQ (os:=[]) ?_))
local macro_rules|`(tactic|sleep 4)=>`(tactic|(exact q.elim))
local macro_rules|`(tactic|sleep 5)=>`(tactic|(rw[e]at h;exact h.elim))
set_option hygiene true
set_option hygiene false
local macro_rules|`('a')=>`((by exact É ‹_›))
local macro_rules|`('b')=>`((model X.prog X.w))
local macro_rules|`('c')=>`((List.replicate m 0))
local macro_rules|`('d')=>`((.list (cs.map aM)))
local macro_rules|`('e')=>`((by simp))
local macro_rules|`('f')=>`((W.kla_obj "<lambda>" kX params body scope clos ((X.mg "__name__").getD .none) c' ctv))
local macro_rules|`('g')=>`((aT X xs scope C fp s H))
local macro_rules|`('h')=>`((.Name x p))
local macro_rules|`('i')=>`((List.replicate xs.length 0++ow))
local macro_rules|`('j')=>`((.bool true))
local macro_rules|`('k')=>`((bQ aG rfl T.x67 rx))
local macro_rules|`('l')=>`((by grind))
local macro_rules|`('m')=>`(((δ.set e (some d)).set s (some dv)))
local macro_rules|`('n')=>`((List Bx))
local macro_rules|`('o')=>`((aI.refl _))
local macro_rules|`('p')=>`((model prog w))
local macro_rules|`('q')=>`((List.replicate k 0++ow))
local macro_rules|`('r')=>`((.ListComp elt [⟨tg,iter,ifs,0⟩] scope pos))
set_option hygiene true
local macro_rules|`(tactic|rfl')=>`(tactic|dsimp only[List.map,List.length_cons,List.length_nil,List.replicate_succ,List.replicate_zero,List.cons_append,List.nil_append,Nat.reduceSub,Nat.reduceAdd])
local macro_rules(kind:=Lean.Parser.Tactic.tacticLet__)|s=>do
 let d:=s.getArgs.back![0]
 unless d.isOfKind ``Lean.Parser.Term.letPatDecl do Lean.Macro.throwUnsupported
 let k:=Lean.Syntax.node .none
 let o:=k `null
 let m:=fun y=>k ``Lean.Parser.Tactic.rcasesPatMed #[o #[y]]
 `(tactic|obtain $(⟨m (d[0].rewriteBottomUp fun x=>
  if x.isIdent then k ``Lean.Parser.Tactic.rcasesPat.one #[x] else
  if x.isOfKind ``Lean.Parser.Term.hole then k ``Lean.Parser.Tactic.rcasesPat.ignore #[x[0]] else
  if x.isOfKind ``Lean.Parser.Term.anonymousCtor then k ``Lean.Parser.Tactic.rcasesPat.tuple #[x[0],o (x[1].getArgs.map fun y=>if y.isAtom then y else k ``Lean.Parser.Tactic.rcasesPatLo #[m y,o #[]]),x[2]] else x)⟩):rcasesPatMed:=$(⟨d[4]⟩))
local macro_rules(kind:=Lean.Parser.Command.declaration)|s=>do
 let d:=s[1];let y:=d[2][1][0][1]
 if d.isOfKind ``Lean.Parser.Command.definition&&s[0][1].isNone&&!d[2][1].isNone&&!(y.getNumArgs<2||y.isOfKind ``Lean.Parser.Term.arrow||y.isOfKind ``Lean.Parser.Term.paren||y[0].getId==`M) then
  return s.setArg 1 (Lean.mkNode ``Lean.Parser.Command.theorem #[Lean.mkAtom "theorem",d[1],Lean.mkNode ``Lean.Parser.Command.declSig #[d[2][0],d[2][1][0]],d[3]])
 if (s[1].isOfKind ``Lean.Parser.Command.definition||s[1].isOfKind ``Lean.Parser.Command.abbrev)&&s[0][4].isNone&&s[0][1].isNone then
  return s.setArg 0 (s[0].setArg 4 (Lean.mkNullNode #[Lean.mkNode ``Lean.Parser.Command.noncomputable #[Lean.mkAtom "noncomputable"]]))
 Lean.Macro.throwUnsupported
local macro_rules|`(⋯)=>`(by decide)
local macro_rules|`(∅)=>`(by lia)
local macro_rules|`(tactic|simp! [$as,*]$[$l:location]?)=>`(tactic|simp only[$as,*]$[$l]?)
local macro_rules|`(tactic|dsimp! [$as,*]$[$l:location]?)=>`(tactic|dsimp only[$as,*]$[$l]?)
local macro_rules| `(tactic|obtain $p:rcasesPatMed:=$e:term)=>`(tactic|first|(refine Classical.byContradiction λhn=>?_;rcases $e:term with $p:rcasesPatMed<;>refine hn ?_<;>clear hn)|rcases $e:term with $p:rcasesPatMed)
local macro_rules| `(tactic|rintro⟨$ps,*⟩)=>`(tactic|(intro x;obtain⟨$ps,*⟩:=x))
local macro_rules| `(tactic|rintro $p $q $ps*)=>`(tactic|(rintro $p;rintro $q $ps*))
local macro_rules| `(tactic|ac_nf0)=>`(tactic|first|exact Or.inl rfl|exact Or.inr rfl|exact Or.inr (Or.inl rfl)|exact Or.inr (Or.inr rfl))
theorem Zrf(h:True:=by rfl):True:=h
local macro_rules|`(↥$x)=>`(autoParam $x Zrf._auto_1)
theorem Zrd(h:True:=by decide):True:=h
local macro_rules|`(⇑$x)=>`(autoParam $x Zrd._auto_1)
theorem Zro(h:True:=by ac_nf0):True:=h
local macro_rules|`(#v[$x])=>`(autoParam $x Zro._auto_1)
theorem Zri(h:True:=by intro _;rfl):True:=h
local macro_rules|`(~~~$x)=>`(autoParam $x Zri._auto_1)
abbrev ZA:=PySem.Value->PySem.Shared->Prop
abbrev ZB:=List (PySem.Addr×PySem.Obj)
abbrev ZC:=PySem.W.Frag
abbrev ZD:=PySem.Str->Option PySem.Value
abbrev ZE:=List (List Int×Int)
abbrev ZF:=List (Int×Int)
abbrev ZG:=List PySem.Str
abbrev ZH:=List Nat
abbrev ZI:=List PySem.PyData
abbrev ZJ:=List PySem.Value
abbrev ZK:=List Int
abbrev ZL:=Option PySem.PyData
abbrev ZM:=List PySem.Addr
abbrev ZN:=Option PySem.Value
abbrev ZO:=List (Option PySem.PyData)->Prop
namespace L2
open PySem PySem.Spec PyProof.Rows
abbrev cX:=Sum Int Str
def BL:cX->Value->Bool
 |.inl k,v=>Value.isInt k v
 |.inr x,v=>Value.isStrOf x v
def aNZ(w:World):cX->Int
 |.inl k=>hashInt k
 |.inr x=>hashStr w x
def cZ:∀{k:cX}{v:Value},BL k v=true->(∃i t,k=Sum.inl i/\v=Value.int i t)\/(∃x t,k=Sum.inr x/\v=Value.str x t)
 |.inl i,v,h=>by
  let⟨t,e⟩:=Value.isInt_shape (k:=i) (v:=v) h;exact .inl ⟨i,t,rfl,e⟩
 |.inr x,v,h=>by
  let⟨t,e⟩:=Value.isStrOf_shape (x:=x) (v:=v) h;exact .inr ⟨x,t,rfl,e⟩
def P8(i:Int)(t:Tok):BL (.inl i) (.int i t)=true:=by simp[BL,Value.isInt]
def P9(x:Str)(t:Tok):BL (.inr x) (.str x t)=true:=by simp[BL,Value.isStrOf]
def aGE(a b:Int):decide ((Sum.inl a:cX)=Sum.inl b)=(a == b):=by
 grind
def aGF(a b:Str):decide ((Sum.inr a:cX)=Sum.inr b)=decide (a=b):=by
 grind
def aGG(a:Int)(b:Str):decide ((Sum.inl a:cX)=Sum.inr b)=false:=decide_eq_false (λq=>nomatch q)
def aGH(a:Str)(b:Int):decide ((Sum.inr a:cX)=Sum.inl b)=false:=decide_eq_false (λq=>nomatch q)
def cT(prog:Program)(w:World):(PySem.KeyKind prog w cX) where
 is:=BL
 hash:=aNZ w
 inj:=λv a b ha hb=>by
  rcases cZ ha with ⟨i,t,rfl,rfl⟩|⟨x,t,rfl,rfl⟩
  .rcases cZ hb with ⟨j,u,rfl,e⟩|⟨y,u,rfl,e⟩
   all_goals grind
  .rcases cZ hb with ⟨j,u,rfl,e⟩|⟨y,u,rfl,e⟩
   all_goals grind
 byValue:=λk v h=>by
  rcases cZ h with ⟨i,t,rfl,rfl⟩|⟨x,t,rfl,rfl⟩<;>rfl
 pyHash:=λhv h=>by
  rcases cZ hv with ⟨i,t,rfl,rfl⟩|⟨x,t,rfl,rfl⟩
  .exact wpAny_pyHash_int h
  .exact wpAny_pyHash_str h
 eqBool:=λhu hv h=>by
  rcases cZ hu with ⟨i,t,rfl,rfl⟩|⟨x,t,rfl,rfl⟩
  .rcases cZ hv with ⟨j,u,rfl,rfl⟩|⟨y,u,rfl,rfl⟩
   .rw[aGE]at h;exact wpAny_eqBool_int h
   .rw[aGG]at h;exact SeqAt.EqAt.int_str i t y u _ _ _ _ h
  .rcases cZ hv with ⟨j,u,rfl,rfl⟩|⟨y,u,rfl,rfl⟩
   .rw[aGH]at h;exact SeqAt.EqAt.str_int x t j u _ _ _ _ h
   .rw[aGF]at h;exact wpAny_eqBool_str h
 «strs»:=λk x t v h=>by
  rcases cZ h with ⟨i,u,rfl,e⟩|⟨y,u,rfl,e⟩
  .exact nomatch e
  .injection e with e1 _
   subst e1;cases v<;>rfl
def GB(prog:Program)(w:World)(i:Int)(t:Tok):(cT prog w).is (.inl i) (.int i t)=true:=P8 i t
def GC(prog:Program)(w:World)(x:Str)(t:Tok):(cT prog w).is (.inr x) (.str x t)=true:=P9 x t
inductive V where
 |non|bl (b:Bool)|int (i:Int)|str (x:Str)|byt (b:Array UInt8)|flt (b:UInt64)|ref (a:Addr)|ty (n:String)
 deriving DecidableEq
def bH:V->Value->Prop
 |.non,u=>u=Value.none
 |.bl b,u=>u=Value.bool b
 |.int i,u=>∃t,u=Value.int i t
 |.str x,u=>∃t,u=Value.str x t
 |.byt b,u=>∃t,u=Value.bytes b t
 |.flt b,u=>∃t,u=Value.float b t
 |.ref a,u=>u=Value.ref a
 |.ty n,u=>u=Value.type n
abbrev bI:List V->ZJ->Prop:=Paired bH
def bI.length(r:bI xs us):xs.length=us.length:=Paired.length r
def bI.get:∀{xs:List V}{us:ZJ}{i:Nat}{x:V},bI xs us->xs[i]?=some x->∃u,us[i]?=some u/\bH x u
 |_,_,_,_,.nil,e=>by simp at e
 |_,_,0,_,.cons r _,e=>by simp at e;subst e;exact⟨_,rfl,r⟩
 |_,_,i+1,x,.cons _ t,e=>by
  let⟨u,h1,h2⟩:=bI.get (i:=i) (x:=x) t (by simpa using e);exact⟨u,by simpa using h1,h2⟩
def bI.set(r:bH x u):∀{xs:List V}{us:ZJ}(i:Nat),bI xs us->bI (xs.set i x) (us.set i u)
 |_,_,_,.nil=>.nil
 |_,_,0,.cons _ t=>.cons r t
 |_,_,i+1,.cons q t=>.cons q (bI.set r i t)
def bI.append:∀{xs ys:List V}{us ws:ZJ},bI xs us->bI ys ws->bI (xs++ys) (us++ws)
 |_,_,_,_,.nil,s=>s
 |_,_,_,_,.cons r t,s=>.cons r (bI.append t s)
def bI.take:∀{xs:List V}{us:ZJ}(n:Nat),bI xs us->bI (xs.take n) (us.take n)
 |_,_,0,_=>.nil
 |_,_,_+1,.nil=>.nil
 |_,_,n+1,.cons r t=>.cons r (bI.take n t)
def bI.drop:∀{xs:List V}{us:ZJ}(n:Nat),bI xs us->bI (xs.drop n) (us.drop n)
 |_,_,0,r=>r
 |_,_,_+1,.nil=>.nil
 |_,_,n+1,.cons _ t=>bI.drop n t
def mY:Option V->ZN->Prop
 |some v,some u=>bH v u
 |none,none=>True
 |_,_=>False
def KV{κ:Type}:List (κ×V)->List (κ×Value)->Prop:=Paired λ(p:κ×V)(q:κ×Value)=>p.1=q.1/\bH p.2 q.2
def kV:cX->V
 |.inl i=>.int i
 |.inr x=>.str x
inductive HO where
  |lst (xs:List V)
  |tup (xs:List V)
  |dK (Á:List (cX×V))|dT (Á:List (List cX×V))
  |set (S:Int->Bool) (n:Nat)
  |ins (C dx:Addr) (fs:List (Str×V))
  |own (x:Addr)
  |xd (fs:List (Str×V))
  |met (f x:Addr)
  |rng (lo hi:Int)
  |frz (o:Obj) (u:HO)
  |tbl (ps:Array Value)
 |lam (t u:Value) (q:Str)
  |ext (φ:Heap->Prop)
abbrev Hp:=Addr->Option HO
def aV(H:Hp)(a:Addr)(o:HO):Hp:=λb=>if b=a then some o else H b
def aJ:aV H a o a=some o:=by unfold aV;rw[Â rfl]
def aE(h:b≠a):aV H a o b=H b:=by unfold aV;rw[Ã h]
def C9:aV (aV H a o) a u=aV H a u:=by
 funext b;unfold aV;split<;>rfl
def aKH{H:Hp}{a b:Addr}{o u:HO}(h:H a=some o)(h':H b=some u)(d:o≠u):a≠b:=by
 grind
def bK{H:Hp}{a b:Addr}{o:HO}(h:H a=some o)(h':H b=none):a≠b:=by
 grind
section
variable (P:Program)(w:World)
def eC(H:Hp)(h:Heap)(a:Addr):HO->Prop
 |.lst xs=>xs.length<=sizeLine/\∃(its:ZJ)(n:Nat),bI xs its/\h.get? a=some {cls:=.type "list",data:=.seq its.toArray n}
 |.tup xs=>xs.length<=sizeLine/\∃its:ZJ,bI xs its/\IsTup h a its.toArray
 |.dK Á=>Á.length<=sizeLine/\(a == sysModules)=false/\∃vs,KV Á vs/\h.DictOf (cT P w) a vs
 |.dT Á=>Á.length<=sizeLine/\(a == sysModules)=false/\∃xs:List (List cX×Addr×Value),
   Paired (λ(p:List cX×V)(q:List cX×Addr×Value)=>p.1=q.1/\H q.2.1=some (.tup (p.1.map kV))/\bH p.2 q.2.2) Á xs /\
   ∃o es ep,h.get? a=some o/\o.ExactDict/\o.data=.dict es ep/\es.toList=xs.map (entryOfKey (tupleKind (cT P w)))/\(xs.map (·.1)).Nodup
 |.set S n=>h.SetOf (intKind P w) a S n
 |.ins C dx fs=>H dx=some (.own a)/\fs.length<=1000/\dx≠a/\h.get? a=some (W.instObj C dx) /\
   ∃mA,h.Ns1 dx mA/\(∀f,mY (fs.lookup f) (mA f))/\PySem.Within mA (fs.map (·.1))
 |.own _=>∃o,h.get? a=some o
 |.xd fs=>∃mA,h.Ns1 a mA/\∀f,mY (fs.lookup f) (mA f)
 |.rng lo hi=>∃t u v,h.get? a=some {cls:=.type "range",data:=.fields #[.int lo t,.int hi u,.int 1 v]}
 |.frz o u=>h.get? a=some o/\eC H h a u
 |.tbl ps=>h.get? a=some {cls:=.none,data:=.fields ps}
 |.lam t u q=>∃ps:Array Value,h.get? a=some {cls:=.none,data:=.fields ps}/\(ps=#[]\/∃c,ps=#[t,u,.ref c]/\H c=some (.own a)/\c≠a/\h.CodeRec (.ref c) q)
 |.met f x=>h.get? a=some (W.methodObj (.ref f) (.ref x))
 |.ext φ=>φ h/\(∃o,h.get? a=some o)/\∀h1 h2:Heap,φ h1->(∀o,h1.get? a=some o->h2.get? a=some o)->φ h2
def mZ(H:Hp)(h:Heap):Prop:=∀a o,H a=some o->eC P w H h a o
end
section
variable {a:Addr}
def eC.lt(x:eC P w H h a o):a<h.objs.size:=by
 cases o with
 |lst xs=>let⟨_,_,_,_,e⟩:=x;exact Heap.lt_size e
 |tup xs=>let⟨_,_,_,p⟩:=x;exact p.lt
 |dK Á=>let⟨_,_,_,_,o,_,_,e,_⟩:=x;exact Heap.lt_size e
 |dT Á=>let⟨_,_,_,_,o,_,_,e,_⟩:=x;exact Heap.lt_size e
 |set S n=>let⟨o,_,_,_,e,_⟩:=x;exact Heap.lt_size e
 |ins C dx fs=>let⟨_,_,_,e,_⟩:=x;exact Heap.lt_size e
 |own y=>let⟨_,e⟩:=x;exact Heap.lt_size e
 |xd fs=>let⟨_,⟨_,_,_,e,_⟩,_⟩:=x;exact Heap.lt_size e
 |rng lo hi=>let⟨_,_,_,e⟩:=x;exact Heap.lt_size e
 |frz ob u=>let⟨e,_⟩:=x;exact Heap.lt_size e
 |tbl ps=>exact Heap.lt_size (show h.get? a=some _ from x)
 |lam t u q=>let⟨_,e,_⟩:=x;exact Heap.lt_size e
 |met f y=>exact Heap.lt_size (show h.get? a=some _ from x)
 |ext φ=>let⟨_,⟨_,e⟩,_⟩:=x;exact Heap.lt_size e
def Paired.mapP :∀{l₁:List α}{l₂:List β},Paired F l₁ l₂->(∀a b,F a b->G a b)->Paired G l₁ l₂
 |_,_,.nil,_=>.nil
 |_,_,.cons r t,f=>.cons (f _ _ r) (Paired.mapP t f)
def eC.stay(x:eC P w H h a o)(k:∀b u,(b=a\/H b=some (.own a))->h.get? b=some u->h'.get? b=some u)(ho:∀b,H b=some (.own a)->H' b=some (.own a))(ht:∀b xs,H b=some (.tup xs)->H' b=some (.tup xs)):eC P w H' h' a o:=by
 induction o with
 |lst xs=>let⟨z,its,n,r,e⟩:=x;exact⟨z,its,n,r,k _ _ (.inl rfl) e⟩
 |tup xs=>let⟨z,its,r,ob,e,c⟩:=x;exact⟨z,its,r,ob,k _ _ (.inl rfl) e,c⟩
 |dK Á=>let⟨z,y,vs,r,ob,es,ep,e,c⟩:=x;exact⟨z,y,vs,r,ob,es,ep,k _ _ (.inl rfl) e,c⟩
 |dT Á=>
  let⟨z,y,xs,r,ob,es,ep,e,c⟩:=x;exact⟨z,y,xs,Paired.mapP r λp q z=>⟨z.1,ht _ _ z.2.1,z.2.2⟩,ob,es,ep,k _ _ (.inl rfl) e,c⟩
 |set S n=>let⟨ob,es,ep,t,e,c⟩:=x;exact⟨ob,es,ep,t,k _ _ (.inl rfl) e,c⟩
 |ins C dx fs=>
  let⟨d,z,ne,e,mA,⟨od,es,ep,e2,c⟩,r⟩:=x;exact⟨ho _ d,z,ne,k _ _ (.inl rfl) e,mA,⟨od,es,ep,k _ _ (.inr d) e2,c⟩,r⟩
 |own y=>let⟨ob,e⟩:=x;exact⟨ob,k _ _ (.inl rfl) e⟩
 |xd fs=>let⟨mA,⟨od,es,ep,e,c⟩,r⟩:=x;exact⟨mA,⟨od,es,ep,k _ _ (.inl rfl) e,c⟩,r⟩
 |rng lo hi=>let⟨t,u,v,e⟩:=x;exact⟨t,u,v,k _ _ (.inl rfl) e⟩
 |frz ob u ih=>let⟨e,q⟩:=x;exact⟨k _ _ (.inl rfl) e,ih q⟩
 |tbl ps=>
  have e:h.get? a=some {cls:=.none,data:=.fields ps}:=x;show h'.get? a=some {cls:=.none,data:=.fields ps};exact k a _ (.inl rfl) e
 |lam t u q=>
  let⟨ps,e,r⟩:=x;refine⟨ps,k _ _ (.inl rfl) e,?_⟩;rcases r with r|⟨c,r1,r2,r3,b,ob,vs,tq,e1,e2,e3,e4⟩
  .exact .inl r
  .cases e1
   exact .inr ⟨c,r1,ho _ r2,r3,c,ob,vs,tq,rfl,k _ _ (.inr r2) e2,e3,e4⟩
 |met f y=>
  have e:h.get? a=some (W.methodObj (.ref f) (.ref y)):=x;show h'.get? a=some (W.methodObj (.ref f) (.ref y));exact k a _ (.inl rfl) e
 |ext φ=>let⟨p,⟨o,e⟩,st⟩:=x;exact⟨st _ _ p λo q=>k _ _ (.inl rfl) q,⟨o,k _ _ (.inl rfl) e⟩,st⟩
def mZ.lt(x:mZ P w H h)(e:H a=some o):a<h.objs.size:=(x a o e).lt
def mZ.fresh(x:mZ P w H h)(e:h.objs.size<=a):H a=none:=by
 cases q:H a with
 |none=>rfl
 |some u=>exact absurd (Ù (x.lt q) e) (ú _)
def mZ.kept(x:mZ P w H h)(k:∀b u,h.get? b=some u->h'.get? b=some u):mZ P w H h':=λa o e=>
 (x a o e).stay (λb u _ q=>k b u q) (λ_ q=>q) λ_ _ q=>q
def mZ.laid(x:mZ P w H h)(k:∀b u,h.get? b=some u->h'.get? b=some u)(hp:h.objs.size<=a)(new:eC P w (aV H a o) h' a o):mZ P w (aV H a o) h':=λb u e=>by
 have hn:=x.fresh hp;by_cases hb:b=a
 .subst hb;rw[aJ]at e;cases e;exact new
 .rw[aE hb]at e
  exact(x b u e).stay (λc v _ q=>k c v q) (λc q=>by rw[aE (bK q hn)];exact q) λc xs q=>by rw[aE (bK q hn)];exact q
end
def Rd(H:Hp)(a:Addr)(u:HO):Prop:=H a=some u\/∃o,H a=some (.frz o u)
def Rd.ok(r:Rd H a u)(x:mZ P w H h):eC P w H h a u:=by
 rcases r with r|⟨o,r⟩
 .exact x a u r
 .obtain⟨_,q⟩:=x a _ r
  exact q
def ĵ:Option HO->Prop
 |some (.lst _)=>True
 |some (.dK _)=>True
 |some (.dT _)=>True
 |some (.set _ _)=>True
 |some (.ins _ _ _)=>True
 |some (.ext _)=>True
 |_=>False
section
def mZ.write(ok:mZ P w H h)(mu:ĵ (H x))(he:e=x\/H e=some (.own x))(k:∀b u,b≠e->h.get? b=some u->h'.get? b=some u)(heo:∃u,h'.get? e=some u)(new:eC P w (aV H x o') h' x o'):mZ P w (aV H x o') h':=λb u q=>by
 have nown:∀c y,H c=some (.own y)->c≠x:=λc y r z=>by subst z;rw[r]at mu;exact mu
 have ntup:∀c xs,H c=some (.tup xs)->c≠x:=λc xs r z=>by subst z;rw[r]at mu;exact mu
 by_cases hb:b=x
 .subst hb;rw[aJ]at q;cases q;exact new
 .rw[aE hb]at q
  by_cases hbe:b=e
  .have q':H b=some (.own x):=by
    rcases he with z|z
    .grind
    .rw[hbe];exact z
   rw[q]at q';cases q';let⟨v,hv⟩:=heo;exact⟨v,by rw[hbe];exact hv⟩
  .refine(ok b u q).stay (λc v hc r=>k c v ?_ r) (λc r=>by rw[aE (nown c b r)];exact r) λc xs r=>by rw[aE (ntup c xs r)];exact r
   grind
end
structure Un(fs ex:ZM)(H H':Hp)(h h':Heap):Prop where
 keep:∀b o,h.get? b=some o->H b=none->b∉fs->b∉ex->h'.get? b=some o
 slot:∀b o,h.get? b=some o->H b=none->b∈fs->b∉ex->∃sl,h'.get? b=some {o with slots:=sl}
 free:∀b o,h.get? b=some o->H b=none->b∉ex->H' b=none
 there:∀b o,h.get? b=some o->b∉ex->∃o',h'.get? b=some o'
 tups:∀b xs,H b=some (.tup xs)->H' b=some (.tup xs)
 frzs:∀b o u,H b=some (.frz o u)->H' b=some (.frz o u)
 tbls:∀b ps,H b=some (.tbl ps)->∃more,H' b=some (.tbl (ps++more))
section
variable {fs ex:ZM}{H:Hp}{h h':Heap}{a:Addr}{o:HO}
def Un.any(u:Un fs ex H H1 h h1)(q:h.get? b=some ob)(n:H b=none)(hx:b∉ex):∃sl,h1.get? b=some {ob with slots:=sl}:=by
 by_cases hb:b∈fs
 .exact u.slot b ob q n hb hx
 .exact⟨ob.slots,u.keep b ob q n hb hx⟩
def Un.kept(k:∀b u,h.get? b=some u->h'.get? b=some u):Un fs ex H H h h':=
 ⟨λb ob q _ _ _=>k b ob q,λb ob q _ _ _=>⟨ob.slots,k b ob q⟩,λ_ _ _ n _=>n,λb ob q _=>⟨ob,k b ob q⟩,λ_ _ q=>q,λ_ _ _ q=>q,λ_ ps q=>⟨#[],by rw[q];simp⟩⟩
def Un.refl:Un fs ex H H h h:=Un.kept λ_ _ q=>q
def Un.laid(k:∀b u,h.get? b=some u->h'.get? b=some u)(hp:h.objs.size<=a)(hn:H a=none):Un fs ex H (aV H a o) h h' where
 keep:=λb u q _ _ _=>k b u q
 slot:=λb u q _ _ _=>⟨u.slots,k b u q⟩
 free:=λb u q n _=>by rw[aE (Ð (Ù (Heap.lt_size q) hp))];exact n
 there:=λb u q _=>⟨u,k b u q⟩
 tups:=λb xs q=>by rw[aE (bK q hn)];exact q
 frzs:=λb u xs q=>by rw[aE (bK q hn)];exact q
 tbls:=λb ps q=>⟨#[],by rw[aE (bK q hn),q];simp⟩
def Un.write(mu:ĵ (H x))(he:e=x\/H e=some (.own x))(k:∀b u,b≠e->h.get? b=some u->h'.get? b=some u)(heo:∃u,h'.get? e=some u):Un fs ex H (aV H x o) h h':=by
 have hx:∀b,H b=none->b≠x:=λb n z=>by subst z;rw[n]at mu;exact mu
 have hb:∀b,H b=none->b≠e:=λb n z=>by
  grind
 have hm:∀b u,H b=some u->¬ĵ (some u)->b≠x:=λb u q nm z=>by grind
 refine⟨λb u q n _ _=>k b u (hb b n) q,λb u q n _ _=>⟨u.slots,k b u (hb b n) q⟩,λb u q n _=>by rw[aE (hx b n)];exact n,λb u q _=>?_,
  λb xs q=>by rw[aE (hm b _ q λz=>z)];exact q,λb u xs q=>by rw[aE (hm b _ q λz=>z)];exact q,λb ps q=>⟨#[],by rw[aE (hm b _ q λz=>z),q];simp⟩⟩
 grind
end
def ń(h:Heap)(H:Hp):ZM:=(List.range h.objs.size).filter λa=>(H a).isSome
def AX(h:Heap)(H:Hp):Heap:=W.hideAll h (ń h H)
def QA(h:Heap)(H:Hp):(AX h H).objs.size=h.objs.size:=W.hideAll_size _ _
def TN{h:Heap}{H:Hp}{b:Addr}{o:Obj}(e:h.get? b=some o)(n:H b=none):(AX h H).get? b=some o:=
 W.hideAll_get _ e λhm=>by
  have q:(H b).isSome=true:=(Đ.mp hm).2;rw[n]at q;simp at q
def aAV(e:(AX h H).get? b=some o):h.get? b=some o/\H b=none:=by
 have e':h.get? b=some o:=W.of_hideAll (ń h H) e;refine⟨e',?_⟩;cases q:H b with
 |none=>rfl
 |some x=>
  have hm:b∈ń h H:=Đ.mpr ⟨List.mem_range.mpr (Heap.lt_size e'),by simp[q]⟩;have z:(AX h H).get? b=none:=W.hideAll_none (ń h H) hm;rw[z]at e;cases e
def aAW(g h:Heap)(L:Addr):ZB:=(List.range h.objs.size).filterMap λa=>if a=L\/(g.get? a).isSome=true then none else (h.get? a).map λo=>(a,o)
def rest(g h:Heap)(L d:Addr):ZB:=(aAW g h L).filter λp=>decide (p.1≠d)
structure Mod(K:ZC)(mg:ZD)(base:Heap):Prop where
 kin:K.In base
 glob:base.Ns mainGlobals mg
 blt:∃mb,base.Ns builtinsNs mb/\∀x:Str,x≠"__name__"->mb x=bootBuiltins x
 nolimit:base.NoLimit
structure Cx where
 prog:Program
 w:World
 K:ZC
 mg:ZD
 base:Heap
 A:Around
 N:ZG
 s₀:Shared
 H₀:Hp
 env:Env
 outer:List Env
 stack:List Env
 ex:ZM
 fn:Str->Bool
 calm:Bool
 pn:ZB
 xe:ZA
def wY(l:List Env):ZM:=l.filterMap (·.frame)
abbrev Cx.fs(X:Cx):ZM:=wY X.outer
def AU(sc:Scope)(x:Str):Prop:=sc.names.lookup x=some .local\/sc.names.lookup x=some .cell\/sc.names.lookup x=some .free
def TQ(sc:Scope)(x:Str):Prop:=sc.names.lookup x=some .local\/sc.names.lookup x=some .cell
def aN0(env:Env)(h:Heap)(m:ZD)(x:Str)(u:Value):Prop:=
 (env.kindOf x=some .local/\m x=some u)\/((env.kindOf x=some .cell\/env.kindOf x=some .free)/\∃c,env.cells.lookup x=some c/\h.IsCell c (some u))
structure Cx.Ok(X:Cx):Prop where
 mod:Mod X.K X.mg X.base
 kind:X.env.scope.kind=.function
 glob:X.env.globals=mainGlobals
 blt:X.env.builtins=builtinsNs
 above:X.s₀.heap.objs.size<=X.env.locals
 inj:∀x y c,X.env.cells.lookup x=some c->X.env.cells.lookup y=some c->x=y
 has:∀x,(X.env.kindOf x=some .cell\/X.env.kindOf x=some .free)->∃c,X.env.cells.lookup x=some c
 cab:∀x c,X.fn x=true->X.env.cells.lookup x=some c->X.s₀.heap.objs.size<=c
 hd:X.calm=true->X.A.handled=none
 frames:X.A.frames=some X.stack
 stk:X.stack=X.outer\/(X.stack=X.env::X.outer/\X.env.frame=some X.env.locals)
 exf:∀b∈X.ex,b≠X.env.locals/\∀x c,X.env.cells.lookup x=some c->c≠b
 bs:∀b o,X.base.get? b=some o->X.s₀.heap.get? b=some o/\X.H₀ b=none
 bsz:X.base.objs.size<=X.s₀.heap.objs.size
 noex:∀b o,X.base.get? b=some o->b∉X.ex
 exfs:∀b∈X.ex,b∉X.fs
 funs:X.s₀.heap.FunFrames X.base X.outer
 frf:∀b∈X.fs,X.H₀ b=none
structure Inv(X:Cx)(À:ZB)(σ:List (Option V))(H:Hp)(s:Shared):Prop where
 ok:X.Ok
 os:s.os=X.s₀.os
 bare:AllBare s.gens
 base:Un X.fs X.ex X.H₀ H X.s₀.heap s.heap
 loc:∃m,s.heap.Ns X.env.locals m/\∀(i:Nat)(x:Str)(v:V),X.N[i]?=some x->σ[i]?=some (some v)->AU X.env.scope x->∃u,bH v u/\aN0 X.env s.heap m x u
 cell:∀x c,X.env.cells.lookup x=some c->∃v,s.heap.IsCell c v
 free:H X.env.locals=none
 freeC:∀x c,X.env.cells.lookup x=some c->H c=none
 pin:∀p∈X.pn++À,s.heap.get? p.1=some p.2/\H p.1=none/\p.1≠X.env.locals/\p.1∉X.fs/\∀v,p.2.data≠.cell v
 hok:mZ X.prog X.w H s.heap
 len:σ.length=X.N.length
section
variable {X:Cx}
def Cx.Ok.nofr(ok:X.Ok)(e:X.base.get? b=some o):b∉X.fs:=λhb=>by
 have:=(ok.funs.mem hb).1;rw[e]at this;cases this
def Inv.bs(I:Inv X À σ H s):∀b o,X.base.get? b=some o->s.heap.get? b=some o/\H b=none:=λb o e=>
 ⟨I.base.keep b o (I.ok.bs b o e).1 (I.ok.bs b o e).2 (I.ok.nofr e) (I.ok.noex b o e),I.base.free b o (I.ok.bs b o e).1 (I.ok.bs b o e).2 (I.ok.noex b o e)⟩
def Inv.bk(I:Inv X À σ H s):∀b o,X.base.get? b=some o->s.heap.get? b=some o:=λb o e=>(I.bs b o e).1
def Inv.mod(I:Inv X À σ H s):Mod X.K X.mg X.base:=I.ok.mod
def Inv.kIn(I:Inv X À σ H s):X.K.In s.heap:=I.ok.mod.kin.keeps I.bk
theorem Inv.nolimit(I:Inv X À σ H s):s.heap.NoLimit:=I.ok.mod.nolimit.keeps I.bk
def Inv.lt(I:Inv X À σ H s):X.env.locals<s.heap.objs.size:=let ⟨_,hn,_⟩:=I.loc;hn.lt
def Inv.sz(I:Inv X À σ H s):X.s₀.heap.objs.size<=s.heap.objs.size:=Ü I.ok.above (É I.lt)
def Inv.nofs(I:Inv X À σ H s){a:Addr}(h:s.heap.objs.size<=a):a∉X.fs:=λhb=>by
 let⟨_,o,ho,_⟩:=I.ok.funs.mem hb;exact absurd (Ù (Heap.lt_size ho) (Ü I.sz h)) (ú _)
def Inv.cne(I:Inv X À σ H s):∀x c,X.env.cells.lookup x=some c->c≠X.env.locals:=λx c e z=>by
 let⟨v,o,ho,hd⟩:=I.cell x c e;let⟨m,⟨o',es,ep,ho',hd',_⟩,_⟩:=I.loc
 grind
def Inv.funs(I:Inv X À σ H s):s.heap.FunFrames X.base X.outer:=by
 have all:∀(l:List Env),(∀b∈wY l,b∈X.fs)->X.s₀.heap.FunFrames X.base l->s.heap.FunFrames X.base l:=by
  intro l
  induction l with
  |nil=>intro _ _;trivial
  |cons env r ih=>
   intro hs hl;let⟨hk,⟨L,o,hf,hn,ho,hd⟩,hr⟩:=hl;have hL:L∈X.fs:=hs L (by unfold wY;rw[List.filterMap_cons,hf];exact Ô)
   let⟨sl,e⟩:=I.base.slot L o ho (I.ok.frf L hL) hL λz=>I.ok.exfs L z hL;exact⟨hk,⟨L,_,hf,hn,e,hd⟩,ih (λb hb=>hs b (by unfold wY;rw[List.filterMap_cons,hf];exact Ó _ hb)) hr⟩
 exact all X.outer (λ_ hb=>hb) I.ok.funs
def Inv.stack(I:Inv X À σ H s):s.heap.FunFrames X.base X.stack:=by
 rcases I.ok.stk with e|⟨e,hf⟩
 .rw[e];exact I.funs
 .rw[e]
  let⟨m,hn,_⟩:=I.loc;refine .cons (by rw[I.ok.kind];decide) hf hn ?_ I.funs;exact Heap.get?_none_of_le (Ü I.ok.bsz I.ok.above)
def Inv.stkSub(I:Inv X À σ H s):∀b∈wY X.stack,b∈X.env.locals::X.fs:=λb hb=>by
 rcases I.ok.stk with e|⟨e,hf⟩
 .grind
 .rw[e]at hb
  unfold wY at hb;rw[List.filterMap_cons,hf]at hb;exact hb
def Inv.stkFree(I:Inv X À σ H s):∀b∈wY X.stack,H b=none:=λb hb=>by
 rcases Õ.mp (I.stkSub b hb)with e|hb
 .rw[e];exact I.free
 .obtain⟨_,o,ho,_⟩:=I.ok.funs.mem hb
  exact I.base.free b o ho (I.ok.frf b hb) λz=>I.ok.exfs b z hb
def Inv.step{ch:ZM}(I:Inv X À σ H s)(hch:∀b∈ch,(b∈X.ex\/X.s₀.heap.objs.size<=b)/\b≠X.env.locals/\(∀x c,X.env.cells.lookup x=some c->c≠b)/\∀p∈X.pn++À,p.1≠b)(keep:∀b o,b≠X.env.locals->b∉X.fs->b∉ch->s.heap.get? b=some o->H b=none->h'.get? b=some o)(slot:∀b o,b≠X.env.locals->b∈X.fs->b∉ch->s.heap.get? b=some o->H b=none->∃sl,h'.get? b=some {o with slots:=sl})(free:∀b o,b∉ch->s.heap.get? b=some o->H b=none->H' b=none)(there:∀b o,b∉ch->s.heap.get? b=some o->∃o',h'.get? b=some o')(tups:∀b xs,H b=some (.tup xs)->H' b=some (.tup xs))(frzs:∀b o u,H b=some (.frz o u)->H' b=some (.frz o u))(tbls:∀b ps,H b=some (.tbl ps)->∃more,H' b=some (.tbl (ps++more)))(ns:∀m,s.heap.Ns X.env.locals m->h'.Ns X.env.locals m)(hok:mZ X.prog X.w H' h')(hg:AllBare g'):
  Inv X À σ H' {s with heap:=h',gens:=g',drawn:=d',toks:=t'}:=by
 have neL:∀b o,X.s₀.heap.get? b=some o->b≠X.env.locals:=λb o e=>Ð (Ù (Heap.lt_size e) I.ok.above);have neC:∀b o,X.s₀.heap.get? b=some o->b∉X.ex->b∉ch:=λb o e hx hb=>by
  rcases(hch b hb).1 with z|z
  .exact hx z
  .exact absurd (Ù (Heap.lt_size e) z) (ú _)
 have cellK:∀x c,X.env.cells.lookup x=some c->∀v,s.heap.IsCell c v->h'.IsCell c v:=λx c e v⟨o,ho,hd⟩=>by
  have nch:c∉ch:=λz=>(hch c z).2.2.1 x c e rfl;by_cases hc:c∈X.fs
  .obtain⟨sl,q⟩:=slot c o (I.cne x c e) hc nch ho (I.freeC x c e)
   exact⟨_,q,hd⟩
  .exact⟨o,keep c o (I.cne x c e) hc nch ho (I.freeC x c e),hd⟩
 refine⟨I.ok,I.os,hg,⟨λb o e n hb hx=>?_,λb o e n hb hx=>?_,λb o e n hx=>?_,λb o e hx=>?_,λb xs e=>tups b xs (I.base.tups b xs e),λb o xs e=>frzs b o xs (I.base.frzs b o xs e),λb ps e=>?_⟩,?_,λx c e=>?_,?_,λx c e=>?_,λp hp=>?_,hok,I.len⟩
 .exact keep b o (neL b o e) hb (neC b o e hx) (I.base.keep b o e n hb hx) (I.base.free b o e n hx)
 .obtain⟨sl,e1⟩:=I.base.slot b o e n hb hx
  let⟨sl',e2⟩:=slot b _ (neL b o e) hb (neC b o e hx) e1 (I.base.free b o e n hx);exact⟨sl',e2⟩
 .obtain⟨o',e1⟩:=I.base.there b o e hx
  exact free b o' (neC b o e hx) e1 (I.base.free b o e n hx)
 .obtain⟨o',e1⟩:=I.base.there b o e hx
  exact there b o' (neC b o e hx) e1
 .obtain⟨m1,e1⟩:=I.base.tbls b ps e
  let⟨m2,e2⟩:=tbls b _ e1;exact⟨m1++m2,by rw[e2,Array.append_assoc]⟩
 .obtain⟨m,hn,hl⟩:=I.loc
  refine⟨m,ns m hn,λi x v e1 e2 e3=>?_⟩;let⟨u,r,l⟩:=hl i x v e1 e2 e3;refine⟨u,r,?_⟩;rcases l with l|⟨k,c,e,z⟩
  .exact .inl l
  .exact .inr ⟨k,c,e,cellK x c e _ z⟩
 .obtain⟨v,z⟩:=I.cell x c e
  exact⟨v,cellK x c e v z⟩
 .obtain⟨m,⟨o,_,_,ho,_⟩,_⟩:=I.loc
  exact free _ o (λz=>(hch _ z).2.1 rfl) ho I.free
 .obtain⟨v,o,ho,hd⟩:=I.cell x c e
  exact free c o (λz=>(hch c z).2.2.1 x c e rfl) ho (I.freeC x c e)
 .obtain⟨e,n,ne,nf,d⟩:=I.pin p hp
  have nch:p.1∉ch:=λz=>(hch p.1 z).2.2.2 p hp rfl;exact⟨keep p.1 p.2 ne nf nch e n,free p.1 p.2 nch e n,ne,nf,d⟩
def Inv.un(I:Inv X À σ H s)(u:Un X.fs [] H H' s.heap h')(hok:mZ X.prog X.w H' h'):Inv X À σ H' {s with heap:=h',toks:=t'}:=by
 let⟨m,⟨o,es,ep,ho,r⟩,_⟩:=id I.loc;let⟨sl,hL⟩:=u.any ho I.free 'e';exact I.step (g':=s.gens) (d':=s.drawn) (ch:=[]) (λ_ z=>nomatch z) (λb o _ hb _ e n=>u.keep b o e n hb 'e') (λb o _ hb _ e n=>u.slot b o e n hb 'e') (λb o _ e n=>u.free b o e n 'e') (λb o _ e=>u.there b o e 'e') u.tups u.frzs u.tbls (λm' hm=>by
  let⟨o',es',ep',ho',r'⟩:=hm;rw[ho]at ho';cases ho';exact⟨_,es',ep',hL,r'⟩) hok I.bare
def Inv.call(I:Inv X À σ H s)(u:Un (wY X.stack) ch H H' s.heap h')(hok:mZ X.prog X.w H' h')(hg:AllBare g')(hch:∀b∈ch,(b∈X.ex\/X.s₀.heap.objs.size<=b)/\b≠X.env.locals/\(∀x c,X.env.cells.lookup x=some c->c≠b)/\∀p∈X.pn++À,p.1≠b):
  Inv X À σ H' {s with heap:=h',gens:=g',drawn:=d',toks:=t'}:=by
 let⟨m,⟨o,es,ep,ho,r⟩,_⟩:=id I.loc;let⟨sl,hL⟩:=u.any ho I.free λz=>(hch _ z).2.1 rfl;exact I.step (ch:=ch) hch (λb o hL hb hc e n=>u.keep b o e n (λz=>(Õ.mp (I.stkSub b z)).elim hL hb) hc) (λb o _ _ hc e n=>u.any e n hc) (λb o hc e n=>u.free b o e n hc) (λb o hc e=>u.there b o e hc) u.tups u.frzs u.tbls (λm' hm=>by
  let⟨o',es',ep',ho',r'⟩:=hm;rw[ho]at ho';cases ho';exact⟨_,es',ep',hL,r'⟩) hok hg
def Inv.turned(I:Inv X À σ H s)(k:∀b o,b≠it->s.heap.get? b=some o->h'.get? b=some o)(hn:H it=none)(hL:it≠X.env.locals)(h1:it∈X.ex\/X.s₀.heap.objs.size<=it)(h2:∀x c,X.env.cells.lookup x=some c->c≠it)(h3:∀p∈X.pn++À,p.1≠it):Inv X À σ H {s with heap:=h',toks:=t'}:=by
 have nit:∀b u,H b=some u->b≠it:=λb u e z=>by rw[z,hn]at e;cases e
 refine I.step (g':=s.gens) (d':=s.drawn) (ch:=[it]) (λb hb=>?_) (λb o _ _ hc e _=>k b o (λz=>hc (by simp[z])) e) (λb o _ _ hc e _=>⟨o.slots,k b o (λz=>hc (by simp[z])) e⟩) (λ_ _ _ _ n=>n)
  (λb o hc e=>⟨o,k b o (λz=>hc (by simp[z])) e⟩) (λ_ _ e=>e) (λ_ _ _ e=>e) (λb ps e=>⟨#[],by rw[e];simp⟩) (λm hm=>?_) (λb u e=>?_) I.bare
 .have e:b=it:=by simpa using hb
  subst e;exact⟨h1,hL,h2,h3⟩
 .obtain⟨o,es,ep,ho,r⟩:=hm
  exact⟨o,es,ep,k _ o (Í hL) ho,r⟩
 .refine(I.hok b u e).stay (λc v hc q=>k c v ?_ q) (λ_ q=>q) λ_ _ q=>q
  rcases hc with z|z
  .rw[z];exact nit b u e
  .exact nit c _ z
def Inv.tok(I:Inv X À σ H s)(t:Nat):Inv X À σ H {s with toks:=t}:=I.un (h':=s.heap) (t':=t) Un.refl I.hok
def Inv.kept(I:Inv X À σ H s)(k:∀b u,s.heap.get? b=some u->h'.get? b=some u):Inv X À σ H {s with heap:=h',toks:=t'}:=I.un (Un.kept k) (I.hok.kept k)
def Inv.laid(I:Inv X À σ H s)(k:∀b u,s.heap.get? b=some u->h'.get? b=some u)(hp:s.heap.objs.size<=a)(new:eC X.prog X.w (aV H a o) h' a o):
  Inv X À σ (aV H a o) {s with heap:=h',toks:=t'}:=I.un (Un.laid k hp (I.hok.fresh hp)) (I.hok.laid k hp new)
def Inv.write(I:Inv X À σ H s)(mu:ĵ (H x))(he:e=x\/H e=some (.own x))(k:∀b u,b≠e->s.heap.get? b=some u->h'.get? b=some u)(heo:∃u,h'.get? e=some u)(new:eC X.prog X.w (aV H x o) h' x o):Inv X À σ (aV H x o) {s with heap:=h',toks:=t'}:=I.un (Un.write mu he k heo) (I.hok.write mu he k heo new)
def Inv.pins_of(I:Inv X À σ H s)(h:∀p∈pins',s.heap.get? p.1=some p.2/\H p.1=none/\p.1≠X.env.locals/\p.1∉X.fs/\∀v,p.2.data≠.cell v):Inv X pins' σ H s:=
 ⟨I.ok,I.os,I.bare,I.base,I.loc,I.cell,I.free,I.freeC,λp hp=>(ø.mp hp).elim (λz=>I.pin p (ģ _ z)) (h p),I.hok,I.len⟩
def GD{N:ZG}(hN:N.Nodup){i j:Nat}(a:N[i]?=some x)(b:N[j]?=some x):i=j:=by
 let⟨h1,e1⟩:=Î.mp a;let⟨h2,e2⟩:=Î.mp b;exact(List.getElem_inj hN).mp (e1.trans e2.symm)
def BM{M:Model}{A:Around}{E:ZA}{i:Nat}{x:Str}{v:V}{u:Value}{Q:Unit->Shared->Prop}(I:Inv X À σ H s)(hN:X.N.Nodup)(hi:X.N[i]?=some x)(hx:TQ X.env.scope x)(r:bH v u)(h:∀s',Inv X À (σ.set i (some v)) H s'->(∃a,Heap.SameBut a s.heap s'.heap/\(a=X.env.locals\/X.env.cells.lookup x=some a))->Q () s')(hf:X.fn x=true\/X.env.scope.names.lookup x=some .local:=by first|exact .inl rfl|exact .inr rfl|assumption):wpAny M A (storeName X.env x u) Q E s:=by
 let⟨m,hn,hl⟩:=id I.loc;have hcls:(X.env.scope.kind == .class || (X.env.scope.kind == .module && X.env.locals != X.env.globals))=false:=by rw[I.ok.kind];rfl
 have hiσ:i<σ.length:=by rw[I.len];exact(Î.mp hi).1
 have cne:=I.cne;have tracked:∀{a:Addr}{h':Heap},(∃o,s.heap.get? a=some o/\H a=none)->Heap.SameBut a s.heap h'->mZ X.prog X.w H h':=λ{a h'}ha hs b ob e=>by
  let⟨_,_,hfree⟩:=ha;refine(I.hok b ob e).stay (λc w' hc q=>(hs.2 c ?_).trans q) (λ_ q=>q) λ_ _ q=>q
  grind
 rcases hx with hk|hk
 .refine wpAny_storeName_local hk hn (λh' hn' hs=>?_) hcls
  let⟨oL,_,_,hoL,_⟩:=id hn;refine h _ ⟨I.ok,I.os,I.bare,⟨λb o e n hb hx=>?_,λb o e n hb hx=>?_,I.base.free,λb o e hx=>?_,I.base.tups,I.base.frzs,I.base.tbls⟩,⟨_,hn',λj y v' e1 e2 e3=>?_⟩,λy c e=>?_,I.free,I.freeC,λp hp=>?_,tracked ⟨oL,hoL,I.free⟩ hs,by simpa using I.len⟩ ⟨_,hs,.inl rfl⟩
  .exact(hs.2 b (Ð (Ù (Heap.lt_size e) I.ok.above))).trans (I.base.keep b o e n hb hx)
  .obtain⟨sl,e1⟩:=I.base.slot b o e n hb hx
   exact⟨sl,(hs.2 b (Ð (Ù (Heap.lt_size e) I.ok.above))).trans e1⟩
  .obtain⟨o',e1⟩:=I.base.there b o e hx
   exact⟨o',(hs.2 b (Ð (Ù (Heap.lt_size e) I.ok.above))).trans e1⟩
  .by_cases hj:j=i
   .subst hj
    rw[hi]at e1;cases e1;rw[ß hiσ]at e2;cases e2;exact⟨u,r,.inl ⟨hk,by simp⟩⟩
   .rw[Ú (Í hj)]at e2
    let⟨u',r',q⟩:=hl j y v' e1 e2 e3;refine⟨u',r',?_⟩;rcases q with ⟨k,e⟩|⟨k,c,e,z⟩
    .refine .inl ⟨k,?_⟩
     have:y≠x:=λe=>hj (GD hN e1 (e▸hi));simp[this,e]
    .exact .inr ⟨k,c,e,z.sameBut hs (cne y c e)⟩
  .obtain⟨w',z⟩:=I.cell y c e
   exact⟨w',z.sameBut hs (cne y c e)⟩
  .obtain⟨e,n,ne,nf,d⟩:=I.pin p hp
   exact⟨(hs.2 p.1 ne).trans e,n,ne,nf,d⟩
 .have hfn:X.fn x=true:=by
   rcases hf with z|z
   .exact z
   .rw[z]at hk;cases hk
  let⟨c,hc⟩:=I.ok.has x (.inl hk);let⟨w',z⟩:=I.cell x c hc;refine wpAny_storeName_cell I.ok.kind hk hc z (λh' hc' hs=>?_);let⟨oc,hoc,hocd⟩:=id z;refine h {s with heap:=h'} ⟨I.ok,I.os,I.bare,⟨λb o e n hb hx=>?_,λb o e n hb hx=>?_,I.base.free,λb o e hx=>?_,I.base.tups,I.base.frzs,I.base.tbls⟩,⟨m,hn.sameBut hs (Í (cne x c hc)),λj y v' e1 e2 e3=>?_⟩,λy c' e=>?_,I.free,I.freeC,λp hp=>?_,tracked ⟨oc,hoc,I.freeC x c hc⟩ hs,by simpa using I.len⟩ ⟨c,hs,.inr hc⟩
  .exact(hs.2 b (Ð (Ù (Heap.lt_size e) (I.ok.cab x c hfn hc)))).trans (I.base.keep b o e n hb hx)
  .obtain⟨sl,e1⟩:=I.base.slot b o e n hb hx
   exact⟨sl,(hs.2 b (Ð (Ù (Heap.lt_size e) (I.ok.cab x c hfn hc)))).trans e1⟩
  .obtain⟨o',e1⟩:=I.base.there b o e hx
   exact⟨o',(hs.2 b (Ð (Ù (Heap.lt_size e) (I.ok.cab x c hfn hc)))).trans e1⟩
  .by_cases hj:j=i
   .subst hj
    rw[hi]at e1;cases e1;rw[ß hiσ]at e2;cases e2;exact⟨u,r,.inr ⟨.inl hk,c,hc,hc'⟩⟩
   .rw[Ú (Í hj)]at e2
    let⟨u',r',q⟩:=hl j y v' e1 e2 e3;refine⟨u',r',?_⟩;rcases q with q|⟨k,c',e,z'⟩
    .exact .inl q
    .refine .inr ⟨k,c',e,z'.sameBut hs ?_⟩
     rintro rfl;exact hj (GD hN e1 (I.ok.inj _ _ _ e hc▸hi))
  .by_cases hcc:c'=c
   .grind
   .obtain⟨w2,z2⟩:=I.cell y c' e
    exact⟨w2,z2.sameBut hs hcc⟩
  .obtain⟨e,n,ne,nf,d⟩:=I.pin p hp
   refine⟨(hs.2 p.1 ?_).trans e,n,ne,nf,d⟩
   grind
def GE{M:Model}{A:Around}{E:ZA}{i:Nat}{x:Str}{v:V}{u:Value}{Q:Unit->Shared->Prop}(I:Inv X À σ H s)(hN:X.N.Nodup)(hi:X.N[i]?=some x)(hx:TQ X.env.scope x)(r:bH v u)(h:∀s',Inv X À (σ.set i (some v)) H s'->Q () s')(hf:X.fn x=true\/X.env.scope.names.lookup x=some .local:=by first|exact .inl rfl|exact .inr rfl|assumption):wpAny M A (storeName X.env x u) Q E s:=
 BM I hN hi hx r (λs' I' _=>h s' I') hf
def Inv.call'(I:Inv X À σ H s)(ho:s'.os=s.os)(u:Un (wY X.stack) ch H H' s.heap s'.heap)(hok:mZ X.prog X.w H' s'.heap)(hg:AllBare s'.gens)(hch:∀b∈ch,(b∈X.ex\/X.s₀.heap.objs.size<=b)/\b≠X.env.locals/\(∀x c,X.env.cells.lookup x=some c->c≠b)/\∀p∈X.pn++À,p.1≠b):Inv X À σ H' s':=by
 let⟨h',g',d',t',o'⟩:=s';have e:o'=s.os:=ho;subst e;exact I.call (g':=g') (t':=t') (d':=d') u hok hg hch
end
abbrev XK:=Value->Option Addr->Hp->Prop
abbrev St:=List (Option V)
abbrev VK:=V->Hp->Prop
abbrev TE:=St->Hp->VK->Prop
abbrev TT:=St->Hp->(Bool->Hp->Prop)->Prop
abbrev TA:=St->Hp->(List V->Hp->Prop)->Prop
structure AY where
 nx:St->Hp->Prop
 rt:VK
 bk:St->Hp->Prop:=λ_ _=>False
 ct:St->Hp->Prop:=λ_ _=>False
abbrev TS:=AY->St->Hp->Prop
def EP(X:Cx)(À:ZB)(σ:St)(Q:VK)(u:Value)(s':Shared):Prop:=∃v H',Inv X À σ H' s'/\bH v u/\Q v H'
def TP(X:Cx)(À:ZB)(σ:St)(Q:Bool->Hp->Prop)(b:Bool)(s':Shared):Prop:=∃H',Inv X À σ H' s'/\Q b H'
def AP(X:Cx)(À:ZB)(σ:St)(Q:List V->Hp->Prop)(us:ZJ)(s':Shared):Prop:=∃vs H',Inv X À σ H' s'/\bI vs us/\Q vs H'
def SP(X:Cx)(À:ZB)(D:AY)(f:Flow)(s':Shared):Prop:=
 match f with
 |.next=>∃σ' H',Inv X À σ' H' s'/\D.nx σ' H'
 |.brk=>∃σ' H',Inv X À σ' H' s'/\D.bk σ' H'
 |.cont=>∃σ' H',Inv X À σ' H' s'/\D.ct σ' H'
 |.ret u=>∃v σ' H',Inv X À σ' H' s'/\bH v u/\D.rt v H'
def PE(X:Cx)(e:Expr)(t:TE):Prop:=
 ∀(À:ZB)(s:Shared)(σ:St)(H:Hp)(Q:VK),Inv X À σ H s->t σ H Q->wpAny 'b' X.A (eval e X.env) (EP X À σ Q) X.xe s
def PT(X:Cx)(e:Expr)(t:TT):Prop:=
 ∀(À:ZB)(s:Shared)(σ:St)(H:Hp)(Q:Bool->Hp->Prop),Inv X À σ H s->t σ H Q->wpAny 'b' X.A (isTrue e X.env (eval e X.env)) (TP X À σ Q) X.xe s
def PW(X:Cx)(e:Expr)(t:TT):Prop:=
 ∀(whole:Sem Value)(À:ZB)(s:Shared)(σ:St)(H:Hp)(Q:Bool->Hp->Prop),Inv X À σ H s->t σ H Q->wpAny 'b' X.A (isTrue e X.env whole) (TP X À σ Q) X.xe s
def PW.pt(h:PW X e t):PT X e t:=h _
def PA(X:Cx)(es:List Expr)(t:TA):Prop:=
 ∀(pos:Pos)(À:ZB)(s:Shared)(σ:St)(H:Hp)(Q:List V->Hp->Prop),Inv X À σ H s->t σ H Q->wpAny 'b' X.A (spliced (backTo pos (starEach es X.env))) (AP X À σ Q) X.xe s
def PS(X:Cx)(st:Stmt)(t:TS):Prop:=
 ∀(À:ZB)(s:Shared)(σ:St)(H:Hp)(D:AY),Inv X À σ H s->t D σ H->wpAny 'b' X.A (exec st X.env) (SP X À D) X.xe s
def DB(X:Cx)(st:List Stmt)(t:TS):Prop:=
 ∀(À:ZB)(s:Shared)(σ:St)(H:Hp)(D:AY),Inv X À σ H s->t D σ H->wpAny 'b' X.A (execs st X.env) (SP X À D) X.xe s
def cA{Q Q':α->Shared->Prop}(h:wpAny M A t Q E s)(hQ:∀a s,Q a s->Q' a s):wpAny M A t Q' E s:=wpAny_mono h hQ λ_ _ x=>x
section
variable {X:Cx}
def aQ5(ha:PE X a ta)(hb:PE X b tb){R:V->V->Hp->Prop}(I:Inv X À σ H s)(h:ta σ H λx H1=>tb σ H1 λy H2=>R x y H2){f:Value->Value->Sem α}(hf:∀v u s2 x y H2,Inv X À σ H2 s2->bH x v->bH y u->R x y H2->wpAny 'b' X.A (f v u) Q X.xe s2):
  wpAny 'b' X.A (eval a X.env) (λv s₁=>wpAny 'b' X.A (eval b X.env) (λu s₂=>wpAny 'b' X.A (f v u) Q X.xe s₂) X.xe s₁) X.xe s:=by
 refine cA (ha À s σ H _ I h) λv s1 zQ=>?_;let⟨x,H1,I1,r1,q1⟩:=zQ;refine cA (hb À s1 σ H1 _ I1 q1) λu s2 zQ=>?_;let⟨y,H2,I2,r2,q2⟩:=zQ;exact hf v u s2 x y H2 I2 r1 r2 q2
def GF(i:Nat):TE:=λσ H Q=>∃v,σ[i]?=some (some v)/\Q v H
def tC(v:V):TE:=λ_ H Q=>Q v H
def dA{pos:Pos}(hN:X.N[i]?=some x)(hv:AU X.env.scope x)(hd:⇑(Zdb x))(hcd:⇑(Zcd x)):PE X (.Name x pos) (GF i):=by
 intro À s σ H Q I h;let⟨v,e,h⟩:=h;let⟨m,hn,hl⟩:=I.loc;let⟨u,r,l⟩:=hl i x v hN e hv;have fin:EP X À σ Q u s:=⟨v,H,I,r,h⟩;rcases l with ⟨hk,hm⟩|⟨hk,c,hc,hcell⟩
 .exact wpAny_Name (wpAny_loadName_local I.ok.kind hk hn hm fin) hd
 .rcases hk with hk|hk
  .exact wpAny_Name (wpAny_loadName_cell I.ok.kind hk hc hcell fin) hd
  .exact wpAny_Name (wpAny_loadName_free I.ok.kind hk hc hcell fin hcd) hd
def aGI:PE X (.Constant (.int i) j pos) (tC (.int i)):=λ_ _ _ H _ I h=>wpAny_Constant_int ⟨.int i,H,I.tok _,⟨_,rfl⟩,h⟩
def M1:PE X (.Constant (.bool b) j pos) (tC (.bl b)):=λ_ _ _ H _ I h=>Constant_bool ⟨.bl b,H,I,rfl,h⟩
def aGJ:PE X (.Constant .none j pos) (tC .non):=λ_ _ _ H _ I h=>Constant_none ⟨.non,H,I,rfl,h⟩
def DC:PE X (.Constant (.str x) j pos) (tC (.str x)):=λ_ _ _ H _ I h=>Calls.Constant_str ⟨.str x,H,I.tok _,⟨_,rfl⟩,h⟩
def Gl(X:Cx)(x:Str):Prop:=X.env.kindOf x=some .globalImplicit
def DD{E:ZA}{À:ZB}{s:Shared}{σ:St}{H:Hp}{x:Str}{u:Value}{pos:Pos}{Q:ZA}(I:Inv X À σ H s)(hg:Gl X x)(hm:X.mg x=some u)(h:Q u s)(hd:⇑(Zdb x)):wpAny 'b' X.A (eval (.Name x pos) X.env) Q E s:=
 Calls.Name_function_global I.ok.kind hg (Calls.loadGlobal_global (by rw[I.ok.glob];exact I.mod.glob.keeps I.bk) hm h) hd
def iE{E:ZA}{À:ZB}{s:Shared}{σ:St}{H:Hp}{x:Str}{u:Value}{pos:Pos}{Q:ZA}(I:Inv X À σ H s)(hg:Gl X x)(hm:X.mg x=none)(hv:bootBuiltins x=some u)(h:Q u s)(hn:⇑(x≠"__name__"))(hd:⇑(Zdb x)):wpAny 'b' X.A (eval (.Name x pos) X.env) Q E s:=by
 let⟨mb,h1,h2⟩:=I.mod.blt;exact Calls.Name_function_global I.ok.kind hg (Calls.loadGlobal_builtin (by rw[I.ok.glob];exact I.mod.glob.keeps I.bk) hm (by rw[I.ok.blt];exact h1.keeps I.bk) ((h2 x hn).trans hv) h) hd
def aAX(hg:Gl X x)(hm:X.mg x=some u)(r:bH v u)(hd:⇑(Zdb x)):PE X (.Name x pos) (tC v):=
 λ_ _ _ H _ I h=>DD I hg hm ⟨v,H,I,r,h⟩ hd
def aAY{pos:Pos}(hg:Gl X x)(hm:X.mg x=none)(hv:bootBuiltins x=some u)(r:bH v u)(hn:⇑(x≠"__name__"))(hd:⇑(Zdb x)):PE X (.Name x pos) (tC v):=
 λ_ _ _ H _ I h=>iE I hg hm hv ⟨v,H,I,r,h⟩ hn hd
variable {a b:Expr}{ta tb:TE}{pos:Pos}
def PC(X:Cx)(op:CmpOp)(a b:Expr)(t:TE):Prop:=
 ∀(À:ZB)(s:Shared)(σ:St)(H:Hp)(Q:VK),Inv X À σ H s->t σ H Q ->
  wpAny 'b' X.A (eval a X.env) (λv s₁=>wpAny 'b' X.A (eval b X.env) (λu s₂=>wpAny 'b' X.A (compareOp op v u) (EP X À σ Q) X.xe s₂) X.xe s₁) X.xe s
def GG(b:Expr)(h:op≠.In)(h2:op≠.NotIn):behindInMarks op b=false:=by
 have e1:(op == CmpOp.In)=false:=by cases op<;>first|rfl|exact absurd rfl h
 have e2:(op == CmpOp.NotIn)=false:=by cases op<;>first|rfl|exact absurd rfl h2
 cases b<;>simp[behindInMarks,e1,e2]
def tB(t:TE):TT:=λσ H Q=>t σ H λx H1=>∃c,x=.bl c/\Q c H1
def aGK(h:PC X op a b t)(h1:behindInMarks op b=false:=by first|exact GG _ ⋯ ⋯|rfl):PE X (.Compare a [op] [b] pos) t:=λÀ s σ H Q I hw=>wpAny_Compare1 (h À s σ H Q I hw) h1
def TR(h:PC X op a b t)(h1:behindInMarks op b=false:=by first|exact GG _ ⋯ ⋯|rfl):PT X (.Compare a [op] [b] pos) (tB t):=by
 intro À s σ H Q I hw;refine wpAny_isTrue_Compare1 (cA (h À s σ H _ I hw) λv s1 h1=>cA h1 λu s2 h2=>cA h2 λc s3 zQ=>?_) h1;let⟨x,H1,I1,r1,q1⟩:=zQ;let⟨d,rfl,q⟩:=q1;cases r1;exact wpAny_truthy_bool ⟨H1,I1,q⟩
def aGL(h:PE X e t)(he: ~~~(∀whole,isTrue e X.env whole=(do let v <- whole;standAt e.pos;holding [v] (truthy v)))):PT X e (tB t):=by
 intro À s σ H Q I hw;refine isTrue_plain (cA (h À s σ H _ I hw) λv s1 zQ=>?_) (he _);let⟨x,H1,I1,r1,q1⟩:=zQ;let⟨d,rfl,q⟩:=q1;cases r1;exact wpAny_truthy_bool ⟨H1,I1,q⟩
variable {tA tB':TT}{rest:List Expr}
def aN1(t u:TT):TT:=λσ H Q=>t σ H λc H1=>if c=true then u σ H1 Q else Q false H1
def aQA(t u:TT):TT:=λσ H Q=>t σ H λc H1=>if c=true then Q true H1 else u σ H1 Q
def aN2(t:TT):TT:=λσ H Q=>t σ H λc H1=>Q (!c) H1
def aAZ(ha:PT X a tA):PW X (.BoolOp .And [a] pos) tA:=by
 intro wh À s σ H Q I h;refine isTrue_and (cA (ha À s σ H Q I h) λc s1 e=>?_);cases c with
 |true=>exact isTrue_and_nil e
 |false=>exact e
def aGM(ha:PT X a tA):PW X (.BoolOp .Or [a] pos) tA:=by
 intro wh À s σ H Q I h;refine isTrue_or (cA (ha À s σ H Q I h) λc s1 e=>?_);cases c with
 |false=>exact isTrue_or_nil e
 |true=>exact e
def aGN(ha:PT X a tA)(hb:PW X (.BoolOp .And (b::rest) pos) tB'):PW X (.BoolOp .And (a::b::rest) pos) (aN1 tA tB'):=by
 intro wh À s σ H Q I h;refine isTrue_and (cA (ha À s σ H _ I h) λc s1 zQ=>?_);let⟨H1,I1,q1⟩:=zQ;cases c with
 |true=>exact hb wh À s1 σ H1 Q I1 q1
 |false=>exact⟨H1,I1,q1⟩
def aKJ(ha:PT X a tA)(hb:PW X (.BoolOp .Or (b::rest) pos) tB'):PW X (.BoolOp .Or (a::b::rest) pos) (aQA tA tB'):=by
 intro wh À s σ H Q I h;refine isTrue_or (cA (ha À s σ H _ I h) λc s1 zQ=>?_);let⟨H1,I1,q1⟩:=zQ;cases c with
 |true=>exact⟨H1,I1,q1⟩
 |false=>exact hb wh À s1 σ H1 Q I1 q1
def aGO(ha:PT X a tA):PT X (.UnaryOp .Not a pos) (aN2 tA):=by
 intro À s σ H Q I h;exact isTrue_not (ha À s σ H (λc H1=>Q (!c) H1) I h)
def aKK(ta tb:TE):TE:=λσ H Q=>ta σ H λx H1=>∃c,x=.bl c/\if c=true then tb σ H1 Q else Q (.bl false) H1
def aN3(ta tb:TE):TE:=λσ H Q=>ta σ H λx H1=>∃c,x=.bl c/\if c=true then Q (.bl true) H1 else tb σ H1 Q
def aKL(ta:TE):TE:=λσ H Q=>ta σ H λx H1=>∃c,x=.bl c/\Q (.bl (!c)) H1
def aGP(h:PE X a t):PE X (.BoolOp op [a] pos) t:=λÀ s σ H Q I hw=>BoolOp_one (h À s σ H Q I hw)
def aGQ(ha:PE X a ta)(hb:PE X (.BoolOp .And (b::rest) pos) tb):PE X (.BoolOp .And (a::b::rest) pos) (aKK ta tb):=by
 intro À s σ H Q I h;refine BoolOp_and (cA (ha À s σ H _ I h) λv s1 zQ=>?_);let⟨x,H1,I1,r1,q1⟩:=zQ;let⟨c,rfl,q1⟩:=q1;cases r1;refine wpAny_truthy_bool ?_;cases c with
 |true=>exact hb À s1 σ H1 Q I1 q1
 |false=>exact⟨.bl false,H1,I1,rfl,q1⟩
def aKM(ha:PE X a ta)(hb:PE X (.BoolOp .Or (b::rest) pos) tb):PE X (.BoolOp .Or (a::b::rest) pos) (aN3 ta tb):=by
 intro À s σ H Q I h;refine BoolOp_or (cA (ha À s σ H _ I h) λv s1 zQ=>?_);let⟨x,H1,I1,r1,q1⟩:=zQ;let⟨c,rfl,q1⟩:=q1;cases r1;refine wpAny_truthy_bool ?_;cases c with
 |false=>exact hb À s1 σ H1 Q I1 q1
 |true=>exact⟨.bl true,H1,I1,rfl,q1⟩
def aGR(ha:PE X a ta):PE X (.UnaryOp .Not a pos) (aKL ta):=by
 intro À s σ H Q I h;refine UnaryOp_ (cA (ha À s σ H _ I h) λv s1 zQ=>?_);let⟨x,H1,I1,r1,q1⟩:=zQ;let⟨c,rfl,q1⟩:=q1;cases r1;exact not_of (wpAny_truthy_bool ⟨.bl (!c),H1,I1,rfl,q1⟩)
def aQB(t:TT)(ta tb:TE):TE:=λσ H Q=>t σ H λc H1=>if c=true then ta σ H1 Q else tb σ H1 Q
def TU(hc:PT X c tA)(ha:PE X a ta)(hb:PE X b tb):PE X (.IfExp c a b pos) (aQB tA ta tb):=by
 intro À s σ H Q I h;refine wpAny_IfExp (cA (hc À s σ H _ I h) λd s1 zQ=>?_);let⟨H1,I1,q1⟩:=zQ;cases d with
 |true=>exact ha À s1 σ H1 Q I1 q1
 |false=>exact hb À s1 σ H1 Q I1 q1
end
def d8(K:ZC)(H:Hp)(a:Addr)(xs:List V):Prop:=
 Rd H a (.lst xs) \/
  ∃(o:Obj)(its:Array Value)(n:Nat),K.lookup a=some o/\o.cls=.type "list"/\o.dict=none/\o.data=.seq its n/\its.size<=sizeLine/\bI xs its.toList
def rX(K:ZC)(H:Hp)(a:Addr)(xs:List V):Prop:=
 Rd H a (.tup xs) \/
  ∃(o:Obj)(its:Array Value)(n:Nat),K.lookup a=some o/\o.cls=.type "tuple"/\o.data=.seq its n/\its.size<=sizeLine/\bI xs its.toList
def aN4:Value->Option V
 |.none=>some .non
 |.bool b=>some (.bl b)
 |.int i _=>some (.int i)
 |.str x _=>some (.str x)
 |.bytes b _=>some (.byt b)
 |.float b _=>some (.flt b)
 |.ref a=>some (.ref a)
 |.type n=>some (.ty n)
 |_=>none
def bH.abs(r:bH x u):aN4 u=some x:=by
 cases x with
 |non=>cases r;rfl
 |bl _=>cases r;rfl
 |int _=>let⟨t,rfl⟩:=r;rfl
 |str _=>let⟨t,rfl⟩:=r;rfl
 |byt _=>let⟨t,rfl⟩:=r;rfl
 |flt _=>let⟨t,rfl⟩:=r;rfl
 |ref _=>cases r;rfl
 |ty _=>cases r;rfl
def bH.inj(r:bH x u)(q:bH y u):x=y:=Option.some.inj (r.abs.symm.trans q.abs)
def bI.inj:∀{xs ys:List V}{us:ZJ},bI xs us->bI ys us->xs=ys
 |_,_,_,.nil,.nil=>rfl
 |_,_,_,.cons r t,.cons r' t'=>by rw[r.inj r',bI.inj t t']
section
variable {X:Cx}{À:ZB}{σ:St}{H:Hp}{s:Shared}{a:Addr}{xs ys:List V}
def d8.of{K:ZC}(h:H a=some (.lst xs)):d8 K H a xs:=.inl (.inl h)
def rX.of{K:ZC}(h:H a=some (.tup xs)):rX K H a xs:=.inl (.inl h)
def Inv.list(I:Inv X À σ H s)(h:d8 X.K H a xs):∃its:ZJ,bI xs its/\PlainL s.heap a its.toArray/\xs.length<=sizeLine:=by
 rcases h with h|⟨o,its,n,hk,hc,hd,hs,hz,r⟩
 .obtain⟨z,its,n,r,e⟩:=h.ok I.hok
  exact⟨its,r,⟨_,n,e,rfl,rfl,rfl⟩,z⟩
 .refine⟨its.toList,r,⟨o,n,I.kIn a o hk,hc,hd,by simpa using hs⟩,?_⟩
  have e:=r.length
  grind
def Inv.tuple(I:Inv X À σ H s)(h:rX X.K H a xs):∃its:ZJ,bI xs its/\IsTup s.heap a its.toArray/\xs.length<=sizeLine:=by
 rcases h with h|⟨o,its,n,hk,hc,hs,hz,r⟩
 .obtain⟨z,its,r,p⟩:=h.ok I.hok
  exact⟨its,r,p,z⟩
 .refine⟨its.toList,r,⟨o,I.kIn a o hk,hc,n,by simpa using hs⟩,?_⟩
  have e:=r.length
  grind
def Inv.list_inj(I:Inv X À σ H s)(h:d8 X.K H a xs)(h':d8 X.K H a ys):xs=ys:=by
 let⟨its,r,⟨o,n,e,_,_,d⟩,_⟩:=I.list h;let⟨its',r',⟨o',n',e',_,_,d'⟩,_⟩:=I.list h';rw[e]at e';cases e';rw[d]at d';injection d' with d1 _;have:its=its':=by simpa using congrArg Array.toList d1
 subst this;exact r.inj r'
def Inv.tuple_inj(I:Inv X À σ H s)(h:rX X.K H a xs)(h':rX X.K H a ys):xs=ys:=by
 let⟨its,r,⟨o,e,_,n,d⟩,_⟩:=I.tuple h;let⟨its',r',⟨o',e',_,n',d'⟩,_⟩:=I.tuple h';rw[e]at e';cases e';rw[d]at d';injection d' with d1 _;have:its=its':=by simpa using congrArg Array.toList d1
 subst this;exact r.inj r'
end
section
end
section
variable {X:Cx}{st:Stmt}{rest:List Stmt}{t u:TS}
def TV:TS:=λD σ H=>D.nx σ H
def QB(t u:TS):TS:=λD σ H=>t {D with nx:=u D} σ H
def DF:DB X [] TV:=λ_ _ σ H _ I h=>wpAny_execs_nil ⟨σ,H,I,h⟩
def kR(h1:PS X st t)(h2:DB X rest u):DB X (st::rest) (QB t u):=by
 intro À s σ H D I h;refine wpAny_execs_cons (cA (h1 À s σ H {D with nx:=u D} I h) λf s1 q=>?_);cases f with
 |next=>
  let⟨σ',H',I',q⟩:=q;exact h2 À s1 σ' H' D I' q
 |ret v=>exact q
 |brk=>exact q
 |cont=>exact q
def rZ(h1:PS X st t):DB X [st] t:=by
 intro À s σ H D I h;refine wpAny_execs_cons (cA (h1 À s σ H D I h) λf s1 q=>?_);cases f with
 |next=>exact wpAny_execs_nil q
 |ret v=>exact q
 |brk=>exact q
 |cont=>exact q
def Inv.quiet(I:Inv X À σ H s):interactive X.env=false:=by simp[interactive,I.ok.kind]
def γ(te:TE):TS:=λD σ H=>te σ H λ_ H1=>D.nx σ H1
def M3(he:PE X e te)(hs:↥(swapsWith e none pos.line X.env=pure false)):PS X (.Expr e pos) (γ te):=by
 intro À s σ H D I h;exact wpAny_Expr_any (cA (he À s σ H _ I h) λv s1 zQ=>by let⟨x,H1,I1,r1,q1⟩:=zQ;exact ⟨σ,H1,I1,q1⟩) I.quiet hs
def Ņ(te:TE):TS:=λD σ H=>te σ H D.rt
def DG(he:PE X e te):PS X (.Return (some e) pos) (Ņ te):=by
 intro À s σ H D I h;exact wpAny_Return_some (cA (he À s σ H _ I h) λv s1 zQ=>by let⟨x,H1,I1,r1,q1⟩:=zQ;exact ⟨x,σ,H1,I1,r1,q1⟩)
def ŭ(c:TT)(t u:TS):TS:=λD σ H=>c σ H λb H1=>if b=true then t D σ H1 else u D σ H1
def TW(hc:PT X c tc)(ha:DB X a t)(hb:DB X b u):PS X (.If c a b pos) (ŭ tc t u):=by
 intro À s σ H D I h;refine wpAny_If (cA (hc À s σ H _ I h) λd s1 zQ=>?_);let⟨H1,I1,q1⟩:=zQ;cases d with
 |true=>exact ha À s1 σ H1 D I1 q1
 |false=>exact hb À s1 σ H1 D I1 q1
def aGT:TS:=λ_ _ _=>False
def TX:PS X st aGT:=λ_ _ _ _ _ _ h=>h.elim
end
abbrev TG:=V->St->Hp->(St->Hp->Prop)->Prop
abbrev TY:=List V->St->Hp->(St->Hp->Prop)->Prop
def PG(X:Cx)(target:Expr)(t:TG):Prop:=
 ∀(À:ZB)(s:Shared)(σ:St)(H:Hp)(v:V)(u:Value)(Q:St->Hp->Prop),Inv X À σ H s->bH v u->t v σ H Q ->
  wpAny 'b' X.A (assign target X.env u) (λ_ s'=>∃σ' H',Inv X À σ' H' s'/\Q σ' H') X.xe s
def Ķ(X:Cx)(ts:List Expr)(t:TY):Prop:=
 ∀(À:ZB)(s:Shared)(σ:St)(H:Hp)(vs:List V)(us:ZJ)(Q:St->Hp->Prop),Inv X À σ H s->bI vs us->t vs σ H Q ->
  wpAny 'b' X.A (assignInOrder ((assignEach ts X.env).map (·.2)) us) (λ_ s'=>∃σ' H',Inv X À σ' H' s'/\Q σ' H') X.xe s
abbrev ε:=V->V->V->Hp->(Hp->Prop)->Prop
def ζ(X:Cx)(t:ε):Prop:=
 ∀(À:ZB)(s:Shared)(σ:St)(H:Hp)(o i v:V)(ov iv u:Value)(Q:Hp->Prop),Inv X À σ H s->bH o ov->bH i iv->bH v u->t o i v H Q ->
  wpAny 'b' X.A (setItem ov iv u) (λ_ s'=>∃H',Inv X À σ H' s'/\Q H') X.xe s
section
variable {X:Cx}{pos:Pos}
def kU(i:Nat):TG:=λv σ H Q=>Q (σ.set i (some v)) H
def cL(hN:X.N.Nodup)(hi:X.N[i]?=some x)(hx:TQ X.env.scope x)(hf:X.fn x=true\/X.env.scope.names.lookup x=some .local:=by first|exact .inl rfl|exact .inr rfl|assumption):PG X (.Name x pos) (kU i):=by
 intro À s σ H v u Q I r h;exact wpAny_assign_Name (GE I hN hi hx r (λs' I'=>⟨_,H,I',h⟩) hf)
def TZ:TY:=λvs σ H Q=>vs=[]/\Q σ H
def GH(t:TG)(u:TY):TY:=λvs σ H Q=>∃v r,vs=v::r/\t v σ H λσ' H'=>u r σ' H' Q
def oH:Ķ X [] TZ:=by
 intro À s σ H vs us Q I r h;let⟨e,h⟩:=h;subst e;cases r;exact assignInOrder_nil ⟨σ,H,I,h⟩
def dX(h1:PG X e t)(h2:Ķ X es u)(hs:↥((assignEach (e::es) X.env).map (·.2)=assign e X.env::(assignEach es X.env).map (·.2))):Ķ X (e::es) (GH t u):=by
 intro À s σ H vs us Q I r h;let⟨v,vr,e1,h⟩:=h;subst e1;cases r with
 |cons r rr=>
  rw[hs];refine assignInOrder_cons (cA (h1 À s σ H _ _ _ I r h) λ_ s1 zQ=>?_);let⟨σ1,H1,I1,q1⟩:=zQ;exact h2 À s1 σ1 H1 _ _ Q I1 rr q1
def Ů(K:ZC)(n:Nat)(t:TY):TG:=λv σ H Q=>∃a xs,v=.ref a/\rX K H a xs/\xs.length=n/\t xs σ H Q
def uH{k:Nat}(hc:X.calm=true)(h:Ķ X es t)(hn:↥((assignEach es X.env).length=n))(hst:↥((assignEach es X.env).findIdx? (·.1)=none)):PG X (.Tuple es k pos) (Ů X.K n t):=by
 intro À s σ H v u Q I r hw;let⟨a,xs,e1,hq,hl,hw⟩:=hw;subst e1;cases r;let⟨its,rv,ht,hz⟩:=I.tuple hq;refine assign_Tuple_tuple (I.ok.hd hc) ht (by simp[hn,<- hl,rv.length]) hst λh' hx=>?_;have I1:Inv X À σ H {s with heap:=h'}:=I.kept (t':=s.toks) λb o e=>hx b o (Ð (Heap.lt_size e)) e;exact h À _ σ H xs _ Q I1 (by simpa using rv) hw
def aN5(to ti:TE)(t:ε):TG:=λv σ H Q=>to σ H λo H1=>ti σ H1 λi H2=>t o i v H2 λH3=>Q σ H3
def T0(ho:PE X o to)(hi:PE X i ti)(hs:ζ X t)(ha: ~~~(∀v,assign (.Subscript o i pos) X.env v=(do
   let ov <- holding [v] (eval o X.env);let iv <- holding [v,ov] (eval i X.env)
   standAt pos
   holding [v,ov,iv] (setItem ov iv v)
   release [v,ov,iv] []))):PG X (.Subscript o i pos) (aN5 to ti t):=by
 intro À s σ H v u Q I r h;rw[ha];refine wpAny_bind (wpAny_holding (cA (ho À s σ H _ I h) λov s1 zQ=>?_));let⟨x,H1,I1,r1,q1⟩:=zQ;refine wpAny_bind (wpAny_holding (cA (hi À s1 σ H1 _ I1 q1) λiv s2 zQ=>?_));let⟨y,H2,I2,r2,q2⟩:=zQ;refine wpAny_bind (wpAny_standAt (wpAny_bind (wpAny_holding (cA (hs À s2 σ H2 x y v ov iv u _ I2 r1 r2 r q2) λ_ s3 zQ=>?_))));let⟨H3,I3,q3⟩:=zQ;exact wpAny_release ⟨σ,H3,I3,q3⟩
def QC(te:TE)(g:TG):TS:=λD σ H=>te σ H λx H1=>g x σ H1 D.nx
def T1(he:PE X e te)(hg:PG X tg g)(hs:↥(swapsWithSole [tg] e pos.line X.env=pure false))(hw:↥(swappedStores [tg] e X.env=pure none))(h1:↥((assignEach [tg] X.env).map (·.2)=[assign tg X.env])):PS X (.Assign [tg] e pos) (QC te g):=by
 intro À s σ H D I h;refine wpAny_Assign_stores (cA (he À s σ H _ I h) λv s1 zQ=>?_) hs hw;let⟨x,H1,I1,r1,q1⟩:=zQ;rw[h1];exact cA (hg À s1 σ H1 x v _ I1 r1 q1) λ_ s2 q=>q
def KK(hN:X.N.Nodup)(hi:X.N[i]?=some x)(hx:TQ X.env.scope x)(he:PE X e te)(hs:↥(swapsWith e (some (.Name x pos')) pos.line X.env=pure false))(hf:X.fn x=true\/X.env.scope.names.lookup x=some .local:=by first|exact .inl rfl|exact .inr rfl|assumption):
  PS X (.Assign [.Name x pos'] e pos) (QC te (kU i)):=by
 intro À s σ H D I h;refine wpAny_Assign_Name (cA (he À s σ H _ I h) λv s1 zQ=>?_) hs;let⟨y,H1,I1,r1,q1⟩:=zQ;exact GE I1 hN hi hx r1 (λs2 I2=>⟨_,H1,I2,q1⟩) hf
end
section
def aGW(c:TT)(tb:TS):TS:=λD σ H=>∃W:Nat->St->Hp->Prop,(∃m,W m σ H)/\∀m σ H,W m σ H ->
 c σ H λb H1=>if b=true then ∃N:St->Hp->Prop,(∀σ' H',N σ' H'->∃m',m'<m/\W m' σ' H')/\tb {D with nx:=N,ct:=N,bk:=D.nx} σ H1 else D.nx σ H1
def T2(hp:PassesOwn 'b' X.A X.env X.xe)(hc:PT X c tc)(hb:DB X body tb):PS X (.While c body [] pos) (aGW tc tb):=by
 intro À s σ H D I h;let⟨W,⟨m0,w0⟩,turn⟩:=h;refine wpAny_While (codeAny_whileLoop (λn s'=>∃σ' H',Inv X À σ' H' s'/\W n σ' H') ?_ m0 ⟨σ,H,I,w0⟩);rintro n s1 ⟨σ1,H1,I1,w1⟩;refine wpAny_passesOwn hp (cA (hc À s1 σ1 H1 _ I1 (turn n σ1 H1 w1)) λb s2 zQ=>?_);let⟨H2,I2,q2⟩:=zQ;cases b with
 |true=>
  let⟨N,hN,q2⟩:=q2;rw[Â rfl];refine wpAny_passesOwn hp (cA (hb À s2 σ1 H2 _ I2 q2) λf s3 q3=>?_);cases f with
  |next=>
   let⟨σ3,H3,I3,n3⟩:=q3;let⟨m',hm,w3⟩:=hN σ3 H3 n3;exact⟨m',hm,σ3,H3,I3,w3⟩
  |cont=>
   let⟨σ3,H3,I3,n3⟩:=q3;let⟨m',hm,w3⟩:=hN σ3 H3 n3;exact⟨m',hm,σ3,H3,I3,w3⟩
  |brk=>exact q3
  |ret v=>exact q3
 |false=>
  rw[Ã á];exact wpAny_execs_nil ⟨σ1,H2,I2,q2⟩
end
structure It where
 go:Nat->Hp->Prop
 yld:Nat->Hp->V->Hp->Prop
 stop:Nat->Hp->Prop
def wD(X:Cx)(À:ZB)(H:Hp)(b:Addr):Prop:=
 H b=none/\b≠X.env.locals/\b∉X.fs/\(b∈X.ex\/X.s₀.heap.objs.size<=b)/\(∀x c,X.env.cells.lookup x=some c->c≠b)/\∀p∈X.pn++À,p.1≠b
def Inv.fpOk{X:Cx}{À:ZB}{σ:St}{H H':Hp}{s:Shared}{b:Addr}(I:Inv X À σ H s)(hb:s.heap.objs.size<=b)(hn:H' b=none):wD X À H' b:=by
 refine⟨hn,Þ (Ù I.lt hb),I.nofs hb,.inr (Ü I.sz hb),λx c e z=>?_,λp hp z=>?_⟩
 .obtain⟨v,q⟩:=I.cell x c e
  exact absurd (Ù q.lt (by rw[z];exact hb)) (ú _)
 .exact absurd (Ù (Heap.lt_size (I.pin p hp).1) (by rw[z];exact hb)) (ú _)
structure GI(P:Program)(w:World)(K:ZC)(tg:Expr)(J:It)(fp:ZM)(it:Addr)(tn:Nat->Heap->Prop):Prop where
 mem:it∈fp
 obj:∀i h,tn i h->∀b∈fp,∃o,h.get? b=some o/\∀v,o.data≠.cell v
 keep:∀i h h',tn i h->(∀b∈fp,∀o,h.get? b=some o->h'.get? b=some o)->tn i h'
 item:∀(X:Cx),X.prog=P->X.w=w->X.K=K->X.calm=true->∀(i:Nat)(À:ZB)(s:Shared)(σ:St)(H:Hp)(E:ZA),Inv X À σ H s->(∀b∈fp,wD X À H b)->tn i s.heap->J.go i H ->
  wpAny (model P w) X.A (pyNext (.ref it)) (λr s1=>∃u,r=some u /\
   wpAny (model P w) X.A (letOwnedTupleGo tg (.ref it) u) (λ_ s2=>∃x H',Inv X À σ H' s2/\bH x u/\J.yld i H x H'/\tn (i+1) s2.heap/\∀b∈fp,H' b=none) E s1) E s
 done:∀(X:Cx),X.prog=P->X.w=w->X.K=K->X.calm=true->∀(i:Nat)(À:ZB)(s:Shared)(σ:St)(H:Hp)(E:ZA),Inv X À σ H s->(∀b∈fp,wD X À H b)->tn i s.heap->J.stop i H ->
  wpAny (model P w) X.A (pyNext (.ref it)) (λr s1=>r=none/\Inv X À σ H s1) E s
 self:∀(A:Around)(i:Nat)(s:Shared)(Q:ZA)(E:ZA),tn i s.heap->Q (.ref it) s->wpAny (model P w) A (pyIter (.ref it)) Q E s
abbrev TI:=St->Hp->(It->Hp->Prop)->Prop
def ů(X:Cx)(À:ZB)(σ:St)(tg:Expr)(R:It->Hp->Prop)(itv:Value)(s2:Shared):Prop:=
 ∃(it:Addr)(fp:ZM)(tn:Nat->Heap->Prop)(J:It)(H':Hp),itv=.ref it/\Inv X À σ H' s2/\GI X.prog X.w X.K tg J fp it tn/\tn 0 s2.heap/\(∀b∈fp,wD X À H' b)/\R J H'
def PI(X:Cx)(tg iter:Expr)(wi:TI):Prop:=
 ∀(À:ZB)(s:Shared)(σ:St)(H:Hp)(R:It->Hp->Prop),Inv X À σ H s->wi σ H R ->
  wpAny 'b' X.A (eval iter X.env) (λv s1=>wpAny 'b' X.A (pyIter v) (ů X À σ tg R) X.xe s1) X.xe s
def GJ{M:Model}{A:Around}{E:ZA}{s:Shared}{tg:Expr}{it:Addr}{u:Value}{o:Obj}{n:String}{vs:Array Value}{Q:Unit->Shared->Prop}(ho:s.heap.get? it=some o)(hc:o.cls=.type n)(hd:o.data=.fields vs)(hn:["enumerate","zip","dict_itemiterator","dict_reverseitemiterator","odict_iterator","itertools.zip_longest","itertools.pairwise"].contains n=false)(hQ:Q () s):wpAny M A (letOwnedTupleGo tg (.ref it) u) Q E s:=by
 unfold letOwnedTupleGo;cases tg<;>first
  |exact wpAny_pure hQ
  | (cases u<;>first
    |exact wpAny_pure hQ
    | (refine wpAny_bind (wpAny_load ho ?_)
       rw[hc,hd];show wpAny M A (if (["enumerate","zip","dict_itemiterator","dict_reverseitemiterator","odict_iterator","itertools.zip_longest","itertools.pairwise"].contains n && vs[0]? == some (rawInt _))=true then _ else _) Q E s;rw[Ã 'l'];exact wpAny_pure hQ))
def ī(K:ZC)(a:Addr):It:=
 ⟨λi H=>∃xs x,d8 K H a xs/\xs[i]?=some x,λi H x H'=>H'=H/\∀xs,d8 K H a xs->xs[i]?=some x,λi H=>∃xs,d8 K H a xs/\xs.length<=i⟩
def Ű(K:ZC)(a:Addr):It:=
 ⟨λi H=>∃xs x,rX K H a xs/\xs[i]?=some x,λi H x H'=>H'=H/\∀xs,rX K H a xs->xs[i]?=some x,λi H=>∃xs,rX K H a xs/\xs.length<=i⟩
def ķ(lo:Int)(n:Nat):It:=⟨λi _=>i<n,λi H x H'=>H'=H/\x=.int (lo+i),λi _=>n<=i⟩
def QD{P:Program}{w:World}{K:ZC}{tg:Expr}(a it:Addr):GI P w K tg (ī K a) [it] it (λi h=>h.IsListIter it a i) where
 mem:=by simp
 obj:=λi h st b hb=>by
  have e:b=it:=by simpa using hb
  subst e;let⟨o,e,c,d⟩:=st;exact⟨o,e,λv z=>by rw[d]at z;cases z⟩
 keep:=λi h h' st k=>st.at λo e=>k it 'e' o e
 item:=by
  sleep 2;let⟨xs,x,hq,hx⟩:=hg;let⟨its,rv,p,hz⟩:=I.list hq;let⟨u,hu,ru⟩:=rv.get hx;let⟨f0,f1,f2,f3,f4,f5⟩:=hf it 'e';refine wpAny_pyNext_list_item st p.isList (x:=u) (by simpa using hu) λh' st' sb=>?_;have I1:Inv X À σ H {s with heap:=h'}:=I.turned (t':=s.toks) (λb o hb e=>(sb.2 b hb).trans e) f0 f1 f3 f4 f5;let⟨o,e,c,d⟩:=id st';exact⟨u,rfl,GJ (s:={s with heap:=h'}) e c d ⋯ ⟨x,H,I1,ru,⟨rfl,λys hy=>by rw[I.list_inj hy hq];exact hx⟩,st',λb hb=>(hf b hb).1⟩⟩
 done:=by
  sleep 2;let⟨xs,hq,hx⟩:=hg;let⟨its,rv,p,hz⟩:=I.list hq;let⟨f0,f1,f2,f3,f4,f5⟩:=hf it 'e';have hl:=rv.length;exact wpAny_pyNext_list_end (I.ok.hd hc) st p.isList (by simp;lia) λh' eb=>⟨rfl,I.turned (t':=s.toks) (λb o hb e=>eb b o hb e) f0 f1 f3 f4 f5⟩
 self:=λ_ _ _ _ _ st h=>wpAny_pyIter_listiter st h
def KL{P:Program}{w:World}{K:ZC}{tg:Expr}(a it:Addr):GI P w K tg (Ű K a) [it] it (λi h=>h.IsTupleIter it a i) where
 mem:=by simp
 obj:=λi h st b hb=>by
  have e:b=it:=by simpa using hb
  subst e;let⟨o,e,c,d⟩:=st
  grind
 keep:=λi h h' st k=>st.at λo e=>k it 'e' o e
 item:=by
  sleep 2;let⟨xs,x,hq,hx⟩:=hg;let⟨its,rv,p,hz⟩:=I.tuple hq;let⟨u,hu,ru⟩:=rv.get hx;let⟨f0,f1,f2,f3,f4,f5⟩:=hf it 'e';refine wpAny_pyNext_tuple_item st (show s.heap.IsTuple a its.toArray from p) (x:=u) (by simpa using hu) λh' st' sb=>?_;have I1:Inv X À σ H {s with heap:=h'}:=I.turned (t':=s.toks) (λb o hb e=>(sb.2 b hb).trans e) f0 f1 f3 f4 f5;let⟨o,e,c,d⟩:=id st';exact⟨u,rfl,GJ (s:={s with heap:=h'}) e c d ⋯ ⟨x,H,I1,ru,⟨rfl,λys hy=>by rw[I.tuple_inj hy hq];exact hx⟩,st',λb hb=>(hf b hb).1⟩⟩
 done:=by
  sleep 2;let⟨xs,hq,hx⟩:=hg;let⟨its,rv,p,hz⟩:=I.tuple hq;let⟨f0,f1,f2,f3,f4,f5⟩:=hf it 'e';have hl:=rv.length;exact wpAny_pyNext_tuple_end (I.ok.hd hc) st (show s.heap.IsTuple a its.toArray from p) (by simp;lia) λh' eb=>⟨rfl,I.turned (t':=s.toks) (λb o hb e=>eb b o hb e) f0 f1 f3 f4 f5⟩
 self:=λ_ _ _ _ _ st h=>wpAny_pyIter_tupleiter st h
def KM{P:Program}{w:World}{K:ZC}{tg:Expr}(it:Addr)(lo:Int)(n:Nat):GI P w K tg (ķ lo n) [it] it (λi h=>IsRangeIter h it (lo+(i:Nat)*1) ((n:Int)-(i:Nat)) 1) where
 mem:=by simp
 obj:=λi h st b hb=>by
  grind
 keep:=λi h h' st k=>k it 'e' _ st
 item:=by
  sleep 2;let⟨f0,f1,f2,f3,f4,f5⟩:=hf it 'e';have W:=Walks.range (prog:=X.prog) (w:=X.w) (I.ok.hd hc) it lo 1 n;refine W.item i s _ _ hg st λv h' tk hv st' kk=>?_;let⟨t,rfl⟩:=hv;have I1:Inv X À σ H {s with heap:=h',toks:=tk}:=I.turned (λb o hb e=>kk b o (by simpa using hb) e) f0 f1 f3 f4 f5;refine⟨_,rfl,GJ (s:={s with heap:=h',toks:=tk}) (n:="range_iterator") st' rfl rfl ⋯ ⟨.int (lo+i),H,I1,⟨t,?_⟩,⟨rfl,rfl⟩,st',λb hb=>(hf b hb).1⟩⟩;rw[Int.mul_one]
 done:=by
  sleep 2;let⟨f0,f1,f2,f3,f4,f5⟩:=hf it 'e';exact wpAny_pyNext_range_end (I.ok.hd hc) st (by have:n<=i:=hg;lia) λh' eb=>⟨rfl,I.turned (t':=s.toks) (λb o hb e=>eb b o hb e) f0 f1 f3 f4 f5⟩
 self:=λ_ _ _ _ _ st h=>wpAny_pyIter_rangeiter st h
section
variable {X:Cx}{tg:Expr}
def GK{À:ZB}{σ:St}{H:Hp}{s:Shared}{R:It->Hp->Prop}{E:ZA}{lo hi:Int}{t u v:Tok}{tk:Nat}(I:Inv X À σ H s)(h1:-(2^62)<=lo)(h2:lo<2^62)(h3:-(2^62)<=hi)(h4:hi<2^62)(q:R (ķ lo (hi-lo).toNat) H):wpAny 'b' X.A (pyIter (.ref s.heap.objs.size)) (ů X À σ tg R) E {s with heap:=s.heap.push {cls:=.type "range",data:=.fields #[.int lo t,.int hi u,.int 1 v]},toks:=tk}:=by
 refine wpAny_pyIter_range (IsRange.new ..) (small_one h1 h2 h3 h4) ?_;have I1:Inv X À σ H {s with heap:=s.heap.push {cls:=.type "range",data:=.fields #[.int lo t,.int hi u,.int 1 v]},toks:=tk}:=I.kept λb o e=>Heap.get?_push_of_some _ e;refine⟨(s.heap.push {cls:=.type "range",data:=.fields #[.int lo t,.int hi u,.int 1 v]}).objs.size,[(s.heap.push {cls:=.type "range",data:=.fields #[.int lo t,.int hi u,.int 1 v]}).objs.size],_,_,H,rfl,
  I1.kept (t':=tk) λb o e=>Heap.get?_push_of_some _ e,KM _ lo (hi-lo).toNat,?_,λb hb=>?_,q⟩
 .have e1:lo+((0:Nat):Int)*1=lo:=by simp
  have e2:(((hi-lo).toNat:Nat):Int)-((0:Nat):Int)=Builtin.Range.rangeSize lo hi 1:=by rw[rangeSize_one];split<;>lia
  show IsRangeIter _ _ (lo+((0:Nat):Int)*1) ((((hi-lo).toNat:Nat):Int)-((0:Nat):Int)) 1;rw[e1,e2];exact Heap.get?_push_size _ rfl
 .have e:b=(s.heap.push {cls:=.type "range",data:=.fields #[.int lo t,.int hi u,.int 1 v]}).objs.size:=by simpa using hb
  subst e;exact I1.fpOk (È _) (I1.hok.fresh (È _))
def aKQ(ta:TA):TI:=λσ H R=>ta σ H λvs H1=>∃j:Int,vs=[.int j]/\-(2^62)<=j/\j<2^62/\R (ķ 0 j.toNat) H1
def aKR(ta:TA):TI:=λσ H R=>ta σ H λvs H1=>∃i j:Int,vs=[.int i,.int j]/\(-(2^62)<=i/\i<2^62/\-(2^62)<=j/\j<2^62)/\R (ķ i (j-i).toNat) H1
def QE(hg:Gl X "range")(hm:X.mg "range"=none)(ha:PA X [a] ta)(hs:↥(starEach [a] X.env=[(false,eval a X.env)])):PI X tg (.Call (.Name "range" p) [a] [] pos) (aKQ ta):=by
 intro À s σ H R I h;refine Call_ (iE I hg hm boot_range (PyProof.Rows.callWith_type1 (cA (ha pos À s σ H _ I h) λus s1 zQ=>?_) hs rfl));let⟨vs,H1,I1,r1,q1⟩:=zQ;let⟨j,e,q1,q2,q⟩:=q1;subst e;cases r1 with
 |cons r rr=>
  cases rr;let⟨t,rfl⟩:=r;exact call_range_1 (GK I1 ⋯ ⋯ q1 q2 (by simpa using q))
def QF{p pos:Pos}(hg:Gl X "range")(hm:X.mg "range"=none)(ha:PA X [a,b] ta)(hs:↥(starEach [a,b] X.env=[(false,eval a X.env),(false,eval b X.env)]))(hs2:↥(starEach [b] X.env=[(false,eval b X.env)])):
  PI X tg (.Call (.Name "range" p) [a,b] [] pos) (aKR ta):=by
 intro À s σ H R I h;refine Call_ (iE I hg hm boot_range (PyProof.Rows.callWith_type1 (cA (ha pos À s σ H _ I h) λus s1 zQ=>?_) (by rw[hs,hs2]) (by rw[hs2];rfl)));let⟨vs,H1,I1,r1,q1⟩:=zQ;let⟨i,j,e,⟨q1,q2,q3,q4⟩,q⟩:=q1;subst e;cases r1 with
 |cons r rr=>
  cases rr with
  |cons r' rr=>
   cases rr;let⟨t,rfl⟩:=r;let⟨t',rfl⟩:=r';exact call_range_2 (GK I1 q1 q2 q3 q4 q)
def η(wi:TI)(g:TG)(tb:TS):TS:=λD σ H=>wi σ H λJ H1=>∃W:Nat->Nat->St->Hp->Prop,(∃m,W 0 m σ H1)/\∀i m σ H,W i m σ H ->
 (J.stop i H/\D.nx σ H)\/(J.go i H/\∃N:St->Hp->Prop,(∀σ' H',N σ' H'->∃m',m'<m/\W (i+1) m' σ' H')/\∀x H',J.yld i H x H'->g x σ H' λσ2 H2=>tb {D with nx:=N,ct:=N,bk:=D.nx} σ2 H2)
def wZ(fp:ZM)(h:Heap):ZB:=fp.filterMap λb=>(h.get? b).map λo=>(b,o)
def qM(hb:b∈fp)(e:h.get? b=some o):(b,o)∈wZ fp h:=List.mem_filterMap.mpr ⟨b,hb,by rw[e];rfl⟩
def QG(hp:p∈wZ fp h):p.1∈fp/\h.get? p.1=some p.2:=by
 let⟨b,hb,e⟩:=List.mem_filterMap.mp hp;cases q:h.get? b with
 |none=>rw[q]at e;cases e
 |some o=>
  grind
def Inv.pinned(I:Inv X À σ H s)(hf:∀b∈fp,wD X À H b)(ho:∀b∈fp,∃o,s.heap.get? b=some o/\∀v,o.data≠.cell v):Inv X (À++wZ fp s.heap) σ H s:=
 I.pins_of λp hp=>(ø.mp hp).elim (λz=>I.pin p (Ý _ z)) λz=>by
  let⟨hb,e⟩:=QG z;let⟨f0,f1,f2,_⟩:=hf p.1 hb
  grind
def Inv.unpinned(I:Inv X (À++pl) σ H s):Inv X À σ H s:=I.pins_of λp hp=>I.pin p (Ý _ (ģ _ hp))
def T3(hp:PassesOwn 'b' X.A X.env X.xe)(hc:X.calm=true)(hi:PI X tg iter wi)(hg:PG X tg g)(hb:DB X body tb)(hs: ~~~(Zfi iter X.env)):PS X (.For tg iter body [] pos) (η wi g tb):=by
 intro À s σ H D I h;refine wpAny_For (cA (hi À s σ H _ I h) λv s1 h1=>cA h1 λitv s2 h2=>?_) hs;let⟨it,fp,tn,J,H2,e,I2,T,st2,f2,W,⟨m0,w0⟩,turn⟩:=h2;subst e
 -- what stays true of the iterator's objects through the loop
 have stat:∀{H':Hp},(∀b∈fp,H' b=none)->∀b∈fp,wD X À H' b:=λhn b hb=>⟨hn b hb,(f2 b hb).2⟩;refine codeAny_forLoop_any (λn s'=>∃i σ' H',Inv X À σ' H' s'/\tn i s'.heap/\(∀b∈fp,H' b=none)/\W i n σ' H') ?_ m0 ⟨0,σ,H2,I2,st2,λb hb=>(f2 b hb).1,w0⟩;rintro n s3 ⟨i,σ3,H3,I3,st3,fr3,w3⟩;rcases turn i n σ3 H3 w3 with ⟨stop,qn⟩|⟨go,N,hN,step⟩
 .refine wpAny_passesOwn hp (cA (T.done X rfl rfl rfl hc i À s3 σ3 H3 X.xe I3 (stat fr3) st3 stop) λr s4 zQ=>?_);let⟨hr,I4⟩:=zQ
  subst hr;exact wpAny_execs_nil ⟨σ3,H3,I4,qn⟩
 .refine wpAny_passesOwn hp (cA (T.item X rfl rfl rfl hc i À s3 σ3 H3 X.xe I3 (stat fr3) st3 go) λr s4 zQ=>?_);let⟨u,hr,h4⟩:=zQ
  subst hr;refine wpAny_passesOwn hp (cA h4 λ_ s5 zQ=>?_);let⟨x,H5,I5,r5,y5,st5,fr5⟩:=zQ;have I5':=I5.pinned (stat fr5) (T.obj _ _ st5);refine wpAny_passesOwn hp (cA (hg _ s5 σ3 H5 x u _ I5' r5 (step x H5 y5)) λ_ s6 zQ=>?_);let⟨σ6,H6,I6,q6⟩:=zQ;refine wpAny_passesOwn hp (cA (hb _ s6 σ6 H6 _ I6 q6) λf s7 q7=>?_);have again:∀{σ7:St}{H7:Hp},Inv X (À++wZ fp s5.heap) σ7 H7 s7->N σ7 H7->∃m,m<n/\∃i σ' H',Inv X À σ' H' s7/\tn i s7.heap/\(∀b∈fp,H' b=none)/\W i m σ' H':=λ{σ7 H7}I7 n7=>by
   let⟨m',hm,w7⟩:=hN σ7 H7 n7;refine⟨m',hm,i+1,σ7,H7,I7.unpinned,T.keep _ _ _ st5 λb hb o e=>(I7.pin (b,o) (Ý _ (Ý _ (qM hb e)))).1,λb hb=>?_,w7⟩;let⟨o,e,d⟩:=T.obj _ _ st5 b hb;exact(I7.pin (b,o) (Ý _ (Ý _ (qM hb e)))).2.1
  cases f with
  |next=>let⟨σ7,H7,I7,n7⟩:=q7;exact again I7 n7
  |cont=>let⟨σ7,H7,I7,n7⟩:=q7;exact again I7 n7
  |brk=>let⟨σ7,H7,I7,q7⟩:=q7;exact⟨σ7,H7,I7.unpinned,q7⟩
  |ret v=>let⟨x7,σ7,H7,I7,r7,q7⟩:=q7;exact⟨x7,σ7,H7,I7.unpinned,r7,q7⟩
end
def T5{K:ZC}{a:Addr}{xs:List V}{g:TG}{tb:TS}{D:AY}{σ:St}{H:Hp}(Pv:Nat->St->Hp->Prop)(h0:Pv 0 σ H)(hl:∀i σ H,i<=xs.length->Pv i σ H->d8 K H a xs)(hs:∀i x σ H,xs[i]?=some x->Pv i σ H->g x σ H λσ2 H2=>tb {D with nx:=Pv (i+1),ct:=Pv (i+1),bk:=D.nx} σ2 H2)(hd:∀σ H,Pv xs.length σ H->D.nx σ H):
  ∃W:Nat->Nat->St->Hp->Prop,(∃m,W 0 m σ H)/\∀i m σ H,W i m σ H ->
   ((ī K a).stop i H/\D.nx σ H)\/((ī K a).go i H/\∃N:St->Hp->Prop,(∀σ' H',N σ' H'->∃m',m'<m/\W (i+1) m' σ' H')/\∀x H',(ī K a).yld i H x H'->g x σ H' λσ2 H2=>tb {D with nx:=N,ct:=N,bk:=D.nx} σ2 H2):=by
 refine⟨λi m σ H=>m=xs.length-i/\i<=xs.length/\Pv i σ H,⟨xs.length,by simp,î _,h0⟩,?_⟩;rintro i m σ H ⟨rfl,hi,p⟩;have q:=hl i σ H hi p;by_cases hlt:i<xs.length
 .refine .inr ⟨⟨xs,xs[i],q,by simp[hlt]⟩,Pv (i+1),λσ' H' p'=>⟨xs.length-(i+1),∅,rfl,hlt,p'⟩,λx H' y=>?_⟩
  let⟨e,y⟩:=y
  grind
 .have e:i=xs.length:=by lia
  subst e;exact .inl ⟨⟨xs,q,È _⟩,hd σ H p⟩
abbrev R2:=V->V->Hp->VK->Prop
def kC(X:Cx)(f:Value->Value->Sem Value)(r:R2):Prop:=
 ∀(À:ZB)(s:Shared)(σ:St)(H:Hp)(x y:V)(v u:Value)(Q:VK),Inv X À σ H s->bH x v->bH y u->r x y H Q ->
  wpAny 'b' X.A (f v u) (EP X À σ Q) X.xe s
def ű(X:Cx)(f:Value->Sem Value)(r:V->Hp->VK->Prop):Prop:=
 ∀(À:ZB)(s:Shared)(σ:St)(H:Hp)(x:V)(v:Value)(Q:VK),Inv X À σ H s->bH x v->r x H Q ->
  wpAny 'b' X.A (f v) (EP X À σ Q) X.xe s
def gZ(X:Cx)(f:Value)(r:List V->Hp->VK->Prop):Prop:=
 ∀(À:ZB)(s:Shared)(σ:St)(H:Hp)(xs:List V)(us:ZJ)(Q:VK),Inv X À σ H s->bI xs us->r xs H Q ->
  wpAny 'b' X.A (call f us) (EP X À σ Q) X.xe s
def aN9(X:Cx)(r:V->Hp->(Bool->Hp->Prop)->Prop):Prop:=
 ∀(À:ZB)(s:Shared)(σ:St)(H:Hp)(x:V)(v:Value)(Q:Bool->Hp->Prop),Inv X À σ H s->bH x v->r x H Q ->
  wpAny 'b' X.A (truthy v) (TP X À σ Q) X.xe s
def ĸ(r:R2)(ta tb:TE):TE:=λσ H Q=>ta σ H λx H1=>tb σ H1 λy H2=>r x y H2 Q
def aQC(r:V->Hp->VK->Prop)(ta:TE):TE:=λσ H Q=>ta σ H λx H1=>r x H1 Q
def rI(C:Int->Int->Prop)(g:Int->Int->V):R2:=λx y H Q=>∃i j,x=.int i/\y=.int j/\C i j/\Q (g i j) H
def T6(g:Int->Int->V):R2:=λx y H Q=>∃i j,x=.int i/\y=.int j/\Q (g i j) H
def rU(g:Int->V):V->Hp->VK->Prop:=λx H Q=>∃i,x=.int i/\Q (g i) H
section
def Ų(ha:PE X a ta)(hb:PE X b tb){R:V->V->Hp->Prop}(I:Inv X À σ H s)(h:ta σ H λx H1=>tb σ H1 λy H2=>R x y H2){f:Value->Value->Sem Value}(hf:∀v u s2 x y H2,Inv X À σ H2 s2->bH x v->bH y u->R x y H2->wpAny 'b' X.A (f v u) Q X.xe s2):
  wpAny 'b' X.A (eval a X.env) (λv s₁=>wpAny 'b' X.A (eval b X.env) (λu s₂=>wpAny 'b' X.A (f v u) Q X.xe s₂) X.xe s₁) X.xe s:=by
 refine cA (ha À s σ H _ I h) λv s1 zQ=>?_;let⟨x,H1,I1,r1,q1⟩:=zQ;refine cA (hb À s1 σ H1 _ I1 q1) λu s2 zQ=>?_;let⟨y,H2,I2,r2,q2⟩:=zQ;exact hf v u s2 x y H2 I2 r1 r2 q2
def aKU(ho:kC X (binaryOp op) r)(ha:PE X a ta)(hb:PE X b tb):PE X (.BinOp a op b pos) (ĸ r ta tb):=by
 intro À s σ H Q I h;exact wpAny_BinOp (Ų ha hb I h λv u s2 x y H2 I2 rx ry q=>ho À s2 σ H2 x y v u Q I2 rx ry q)
def aKV(ho:ű X (unaryOp op) r)(ha:PE X a ta):PE X (.UnaryOp op a pos) (aQC r ta):=by
 intro À s σ H Q I h;exact UnaryOp_ (cA (ha À s σ H _ I h) λv s1 zQ=>by let⟨x,H1,I1,r1,q1⟩:=zQ;exact ho À s1 σ H1 x v Q I1 r1 q1)
def ņ{f:Value->Value->Sem Value}{C:Int->Int->Prop}{g:Int->Int->Int}(rule:∀(i j:Int)(t u:Tok)(s:Shared)(Q:ZA)(E:ZA),C i j->Q (.int (g i j) s.toks) {s with toks:=s.toks+1}->wpAny 'b' X.A (f (.int i t) (.int j u)) Q E s):
  kC X f (rI C λi j=>.int (g i j)):=by
 intro À s σ H x y v u Q I rx ry h;let⟨i,j,rfl,rfl,hc,q⟩:=h;let⟨t,rfl⟩:=rx;let⟨t',rfl⟩:=ry;exact rule i j t t' s _ _ hc ⟨.int (g i j),H,I.tok _,⟨_,rfl⟩,q⟩
def θ{f:Value->Value->Sem Value}{g:Int->Int->Int}(rule:∀(i j:Int)(t u:Tok)(s:Shared)(Q:ZA)(E:ZA),Q (.int (g i j) s.toks) {s with toks:=s.toks+1}->wpAny 'b' X.A (f (.int i t) (.int j u)) Q E s):
  kC X f (T6 λi j=>.int (g i j)):=by
 intro À s σ H x y v u Q I rx ry h;let⟨i,j,rfl,rfl,q⟩:=h;let⟨t,rfl⟩:=rx;let⟨t',rfl⟩:=ry;exact rule i j t t' s _ _ ⟨.int (g i j),H,I.tok _,⟨_,rfl⟩,q⟩
def ų{f:Value->Value->Sem Value}{g:Int->Int->Bool}(rule:∀(i j:Int)(t u:Tok)(s:Shared)(Q:ZA)(E:ZA),Q (.bool (g i j)) s->wpAny 'b' X.A (f (.int i t) (.int j u)) Q E s):
  kC X f (T6 λi j=>.bl (g i j)):=by
 intro À s σ H x y v u Q I rx ry h;let⟨i,j,rfl,rfl,q⟩:=h;let⟨t,rfl⟩:=rx;let⟨t',rfl⟩:=ry;exact rule i j t t' s _ _ ⟨.bl (g i j),H,I,rfl,q⟩
def Ň(i j:Int):Prop:=0<=j/\j<=1000000/\i.natAbs<2^64
def aGZ:kC X (binaryOp .Add) (T6 λi j=>.int (i+j)):=θ λ_ _ _ _ _ _ _ q=>add_int q
def aG0:kC X (binaryOp .Sub) (T6 λi j=>.int (i-j)):=θ λ_ _ _ _ _ _ _ q=>sub_int q
def aA2:kC X (binaryOp .Mod) (rI (λ_ j=>j≠0) λi j=>.int (i.fmod j)):=ņ λ_ _ _ _ _ _ _ hc q=>mod_int' hc q
def aG1:kC X (binaryOp .Pow) (rI Ň λi j=>.int (i^j.toNat)):=ņ λ_ _ _ _ _ _ _ hc q=>pow_int_small hc.1 hc.2.1 hc.2.2 q
def aQD{f:Value->Sem Value}{g:Int->Int}(rule:∀(i:Int)(t:Tok)(s:Shared)(Q:ZA)(E:ZA),Q (.int (g i) s.toks) {s with toks:=s.toks+1}->wpAny 'b' X.A (f (.int i t)) Q E s):
  ű X f (rU λi=>.int (g i)):=by
 intro À s σ H x v Q I rx h;let⟨i,rfl,q⟩:=h;let⟨t,rfl⟩:=rx;exact rule i t s _ _ ⟨.int (g i),H,I.tok _,⟨_,rfl⟩,q⟩
def aG2:ű X (unaryOp .USub) (rU λi=>.int (-i)):=aQD λ_ _ _ _ _ q=>neg_int q
end
section
def m5{À:ZB}{σ:St}{H:Hp}{s:Shared}{Q:VK}{k k':Bool}(I:Inv X À σ H s)(q:Q (.bl k) H)(e:k=k'):EP X À σ Q (.bool k') s:=by
 subst e;exact⟨.bl k,H,I,rfl,q⟩
def pU:kC X (compareOp .Lt) (T6 λi j=>.bl (decide (i<j))):=ų λ_ _ _ _ _ _ _ q=>lt_int q
def T7:kC X (compareOp .LtE) (T6 λi j=>.bl (decide (i<=j))):=ų λ_ _ _ _ _ _ _ q=>le_int q
def BN:kC X (compareOp .Gt) (T6 λi j=>.bl (decide (j<i))):=ų λ_ _ _ _ _ _ _ q=>gt_int q
def T8:kC X (compareOp .Is) (λx y H Q=>y=.non/\Q (.bl (decide (x=.non))) H):=by
 intro À s σ H x y v u Q I rx ry h;let⟨rfl,q⟩:=h;cases ry;refine is_none_gen (m5 I q ?_);cases x<;>first
  |(cases rx;rfl)
  |(let⟨t,rfl⟩:=rx;rfl)
def aA3:kC X (compareOp .IsNot) (λx y H Q=>y=.non/\Q (.bl (!decide (x=.non))) H):=by
 intro À s σ H x y v u Q I rx ry h;let⟨rfl,q⟩:=h;cases ry;refine isnot_none_gen (m5 I q ?_);cases x<;>first
  |(cases rx;rfl)
  |(let⟨t,rfl⟩:=rx;rfl)
def kC.or(h:kC X f r)(h':kC X f r'):kC X f (λx y H Q=>r x y H Q\/r' x y H Q):=by
 intro À s σ H x y v u Q I rx ry q;rcases q with q|q
 .exact h À s σ H x y v u Q I rx ry q
 .exact h' À s σ H x y v u Q I rx ry q
def bC(b:Expr)(h:⇑(op≠.In))(h2:⇑(op≠.NotIn)):behindInMarks op b=false:=by
 have e1:(op == CmpOp.In)=false:=by cases op<;>first|rfl|exact absurd rfl h
 have e2:(op == CmpOp.NotIn)=false:=by cases op<;>first|rfl|exact absurd rfl h2
 cases b<;>simp[behindInMarks,e1,e2]
def aA4(ho:kC X (compareOp op) r)(ha:PE X a ta)(hb:PE X b tb)(hm:behindInMarks op b=false):PE X (.Compare a [op] [b] pos) (ĸ r ta tb):=by
 intro À s σ H Q I h;exact wpAny_Compare1 (Ų ha hb I h λv u s2 x y H2 I2 rx ry q=>ho À s2 σ H2 x y v u Q I2 rx ry q) hm
def ι(t:TE):TT:=λσ H Q=>t σ H λx H'=>∃k,x=.bl k/\Q k H'
def aA5(ho:kC X (compareOp op) r)(ha:PE X a ta)(hb:PE X b tb)(hm:behindInMarks op b=false):PT X (.Compare a [op] [b] pos) (ι (ĸ r ta tb)):=by
 intro À s σ H Q I h;refine wpAny_isTrue_Compare1 (cA (ha À s σ H _ I h) λv s1⟨x,H1,I1,r1,q1⟩=>cA (hb À s1 σ H1 _ I1 q1) λu s2⟨y,H2,I2,r2,q2⟩=>
  cA (ho À s2 σ H2 x y v u _ I2 r1 r2 q2) λc s3⟨z,H3,I3,r3,k,e,q3⟩=>?_) hm
 subst e;cases r3;exact wpAny_truthy_bool ⟨H3,I3,q3⟩
def KN(r r':R2)(ta tb tc:TE):TE:=λσ H Q=>ta σ H λx H1=>tb σ H1 λy H2=>r x y H2 λz H3=>∃k,z=.bl k /\
 (if k=true then tc σ H3 λw' H4=>r' y w' H4 Q else Q (.bl false) H3)
def T9(ho:kC X (compareOp op) r)(ho':kC X (compareOp op') r')(ha:PE X a ta)(hb:PE X b tb)(hc:PE X c tc)(hm:lastMarks [op,op'] [b,c]=false:=by with_unfolding_all rfl):PE X (.Compare a [op,op'] [b,c] pos) (KN r r' ta tb tc):=by
 intro À s σ H Q I h;refine Compare_chain (cA (ha À s σ H _ I h) λv s1⟨x,H1,I1,r1,q1⟩=>chain_link (cA (hb À s1 σ H1 _ I1 q1) λu s2⟨y,H2,I2,r2,q2⟩=>
  cA (ho À s2 σ H2 x y v u _ I2 r1 r2 q2) λd s3⟨z,H3,I3,r3,k,e,q3⟩=>?_)) hm
 subst e;cases r3;refine wpAny_truthy_bool ?_;cases k with
 |false=>exact ite_ff ⟨.bl false,H3,I3,rfl,q3⟩
 |true=>exact ite_tt (chain_last (cA (hc À s3 σ H3 _ I3 q3) λw' s4 zQ=>by let⟨z',H4,I4,r4,q4⟩:=zQ;exact ho' À s4 σ H4 y z' u w' Q I4 r2 r4 q4))
def UA(ho:kC X (compareOp op) r)(ho':kC X (compareOp op') r')(ha:PE X a ta)(hb:PE X b tb)(hc:PE X c tc)(hm:lastMarks [op,op'] [b,c]=false:=by with_unfolding_all rfl):PT X (.Compare a [op,op'] [b,c] pos) (ι (KN r r' ta tb tc)):=by
 intro À s σ H Q I h;refine isTrue_chain (cA (ha À s σ H _ I h) λv s1⟨x,H1,I1,r1,q1⟩=>test_link (cA (hb À s1 σ H1 _ I1 q1) λu s2⟨y,H2,I2,r2,q2⟩=>
  cA (ho À s2 σ H2 x y v u _ I2 r1 r2 q2) λd s3⟨z,H3,I3,r3,k,e,q3⟩=>?_)) hm
 subst e;cases r3;refine wpAny_truthy_bool ?_;cases k with
 |false=>
  let⟨k',e',q'⟩:=q3;cases e';exact ite_ff ⟨H3,I3,q'⟩
 |true=>
  refine ite_tt (test_last (cA (hc À s3 σ H3 _ I3 q3) λw' s4⟨z',H4,I4,r4,q4⟩=>cA (ho' À s4 σ H4 y z' u w' _ I4 r2 r4 q4) λd' s5 zQ=>?_));let⟨z2,H5,I5,r5,k2,e2,q5⟩:=zQ;subst e2;cases r5;exact wpAny_truthy_bool ⟨H5,I5,q5⟩
def μ(K:ZC)(x:V)(H:Hp)(k:Bool):Prop:=
 match x with
 |.non=>k=false
 |.bl b=>k=b
 |.int i=>k=(i != 0)
 |.str y=>y.length<=sizeLine/\k=((y.length:Int) != 0)
 |.byt y=>y.size<=sizeLine/\k=((y.size:Int) != 0)
 |.ref p=>(∃xs,d8 K H p xs/\k=!xs.isEmpty)\/(∃xs,rX K H p xs/\k=!xs.isEmpty)\/∃Á,H p=some (.dK Á)/\k=!Á.isEmpty
 |_=>False
def KO{vs:List (κ×Value)}(r:KV Á vs):(!vs.isEmpty)=!Á.isEmpty:=by
 cases r<;>rfl
def w8(r:bI xs its):(!its.toArray.isEmpty)=!xs.isEmpty:=by
 cases r<;>simp
def qN:(sizeLine:Nat)<2^63:=by rw[sizeLine_eq];decide
def aG3:aN9 X (λx H Q=>∃k,μ X.K x H k/\Q k H):=by
 intro À s σ H x v Q I rx h;let⟨k,e,q⟩:=h;have hl:=qN;have hs:sizeLine=16777216:=sizeLine_eq;cases x with
 |non=>
  cases rx;have e':k=false:=e;subst e';exact truthy_none ⟨H,I,q⟩
 |bl b=>
  cases rx;have e':k=b:=e;subst e';exact wpAny_truthy_bool ⟨H,I,q⟩
 |int i=>
  let⟨t,rfl⟩:=rx;have e':k=(i != 0):=e;subst e';exact PySem.P.truthy_int ⟨H,I,q⟩
 |str y=>
  let⟨t,rfl⟩:=rx;obtain⟨hy,e'⟩:y.length<=sizeLine/\k=((y.length:Int) != 0):=e;subst e';exact PySem.P.truthy_str ∅ ⟨H,I.tok _,q⟩
 |byt y=>
  let⟨t,rfl⟩:=rx;obtain⟨hy,e'⟩:y.size<=sizeLine/\k=((y.size:Int) != 0):=e;subst e';exact W.truthy_bytes ∅ ⟨H,I.tok _,q⟩
 |ref p=>
  cases rx;have e':(∃xs,d8 X.K H p xs/\k=!xs.isEmpty)\/(∃xs,rX X.K H p xs/\k=!xs.isEmpty)\/∃Á,H p=some (.dK Á)/\k=!Á.isEmpty:=e;rcases e' with ⟨xs,hx,e'⟩|⟨xs,hx,e'⟩|⟨Á,hx,e'⟩
  .subst e'
   let⟨its,r,pl,hz⟩:=I.list hx;have hlen:=r.length;exact wpAny_truthy_list pl.isList 'l' ⟨H,I.tok _,by rw[w8 r];exact q⟩
  .subst e'
   let⟨its,r,pl,hz⟩:=I.tuple hx;have hlen:=r.length;exact truthy_tuple pl 'l' ⟨H,I.tok _,by rw[w8 r];exact q⟩
  .subst e'
   obtain⟨hz,hS,vs,r,m⟩:Á.length<=sizeLine/\(p == sysModules)=false/\∃vs,KV Á vs/\s.heap.DictOf (cT X.prog X.w) p vs:=I.hok p _ hx;have hlen:Á.length=vs.length:=Paired.length r;exact wpAny_truthy_dict hS m ∅ ⟨H,I.tok _,by rw[KO r];exact q⟩
 |_=>exact(show False from e).elim
def UB(ha:PE X a ta)(he:∀whole,isTrue a X.env whole=(do let v <- whole;standAt a.pos;holding [v] (truthy v))):
  PT X a (λσ H Q=>ta σ H λx H'=>∃k,μ X.K x H' k/\Q k H'):=by
 intro À s σ H Q I h;exact isTrue_plain (cA (ha À s σ H _ I h) λv s1 zQ=>by let⟨x,H1,I1,r1,q1⟩:=zQ;exact aG3 À s1 σ H1 x v Q I1 r1 q1) (he _)
def KP:kC X (binaryOp .Add) (λx y H Q=>∃i j,x=.str i/\y=.str j/\i.length+j.length<=sizeLine/\Q (.str (i++j)) H):=by
 intro À s σ H x y v u Q I rx ry h;let⟨i,j,rfl,rfl,hz,q⟩:=h;let⟨t,rfl⟩:=rx;let⟨t',rfl⟩:=ry;exact add_str (λt' tk=>⟨.str (i++j),H,I.tok _,⟨_,rfl⟩,q⟩) hz
def pV(r:bI [x] us):∃u,us=[u]/\bH x u:=by
 cases r with
 |cons r1 r2=>cases r2;exact⟨_,rfl,r1⟩
def UC(r:bI [x,y] us):∃u w',us=[u,w']/\bH x u/\bH y w':=by
 cases r with
 |cons r1 r2=>
  cases r2 with
  |cons r3 r4=>cases r4;exact⟨_,_,rfl,r1,r3⟩
def r9:gZ X (.builtin "abs") (λxs H Q=>∃i,xs=[.int i]/\Q (.int (if i<0 then -i else i)) H):=by
 intro À s σ H xs us Q I r h;let⟨i,rfl,q⟩:=h;let⟨u,rfl,t,rfl⟩:=pV r;exact call_abs_int λu tk=>⟨.int (if i<0 then -i else i),H,I.tok _,⟨_,rfl⟩,q⟩
end
structure KQ(h:Heap)(x dx C:Addr)(mA:ZD):Prop where
 obj:h.get? x=some (W.instObj C dx)
 ns:h.Ns1 dx mA
 ne:dx≠x
def QH{h:Heap}(n:h.Ns1 dx mA):∃od,h.get? dx=some od/\∀name,W.lookIn name od=some (mA name):=by
 let⟨o,es,ep,ho,hd,hk,_,hm⟩:=n;refine⟨o,ho,λname=>?_⟩;have e:=hm name;unfold nsFind findBy at e;rw[<- Array.find?_toList]at e;unfold W.lookIn;rw[hd];dsimp only;split
 .grind
 .rename_i q
  rw[q]at e;have a:es.toList.any (·.refKey)=false:=by
   rw[List.any_eq_false];intro y hy;let⟨z,t,hkey⟩:=hk y (Array.mem_toList_iff.mp hy);simp[DictEntry.refKey,hkey]
  grind
def KQ.look(I:KQ h x dx C mA):∃od,W.InstAt h x (W.instObj C dx) C (some od)/\∀name,W.lookIn name od=some (mA name):=
 let ⟨od,ho,hl⟩:=QH I.ns
 ⟨od,⟨I.obj,rfl,rfl,ho⟩,hl⟩
section
variable {prog:Program}{w:World}{A:Around}{E:ZA}{s:Shared}{K:ZC}{x dx C f:Addr}{mA:ZD}{name:Str}{v:Value}
def aA6{expr:Bool}{Q:ZA}(X:K.In s.heap)(I:KQ s.heap x dx C mA)(hg:W.plainGet K C name=true)(hh:W.hasDictIn K C=true)(ha:W.findIn K (.ref C) name=some none)(hv:mA name=some v)(hv':W.handedIn v=true)(h:Q v {s with toks:=s.toks+1}):
  wpAny 'p' A (getAttr (.ref x) name expr) Q E s:=by
 let⟨od,J,hl⟩:=I.look;exact W.get_value X J (W.plainGet_of hg).1 (W.findObj_own hh ha rfl (by rw[hl,hv])) hv' h
def UD{pl:Sem Bool}{Q:Value×ZJ->Shared->Prop}(X:K.In s.heap)(I:KQ s.heap x dx C mA)(hg:W.plainGet K C name=true)(hf:W.findIn K (.ref C) name=some (some (.ref f)))(ht:W.isFn K (.ref f)=true)(hv:mA name=none)(h:Q (.ref f,[.ref x]) s):
  wpAny 'p' A (getMethod (.ref x) name pl) Q E s:=by
 let⟨od,J,hl⟩:=I.look;exact W.method_fn X J (W.plainGet_of hg).1 (W.plainGet_of hg).2 hf (beq_iff_eq.mp ht) (by show (W.lookIn name od).map (·.isSome)=some false;rw[hl,hv];rfl) h
def aA7{ns:ZG}{Q:Unit->Shared->Prop}(X:K.In s.heap)(I:KQ s.heap x dx C mA)(hs:W.findIn K (.ref C) "__setattr__"=some (some (.builtin "object.__setattr__")))(hp:W.plainOver K C=true)(ht:W.takerIn K C name=some none)(hh:W.hasDictIn K C=true)(hw:PySem.Within mA ns)(hsz:ns.length<=sizeLine)(h:∀h',KQ h' x dx C (λy=>if y=name then some v else mA y)->Heap.SameBut dx s.heap h'->Q () {s with heap:=h',toks:=s.toks+2}):
  wpAny 'p' A (setAttr (.ref x) name v) Q E s:=by
 let⟨od,J,hl⟩:=I.look;refine W.set_plain X J hs (W.osa_open (s:={s with toks:=s.toks+1}) (r:=none) X J hp ht λb=>?_);let⟨cd,hc,hd'⟩:=W.any_some hh;have hx:s.heap.get? x=some ⟨.ref C,some dx,.plain,#[]⟩:=I.obj;refine wpAny_bind (wpAny_pure (wpAny_bind (wpAny_bind (wpAny_loadPart hx (wpAny_bind (W.Looks.here (s:={s with toks:=s.toks+1}) (W.looks_clsIn X hc) ?_))))));rw[hd'];refine wpAny_pure (a:=some dx) (wpAny_bind (wpAny_pure (wpAny_bind ?_)));refine wpAny_nsSet1 (s:={s with toks:=s.toks+1}) I.ns λh' hn2 hs2=>?_;let⟨oD,esD,epD,hoD,hdD,hcD⟩:=hn2.count (PySem.Within.cons name v hw);refine wpAny_bind (wpAny_lookBehind hoD (by rw[hdD];exact pastItsLine_dict (Ü hcD 'l')) ?_)
 exact wpAny_pure (h _ ⟨(hs2.2 _ (Í I.ne)).trans I.obj,hn2,I.ne⟩ hs2)
def UE(X:K.In s.heap)(hm:W.makesIn K C=true)(hi:W.findIn K (.ref C) "__init__"=some (some (.ref f)))(hf:W.typeIn K (.ref f)=some (.type "function"))(h:codeAny 'p' (A.under (.builtin "type.__call__" ⟨.ref C::vs,kw⟩)) (.call (.ref f) ⟨.ref (s.heap.objs.size+1)::vs,kw⟩) (W.InitBack (s.heap.objs.size+1) R)
   {s with heap:=(s.heap.push W.emptyDict).push (W.instObj C s.heap.objs.size)}):
  codeAny 'p' A (.call (.ref C) ⟨vs,kw⟩) R s:=by
 let⟨hh,g,d,t,os⟩:=s;exact W.make_core (W.makes_of X hm) (W.looks_findIn X hi) (λself=>W.bind_fn X self hf) (.inl rfl) h
end
def kW(f:Str)(v:V):List (Str×V)->List (Str×V)
 |[]=>[(f,v)]
 |(g,x)::r=>if g=f then (g,v)::r else (g,x)::kW f v r
def vS(f g:Str)(v:V):∀fs:List (Str×V),(kW f v fs).lookup g=if g=f then some v else fs.lookup g
 |[]=>by
  show List.lookup g [(f,v)]=_
  grind
 |(k,x)::r=>by
  have ih:=vS f g v r;rw[show kW f v ((k,x)::r)=(if k=f then (k,v)::r else (k,x)::kW f v r)from rfl]
  grind
def uI(f:Str)(v:V):∀fs:List (Str×V),f∈(kW f v fs).map (·.1)/\∀g,g∈fs.map (·.1)->g∈(kW f v fs).map (·.1)
 |[]=>⟨by simp[kW],λg h=>by simp at h⟩
 |(k,x)::r=>by
  let⟨i1,i2⟩:=uI f v r;rw[show kW f v ((k,x)::r)=(if k=f then (k,v)::r else (k,x)::kW f v r)from rfl]
  grind
def vT(f:Str)(v:V):∀fs:List (Str×V),(kW f v fs).length<=fs.length+1
 |[]=>by simp[kW]
 |(k,x)::r=>by
  have ih:=vT f v r;rw[show kW f v ((k,x)::r)=(if k=f then (k,v)::r else (k,x)::kW f v r)from rfl]
  grind
def mY.some_of(r:mY (some v) o):∃u,o=some u/\bH v u:=by
 cases o with
 |none=>exact(show False from r).elim
 |some u=>exact⟨u,rfl,r⟩
def mY.none_of(r:mY none o):o=none:=by
 cases o with
 |none=>rfl
 |some u=>exact(show False from r).elim
def QI(r:bH v u):W.handedIn u=true:=by
 cases v with
 |non=>cases (show u=Value.none from r);rfl
 |bl b=>cases (show u=Value.bool b from r);rfl
 |int i=>let⟨t,e⟩:=(show ∃t,u=Value.int i t from r);cases e;rfl
 |str x=>let⟨t,e⟩:=(show ∃t,u=Value.str x t from r);cases e;rfl
 |byt b=>let⟨t,e⟩:=(show ∃t,u=Value.bytes b t from r);cases e;rfl
 |flt b=>let⟨t,e⟩:=(show ∃t,u=Value.float b t from r);cases e;rfl
 |ref a=>cases (show u=Value.ref a from r);rfl
 |ty n=>cases (show u=Value.type n from r);rfl
section
def DH(hok:mZ P w H h)(e:H a=some (.ins C dx fs)):∃mA,KQ h a dx C mA/\(∀f,mY (fs.lookup f) (mA f))/\PySem.Within mA (fs.map (·.1))/\fs.length<=1000/\H dx=some (.own a):=by
 let⟨d,z,ne,ob,mA,n,r,q⟩:=(show eC P w H h a (.ins C dx fs)from hok a _ e);exact⟨mA,⟨ob,n,ne⟩,r,q,z,d⟩
end
structure S8(K:ZC)(C:Addr):Prop where
 pg:W.plainGet K C Str.empty=true
 hd:W.hasDictIn K C=true
 po:W.plainOver K C=true
 sa:W.findIn K (.ref C) "__setattr__"=some (some (.builtin "object.__setattr__"))
def S8.get{K:ZC}(c:S8 K C)(f:Str):W.plainGet K C f=true:=c.pg
def lR(K:ZC)(C:Addr)(f:Str):Prop:=W.findIn K (.ref C) f=some none
def lR.taker{K:ZC}(n:lR K C f):W.takerIn K C f=some none:=by
 unfold W.takerIn;rw[show W.findIn K (.ref C) f=some none from n];rfl
structure ň(K:ZC)(C:Addr)(m:Str)(f:Addr):Prop where
 at_:W.findIn K (.ref C) m=some (some (.ref f))
 fn:W.isFn K (.ref f)=true
 kp:W.keepIn K (.ref f)=true
section
variable {X:Cx}{À:ZB}{σ:St}{H:Hp}{s:Shared}{a C dx:Addr}{fs:List (Str×V)}{f:Str}{v:V}{A:Around}{E:ZA}
def KR(I:Inv X À σ H s)(e:H a=some (.ins C dx fs))(c:S8 X.K C)(n:lR X.K C f)(l:fs.lookup f=some v)(h:∀u s',Inv X À σ H s'->bH v u->Q u s'):wpAny 'b' A (getAttr (.ref a) f b) Q E s:=by
 let⟨mA,O,r,_,_,_⟩:=DH I.hok e;let⟨u,hu,ru⟩:=mY.some_of (v:=v) (o:=mA f) (by rw[<- l];exact r f);exact aA6 I.kIn O (c.get f) c.hd n hu (QI ru) (h u _ (I.tok _) ru)
def KS{m:Str}{g:Addr}{pl:Sem Bool}{Q:Value×ZJ->Shared->Prop}(I:Inv X À σ H s)(e:H a=some (.ins C dx fs))(c:S8 X.K C)(k:ň X.K C m g)(l:fs.lookup m=none)(h:Q (.ref g,[.ref a]) s):wpAny 'b' A (getMethod (.ref a) m pl) Q E s:=by
 let⟨mA,O,r,_,_,_⟩:=DH I.hok e;have hn:mA m=none:=mY.none_of (by rw[<- l];exact r m);exact UD I.kIn O (c.get m) k.at_ k.fn hn h
def KU{y:V}{u:Value}{Q:Unit->Shared->Prop}(I:Inv X À σ H s)(e:H a=some (.ins C dx fs))(c:S8 X.K C)(n:lR X.K C f)(hl:fs.length<1000)(ry:bH y u)(h:∀s',Inv X À σ (aV H a (.ins C dx (kW f y fs))) s'->Q () s'):wpAny 'b' A (setAttr (.ref a) f u) Q E s:=by
 let⟨mA,O,r,wi,_,ho⟩:=DH I.hok e;have hz:(fs.map (·.1)).length<=sizeLine:=by rw[Å,sizeLine_eq];lia
 refine aA7 I.kIn O c.sa c.po n.taker c.hd wi hz λh' O' sb=>h _ ?_;have hd:∃o,h'.get? dx=some o:=let ⟨o,_,_,e',_⟩:=O'.ns;⟨o,e'⟩
 refine I.write (x:=a) (e:=dx) (by rw[e];exact True.intro) (.inr ho) (λb q hb z=>(sb.2 b hb).trans z) hd ?_;refine⟨by rw[aE O.ne];exact ho,?_,O.ne,O'.obj,_,O'.ns,λg=>?_,λg hg=>?_⟩
 .have:=vT f y fs;exact Ü ‹_› ‹_›
 .show mY ((kW f y fs).lookup g) (if g=f then some u else mA g)
  rw[vS];by_cases q:g=f
  .rw[Â q,Â q];exact ry
  grind
 .by_cases q:g=f
  .rw[q];exact(uI f y fs).1
  .refine(uI f y fs).2 g (wi g λz=>hg ?_)
   grind
def Inv.made(I:Inv X À σ H s):Inv X À σ (aV (aV H s.heap.objs.size (.own (s.heap.objs.size+1))) (s.heap.objs.size+1) (.ins C s.heap.objs.size []))
  {s with heap:=(s.heap.push W.emptyDict).push (W.instObj C s.heap.objs.size)}:=by
 have e1:(s.heap.push W.emptyDict).get? s.heap.objs.size=some W.emptyDict:=Heap.get?_push_size s.heap rfl;have e2:((s.heap.push W.emptyDict).push (W.instObj C s.heap.objs.size)).get? (s.heap.objs.size+1)=some (W.instObj C s.heap.objs.size):=by
  have:=Heap.get?_push_size (s.heap.push W.emptyDict) (o:=W.instObj C s.heap.objs.size) rfl
  rwa [Heap.size_push]at this
 have e3:(s.heap.push W.emptyDict).Ns s.heap.objs.size (λ_=>none):=⟨W.emptyDict,#[],_,e1,rfl,(λe he=>absurd he 'e'),λ_=>rfl⟩;have I1:=I.laid (a:=s.heap.objs.size) (o:=.own (s.heap.objs.size+1)) (h':=s.heap.push W.emptyDict) (t':=s.toks) (λb u q=>Heap.get?_push_of_some _ q) (È _) ⟨_,e1⟩;refine I1.laid (a:=s.heap.objs.size+1) (o:=.ins C s.heap.objs.size []) (t':=s.toks) (λb u q=>Heap.get?_push_of_some _ q) (ù (Heap.size_push _ _)) ?_;have ne:s.heap.objs.size≠s.heap.objs.size+1:=Ð (ð _);refine⟨by rw[aE ne,aJ],î _,ne,e2,λ_=>none,(Heap.Ns1.of_empty e3).at λo q=>Heap.get?_push_of_some _ q,λ_=>True.intro,λy hy=>absurd rfl hy⟩
def aA9(hb:attributeBase e f env (eval e env)=eval e env)(h:wpAny 'p' A (eval e env) (λo s₁=>wpAny 'p' A (getAttr o f true) Q E s₁) E s):wpAny 'p' A (eval (.Attribute e f pos) env) Q E s:=
 Attribute_any_ h (by rw[arm_eval_Attribute,hb])
end
def aOA(K:ZC)(ta:TE)(f:Str):TE:=λσ H Q=>ta σ H λx H1=>∃a C dx fs v,x=.ref a/\H1 a=some (.ins C dx fs)/\S8 K C/\lR K C f/\fs.lookup f=some v/\Q v H1
def aOB(K:ZC)(ta tv:TE)(f:Str):TS:=λD σ H=>tv σ H λy H1=>ta σ H1 λx H2=>∃a C dx fs,x=.ref a/\H2 a=some (.ins C dx fs)/\S8 K C/\lR K C f/\fs.length<1000 /\
 D.nx σ (aV H2 a (.ins C dx (kW f y fs)))
section
def DJ(he:PE X e ta)(hb:attributeBase e f X.env (eval e X.env)=eval e X.env):PE X (.Attribute e f pos) (aOA X.K ta f):=by
 intro À s σ H Q I h;refine aA9 hb (cA (he À s σ H _ I h) λu s1 zQ=>?_);let⟨x,H1,I1,rx,a,C,dx,fs,v,ex,ea,c,n,l,q⟩:=zQ;subst ex;obtain rfl:u=Value.ref a:=rx;exact KR I1 ea c n l λu' s2 I2 ru=>⟨v,H1,I2,ru,q⟩
def aG4(ha:PE X o ta)(hv:PE X value tv)(hs:swapsWith value (some (.Attribute o f pos')) pos.line X.env=pure false):PS X (.Assign [.Attribute o f pos'] value pos) (aOB X.K ta tv f):=by
 intro À s σ H D I h;refine plainObj_wpAny_Assign_Attribute (cA (hv À s σ H _ I h) λu s1⟨y,H1,I1,ry,q⟩=>cA (ha À s1 σ H1 _ I1 q) λov s2 zQ=>?_) hs;let⟨x,H2,I2,rx,a,C,dx,fs,ex,ea,c,n,l,q2⟩:=zQ;subst ex;obtain rfl:ov=Value.ref a:=rx;exact KU I2 ea c n l ry λs3 I3=>⟨σ,_,I3,q2⟩
end
section
end
structure fD(k:Nat)(A:Around):Prop where
 hd:A.handled=none
 dp:A.depth+3*k+5<recursionLimit
 un:A.units+16*k+200<cLine
def fD.mono(r:fD k A)(h:j<=k):fD j A:=⟨r.hd,by have:=r.dp;lia,by have:=r.un;lia⟩
def fD.deeper(r:fD (k+1) A)(env:Env):fD k (A.deeper env):=
 ⟨r.hd,by have:=r.dp;show A.depth+1+3*k+5<_;lia,by have:=r.un;show A.units+3+16*k+200<_;lia⟩
def KW{A:Around}:(A.under (.builtin "type.__call__" ⟨.ref C::us,kw⟩)).depth=A.depth+1:=by
 first|rfl|simp[Around.under,Code.weight,Code.isCreation,Code.isGuard,Code.isCaller,Code.frames,Code.isFrame,guardIds]
def KY{A:Around}:(A.under (.builtin "type.__call__" ⟨.ref C::us,kw⟩)).units=A.units+1:=by
 first|rfl|simp[Around.under,Code.cUnits,Code.frames,Code.isFrame]
def fD.make(r:fD (k+1) A)(C:Addr)(us:ZJ)(kw:List (Str×Value)):fD k (A.under (.builtin "type.__call__" ⟨.ref C::us,kw⟩)):=
 ⟨r.hd,by have:=r.dp;rw[KW];lia,by have:=r.un;rw[KY];lia⟩
def fD.depth(r:fD k A):A.depth<recursionLimit:=by have:=r.dp;lia
def fD.units(r:fD k A):A.units+64<cLine:=by have:=r.un;lia
def ŉ:TA:=λ_ H Q=>Q [] H
def M4(ta:TE)(tr:TA):TA:=λσ H Q=>ta σ H λx H1=>tr σ H1 λxs H2=>Q (x::xs) H2
section
def iW:PA X [] ŉ:=λ_ _ _ _ H Q I h=>Calls.spliced_nil ⟨[],H,I,.nil,h⟩
def dO(ha:PE X e te)(hr:PA X es t)(hs:↥(Zse e es X.env)):PA X (e::es) (M4 te t):=by
 intro pos À s σ H Q I h;rw[hs];show wpAny _ _ (spliced ((false,eval e X.env)::backTo pos (starEach es X.env))) _ _ s;refine Calls.spliced_cons (cA (ha À s σ H _ I h) λu s1 zQ=>?_);let⟨x,H1,I1,r1,q1⟩:=zQ;exact cA (hr pos À s1 σ H1 _ I1 q1) λus s2 zQ=>by let⟨xs,H2,I2,r2,q2⟩:=zQ;exact ⟨x::xs,H2,I2,.cons r1 r2,q2⟩
def aOC(t:TA):TE:=λσ H Q=>t σ H λxs H1=>xs.length<=sizeLine/\∀p,H1 p=none->Q (.ref p) (aV H1 p (.tup xs))
def aOD(t:TA):TE:=λσ H Q=>t σ H λxs H1=>xs.length<=sizeLine/\∀p,H1 p=none->Q (.ref p) (aV H1 p (.lst xs))
def UF(h:PA X es t):PE X (.Tuple es x1 pos) (aOC t):=by
 intro À s σ H Q I hq;refine wpAny_Tuple_spliced (cA (h pos À s σ H _ I hq) λus s1⟨xs,H1,I1,r,z,q⟩=>⟨by rw[<- r.length];exact z,?_⟩);have hf:H1 s1.heap.objs.size=none:=I1.hok.fresh (È _);refine⟨.ref s1.heap.objs.size,aV H1 s1.heap.objs.size (.tup xs),I1.laid (t':=s1.toks) (λb u e=>Heap.get?_push_of_some _ e) (È _) ?_,rfl,q _ hf⟩;exact⟨z,us,r,⟨_,Heap.get?_push_size _ rfl,rfl,_,rfl⟩⟩
def aG5(h:PA X es t):PE X (.List es pos) (aOD t):=by
 intro À s σ H Q I hq;refine wpAny_List_spliced (cA (h pos À s σ H _ I hq) λus s1⟨xs,H1,I1,r,z,q⟩=>⟨by rw[<- r.length];exact z,?_⟩);have hf:H1 s1.heap.objs.size=none:=I1.hok.fresh (È _);refine⟨.ref s1.heap.objs.size,aV H1 s1.heap.objs.size (.lst xs),I1.laid (t':=s1.toks) (λb u e=>Heap.get?_push_of_some _ e) (È _) ?_,rfl,q _ hf⟩;exact⟨z,us,0,r,Heap.get?_push_size _ rfl⟩
end
abbrev Sp:=List V->Hp->VK->XK->Prop
abbrev S9:=List Env->Hp->Shared->XK->ZA
structure KZ(P:Program)(w:World)(K:ZC)(mg:ZD)(base:Heap)(A:Around)(outer:List Env)(s:Shared)(H:Hp):Prop where
 frames:A.frames=some outer
 mod:Mod K mg base
 bs:∀b o,base.get? b=some o->s.heap.get? b=some o/\H b=none
 bsz:base.objs.size<=s.heap.objs.size
 funs:s.heap.FunFrames base outer
 frf:∀b∈wY outer,H b=none
 hok:mZ P w H s.heap
 bare:AllBare s.gens
def CE(outer:List Env)(P:Program)(w:World)(H:Hp)(s:Shared)(Q:VK)(u:Value)(s':Shared):Prop:=
 ∃v H',s'.os=s.os/\AllBare s'.gens/\Un (wY outer) [] H H' s.heap s'.heap/\mZ P w H' s'.heap/\bH v u/\Q v H'
def CR(CX:S9)(outer:List Env)(P:Program)(w:World)(H:Hp)(s:Shared)(Q:VK)(E:XK)(r:Result)(s':Shared):Prop:=
 match r with
 |.ok (.ret u)=>CE outer P w H s Q u s'
 |.ok _=>False
 |.error e=>CX outer H s E e s'
structure qO(P:Program)(w:World)(K:ZC)(mg:ZD)(base:Heap)(CX:S9)(k:Nat)(f:Addr)(fd:FuncData)(ps:ZG)(sp:Sp):Prop where
 len:∀vs H Q E,sp vs H Q E->vs.length=ps.length
 run:∀(A:Around)(outer:List Env)(s:Shared)(H:Hp)(args:Args)(us:ZJ)(vs:List V)(Q:VK)(E:XK),fD k A->KZ P w K mg base A outer s H->BindsTo s fd args (ps.zip us)->bI vs us->sp vs H Q E ->
  codeAny (model P w) A (.call (.ref f) args) (CR CX outer P w H s Q E) s
def KZ.make{K:ZC}(e:KZ P w K mg base A outer s H)(C:Addr)(us:ZJ)(kw:List (Str×Value)):
  KZ P w K mg base (A.under (.builtin "type.__call__" ⟨.ref C::us,kw⟩)) outer s H:=⟨by first|exact e.frames|(simpa[Around.under,Code.envs,Code.isFrame,pushEnvs]using e.frames),e.mod,e.bs,e.bsz,e.funs,e.frf,e.hok,e.bare⟩
section
variable {X:Cx}{À:ZB}{σ:St}{H:Hp}{s s':Shared}
def Inv.env0(I:Inv X À σ H s):KZ X.prog X.w X.K X.mg X.base X.A X.stack s H:=
 ⟨I.ok.frames,I.ok.mod,I.bs,Ü I.ok.bsz I.sz,I.stack,I.stkFree,I.hok,I.bare⟩
def Inv.after(I:Inv X À σ H s)(h:CE X.stack X.prog X.w H s Q u s'):EP X À σ Q u s':=by
 let⟨v,H',os,bare,un,hok,r,q⟩:=h;let⟨hh,g,d,t,os'⟩:=s';obtain rfl:os'=s.os:=os;exact⟨v,H',I.call (h':=hh) (g':=g) (d':=d) (t':=t) (ch:=[]) un hok bare (λb z=>absurd z 'e'),r,q⟩
end
def pW(K:ZC)(fd:FuncData)(ps:ZG)(ds:ZJ):Prop:=
 ∀(s:Shared)(us:ZJ),K.In s.heap->(us++ds).length=ps.length->BindsTo s fd ⟨us,[]⟩ (ps.zip (us++ds))
def pW.all{K:ZC}(h:∀us:ZJ,us.length=ps.length->bindArgs fd ⟨us,[]⟩=pure (ps.zip us)):pW K fd ps []:=λs us _ hl=>by
 rw[â]at hl⊢;exact .of_eq (h us hl)
section
structure Mk(K:ZC)(C f:Addr):Prop where
 makes:W.makesIn K C=true
 init:W.findIn K (.ref C) "__init__"=some (some (.ref f))
 fn:W.isFn K (.ref f)=true
 kp:W.keepIn K (.ref C)=true
end
section
end
structure jQ(N P:ZG)(sc:Scope):Prop where
 kind:sc.kind=.function
 co:sc.isCoroutine=false
 gen:sc.isGenerator=false
 nd:N.Nodup
 pre:N.take P.length=P
 par:∀x∈P,sc.names.lookup x=some .local\/sc.names.lookup x=some .cell
 nofree:∀y∈sc.names,y.2≠.free
def BO{kindOf:Str->Option NameKind}:∀{binds:List (Str×Value)}{m:ZD},(∀v,(x,v)∉binds)->bindL kindOf binds m x=m x
 |[],_,_=>rfl
 |(n,v)::r,m,h=>by
  unfold bindL;rw[BO λw hw=>h w (Ó _ hw)];split
  all_goals grind
def BP{kindOf:Str->Option NameKind}:∀{binds:List (Str×Value)}{m:ZD},(∀v,(x,v)∉binds)->bindC kindOf binds m x=m x
 |[],_,_=>rfl
 |(n,v)::r,m,h=>by
  unfold bindC;rw[BP λw hw=>h w (Ó _ hw)];split
  all_goals grind
def BQ{kindOf:Str->Option NameKind}{x:Str}{v:Value}:∀{P:ZG}{vs:ZJ}{i:Nat}{m:ZD},P.Nodup->P[i]?=some x->vs[i]?=some v->kindOf x=some .local ->
  bindL kindOf (P.zip vs) m x=some v
 |[],_,_,_,_,h,_,_=>by simp at h
 |_::_,[],_,_,_,_,h,_=>by simp at h
 |p::P,w::vs,0,m,nd,h1,h2,hk=>by
  simp at h1 h2;subst h1;subst h2;show bindL kindOf ((p,w)::P.zip vs) m p=_;unfold bindL;rw[BO λv hv=>(List.nodup_cons.mp nd).1 (List.of_mem_zip hv).1,Â hk];simp
 |p::P,w::vs,i+1,m,nd,h1,h2,hk=>by
  show bindL kindOf ((p,w)::P.zip vs) m x=_;unfold bindL;exact BQ (i:=i) (List.nodup_cons.mp nd).2 (by simpa using h1) (by simpa using h2) hk
def BR{kindOf:Str->Option NameKind}{x:Str}{v:Value}:∀{P:ZG}{vs:ZJ}{i:Nat}{m:ZD},P.Nodup->P[i]?=some x->vs[i]?=some v->kindOf x≠some .local ->
  bindC kindOf (P.zip vs) m x=some v
 |[],_,_,_,_,h,_,_=>by simp at h
 |_::_,[],_,_,_,_,h,_=>by simp at h
 |p::P,w::vs,0,m,nd,h1,h2,hk=>by
  simp at h1 h2;subst h1;subst h2;show bindC kindOf ((p,w)::P.zip vs) m p=_;unfold bindC;rw[BP λv hv=>(List.nodup_cons.mp nd).1 (List.of_mem_zip hv).1,Ã hk];simp
 |p::P,w::vs,i+1,m,nd,h1,h2,hk=>by
  show bindC kindOf ((p,w)::P.zip vs) m x=_;unfold bindC;exact BR (i:=i) (List.nodup_cons.mp nd).2 (by simpa using h1) (by simpa using h2) hk
def start(N:ZG)(vs:List V):St:=vs.map some++List.replicate (N.length-vs.length) none
def qP(CX:S9)(P:Program)(w:World)(K:ZC)(mg:ZD)(base:Heap)(N:ZG)(qual:Str)(scope:Scope)(f:Addr)(cd:Value)(A:Around)(outer:List Env)(s:Shared)(H:Hp)(E:XK):Cx where
 prog:=P
 w:=w
 K:=K
 mg:=mg
 base:=base
 A:=A.deeper (envOfC qual scope s.heap.objs.size f cd)
 N:=N
 s₀:=s
 H₀:=H
 env:=envOfC qual scope s.heap.objs.size f cd
 outer:=outer
 stack:=envOfC qual scope s.heap.objs.size f cd::outer
 ex:=[]
 calm:=true
 fn:=λ_=>true
 pn:=[]
 xe:=λe s'=>wpAny (model P w) (A.deeper (envOfC qual scope s.heap.objs.size f cd)) (leaving (envOfC qual scope s.heap.objs.size f cd) e) (λ_ s''=>CX outer H s E e s'') (λe' s''=>CX outer H s E e' s'') s'
def GL{sc:Scope}(h:sc.names.lookup x=some .cell):∃c,(cellsFrom n sc.names []).lookup x=some c:=by
 have q:=W.cellsFrom_some sc.names n [] (.inl h);exact Option.isSome_iff_exists.mp q
def QJ{K:ZC}{outer:List Env}{s s1:Shared}{H:Hp}{E:XK}{us:ZJ}{vs:List V}(S:jQ N ps scope)(hd:A.handled=none)(e0:KZ P w K mg base A outer s H)(hl:vs.length=ps.length)(r:bI vs us)(x:InCallC s s.heap.objs.size (bindL (envOfC qual scope s.heap.objs.size f cd).kindOf (ps.zip us) λ_=>none) (cellsFrom (s.heap.objs.size+1) scope.names []) (bindC (envOfC qual scope s.heap.objs.size f cd).kindOf (ps.zip us) λ_=>none) s1):
  Inv (qP CX P w K mg base N qual scope f cd A outer s H E) [] (start N vs) H s1:=by
 have hpl:ps.length<=N.length:=by have:=congrArg List.length S.pre;rw[ê]at this;lia
 let⟨h1,tk,rfl,hk⟩:=x.done;have noA:∀b:Addr,b∉(qP CX P w K mg base N qual scope f cd A outer s H E).ex:=λb z=>absurd (show b∈([]:ZM)from z) 'e';refine⟨⟨e0.mod,S.kind,rfl,rfl,È _,λy z c h1 h2=>?_,λy hy=>?_,λy c _ h=>?_,λ_=>hd,Around.frames_deeper e0.frames,.inr ⟨rfl,rfl⟩,λb z=>absurd z (noA b),e0.bs,e0.bsz,λb _ _=>noA b,λb z=>absurd z (noA b),e0.funs,e0.frf⟩,
  rfl,e0.bare,Un.kept hk,⟨_,x.toInCall.ns,λi y v h1 h2 h3=>?_⟩,λy c h=>⟨_,x.cell y c h⟩,e0.hok.fresh (È _),λy c h=>?_,λp hp=>absurd (show p∈([]:ZB)from hp) 'e',e0.hok.kept hk,?_⟩
 .exact name_of_addr x.apart (ā h1) (ā h2)
 .have hy:scope.names.lookup y=some .cell\/scope.names.lookup y=some .free:=hy
  rcases hy with hy|hy
  .exact GL hy
  .exact absurd rfl (S.nofree _ (ā hy))
 .exact É (x.above y c (ā h))
 .have hi:i<vs.length:=by
   unfold start at h2;by_cases hi:i<vs.length
   .exact hi
   .rw[ã (by simpa using hi)]at h2
    rw[Ā]at h2;split at h2<;>cases h2
  have ha:vs[i]?=some v:=by
   unfold start at h2;rw[ô (by simpa using hi),Ò]at h2;cases e:vs[i]? with
   |none=>rw[e]at h2;cases h2
   |some a=>rw[e]at h2;cases h2;rfl
  let⟨u,hu,rv⟩:=r.get ha;have hp:ps[i]?=some y:=by
   rw[<- S.pre,List.getElem?_take_of_lt (by exact õ ‹_› ‹_›)];exact h1
  have ndP:ps.Nodup:=by rw[<- S.pre];exact S.nd.sublist (List.take_sublist _ _)
  refine⟨u,rv,?_⟩;rcases S.par y (Č hp)with k|k
  .exact .inl ⟨k,BQ ndP hp hu k⟩
  .obtain⟨c,e⟩:=GL (n:=s.heap.objs.size+1) k
   refine .inr ⟨.inl k,c,e,?_⟩;have q:=x.cell y c e;rw[BR ndP hp hu (by show scope.names.lookup y≠_;rw[k];decide)]at q
   exact q
 .exact e0.hok.fresh (É (x.above y c (ā h)))
 .unfold start
  show _=N.length;rw[Ñ,Å,ï];lia
def aKY{K:ZC}{dV kV doc pm cdv ct oc:Value}{an od:Option Addr}{osl:Array (ZN)}{N ps:ZG}{sp:Sp}(lk:K.lookup f=some ⟨oc,od,.func (W.fnOf name qual params body scope dV kV doc pm an cdv ct),osl⟩)(hcd:W.codeIn K cdv qual=true)(S:jQ N ps scope)(len:∀vs H Q E,sp vs H Q E->vs.length=ps.length)(hbody:∀(A:Around)(outer:List Env)(s:Shared)(H:Hp)(vs:List V)(Q:VK)(E:XK),fD k (A.deeper (envOfC qual scope s.heap.objs.size f cdv))->sp vs H Q E ->
   ∃t,DB (qP CX P w K mg base N qual scope f cdv A outer s H E) body t/\t {nx:=λ_ H'=>Q .non H',rt:=Q} (start N vs) H):
  qO P w K mg base CX (k+1) f (W.fnOf name qual params body scope dV kV doc pm an cdv ct) ps sp:=by
 refine⟨len,λA outer s H args us vs Q E hr e0 hb r hsp=>?_⟩;have hl:=len _ _ _ _ hsp;have KX:K.In s.heap:=e0.mod.kin.keeps λb o e=>(e0.bs b o e).1;have lim:s.heap.NoLimit:=e0.mod.nolimit.keeps λb o e=>(e0.bs b o e).1;have hkind:∀y∈ps.zip us,scope.names.lookup y.1=some .local\/(scope.names.lookup y.1=some .cell/\((cellsFrom (s.heap.objs.size+1) scope.names []).lookup y.1).isSome=true):=λ⟨n,v⟩hy=>by
  rcases S.par n (List.of_mem_zip hy).1 with q|q
  .exact .inl q
  .exact .inr ⟨q,W.cellsFrom_some _ _ _ (.inl q)⟩
 refine codeAny_call_function hr.depth (KX _ _ lk) rfl S.co S.gen rfl (W.codeRec_of KX hcd) (hb _ _ _ _ ?_);refine wpAny_newFunctionEnv_cells S.kind hkind λenv he s1 x=>?_;subst he;refine⟨lim.keeps x.toInCall.keep,codeAny_func ?_⟩;let⟨t,ht,hq⟩:=hbody A outer s H vs Q E (hr.deeper _) hsp;have I:Inv (qP CX P w K mg base N qual scope f cdv A outer s H E) [] (start N vs) H s1:=QJ S hr.hd e0 hl r x;refine wpAny_mono (ht [] s1 (start N vs) H _ I hq) (λfl s' hs=>?_) λe s' hs=>hs;have fin:∀{σ':St}{H':Hp}{v:V}{u:Value},Inv (qP CX P w K mg base N qual scope f cdv A outer s H E) [] σ' H' s'->bH v u->Q v H'->CE outer P w H s Q u s':=
  λ{σ' H' v u}J rv q=>⟨v,H',J.os,J.bare,J.base,J.hok,rv,q⟩
 cases fl with
 |ret u=>
  let⟨v,σ',H',J,rv,q⟩:=hs;exact fin J rv q
 |next=>
  let⟨σ',H',J,q⟩:=hs;exact fin (v:=V.non) (u:=Value.none) J rfl q
 |brk=>
  let⟨_,_,_,q⟩:=hs;exact False.elim q
 |cont=>
  let⟨_,_,_,q⟩:=hs;exact False.elim q
section
variable {X:Cx}{x:Str}{p pos:Pos}{e:Expr}{es:List Expr}{t:TA}{id T:String}{r:List V->Hp->VK->Prop}
def Ŵ(r:List V->Hp->VK->Prop)(t:TA):TE:=λσ H Q=>t σ H λvs H1=>r vs H1 Q
def sA(hc:gZ X (.builtin id) r)(hg:Gl X x)(hm:X.mg x=none)(hv:bootBuiltins x=some (.builtin id))(ha:PA X (e::es) t)(hn:⇑(x≠"__name__"))(hdb:⇑(Zdb x))(he:↥(Zse e es X.env))(hpl:↥(Zbt pos es X.env)):PE X (.Call 'h' (e::es) [] pos) (Ŵ r t):=by
 intro À s σ H Q I h;refine wpAny_Call_Name_kw (iE I hg hm hv ?_ hn hdb);exact PyProof.Rows.callWith_builtin1 (cA (ha pos À s σ H _ I h) λus s1 zQ=>by let⟨vs,H1,I1,r1,q1⟩:=zQ;exact hc À s1 σ H1 vs us Q I1 r1 q1) he hpl
def uJ(hc:gZ X (.type T) r)(hg:Gl X x)(hm:X.mg x=none)(hv:bootBuiltins x=some (.type T))(ha:PA X (e::es) t)(hn:⇑(x≠"__name__"))(hdb:⇑(Zdb x))(he:↥(Zse e es X.env))(hpl:↥(Zbt pos es X.env)):PE X (.Call 'h' (e::es) [] pos) (Ŵ r t):=by
 intro À s σ H Q I h;refine wpAny_Call_Name_kw (iE I hg hm hv ?_ hn hdb);exact PyProof.Rows.callWith_type1 (cA (ha pos À s σ H _ I h) λus s1 zQ=>by let⟨vs,H1,I1,r1,q1⟩:=zQ;exact hc À s1 σ H1 vs us Q I1 r1 q1) he hpl
end
end L2
namespace HT
open PySem PyProof.Rows
section
open PySem.SeqAt
open PySem.AutoSeq1 (wpAny_loadPart')
open PySem.MeetsSeq PySem.MeetsSeq2 PySem.MeetsSeq3
end
section
variable {prog:Program}{w:World}{A:Around}{E:ZA}{s:Shared}
def cat_tup{t b:Addr}{vs ws:ZJ}{Q:ZA}(ht:IsTup s.heap t vs.toArray)(hb:IsTup s.heap b ws.toArray)(hv:vs≠[])(h1:ws=[]->Q (.ref t) s)(h2:ws≠[]->Q (.ref s.heap.objs.size) {s with heap:=s.heap.push {cls:=.type "tuple",data:=.seq (vs++ws).toArray}})(hsz:vs.length+ws.length<=sizeLine):wpAny 'p' A (binaryOp .Add (.ref t) (.ref b)) Q E s:=by
 let⟨⟨cls,dd,data,sl⟩,ho,hc,n,hd⟩:=id ht;let⟨⟨cls2,dd2,data2,sl2⟩,ho2,hc2,n2,hd2⟩:=id hb;simp only at hc hd hc2 hd2;subst hc hd hc2 hd2;have e:vs.toArray++ws.toArray=(vs++ws).toArray:=by simp
 by_cases hw:ws=[]
 .exact concat_meets ⟨_,ho,rfl⟩ ⟨_,ho2,rfl⟩ noFill_tuple_add seq_tuple_add PySem.F.slot_tuple_add PySem.F.entry_tuple_add (PySem.F.args_tuple_add_2 _ _)
   (tuple_addW1 t b vs.toArray ws.toArray n n2 dd dd2 sl sl2 (by simpa using hv) (by simp[hw])) ⟨ho,ho2,h1 hw⟩
 .refine concat_meets ⟨_,ho,rfl⟩ ⟨_,ho2,rfl⟩ noFill_tuple_add seq_tuple_add PySem.F.slot_tuple_add PySem.F.entry_tuple_add (PySem.F.args_tuple_add_2 _ _)
   (tuple_addW2 t b vs.toArray ws.toArray n n2 dd dd2 sl sl2 (by simpa using hv) (by simpa using hw) 'l') ⟨ho,ho2,?_⟩
  rw[e];exact h2 hw
def sIx(n d:Nat):Option Int->Nat
 |none=>d
 |some v=>if v<0 then (v+(n:Int)).toNat else min v.toNat n
def sIx_none(n d:Nat):sIx n d none=d:=rfl
def sIx_nat(n d k:Nat):sIx n d (some (k:Int))=min k n:=by
 show (if (k:Int)<0 then ((k:Int)+(n:Int)).toNat else min (k:Int).toNat n)=min k n;rw[Ã ∅,ü]
def aG6(n d:Nat)(hd:d<=n)(o:Option Int):sIx n d o<=n:=by
 cases o with
 |none=>exact hd
 |some v=>
  show (if v<0 then (v+(n:Int)).toNat else min v.toNat n)<=n;by_cases hv:v<0
  .rw[Â hv];lia
  .rw[Ã hv];exact Nat.min_le_right _ _
def M5(v:Int)(n d:Nat):(if v<0 then max (v+(n:Int)) 0 else min v (n:Int))=((sIx n d (some v):Nat):Int):=by
 show (if v<0 then max (v+(n:Int)) 0 else min v (n:Int))=(((if v<0 then (v+(n:Int)).toNat else min v.toNat n):Nat):Int)
 grind
def K0(lo hi:Option Int)(n:Nat):Builtin.Slice.sliceAdjust lo hi 1 (n:Int)=(((sIx n 0 lo:Nat):Int),((sIx n n hi:Nat):Int)):=by
 have h1:¬((1:Int)<0):=by decide
 unfold Builtin.Slice.sliceAdjust;simp![h1,if_false];refine Prod.ext ?_ ?_
 .cases lo with
  |none=>rfl
  |some v=>exact M5 v n 0
 .cases hi with
  |none=>rfl
  |some v=>exact M5 v n n
def K2(i j:Nat):Builtin.Slice.slicePlaces (i:Int) (j:Int) 1=j-i:=by
 unfold Builtin.Slice.slicePlaces;have h1:(1:Int)>0:=by decide
 simp![h1,if_true,Int.ediv_one];split<;>lia
def w9{v:Value}{o:Option Int}{Q:Option Int->Shared->Prop}(p:IsPart v o)(h:Q o s):wpAny 'p' A (Builtin.Slice.slicePartIndex v) Q E s:=by
 cases p with
 |none=>exact slicePart_none h
 |int i t=>exact slicePart_int h
def uK{sl:Addr}{vl vu:Value}{lo hi:Option Int}{n:Nat}{Q:Int×Int×Nat->Shared->Prop}(hs:s.heap.IsSliceOf sl vl vu .none)(pl:IsPart vl lo)(pu:IsPart vu hi)(h:Q (((sIx n 0 lo:Nat):Int),1,sIx n n hi-sIx n 0 lo) s):wpAny 'p' A (Builtin.Slice.sliceApplied (.ref sl) (pure (n:Int))) Q E s:=by
 let⟨os,hos,hcs,hds⟩:=id hs;unfold Builtin.Slice.sliceApplied Builtin.Slice.sliceFields;refine wpAny_bind (wpAny_bind (wpAny_field hos hds (x:=vl) rfl (wpAny_bind (wpAny_field hos hds (x:=vu) rfl (wpAny_bind (wpAny_field hos hds (x:=.none) rfl (wpAny_pure ?_)))))));refine wpAny_bind (slicePart_none ?_);show wpAny _ _ (if ((1:Int) == 0)=true then _ else _) _ _ s;rw[Ã ⋯];refine wpAny_bind (w9 pl (wpAny_bind (w9 pu (wpAny_bind (wpAny_pure ?_)))));show wpAny _ _ (match Builtin.Slice.sliceAdjust lo hi 1 (n:Int)with|(lo,hi)=>pure (lo,(1:Int),Builtin.Slice.slicePlaces lo hi 1)) _ _ s;rw[K0 lo hi n];show wpAny _ _ (pure (((sIx n 0 lo:Nat):Int),(1:Int),Builtin.Slice.slicePlaces ((sIx n 0 lo:Nat):Int) ((sIx n n hi:Nat):Int) 1)) _ _ s;rw[K2];exact wpAny_pure h
def UG(xs:Array Value)(i k:Nat):((List.range k).filterMap λ(m:Nat)=>xs[((i:Int)+(m:Int)*1).toNat]?).toArray=((xs.toList.drop i).take k).toArray:=by
 have e:(λ(m:Nat)=>xs[((i:Int)+(m:Int)*1).toNat]?)=λm=>xs[i+m]?:=by
  funext m;have:((i:Int)+(m:Int)*1).toNat=i+m:=by lia
  rw[this]
 rw[e];have:=pick_run xs i k;rw[List.filterMap_map]at this;have e2:((λx=>xs[x]?)∘λx=>i+x)=λm=>xs[i+m]?:=rfl;rw[e2]at this;rw[this]
def getItem_tuple_cut{t sl:Addr}{items:Array Value}{vl vu:Value}{lo hi:Option Int}{Q:ZA}(ht:IsTup s.heap t items)(hs:s.heap.IsSliceOf sl vl vu .none)(pl:IsPart vl lo)(pu:IsPart vu hi)(hw:¬(sIx items.size 0 lo=0/\sIx items.size items.size hi=items.size))(h:Q (.ref s.heap.objs.size) {s with heap:=s.heap.push {cls:=.type "tuple",data:=.seq ((items.toList.drop (sIx items.size 0 lo)).take (sIx items.size items.size hi-sIx items.size 0 lo)).toArray}})(hsz:items.size<=sizeLine):wpAny 'p' A (getItem (.ref t) (.ref sl)) Q E s:=by
 have htake:sizeOk (.seq ((items.toList.drop (sIx items.size 0 lo)).take (sIx items.size items.size hi-sIx items.size 0 lo)).toArray):=by
  show ((items.toList.drop (sIx items.size 0 lo)).take (sIx items.size items.size hi-sIx items.size 0 lo)).toArray.size<=sizeLine;rw[é,ê,ď,Array.length_toList];lia
 have hj:sIx items.size items.size hi<=items.size:=aG6 _ _ (È _) hi;let⟨os,hos,hcs,hds⟩:=id hs;have hTs:s.TypeIs (.ref sl) "slice":=⟨os,hos,hcs⟩;unfold getItem
 try with_reducible refine wpAny_holding ?_
 first|refine wpAny_bind (wpAny_pure ?_)|skip
 refine wpAny_bind (wpAny_sequenceKey ht.typeIs ⋯ ?_);refine wpAny_bind (wpAny_callSpecial?_slot (name:=Str.ofString "__getitem__") ht.typeIs PyProof.Rows.slot_tuple_getitem
  (wpAny_call_entry PyProof.Rows.slot_tuple_getitem ht.typeIs entry_tuple_getitem ?_ (args_tuple_getitem _ _)))
 show wpAny _ _ (Builtin.Tuple.tupleItemsOf (.ref t) >>= _) _ _ s;refine wpAny_bind (tupleItemsOf_ ht ?_);refine wpAny_bind (wpAny_typeOf hTs ?_);rw[Â ⋯];refine wpAny_bind (uK hs pl pu ?_);have hno:¬((((sIx items.size 0 lo:Nat):Int) == 0 && (1:Int) == 1 && (sIx items.size items.size hi-sIx items.size 0 lo) == items.size)=true):=by
  intro q;rw[æ,æ]at q;have q1:((sIx items.size 0 lo:Nat):Int)=0:=eq_of_beq q.1.1;have q2:sIx items.size items.size hi-sIx items.size 0 lo=items.size:=eq_of_beq q.2;exact hw ⟨∅,∅⟩
 show wpAny _ _ (if (((sIx items.size 0 lo:Nat):Int) == 0 && (1:Int) == 1 && (sIx items.size items.size hi-sIx items.size 0 lo) == items.size)=true then _ else _) _ _ s;rw[Ã hno,UG]
 first
  |exact wpAny_bind (m:=Builtin.Tuple.tupleExact _) (wpAny_newObj_type (wpAny_pure ⟨_,rfl,wpAny_pure h⟩) htake)
  |exact wpAny_bind (m:=Builtin.Tuple.tupleExact _) (wpAny_newObj_type (wpAny_bind (wpAny_pure (wpAny_pure ⟨_,rfl,wpAny_pure h⟩))) htake)
  |exact wpAny_bind (wpAny_bind (m:=Builtin.Tuple.tupleExact _) (wpAny_newObj_type (wpAny_pure (wpAny_pure ⟨_,rfl,wpAny_pure h⟩)) htake))
  |exact wpAny_bind (wpAny_bind (m:=Builtin.Tuple.tupleExact _) (wpAny_newObj_type (wpAny_pure ⟨_,rfl,wpAny_pure h⟩) htake))
end
end HT
namespace L2
open PySem PySem.Spec PyProof.Rows
abbrev TO:=St->Hp->(Option Int->Hp->Prop)->Prop
def PO(X:Cx)(e:Option Expr)(t:TO):Prop:=
 ∀(À:ZB)(s:Shared)(σ:St)(H:Hp)(Q:Option Int->Hp->Prop),Inv X À σ H s->t σ H Q ->
  wpAny 'b' X.A (evalPart e X.env) (λu s'=>∃o H',Inv X À σ H' s'/\IsPart u o/\Q o H') X.xe s
def aBB:TO:=λ_ H Q=>Q none H
def aKZ(t:TE):TO:=λσ H Q=>t σ H λx H1=>∃i,x=.int i/\Q (some i) H1
section
variable {X:Cx}{e:Expr}{te:TE}{lo hi:Option Expr}{tl th:TO}{pos p2:Pos}
def aBC:PO X none aBB:=by
 intro À s σ H Q I h;rw[evalPart_none];exact wpAny_pure ⟨none,H,I,.none,h⟩
def aBD(h:PE X e te):PO X (some e) (aKZ te):=by
 intro À s σ H Q I hw;rw[evalPart_some];refine cA (h À s σ H _ I hw) λu s1 zQ=>?_;let⟨x,H1,I1,r1,q1⟩:=zQ;let⟨i,rfl,q⟩:=q1;let⟨t,rfl⟩:=r1;exact⟨some i,H1,I1,.int i t,q⟩
def Ŋ(X:Cx)(r:V->Option Int->Option Int->Hp->VK->Prop):Prop:=
 ∀(À:ZB)(s:Shared)(σ:St)(H:Hp)(x:V)(v vl vu:Value)(lo hi:Option Int)(sl:Addr)(Q:VK),Inv X À σ H s->bH x v->s.heap.IsSliceOf sl vl vu .none->IsPart vl lo->IsPart vu hi->r x lo hi H Q ->
  ∃T id,typeLookup (.type T) "__getitem__"=pure (some (.builtin id))/\s.TypeIs v T/\wpAny 'b' X.A (getItem v (.ref sl)) (EP X À σ Q) X.xe s
def aQE(r:V->Option Int->Option Int->Hp->VK->Prop)(te:TE)(tl th:TO):TE:=λσ H Q=>te σ H λx H1=>tl σ H1 λl H2=>th σ H2 λu H3=>r x l u H3 Q
def GM(hr:Ŋ X r)(he:PE X e te)(hl:PO X lo tl)(hu:PO X hi th):PE X (.Subscript e (.Slice lo hi none p2) pos) (aQE r te tl th):=by
 intro À s σ H Q I h;refine Subscript_ (cA (he À s σ H _ I h) λv s1 zQ=>?_);let⟨x,H1,I1,r1,q1⟩:=zQ;refine wpAny_Slice (cA (hl À s1 σ H1 _ I1 q1) λvl s2⟨l,H2,I2,pl,q2⟩=>cA (hu À s2 σ H2 _ I2 q2) λvu s3 zQ=>?_);let⟨u,H3,I3,pu,q3⟩:=zQ;rw[evalPart_none];refine wpAny_pure ?_;have I4:Inv X À σ H3 {s3 with heap:=s3.heap.push {cls:=.type "slice",data:=.fields #[vl,vu,.none]}}:=I3.kept (t':=s3.toks) λb ob q=>Heap.get?_push_of_some _ q;let⟨T,id,hT,ht,hg⟩:=hr À {s3 with heap:=s3.heap.push {cls:=.type "slice",data:=.fields #[vl,vu,.none]}} σ H3 x v vl vu l u s3.heap.objs.size Q I4 r1 (Heap.IsSliceOf.new ..) pl pu q3;show wpAny 'b' X.A (subscriptTail e (.Slice lo hi none p2) v (.ref s3.heap.objs.size)) (EP X À σ Q) X.xe {s3 with heap:=s3.heap.push {cls:=.type "slice",data:=.fields #[vl,vu,.none]}};exact tail_any (ops:=[.ref s3.heap.objs.size,v]) ht hT hg (by with_unfolding_all rfl)
def DK(xs:List V)(lo hi:Option Int):(List V):=(xs.drop (HT.sIx xs.length 0 lo)).take (HT.sIx xs.length xs.length hi-HT.sIx xs.length 0 lo)
def vU(xs:List V)(lo hi:Option Int):(DK xs lo hi).length<=xs.length:=by
 unfold DK;rw[ê,ď];lia
def ν(K:ZC):V->Option Int->Option Int->Hp->VK->Prop:=λx lo hi H Q=>∃a xs,x=.ref a/\rX K H a xs /\
 ¬(HT.sIx xs.length 0 lo=0/\HT.sIx xs.length xs.length hi=xs.length)/\∀p,H p=none->Q (.ref p) (aV H p (.tup (DK xs lo hi)))
def UH:Ŋ X (ν X.K):=by
 intro À s σ H x v vl vu lo hi sl Q I rx hs pl pu h;let⟨a,xs,rfl,hx,hw,q⟩:=h;cases rx;let⟨its,r,ht,hz⟩:=I.tuple hx;have hlen:its.toArray.size=xs.length:=by rw[é];exact r.length.symm
 refine⟨"tuple",_,PyProof.Rows.slot_tuple_getitem.lookup,ht.typeIs,?_⟩;refine HT.getItem_tuple_cut ht hs pl pu (by rw[hlen];exact hw) ?_ (by rw[hlen];exact hz);rw[hlen];refine⟨.ref s.heap.objs.size,_,I.laid (t':=s.toks) (o:=.tup (DK xs lo hi)) (λb ob q=>Heap.get?_push_of_some _ q) (È _) ?_,rfl,q _ (I.hok.fresh (È _))⟩;exact⟨Ü (vU xs lo hi) hz,_,(r.drop (HT.sIx xs.length 0 lo)).take (HT.sIx xs.length xs.length hi-HT.sIx xs.length 0 lo),IsTup.new _ _⟩
def ξ(K:ZC):R2:=λx y H Q=>∃a b xs ys,x=.ref a/\y=.ref b/\rX K H a xs/\rX K H b ys/\xs≠[]/\xs.length+ys.length<=sizeLine /\
 (ys=[]->Q (.ref a) H)/\(ys≠[]->∀p,H p=none->Q (.ref p) (aV H p (.tup (xs++ys))))
def bI.nil_iff(r:bI xs us):us=[]↔xs=[]:=by
 cases r with
 |nil=>simp
 |cons _ _=>simp
def aBE:kC X (binaryOp .Add) (ξ X.K):=by
 intro À s σ H x y v u Q I rx ry h;let⟨a,b,xs,ys,rfl,rfl,ha,hb,hx,hz,q1,q2⟩:=h;cases rx;cases ry;let⟨its,r1,p1,_⟩:=I.tuple ha;let⟨its2,r2,p2,_⟩:=I.tuple hb;refine HT.cat_tup p1 p2 (λz=>hx (r1.nil_iff.mp z)) (λz=>⟨.ref a,H,I,rfl,q1 (r2.nil_iff.mp z)⟩) (λz=>?_) (by rw[<- r1.length,<- r2.length];exact hz);refine⟨.ref s.heap.objs.size,_,I.laid (t':=s.toks) (o:=.tup (xs++ys)) (λb ob q=>Heap.get?_push_of_some _ q) (È _) ?_,rfl,q2 (λw=>z (r2.nil_iff.mpr w)) _ (I.hok.fresh (È _))⟩;exact⟨by rw[Ñ];exact hz,_,r1.append r2,IsTup.new _ _⟩
end
def oJ(n:Nat)(i:Int):(Option Nat):=if 0<=i then (if i<n then some i.toNat else none)else if -(n:Int)<=i then some (i+n).toNat else none
def atI{α:Type}(xs:List α)(i:Int):(Option α):=(oJ xs.length i).bind λj=>xs[j]?
def M6(h:oJ n i=some j):seqIndex? i n=some j/\j<n/\-(n:Int)<=i/\i<n:=by
 unfold oJ at h;by_cases h0:0<=i
 .rw[Â h0]at h
  by_cases h1:i<n
  .rw[Â h1]at h
   have e:i.toNat=j:=Option.some.inj h;exact⟨by rw[seqIndex_of h0 h1,e],∅,∅,h1⟩
  grind
 .rw[Ã h0]at h
  by_cases h1:-(n:Int)<=i
  .rw[Â h1]at h
   have e:(i+n).toNat=j:=Option.some.inj h;exact⟨by rw[seqIndex_neg (by exact Int.not_le.mp ‹_›) h1,e],∅,h1,∅⟩
  grind
def DL{v:α}(h:atI xs i=some v):∃j,seqIndex? i xs.length=some j/\xs[j]?=some v/\j<xs.length/\-(xs.length:Int)<=i/\i<xs.length:=by
 unfold atI at h;cases e:oJ xs.length i with
 |none=>rw[e]at h;cases h
 |some j=>
  rw[e]at h;let⟨h1,h2,h3,h4⟩:=M6 e;exact⟨j,h1,h,h2,h3,h4⟩
def dP{j:Nat}{v:α}(h:xs[j]?=some v):atI xs (j:Int)=some v:=by
 have hj:j<xs.length:=(Î.mp h).1;have e:oJ xs.length (j:Int)=some j:=by
  unfold oJ;rw[Â ∅,Â ∅];simp
 unfold atI;rw[e];exact h
def oK(b:Expr):Prop:=∀o i,subscripted b false o i=operate [o,i] (getItem o i)
def đ(X:Cx)(r:R2):Prop:=
 ∀(value slice:Expr)(À:ZB)(s:Shared)(σ:St)(H:Hp)(x y:V)(v u:Value)(Q:VK),Inv X À σ H s->bH x v->bH y u->r x y H Q ->
  subscripted slice false v u=operate [v,u] (getItem v u)->wpAny 'b' X.A (subscriptTail value slice v u) (EP X À σ Q) X.xe s
def Ĺ(X:Cx)(id:String)(r:V->List V->Hp->VK->Prop):Prop:=
 ∀(À:ZB)(s:Shared)(σ:St)(H:Hp)(x:V)(xs:List V)(v:Value)(us:ZJ)(Q:VK),Inv X À σ H s->bH x v->bI xs us->r x xs H Q ->
  wpAny 'b' X.A (call (.builtin id) (v::us)) (EP X À σ Q) X.xe s
section
variable {X:Cx}
def đ.or(h:đ X r)(h':đ X r'):đ X (λx y H Q=>r x y H Q\/r' x y H Q):=by
 intro value slice À s σ H x y v u Q I rx ry q hs;rcases q with q|q
 .exact h value slice À s σ H x y v u Q I rx ry q hs
 .exact h' value slice À s σ H x y v u Q I rx ry q hs
def GN(hr:đ X r)(ha:PE X a ta)(hb:PE X b tb)(hs:oK b):PE X (.Subscript a b pos) (ĸ r ta tb):=by
 intro À s σ H Q I h;exact Subscript_ (Ų ha hb I h λv u s2 x y H2 I2 rx ry q=>hr a b À s2 σ H2 x y v u Q I2 rx ry q (hs _ _))
def ŵ(K:ZC):R2:=λx y H Q=>∃p xs i v,x=.ref p/\y=.int i/\d8 K H p xs/\atI xs i=some v/\Q v H
def ο(K:ZC):R2:=λx y H Q=>∃p xs i v,x=.ref p/\y=.int i/\rX K H p xs/\atI xs i=some v/\Q v H
def π:R2:=λx y H Q=>∃z i c,x=.str z/\y=.int i/\z.length<=sizeLine/\atI z.cps.toList i=some c/\Q (.str ⟨#[c]⟩) H
def sC:đ X (ŵ X.K):=by
 intro value slice À s σ H x y v u Q I rx ry h hs;let⟨p,xs,i,z,rfl,rfl,hq,he,q⟩:=h;cases rx;let⟨t,rfl⟩:=ry;let⟨its,r,pl,hz⟩:=I.list hq;let⟨j,h1,h2,h3,h4,h5⟩:=DL he;let⟨w,ew,rw'⟩:=r.get h2;have hl:=r.length;have hn:=qN;have fin:EP X À σ Q w s:=⟨z,H,I,rw',q⟩;by_cases h0:0<=i
 .have hj:i.toNat=j:=by
   rw[seqIndex_of h0 h5]at h1;exact Option.some.inj h1
  exact item_listR pl.isList h0 ∅ (by rw[hj];simpa using ew) fin hs
 .have hj:(i+(its.toArray.size:Int)).toNat=j:=by
   rw[seqIndex_neg (by exact Int.not_le.mp ‹_›) h4]at h1;rw[é,<- hl];exact Option.some.inj h1
  exact subscriptTail_builtinR (x:=w) pl.isList.typeIs slot_list_getitem.lookup
   (wpAny_getItem_list_neg (Q:=λr s'=>r=w/\EP X À σ Q r s') pl.isList (by exact Int.not_le.mp ‹_›) 'l' ∅ (by rw[hj];simpa using ew) ⟨rfl,fin⟩) hs
def aG8:đ X (ο X.K):=by
 intro value slice À s σ H x y v u Q I rx ry h hs;let⟨p,xs,i,z,rfl,rfl,hq,he,q⟩:=h;cases rx;let⟨t,rfl⟩:=ry;let⟨its,r,pl,hz⟩:=I.tuple hq;let⟨j,h1,h2,h3,h4,h5⟩:=DL he;let⟨w,ew,rw'⟩:=r.get h2;have hl:=r.length;have hn:=qN;have fin:EP X À σ Q w s:=⟨z,H,I,rw',q⟩;exact subscriptTail_builtinR (x:=w) pl.typeIs slot_tuple_getitem.lookup
  (getItem_tuple (j:=j) (Q:=λr s'=>r=w/\EP X À σ Q r s') pl ∅ ∅ 'l' (by simpa using ew) ⟨rfl,fin⟩) hs
def aG9:đ X π:=by
 intro value slice À s σ H x y v u Q I rx ry h hs;let⟨z,i,c,rfl,rfl,hz,he,q⟩:=h;let⟨t,rfl⟩:=rx;let⟨t',rfl⟩:=ry;let⟨j,h1,h2,h3,h4,h5⟩:=DL he;have hl:z.cps.toList.length=z.length:=by simp[Str.length]
 rw[hl]at h1 h4 h5;have hn:=qN;exact tail_any (typeIs_str s z t) slot_str_getitem.lookup (getItem_str (c:=c) (by
  grind) (by rw[h1];simpa using h2) ⟨.str ⟨#[c]⟩,H,I.tok _,⟨_,rfl⟩,q⟩) hs
def ς(K:ZC):R2:=λx y H Q=>ŵ K x y H Q\/ο K x y H Q\/π x y H Q
def aHA:đ X (ς X.K):=sC.or (aG8.or aG9)
def K4(its:ZJ)(n j:Nat)(u:Value):Obj.mapSeq (·.setIfInBounds j u) {cls:=.type "list",data:=.seq its.toArray n}={cls:=.type "list",data:=.seq (its.set j u).toArray n}:=by
 simp[Obj.mapSeq]
def Inv.lst(I:Inv X À σ H s)(h:H p=some (.lst xs)):
  ∃(its:ZJ)(n:Nat),bI xs its/\s.heap.get? p=some {cls:=.type "list",data:=.seq its.toArray n}/\xs.length<=sizeLine:=by
 let⟨z,its,n,r,e⟩:=I.hok p _ h;exact⟨its,n,r,e,z⟩
def Inv.lstUpd{À:ZB}{σ:St}{H:Hp}{s:Shared}{p:Addr}{xs ys:List V}{its its':ZJ}{n n':Nat}{f:Obj->Obj}(I:Inv X À σ H s)(h:H p=some (.lst xs))(ho:s.heap.get? p=some {cls:=.type "list",data:=.seq its.toArray n})(hf:f {cls:=.type "list",data:=.seq its.toArray n}={cls:=.type "list",data:=.seq its'.toArray n'})(r:bI ys its')(hz:ys.length<=sizeLine)(t:Nat):
  Inv X À σ (aV H p (.lst ys)) {s with heap:=s.heap.update p f,toks:=t}:=by
 have e:(s.heap.update p f).get? p=some {cls:=.type "list",data:=.seq its'.toArray n'}:=by
  rw[Heap.get?_update_self f ho (by rw[hf]<;>rfl),hf]
 refine I.write (x:=p) (e:=p) (by rw[h];trivial) (.inl rfl) (λb u hb q=>(Heap.get?_update_other _ _ (Í hb)).trans q) ⟨_,e⟩ ?_;exact⟨hz,its',n',r,e⟩
def aK4:V->V->V->Hp->(Hp->Prop)->Prop:=λo i v H Q=>∃p xs k j,o=.ref p/\i=.int k/\H p=some (.lst xs)/\oJ xs.length k=some j/\Q (aV H p (.lst (xs.set j v)))
def GO:ζ X aK4:=by
 intro À s σ H o i v ov iv u Q I ro ri rv h;let⟨p,xs,k,j,rfl,rfl,hp,hj,q⟩:=h;cases ro;let⟨t,rfl⟩:=ri;let⟨its,n,r,ho,hz⟩:=I.lst hp;let⟨h1,h2,h3,h4⟩:=M6 hj;have hl:=r.length;have hn:=qN;have I':Inv X À σ (aV H p (.lst (xs.set j v))) {s with heap:=s.heap.update p (Obj.mapSeq (·.setIfInBounds j u))}:=
  I.lstUpd hp ho (K4 its n j u) (r.set rv j) (by rw[Ï];exact hz) s.toks
 by_cases h0:0<=k
 .have hk:k.toNat=j:=by
   rw[seqIndex_of h0 h4]at h1;exact Option.some.inj h1
  exact W.ki_setAt ho h0 ∅ (by rw[é,<- hl];exact h4) (by rw[hk];exact⟨_,I',q⟩)
 .have hk:(k+(its.toArray.size:Int)).toNat=j:=by
   rw[seqIndex_neg (by exact Int.not_le.mp ‹_›) h3]at h1;rw[é,<- hl];exact Option.some.inj h1
  exact W.ki_setBack ho (by exact Int.not_le.mp ‹_›) (by rw[é,<- hl];exact h3) ∅ (by rw[hk];exact⟨_,I',q⟩)
def DM(lo hi:Option Int)(n:Nat):(sliceBounds lo hi none n).1=((HT.sIx n 0 lo:Nat):Int)/\(sliceBounds lo hi none n).2.1=((HT.sIx n n hi:Nat):Int)/\(sliceBounds lo hi none n).2.2=1:=by
 refine⟨?_,?_,rfl⟩
 .cases lo with
  |none=>simp[sliceBounds,HT.sIx]
  |some i=>
   simp![sliceBounds,HT.sIx,Option.getD_none,show (1:Int)>0 by decide,if_true]
   grind
 .cases hi with
  |none=>simp[sliceBounds,HT.sIx]
  |some i=>
   simp![sliceBounds,HT.sIx,Option.getD_none,show (1:Int)>0 by decide,if_true]
   grind
def AZ(its:ZJ)(lo hi:Option Int):slicePick its.toArray lo hi none=((its.drop (HT.sIx its.length 0 lo)).take (HT.sIx its.length its.length hi-HT.sIx its.length 0 lo)).toArray:=by
 let⟨h1,h2,h3⟩:=DM lo hi its.toArray.size;unfold slicePick;rw[h1,h2,h3];simp![sliceRange_one,pick_run,é]<;>rfl
def τ(K:ZC):V->Option Int->Option Int->Hp->VK->Prop:=λx lo hi H Q=>∃a xs,x=.ref a/\d8 K H a xs/\∀p,H p=none->Q (.ref p) (aV H p (.lst (DK xs lo hi)))
def wG:Ŋ X (τ X.K):=by
 intro À s σ H x v vl vu lo hi sl Q I rx hs pl pu h;let⟨a,xs,rfl,hx,q⟩:=h;cases rx;let⟨its,r,ht,hz⟩:=I.list hx;have hlen:=r.length;refine⟨"list",_,slot_list_getitem.lookup,ht.isList.typeIs,?_⟩;refine wpAny_getItem_list_slice ht.isList hs pl pu .none 'e' ?_ 'l';rw[AZ,<- hlen];refine⟨.ref s.heap.objs.size,_,I.laid (t':=s.toks) (o:=.lst (DK xs lo hi)) (λb ob q=>Heap.get?_push_of_some _ q) (È _) ?_,rfl,q _ (I.hok.fresh (È _))⟩;exact⟨Ü (vU xs lo hi) hz,_,0,(r.drop (HT.sIx xs.length 0 lo)).take (HT.sIx xs.length xs.length hi-HT.sIx xs.length 0 lo),Heap.get?_push_size _ rfl⟩
def pX:V->Bool
 |.non=>true
 |.bl _=>true
 |.int _=>true
 |.str _=>true
 |_=>false
def ĝ:V->V->Bool
 |.non,.non=>true
 |.bl a,.bl b=>a == b
 |.bl a,.int b=>(if a then 1 else 0) == b
 |.int a,.bl b=>a == (if b then 1 else 0)
 |.int a,.int b=>a == b
 |.str a,.str b=>a == b
 |_,_=>false
def aHB(ry:bH y u)(rx:bH x v)(fy:pX y=true)(fx:pX x=true):SeqAt.EqAt A s u v (ĝ y x):=by
 cases y with
 |non=>
  cases ry;cases x with
  |non=>cases rx;exact SeqAt.EqAt.same _
  |bl b=>cases rx;exact SeqAt.EqAt.none_bool b
  |int b=>let⟨t,rfl⟩:=rx;exact SeqAt.EqAt.none_int b t
  |str b=>let⟨t,rfl⟩:=rx;exact SeqAt.EqAt.none_str b t
  |_=>exact absurd (show false=true from fx) á
 |bl a=>
  cases ry;cases x with
  |non=>cases rx;exact SeqAt.EqAt.bool_none a
  |bl b=>cases rx;exact SeqAt.EqAt.bool_bool a b
  |int b=>let⟨t,rfl⟩:=rx;exact SeqAt.EqAt.bool_int a b t
  |str b=>let⟨t,rfl⟩:=rx;exact SeqAt.EqAt.bool_str a b t
  |_=>exact absurd (show false=true from fx) á
 |int a=>
  let⟨t',rfl⟩:=ry;cases x with
  |non=>cases rx;exact SeqAt.EqAt.int_none a t'
  |bl b=>cases rx;exact SeqAt.EqAt.int_bool a t' b
  |int b=>let⟨t,rfl⟩:=rx;exact SeqAt.EqAt.int_int a t' b t
  |str b=>let⟨t,rfl⟩:=rx;exact SeqAt.EqAt.int_str a t' b t
  |_=>exact absurd (show false=true from fx) á
 |str a=>
  let⟨t',rfl⟩:=ry;cases x with
  |non=>cases rx;exact SeqAt.EqAt.str_none a t'
  |bl b=>cases rx;exact SeqAt.EqAt.str_bool a t' b
  |int b=>let⟨t,rfl⟩:=rx;exact SeqAt.EqAt.str_int a t' b t
  |str b=>let⟨t,rfl⟩:=rx;exact SeqAt.EqAt.str_str a t' b t
  |_=>exact absurd (show false=true from fx) á
 |_=>exact absurd (show false=true from fy) á
def Ē(x:V)(u:Value):Bool:=match u with
 |.none=>ĝ .non x
 |.bool b=>ĝ (.bl b) x
 |.int i _=>ĝ (.int i) x
 |.str z _=>ĝ (.str z) x
 |_=>false
def UI(r:bH y u)(f:pX y=true):Ē x u=ĝ y x:=by
 cases y with
 |non=>cases r;rfl
 |bl b=>cases r;rfl
 |int i=>let⟨t,rfl⟩:=r;rfl
 |str z=>let⟨t,rfl⟩:=r;rfl
 |_=>exact absurd (show false=true from f) á
def DN :∀{xs:List V}{us:ZJ},bI xs us->xs.all pX=true->us.any (Ē x)=xs.any λy=>ĝ y x
 |_,_,.nil,_=>rfl
 |y::xs,u::us,.cons r t,f=>by
  rw[List.all_cons,æ]at f;rw[List.any_cons,List.any_cons,UI r f.1,DN t f.2]
def xA(rx:bH x v)(fx:pX x=true):∀{xs:List V}{us:ZJ},bI xs us->xs.all pX=true->∀u∈us,SeqAt.EqAt A s u v (Ē x u)
 |_,_,.nil,_=>λu hu=>by cases hu
 |y::xs,u::us,.cons r t,f=>λu' hu=>by
  rw[List.all_cons,æ]at f;rcases Õ.mp hu with rfl|hu
  .rw[UI r f.1];exact aHB r rx f.1 fx
  .exact xA rx fx t f.2 u' hu
def Ğ(x:V)(xs:List V):Bool:=xs.any λy=>ĝ y x
def υ(K:ZC)(neg:Bool):R2:=λx y H Q=>∃p xs,y=.ref p/\(d8 K H p xs\/rX K H p xs)/\pX x=true/\xs.all pX=true/\Q (.bl (if neg then !Ğ x xs else Ğ x xs)) H
def DP:kC X (compareOp .NotIn) (υ X.K true):=by
 intro À s σ H x y v u Q I rx ry h;let⟨p,xs,rfl,hq,fx,fs,q⟩:=h;cases ry;rcases hq with hq|hq
 .obtain⟨its,r,pl,hz⟩:=I.list hq
  refine SeqAt.notIn_listAt (Ē x) pl.isList (λw hw=>xA rx fx r fs w (by simpa using hw)) ⟨.bl _,H,I,rfl,?_⟩;rw[show its.toArray.any (Ē x)=its.any (Ē x) by simp,DN r fs];exact q
 .obtain⟨its,r,pl,hz⟩:=I.tuple hq
  refine SeqAt.notIn_tupleAt (Ē x) pl (λw hw=>xA rx fx r fs w (by simpa using hw)) ⟨.bl _,H,I,rfl,?_⟩;rw[show its.toArray.any (Ē x)=its.any (Ē x) by simp,DN r fs];exact q
def sD:gZ X (.builtin "len") (λxs H Q=>∃p ys,xs=[.ref p]/\(d8 X.K H p ys\/rX X.K H p ys)/\Q (.int ys.length) H):=by
 intro À s σ H xs us Q I r h;let⟨p,ys,rfl,hq,q⟩:=h;let⟨u,rfl,rx⟩:=pV r;cases rx;have hn:=qN;rcases hq with hq|hq
 .obtain⟨its,r',pl,hz⟩:=I.list hq
  have hlen:=r'.length;exact Calls.call_len_list pl.isList 'l' ⟨.int ys.length,H,I.tok _,⟨s.toks+1,by grind⟩,q⟩
 .obtain⟨its,r',pl,hz⟩:=I.tuple hq
  have hlen:=r'.length;exact len_tuple pl 'l' ⟨.int ys.length,H,I.tok _,⟨s.toks+1,by grind⟩,q⟩
def DQ:gZ X (.builtin "len") (λxs H Q=>∃z,xs=[.str z]/\z.length<=sizeLine/\Q (.int z.length) H):=by
 intro À s σ H xs us Q I r h;let⟨z,rfl,hz,q⟩:=h;let⟨u,rfl,t,rfl⟩:=pV r;have hn:=qN;exact len_str ∅ ⟨.int z.length,H,I.tok _,⟨_,rfl⟩,q⟩
def gZ.or(h:gZ X f r)(h':gZ X f r'):gZ X f (λxs H Q=>r xs H Q\/r' xs H Q):=by
 intro À s σ H xs us Q I rs q;rcases q with q|q
 .exact h À s σ H xs us Q I rs q
 .exact h' À s σ H xs us Q I rs q
def lU:gZ X (.type "list") (λxs H Q=>∃p ys,xs=[.ref p]/\(d8 X.K H p ys\/rX X.K H p ys)/\∀l,H l=none->Q (.ref l) (aV H l (.lst ys))):=by
 intro À s σ H xs us Q I r h;let⟨p,ys,rfl,hq,q⟩:=h;let⟨u,rfl,rx⟩:=pV r;cases rx;have fin:∀(its:ZJ),bI ys its->ys.length<=sizeLine->∀(h':Heap)(c':Nat),(∀b o',s.heap.get? b=some o'->h'.get? b=some o') ->
   h'.get? s.heap.objs.size=some {cls:=.type "list",dict:=none,data:=.seq its.toArray c',slots:=#[]}->EP X À σ Q (.ref s.heap.objs.size) {s with heap:=h'}:=λits r' hz h' c' kp e=>
  ⟨.ref s.heap.objs.size,_,I.laid (t':=s.toks) kp (È _) (show eC X.prog X.w _ h' _ (.lst ys)from⟨hz,its,c',r',e⟩),rfl,q _ (I.hok.fresh (È _))⟩
 rcases hq with hq|hq
 .obtain⟨its,r',pl,hz⟩:=I.list hq
  have hlen:=r'.length;let⟨o,ho,hc,n,hd⟩:=pl.isList;exact call_list_seq p (.inl rfl) ho hc hd (λh' c' kp e=>fin its r' hz h' c' kp e) 'l'
 .obtain⟨its,r',pl,hz⟩:=I.tuple hq
  have hlen:=r'.length;let⟨o,ho,hc,n,hd⟩:=pl;exact call_list_seq p (.inr rfl) ho hc hd (λh' c' kp e=>fin its r' hz h' c' kp e) 'l'
def ŋ(K:ZC)(T:String)(x:V)(H:Hp):Prop:=match x with
 |.str _=>T="str"
 |.int _=>T="int"
 |.ref p=>(T="list"/\∃xs,d8 K H p xs)\/(T="tuple"/\∃o,K.lookup p=some o/\o.cls=.type "tuple"/\o.dict=none) \/
   (T="dict"/\((∃Á,H p=some (.dK Á))\/∃Á,H p=some (.dT Á)))\/(T="set"/\∃S n,H p=some (.set S n))
 |_=>False
theorem UJ(I:Inv X À σ H s)(r:bH x v)(ty:ŋ X.K T x H):
  s.TypeIs v T/\∀a,v=.ref a->∃ob,s.heap.get? a=some ob/\ob.dict=none:=by
 cases x with
 |str z=>
  let⟨t,rfl⟩:=r;cases (show T="str"from ty);exact⟨typeIs_str s z t,λ_ e=>nomatch e⟩
 |int i=>
  let⟨t,rfl⟩:=r;cases (show T="int"from ty);exact⟨typeIs_int s i t,λ_ e=>nomatch e⟩
 |ref p=>
  cases r;rcases ty with ⟨rfl,xs,hq⟩|⟨rfl,o,hk,hc,hd⟩|⟨rfl,hk⟩|⟨rfl,S,n,hk⟩
  .obtain⟨its,_,pl,_⟩:=I.list hq
   refine⟨pl.isList.typeIs,λa e=>?_⟩;cases e;let⟨o,n,e,c,hd,_⟩:=pl;exact⟨o,e,hd⟩
  .refine⟨⟨o,I.kIn p o hk,hc⟩,λa e=>?_⟩
   cases e;exact⟨o,I.kIn _ o hk,hd⟩
  .have z:∃o,s.heap.get? p=some o/\o.ExactDict:=by
    rcases hk with ⟨Á,hk⟩|⟨Á,hk⟩
    .obtain⟨_,_,_,_,o,_,_,e,ex,_⟩:=I.hok p _ hk
     exact⟨o,e,ex⟩
    .obtain⟨_,_,_,_,o,_,_,e,ex,_⟩:=I.hok p _ hk
     exact⟨o,e,ex⟩
   let⟨o,e,ex⟩:=z;refine⟨⟨o,e,ex.1⟩,λa e2=>?_⟩;cases e2;exact⟨o,e,ex.2.1⟩
  .obtain⟨o,_,_,_,e,ex,_⟩:=I.hok p _ hk
   refine⟨⟨o,e,ex.1⟩,λa e2=>?_⟩;cases e2;exact⟨o,e,ex.2.1⟩
 |_=>exact False.elim ty
def aOF(K:ZC)(T:String)(r:V->List V->Hp->VK->Prop)(to:TE):TE:=λσ H Q=>to σ H λx H1=>ŋ K T x H1/\r x [] H1 Q
def Ŷ(K:ZC)(T:String)(r:V->List V->Hp->VK->Prop)(to:TE)(t:TA):TE:=λσ H Q=>to σ H λx H1=>ŋ K T x H1/\t σ H1 λxs H2=>r x xs H2 Q
variable {o e:Expr}{es:List Expr}{to:TE}{t:TA}{name:Str}{apos cpos:Pos}{T id:String}{r:V->List V->Hp->VK->Prop}
def aHC(pa:PlainAttrs T)(slot:Slot T name id)(hty:typeOf (.builtin id)=pure (.type "method_descriptor"))(hm:Ĺ X id r)(ho:PE X o to)(hbase:↥(attributeBase o name X.env (eval o X.env)=eval o X.env))(hline:↥((apos.endLine == cpos.line)=true)):PE X (.Call (.Attribute o name apos) [] [] cpos) (aOF X.K T r to):=by
 intro À s σ H Q I h;refine wpAny_Call_method0_late hbase hline (cA (ho À s σ H _ I h) λv s1 zQ=>?_);let⟨x,H1,I1,r1,ty,q1⟩:=zQ;let⟨h1,h2⟩:=UJ I1 r1 ty;exact⟨T,id,pa,slot,hty,h1,h2,Calls.callWith_builtin rfl (PySem.evalArgs_none (hm À s1 σ H1 x [] v [] Q I1 r1 .nil q1))⟩
def UK(pa:PlainAttrs T)(slot:Slot T name id)(hty:typeOf (.builtin id)=pure (.type "method_descriptor"))(hm:Ĺ X id r)(ho:PE X o to)(ha:PA X (e::es) t)(hbase:↥(attributeBase o name X.env (eval o X.env)=eval o X.env))(hfew:↥(((backTo cpos (starEach (e::es) X.env)).all (λx=>!x.1) && (backToKw cpos (keywordEach [] X.env)).all (λx=>x.1.isSome)
   && decide ((e::es).length+([]:List Keyword).length+(if ([]:List Keyword).isEmpty then 0 else 1)<30))=true))(hline:↥((apos.endLine == cpos.line)=true))(hs:↥(Zse e es X.env))(hplain:↥(Zbt cpos es X.env)):
  PE X (.Call (.Attribute o name apos) (e::es) [] cpos) (Ŷ X.K T r to t):=by
 intro À s σ H Q I h;refine wpAny_Call_method_late hbase hfew hline rfl (cA (ho À s σ H _ I h) λv s1 zQ=>?_);let⟨x,H1,I1,r1,ty,q1⟩:=zQ;let⟨h1,h2⟩:=UJ I1 r1 ty;refine⟨T,id,pa,slot,hty,h1,h2,?_⟩;have hA:=ha cpos À s1 σ H1 _ I1 q1;rw[hs]at hA⊢;refine Calls.callWith_builtin (by show (false || (backTo cpos (starEach es X.env)).any (·.1))=false;rw[hplain]<;>rfl) (Calls.evalArgs_plain ?_)
 exact cA hA λus s2 zQ=>by let⟨vs,H2,I2,r2,q2⟩:=zQ;exact hm À s2 σ H2 x vs v us Q I2 r1 r2 q2
end
def Ō(X:Cx)(id:String)(r:V->List V->Hp->VK->Prop):Prop:=
 ∀(À:ZB)(s:Shared)(σ:St)(H:Hp)(x:V)(xs:List V)(v:Value)(us:ZJ)(Q:VK),Inv X À σ H s->bH x v->bI xs us->r x xs H Q ->
  wpAny 'b' X.A (call (.builtin id) (v::us)) (EP X À σ Q) X.xe s
def bI.one:∀{x:V}{us:ZJ},bI [x] us->∃u,us=[u]/\bH x u:=λh=>pV h
def bI.zero:∀{us:ZJ},bI [] us->us=[]
 |_,.nil=>rfl
def bI.dropLast(h:bI xs us):bI xs.dropLast us.dropLast:=by
 induction h with
 |nil=>exact .nil
 |cons r t ih=>
  cases t with
  |nil=>exact .nil
  |cons q t'=>exact .cons r ih
def bI.eraseIdx:∀{xs:List V}{us:ZJ}(i:Nat),bI xs us->bI (xs.eraseIdx i) (us.eraseIdx i)
 |_,_,_,.nil=>.nil
 |_,_,0,.cons _ t=>t
 |_,_,i+1,.cons r t=>.cons r (bI.eraseIdx i t)
def K5{α:Type}(l:List α):l.eraseIdx (l.length-1)=l.dropLast:=by
 grind
section
variable {X:Cx}{À:ZB}{σ:St}{H:Hp}{s:Shared}{l:Addr}{xs ys:List V}
def Inv.lset{its its':ZJ}{n:Nat}{f:Array Value->Array Value}{t':Nat}(I:Inv X À σ H s)(hH:H l=some (.lst xs))(e:s.heap.get? l=some {cls:=.type "list",data:=.seq its.toArray n})(hf:f its.toArray=its'.toArray)(hv:bI ys its')(hz:ys.length<=sizeLine):
  Inv X À σ (aV H l (.lst ys)) {s with heap:=s.heap.update l (Obj.mapSeq f),toks:=t'}:=by
 have q:=PySem.IsL.update e f;rw[hf]at q;refine I.write (x:=l) (e:=l) (by rw[hH];exact trivial) (.inl rfl) (λb' u hb hu=>(Heap.get?_update_other s.heap (Obj.mapSeq f) (Í hb)).trans hu) ⟨_,q⟩ ?_;exact⟨hz,its',_,hv,q⟩
def Inv.lnew(I:Inv X À σ H s)(hv:bI ys its)(hz:ys.length<=sizeLine):
  Inv X À σ (aV H s.heap.objs.size (.lst ys)) {s with heap:=s.heap.push {cls:=.type "list",data:=.seq its.toArray},toks:=t'}:=
 I.laid (λ_ _ q=>Heap.get?_push_of_some _ q) (È _) ⟨hz,its,0,hv,Heap.get?_push_size _ rfl⟩
def Inv.fresh(I:Inv X À σ H s):H s.heap.objs.size=none:=I.hok.fresh (È _)
def Inv.lstM(I:Inv X À σ H s)(hH:H l=some (.lst xs)):xs.length<=sizeLine/\∃(its:ZJ)(n:Nat),bI xs its/\xs.length=its.length/\s.heap.get? l=some {cls:=.type "list",data:=.seq its.toArray n}:=by
 let⟨z,its,n,r,e⟩:=I.hok l _ hH;exact⟨z,its,n,r,r.length,e⟩
def UL(h:n<=sizeLine):Builtin.List.listTooLong n=false:=by
 unfold Builtin.List.listTooLong
 grind
end
section
def M7:V->List V->Hp->VK->Prop:=λx vs H Q=>∃l xs y,x=.ref l/\vs=[y]/\H l=some (.lst xs)/\xs.length<sizeLine/\Q .non (aV H l (.lst (xs++[y])))
def uL:Ō X "list.append" M7:=by
 intro À s σ H x vs v us Q I rx rv h;let⟨l,xs,y,rfl,rfl,hH,hz,q⟩:=h;cases rx;let⟨u,rfl,ru⟩:=rv.one;let⟨z,its,n,r,hl,e⟩:=I.lstM hH;refine call_meets F.slot_list_append ⟨_,e,rfl⟩ F.entry_list_append (F.args_list_append_2 _ _) (PySem.list_append l its.toArray n u (by rw[é];lia)) ⟨e,?_⟩;refine⟨.non,_,I.lset (its':=its++[u]) hH e 'e' (r.append (.cons ru .nil)) ?_,rfl,q⟩;rw[Ñ,ó];assumption
def χ:V->List V->Hp->VK->Prop:=λx vs H Q=>∃l xs y,x=.ref l/\vs=[]/\H l=some (.lst xs)/\xs[xs.length-1]?=some y/\Q y (aV H l (.lst xs.dropLast))
def aHD:Ō X "list.pop" χ:=by
 intro À s σ H x vs v us Q I rx rv h;let⟨l,xs,y,rfl,rfl,hH,hy,q⟩:=h;cases rx;have hus:=rv.zero;subst hus;let⟨z,its,n,r,hl,e⟩:=I.lstM hH;let⟨u,hu,ru⟩:=r.get hy;have hy':its.toArray[its.toArray.size-1]?=some u:=by
  show its.toArray[its.length-1]?=some u;rw[<- Array.getElem?_toList,<- hl];exact hu
 refine call_meets F.slot_list_pop ⟨_,e,rfl⟩ F.entry_list_pop (F.args_list_pop_1 _) (MeetsSeq.list_pop_last l its.toArray n u hy' (by rw[é];lia)) ⟨e,?_⟩;refine⟨y,_,I.lset (its':=its.dropLast) hH e ?_ r.dropLast ?_,ru,q⟩
 .show its.toArray.eraseIdxIfInBounds (its.toArray.size-1)=its.dropLast.toArray
  rw[é,List.eraseIdxIfInBounds_toArray,K5]
 .rw[List.length_dropLast]
  lia
end
section
end
section
end
end L2
namespace Att
open PySem PySem.W PySem.Calls PyProof.Rows
def wE :∀(ns:ZK)(vs:ZJ),WellAll P h vs (ns.map WData.int)->IntsAre vs ns:=by
 intro ns
 induction ns with
 |nil=>
  intro vs w;rw[List.map_nil]at w;cases w;exact .nil
 |cons n ns ih=>
  intro vs w;rw[Ì]at w;cases w with
  |cons a b=>
   cases a;exact .cons _ _ (ih _ b)
def QK{l:OpenLaw}(hn:l.most=some n){vals:ZJ}(hpre:l.row.toRowW.claim.pre args=true)(hwl:WellAll P h vals args):
  ∃a vs ns,vals=[Value.ref a]/\args=[WData.list (ns.map WData.int)]/\h.get? a=some {cls:=.type "list",data:=.seq vs.toArray}/\IntsAre vs ns/\ns.length<=n:=by
 have hsh:WShape.hasAll [] args [.list .int]=true:=(pre_splitW hpre).1;have hc:l.pre.holds [] {args:=args}=true:=(pre_splitW hpre).2;let⟨d,r,rfl,h1,h2⟩:=hasAllW_cons hsh;obtain rfl:=hasAllW_nil h2;let⟨xs,rfl,h3⟩:=hasW_list h1;let⟨ns,rfl⟩:=items_int h3;have hlen:ns.length<=n:=by
  unfold OpenLaw.pre at hc;have h4:(WTm.not (.lt (.lit (.int (n:Int))) (.len (.arg 0)))).holds [] {args:=[.list (ns.map .int)]}=true:=by
   have h4:=(holds_andW hc).1;rw[hn]at h4;exact h4
  have h5:=condW_of h4 (w_not (w_lt w_lit (w_len_list (w_arg rfl))));rw[Å]at h5;refine Nat.le_of_not_lt λq=>?_;have q':(n:Int)<((ns.length:Nat):Int):=by lia
  first
   |grind
   |(simp at h5;lia)
 cases hwl with
 |cons w1 w2=>
  cases w2;cases w1 with
  |list ho hall=>exact⟨_,_,ns,rfl,rfl,ho,wE ns _ hall,hlen⟩
def QL(l:OpenLaw)(args:List WData):l.row.toRowW.claim.post args 'j' args=true:=
 postW_of (r:=l.row.toRowW) (X:=(true == true))
  (show WShape.has [] 'j' .bool=true by first|rfl|decide|simp[WShape.has,WShape.arms,WShape.armsAll])
  (show (WTm.eq .res (.lit 'j')).value [] {args:=args,res:=some 'j',after:=args}=some (.bool (true == true))from w_eq_bool (w_res rfl) w_lit) rfl
def attach_call{l:OpenLaw}{n:Nat}{q:Program}{loose:ZG}{XP:(ZD)->Heap->Prop}{YP:World->Heap->Prop}{d:DefRec}(hn:l.most=some n)(hdf:d.params.defaults=[])(call:∀(w:World)(s₀ s₁:Shared)(mg mb:ZD)(fa:Addr)(o:Obj)(pm cd doc:Value)(a:Addr)(vs:ZJ)(ns:ZK),
   Ground q loose [] XP w s₀ mg mb s₁.heap->YP w s₁.heap ->
   s₁.heap.get? fa=some o->o.data=.func (docDef d.name d.params d.body d.scope pm cd doc)->s₁.heap.CodeRec cd d.name->mg d.name=some (.ref fa) ->
   s₁.heap.get? a=some {cls:=.type "list",data:=.seq vs.toArray}->IntsAre vs ns->ns.length<=n->s₁.gens=#[] ->
   codeAny (model l.prog w) callerA (.call (.ref fa) ⟨[.ref a],[]⟩) (λr s'=>r=.ok (.ret 'j')/\OldK s₁.heap s'.heap/\s'.os=s₁.os/\AllBare s'.gens) s₁):
  WalkO q loose XP YP l.row.toRowW d [] (λf vs=>PySem.call f vs):=by
 intro w s₀ s₁ mg mb G Y fa o pm cd doc dV kV ho hd hcd hD hmg hg args vals as hpre hlay hrd hwl hlo;obtain rfl:dV=.none:=Dflts.none hD hdf;obtain rfl:kV=.none:=Dflts.noKw hD;let⟨a,vs,ns,rfl,rfl,hobj,hints,hlen⟩:=QK hn hpre hwl;refine enter_call (codeAny_mono (call w s₀ s₁ mg mb fa o pm cd doc a vs ns G Y ho (fd_plain hd) hcd hmg hobj hints hlen hg) λr s' hq=>?_);let⟨rfl,h2,h3,h4⟩:=hq;exact⟨.inl ⟨.bool true,.bool true,[],rfl,λ_=>rfl,.bool true,QL l _,λ_=>⟨List.Pairwise.nil,λ_ hm=>(nomatch hm)⟩⟩,h2,h3,h4⟩
section
end
end Att
namespace L2
open PySem PySem.Spec PyProof.Rows
def BS:∀{vs:ZJ}{ns:ZK},IntsAre vs ns->bI (ns.map V.int) vs
 |_,_,.nil=>.nil
 |_,_,.cons n t h=>.cons ⟨t,rfl⟩ (BS h)
def oM(s:Stmt):Arguments:=match s with
 |.FunctionDef _ a _ _ _ _ _ _ _ _=>a
 |_=>{posonlyargs:=[],args:=[],vararg:=none,kwonlyargs:=[],kw_defaults:=[],kwarg:=none,defaults:=[]}
def dQ(s:Stmt):(List Stmt):=match s with
 |.FunctionDef _ _ b _ _ _ _ _ _ _=>b
 |_=>[]
def bD(s:Stmt):Scope:=match s with
 |.FunctionDef _ _ _ _ _ _ sc _ _ _=>sc
 |_=>{kind:=.function,names:=[],isGenerator:=false,isCoroutine:=false}
structure TB(K:ZC)(x qual:Str)(st:Stmt)(f:Addr)(fd:FuncData):Prop where
 ex:∃(oc:Value)(od:Option Addr)(kV doc pm:Value)(an:Option Addr)(cdv ct:Value)(osl:Array (ZN)),
  fd=W.fnOf x qual (oM st) (dQ st) (bD st) .none kV doc pm an cdv ct/\K.lookup f=some ⟨oc,od,.func fd,osl⟩/\W.codeIn K cdv qual=true
 kp:W.keepIn K (.ref f)=true
section
variable {K:ZC}
def TB.binds{st:Stmt}(F:TB K x qual st f fd)(h:∀(kV doc pm:Value)(an:Option Addr)(cdv ct:Value)(us:ZJ),us.length=ps.length->bindArgs (W.fnOf x qual (oM st) (dQ st) (bD st) .none kV doc pm an cdv ct) ⟨us,[]⟩=pure (ps.zip us)):pW K fd ps []:=by
 let⟨oc,od,kV,doc,pm,an,cdv,ct,osl,rfl,lk,hcd⟩:=F.ex;exact .all (h kV doc pm an cdv ct)
def K6{st:Stmt}{kV doc pm cdv ct:Value}(l:K.lookup f=some ⟨oc,od,.func (W.fnOf x qual (oM st) (dQ st) (bD st) .none kV doc pm an cdv ct),osl⟩)(c:W.codeIn K cdv qual=true)(k:W.keepIn K (.ref f)=true):TB K x qual st f (W.fnOf x qual (oM st) (dQ st) (bD st) .none kV doc pm an cdv ct):=⟨⟨oc,od,kV,doc,pm,an,cdv,ct,osl,rfl,l,c⟩,k⟩
end
section
variable {X:Cx}
def pv(i:Nat){pos:Pos}(hN:↥(X.N[i]?=some x))(hv:#v[AU X.env.scope x])(hd:⇑(Zdb x))(hcd:⇑(Zcd x)):PE X (.Name x pos) (GF i):=dA hN hv hd hcd
end
def aI(H H':Hp):Prop:=∀b o,H b=some o->H' b=some o
def aI.refl(H:Hp):aI H H:=λ_ _ h=>h
def aI.seq{K:ZC}(e:aI H H')(h:d8 K H a xs):d8 K H' a xs:=by
 rcases h with (h|⟨o,h⟩)|h
 .exact .inl (.inl (e _ _ h))
 .exact .inl (.inr ⟨o,e _ _ h⟩)
 .exact .inr h
def UM:bootBuiltins "len"=some (.builtin "len"):=by decide +kernel
def DR:bootBuiltins "abs"=some (.builtin "abs"):=by decide +kernel
def pY:bootBuiltins "isinstance"=some (.builtin "isinstance"):=by decide +kernel
def aHE:bootBuiltins "all"=some (.builtin "all"):=by decide +kernel
def iQ:bootBuiltins "list"=some (.type "list"):=by decide +kernel
def m6:bootBuiltins "tuple"=some (.type "tuple"):=by decide +kernel
def K7:bootBuiltins "str"=some (.type "str"):=by decide +kernel
def aHF:bootBuiltins "int"=some (.type "int"):=by decide +kernel
def aBH:bootBuiltins "bool"=some (.type "bool"):=by decide +kernel
def fK(n:Nat)(x:Int):Prop:=x.natAbs<2^n
def fK.le(h:fK n y)(e:x.natAbs<=y.natAbs):fK n x:=ę e h
def fK.mono(h:fK m x)(e:m<=n):fK n x:=Ù h (Nat.pow_le_pow_right ⋯ e)
def fK.neg(h:fK n x):fK n (-x):=h.le ∅
def fK.add(h:fK m x)(g:fK n y)(e:max m n+1<=k):fK k (x+y):=by
 have a:fK (max m n) x:=h.mono (Nat.le_max_left ..);have b:fK (max m n) y:=g.mono (Nat.le_max_right ..);have c:2^(max m n+1)=2^max m n+2^max m n:=by rw[Nat.pow_succ];lia
 have d:(x+y).natAbs<2^(max m n+1):=by
  rw[c];have:=Int.natAbs_add_le x y;unfold fK at a b;lia
 exact fK.mono (m:=max m n+1) d e
def fK.sub(h:fK m x)(g:fK n y)(e:max m n+1<=k):fK k (x-y):=by
 rw[Int.sub_eq_add_neg];exact h.add g.neg e
def fK.mul(h:fK m x)(g:fK n y)(e:m+n<=k):fK k (x*y):=by
 have d:(x*y).natAbs<2^(m+n):=by
  rw[Int.natAbs_mul,Nat.pow_add];exact Nat.mul_lt_mul'' h g
 exact fK.mono (m:=m+n) d e
def fK.mulOk(h:fK m x)(g:fK n y)(e:⇑(m+n<=134217728)):IntMulOk x y:=.of_le (intBits_le_iff.mpr h) (intBits_le_iff.mpr g) e
def fK.log2(h:fK n x)(e:⇑(n<=9000)):x.natAbs.log2<9000:=by
 by_cases h0:x.natAbs=0
 .rw[h0];decide
 .exact Ù ((Nat.log2_lt h0).mpr h) e
def aK7(h1:-(2^64)<i)(h2:i<2^64):IntMulOk i j:=.of_left (intBits_le_64 h1 h2)
def aK8(h1:-(2^64)<j)(h2:j<2^64):IntMulOk i j:=.of_right (intBits_le_64 h1 h2)
section
def aBI:kC X (binaryOp .Mult) (rI IntMulOk λi j=>.int (i*j)):=ņ λ_ _ _ _ _ _ _ hc q=>mul_int q hc
def ψ(_ j:Int):Prop:=j≠0/\j.natAbs.log2<9000
def UN:kC X (binaryOp .FloorDiv) (rI ψ λi j=>.int (i.fdiv j)):=ņ λ_ _ _ _ _ _ _ hc q=>floordiv_int hc.1 q (.inl (PyProof.noPylong_of_log2 hc.2))
def UO:kC X (compareOp .Is) (λx y H Q=>∃c d,x=.bl c/\y=.bl d/\Q (.bl (c == d)) H):=by
 intro À s σ H x y v u Q I rx ry h;let⟨c,d,rfl,rfl,q⟩:=h;cases rx;cases ry;exact is_bool (m5 I q rfl)
def aBJ:kC X (compareOp .IsNot) (λx y H Q=>∃c d,x=.bl c/\y=.bl d/\Q (.bl (c != d)) H):=by
 intro À s σ H x y v u Q I rx ry h;let⟨c,d,rfl,rfl,q⟩:=h;cases rx;cases ry;exact isnot_bool (m5 I q rfl)
def UP{pos:Pos}(hg:Gl X x)(hm:X.mg x=none)(hv:bootBuiltins x=some (.type n))(hn:⇑(x≠"__name__"))(hd:⇑(Zdb x)):PE X (.Name x pos) (tC (.ty n)):=aAY (v:=.ty n) hg hm hv rfl hn hd
end
def F8:cX->PyData
 |.inl i=>.int i
 |.inr x=>.str x
def aK9(K:ZC)(H:Hp)(a:Addr)(ks:List PyData)(xs:List V):Prop:=
 ∃(nm:Str)(fs:ZG)(C dx:Addr)(vs:List V),xs=.str nm::vs/\ks=.none::fs.map PyData.str/\fs.length=vs.length/\H a=some (.ins C dx (fs.zip vs))/\H dx=some (.own a)/\W.nsIn K mainGlobals nm=some (some (.ref C))
def aLA(H:Hp)(a:Addr)(ks:List PyData)(xs:List V):Prop:=∃(ms:List cX),ks=ms.map F8/\ms.length=xs.length/\H a=some (.dK (ms.zip xs))
mutual
def bE(K:ZC)(H:Hp):PyData->V->Prop
 |.none,v=>v=.non
 |.bool b,v=>v=.bl b
 |.int i,v=>v=.int i
 |.str x,v=>v=.str x
 |.list ds,v=>∃(a:Addr)(xs:List V),v=.ref a/\d8 K H a xs/\aD K H ds xs
 |.tuple ds,v=>∃(a:Addr)(xs:List V),v=.ref a/\rX K H a xs/\aD K H ds xs
 |.dict Á,v=>∃(a:Addr)(xs:List V),v=.ref a/\(aK9 K H a (Á.map Prod.fst) xs\/aLA H a (Á.map Prod.fst) xs)/\iM K H Á xs
def aD(K:ZC)(H:Hp):List PyData->List V->Prop
 |[],xs=>xs=[]
 |d::ds,xs=>∃(x:V)(r:List V),xs=x::r/\bE K H d x/\aD K H ds r
def iM(K:ZC)(H:Hp):List (PyData×PyData)->List V->Prop
 |[],xs=>xs=[]
 |(_,d)::ds,xs=>∃(x:V)(r:List V),xs=x::r/\bE K H d x/\iM K H ds r
end
section
mutual
def bE.reads(I:Inv X À σ H s):∀(d:PyData)(v:V)(u:Value),d.canLay0=true->bE X.K H d v->bH v u->∃as,Reads s.heap u d as
 |.none,v,u,_,h,r=>by
  unfold bE at h;subst h;cases (show u=Value.none from r);exact⟨_,.none⟩
 |.bool b,v,u,_,h,r=>by
  unfold bE at h;subst h;cases (show u=Value.bool b from r);exact⟨_,.bool b⟩
 |.int i,v,u,_,h,r=>by
  unfold bE at h;subst h;let⟨t,rfl⟩:=(show ∃t,u=Value.int i t from r);exact⟨_,.int i t⟩
 |.str x,v,u,_,h,r=>by
  unfold bE at h;subst h;let⟨t,rfl⟩:=(show ∃t,u=Value.str x t from r);exact⟨_,.str x t⟩
 |.list ds,v,u,l,h,r=>by
  unfold bE at h;let⟨a,xs,rfl,hs,ha⟩:=h;cases (show u=Value.ref a from r);let⟨its,rv,p,_⟩:=I.list hs;let⟨as,q⟩:=aD.reads I ds xs its (by simpa[PyData.canLay0]using l) ha rv;let⟨o,ho,hc,n,hd⟩:=p.isList;exact⟨_,.list ho hc hd (by simpa using q)⟩
 |.tuple ds,v,u,l,h,r=>by
  unfold bE at h;let⟨a,xs,rfl,hs,ha⟩:=h;cases (show u=Value.ref a from r);let⟨its,rv,p,_⟩:=I.tuple hs;let⟨as,q⟩:=aD.reads I ds xs its (by simpa[PyData.canLay0]using l) ha rv;let⟨o,ho,hc,n,hd⟩:=p;exact⟨_,.tuple ho hc hd (by simpa using q)⟩
 |.dict _,v,u,l,h,r=>by
  simp[PyData.canLay0]at l
def aD.reads(I:Inv X À σ H s):∀(ds:List PyData)(xs:List V)(us:ZJ),PyData.canLayAll0 ds=true->aD X.K H ds xs->bI xs us->∃as,ReadsAll s.heap us ds as
 |[],xs,us,_,h,r=>by
  unfold aD at h;subst h;cases r;exact⟨_,.nil⟩
 |d::ds,xs,us,l,h,r=>by
  unfold aD at h;let⟨x,t,rfl,hx,ht⟩:=h;simp![PyData.canLayAll0,æ]at l;cases r with
  |cons rx rt=>
   let⟨as,p⟩:=bE.reads I d x _ l.1 hx rx;let⟨bs,q⟩:=aD.reads I ds t _ l.2 ht rt;exact⟨_,.cons p q⟩
end
end
def gK(h:SeqAt.shaped d=true):d.canLay0=true:=by
 unfold SeqAt.shaped at h;rw[æ]at h;exact h.1
section
def fE(hu:X.A.units+64<cLine):kC X (compareOp .Eq) (λx y H Q=>∃d e,bE X.K H d x/\bE X.K H e y/\SeqAt.shaped d=true/\SeqAt.shaped e=true/\Q (.bl (PyData.eqv d e)) H):=by
 intro À s σ H x y v u Q I rx ry h;let⟨d,e,hd,he,sd,se,q⟩:=h;let⟨as,ra⟩:=bE.reads I d x v (gK sd) hd rx;let⟨bs,rb⟩:=bE.reads I e y u (gK se) he ry;exact SeqAt.compareEq_shaped ra rb sd se hu (m5 I q rfl)
def lV(hu:X.A.units+64<cLine):kC X (compareOp .NotEq) (λx y H Q=>∃d e,bE X.K H d x/\bE X.K H e y/\SeqAt.shaped d=true/\SeqAt.shaped e=true/\Q (.bl (!PyData.eqv d e)) H):=by
 intro À s σ H x y v u Q I rx ry h;let⟨d,e,hd,he,sd,se,q⟩:=h;let⟨as,ra⟩:=bE.reads I d x v (gK sd) hd rx;let⟨bs,rb⟩:=bE.reads I e y u (gK se) he ry;exact SeqAt.compareNe_reads ra rb (SeqAt.canLay_of_shaped sd) (SeqAt.canLay_of_shaped se) (SeqAt.room_of_shaped sd hu) (m5 I q rfl)
end
def bW{H:Hp}{p:Addr}(h:H p=none)(o:HO):aI H (aV H p o):=λb u q=>by rw[aE (bK q h)];exact q
def aI.seqT{K:ZC}(e:aI H H')(h:rX K H a xs):rX K H' a xs:=by
 rcases h with (h|⟨o,h⟩)|h
 .exact .inl (.inl (e _ _ h))
 .exact .inl (.inr ⟨o,e _ _ h⟩)
 .exact .inr h
mutual
def aI.rep{K:ZC}{H H':Hp}(e:aI H H'):∀(d:PyData)(v:V),bE K H d v->bE K H' d v
 |.none,v,h=>by unfold bE at h⊢;exact h
 |.bool b,v,h=>by unfold bE at h⊢;exact h
 |.int i,v,h=>by unfold bE at h⊢;exact h
 |.str x,v,h=>by unfold bE at h⊢;exact h
 |.list ds,v,h=>by
  unfold bE at h⊢;let⟨a,xs,rfl,hs,ha⟩:=h;exact⟨a,xs,rfl,e.seq hs,aI.repAll e ds xs ha⟩
 |.tuple ds,v,h=>by
  unfold bE at h⊢;let⟨a,xs,rfl,hs,ha⟩:=h;exact⟨a,xs,rfl,e.seqT hs,aI.repAll e ds xs ha⟩
 |.dict Á,v,h=>by
  unfold bE at h⊢;let⟨a,xs,rfl,hs,ha⟩:=h;refine⟨a,xs,rfl,?_,aI.repKV e Á xs ha⟩;rcases hs with ⟨nm,fs,C,dx,vs,h1,h2,h3,h4,h5,h6⟩|⟨ms,h1,h2,h3⟩
  .exact .inl ⟨nm,fs,C,dx,vs,h1,h2,h3,e _ _ h4,e _ _ h5,h6⟩
  .exact .inr ⟨ms,h1,h2,e _ _ h3⟩
def aI.repAll{K:ZC}{H H':Hp}(e:aI H H'):∀(ds:List PyData)(xs:List V),aD K H ds xs->aD K H' ds xs
 |[],xs,h=>by unfold aD at h⊢;exact h
 |d::ds,xs,h=>by
  unfold aD at h⊢;let⟨x,t,rfl,hx,ht⟩:=h;exact⟨x,t,rfl,aI.rep e d x hx,aI.repAll e ds t ht⟩
def aI.repKV{K:ZC}{H H':Hp}(e:aI H H'):∀(ds:List (PyData×PyData))(xs:List V),iM K H ds xs->iM K H' ds xs
 |[],xs,h=>by unfold iM at h⊢;exact h
 |(_,d)::ds,xs,h=>by
  unfold iM at h⊢;let⟨x,t,rfl,hx,ht⟩:=h;exact⟨x,t,rfl,aI.rep e d x hx,aI.repKV e ds t ht⟩
end
def xB{K:ZC}:∀{ks ds:List PyData}{xs:List V},ks.length=ds.length->aD K H ds xs->iM K H (ks.zip ds) xs
 |[],[],xs,_,h=>by unfold aD at h;unfold List.zip List.zipWith iM;exact h
 |k::ks,d::ds,xs,l,h=>by
  unfold aD at h;let⟨x,t,rfl,hx,ht⟩:=h;rw[ä];unfold iM;exact⟨x,t,rfl,hx,xB (by simpa using l) ht⟩
def iM.all{K:ZC}:∀{Á:List (PyData×PyData)}{xs:List V},iM K H Á xs->aD K H (Á.map Prod.snd) xs
 |[],xs,h=>by unfold iM at h;unfold List.map aD;exact h
 |(_,d)::ds,xs,h=>by
  unfold iM at h;let⟨x,t,rfl,hx,ht⟩:=h;rw[Ì];unfold aD;exact⟨x,t,rfl,hx,iM.all ht⟩
def ω(h:0<=j)(h1:j<=1000000)(h2:i.natAbs<2^64):Ň i j:=⟨h,h1,h2⟩
def DU{j:Nat}{v:α}(e:k=(j:Int))(h:xs[j]?=some v):atI xs k=some v:=by
 rw[e];exact dP h
def ō:(10:Int)^(9:Int).toNat=1000000000:=by decide +kernel
def Ŏ(t b x:Int):Int:=if b<0 then -(x/(Int.gcd t b:Int))else x/(Int.gcd t b:Int)
def GP:Int.gcd b (a % b)=Int.gcd a b:=by
 rw[Int.emod_def,Int.gcd_sub_mul_left_right,Int.gcd_comm]
def GQ(d:(Int.gcd t b:Int)∣x):x.fdiv (if b<0 then -(Int.gcd t b:Int)else (Int.gcd t b:Int))=Ŏ t b x:=by
 unfold Ŏ;split
 .rw[Int.fdiv_eq_ediv_of_dvd ((Int.neg_dvd).mpr d),Int.ediv_neg]
 .rw[Int.fdiv_eq_ediv_of_dvd d]
end L2
set_option maxRecDepth 100000
set_option maxHeartbeats 4000000
namespace L2
open PySem PySem.Spec PyProof.Rows
def gF(cells:List (Str×Addr)):List (Str×NameKind)->List (Str×Addr)->List (Str×Addr)
 |[],acc=>acc
 |(n,k)::r,acc=>if k == .free then (match cells.lookup n with|some a=>gF cells r ((n,a)::acc)|none=>gF cells r acc)else gF cells r acc
def freeIn(cells:List (Str×Addr))(names:List (Str×NameKind)):Prop:=∀n,(n,NameKind.free)∈names->∃c,cells.lookup n=some c
def uM :∀(names:List (Str×NameKind))(acc:List (Str×Addr)),freeIn env.cells names ->
  (forIn names acc λ(x:Str×NameKind)(cs:List (Str×Addr))=>(if x.2 == .free then do let c <- cellOf env x.1;pure (ForInStep.yield ((x.1,c)::cs))else pure (ForInStep.yield cs):Sem (ForInStep (List (Str×Addr)))))=pure (gF env.cells names acc)
 |[],acc,_=>by rfl
 |(n,k)::r,acc,h=>by
  have hr:freeIn env.cells r:=λm hm=>h m (Ó _ hm);rw[List.forIn_cons];unfold gF;cases hk:k == NameKind.free with
  |false=>
   rw[Ã (by simp[hk]),Ã 'e'];exact uM r acc hr
  |true=>
   rw[Â (by simp[hk]),Â rfl];have e:k=.free:=by cases k<;>first|rfl|exact absurd hk ⋯
   let⟨c,hc⟩:=h n (by rw[e];exact Ô);rw[hc];have e2:cellOf env n=pure c:=by unfold cellOf;rw[hc]
   rw[show cellOf env (n,k).1=pure c from e2];exact uM r ((n,c)::acc) hr
def M8(h:freeIn env.cells scope.names):closureFor scope env=pure (gF env.cells scope.names []):=by
 have e:=uM (env:=env) scope.names [] h;unfold closureFor;exact(congrArg (λm=>m >>= λcs=>(pure cs:Sem (List (Str×Addr)))) e).trans rfl
def oN :∀(names:List (Str×NameKind))(acc:List (Str×Addr)),(∀n c,(n,c)∈acc->cells.lookup n=some c)->(n,c)∈gF cells names acc->cells.lookup n=some c
 |[],acc,ha,h=>ha _ _ h
 |(m,k)::r,acc,ha,h=>by
  unfold gF at h;split at h
  .split at h
   .rename_i a hm
    refine oN r _ (λn' c' hn=>?_) h;rcases Õ.mp hn with e|hn
    .cases e;exact hm
    .exact ha _ _ hn
   .exact oN r _ ha h
  .exact oN r _ ha h
def sE{scope:Scope}(h:(gF cells scope.names []).lookup n=some c):cells.lookup n=some c:=
 oN scope.names [] (λ_ _ h=>absurd h 'e') (ā h)
def oO :∀(names:List (Str×NameKind))(acc:List (Str×Addr)),(n,c)∈acc->(n,c)∈gF cells names acc
 |[],_,h=>h
 |(m,k)::r,acc,h=>by
  unfold gF;split
  .split
   .exact oO r _ (Ó _ h)
   .exact oO r _ h
  .exact oO r _ h
def sF(hc:cells.lookup n=some c):∀(names:List (Str×NameKind))(acc:List (Str×Addr)),(n,NameKind.free)∈names->(n,c)∈gF cells names acc
 |(m,k)::r,acc,h=>by
  unfold gF;rcases Õ.mp h with e|h
  .cases e
   rw[Â ⋯,hc];exact oO r _ Ô
  .split
   .split
    .exact sF hc r _ h
    .exact sF hc r _ h
   .exact sF hc r _ h
def pZ{α:Type}{c:α}:∀{l:List (Str×α)},(n,c)∈l->∃d,l.lookup n=some d
 |(m,d)::r,h=>by
  rw[å];cases e:n == m with
  |true=>exact⟨d,rfl⟩
  |false=>
   rcases Õ.mp h with q|q
   .cases q;simp at e
   .exact pZ q
def xC{scope:Scope}(h:scope.names.lookup n=some .free)(hc:cells.lookup n=some c):(gF cells scope.names []).lookup n=some c:=by
 let⟨d,hd⟩:=pZ (sF hc scope.names [] (ā h));have:=sE hd;rw[hc]at this;cases this;exact hd
def lW:(relabel scope env).names.lookup x=(scope.names.lookup x).map λk=>if (k == .free && env.scope.kind == .function && env.kindOf x == some .cell)then .cell else k:=by
 unfold relabel;show List.lookup x (scope.names.map _)=_
 induction scope.names with
 |nil=>rfl
 |cons p r ih=>
  let⟨n,k⟩:=p;show List.lookup x ((if (k == NameKind.free && env.scope.kind == .function && env.kindOf n == some .cell)=true then (n,NameKind.cell)else (n,k))::_)=_;cases hx:x == n with
  |true=>
   have e:x=n:=by simpa using hx
   subst e;cases hc:(k == NameKind.free && env.scope.kind == .function && env.kindOf x == some .cell)with
   |true=>rw[Â rfl,å,å];simp![beq_self_eq_true,Option.map_some,hc,if_true]
   |false=>rw[Ã 'e',å,å];simp![beq_self_eq_true,Option.map_some,hc];rfl
  |false=>
   have e:∀k',List.lookup x ((n,k')::(r.map λ(n,k)=>if (k == NameKind.free && env.scope.kind == .function && env.kindOf n == some .cell)=true then (n,NameKind.cell)else (n,k)))=List.lookup x (r.map λ(n,k)=>if (k == NameKind.free && env.scope.kind == .function && env.kindOf n == some .cell)=true then (n,NameKind.cell)else (n,k)):=λk'=>by rw[å,hx]
   have e2:List.lookup x ((n,k)::r)=List.lookup x r:=by rw[å,hx]
   rw[e2,<- ih];split<;>exact e _
def m7(xs N:ZG):ZG:=N.map λn=>if xs.contains n then (".":Str)++n else n
def dR(N xs:ZG)(names onames:List (Str×NameKind)):Bool:=
 (names.all λp=>p.2 != .cell) && (names.all λp=>p.2 != .local || names.lookup p.1 == some .local) && (names.all λp=>p.2 != .free || (onames.lookup p.1 == some .cell || onames.lookup p.1 == some .free)) &&
  xs.all (λx=>names.lookup x == some .local) && ((m7 xs N).zip N).all λp=>names.lookup p.1 == none || names.lookup p.1 == some .globalImplicit || (names.lookup p.1 == some .free && p.1 == p.2)
abbrev aT(X:Cx)(xs:ZG)(scope:Scope)(C:Addr)(fp:ZM)(s:Shared)(H:Hp):Cx:=
 {X with N:=xs++m7 xs X.N,s₀:=s,H₀:=H,env:=compEnvC scope (gF X.env.cells scope.names []) C X.env,outer:=X.stack,ex:=fp,fn:=λ_=>false,pn:=[],xe:=λ_ _=>False}
section
variable {X:Cx}{À:ZB}{σ:St}{H H':Hp}{s s':Shared}{a:Addr}{o:HO}
def mZ.adopt(x:mZ P w H h)(hn:H a=none)(new:eC P w (aV H a o) h a o):mZ P w (aV H a o) h:=λb u e=>by
 by_cases hb:b=a
 .subst hb;rw[aJ]at e;cases e;exact new
 .rw[aE hb]at e
  exact(x b u e).stay (λ_ _ _ q=>q) (λc q=>by rw[aE (bK q hn)];exact q) λc xs q=>by rw[aE (bK q hn)];exact q
def Inv.adopt(I:Inv X À σ H s)(hn:H a=none)(ha:X.s₀.heap.objs.size<=a)(hL:a≠X.env.locals)(hc:∀x c,X.env.cells.lookup x=some c->c≠a)(hp:∀p∈X.pn++À,p.1≠a)(new:eC X.prog X.w (aV H a o) s.heap a o):Inv X À σ (aV H a o) s:=by
 refine⟨I.ok,I.os,I.bare,⟨I.base.keep,I.base.slot,λb u e n hx=>?_,I.base.there,λb xs e=>?_,λb u v e=>?_,λb ps e=>?_⟩,I.loc,I.cell,?_,λx c e=>?_,λp h=>?_,I.hok.adopt hn new,I.len⟩
 .rw[aE (Ð (Ù (Heap.lt_size e) ha))];exact I.base.free b u e n hx
 .have q:=I.base.tups b xs e;rw[aE (bK q hn)];exact q
 .have q:=I.base.frzs b u v e;rw[aE (bK q hn)];exact q
 .obtain⟨more,q⟩:=I.base.tbls b ps e;exact⟨more,by rw[aE (bK q hn)];exact q⟩
 .rw[aE (Í hL)];exact I.free
 .rw[aE (hc x c e)];exact I.freeC x c e
 .obtain⟨e,n,ne,nf,d⟩:=I.pin p h
  exact⟨e,by rw[aE (hp p h)];exact n,ne,nf,d⟩
def vV(h:dR N xs names on=true):∀y∈names,y.2≠.cell:=λy hy e=>by
 unfold dR at h;simp![æ,í]at h;have:=h.1.1.1.1 y hy;rw[e]at this;exact absurd this ⋯
def sG(h:dR N xs names on=true):∀y∈names,y.2=.local->names.lookup y.1=some .local:=λy hy e=>by
 unfold dR at h;simp![æ,í]at h;have:=h.1.1.1.2 y hy;rw[e]at this;simpa using this
def vW(h:dR N xs names on=true):∀n,(n,NameKind.free)∈names->on.lookup n=some .cell\/on.lookup n=some .free:=λn hn=>by
 unfold dR at h;simp![æ,í]at h;have:=h.1.1.2 _ hn;simpa using this
def GR(h:dR N xs names on=true){i:Nat}(e:(m7 xs N)[i]?=some y):(names.lookup y=some .free/\N[i]?=some y)\/names.lookup y=none\/names.lookup y=some .globalImplicit:=by
 unfold dR at h;simp![æ]at h;have hl:(m7 xs N).length=N.length:=by unfold m7;rw[Å]
 let⟨hi,ei⟩:=Î.mp e;have hz:((m7 xs N).zip N)[i]?=some (y,N[i]):=by
  rw[Ģ];exact⟨e,Ê (by exact õ ‹_› ‹_›)⟩
 have q:=í.mp h.2 _ (Č hz);simp![Bool.or_eq_true,æ,beq_iff_eq]at q;rcases q with (q|q)|⟨q,q2⟩
 .exact .inr (.inl q)
 .exact .inr (.inr q)
 .exact .inl ⟨q,by rw[Ê (by exact õ ‹_› ‹_›),<- q2]⟩
def Inv.freeIn{scope:Scope}(I:Inv X À σ H s)(hok:dR X.N xs scope.names X.env.scope.names=true):freeIn X.env.cells scope.names:=λn hn=>I.ok.has n (vW hok n hn)
def GS(h:(relabel scope env).names.lookup x=some .cell\/(relabel scope env).names.lookup x=some .free)(hc:∀y∈scope.names,y.2≠.cell):scope.names.lookup x=some .free:=by
 rw[lW]at h;cases e:scope.names.lookup x with
 |none=>rw[e]at h;simp at h
 |some k=>
  rw[e]at h;cases k with
  |free=>rfl
  |cell=>exact absurd rfl (hc _ (ā e))
  |_=>simp at h
def Inv.block(I:Inv X À σ H s)(hok:dR X.N xs scope.names X.env.scope.names=true)(hk:scope.kind=.function)(hfp:∀b∈fp,wD X À H b)(hobj:∀b∈fp,∃o,s.heap.get? b=some o)(hC:s.heap.objs.size<=C)(hns:s'.heap.Ns C m)(keep:∀b o,s.heap.get? b=some o->s'.heap.get? b=some o)(hos:s'.os=s.os)(hg:AllBare s'.gens):
  Inv 'g' [] (List.replicate xs.length none++σ) H s':=by
 have hcell:=vV hok;have hno:∀x c,(gF X.env.cells scope.names []).lookup x=some c->X.env.cells.lookup x=some c:=λx c h=>sE h;have ltf:∀b∈fp,b<s.heap.objs.size:=λb hb=>let ⟨_,e⟩:=hobj b hb;Heap.lt_size e
 refine⟨⟨I.ok.mod,hk,I.ok.glob,I.ok.blt,hC,λx y c h1 h2=>I.ok.inj x y c (hno _ _ h1) (hno _ _ h2),λx hx=>?_,λx c h _=>absurd h 'e',I.ok.hd,I.ok.frames,.inl rfl,λb hb=>⟨?_,λx c h=>(hfp b hb).2.2.2.2.1 x c (hno _ _ h)⟩,I.bs,Ü I.ok.bsz I.sz,λb u e hb=>?_,λb hb hf=>?_,I.stack,I.stkFree⟩,
  hos,hg,Un.kept keep,⟨m,hns,λi x v e1 e2 e3=>?_⟩,λx c h=>?_,I.hok.fresh hC,λx c h=>I.freeC x c (hno _ _ h),λp hp=>absurd (show p∈([]:ZB)from hp) 'e',I.hok.kept keep,?_⟩
 .have hf:=GS (show (relabel scope X.env).names.lookup x=some .cell\/(relabel scope X.env).names.lookup x=some .free from hx) hcell
  let⟨c,hc⟩:=I.freeIn hok x (ā hf);exact⟨c,xC hf hc⟩
 .exact Ð (Ù (ltf b hb) hC)
 .rcases(hfp b hb).2.2.2.1 with z|z
  .exact I.ok.noex b u e z
  .exact absurd (Ù (Heap.lt_size e) (Ü I.ok.bsz z)) (ú _)
 .rcases Õ.mp (I.stkSub b hf)with z|z
  .exact(hfp b hb).2.1 z
  .exact(hfp b hb).2.2.1 z
 .have e1:(xs++m7 xs X.N)[i]?=some x:=e1
  by_cases hi:i<xs.length
  .rw[ô (by simpa using hi),Ā,Â hi]at e2
   cases e2
  .rw[ã (by exact è.mp ‹_›)]at e1
   rw[ã (by rw[ï];exact è.mp ‹_›),ï]at e2;rcases GR hok e1 with ⟨q1,q2⟩|q|q
   .have kd:=vW hok x (ā q1)
    let⟨m0,_,hl⟩:=I.loc;let⟨u,ru,lk⟩:=hl _ x v q2 e2 (by rcases kd with z|z;exact .inr (.inl z);exact .inr (.inr z))
    refine⟨u,ru,.inr ⟨?_,?_⟩⟩
    .show (relabel scope X.env).names.lookup x=some .cell\/(relabel scope X.env).names.lookup x=some .free
     rw[lW,q1];by_cases hc:(NameKind.free == NameKind.free && X.env.scope.kind == .function && X.env.kindOf x == some .cell)=true
     .left;rw[Option.map_some,Â hc]
     .right;rw[Option.map_some,Ã hc]
    .rcases lk with ⟨z,_⟩|⟨_,c,hc,hcell⟩
     .have z:X.env.scope.names.lookup x=some .local:=z
      rw[z]at kd;rcases kd with kd|kd<;>cases kd
     .refine⟨c,xC q1 hc,?_⟩
      let⟨oc,hoc,hd⟩:=hcell;exact⟨oc,keep _ _ hoc,hd⟩
   all_goals
    have e3:(relabel scope X.env).names.lookup x=some .local\/(relabel scope X.env).names.lookup x=some .cell\/(relabel scope X.env).names.lookup x=some .free:=e3;rw[lW,q]at e3;simp at e3
 .obtain⟨v,oc,hoc,hd⟩:=I.cell x c (hno _ _ h)
  exact⟨v,oc,keep _ _ hoc,hd⟩
 .show (List.replicate xs.length none++σ).length=(xs++m7 xs X.N).length
  rw[Ñ,Ñ,ï,I.len];unfold m7;rw[Å]
def Inv.unblock(I:Inv X À σ H s)(hfp:∀b∈fp,wD X À H b)(J:Inv 'g' pins' σ' H' s'):Inv X À σ H' s':=
 I.call' (ch:=fp) J.os J.base J.hok J.bare λb hb=>⟨(hfp b hb).2.2.2.1,(hfp b hb).2.1,(hfp b hb).2.2.2.2.1,(hfp b hb).2.2.2.2.2⟩
end
def m8{prog:Program}{w:World}{A:Around}{R:Result->Shared->Prop}{s:Shared}{elt target iter:Expr}{ifs:List Expr}{scope:Scope}{pos:Pos}{it acc:Value}{env:Env}(I:Nat->Shared->Prop)(turn:∀n s,I n s->wpAny 'p' A (pyNext it) (λr s₁=>match r with
   |none=>R (.ok .next) s₁
   |some v=>wpAny 'p' A (letOwnedTupleGo target it v) (λ_ s₁'=>wpAny 'p' A (assign target env v) (λ_ s₂=>
     wpAny 'p' A (forIn ifs true λc r=>if r=true then do let ok <- isTrue c env (eval c env);pure (ForInStep.yield ok)else pure (ForInStep.yield r)) (λok s₃=>
      if ok=true then wpAny 'p' A (eval elt env) (λx s₄=>
       wpAny 'p' A (call (.builtin "list.append") [acc,x]) (λ_ s₅=>∃m,m<n/\I m s₅) (λ_ _=>False) s₄) (λ_ _=>False) s₃
      else ∃m,m<n/\I m s₃) (λ_ _=>False) s₂) (λ_ _=>False) s₁') (λ_ _=>False) s₁) (λ_ _=>False) s)(n:Nat)(h:I n s):codeAny 'p' A (.compLoop (.ListComp elt [⟨target,iter,ifs,0⟩] scope pos) 0 it acc env) R s:=by
 refine codeAny_loop rfl I (λn s hI=>?_) n h;show wpAny _ A ((compTurn (.ListComp elt [⟨target,iter,ifs,0⟩] scope pos) 0 it acc env).onRaise (λx=>do noteFrame x env;theTreesLotGoes x)) _ _ s;refine wpAny_noted ?_;rw[compTurn_list];refine wpAny_bind (wpAny_standAt (wpAny_bind (wpAny_mono (turn n s hI) (λr s₁ h₁=>?_) λ_ _ h'=>h'.elim)));cases r with
 |none=>exact wpAny_pure h₁
 |some v=>
  refine wpAny_bind (wpAny_mono h₁ (λ_ s₁' h₁'=>?_) λ_ _ h'=>h'.elim);refine wpAny_bind (wpAny_mono h₁' (λ_ s₂ h₂=>wpAny_bind (wpAny_mono h₂ (λok s₃ h₃=>?_) λ_ _ h'=>h'.elim)) λ_ _ h'=>h'.elim);cases ok with
  |false=>exact wpAny_pure ⟨rfl,h₃⟩
  |true=>
   exact wpAny_bind (wpAny_bind (wpAny_mono h₃ (λx s₄ h₄=>wpAny_bind (wpAny_mono h₄ (λ_ s₅ h₅=>wpAny_pure (wpAny_pure ⟨rfl,h₅⟩)) λ_ _ h'=>h'.elim)) λ_ _ h'=>h'.elim))
def TC(X:Cx)(ifs:List Expr)(t:TT):Prop:=
 ∀(À:ZB)(s:Shared)(σ:St)(H:Hp)(Q:Bool->Hp->Prop),Inv X À σ H s->t σ H Q ->
  wpAny 'b' X.A (forIn ifs true λc r=>if r=true then do let ok <- isTrue c X.env (eval c X.env);pure (ForInStep.yield ok)else pure (ForInStep.yield r)) (TP X À σ Q) X.xe s
def DW:TC X [] (λ_ H Q=>Q true H):=λ_ _ _ H _ I h=>wpAny_tests_nil ⟨H,I,h⟩
def aBK(h:PT X c t):TC X [c] t:=λÀ s σ H Q I hq=>wpAny_tests_one (h À s σ H Q I hq)
def M9(k:Nat)(wi:TI)(g:TG)(ti:TT)(te:TE):TE:=λσ H Q=>wi σ H λJ H1=>∃W:Nat->Nat->List V->St->Hp->Prop,(∃m,W 0 m [] (List.replicate k none++σ) H1)/\∀i m ys σ' H',W i m ys σ' H' ->
 (J.stop i H'/\∀p,H' p=none->Q (.ref p) (aV H' p (.lst ys))) \/
 (J.go i H'/\ys.length<sizeLine/\∃N:List V->St->Hp->Prop,(∀zs σ'' H'',N zs σ'' H''->∃m',m'<m/\W (i+1) m' zs σ'' H'') /\
  ∀x H2,J.yld i H' x H2->g x σ' H2 λσ2 H3=>ti σ2 H3 λb H4=>if b=true then te σ2 H4 λy H5=>N (ys++[y]) σ2 H5 else N ys σ2 H4)
section
variable {X:Cx}{pos:Pos}{tg elt iter:Expr}{ifs:List Expr}{scope:Scope}{xs:ZG}{wi:TI}{g:TG}{ti:TT}{te:TE}
def xD{À:ZB}{σ:St}{s:Shared}{Q:VK}{itv:Value}{E:ZA}{R:Value->Addr->Result->Shared->Prop}(hc:X.calm=true)(hk:scope.kind=.function)(hok:dR X.N xs scope.names X.env.scope.names=true)(hg:∀C fp s H,PG 'g' tg g)(hif:∀C fp s H,TC 'g' ifs ti)(he:∀C fp s H,PE 'g' elt te)(h:ů X À σ tg (λJ H1=>∃W:Nat->Nat->List V->St->Hp->Prop,(∃m,W 0 m [] (List.replicate xs.length none++σ) H1)/\∀i m ys σ' H',W i m ys σ' H' ->
   (J.stop i H'/\∀p,H' p=none->Q (.ref p) (aV H' p (.lst ys))) \/
   (J.go i H'/\ys.length<sizeLine/\∃N:List V->St->Hp->Prop,(∀zs σ'' H'',N zs σ'' H''->∃m',m'<m/\W (i+1) m' zs σ'' H'') /\
    ∀x H2,J.yld i H' x H2->g x σ' H2 λσ2 H3=>ti σ2 H3 λb H4=>if b=true then te σ2 H4 λy H5=>N (ys++[y]) σ2 H5 else N ys σ2 H4)) itv s)(hR:∀D C H' m s',Inv X À σ H' s'->Q (.ref D) H'->s'.heap.Ns C m->H' C=none->X.s₀.heap.objs.size<=C->C≠X.env.locals->(∀x c,X.env.cells.lookup x=some c->c≠C)->(∀p∈X.pn++À,p.1≠C)->R (.ref D) C (.ok .next) s'):
  wpAny 'b' X.A (newList []) (λacc s₃=>wpAny 'b' X.A (newFunctionEnv scope X.env.globals (gF X.env.cells scope.names []) [] X.env.qual none .none (some X.env)) (λcenv s₄=>
   codeAny 'b' X.A (.compStart 'r' 0 itv acc {cenv with scope:=relabel scope X.env}) (R acc cenv.locals) s₄) E s₃) E s:=by
 let⟨it,fp,tn,J,H1,rfl,I,T,st0,hfp,W,⟨m0,w0⟩,turn⟩:=h;have hcell:=vV hok;refine wpAny_newObj_type (wpAny_newFunctionEnv hcell (by intro y hy;simp at hy) (λh₁ hns₁ hsb₁=>?_) hk);dsimp only at hns₁ hsb₁⊢;generalize hH2:s.heap.push {cls:=.type "list",dict:=none,data:=.seq ([]:ZJ).toArray}=G2 at hns₁ hsb₁⊢;have hC:G2.objs.size=s.heap.objs.size+1:=by rw[<- hH2,Heap.size_push]
 have hDC:s.heap.objs.size≠G2.objs.size:=by rw[hC];exact Ð (ð _)
 have hCle:s.heap.objs.size<=G2.objs.size:=by rw[hC];exact Nat.le_succ _
 have old:∀b o,s.heap.get? b=some o->h₁.get? b=some o:=λb o e=>hsb₁.extBut b o (Ð (Ù (Heap.lt_size e) hCle)) (Heap.get?_push_of_some _ (hH2▸Heap.get?_push_of_some _ e));have hacc:h₁.get? s.heap.objs.size=some {cls:=.type "list",data:=.seq ([]:ZJ).toArray 0}:=hsb₁.extBut _ _ hDC (Heap.get?_push_of_some _ (hH2▸Heap.get?_push_size _ rfl));have objs:∀b∈fp,∃o,s.heap.get? b=some o:=λb hb=>let ⟨o,e,_⟩:=T.obj 0 _ st0 b hb;⟨o,e⟩
 have ltf:∀b∈fp,b<s.heap.objs.size:=λb hb=>let ⟨_,e⟩:=objs b hb;Heap.lt_size e
 generalize hD:s.heap.objs.size=D at hC hDC hCle hacc ltf⊢;generalize hCC:G2.objs.size=C at hC hDC hCle hns₁ hsb₁⊢;have J0:Inv (aT X xs scope C fp s H1) [] (List.replicate xs.length none++σ) H1 {s with heap:=h₁,toks:=s.toks+([]:List (Str×Value)).length}:=
  I.block hok hk hfp objs (by rw[hD];exact hCle) hns₁ old rfl I.bare
 have cD:∀x c,X.env.cells.lookup x=some c->c≠D/\c≠C:=λx c h=>by
  let⟨v,q⟩:=I.cell x c h;have:=q.lt;rw[hD]at this;exact⟨Ð this,Ð (Ù this hCle)⟩
 have pD:∀p∈X.pn++À,p.1≠D/\p.1≠C:=λp hp=>by
  have:=Heap.lt_size (I.pin p hp).1;rw[hD]at this;exact⟨Ð this,Ð (Ù this hCle)⟩
 have lL:=I.lt;have lS:=I.sz;rw[hD]at lL lS;have lSC:X.s₀.heap.objs.size<=C:=Ü lS hCle;have lLD:D≠X.env.locals:=Þ lL;have lLC:C≠X.env.locals:=Þ (Ù lL hCle);have Dfs:D∉wY X.stack:=λz=>by
  let⟨_,o,ho,_⟩:=(I.stack).mem z;have:=Heap.lt_size ho;rw[hD]at this;exact ú _ this
 have fpb:∀{H':Hp}{ob:Obj},(∀b∈fp,H' b=none)->∀b∈fp,wD (aT X xs scope C fp s H1) [(D,ob)] H' b:=λ{H' ob}hn b hb=>
  ⟨hn b hb,Ð (Ù (ltf b hb) hCle),λz=>by
   rcases Õ.mp (I.stkSub b z)with z|z
   .exact(hfp b hb).2.1 z
   .exact(hfp b hb).2.2.1 z,.inl hb,λx c h=>(hfp b hb).2.2.2.2.1 x c (sE h),λp hp=>by
    have e:p=(D,ob):=by simpa using hp
    rw[e];exact Þ (ltf b hb)⟩
 have loop:∀s₃:Shared,s₃={s with heap:=h₁,toks:=s.toks+([]:List (Str×Value)).length} ->
   codeAny 'b' X.A (.compLoop 'r' 0 (.ref it) (.ref D) (compEnvC scope (gF X.env.cells scope.names []) C X.env)) (R (.ref D) C) s₃:=by
  rintro s₃ rfl;refine m8 (λn s'=>∃i σ' H' ys its k,Inv (aT X xs scope C fp s H1) [] σ' H' s'/\tn i s'.heap/\(∀b∈fp,H' b=none)/\W i n ys σ' H'/\bI ys its/\ys.length<=sizeLine /\
   s'.heap.get? D=some {cls:=.type "list",data:=.seq its.toArray k}/\H' D=none) ?_ m0 ⟨0,_,H1,[],[],0,J0,T.keep _ _ _ st0 λb hb o e=>old b o e,λb hb=>(hfp b hb).1,w0,.nil,î _,hacc,I.hok.fresh (by rw[hD];exact È _)⟩
  rintro n s1 ⟨i,σ1,K1,ys,its,k,I1,st1,fr1,w1,rv,hz,hd,nd⟩;have lys:=rv.length;generalize hob:({cls:=.type "list",data:=.seq its.toArray k}:Obj)=ob at hd;have I1':Inv (aT X xs scope C fp s H1) [(D,ob)] σ1 K1 s1:=I1.pins_of λp hp=>by
   have e:p=(D,ob):=by simpa using hp
   rw[e];exact⟨hd,nd,hDC,Dfs,λv=>by rw[<- hob];exact λz=>by cases z⟩
  rcases turn i n ys σ1 K1 w1 with ⟨stop,qn⟩|⟨go,hlt,N,hN,step⟩
  .refine cA (T.done (aT X xs scope C fp s H1) rfl rfl rfl hc i [(D,ob)] s1 σ1 K1 (λ_ _=>False) I1' (fpb fr1) st1 stop) λr s2 zQ=>?_;let⟨hr,I2⟩:=zQ
   subst hr;have un:=I.unblock hfp I2;have hd2:=(I2.pin (D,ob) 'e').1;let⟨m2,hn2,_⟩:=I2.loc;refine hR D C (aV K1 D (.lst ys)) m2 s2 (un.adopt nd lS lLD (λx c h=>(cD x c h).1) (λp hp=>(pD p hp).1) ⟨hz,its,k,rv,by rw[hob];exact hd2⟩) (qn D nd) hn2 ?_ lSC lLC (λx c h=>(cD x c h).2) λp hp=>(pD p hp).2;rw[aE (Í hDC)];exact I2.free
  .refine cA (T.item (aT X xs scope C fp s H1) rfl rfl rfl hc i [(D,ob)] s1 σ1 K1 (λ_ _=>False) I1' (fpb fr1) st1 go) λr s2 zQ=>?_;let⟨u,hr,h2⟩:=zQ
   subst hr;refine cA h2 λ_ s3 zQ=>?_;let⟨x,H3,I3,r3,y3,st3,fr3⟩:=zQ;have I3':=I3.pinned (fpb fr3) (T.obj _ _ st3);have again:∀{σ7:St}{H7:Hp}{s7:Shared},Inv (aT X xs scope C fp s H1) ([(D,ob)]++wZ fp s3.heap) σ7 H7 s7->Inv (aT X xs scope C fp s H1) [] σ7 H7 s7/\tn (i+1) s7.heap/\(∀b∈fp,H7 b=none)/\s7.heap.get? D=some ob/\H7 D=none:=λ{σ7 H7 s7}I7=>by
    have pi:∀b∈fp,∀o,s3.heap.get? b=some o->s7.heap.get? b=some o/\H7 b=none:=λb hb o e=>by
     have q:=I7.pin (b,o) (Ý _ (Ý _ (qM hb e)));exact⟨q.1,q.2.1⟩
    have pd:=I7.pin (D,ob) (Ý _ (ģ _ 'e'));refine⟨I7.pins_of λp hp=>absurd hp 'e',T.keep _ _ _ st3 λb hb o e=>(pi b hb o e).1,λb hb=>?_,pd.1,pd.2.1⟩;let⟨o,e,_⟩:=T.obj _ _ st3 b hb;exact(pi b hb o e).2
   refine cA (hg C fp s H1 _ s3 σ1 H3 x u _ I3' r3 (step x H3 y3)) λ_ s4 zQ=>?_;let⟨σ4,H4,I4,q4⟩:=zQ;refine cA (hif C fp s H1 _ s4 σ4 H4 _ I4 q4) λb s5 zQ=>?_;let⟨H5,I5,q5⟩:=zQ;cases b with
   |false=>
    rw[Ã á]at q5⊢;let⟨m',hm,w5⟩:=hN _ _ _ q5;let⟨a1,a2,a3,a4,a5⟩:=again I5;exact⟨m',hm,i+1,σ4,H5,ys,its,k,a1,a2,a3,w5,rv,hz,by rw[hob];exact a4,a5⟩
   |true=>
    rw[Â rfl]at q5⊢;refine cA (he C fp s H1 _ s5 σ4 H5 _ I5 q5) λy s6 zQ=>?_;let⟨yv,H6,I6,r6,q6⟩:=zQ;let⟨m',hm,w6⟩:=hN _ _ _ q6;let⟨a1,a2,a3,a4,a5⟩:=again I6;rw[<- hob]at a4;refine call_meets F.slot_list_append ⟨_,a4,rfl⟩ F.entry_list_append (F.args_list_append_2 _ _) (PySem.list_append D its.toArray k y (by rw[é];lia)) ⟨a4,?_⟩;have qd:∃k',(s6.heap.update D (Obj.mapSeq λz=>z.push y)).get? D=some {cls:=.type "list",data:=.seq (its++[y]).toArray k'}:=by
     have e:(its++[y]).toArray=its.toArray.push y:=by simp
     rw[e];exact⟨_,PySem.IsL.update a4 λz=>z.push y⟩
    let⟨k',qd⟩:=qd;refine⟨m',hm,i+1,σ4,H6,ys++[yv],its++[y],k',a1.turned (it:=D) (t':=s6.toks) (λb o hb e=>(Heap.get?_update_other s6.heap _ (Í hb)).trans e) a5 hDC (.inr (ù hD)) (λx c h=>(cD x c (sE h)).1) (λp hp=>absurd (show p∈([]:ZB)from hp) 'e'),?_,a3,w6,rv.append (.cons r6 .nil),by rw[Ñ];exact hlt,qd,a5⟩;exact T.keep _ _ _ a2 λb hb o e=>(Heap.get?_update_other s6.heap _ (λz=>by rw[<- z]at hb;exact absurd (ltf D hb) (ú _))).trans e
 exact codeAny_compStart_list (loop _ rfl) (T.self _ 0 _ _ _ (T.keep _ _ _ st0 λb hb o e=>old b o e) (loop _ rfl))
def GT(hc:X.calm=true)(hi:PI X tg iter wi)(hg:∀C fp s H,PG 'g' tg g)(hif:∀C fp s H,TC 'g' ifs ti)(he:∀C fp s H,PE 'g' elt te)(hk:↥(scope.kind=.function))(hok:↥(dR X.N xs scope.names X.env.scope.names=true))(hs: ~~~(Zfi iter X.env)):
  PE X 'r' (M9 xs.length wi g ti te):=by
 intro À s σ H Q I h;rw[eval_ListComp];refine wpAny_comprehension_free (use:=none) rfl hs (M8 (I.freeIn hok)) hk (sG hok) (cA (hi À s σ H _ I h) λv s1 h1=>cA h1 λitv s2 h2=>?_);refine xD (Q:=Q) hc hk hok hg hif he h2 λD C H' m s' I' q hn c1 c2 c3 c4 c5=>?_;exact⟨m,hn,λh' sb=>⟨.ref D,H',I'.turned (it:=C) (t':=s'.toks) (λb o hb e=>(sb.2 b hb).trans e) c1 c3 (.inr c2) c4 c5,rfl,q⟩⟩
def sH{pos' spos:Pos}(hc:X.calm=true)(hN:X.N.Nodup)(hx:X.N[i]?=some x)(hl:X.env.scope.names.lookup x=some .local)(hi:PI X tg iter wi)(hg:∀C fp s H,PG 'g' tg g)(hif:∀C fp s H,TC 'g' ifs ti)(he:∀C fp s H,PE 'g' elt te)(hsw:↥(swapsWith 'r' (some (.Name x pos')) spos.line X.env=pure true))(hk:↥(scope.kind=.function))(hok:↥(dR X.N xs scope.names X.env.scope.names=true))(hs: ~~~(Zfi iter X.env)):
  PS X (.Assign [.Name x pos'] 'r' spos) (QC (M9 xs.length wi g ti te) (kU i)):=by
 intro À s σ H D I h;rw[exec_Assign_Name_used _ _ _ _ hsw];refine wpAny_bind (wpAny_standAt (wpAny_bind ?_));show wpAny _ X.A (do let _ <- comprehension 'r' scope X.env _ (newList []) false (eval iter X.env) (some (assign (.Name x pos') X.env))) _ _ s;refine wpAny_bind (wpAny_mono (wpAny_comprehension_free (use:=some (assign (.Name x pos') X.env)) (Q:=λ_ s'=>SP X À D .next s') rfl hs (M8 (I.freeIn hok)) hk (sG hok)
  (cA (hi À s σ H _ I h) λv s1 h1=>cA h1 λitv s2 h2=>?_)) (λ_ s' hq=>wpAny_pure (wpAny_pure hq)) λ_ _ e=>e)
 refine xD (Q:=λv H'=>D.nx (σ.set i (some v)) H') hc hk hok hg hif he h2 λD' C H' m s' I' q hn c1 c2 c3 c4 c5=>?_;show wpAny _ X.A (assign (.Name x pos') X.env (.ref D')) _ _ _;refine wpAny_assign_Name (BM I' hN hx (.inl hl) (v:=.ref D') rfl (λs'' I'' zQ=>?_) (.inr hl));let⟨a,sb,ha⟩:=zQ;have hCa:C≠a:=by
  rcases ha with e|e
  .rw[e];exact c3
  .exact Í (c4 _ _ e)
 exact⟨m,hn.sameBut sb hCa,λh' sb'=>⟨_,H',I''.turned (it:=C) (t':=s''.toks) (λb o hb e=>(sb'.2 b hb).trans e) c1 c3 (.inr c2) c4 c5,q⟩⟩
end
def mQ(h:Heap)(e:Addr)(cls:Value)(ch:ZM):Prop:=
 ∃oe vs,h.get? e=some oe/\(oe.cls=cls/\oe.dict=none)/\oe.data=.fields vs/\1<vs.size /\
  ((vs[1]?=some .none/\ch=[e])\/∃T oT ts fl,vs[1]?=some (.ref T)/\ch=[e,T]/\T≠e/\h.get? T=some oT/\oT.data=.fields ts/\ts[3]?=some fl)
def xE(o:Obj)(f:Array Value->Array Value):(o.mapFields f).dict=o.dict:=by
 unfold Obj.mapFields;split<;>rfl
structure XT(fs ch:ZM)(h h':Heap):Prop where
 keep:∀b o,b∉ch->b∉fs->h.get? b=some o->h'.get? b=some o
 slot:∀b o,b∉ch->h.get? b=some o->∃sl,h'.get? b=some {o with slots:=sl}
 there:∀b o,h.get? b=some o->∃o',h'.get? b=some o'
def XT.refl:XT fs ch h h:=⟨λ_ _ _ _ e=>e,λ_ o _ e=>⟨o.slots,e⟩,λ_ o e=>⟨o,e⟩⟩
def XT.trans{fs ch ch':ZM}{h h1 h2:Heap}(a:XT fs ch h h1)(b:XT fs ch' h1 h2)(hc:∀x∈ch',x∈ch\/h.get? x=none):XT fs ch h h2 where
 keep:=λx o n1 n2 e=>b.keep x o (λm=>(hc x m).elim n1 λz=>by rw[z]at e;cases e) n2 (a.keep x o n1 n2 e)
 slot:=λx o n1 e=>by
  let⟨sl,e1⟩:=a.slot x o n1 e;let⟨sl2,e2⟩:=b.slot x _ (λm=>(hc x m).elim n1 λz=>by rw[z]at e;cases e) e1;exact⟨sl2,e2⟩
 there:=λx o e=>by
  let⟨o1,e1⟩:=a.there x o e;exact b.there x o1 e1
section
variable {M:Model}{A:Around}{E:ZA}{s:Shared}{base:Heap}{env:Env}{outer:List Env}{L e:Addr}{cls:Value}{ch:ZM}{Q:Unit->Shared->Prop}
def FunFrames.noFields{h:Heap}(hl:h.FunFrames base l)(he:h.get? e=some o)(hd:o.data=.fields vs):e∉wY l:=λhm=>by
 let⟨_,o',ho,hnf⟩:=hl.mem hm
 grind
def NA{oe:Obj}{vs:Array Value}{head:Value}{hadNext:Bool}(hfr:A.frames=some (env::outer))(hl:s.heap.FunFrames base (env::outer))(hf:env.frame=some L)(he:s.heap.get? e=some oe)(hd:oe.data=.fields vs)(hsz:1<vs.size)(h:∀h',XT (wY (env::outer)) [e] s.heap h'->(∃oe' vs' T oT ts,h'.get? e=some oe'/\(oe'.cls=oe.cls/\oe'.dict=oe.dict)/\oe'.data=.fields vs'/\1<vs'.size/\vs'[1]?=some (.ref T)/\T≠e/\s.heap.get? T=none/\s.heap.objs.size<=T/\h'.get? T=some oT/\oT.data=.fields ts/\ts[3]?=some (rawInt L))->Q () {s with heap:=h'}):
  wpAny M A (do let a <- frameOf env;let pl <- entryPlaceOf L hadNext;let b <- EntryCells.newEntry head a .none (rawInt L) .none pl;setField (.ref e) 1 b) Q E s:=by
 have hene:=FunFrames.noFields hl he hd;refine wpAny_bind (wpAny_frameOf_fun hfr hl hf λh₁ hs₁=>?_);refine wpAny_bind (wpAny_entryPlaceOf λpl hpl=>?_);unfold EntryCells.newEntry newFields;refine wpAny_bind (wpAny_newObj_type ?_ (hpl.sizeOk5 _ _ _ _ _));have he₁:h₁.get? e=some oe:=(hs₁.2.1 e hene).trans he;have he₂:=Heap.get?_push_of_some (h:=h₁) {cls:=.type "traceback",dict:=none,data:=.fields ([head,.ref L,.none,rawInt L,.none]++(if pl.isEmpty then List.replicate 6 Value.none else pl)).toArray} he₁;refine wpAny_setField he₂ hd hsz (h _ ?_ ?_)
 all_goals have hTe:h₁.objs.size≠e:=Þ (Heap.lt_size he₁)
 all_goals have hd₃:=Obj.data_mapFields hd (·.setIfInBounds 1 (Value.ref h₁.objs.size))
 all_goals have he₃:=Heap.get?_update_self (Obj.mapFields (·.setIfInBounds 1 (Value.ref h₁.objs.size))) he₂ (Obj.isFreed_of_fields hd₃)
 .have keep:∀b o,b≠e->h₁.get? b=some o ->
   ((h₁.push {cls:=.type "traceback",dict:=none,data:=.fields ([head,.ref L,.none,rawInt L,.none]++(if pl.isEmpty then List.replicate 6 Value.none else pl)).toArray}).update e (Obj.mapFields (·.setIfInBounds 1 (Value.ref h₁.objs.size)))).get? b=some o:=
   λb o hbe hb=>by
    rw[Heap.get?_update_other _ _ (Í hbe)];exact Heap.get?_push_of_some _ hb
  refine⟨λb o n1 n2 q=>keep b o (by simpa using n1) ((hs₁.2.1 b n2).trans q),λb o n1 q=>?_,λb o q=>?_⟩
  .obtain⟨sl,q1⟩:=hs₁.2.2 b o q
   exact⟨sl,keep b _ (by simpa using n1) q1⟩
  .by_cases hb:b=e
   .subst hb;exact⟨_,he₃⟩
   .obtain⟨sl,q1⟩:=hs₁.2.2 b o q
    exact⟨_,keep b _ hb q1⟩
 .have hT₃:=(Heap.get?_update_other (h₁.push {cls:=.type "traceback",dict:=none,data:=.fields ([head,.ref L,.none,rawInt L,.none]++(if pl.isEmpty then List.replicate 6 Value.none else pl)).toArray})
   (Obj.mapFields (·.setIfInBounds 1 (Value.ref h₁.objs.size))) (Í hTe)).trans (Heap.get?_push_size h₁ rfl)
  have hsz1:s.heap.objs.size<=h₁.objs.size:=ù hs₁.1.symm;refine⟨_,_,h₁.objs.size,_,_,he₃,⟨Obj.cls_mapFields _ _,xE _ _⟩,hd₃,by simpa using hsz,by simp[hsz],hTe,?_,hsz1,hT₃,rfl,by first|(simp;done)|(rcases hpl with rfl|⟨_,_,_,_,_,_,_,rfl⟩<;>simp)⟩;cases q:s.heap.get? h₁.objs.size with
  |none=>rfl
  |some o=>exact absurd (Heap.lt_size q) (Nat.not_lt_of_le hsz1)
def xF(h0 h:Heap)(e:Addr)(cls:Value)(ch ch':ZM)(fl:Value):Prop:=
 ∃oe vs T oT ts,h.get? e=some oe/\(oe.cls=cls/\oe.dict=none)/\oe.data=.fields vs/\1<vs.size/\vs[1]?=some (.ref T)/\ch'=[e,T]/\T≠e/\h.get? T=some oT/\oT.data=.fields ts/\ts[3]?=some fl/\(T∈ch\/(h0.get? T=none/\h0.objs.size<=T))
def xF.exc(x:xF h0 h e cls ch ch' fl):mQ h e cls ch':=by
 let⟨oe,vs,T,oT,ts,h1,h2,h3,h4,h5,h6,h7,h8,h9,h10,_⟩:=x;exact⟨oe,vs,h1,h2,h3,h4,.inr ⟨T,oT,ts,fl,h5,h6,h7,h8,h9,h10⟩⟩
def xF.new(x:xF h0 h e cls ch ch' fl)(he:e∈ch):∀b∈ch',b∈ch\/(h0.get? b=none/\h0.objs.size<=b):=by
 let⟨oe,vs,T,oT,ts,h1,h2,h3,h4,h5,h6,h7,h8,h9,h10,h11⟩:=x;subst h6;intro b hb;simp![Õ,ë,or_false]at hb;rcases hb with rfl|rfl
 .exact .inl he
 .exact h11
def mQ.mem(x:mQ h e cls ch):e∈ch:=by
 obtain⟨_,_,_,_,_,_,⟨_,rfl⟩|⟨_,_,_,_,_,rfl,_⟩⟩:=x<;>simp
def FunFrames.xt(hl:h.FunFrames base l)(hx:XT (wY l) ch h h')(hc:∀b∈ch,∃o vs,h.get? b=some o/\o.data=.fields vs):h'.FunFrames base l:=
 hl.of_keeps λb o ho hn=>by
  let⟨sl,q⟩:=hx.slot b o (λm=>by grind) ho;exact⟨_,q,rfl⟩
def mQ.recs(x:mQ h e cls ch):∀b∈ch,∃o vs,h.get? b=some o/\o.data=.fields vs:=by
 obtain⟨oe,vs,h1,h2,h3,h4,⟨h5,rfl⟩|⟨T,oT,ts,fl,h5,rfl,h6,h7,h8,h9⟩⟩:=x
 all_goals grind
def aHG(hfr:A.frames=some (env::outer))(hl:s.heap.FunFrames base (env::outer))(hf:env.frame=some L)(x:mQ s.heap e cls ch)(h:∀h' ch',XT (wY (env::outer)) ch s.heap h'->xF s.heap h' e cls ch ch' (rawInt L)->Q () {s with heap:=h'}):wpAny M A (noteFrame (.ref e) env) Q E s:=by
 have hrec:=x.recs;obtain⟨oe,vs,he,⟨rfl,hdi⟩,hd,hsz,⟨h1,rfl⟩|⟨T,oT,ts,fl,h1,rfl,hTe,hT,hdT,h3⟩⟩:=x
 .unfold noteFrame
  simp![hf];refine wpAny_bind (wpAny_field he hd h1 ?_);rw[Ã ⋯];refine NA hfr hl hf he hd hsz λh' xt m=>?_;let⟨oe',vs',T,oT,ts,q1,q2,q3,q4,q5,q6,q7,q8,q9,q10,q11⟩:=m;exact h h' [e,T] xt ⟨oe',vs',T,oT,ts,q1,⟨q2.1,q2.2.trans hdi⟩,q3,q4,q5,rfl,q6,q9,q10,q11,.inr ⟨q7,q8⟩⟩
 .unfold noteFrame
  simp![hf];refine wpAny_bind (wpAny_field he hd h1 ?_);rw[Â (show (Value.ref T != Value.none)=true from by simp)];refine wpAny_bind (wpAny_field hT hdT h3 ?_);by_cases hfl:fl=rawInt L
  .subst hfl
   rw[Â (show (rawInt L == rawInt L)=true from by simp)];exact wpAny_pure (h s.heap [e,T] XT.refl ⟨oe,vs,T,oT,ts,he,⟨rfl,hdi⟩,hd,hsz,h1,rfl,hTe,hT,hdT,h3,.inl 'e'⟩)
  .rw[Ã (show ¬((fl == rawInt L)=true)from λz=>hfl (beq_iff_eq.mp z))]
   refine wpAny_bind (wpAny_setField hT hdT (Array.getElem?_eq_some_iff.mp h3).1 ?_);have other:∀b,b≠T->(s.heap.update T (Obj.mapFields (·.setIfInBounds 3 Value.none))).get? b=s.heap.get? b:=λb hb=>Heap.get?_update_other _ _ (Í hb);have hself:=Heap.get?_update_self (Obj.mapFields (·.setIfInBounds 3 Value.none)) hT (Obj.isFreed_of_fields (Obj.data_mapFields hdT _));have xt1:XT (wY (env::outer)) [e,T] s.heap (s.heap.update T (Obj.mapFields (·.setIfInBounds 3 Value.none))):=by
    refine⟨λb o n1 n2 q=>(other b (by simp at n1;exact n1.2)).trans q,λb o n1 q=>⟨o.slots,(other b (by simp at n1;exact n1.2)).trans q⟩,λb o q=>?_⟩;by_cases hb:b=T
    .grind
    .grind
   refine NA hfr (FunFrames.xt hl xt1 hrec) hf ((other e (Í hTe)).trans he) hd hsz λh' xt m=>?_;let⟨oe',vs',T',oT',ts',q1,q2,q3,q4,q5,q6,q7,q8,q9,q10,q11⟩:=m;have hn:s.heap.get? T'=none:=by
    cases z:s.heap.get? T' with
    |none=>rfl
    |some o=>
     grind
   have hs':s.heap.objs.size<=T':=by
    have q8:(s.heap.update T (Obj.mapFields (·.setIfInBounds 3 Value.none))).objs.size<=T':=q8
    rwa [Heap.size_after_update]at q8
   exact h h' [e,T'] (xt1.trans xt λb hb=>by grind) ⟨oe',vs',T',oT',ts',q1,⟨q2.1,q2.2.trans hdi⟩,q3,q4,q5,rfl,q6,q9,q10,q11,.inr ⟨hn,hs'⟩⟩
def UQ{fs:ZM}(x:mQ s.heap e cls ch)(h:∀h',XT fs ch s.heap h'->mQ h' e cls ch->Q () {s with heap:=h'}):wpAny M A (setFlight (.ref e) none) Q E s:=by
 obtain⟨oe,vs,he,⟨rfl,hdi⟩,hd,hsz,⟨h1,rfl⟩|⟨T,oT,ts,fl,h1,rfl,hTe,hT,hdT,h3⟩⟩:=x
 .unfold setFlight
  refine wpAny_bind (wpAny_field he hd h1 ?_);rw[Ã ⋯];exact wpAny_pure (h s.heap XT.refl ⟨oe,vs,he,⟨rfl,hdi⟩,hd,hsz,.inl ⟨h1,rfl⟩⟩)
 .unfold setFlight
  refine wpAny_bind (wpAny_field he hd h1 ?_);rw[Â (show (Value.ref T != Value.none)=true from by simp)];have hsz3:=(Array.getElem?_eq_some_iff.mp h3).1;have other:∀b,b≠T->(s.heap.update T (Obj.mapFields (·.setIfInBounds 3 ((none:Option Addr).elim Value.none λf=>rawInt f)))).get? b=s.heap.get? b:=λb hb=>Heap.get?_update_other _ _ (Í hb);have hself:=Heap.get?_update_self (Obj.mapFields (·.setIfInBounds 3 ((none:Option Addr).elim Value.none λf=>rawInt f))) hT (Obj.isFreed_of_fields (Obj.data_mapFields hdT _));refine wpAny_setField hT hdT hsz3 (h _ ?_ ?_)
  .refine⟨λb o n1 n2 q=>(other b (by simp at n1;exact n1.2)).trans q,λb o n1 q=>⟨o.slots,(other b (by simp at n1;exact n1.2)).trans q⟩,λb o q=>?_⟩
   grind
  .exact⟨oe,vs,(other e (Í hTe)).trans he,⟨rfl,hdi⟩,hd,hsz,.inr ⟨T,_,_,_,h1,rfl,hTe,hself,Obj.data_mapFields hdT _,by simp[hsz3];rfl⟩⟩
def aBL(hfr:A.frames=some (env::outer))(hl:s.heap.FunFrames base (env::outer))(hf:env.frame=some L)(x:mQ s.heap e cls ch)(h:∀h' ch',XT (wY (env::outer)) ch s.heap h'->mQ h' e cls ch'->(∀b∈ch',b∈ch\/(s.heap.get? b=none/\s.heap.objs.size<=b))->Q () {s with heap:=h'}):wpAny M A (leaving env (.ref e)) Q E s:=by
 have hm:=x.mem;unfold leaving;refine wpAny_bind (aHG hfr hl hf x λh1 ch1 xt1 m1=>?_);have hn:=m1.new hm;refine UQ (fs:=wY (env::outer)) m1.exc λh2 xt2 e2=>?_;exact h h2 ch1 (xt1.trans xt2 λb hb=>(hn b hb).imp id (·.1)) e2 hn
end
section
variable {X:Cx}{À:ZB}{σ:St}{H H':Hp}{s:Shared}{h':Heap}{ch:ZM}{b:Addr}
structure xG(X:Cx)(À:ZB)(H:Hp)(b:Addr):Prop where
 un:H b=none
 new:b∈X.ex\/X.s₀.heap.get? b=none
 fr:b≠X.env.locals
 cell:∀x c,X.env.cells.lookup x=some c->c≠b
 pin:∀p∈X.pn++À,p.1≠b
def xG.of(I:Inv X À σ H s)(hn:H' b=none)(h:s.heap.get? b=none):xG X À H' b:=by
 refine⟨hn,?_,λe=>?_,λx c e z=>?_,λp hp z=>?_⟩
 .by_cases hx:b∈X.ex
  .exact .inl hx
  .refine .inr ?_
   cases q:X.s₀.heap.get? b with
   |none=>rfl
   |some o=>
    let⟨o',e⟩:=I.base.there b o q hx;rw[h]at e;cases e
 .obtain⟨m,⟨o,es,ep,ho,_⟩,_⟩:=I.loc
  grind
 .obtain⟨v,o,ho,_⟩:=I.cell x c e
  rw[z,h]at ho;cases ho
 .have:=(I.pin p hp).1
  grind
def XT.hok(I:Inv X À σ H s)(x:XT (wY X.stack) ch s.heap h')(hc:∀b∈ch,H b=none):mZ X.prog X.w H h':=λa o e=>
 (I.hok a o e).stay (λb u hb q=>x.keep b u (λm=>by
  grind) (λm=>by
  have:=I.stkFree b m
  grind) q) (λ_ q=>q) λ_ _ q=>q
def Inv.xt(I:Inv X À σ H s)(x:XT (wY X.stack) ch s.heap h')(hc:∀b∈ch,xG X À H b):Inv X À σ H {s with heap:=h'}:=by
 have nl:∀b o,X.s₀.heap.get? b=some o->b≠X.env.locals:=λb o q e=>ú _ (Ù (Heap.lt_size q) (by rw[e];exact I.ok.above));have nc:∀b o,X.s₀.heap.get? b=some o->b∉X.ex->b∉ch:=λb o q hx m=>by rw[(hc b m).new.resolve_left hx]at q;cases q
 have cells:∀c v,(∃y,X.env.cells.lookup y=some c)->s.heap.IsCell c v->h'.IsCell c v:=λc v⟨y,e⟩⟨o,ho,hd⟩=>by
  let⟨sl,q⟩:=x.slot c o (λm=>(hc c m).cell y c e rfl) ho;exact⟨_,q,hd⟩
 refine⟨I.ok,I.os,I.bare,⟨λb o q n hf hx=>x.keep b o (nc b o q hx) (λz=>(Õ.mp (I.stkSub b z)).elim (nl b o q) hf) (I.base.keep b o q n hf hx),λb o q n hf hx=>?_,I.base.free,λb o q hx=>?_,I.base.tups,I.base.frzs,I.base.tbls⟩,?_,λy c e=>?_,I.free,I.freeC,λp hp=>?_,x.hok I λb hb=>(hc b hb).un,I.len⟩
 .obtain⟨sl,e⟩:=I.base.slot b o q n hf hx
  let⟨sl2,e2⟩:=x.slot b _ (nc b o q hx) e;exact⟨sl2,e2⟩
 .obtain⟨o1,e1⟩:=I.base.there b o q hx
  exact x.there b o1 e1
 .obtain⟨m,⟨o,es,ep,ho,r⟩,hl⟩:=I.loc
  let⟨sl,q⟩:=x.slot X.env.locals o (λmm=>(hc _ mm).fr rfl) ho;refine⟨m,⟨_,es,ep,q,r⟩,λi y v e1 e2 e3=>?_⟩;let⟨u,r1,lk⟩:=hl i y v e1 e2 e3;refine⟨u,r1,?_⟩;rcases lk with lk|⟨lk,c,c1,c2⟩
  .exact .inl lk
  .exact .inr ⟨lk,c,c1,cells c _ ⟨y,c1⟩ c2⟩
 .obtain⟨v,q⟩:=I.cell y c e
  exact⟨v,cells c v ⟨y,e⟩ q⟩
 .obtain⟨e,n,ne,nf,d⟩:=I.pin p hp
  exact⟨x.keep p.1 p.2 (λm=>(hc p.1 m).pin p hp rfl) (λz=>(Õ.mp (I.stkSub p.1 z)).elim ne nf) e,n,ne,nf,d⟩
def ŷ(X:Cx)(À:ZB)(H:Hp)(s:Shared)(nm:Str)(e:Value):Prop:=
 ∃a cls ch,e=.ref a/\W.nsIn X.K mainGlobals nm=some (some cls)/\mQ s.heap a cls ch/\∀b∈ch,xG X À H b
end
abbrev D:=PyData
abbrev DS:=List (ZL)
inductive Res(α:Type) where
 |ok (a:α) (δ:DS)
 |err (x:D) (δ:DS)
 |stuck
def Res.bind{α β:Type}:Res α->(α->DS->Res β)->Res β
 |.ok a δ,k=>k a δ
 |.err x δ,_=>.err x δ
 |.stuck,_=>.stuck
abbrev M(α:Type):=DS->Res α
structure cI where
 F0:Hp
 H0:Hp
 g0:Addr->Option (Nat×ZH)
 ps:ZH
 σ0:St
 owp:ZH
 wf:∀a i q,g0 a=some (i,q)->i∈ps
abbrev Ÿ:=Nat×ZH
abbrev ZP:=Addr->Option Ÿ
def kd:Nat->Nat
 |20=>2
 |30=>3
 |_=>0
def ch:Nat->Nat->Nat
 |20,1=>1
 |20,2=>1
 |20,_=>0
 |30,_=>0
 |n,_=>n-1
def dH(nm:Str)(fs:ZG)(ds:ZI):D:=.dict ((.none,.str nm)::(fs.map PyData.str).zip ds)
def kE(ms:List cX)(ds:ZI):D:=.dict ((ms.map F8).zip ds)
abbrev UR:=Addr×ZH×HO
def Nd(K:ZC)(k:Nat)(d:D)(ds:ZI)(v:V)(vs:List V)(cs:List UR):Prop:=match k with
 |0=>∃a,d=.list ds/\v=.ref a/\cs=[(a,[],.lst vs)]
 |1=>∃a,d=.tuple ds/\v=.ref a/\cs=[(a,[],.tup vs)]
 |2=>∃a nm fs C dx,d=dH nm fs ds/\v=.ref a/\fs.length=ds.length/\W.nsIn K mainGlobals nm=some (some (.ref C))/\cs=[(a,[],.ins C dx (fs.zip vs)),(dx,[1000],.own a)]
 |_=>∃a ms,d=kE ms ds/\v=.ref a/\ms.length=ds.length/\cs=[(a,[],.dK (ms.zip vs))]
def iR(K:ZC)(F H:Hp)(g:ZP)(i:Nat):Nat->Nat->ZH->D->V->Prop
 |_,0,_,d,v=>bE K F d v
 |0,_+1,_,_,_=>False
 |f+1,c+1,p,d,v=>∃(ds:ZI)(vs:List V)(cs:List UR),Nd K (kd (c+1)) d ds v vs cs/\(∀x∈cs,g x.1=some (i,p++x.2.1)/\H x.1=some x.2.2/\F x.1=none)/\ds.length=vs.length /\
   ∀(k:Nat)(d':D)(v':V),ds[k]?=some d'->vs[k]?=some v'->iR K F H g i f (ch (c+1) k) (p++[k]) d' v'
def bA(K:ZC)(F H:Hp)(g:ZP)(i:Nat)(n:Nat)(p:ZH)(d:D)(v:V):Prop:=iR K F H g i n n p d v
def m9:Str:="place_below"
def kX:Str:="place_below.<locals>.<lambda>"
def DX:List Stmt->Option Pos
 |[_,.Return (some (.Call _ _ (⟨_,.Lambda _ _ _ pos,_⟩::_) _)) _]=>some pos
 |_=>none
def jR(K:ZC):(Option (Addr×Addr×Pos)):=match W.nsIn K mainGlobals m9 with
 |some (some (.ref f))=>(match K.lookup f with
  |some ⟨_,_,.func fd,_⟩=>(match fd.body,W.tabIn K m9 with
   |.stmts b,some (c,P)=>(match DX b with
    |some pos=>some (c,P,pos)
    |none=>none)
   |_,_=>none)
  |_=>none)
 |_=>none
def Ą(K:ZC)(F:Hp):Prop:=∀c P pos,jR K=some (c,P,pos)->F P=some (.lam (rawInt pos.line) (rawInt pos.col) kX)
def Ą.mono{K:ZC}(h:Ą K F)(s:aI F F'):Ą K F':=λc P pos e=>s _ _ (h c P pos e)
def BT(K:ZC)(F0 F:Hp):Prop:=Ą K F0/\aI F0 F
def BT.trans'{K:ZC}(a:BT K H H1)(b:aI H1 H2):BT K H H2:=⟨a.1,λc o h=>b c o (a.2 c o h)⟩
def BT.lm{K:ZC}(a:BT K H H1):Ą K H1:=a.1.mono a.2
structure cV(K:ZC)(Z:cI)(ow:ZH)(g:ZP)(F H:Hp)(σ:St)(δ:DS):Prop where
 sub:aI F H
 f0:BT K Z.F0 F
 kept:∀b o,Z.g0 b=none->Z.H0 b=some o->H b=some o
 new:∀a,Z.F0 a=none->Z.H0 a≠none->F a=none
 there:∀b,Z.H0 b≠none->H b≠none
 lab:∀a i p,g a=some (i,p)->Z.H0 a=none\/∃q,Z.g0 a=some (i,q)
 len:δ.length=σ.length
 par:∀i∈Z.ps,σ[i]?=Z.σ0[i]?/\ow.getD i 0=Z.owp.getD i 0
 slot:∀(i:Nat)(d:D),δ[i]?=some (some d)->∃v,σ[i]?=some (some v)/\bA K F H g i (ow.getD i 0) [] d v
def bZ(K:ZC)(Z:cI)(ow:ZH)(F H:Hp)(σ:St)(δ:DS):Prop:=∃g,cV K Z ow g F H σ δ
def gD(K:ZC)(Z:cI)(ow:ZH)(n:Nat)(d:D)(v:V)(F H:Hp)(σ:St)(δ:DS):Prop:=∃g,cV K Z ow g F H σ δ/\bA K F H g 1000 n [] d v
def aI.trans'(a:aI H H1)(b:aI H1 H2):aI H H2:=λc o h=>b c o (a c o h)
def aD.len{K:ZC}:∀{ds:ZI}{vs:List V},aD K F ds vs->ds.length=vs.length
 |[],vs,h=>by unfold aD at h;rw[h];rfl
 |d::ds,vs,h=>by
  unfold aD at h;let⟨x,r,rfl,_,h⟩:=h;rw[Û,Û,aD.len h]
def aD.get{K:ZC}:∀{ds:ZI}{vs:List V}{i:Nat}{d:D},aD K F ds vs->ds[i]?=some d->∃v,vs[i]?=some v/\bE K F d v
 |d::ds,vs,0,d',h,e=>by
  unfold aD at h
  grind
 |d::ds,vs,i+1,d',h,e=>by
  unfold aD at h;let⟨x,r,rfl,hx,h⟩:=h;exact aD.get (i:=i) h e
def aD.of{K:ZC}{ds:ZI}(hl:ds.length=vs.length)(h:∀(k:Nat)(d:D)(v:V),ds[k]?=some d->vs[k]?=some v->bE K F d v):aD K F ds vs:=by
 induction ds generalizing vs with
 |nil=>
  cases vs with
  |nil=>unfold aD;rfl
  |cons v vs=>cases hl
 |cons d ds ih=>
  cases vs with
  |nil=>cases hl
  |cons v vs=>
   unfold aD;exact⟨v,vs,rfl,h 0 d v rfl rfl,ih (Nat.succ.inj hl) λk d' v' e1 e2=>h (k+1) d' v' e1 e2⟩
def aD.both{K:ZC}{ds:ZI}(h:aD K F ds vs)(k:Nat)(d:D)(v:V)(e1:ds[k]?=some d)(e2:vs[k]?=some v):bE K F d v:=by
 let⟨v',e,r⟩:=h.get e1
 grind
def iX{K:ZC}:aD K F [] []:=by unfold aD;rfl
def fU{K:ZC}(h:bE K F d v)(t:aD K F ds vs):aD K F (d::ds) (v::vs):=by unfold aD;exact⟨v,vs,rfl,h,t⟩
def aD.app{K:ZC}:∀{ds es:ZI}{vs ws:List V},aD K F ds vs->aD K F es ws->aD K F (ds++es) (vs++ws)
 |[],es,vs,ws,h,t=>by unfold aD at h;rw[h];exact t
 |d::ds,es,vs,ws,h,t=>by
  unfold aD at h;let⟨x,r,rfl,hx,h⟩:=h;exact fU hx (aD.app h t)
def aD.take{K:ZC}(n:Nat)(h:aD K F ds vs):aD K F (ds.take n) (vs.take n):=
 aD.of (by rw[ê,ê,h.len]) λk d v e1 e2=>by
  rw[List.getElem?_take]at e1 e2;split at e1
  .rw[Â (by assumption)]at e2;exact h.both k d v e1 e2
  .cases e1
def aD.drop{K:ZC}(n:Nat)(h:aD K F ds vs):aD K F (ds.drop n) (vs.drop n):=
 aD.of (by rw[ď,ď,h.len]) λk d v e1 e2=>by
  rw[List.getElem?_drop]at e1 e2;exact h.both _ d v e1 e2
def NB:∀{c k:Nat},ch (c+1) k<=c:=by
 intro c k;unfold ch;split<;>lia
def iR.trans{K:ZC}{g g':ZP}(hF:aI F F')(h:∀a p o,g a=some (i,p)->H a=some o->F a=none->g' a=some (j,q++p)/\H' a=some o/\F' a=none)(r:iR K F H g i f c p d v):iR K F' H' g' j f c (q++p) d v:=by
 induction f generalizing c p d v with
 |zero=>
  cases c with
  |zero=>exact hF.rep d v r
  |succ c=>exact r.elim
 |succ f ih=>
  cases c with
  |zero=>exact hF.rep d v r
  |succ c=>
   let⟨ds,vs,cs,nd,hc,hl,r⟩:=r;refine⟨ds,vs,cs,nd,λx hx=>?_,hl,λk d' v' q1 q2=>?_⟩
   .obtain⟨a1,a2,a3⟩:=hc x hx
    rw[List.append_assoc];exact h _ _ _ a1 a2 a3
   .rw[List.append_assoc]
    exact ih (r k d' v' q1 q2)
def iR.fuel{K:ZC}(h1:c<=f)(h2:c<=f')(r:iR K F H g i f c p d v):iR K F H g i f' c p d v:=by
 induction f generalizing c f' p d v with
 |zero=>
  cases c with
  |zero=>unfold iR at r⊢;exact r
  |succ c=>exact r.elim
 |succ f ih=>
  cases c with
  |zero=>unfold iR at r⊢;exact r
  |succ c=>
   cases f' with
   |zero=>exact absurd h2 (Nat.not_succ_le_zero _)
   |succ f'=>
    let⟨ds,vs,cs,nd,hc,hl,r⟩:=r;exact⟨ds,vs,cs,nd,hc,hl,λk d' v' q1 q2=>ih (Ü NB (Nat.le_of_succ_le_succ h1)) (Ü NB (Nat.le_of_succ_le_succ h2)) (r k d' v' q1 q2)⟩
def bA.open{K:ZC}(h:bA K F H g i (c+1) p d v):
  ∃(ds:ZI)(vs:List V)(cs:List UR),Nd K (kd (c+1)) d ds v vs cs/\(∀x∈cs,g x.1=some (i,p++x.2.1)/\H x.1=some x.2.2/\F x.1=none)/\ds.length=vs.length /\
   ∀(k:Nat)(d':D)(v':V),ds[k]?=some d'->vs[k]?=some v'->bA K F H g i (ch (c+1) k) (p++[k]) d' v':=by
 let⟨ds,vs,cs,nd,hc,hl,r⟩:=h;exact⟨ds,vs,cs,nd,hc,hl,λk d' v' q1 q2=>iR.fuel NB (È _) (r k d' v' q1 q2)⟩
def bA.shut{K:ZC}{F H:Hp}{g:ZP}{i c:Nat}{p:ZH}{d:D}{v:V}{ds:ZI}{vs:List V}{cs:List UR}(nd:Nd K (kd (c+1)) d ds v vs cs)(hc:∀x∈cs,g x.1=some (i,p++x.2.1)/\H x.1=some x.2.2/\F x.1=none)(hl:ds.length=vs.length)(r:∀(k:Nat)(d':D)(v':V),ds[k]?=some d'->vs[k]?=some v'->bA K F H g i (ch (c+1) k) (p++[k]) d' v'):bA K F H g i (c+1) p d v:=
 ⟨ds,vs,cs,nd,hc,hl,λk d' v' q1 q2=>iR.fuel (È _) NB (r k d' v' q1 q2)⟩
def bA.lst{K:ZC}{i c m:Nat}(h:bA K F H g i (c+1) p d v)(hk:↥(kd (c+1)=0))(hm:∀k,ch (c+1) k=m:=by intro k;rfl):
  ∃(a:Addr)(ds:ZI)(vs:List V),d=.list ds/\v=.ref a/\g a=some (i,p)/\H a=some (.lst vs)/\F a=none/\ds.length=vs.length /\
   ∀(k:Nat)(d':D)(v':V),ds[k]?=some d'->vs[k]?=some v'->bA K F H g i m (p++[k]) d' v':=by
 let⟨ds,vs,cs,nd,hc,hl,r⟩:=h.open;rw[hk]at nd;let⟨a,rfl,rfl,rfl⟩:=nd;let⟨a1,a2,a3⟩:=hc _ (ò.mpr rfl);exact⟨a,ds,vs,rfl,rfl,by simpa using a1,a2,a3,hl,λk d' v' q1 q2=>by rw[<- hm k];exact r k d' v' q1 q2⟩
def bA.mkL{K:ZC}{g:ZP}(h:∃(a:Addr)(ds:ZI)(vs:List V),d=.list ds/\v=.ref a/\g a=some (i,p)/\H a=some (.lst vs)/\F a=none/\ds.length=vs.length /\
   ∀(k:Nat)(d':D)(v':V),ds[k]?=some d'->vs[k]?=some v'->bA K F H g i m (p++[k]) d' v')(hk:↥(kd (c+1)=0))(hm:∀k,ch (c+1) k=m:=by intro k;rfl):bA K F H g i (c+1) p d v:=by
 let⟨a,ds,vs,e1,e2,e3,e4,e5,e6,h⟩:=h;refine bA.shut (ds:=ds) (vs:=vs) (cs:=[(a,[],.lst vs)]) (by rw[hk];exact⟨a,e1,e2,rfl⟩) (λx hx=>?_) e6 λk d' v' q1 q2=>by rw[hm k];exact h k d' v' q1 q2
 rw[ò.mp hx];exact⟨by simpa using e3,e4,e5⟩
def bA.keepJ{K:ZC}{g g':ZP}(hF:aI F F')(h:∀a p o,g a=some (i,p)->H a=some o->F a=none->g' a=some (j,p)/\H' a=some o/\F' a=none)(r:bA K F H g i n p d v):bA K F' H' g' j n p d v:=
 iR.trans (q:=[]) hF h r
def bA.mono{K:ZC}(hF:aI F F')(hg:∀a l,l.1=i->g a=some l->g' a=some l)(hn:∀a l,l.1=i->g a=some l->F a=none->F' a=none)(hH:∀a l o,l.1=i->g a=some l->H a=some o->H' a=some o)(r:bA K F H g i n p d v):bA K F' H' g' i n p d v:=r.keepJ hF λa p o e1 e2 e3=>⟨hg a _ rfl e1,hH a _ _ rfl e1 e2,hn a _ rfl e1 e3⟩
def bA.relab{K:ZC}{g g':ZP}(hg:∀a p,g a=some (i,p)->g' a=some (j,p))(r:bA K F H g i n p d v):bA K F H g' j n p d v:=
 r.keepJ (λ_ _ z=>z) λa p o e1 e2 e3=>⟨hg a p e1,e2,e3⟩
def Nd.rep{K:ZC}{F:Hp}{k:Nat}{d:D}{ds:ZI}{v:V}{vs:List V}{cs:List UR}(nd:Nd K k d ds v vs cs)(hc:∀x∈cs,F x.1=some x.2.2)(hl:ds.length=vs.length)(r:aD K F ds vs):bE K F d v:=by
 unfold Nd at nd;split at nd
 .obtain⟨a,rfl,rfl,rfl⟩:=nd
  unfold bE;exact⟨a,vs,rfl,d8.of (hc _ (ò.mpr rfl)),r⟩
 .obtain⟨a,rfl,rfl,rfl⟩:=nd
  unfold bE;exact⟨a,vs,rfl,rX.of (hc _ (ò.mpr rfl)),r⟩
 .obtain⟨a,nm,fs,C,dx,rfl,rfl,hfl,hC,rfl⟩:=nd
  have h1:=hc _ (Ô);have h2:=hc _ (Ó _ (ò.mpr rfl));unfold dH bE;refine⟨a,.str nm::vs,rfl,.inl ⟨nm,fs,C,dx,vs,rfl,?_,by grind,h1,h2,hC⟩,?_⟩
  .rw[Ì,ě 'l']
  .unfold iM
   exact⟨_,_,rfl,by unfold bE;rfl,xB 'l' r⟩
 .obtain⟨a,ms,rfl,rfl,hm,rfl⟩:=nd
  unfold kE bE;refine⟨a,vs,rfl,.inr ⟨ms,?_,by grind,hc _ (ò.mpr rfl)⟩,xB 'l' r⟩;rw[ě 'l']
def iR.froze{K:ZC}{g:ZP}(hF:aI F F')(h:∀a p o,g a=some (i,p)->H a=some o->F a=none->F' a=some o):
  ∀{f c:Nat}{p:ZH}{d:D}{v:V},iR K F H g i f c p d v->bE K F' d v
 |0,0,_,d,v,r=>hF.rep d v r
 |_+1,0,_,d,v,r=>hF.rep d v r
 |_+1,_+1,p,d,v,⟨ds,vs,cs,nd,hc,hl,r⟩=>nd.rep (λx hx=>by
   let⟨a1,a2,a3⟩:=hc x hx;exact h _ _ _ a1 a2 a3) hl (aD.of hl λk d' v' q1 q2=>iR.froze hF h (r k d' v' q1 q2))
def ą(g:ZP)(i:Nat)(F H:Hp):Hp:=λb=>open Classical in if ∃p,g b=some (i,p)then (if F b=none then H b else F b)else F b
def aHH{g:ZP}{i:Nat}{F H:Hp}{b:Addr}{p:ZH}(h:g b=some (i,p))(hn:F b=none):ą g i F H b=H b:=by
 unfold ą;rw[Â ⟨p,h⟩,Â hn]
def NC{g:ZP}{i:Nat}{F H:Hp}{b:Addr}(h:∀p,g b≠some (i,p)):ą g i F H b=F b:=by
 unfold ą;rw[Ã λzQ=>by let⟨p,e⟩:=zQ;exact h p e]
def nA:aI F (ą g i F H):=λb o e=>by
 unfold ą
 simp_all
def aBM(hs:aI F H):aI (ą g i F H) H:=λb o e=>by
 unfold ą at e;split at e
 .split at e
  .exact e
  .exact hs b o e
 .exact hs b o e
def bA.freeze{K:ZC}(r:bA K F H g i n p d v):bE K (ą g i F H) d v:=
 iR.froze nA (λa p o e1 e2 e3=>by rw[aHH e1 e3];exact e2) r
section
variable {K:ZC}{Z:cI}{ow:ZH}{g:ZP}{F H:Hp}{σ:St}{δ:DS}
def Ĥ(g:ZP)(i:Nat):ZP:=λb=>open Classical in if ∃p,g b=some (i,p)then none else g b
def K8{g:ZP}{i:Nat}{a:Addr}{l:Ÿ}(h:l.1≠i)(e:g a=some l):Ĥ g i a=some l:=by
 unfold Ĥ
 grind
def K9(e:Ĥ g i a=some l):g a=some l/\l.1≠i:=by
 unfold Ĥ at e;split at e
 all_goals grind
def cV.freeze(R:cV K Z ow g F H σ δ)(i:Nat)(hP:i∉Z.ps):cV K Z (ow.set i 0) (Ĥ g i) (ą g i F H) H σ δ:=by
 refine⟨aBM R.sub,R.f0.trans' nA,R.kept,λa h1 h2=>?_,R.there,λa j p e=>R.lab a j p (K9 e).1,R.len,λj hj=>⟨(R.par j hj).1,?_⟩,λj d e=>?_⟩
 .have q:∀p,g a≠some (i,p):=λp e=>(R.lab a i p e).elim h2 λ⟨q,z⟩=>hP (Z.wf a i q z)
  rw[NC q];exact R.new a h1 h2
 .have:j≠i:=λe=>hP (by rw[<- e];exact hj)
  rw[Ë,Ú (Í this),<- Ë];exact(R.par j hj).2
 .obtain⟨v,e1,o⟩:=R.slot j d e
  refine⟨v,e1,?_⟩;by_cases hj:j=i
  .subst hj
   have:(ow.set j 0).getD j 0=0:=by
    rw[Ë,č];split
    .split<;>rfl
    .grind
   rw[this];exact o.freeze
  .have:(ow.set i 0).getD j 0=ow.getD j 0:=by rw[Ë,Ë,Ú (Í hj)]
   rw[this];exact o.mono nA (λa l hl e=>K8 (by rw[hl];exact hj) e) (λa l hl e hn=>by rw[NC (λp q=>by grind)];exact hn) λ_ _ _ _ _ h=>h
structure aP(Z:cI)(ow:ZH):Prop where
 ow:ow.length<=1000
 ps:1000∉Z.ps
def gD.freeze(S:aP Z ow)(R:gD K Z ow n d v F H σ δ):∃F',aI F F'/\gD K Z ow 0 d v F' H σ δ:=by
 let⟨g,R,o⟩:=R;have R':=R.freeze 1000 S.ps;rw[List.set_eq_of_length_le S.ow]at R';exact⟨_,nA,_,R',o.freeze⟩
def gD.rel(R:gD K Z ow n d v F H σ δ):bZ K Z ow F H σ δ:=let ⟨g,R,_⟩:=R;⟨g,R⟩
def gD.rep(R:gD K Z ow 0 d v F H σ δ):bE K F d v:=let ⟨_,_,o⟩:=R;o
def bZ.x(R:bZ K Z ow F H σ δ)(h:bE K F d v):gD K Z ow 0 d v F H σ δ:=let ⟨g,R⟩:=R;⟨g,R,h⟩
def bZ.sub(R:bZ K Z ow F H σ δ):aI F H:=let ⟨_,R⟩:=R;R.sub
def cV.laid(R:cV K Z ow g F H σ δ)(hp:H p=none):cV K Z ow g (aV F p o) (aV H p o) σ δ:=by
 have fp:F p=none:=by
  cases e:F p with
  |none=>rfl
  |some u=>rw[R.sub p u e]at hp;cases hp
 have z:Z.H0 p=none:=by
  cases e:Z.H0 p with
  |none=>rfl
  |some u=>exact absurd hp (R.there p (by rw[e];simp))
 refine⟨λb u e=>?_,R.f0.trans' (bW fp o),λb u n e=>?_,λa h1 h2=>?_,λb h=>?_,R.lab,R.len,R.par,λi d e=>?_⟩
 .by_cases hb:b=p
  .subst hb;rw[aJ]at e⊢;exact e
  .rw[aE hb]at e⊢;exact R.sub b u e
 .have:b≠p:=λq=>by rw[q,z]at e;cases e
  rw[aE this];exact R.kept b u n e
 .have:a≠p:=λq=>h2 (by rw[q,z])
  rw[aE this];exact R.new a h1 h2
 .have:b≠p:=λq=>h (by rw[q,z])
  rw[aE this];exact R.there b h
 .obtain⟨v,e1,ho⟩:=R.slot i d e
  refine⟨v,e1,?_⟩;refine ho.keepJ (bW fp o) λa q u e1 e2 e3=>?_;have:a≠p:=λz=>by rw[z,hp]at e2;cases e2
  exact⟨e1,by rw[aE this];exact e2,by rw[aE this];exact e3⟩
def bZ.laid(R:bZ K Z ow F H σ δ)(hp:H p=none):bZ K Z ow (aV F p o) (aV H p o) σ δ:=let ⟨g,R⟩:=R;⟨g,R.laid hp⟩
def bZ.fnone(R:bZ K Z ow F H σ δ)(hp:H p=none):F p=none:=by
 cases e:F p with
 |none=>rfl
 |some u=>rw[R.sub p u e]at hp;cases hp
def bZ.newList(S:aP Z ow)(R:bZ K Z ow F H σ δ)(hp:H p=none)(h:aD K F ds vs):gD K Z ow 1 (.list ds) (.ref p) F (aV H p (.lst vs)) σ δ:=by
 have fp:=R.fnone hp;let⟨g,R⟩:=R;have z:Z.H0 p=none:=by
  cases e:Z.H0 p with
  |none=>rfl
  |some u=>exact absurd hp (R.there p (by rw[e];simp))
 refine⟨λb=>if b=p then some (1000,[])else Ĥ g 1000 b,⟨R.sub.trans' (bW hp _),R.f0,λb u n e=>?_,R.new,λb h=>?_,λa i q e=>?_,R.len,R.par,λi d e=>?_⟩,?_⟩
 .have:b≠p:=λq=>by rw[q,z]at e;cases e
  rw[aE this];exact R.kept b u n e
 .have:b≠p:=λq=>h (by rw[q,z])
  rw[aE this];exact R.there b h
 .split at e
  .rename_i q;rw[q];exact .inl z
  .exact R.lab a i q (K9 e).1
 .obtain⟨v,e1,o⟩:=R.slot i d e
  refine⟨v,e1,?_⟩;by_cases hi:ow.getD i 0=0
  .rw[hi]at o⊢;exact o
  .have hi':i<1000:=by
    by_cases hl:i<ow.length
    .exact Ù hl S.ow
    .exact absurd (by rw[Ë,ç (by exact è.mp ‹_›)];rfl) hi
   refine o.keepJ (λ_ _ z=>z) λa q u e1 e2 e3=>?_;have:a≠p:=λz=>by rw[z,hp]at e2;cases e2
   exact⟨by rw[Ã this];exact K8 (by show i≠1000;exact Ð ‹_›) e1,by rw[aE this];exact e2,e3⟩
 .refine bA.mkL (m:=0) ?_
  exact⟨p,ds,vs,rfl,rfl,by rw[Â rfl],aJ,fp,h.len,λk d' v' q1 q2=>h.both k d' v' q1 q2⟩
end
def PE.mono(h:PE X e t)(hm:∀σ H Q,t' σ H Q->t σ H Q):PE X e t':=λÀ s σ H Q I q=>h À s σ H Q I (hm σ H Q q)
def PT.mono(h:PT X e t)(hm:∀σ H Q,t' σ H Q->t σ H Q):PT X e t':=λÀ s σ H Q I q=>h À s σ H Q I (hm σ H Q q)
def PA.mono(h:PA X es t)(hm:∀σ H Q,t' σ H Q->t σ H Q):PA X es t':=λpos À s σ H Q I q=>h pos À s σ H Q I (hm σ H Q q)
def PS.mono{st:Stmt}(h:PS X st t)(hm:∀D σ H,t' D σ H->t D σ H):PS X st t':=λÀ s σ H D I q=>h À s σ H D I (hm D σ H q)
def DB.mono{st:List Stmt}(h:DB X st t)(hm:∀D σ H,t' D σ H->t D σ H):DB X st t':=λÀ s σ H D I q=>h À s σ H D I (hm D σ H q)
def XP(X:Cx)(Z:cI)(À:ZB)(F:Hp)(x:D)(δ:DS)(e:Value)(s:Shared):Prop:=
 ∃nm H F' σ,x=.str nm/\Inv X À σ H s/\bZ X.K Z Z.owp F' H σ δ/\aI F F'/\ŷ X À H s nm e
structure jJ(X:Cx)(Z:cI)(ow:ZH)(F:Hp)(x:D)(δ:DS):Prop where
 out:∀À e s,XP X Z À F x δ e s->X.xe e s
def jJ.mono(h:jJ X Z ow F x δ)(s:aI F F'):jJ X Z ow F' x δ:=⟨λÀ e st z=>by
 let⟨nm,H,F1,σ,h1,h2,h3,h4,h5⟩:=z;exact h.out À e st ⟨nm,H,F1,σ,h1,h2,h3,s.trans' h4,h5⟩⟩
def jJ.cast(h:jJ X Z ox F x δ):jJ X Z ow F x δ:=⟨h.out⟩
def ē(Z:cI):Bool:=(List.range Z.owp.length).all λi=>Z.ps.contains i || Z.owp.getD i 0 == 0
def aHJ(h:ē Z=true)(hi:i∉Z.ps):Z.owp.getD i 0=0:=by
 by_cases hl:i<Z.owp.length
 .have:=í.mp h i (List.mem_range.mpr hl)
  grind
 grind
section
variable {K:ZC}{Z:cI}{ow:ZH}{g:ZP}{F H:Hp}{σ:St}{δ:DS}
def Ĕ(ps:ZH)(g:ZP)(F H:Hp):Hp:=λb=>open Classical in if ∃i p,g b=some (i,p)/\i∉ps then (if F b=none then H b else F b)else F b
def Ź(ps:ZH)(g:ZP):ZP:=λb=>open Classical in if ∃i p,g b=some (i,p)/\i∉ps then none else g b
def sI:aI F (Ĕ ps g F H):=λb o e=>by
 unfold Ĕ
 simp_all
def aBP(hs:aI F H):aI (Ĕ ps g F H) H:=λb o e=>by
 unfold Ĕ at e;split at e
 .split at e
  .exact e
  .exact hs b o e
 .exact hs b o e
def bA.freezeN(hi:i∉ps)(r:bA K F H g i n p d v):bE K (Ĕ ps g F H) d v:=
 iR.froze sI (λa p o e1 e2 e3=>by unfold Ĕ;rw[Â ⟨i,p,e1,hi⟩,Â e3];exact e2) r
def bZ.toP(hz:ē Z=true)(R:bZ K Z ow F H σ δ):∃F',aI F F'/\bZ K Z Z.owp F' H σ δ:=by
 let⟨g,R⟩:=R;refine⟨Ĕ Z.ps g F H,sI,Ź Z.ps g,aBP R.sub,R.f0.trans' sI,R.kept,λa h1 h2=>?_,R.there,λa i p e=>?_,R.len,λi hi=>⟨(R.par i hi).1,rfl⟩,λi d e=>?_⟩
 .unfold Ĕ
  rw[Ã]
  .exact R.new a h1 h2
  .rintro⟨i,p,e,hi⟩
   rcases R.lab a i p e with z|⟨q,z⟩
   .exact h2 z
   .exact hi (Z.wf a i q z)
 .unfold Ź at e
  split at e
  .cases e
  .exact R.lab a i p e
 .obtain⟨v,e1,o⟩:=R.slot i d e
  refine⟨v,e1,?_⟩;by_cases hi:i∈Z.ps
  .rw[<- (R.par i hi).2]
   refine o.mono sI (λa l hl e=>?_) (λa l hl e hn=>?_) λ_ _ _ _ _ h=>h
   .unfold Ź
    grind
   .unfold Ĕ
    grind
  .rw[aHJ hz hi]
   exact o.freezeN hi
end
def kD(X:Cx)(Z:cI)(ow:ZH)(n:Nat)(r:Res D)(F:Hp)(σ:St)(Q:VK):Prop:=match r with
 |.ok d δ=>∀v H' F',gD X.K Z ow n d v F' H' σ δ->aI F F'->Q v H'
 |.err x δ=>jJ X Z ow F x δ
 |.stuck=>False
def tD(X:Cx)(Z:cI)(ow:ZH)(n:Nat)(f:M D):TE:=λσ H Q=>∃F δ,bZ X.K Z ow F H σ δ/\kD X Z ow n (f δ) F σ Q
def DE(X:Cx)(Z:cI)(ow:ZH)(n:Nat)(e:Expr)(f:M D):Prop:=PE X e (tD X Z ow n f)
def kT(X:Cx)(Z:cI)(ow:ZH)(r:Res Bool)(F:Hp)(σ:St)(Q:Bool->Hp->Prop):Prop:=match r with
 |.ok b δ=>∀H' F',bZ X.K Z ow F' H' σ δ->aI F F'->Q b H'
 |.err x δ=>jJ X Z ow F x δ
 |.stuck=>False
def tT(X:Cx)(Z:cI)(ow:ZH)(f:M Bool):TT:=λσ H Q=>∃F δ,bZ X.K Z ow F H σ δ/\kT X Z ow (f δ) F σ Q
def DT(X:Cx)(Z:cI)(ow:ZH)(e:Expr)(f:M Bool):Prop:=PT X e (tT X Z ow f)
inductive Arg where
 |own (i:Nat)
 |val (f:M D)
def sJ(K:ZC)(F:Hp)(σ:St):List Arg->List (ZL)->List V->Prop
 |[],[],[]=>True
 |.own i::as,none::ds,v::vs=>σ[i]?=some (some v)/\sJ K F σ as ds vs
 |.val _::as,some d::ds,v::vs=>bE K F d v/\sJ K F σ as ds vs
 |_,_,_=>False
def dJ:List Arg->M (List (ZL))
 |[]=>λδ=>.ok [] δ
 |.own i::as=>λδ=>match δ[i]? with
  |some (some _)=>(dJ as δ).bind λds δ'=>.ok (none::ds) δ'
  |_=>.stuck
 |.val f::as=>λδ=>(f δ).bind λd δ1=>(dJ as δ1).bind λds δ2=>.ok (some d::ds) δ2
def kA(X:Cx)(Z:cI)(ow:ZH)(as:List Arg)(r:Res (List (ZL)))(F:Hp)(σ:St)(Q:List V->Hp->Prop):Prop:=match r with
 |.ok ds δ=>∀vs H' F',bZ X.K Z ow F' H' σ δ->aI F F'->sJ X.K F' σ as ds vs->Q vs H'
 |.err x δ=>jJ X Z ow F x δ
 |.stuck=>False
def ŏ(X:Cx)(Z:cI)(ow:ZH)(as:List Arg):TA:=λσ H Q=>∃F δ,bZ X.K Z ow F H σ δ/\kA X Z ow as (dJ as δ) F σ Q
def DA(X:Cx)(Z:cI)(ow:ZH)(es:List Expr)(as:List Arg):Prop:=PA X es (ŏ X Z ow as)
section
variable {X:Cx}{Z:cI}{ow:ZH}{pos:Pos}
def kD.mono(h:kD X Z ow n r F σ Q)(s:aI F F1)(q:∀v H',Q v H'->Q' v H'):kD X Z ow n r F1 σ Q':=by
 cases r with
 |ok d δ=>exact λv H' F' R s'=>q v H' (h v H' F' R (s.trans' s'))
 |err x δ=>exact jJ.mono h s
 |stuck=>exact h
def kT.mono{Q Q':Bool->Hp->Prop}(h:kT X Z ow r F σ Q)(s:aI F F1)(q:∀v H',Q v H'->Q' v H'):kT X Z ow r F1 σ Q':=by
 cases r with
 |ok d δ=>exact λH' F' R s'=>q _ H' (h H' F' R (s.trans' s'))
 |err x δ=>exact jJ.mono h s
 |stuck=>exact h
def bF(i:Nat):M D:=λδ=>match δ[i]? with
 |some (some d)=>.ok d δ
 |_=>.stuck
def dC(d:D):M D:=λδ=>.ok d δ
def dD(i:Nat){x:Str}(ho:↥(ow.getD i 0=0))(hN:↥(X.N[i]?=some x))(hv:#v[AU X.env.scope x])(hd:⇑(Zdb x))(hcd:⇑(Zcd x)):DE X Z ow 0 (.Name x pos) (bF i):=
 (dA hN hv hd hcd).mono λσ H Q h=>by
  let⟨F,δ,R,h⟩:=h;unfold bF at h;cases e:δ[i]? with
  |none=>sleep 5
  |some o=>
   cases o with
   |none=>sleep 5
   |some d=>
    rw[e]at h;let⟨g,R⟩:=R;let⟨v,e1,o⟩:=R.slot i d e;rw[ho]at o;exact⟨v,e1,h v H F ⟨g,R,o⟩ λ_ _ z=>z⟩
def nB(h:PE X e (tC v))(hr:∀F,bE X.K F d v):DE X Z ow 0 e (dC d):=h.mono λσ H Q h=>by
 let⟨F,δ,⟨g,R⟩,h⟩:=h;exact h v H F ⟨g,R,hr F⟩ λ_ _ z=>z
def aK:DE X Z ow 0 (.Constant (.int i) j pos) (dC (.int i)):=nB aGI λF=>by unfold bE;rfl
def mR{b:Bool}:DE X Z ow 0 (.Constant (.bool b) j pos) (dC (.bool b)):=nB M1 λF=>by unfold bE;rfl
def xH:DE X Z ow 0 (.Constant .none j pos) (dC .none):=nB aGJ λF=>by unfold bE;rfl
def fV:DE X Z ow 0 (.Constant (.str x) j pos) (dC (.str x)):=nB DC λF=>by unfold bE;rfl
def iF(op:D->D->ZL)(f g:M D):M D:=λδ=>(f δ).bind λx δ1=>(g δ1).bind λy δ2=>match op x y with
 |some z=>.ok z δ2
 |none=>.stuck
def oP(X:Cx)(r:R2)(n:Nat)(op:D->D->ZL):Prop:=∀(Z:cI)(ow:ZH)(F H:Hp)(σ:St)(δ:DS)(a b:D)(x y:V)(d:D)(Q:VK),aP Z ow->bZ X.K Z ow F H σ δ->bE X.K F a x->bE X.K F b y->op a b=some d ->
 (∀v H' F',gD X.K Z ow n d v F' H' σ δ->aI F F'->Q v H')->r x y H Q
def DY(S:aP Z ow)(os:oP X r n op)(h:tD X Z ow n (iF op f g) σ H Q):ĸ r (tD X Z ow 0 f) (tD X Z ow 0 g) σ H Q:=by
 let⟨F,δ,R,h⟩:=h;unfold iF at h;sleep 1;cases e:f δ with
 |stuck=>sleep 5
 |err x δ1=>rw[e]at h;exact h
 |ok d1 δ1=>
  rw[e]at h;intro x H1 F1 R1 s1;refine⟨F1,δ1,R1.rel,?_⟩;simp![Res.bind]at h;cases e2:g δ1 with
  |stuck=>rw[e2]at h;exact h.elim
  |err x δ2=>rw[e2]at h;exact jJ.mono h s1
  |ok d2 δ2=>
   rw[e2]at h;simp![Res.bind]at h;intro y H2 F2 R2 s2;cases e3:op d1 d2 with
   |none=>rw[e3]at h;exact h.elim
   |some d=>
    rw[e3]at h;exact os Z ow F2 H2 σ δ2 d1 d2 x y d Q S R2.rel (s2.rep _ _ R1.rep) R2.rep e3 λv H' F' R' s'=>h v H' F' R' (s1.trans' (s2.trans' s'))
def vX(S:aP Z ow)(ho:kC X (binaryOp o) r)(os:oP X r n op)(ha:DE X Z ow 0 a f)(hb:DE X Z ow 0 b g):DE X Z ow n (.BinOp a o b pos) (iF op f g):=
 (aKU ho ha hb).mono λ_ _ _ h=>DY S os h
def nC(S:aP Z ow)(ho:kC X (compareOp o) r)(os:oP X r 0 op)(ha:DE X Z ow 0 a f)(hb:DE X Z ow 0 b g)(hm:behindInMarks o b=false):DE X Z ow 0 (.Compare a [o] [b] pos) (iF op f g):=
 (aA4 ho ha hb hm).mono λ_ _ _ h=>DY S os h
def dB(f:M D):M Bool:=λδ=>(f δ).bind λd δ1=>match d with
 |.bool b=>.ok b δ1
 |_=>.stuck
def GU{Q:Bool->Hp->Prop}(h:tT X Z ow (dB f) σ H Q):tD X Z ow 0 f σ H (λx H'=>∃k,x=.bl k/\Q k H'):=by
 let⟨F,δ,R,h⟩:=h;unfold dB at h;sleep 1;cases e:f δ with
 |stuck=>sleep 5
 |err x δ1=>rw[e]at h;exact h
 |ok d1 δ1=>
  rw[e]at h;intro x H1 F1 R1 s1;simp![Res.bind]at h;cases d1 with
  |bool k=>
   have q:=R1.rep;unfold bE at q;exact⟨k,q,h H1 F1 R1.rel s1⟩
  |_=>exact h.elim
def bL(S:aP Z ow)(ho:kC X (compareOp o) r)(os:oP X r 0 op)(ha:DE X Z ow 0 a f)(hb:DE X Z ow 0 b g)(hm:behindInMarks o b=false):DT X Z ow (.Compare a [o] [b] pos) (dB (iF op f g)):=
 (aA5 ho ha hb hm).mono λ_ _ _ h=>DY S os (GU h)
def dS(h:DE X Z ow 0 e f)(he: ~~~(∀whole,isTrue e X.env whole=(do let v <- whole;standAt e.pos;holding [v] (truthy v)))):DT X Z ow e (dB f):=(aGL h he).mono λ_ _ _ h=>GU h
def p6(f:M Bool):M Bool:=λδ=>(f δ).bind λb δ1=>.ok (!b) δ1
def fL{f:M Bool}(h:DT X Z ow e f):DT X Z ow (.UnaryOp .Not e pos) (p6 f):=(aGO h).mono λσ H Q h=>by
 let⟨F,δ,R,h⟩:=h;unfold p6 at h;sleep 1;cases e:f δ with
 |stuck=>sleep 5
 |err x δ1=>rw[e]at h;exact h
 |ok b δ1=>rw[e]at h;exact h
def GV(f g:M Bool):M Bool:=λδ=>(f δ).bind λb δ1=>if b=true then g δ1 else .ok false δ1
def QM(f g:M Bool):M Bool:=λδ=>(f δ).bind λb δ1=>if b=true then .ok true δ1 else g δ1
def PW.mono(h:PW X e t)(hm:∀σ H Q,t' σ H Q->t σ H Q):PW X e t':=λwh À s σ H Q I q=>h wh À s σ H Q I (hm σ H Q q)
def aHK{f g:M Bool}{rest:List Expr}(ha:DT X Z ow a f)(hb:PW X (.BoolOp .And (b::rest) pos) (tT X Z ow g)):PW X (.BoolOp .And (a::b::rest) pos) (tT X Z ow (GV f g)):=(aGN ha hb).mono λσ H Q h=>by
 let⟨F,δ,R,h⟩:=h;unfold GV at h;sleep 1;cases e:f δ with
 |stuck=>sleep 5
 |err x δ1=>rw[e]at h;exact h
 |ok k δ1=>
  rw[e]at h;simp![Res.bind]at h;intro H1 F1 R1 s1;cases k with
  |true=>rw[Â rfl]at h⊢;exact⟨F1,δ1,R1,h.mono s1 λ_ _ z=>z⟩
  |false=>rw[Ã á]at h⊢;exact h H1 F1 R1 s1
def p7{f g:M Bool}{rest:List Expr}(ha:DT X Z ow a f)(hb:PW X (.BoolOp .Or (b::rest) pos) (tT X Z ow g)):PW X (.BoolOp .Or (a::b::rest) pos) (tT X Z ow (QM f g)):=(aKJ ha hb).mono λσ H Q h=>by
 let⟨F,δ,R,h⟩:=h;unfold QM at h;sleep 1;cases e:f δ with
 |stuck=>sleep 5
 |err x δ1=>rw[e]at h;exact h
 |ok k δ1=>
  rw[e]at h;simp![Res.bind]at h;intro H1 F1 R1 s1;cases k with
  |true=>rw[Â rfl]at h⊢;exact h H1 F1 R1 s1
  |false=>rw[Ã á]at h⊢;exact⟨F1,δ1,R1,h.mono s1 λ_ _ z=>z⟩
def Ĭ(c:M Bool)(f g:M D):M D:=λδ=>(c δ).bind λb δ1=>if b=true then f δ1 else g δ1
def aLB(hc:DT X Z ow c h)(ha:DE X Z ow n a f)(hb:DE X Z ow n b g):DE X Z ow n (.IfExp c a b pos) (Ĭ h f g):=(TU hc ha hb).mono λσ H Q q=>by
 let⟨F,δ,R,q⟩:=q;unfold Ĭ at q;sleep 1;cases e:h δ with
 |stuck=>rw[e]at q;sleep 4
 |err x δ1=>rw[e]at q;exact q
 |ok k δ1=>
  rw[e]at q;simp![Res.bind]at q;intro H1 F1 R1 s1;cases k with
  |true=>rw[Â rfl]at q⊢;exact⟨F1,δ1,R1,q.mono s1 λ_ _ z=>z⟩
  |false=>rw[Ã á]at q⊢;exact⟨F1,δ1,R1,q.mono s1 λ_ _ z=>z⟩
def cC(S:aP Z ow)(h:DE X Z ow n e f):DE X Z ow 0 e f:=PE.mono h λσ H Q h=>by
 let⟨F,δ,R,h⟩:=h;sleep 1;cases e:f δ with
 |stuck=>sleep 5
 |err x δ1=>rw[e]at h;exact h
 |ok d δ1=>
  rw[e]at h;intro v H1 F1 R1 s1;let⟨F2,s2,R2⟩:=R1.freeze S;exact h v H1 F2 R2 (s1.trans' s2)
end
def bB:List (M D)->M (ZI)
 |[]=>λδ=>.ok [] δ
 |f::fs=>λδ=>(f δ).bind λd δ1=>(bB fs δ1).bind λds δ2=>.ok (d::ds) δ2
def kV'(X:Cx)(Z:cI)(ow:ZH)(r:Res (ZI))(F:Hp)(σ:St)(Q:List V->Hp->Prop):Prop:=match r with
 |.ok ds δ=>∀vs H' F',bZ X.K Z ow F' H' σ δ->aI F F'->aD X.K F' ds vs->Q vs H'
 |.err x δ=>jJ X Z ow F x δ
 |.stuck=>False
def tV(X:Cx)(Z:cI)(ow:ZH)(fs:List (M D)):TA:=λσ H Q=>∃F δ,bZ X.K Z ow F H σ δ/\kV' X Z ow (bB fs δ) F σ Q
def DV(X:Cx)(Z:cI)(ow:ZH)(es:List Expr)(fs:List (M D)):Prop:=PA X es (tV X Z ow fs)
section
variable {X:Cx}{Z:cI}{ow:ZH}{n:Nat}{pos:Pos}{e:Expr}{es:List Expr}{fs:List (M D)}
def aY:DV X Z ow [] []:=iW.mono λσ H Q h=>by
 let⟨F,δ,R,h⟩:=h;exact h [] H F R 'o' iX
def aF(he:DE X Z ow 0 e f)(hs:DV X Z ow es fs)(hst:↥(Zse e es X.env)):DV X Z ow (e::es) (f::fs):=(dO he hs hst).mono λσ H Q h=>by
 let⟨F,δ,R,h⟩:=h;unfold bB at h;sleep 1;cases e1:f δ with
 |stuck=>rw[e1]at h;exact h.elim
 |err x δ1=>rw[e1]at h;exact h
 |ok d δ1=>
  rw[e1]at h;simp![Res.bind]at h;intro x H1 F1 R1 s1;refine⟨F1,δ1,R1.rel,?_⟩;cases e2:bB fs δ1 with
  |stuck=>rw[e2]at h;exact h.elim
  |err x δ2=>rw[e2]at h;exact jJ.mono h s1
  |ok ds δ2=>
   rw[e2]at h;intro vs H2 F2 R2 s2 z;exact h (x::vs) H2 F2 R2 (s1.trans' s2) (fU (s2.rep _ _ R1.rep) z)
def cM:DA X Z ow [] []:=iW.mono λσ H Q h=>by
 let⟨F,δ,R,h⟩:=h;exact h [] H F R 'o' trivial
def aO(he:DE X Z ow 0 e f)(hs:DA X Z ow es as)(hst:↥(Zse e es X.env)):DA X Z ow (e::es) (.val f::as):=(dO he hs hst).mono λσ H Q h=>by
 let⟨F,δ,R,h⟩:=h;unfold dJ at h;sleep 1;cases e1:f δ with
 |stuck=>rw[e1]at h;exact h.elim
 |err x δ1=>rw[e1]at h;exact h
 |ok d δ1=>
  rw[e1]at h;simp![Res.bind]at h;intro x H1 F1 R1 s1;refine⟨F1,δ1,R1.rel,?_⟩;cases e2:dJ as δ1 with
  |stuck=>rw[e2]at h;exact h.elim
  |err x δ2=>rw[e2]at h;exact jJ.mono h s1
  |ok ds δ2=>
   rw[e2]at h;intro vs H2 F2 R2 s2 z;exact h (x::vs) H2 F2 R2 (s1.trans' s2) ⟨s2.rep _ _ R1.rep,z⟩
def US(i:Nat)(hs:DA X Z ow es as)(hst:↥(starEach (.Name x p::es) X.env=(false,eval 'h' X.env)::starEach es X.env))(hN:↥(X.N[i]?=some x))(hv:#v[AU X.env.scope x])(hd:⇑(Zdb x))(hcd:⇑(Zcd x)):DA X Z ow (.Name x p::es) (.own i::as):=
 (dO (dA hN hv hd hcd) hs hst).mono λσ H Q h=>by
  let⟨F,δ,R,h⟩:=h;unfold dJ at h;cases e:δ[i]? with
  |none=>sleep 5
  |some o=>
   cases o with
   |none=>sleep 5
   |some d=>
    rw[e]at h;let⟨g,R'⟩:=id R;let⟨v,e1,_⟩:=R'.slot i d e;refine⟨v,e1,F,δ,R,?_⟩;cases e2:dJ as δ with
    |stuck=>simp![e2]at h;exact h.elim
    |err x δ2=>simp![e2]at h;exact h
    |ok ds δ2=>
     simp![e2]at h;intro vs H2 F2 R2 s2 z;exact h (v::vs) H2 F2 R2 s2 ⟨e1,z⟩
def QN(fs:List (M D)):M D:=λδ=>(bB fs δ).bind λds δ1=>if ds.length<=sizeLine then .ok (.tuple ds) δ1 else .stuck
def LA(fs:List (M D)):M D:=λδ=>(bB fs δ).bind λds δ1=>if ds.length<=sizeLine then .ok (.list ds) δ1 else .stuck
def qQ{K:ZC}{F:Hp}{p:Addr}{ds:ZI}{vs:List V}(hp:F p=none)(h:aD K F ds vs):bE K (aV F p (.tup vs)) (.tuple ds) (.ref p):=by
 unfold bE;exact⟨p,vs,rfl,rX.of aJ,(bW hp _).repAll ds vs h⟩
def dL(h:DV X Z ow es fs):DE X Z ow 0 (.Tuple es x1 pos) (QN fs):=(UF h).mono λσ H Q h=>by
 let⟨F,δ,R,h⟩:=h;unfold QN at h;sleep 1;cases e:bB fs δ with
 |stuck=>sleep 5
 |err x δ1=>rw[e]at h;exact h
 |ok ds δ1=>
  rw[e]at h;simp![Res.bind]at h;intro vs H1 F1 R1 s1 z;split at h
  .rename_i hl
   refine⟨by rw[<- z.len];exact hl,λp hp=>?_⟩;have fp:=R1.fnone hp;exact h _ _ (aV F1 p (.tup vs)) ((R1.laid hp).x (qQ fp z)) (s1.trans' (bW fp _))
  .exact h.elim
def cJ(S:aP Z ow)(h:DV X Z ow es fs):DE X Z ow 1 (.List es pos) (LA fs):=(aG5 h).mono λσ H Q h=>by
 let⟨F,δ,R,h⟩:=h;unfold LA at h;sleep 1;cases e:bB fs δ with
 |stuck=>sleep 5
 |err x δ1=>rw[e]at h;exact h
 |ok ds δ1=>
  rw[e]at h;simp![Res.bind]at h;intro vs H1 F1 R1 s1 z;split at h
  .rename_i hl
   exact⟨by rw[<- z.len];exact hl,λp hp=>h _ _ F1 (R1.newList S hp z) s1⟩
  .exact h.elim
def KC(op:ZI->ZL)(fs:List (M D)):M D:=λδ=>(bB fs δ).bind λds δ1=>match op ds with
 |some d=>.ok d δ1
 |none=>.stuck
def ğ(X:Cx)(r:List V->Hp->VK->Prop)(n:Nat)(op:ZI->ZL):Prop:=∀(Z:cI)(ow:ZH)(F H:Hp)(σ:St)(δ:DS)(ds:ZI)(vs:List V)(d:D)(Q:VK),aP Z ow->bZ X.K Z ow F H σ δ->aD X.K F ds vs->op ds=some d ->
 (∀v H' F',gD X.K Z ow n d v F' H' σ δ->aI F F'->Q v H')->r vs H Q
def UT(S:aP Z ow)(os:ğ X r n op)(h:tD X Z ow n (KC op fs) σ H Q):Ŵ r (tV X Z ow fs) σ H Q:=by
 let⟨F,δ,R,h⟩:=h;unfold KC at h;sleep 1;cases e:bB fs δ with
 |stuck=>sleep 5
 |err x δ1=>rw[e]at h;exact h
 |ok ds δ1=>
  rw[e]at h;simp![Res.bind]at h;intro vs H1 F1 R1 s1 z;cases e3:op ds with
  |none=>rw[e3]at h;exact h.elim
  |some d=>
   rw[e3]at h;exact os Z ow F1 H1 σ δ1 ds vs d Q S R1 z e3 λv H' F' R' s'=>h v H' F' R' (s1.trans' s')
def iY{id:String}{p:Pos}(S:aP Z ow)(hc:gZ X (.builtin id) r)(os:ğ X r n op)(hg:Gl X x)(hm:X.mg x=none)(hv:bootBuiltins x=some (.builtin id))(ha:DV X Z ow (e::es) fs)(hn:⇑(x≠"__name__"))(hdb:⇑(Zdb x))(he:↥(Zse e es X.env))(hpl:↥(Zbt pos es X.env)):
  DE X Z ow n (.Call 'h' (e::es) [] pos) (KC op fs):=PE.mono (sA hc hg hm hv ha hn hdb he hpl) λ_ _ _ h=>UT S os h
def uO{p:Pos}(S:aP Z ow)(hc:gZ X (.type T) r)(os:ğ X r n op)(hg:Gl X x)(hm:X.mg x=none)(hv:bootBuiltins x=some (.type T))(ha:DV X Z ow (e::es) fs)(hn:⇑(x≠"__name__"))(hdb:⇑(Zdb x))(he:↥(Zse e es X.env))(hpl:↥(Zbt pos es X.env)):
  DE X Z ow n (.Call 'h' (e::es) [] pos) (KC op fs):=PE.mono (uJ hc hg hm hv ha hn hdb he hpl) λ_ _ _ h=>UT S os h
end
inductive Fl where
 |next|brk|cont
 |ret (d:D)
def kS(X:Cx)(Z:cI)(ow' ol ox:ZH)(rm:Nat)(r:Res Fl)(F:Hp)(Dn:AY):Prop:=match r with
 |.ok .next δ=>∀σ' H' F',bZ X.K Z ow' F' H' σ' δ->aI F F'->Dn.nx σ' H'
 |.ok .brk δ=>∀σ' H' F',bZ X.K Z ol F' H' σ' δ->aI F F'->Dn.bk σ' H'
 |.ok .cont δ=>∀σ' H' F',bZ X.K Z ol F' H' σ' δ->aI F F'->Dn.ct σ' H'
 |.ok (.ret d) δ=>∀v σ' H' F' owr,gD X.K Z owr rm d v F' H' σ' δ->aI F F'->Dn.rt v H'
 |.err x δ=>jJ X Z ox F x δ
 |.stuck=>False
def tS(X:Cx)(Z:cI)(ow ow' ol ox:ZH)(rm:Nat)(f:M Fl):TS:=λDn σ H=>∃F δ,bZ X.K Z ow F H σ δ/\kS X Z ow' ol ox rm (f δ) F Dn
def DZ(X:Cx)(Z:cI)(ow ow' ol ox:ZH)(rm:Nat)(st:Stmt)(f:M Fl):Prop:=PS X st (tS X Z ow ow' ol ox rm f)
def BU(X:Cx)(Z:cI)(ow ow' ol ox:ZH)(rm:Nat)(st:List Stmt)(f:M Fl):Prop:=DB X st (tS X Z ow ow' ol ox rm f)
section
variable {X:Cx}{Z:cI}{ow ow' ow1 ol ox:ZH}{n rm:Nat}{pos:Pos}{e:Expr}{f:M D}{st:Stmt}{sts:List Stmt}{u v:M Fl}{F:Hp}
def kS.mono(h:kS X Z ow' ol ox rm r F Dn)(s:aI F F1):kS X Z ow' ol ox rm r F1 Dn:=by
 cases r with
 |ok fl δ=>
  cases fl with
  |next=>exact λσ' H' F' R s'=>h σ' H' F' R (s.trans' s')
  |brk=>exact λσ' H' F' R s'=>h σ' H' F' R (s.trans' s')
  |cont=>exact λσ' H' F' R s'=>h σ' H' F' R (s.trans' s')
  |ret d=>exact λv σ' H' F' owr R s'=>h v σ' H' F' owr R (s.trans' s')
 |err x δ=>exact jJ.mono h s
 |stuck=>exact h
def xI:M Fl:=λδ=>.ok .next δ
def aZ:BU X Z ow ow ol ox rm [] xI:=DB.mono DF λDn σ H h=>by
 let⟨F,δ,R,h⟩:=h;exact h σ H F R 'o'
def eK(u v:M Fl):M Fl:=λδ=>(u δ).bind λfl δ1=>match fl with
 |.next=>v δ1
 |fl=>.ok fl δ1
def aA(h1:DZ X Z ow ow1 ol ox rm st u)(h2:BU X Z ow1 ow' ol ox rm sts v):BU X Z ow ow' ol ox rm (st::sts) (eK u v):=DB.mono (kR h1 h2) λDn σ H h=>by
 let⟨F,δ,R,h⟩:=h;unfold eK at h;sleep 1;cases e:u δ with
 |stuck=>sleep 5
 |err x δ1=>rw[e]at h;exact h
 |ok fl δ1=>
  rw[e]at h;simp![Res.bind]at h;cases fl with
  |next=>exact λσ' H' F' R' s'=>⟨F',δ1,R',h.mono s'⟩
  |brk=>exact h
  |cont=>exact h
  |ret d=>exact h
def aC(h1:DZ X Z ow ow' ol ox rm st u):BU X Z ow ow' ol ox rm [st] u:=DB.mono (rZ h1) λDn σ H h=>h
def pL(f:M D):M Fl:=λδ=>(f δ).bind λd δ1=>.ok (.ret d) δ1
def aN(h:DE X Z ow rm e f):DZ X Z ow ow' ol ox rm (.Return (some e) pos) (pL f):=PS.mono (DG h) λDn σ H h=>by
 let⟨F,δ,R,h⟩:=h;unfold pL at h;sleep 1;cases e:f δ with
 |stuck=>sleep 5
 |err x δ1=>rw[e]at h;exact jJ.cast h
 |ok d δ1=>
  rw[e]at h;exact λv H' F' R' s'=>h v σ H' F' ow R' s'
def BV(f:M D):M Fl:=λδ=>(f δ).bind λ_ δ1=>.ok .next δ1
def bR(h:DE X Z ow n e f)(hs:↥(swapsWith e none pos.line X.env=pure false)):DZ X Z ow ow ol ox rm (.Expr e pos) (BV f):=PS.mono (M3 h hs) λDn σ H h=>by
 let⟨F,δ,R,h⟩:=h;unfold BV at h;sleep 1;cases e:f δ with
 |stuck=>sleep 5
 |err x δ1=>rw[e]at h;exact jJ.cast h
 |ok d δ1=>
  rw[e]at h;exact λv H' F' R' s'=>h σ H' F' R'.rel s'
def qR(c:M Bool)(u v:M Fl):M Fl:=λδ=>(c δ).bind λb δ1=>if b=true then u δ1 else v δ1
def bX(hc:DT X Z ow c k)(ha:BU X Z ow ow' ol ox rm sa u)(hb:BU X Z ow ow' ol ox rm sb v):DZ X Z ow ow' ol ox rm (.If c sa sb pos) (qR k u v):=PS.mono (TW hc ha hb) λDn σ H h=>by
 let⟨F,δ,R,h⟩:=h;unfold qR at h;sleep 1;cases e:k δ with
 |stuck=>sleep 5
 |err x δ1=>rw[e]at h;exact jJ.cast h
 |ok d δ1=>
  rw[e]at h;simp![Res.bind]at h;intro H1 F1 R1 s1;cases d with
  |true=>rw[Â rfl]at h⊢;exact⟨F1,δ1,R1,h.mono s1⟩
  |false=>rw[Ã á]at h⊢;exact⟨F1,δ1,R1,h.mono s1⟩
def bZ.freeze(i:Nat)(R:bZ X.K Z ow F H σ δ)(hi:i∉Z.ps):∃F',aI F F'/\bZ X.K Z (ow.set i 0) F' H σ δ:=let ⟨_,R⟩:=R;⟨_,nA,_,R.freeze i hi⟩
def cP{l:ZH}(h:l.contains i=false):i∉l:=λm=>by rw[List.contains_iff_mem.mpr m]at h;cases h
def bS(i:Nat)(h:BU X Z (ow.set i 0) ow' ol ox rm sts u)(hi:↥(Z.ps.contains i=false)):BU X Z ow ow' ol ox rm sts u:=DB.mono h λDn σ H h=>by
 let⟨F,δ,R,h⟩:=h;let⟨F',s,R'⟩:=R.freeze i (cP hi);exact⟨F',δ,R',h.mono s⟩
def gD.store{v:V}(S:aP Z ow)(R:gD X.K Z ow n d v F H σ δ)(hi:i<δ.length)(hps:i∉Z.ps)(hl:i<ow.length):bZ X.K Z (ow.set i n) F H (σ.set i (some v)) (δ.set i (some d)):=by
 let⟨g,R,o⟩:=R;have i1:i<1000:=Ù hl S.ow;have hg:∀(a:Addr)(l:Ÿ),l.1≠i->l.1≠1000->g a=some l->(λb=>match g b with|some (j,p)=>if j=1000 then some (i,p)else if j=i then none else some (j,p)|none=>none:ZP) a=some l:=λa l h1 h2 e=>by
  let⟨j,p⟩:=l;dsimp only;rw[e];dsimp only;rw[Ã h2,Ã h1]
 refine⟨λb=>match g b with|some (j,p)=>if j=1000 then some (i,p)else if j=i then none else some (j,p)|none=>none,R.sub,R.f0,R.kept,R.new,R.there,λa j p e=>?_,by rw[Ï,Ï];exact R.len,λj hj=>?_,λj d' e=>?_⟩
 .cases q:g a with
  |none=>rw[q]at e;cases e
  |some l=>
   let⟨j',p'⟩:=l;rw[q]at e;have e:(if j'=1000 then some (i,p')else if j'=i then none else some (j',p'))=some (j,p):=e;split at e
   .rename_i z
    refine .inl ((R.lab a j' p' q).elim id λzQ=>by let⟨q',w⟩:=zQ;exact absurd (Z.wf a j' q' w) (by rw[z];exact S.ps))
   .split at e
    .cases e
    .cases e;exact R.lab a j p q
 .have ne:j≠i:=λz=>hps (by rw[<- z];exact hj)
  rw[Ú (Í ne),Ë,Ú (Í ne),<- Ë];exact R.par j hj
 .by_cases hj:j=i
  .subst hj
   rw[ß hi]at e;cases e;refine⟨v,ß (by rw[<- R.len];exact hi),?_⟩;have:(ow.set j n).getD j 0=n:=by rw[Ë,ß hl];rfl
   rw[this];exact o.relab λa p e=>by rw[e];exact Â rfl
  .rw[Ú (Í hj)]at e
   let⟨w,e1,o1⟩:=R.slot j d' e;refine⟨w,by rw[Ú (Í hj)];exact e1,?_⟩;have:(ow.set i n).getD j 0=ow.getD j 0:=by rw[Ë,Ë,Ú (Í hj)]
   rw[this];by_cases hz:ow.getD j 0=0
   .rw[hz]at o1⊢;exact o1
   .have j1:j<1000:=by
     by_cases hl:j<ow.length
     .exact Ù hl S.ow
     .exact absurd (by rw[Ë,ç (by exact è.mp ‹_›)];rfl) hz
    exact o1.mono 'o' (λa l hl e=>hg a l (by rw[hl];exact hj) (by rw[hl];exact Ð ‹_›) e) (λ_ _ _ _ h=>h) λ_ _ _ _ _ h=>h
def jK(i:Nat)(f:M D):M Fl:=λδ=>(f δ).bind λd δ1=>if i<δ1.length then .ok .next (δ1.set i (some d))else .stuck
def D0(S:aP Z ow)(hps:i∉Z.ps)(hl:i<ow.length)(h:tS X Z ow (ow.set i n) ol ox rm (jK i f) Dn σ H):QC (tD X Z ow n f) (kU i) Dn σ H:=by
 let⟨F,δ,R,h⟩:=h;unfold jK at h;sleep 1;cases e:f δ with
 |stuck=>sleep 5
 |err x δ1=>rw[e]at h;exact jJ.cast h
 |ok d δ1=>
  rw[e]at h;simp![Res.bind]at h;intro v H1 F1 R1 s1;split at h
  .rename_i hi
   exact h _ H1 F1 (R1.store S hi hps hl) s1
  .exact h.elim
def aH(i:Nat){pos':Pos}(S:aP Z ow)(h:DE X Z ow n e f)(hN:X.N.Nodup)(hi:↥(X.N[i]?=some x))(hx:#v[TQ X.env.scope x])(hps:↥(Z.ps.contains i=false))(hl:⇑(i<ow.length))(hs:↥(swapsWith e (some (.Name x pos')) pos.line X.env=pure false))(hf:X.fn x=true\/X.env.scope.names.lookup x=some .local:=by first|exact .inl rfl|exact .inr rfl|assumption):
  DZ X Z ow (ow.set i n) ol ox rm (.Assign [.Name x pos'] e pos) (jK i f):=PS.mono (KK hN hi hx h hs hf) λDn σ H h=>D0 S (cP hps) hl h
end
def gG(set:D->DS->Option DS)(body:M Fl):ZI->M Fl
 |[]=>λδ=>.ok .next δ
 |d::ds=>λδ=>match set d δ with
  |none=>.stuck
  |some δ1=>(body δ1).bind λfl δ2=>match fl with
   |.next=>gG set body ds δ2
   |.cont=>gG set body ds δ2
   |.brk=>.ok .next δ2
   |.ret d=>.ok (.ret d) δ2
def ĺ(X:Cx)(Z:cI)(ow:ZH)(g:TG)(set:D->DS->Option DS):Prop:=∀(F H:Hp)(σ:St)(δ δ':DS)(d:D)(v:V)(Q:St->Hp->Prop),bZ X.K Z ow F H σ δ->bE X.K F d v->set d δ=some δ'->(∀σ',bZ X.K Z ow F H σ' δ'->Q σ' H)->g v σ H Q
def setN(i:Nat):D->DS->Option DS:=λd δ=>if i<δ.length then some (δ.set i (some d))else none
def uP(is:ZH):D->DS->Option DS:=λd δ=>match d with
 |.tuple ds=>if ds.length=is.length then (is.zip ds).foldl (λ(o:Option DS)(p:Nat×D)=>o.bind λδ=>setN p.1 p.2 δ) (some δ)else none
 |_=>none
section
variable {X:Cx}{Z:cI}{ow:ZH}{n:Nat}{u:M Fl}{set:D->DS->Option DS}
def ź(h:ow.getD i 0=0):ow.set i 0=ow:=by
 by_cases hi:i<ow.length
 .apply List.ext_getElem?
  intro j;by_cases hj:j=i
  .subst hj
   rw[ß hi];rw[Ë,Ê hi]at h;rw[Ê hi];exact congrArg some h.symm
  .rw[Ú (Í hj)]
 .exact List.set_eq_of_length_le (by exact è.mp ‹_›)
def D1(S:aP Z ow)(hps:i∉Z.ps)(hl:i<ow.length)(h0:ow.getD i 0=0):ĺ X Z ow (kU i) (setN i):=λF H σ δ δ' d v Q R r e q=>by
 unfold setN at e;split at e
 .rename_i hi
  cases e;have:=(R.x r).store S hi hps hl;rw[ź h0]at this;exact q _ this
 .cases e
def BW(S:aP Z ow):∀(is:ZH)(t:TY),(∀i∈is,i∉Z.ps/\i<ow.length/\ow.getD i 0=0)->t=is.foldr (λi u=>GH (kU i) u) TZ ->
  ∀(F H:Hp)(σ:St)(δ δ':DS)(ds:ZI)(vs:List V)(Q:St->Hp->Prop),bZ X.K Z ow F H σ δ->aD X.K F ds vs->ds.length=is.length->(is.zip ds).foldl (λ(o:Option DS)(p:Nat×D)=>o.bind λδ=>setN p.1 p.2 δ) (some δ)=some δ' ->
   (∀σ',bZ X.K Z ow F H σ' δ'->Q σ' H)->t vs σ H Q
 |[],t,_,ht,F,H,σ,δ,δ',ds,vs,Q,R,r,hl,e,q=>by
  cases ds with
  |cons _ _=>cases hl
  |nil=>
   unfold aD at r;subst ht r;cases e;exact⟨rfl,q σ R⟩
 |i::is,t,hi,ht,F,H,σ,δ,δ',ds,vs,Q,R,r,hl,e,q=>by
  cases ds with
  |nil=>cases hl
  |cons d ds=>
   unfold aD at r;let⟨x,rest,rfl,rx,r⟩:=r;subst ht;rw[ä,List.foldl_cons]at e;have no:∀(l:List (Nat×D)),l.foldl (λ(o:Option DS)(p:Nat×D)=>o.bind λδ=>setN p.1 p.2 δ) none=none:=λl=>by
    induction l with
    |nil=>rfl
    |cons p l ih=>rw[List.foldl_cons];exact ih
   cases e1:setN i d δ with
   |none=>
    rw[show ((some δ:Option DS).bind λδ=>setN (i,d).1 (i,d).2 δ)=none from e1,no]at e;cases e
   |some δ1=>
    rw[show ((some δ:Option DS).bind λδ=>setN (i,d).1 (i,d).2 δ)=some δ1 from e1]at e;let⟨h1,h2,h3⟩:=hi i Ô;refine⟨x,rest,rfl,D1 S h1 h2 h3 F H σ δ δ1 d x _ R rx e1 λσ' R'=>?_⟩;exact BW S is _ (λj hj=>hi j (Ó _ hj)) rfl F H σ' δ1 δ' ds rest Q R' r (by simpa using hl) e q
def aHM(S:aP Z ow)(hi:∀i∈is,i∉Z.ps/\i<ow.length/\ow.getD i 0=0)(ht:t=is.foldr (λi u=>GH (kU i) u) TZ):ĺ X Z ow (Ů X.K is.length t) (uP is):=λF H σ δ δ' d v Q R r e q=>by
 unfold uP at e;cases d with
 |tuple ds=>
  dsimp only at e;split at e
  .rename_i hl
   unfold bE at r;let⟨a,xs,rfl,hq,ra⟩:=r;exact⟨a,xs,rfl,R.sub.seqT hq,by rw[<- ra.len];exact hl,BW S is t hi ht F H σ δ δ' ds xs Q R ra hl e q⟩
  .cases e
 |_=>cases e
def aBQ{ds:ZI}{d:D}(hg:ĺ X Z ow g set)(R:bZ X.K Z ow F H σ δ)(s1:aI F1 F)(hk:kS X Z ow ol ox rm (gG set u (ds.drop k) δ) F Dn)(hd:ds[k]?=some d)(rx:bE X.K F d x)(Pv:Nat->St->Hp->Prop)(hP:∀k σ H F δ,bZ X.K Z ow F H σ δ->aI F1 F->kS X Z ow ol ox rm (gG set u (ds.drop k) δ) F Dn->Pv k σ H):
  g x σ H λσ2 H2=>tS X Z ow ow ow ox rm u {Dn with nx:=Pv (k+1),ct:=Pv (k+1),bk:=Dn.nx} σ2 H2:=by
 have e:ds.drop k=d::ds.drop (k+1):=by
  let⟨hlt,rfl⟩:=Î.mp hd;exact ñ hlt
 rw[e]at hk;unfold gG at hk;cases e1:set d δ with
 |none=>simp![e1]at hk;exact hk.elim
 |some δ1=>
  simp![e1]at hk;refine hg F H σ δ δ1 d x _ R rx e1 λσ' R'=>⟨F,δ1,R',?_⟩;cases e2:u δ1 with
  |stuck=>rw[e2]at hk;exact hk.elim
  |err y δ2=>rw[e2]at hk;exact hk
  |ok fl δ2=>
   rw[e2]at hk;simp![Res.bind]at hk;cases fl with
   |next=>exact λσ2 H2 F2 R2 s2=>hP _ σ2 H2 F2 δ2 R2 (s1.trans' s2) (hk.mono s2)
   |cont=>exact λσ2 H2 F2 R2 s2=>hP _ σ2 H2 F2 δ2 R2 (s1.trans' s2) (hk.mono s2)
   |brk=>exact hk
   |ret d=>exact hk
def ϊ(K:ZC)(tl:TE):TI:=λσ H R=>tl σ H λx H1=>(∃a,x=.ref a/\(∃xs,d8 K H1 a xs)/\R (ī K a) H1)\/(∃a,x=.ref a/\(∃xs,rX K H1 a xs)/\R (Ű K a) H1)
def UU(hl:PE X l tl):PI X tg l (ϊ X.K tl):=by
 intro À s σ H R I h;refine cA (hl À s σ H _ I h) λv s1 zQ=>?_;let⟨x,H1,I1,r1,q1⟩:=zQ;rcases q1 with ⟨a,e,⟨xs,hq⟩,q⟩|⟨a,e,⟨xs,hq⟩,q⟩
 .subst e
  cases r1;let⟨its,rv,p,hz⟩:=I1.list hq;refine wpAny_pyIter_list p.isList ?_;refine⟨s1.heap.objs.size,[s1.heap.objs.size],_,_,H1,rfl,I1.kept (t':=s1.toks) λb o e=>Heap.get?_push_of_some _ e,QD a _,⟨_,Heap.get?_push_size _ rfl,rfl,rfl⟩,λb hb=>?_,q⟩;have e:b=s1.heap.objs.size:=by simpa using hb
  subst e;exact I1.fpOk (È _) (I1.hok.fresh (È _))
 .subst e
  cases r1;let⟨its,rv,p,hz⟩:=I1.tuple hq;refine wpAny_pyIter_tuple (show s1.heap.IsTuple a its.toArray from p) ?_;refine⟨s1.heap.objs.size,[s1.heap.objs.size],_,_,H1,rfl,I1.kept (t':=s1.toks) λb o e=>Heap.get?_push_of_some _ e,KL a _,⟨_,Heap.get?_push_size _ rfl,rfl,rfl⟩,λb hb=>?_,q⟩;have e:b=s1.heap.objs.size:=by simpa using hb
  subst e;exact I1.fpOk (È _) (I1.hok.fresh (È _))
def jL(lo:Int)(n:Nat):ZI:=(List.range n).map λ(k:Nat)=>PyData.int (lo+(k:Int))
def D2{lo:Int}(h:k<n):(jL lo n)[k]?=some (.int (lo+(k:Int))):=by
 unfold jL;rw[Ò,ÿ h];rfl
def fW{lo:Int}:(jL lo n).length=n:=by unfold jL;rw[Å,List.length_range]
def kY:ZI->Option (Int×Nat)
 |[.int j]=>if -(2^62)<=j/\j<2^62 then some (0,j.toNat)else none
 |[.int i,.int j]=>if -(2^62)<=i/\i<2^62/\-(2^62)<=j/\j<2^62 then some (i,(j-i).toNat)else none
 |_=>none
def kZ:∀{fs:List (M D)}{δ δ1:DS}{ds:ZI},bB fs δ=.ok ds δ1->ds.length=fs.length
 |[],δ,δ1,ds,h=>by cases h;rfl
 |f::fs,δ,δ1,ds,h=>by
  unfold bB at h;cases e:f δ with
  |stuck=>rw[e]at h;cases h
  |err x δ2=>rw[e]at h;cases h
  |ok d δ2=>
   rw[e]at h;simp![Res.bind]at h;cases e2:bB fs δ2 with
   |stuck=>rw[e2]at h;cases h
   |err x δ3=>rw[e2]at h;cases h
   |ok ds' δ3=>
    rw[e2]at h;cases h;rw[Û,Û,kZ e2]
def GW{lo:Int}(h:kY ds=some (lo,n))(hl:ds.length=1):∃j:Int,ds=[.int j]/\-(2^62)<=j/\j<2^62/\lo=0/\n=j.toNat:=by
 rcases ds with _|⟨d,_|⟨_,_⟩⟩<;>try cases hl
 cases d<;>try cases h
 unfold kY at h;dsimp only at h;split at h
 .rename_i hj;cases h;exact⟨_,rfl,hj.1,hj.2,rfl,rfl⟩
 .cases h
def GX{lo:Int}(h:kY ds=some (lo,n))(hl:ds.length=2):∃i j:Int,ds=[.int i,.int j]/\(-(2^62)<=i/\i<2^62/\-(2^62)<=j/\j<2^62)/\lo=i/\n=(j-i).toNat:=by
 rcases ds with _|⟨a,_|⟨b,_|⟨_,_⟩⟩⟩<;>try cases hl
 cases a<;>try cases h
 cases b<;>try cases h
 unfold kY at h;dsimp only at h;split at h
 .rename_i hj;cases h;exact⟨_,_,rfl,hj,rfl,rfl⟩
 .cases h
def xJ{K:ZC}(h:aD K F [.int j] vs):vs=[.int j]:=by
 unfold aD at h;let⟨x,r,rfl,rx,h⟩:=h;unfold aD at h;unfold bE at rx;rw[h,rx]
def GY{K:ZC}(h:aD K F [.int i,.int j] vs):vs=[.int i,.int j]:=by
 unfold aD at h;let⟨x,r,rfl,rx,h⟩:=h;unfold bE at rx;rw[rx,xJ h]
def vY(c:M Bool)(u:M Fl):Nat->M Fl
 |0=>λ_=>.stuck
 |n+1=>λδ=>(c δ).bind λb δ1=>if b=true then (u δ1).bind λfl δ2=>(match fl with
   |.next=>vY c u n δ2
   |.cont=>vY c u n δ2
   |.brk=>.ok .next δ2
   |.ret d=>.ok (.ret d) δ2)else .ok .next δ1
def fF(c:M Bool)(u:M Fl):M Fl:=λδ=>open Classical in if h:∃n,vY c u n δ≠.stuck then vY c u h.choose δ else .stuck
def xK :∀{n:Nat}{δ:DS},vY c u n δ≠.stuck->vY c u (n+1) δ=vY c u n δ
 |0,δ,h=>absurd rfl h
 |n+1,δ,h=>by
  have e:∀m,vY c u (m+1) δ=(c δ).bind λb δ1=>if b=true then (u δ1).bind λfl δ2=>(match fl with
   |.next=>vY c u m δ2
   |.cont=>vY c u m δ2
   |.brk=>.ok .next δ2
   |.ret d=>.ok (.ret d) δ2)else .ok .next δ1:=λm=>rfl
  rw[e n]at h;rw[e (n+1),e n];cases e1:c δ with
  |stuck=>rfl
  |err x δ1=>rfl
  |ok b δ1=>
   rw[e1]at h;simp![Res.bind]at h⊢;cases b with
   |false=>rfl
   |true=>
    rw[Â rfl]at h⊢;rw[Â rfl];cases e2:u δ1 with
    |stuck=>rfl
    |err x δ2=>rfl
    |ok fl δ2=>
     rw[e2]at h;simp only at h⊢;cases fl with
     |next=>exact xK h
     |cont=>exact xK h
     |brk=>rfl
     |ret d=>rfl
def UV(h:vY c u n δ≠.stuck)(l:n<=m):vY c u m δ=vY c u n δ:=by
 induction l with
 |refl=>rfl
 |step l ih=>rw[xK (by rw[ih];exact h),ih]
def oQ(n:Nat)(h:vY c u n δ≠.stuck):fF c u δ=vY c u n δ:=by
 have ex:∃n,vY c u n δ≠.stuck:=⟨n,h⟩;unfold fF;rw[dif_pos ex];rcases Nat.le_total n ex.choose with l|l
 .exact UV h l
 .exact(UV ex.choose_spec l).symm
def eQ:fF c u δ=(c δ).bind λb δ1=>if b=true then (u δ1).bind λfl δ2=>(match fl with
   |.next=>fF c u δ2
   |.cont=>fF c u δ2
   |.brk=>.ok .next δ2
   |.ret d=>.ok (.ret d) δ2)else .ok .next δ1:=by
 have e:∀m,vY c u (m+1) δ=(c δ).bind λb δ1=>if b=true then (u δ1).bind λfl δ2=>(match fl with
   |.next=>vY c u m δ2
   |.cont=>vY c u m δ2
   |.brk=>.ok .next δ2
   |.ret d=>.ok (.ret d) δ2)else .ok .next δ1:=λm=>rfl
 have go:∀(δ2:DS),(∀m,vY c u m δ2=.stuck)->fF c u δ2=.stuck:=λδ2 h=>by
  unfold fF;rw[dif_neg λzQ=>by let⟨n,q⟩:=zQ;exact q (h n)]
 by_cases ex:∃n,vY c u n δ≠.stuck
 .obtain⟨n,h⟩:=ex
  cases n with
  |zero=>exact absurd rfl h
  |succ n=>
   rw[oQ (n+1) h,e n];rw[e n]at h;cases e1:c δ with
   |stuck=>rfl
   |err x δ1=>rfl
   |ok b δ1=>
    rw[e1]at h;simp![Res.bind]at h⊢;cases b with
    |false=>rfl
    |true=>
     rw[Â rfl]at h⊢;rw[Â rfl];cases e2:u δ1 with
     |stuck=>rfl
     |err x δ2=>rfl
     |ok fl δ2=>
      rw[e2]at h;simp only at h⊢;cases fl with
      |next=>exact(oQ n h).symm
      |cont=>exact(oQ n h).symm
      |brk=>rfl
      |ret d=>rfl
 .have all:∀n,vY c u n δ=.stuck:=λn=>Ď λq=>ex ⟨n,q⟩
  rw[go δ all];have a1:=λm=>(e m).symm.trans (all (m+1));cases e1:c δ with
  |stuck=>rfl
  |err x δ1=>have:=a1 0;rw[e1]at this;cases this
  |ok b δ1=>
   simp![Res.bind];cases b with
   |false=>have:=a1 0;rw[e1]at this;simp![Res.bind]at this;cases this
   |true=>
    rw[Â rfl];cases e2:u δ1 with
    |stuck=>rfl
    |err x δ2=>have:=a1 0;rw[e1]at this;simp![Res.bind,if_true,e2]at this;cases this
    |ok fl δ2=>
     cases fl with
     |next=>exact(go δ2 λm=>by have:=a1 m;rw[e1]at this;simp![Res.bind,if_true,e2]at this;exact this).symm
     |cont=>exact(go δ2 λm=>by have:=a1 m;rw[e1]at this;simp![Res.bind,if_true,e2]at this;exact this).symm
     |brk=>have:=a1 0;rw[e1]at this;simp![Res.bind,if_true,e2]at this;cases this
     |ret d=>have:=a1 0;rw[e1]at this;simp![Res.bind,if_true,e2]at this;cases this
def GZ(hp:PassesOwn 'b' X.A X.env X.xe)(hc:DT X Z ow e k)(hb:BU X Z ow ow ow ox rm sts u):DZ X Z ow ow ol ox rm (.While e sts [] pos) (fF k u):=PS.mono (T2 hp hc hb) λDn σ H h=>by
 let⟨F,δ,R,h⟩:=h;have ex:∃n,vY k u n δ≠.stuck:=Ď λq=>by
  unfold fF at h;rw[dif_neg q]at h;exact h
 let⟨n0,hn⟩:=ex;rw[oQ n0 hn]at h;refine⟨λm σ H=>∃F2 δ2,bZ X.K Z ow F2 H σ δ2/\kS X Z ow ol ox rm (vY k u m δ2) F2 Dn,⟨n0,F,δ,R,h⟩,?_⟩;rintro m σ1 H1 ⟨F1,δ1,R1,k1⟩;cases m with
 |zero=>exact k1.elim
 |succ m=>
  unfold vY at k1;refine⟨F1,δ1,R1,?_⟩;cases e1:k δ1 with
  |stuck=>rw[e1]at k1;exact k1.elim
  |err x δ2=>rw[e1]at k1;exact jJ.cast k1
  |ok b δ2=>
   rw[e1]at k1;simp![Res.bind]at k1;intro H2 F2 R2 s2;cases b with
   |false=>rw[Ã á]at k1⊢;exact k1 σ1 H2 F2 R2 s2
   |true=>
    rw[Â rfl]at k1⊢;refine⟨λσ3 H3=>∃F3 δ3,bZ X.K Z ow F3 H3 σ3 δ3/\kS X Z ow ol ox rm (vY k u m δ3) F3 Dn,λσ' H'⟨F3,δ3,R3,k3⟩=>⟨m,ð _,F3,δ3,R3,k3⟩,F2,δ2,R2,?_⟩;cases e2:u δ2 with
    |stuck=>rw[e2]at k1;exact k1.elim
    |err x δ3=>rw[e2]at k1;exact jJ.mono k1 s2
    |ok fl δ3=>
     rw[e2]at k1;simp only at k1;cases fl with
     |next=>exact λσ3 H3 F3 R3 s3=>⟨F3,δ3,R3,k1.mono (s2.trans' s3)⟩
     |cont=>exact λσ3 H3 F3 R3 s3=>⟨F3,δ3,R3,k1.mono (s2.trans' s3)⟩
     |brk=>exact kS.mono (r:=.ok .next δ3) k1 s2
     |ret d=>exact kS.mono (r:=.ok (.ret d) δ3) k1 s2
end
structure Ő(K:ZC)(ps owp:ZH)(rm:Nat)(F H:Hp)(g:ZP)(vs:List V)(F' H':Hp)(g':ZP)(outs:ZI)(d:D)(v:V):Prop where
 s:aI F F'
 sub:aI F' H'
 kept:∀b o,g b=none->H b=some o->H' b=some o
 new:∀a,F a=none->H a≠none->F' a=none
 there:∀b,H b≠none->H' b≠none
 lab:∀a i p,g' a=some (i,p)->H a=none\/∃q,g a=some (i,q)
 ret:bA K F' H' g' 1000 rm [] d v
 olen:outs.length=ps.length
 out:∀(k i:Nat)(d':D),ps[k]?=some i->outs[k]?=some d'->∃v',vs[i]?=some v'/\bA K F' H' g' i (owp.getD i 0) [] d' v'
def aOJ(K:ZC)(ps owp:ZH)(rm:Nat)(F H:Hp)(g:ZP)(vs:List V)(Q:VK)(E:XK):Res D->Prop
 |.ok d outs=>∀v H' F' g',Ő K ps owp rm F H g vs F' H' g' (outs.filterMap id) d v->Q v H'
 |.err x outs=>∀nm,x=.str nm->∀H' F' g',Ő K ps owp 0 F H g vs F' H' g' (outs.filterMap id) .none .non->E (.str nm 0) none H'
 |.stuck=>False
def Ż(K:ZC)(ps owp:ZH)(rm:Nat)(f:ZI->Res D):Sp:=λvs H Q E=>∃F g ds,Ą K F/\aI F H/\ds.length=vs.length/\(∀a i p,g a=some (i,p)->i∈ps) /\
 (∀(i:Nat)(d:D)(v:V),ds[i]?=some d->vs[i]?=some v->bA K F H g i (owp.getD i 0) [] d v)/\aOJ K ps owp rm F H g vs Q E (f ds)
def A0(P:Program)(w:World)(K:ZC):S9:=λouter H s E e s'=>∃nm a cls ch H',e=.ref a/\W.nsIn K mainGlobals nm=some (some cls)/\s'.os=s.os/\AllBare s'.gens/\Un (wY outer) [] H H' s.heap s'.heap/\mZ P w H' s'.heap /\
 mQ s'.heap a cls ch/\(∀b∈ch,H' b=none/\s.heap.get? b=none)/\E (.str nm 0) none H'
def fX(δ:DS):ZH->Option (ZI)
 |[]=>some []
 |i::is=>match δ[i]?,fX δ is with
  |some (some d),some ds=>some (d::ds)
  |_,_=>none
def BX :∀{is:ZH}{ds:ZI},fX δ is=some ds->ds.length=is.length/\∀(k i:Nat)(d:D),is[k]?=some i->ds[k]?=some d->δ[i]?=some (some d)
 |[],ds,h=>by cases h;exact⟨rfl,λk i d e=>by simp at e⟩
 |i::is,ds,h=>by
  unfold fX at h;split at h
  .rename_i d ds' e1 e2
   cases h;let⟨h1,h2⟩:=BX e2;refine⟨by simp[h1],λk j d' q1 q2=>?_⟩;cases k with
   |zero=>cases q1;cases q2;exact e1
   |succ k=>exact h2 k j d' (by simpa using q1) (by simpa using q2)
  .cases h
def aR(m:Nat)(ps:ZH)(rm:Nat)(body:M Fl):ZI->Res D:=λds=>match body (ds.map some++List.replicate (m-ds.length) none)with
 |.ok (.ret d) δ=>(match fX δ ps with
  |some outs=>.ok d (outs.map some)
  |none=>.stuck)
 |.ok .next δ=>if rm=0 then (match fX δ ps with
  |some outs=>.ok .none (outs.map some)
  |none=>.stuck)else .stuck
 |.ok _ _=>.stuck
 |.err x δ=>(match fX δ ps with
  |some outs=>.err x (outs.map some)
  |none=>.stuck)
 |.stuck=>.stuck
section
variable {P:Program}{w:World}{K:ZC}{mg:ZD}{base:Heap}
def TB.okG{st:Stmt}(F:TB K x qual st f fd)(S:jQ N ps (bD st))(len:∀vs H Q E,sp vs H Q E->vs.length=ps.length)(hbody:∀(cdv:Value)(_:fd.code=cdv)(A:Around)(outer:List Env)(s:Shared)(H:Hp)(vs:List V)(Q:VK)(E:XK),fD k (A.deeper (envOfC qual (bD st) s.heap.objs.size f cdv))->sp vs H Q E ->
   ∃t,DB (qP CX P w K mg base N qual (bD st) f cdv A outer s H E) (dQ st) t/\t {nx:=λ_ H'=>Q .non H',rt:=Q} (start N vs) H):qO P w K mg base CX (k+1) f fd ps sp:=by
 let⟨oc,od,kV,doc,pm,an,cdv,ct,osl,rfl,lk,hcd⟩:=F.ex;exact aKY lk hcd S len λA outer s H vs Q E hr hsp=>hbody cdv rfl A outer s H vs Q E hr hsp
def UW 
  (I:Inv (qP (A0 P w K) P w K mg base N qual sc f cdv A outer s H E) À σ H1 s1) (fl:ŷ (qP (A0 P w K) P w K mg base N qual sc f cdv A outer s H E) À H1 s1 nm e) (q:E (.str nm 0) none H1):
  (qP (A0 P w K) P w K mg base N qual sc f cdv A outer s H E).xe e s1:=by
 let⟨a,cls,ch,rfl,hn,x,hc⟩:=fl;refine aBL (base:=base) (outer:=outer) (L:=s.heap.objs.size) I.ok.frames I.stack rfl x λh' ch' xt x' new=>?_;have I2:=I.xt xt hc;refine⟨nm,a,cls,ch',H1,rfl,hn,I2.os,I2.bare,I2.base,I2.hok,x',λb hb=>?_,q⟩;rcases new b hb with m|⟨m0,m⟩
 .exact⟨(hc b m).un,(hc b m).new.resolve_left λz=>by cases z⟩
 .refine⟨I.hok.fresh m,?_⟩
  show s.heap.get? b=none;cases q:s.heap.get? b with
  |none=>rfl
  |some o=>
   let⟨o',e'⟩:=I.base.there b o q (λz=>by cases z);rw[m0]at e';cases e'
def TB.okD{st:Stmt}(Fn:TB K x qual st f fd)(S:jQ N pn (bD st))(hN:owp.length=N.length)(hb:∀(cdv:Value)(_:fd.code=cdv)(A:Around)(outer:List Env)(s:Shared)(H:Hp)(E:XK)(F0:Hp)(g0:ZP)(σ0:St)(wf:∀a i q,g0 a=some (i,q)->i∈ps),fD k (A.deeper (envOfC qual (bD st) s.heap.objs.size f cdv)) ->
   ∃ow',BU (qP (A0 P w K) P w K mg base N qual (bD st) f cdv A outer s H E) ⟨F0,H,g0,ps,σ0,owp,wf⟩ owp ow' ow' ow' rm (dQ st) body):qO P w K mg base (A0 P w K) (k+1) f fd pn (λvs H Q E=>vs.length=pn.length/\Ż K ps owp rm (aR N.length ps rm body) vs H Q E):=by
 refine Fn.okG S (λvs H Q E h=>h.1) λcdv ec A outer s H vs Q E hr h=>?_;let⟨hl,F,g,ds,hL,hs,hd,hg,hv,q⟩:=h;let Z:cI:=⟨F,H,g,ps,start N vs,owp,hg⟩;let⟨ow',hB⟩:=hb cdv ec A outer s H E F g (start N vs) hg hr;refine⟨_,hB,F,ds.map some++List.replicate (N.length-ds.length) none,⟨g,hs,⟨hL,aI.refl _⟩,λ_ _ _ e=>e,λ_ h _=>h,λ_ h=>h,λa i p e=>.inr ⟨p,e⟩,?_,λi _=>⟨rfl,rfl⟩,λi d' e=>?_⟩,?_⟩
 .have hpl:pn.length<=N.length:=by have:=congrArg List.length S.pre;rw[ê]at this;lia
  unfold start;simp![Ñ,Å,ï,hd]
 .have hi:i<ds.length:=by
   by_cases hi:i<ds.length
   .exact hi
   .rw[ã (by simpa using hi),Ā]at e
    split at e<;>cases e
  rw[ô (by simpa using hi),Ò,Ê hi]at e;have ed:ds[i]?=some d':=by
   rw[Ê hi];simpa using e
  have hi':i<vs.length:=by exact õ ‹_› ‹_›
  refine⟨vs[i],?_,hv i d' _ ed (Ê hi')⟩;unfold start;rw[ô (by simpa using hi'),Ò,Ê hi'];rfl
 .have fin:∀{rm:Nat}{d0:D}{δ:DS}{v:V}{σ':St}{H' F':Hp}{owr:ZH}{os:ZI},gD K Z owr rm d0 v F' H' σ' δ->fX δ ps=some os->∃g',Ő K ps owp rm F H g vs F' H' g' ((os.map some).filterMap id) d0 v:=λ{rm d0 δ v σ' H' F' owr os}R ho=>by
   have eo:(os.map some).filterMap id=os:=by rw[List.filterMap_map];exact List.filterMap_some
   rw[eo];let⟨g',R,o⟩:=R;let⟨ol,oa⟩:=BX ho;refine⟨g',R.f0.2,R.sub,R.kept,R.new,R.there,R.lab,o,ol,λk i d' h1 h2=>?_⟩;let⟨v',e1,o1⟩:=R.slot i d' (oa k i d' h1 h2);let⟨p1,p2⟩:=R.par i (Č h1);rw[show Z.owp=owp from rfl]at p2;rw[p2]at o1;refine⟨v',?_,o1⟩;rw[p1]at e1;have e1:(start N vs)[i]?=some (some v'):=e1;unfold start at e1;by_cases hi:i<vs.length
   .rw[ô (by simpa using hi),Ò,Ê hi]at e1
    rw[Ê hi];simpa using e1
   .rw[ã (by simpa using hi),Ā]at e1
    split at e1<;>cases e1
  unfold aR at q;cases e:body (ds.map some++List.replicate (N.length-ds.length) none)with
  |stuck=>rw[e]at q;sleep 4
  |err y δ=>
   rw[e]at q;dsimp only at q;cases ho:fX δ ps with
   |none=>rw[ho]at q;sleep 4
   |some os=>
    rw[ho]at q;refine⟨λÀ e1 s1 xp=>?_⟩;let⟨nm,H1,F1,σ1,rfl,I,R,_,fl⟩:=xp;let⟨g1,R⟩:=R;have RX:gD K Z owp 0 .none .non F1 H1 σ1 δ:=⟨g1,R,by show bE K F1 .none .non;unfold bE;rfl⟩;let⟨g',T⟩:=fin RX ho;exact UW I fl (q nm rfl H1 F1 g' T)
  |ok fl δ=>
   rw[e]at q;cases fl with
   |brk=>sleep 4
   |cont=>sleep 4
   |ret d0=>
    dsimp only at q;intro v σ' H' F' owr R _;cases ho:fX δ ps with
    |none=>rw[ho]at q;sleep 4
    |some os=>
     rw[ho]at q;let⟨g',T⟩:=fin R ho;exact q v H' F' g' T
   |next=>
    dsimp only at q;intro σ' H' F' R _;by_cases hrm:rm=0
    .rw[Â hrm]at q
     cases ho:fX δ ps with
     |none=>rw[ho]at q;sleep 4
     |some os=>
      rw[ho]at q;let⟨g',R⟩:=R;have RX:gD K Z ow' rm .none .non F' H' σ' δ:=⟨g',R,by rw[hrm];show bE K F' .none .non;unfold bE;rfl⟩;let⟨g2,T⟩:=fin RX ho;exact q .non H' F' g2 T
    .rw[Ã hrm]at q;sleep 4
end
def aX:List Arg->ZH
 |[]=>[]
 |.own i::as=>i::aX as
 |.val _::as=>aX as
def fY:Nat->List Arg->ZH
 |_,[]=>[]
 |k,.own _::as=>k::fY (k+1) as
 |k,.val _::as=>fY (k+1) as
def eZ(δ:DS):List Arg->List (ZL)->Option (ZI)
 |[],[]=>some []
 |.own i::as,none::ds=>match δ[i]?,eZ δ as ds with
  |some (some d),some r=>some (d::r)
  |_,_=>none
 |.val _::as,some d::ds=>(eZ δ as ds).map (d::·)
 |_,_=>none
def cU:ZH->ZI->DS->DS
 |i::is,d::ds,δ=>cU is ds (δ.set i (some d))
 |_,_,δ=>δ
def iZ(fn:ZI->Res D)(as:List Arg):M D:=λδ=>(dJ as δ).bind λods δ1=>match eZ δ1 as ods with
 |none=>.stuck
 |some ds=>match fn ds with
  |.ok d outs=>.ok d (cU (aX as) (outs.filterMap id) δ1)
  |.err x outs=>.err x (cU (aX as) (outs.filterMap id) δ1)
  |.stuck=>.stuck
def gH:Nat->List Arg->Nat->Option Nat
 |_,[],_=>none
 |k,.own i::as,j=>if i=j then some k else gH (k+1) as j
 |k,.val _::as,j=>gH (k+1) as j
def G0:∀{k:Nat}{as:List Arg}{j m:Nat},gH k as j=some m->k<=m
 |k,.own i::as,j,m,h=>by
  unfold gH at h;split at h
  .cases h;exact È _
  .exact Nat.le_of_succ_le (G0 h)
 |k,.val _::as,j,m,h=>Nat.le_of_succ_le (G0 (show gH (k+1) as j=some m from h))
def k4:∀{k:Nat}{as:List Arg}{i m:Nat},gH k as i=some m->∃q,as[q]?=some (.own i)/\m=k+q/\m∈fY k as
 |k,.own s::as,i,m,h=>by
  unfold gH at h;split at h
  .rename_i e;cases h;exact⟨0,by rw[e];rfl,rfl,Ô⟩
  .obtain⟨q,e1,e2,e3⟩:=k4 h
   exact⟨q+1,e1,∅,Ó _ e3⟩
 |k,.val _::as,i,m,h=>by
  let⟨q,e1,e2,e3⟩:=k4 (k:=k+1) (as:=as) h;exact⟨q+1,e1,∅,e3⟩
def uQ:∀{k:Nat}{as:List Arg}{t m i:Nat},(fY k as)[t]?=some m->(aX as)[t]?=some i->as[m-k]?=some (.own i)/\k<=m
 |k,.own s::as,0,m,i,h1,h2=>by cases h1;cases h2;exact⟨by rw[û];rfl,È _⟩
 |k,.own s::as,t+1,m,i,h1,h2=>by
  let⟨e1,e2⟩:=uQ (k:=k+1) (as:=as) (t:=t) h1 h2;exact⟨by rw[show m-k=(m-(k+1))+1 by lia];exact e1,by exact É ‹_›⟩
 |k,.val _::as,t,m,i,h1,h2=>by
  let⟨e1,e2⟩:=uQ (k:=k+1) (as:=as) (t:=t) h1 h2;exact⟨by rw[show m-k=(m-(k+1))+1 by lia];exact e1,by exact É ‹_›⟩
def sK:∀{as:List Arg}{q i:Nat},as[q]?=some (.own i)->i∈aX as
 |.own s::as,0,i,h=>by cases h;exact Ô
 |.own s::as,q+1,i,h=>Ó _ (sK (as:=as) (q:=q) h)
 |.val _::as,0,i,h=>by cases h
 |.val _::as,q+1,i,h=>sK (as:=as) (q:=q) h
def uR:∀{k:Nat}{as:List Arg}{q i:Nat},(aX as).Nodup->as[q]?=some (.own i)->gH k as i=some (k+q)
 |k,.own s::as,0,i,_,h=>by cases h;unfold gH;rw[Â rfl];rfl
 |k,.own s::as,q+1,i,nd,h=>by
  have nd':=List.nodup_cons.mp (show (s::aX as).Nodup from nd);have h:as[q]?=some (.own i):=h;have hm:i∈aX as:=sK h;have ne:¬s=i:=λe=>nd'.1 (by rw[e];exact hm);unfold gH;rw[Ã ne,uR nd'.2 h];congr 1;lia
 |k,.val _::as,0,i,_,h=>by cases h
 |k,.val _::as,q+1,i,nd,h=>by
  have e:gH (k+1) as i=some (k+1+q):=uR (q:=q) nd h;show gH (k+1) as i=_;rw[e];congr 1;lia
def k5{K:ZC}:∀{as:List Arg}{ods:List (ZL)}{ds:ZI}{vs:List V},eZ δ as ods=some ds->sJ K F σ as ods vs->ds.length=as.length/\vs.length=as.length /\
  ∀(q:Nat)(d:D)(v:V),ds[q]?=some d->vs[q]?=some v->(∃i,as[q]?=some (.own i)/\δ[i]?=some (some d)/\σ[i]?=some (some v))\/((∃f,as[q]?=some (.val f))/\bE K F d v)
 |[],[],ds,[],h,_=>by cases h;exact⟨rfl,rfl,λq d v e=>by simp at e⟩
 |.own i::as,none::ods,ds,v::vs,h,⟨z1,z2⟩=>by
  unfold eZ at h;split at h
  .rename_i d r e1 e2
   cases h;let⟨h1,h2,h3⟩:=k5 e2 z2;refine⟨by simp[h1],by simp[h2],λq d' v' q1 q2=>?_⟩;cases q with
   |zero=>cases q1;cases q2;exact .inl ⟨i,rfl,e1,z1⟩
   |succ q=>exact h3 q d' v' q1 q2
  .cases h
 |.val f::as,some d::ods,ds,v::vs,h,⟨z1,z2⟩=>by
  unfold eZ at h;cases e:eZ δ as ods with
  |none=>rw[e]at h;cases h
  |some r=>
   rw[e]at h;cases h;let⟨h1,h2,h3⟩:=k5 e z2;refine⟨by simp[h1],by simp[h2],λq d' v' q1 q2=>?_⟩;cases q with
   |zero=>cases q1;cases q2;exact .inr ⟨⟨f,rfl⟩,z1⟩
   |succ q=>exact h3 q d' v' q1 q2
def vZ:∀{is:ZH}{ds:ZI}{δ:DS},(cU is ds δ).length=δ.length
 |[],_,_=>by unfold cU;rfl
 |_::_,[],_=>by unfold cU;rfl
 |i::is,d::ds,δ=>by
  unfold cU;rw[vZ,Ï]
def nD:∀{is:ZH}{ds:ZI}{δ:DS}{j:Nat},j∉is->(cU is ds δ)[j]?=δ[j]?
 |[],_,_,_,_=>by unfold cU;rfl
 |_::_,[],_,_,_=>by unfold cU;rfl
 |i::is,d::ds,δ,j,h=>by
  unfold cU;rw[nD λm=>h (Ó _ m),Ú λe=>h (by rw[e];exact Ô)]
def xL:∀{is:ZH}{ds:ZI}{δ:DS}{j:Nat}{d:D},is.Nodup->is.length=ds.length->j∈is->(cU is ds δ)[j]?=some (some d)->∃t:Nat,is[t]?=some j/\ds[t]?=some d
 |i::is,d::ds,δ,j,d',nd,hl,hm,h=>by
  unfold cU at h;have nd:=List.nodup_cons.mp nd;by_cases e:j=i
  .subst e
   rw[nD nd.1,č]at h;split at h
   .split at h
    .cases h;exact⟨0,rfl,rfl⟩
    .cases h
   .rename_i z;exact absurd rfl z
  .obtain⟨t,t1,t2⟩:=xL nd.2 (by simpa using hl) ((Õ.mp hm).resolve_left e) h
   exact⟨t+1,t1,t2⟩
section
variable {X:Cx}{Z:cI}{ow:ZH}{pos:Pos}{as:List Arg}{F H:Hp}{σ:St}{δ:DS}{g:ZP}
def D3(as:List Arg)(g:ZP):ZP:=λa=>match g a with
 |some (i,p)=>(gH 0 as i).map λj=>(j,p)
 |none=>none
def UX(as:List Arg)(g g':ZP):ZP:=λa=>match g' a with
 |some (j,p)=>if j=1000 then some (1000,p)else (match as[j]? with|some (.own i)=>some (i,p)|_=>none)
 |none=>match g a with
  |some (i,p)=>if i=1000\/(gH 0 as i).isSome=true then none else some (i,p)
  |none=>none
def aLE{a:Addr}{i j:Nat}{p:ZH}(h:g a=some (i,p))(e:gH 0 as i=some j):D3 as g a=some (j,p):=by
 unfold D3;rw[h];dsimp only;rw[e];rfl
def ND(h:D3 as g a=some (j,p)):∃i,g a=some (i,p)/\gH 0 as i=some j:=by
 unfold D3 at h;cases e:g a with
 |none=>rw[e]at h;cases h
 |some l=>
  let⟨i,q⟩:=l;rw[e]at h;dsimp only at h;cases e2:gH 0 as i with
  |none=>rw[e2]at h;cases h
  |some m=>rw[e2]at h;cases h;exact⟨i,rfl,e2⟩
def G1(S:aP Z ow)(R:cV X.K Z ow g F H σ δ)(hA:sJ X.K F σ as ods vs)(hf:eZ δ as ods=some ds)(hps:fY 0 as=ps)(nd:(aX as).Nodup)(hm:∀q i,as[q]?=some (.own i)->owp.getD q 0=ow.getD i 0)(hlt:as.length<=1000)(T:Ő X.K ps owp rm F H (D3 as g) vs F' H' g' outs d v):gD X.K Z ow rm d v F' H' σ (cU (aX as) outs δ):=by
 let⟨l1,l2,hat⟩:=k5 hf hA;have keepOut:∀{a:Addr}{i:Nat}{p:ZH},g a=some (i,p)->i∉aX as->D3 as g a=none:=λ{a i p}e hi=>by
  cases e1:D3 as g a with
  |none=>rfl
  |some l=>
   let⟨j,r⟩:=l;let⟨i',e2,e3⟩:=ND e1;rw[e]at e2;cases e2;let⟨q,e4,_⟩:=k4 e3;exact absurd (sK e4) hi
 have h0:∀a,H a=none->Z.H0 a=none:=λa e=>by
  cases e1:Z.H0 a with
  |none=>rfl
  |some o=>exact absurd e (R.there a (by rw[e1];simp))
 refine⟨UX as g g',⟨T.sub,R.f0.trans' T.s,λb o n e=>?_,λa z1 z2=>T.new a (R.new a z1 z2) (R.there a z2),λb z=>T.there b (R.there b z),λa i p e=>?_,by rw[vZ];exact R.len,R.par,λi d' e=>?_⟩,?_⟩
 .refine T.kept b o ?_ (R.kept b o n e)
  cases e1:D3 as g b with
  |none=>rfl
  |some l=>
   let⟨j,r⟩:=l;let⟨i',e2,e3⟩:=ND e1;rcases R.lab b i' r e2 with z|⟨q',z⟩
   .rw[z]at e;cases e
   .rw[z]at n;cases n
 .unfold UX at e
  cases e1:g' a with
  |some l=>
   let⟨j,r⟩:=l;rw[e1]at e;dsimp only at e;rcases T.lab a j r e1 with z|⟨q',z⟩
   .exact .inl (h0 a z)
   .obtain⟨i',z1,z2⟩:=ND z
    let⟨q2,z3,z4,_⟩:=k4 z2;have:j=q2:=by lia
    subst this;have hj:j≠1000:=λw=>by
     have:=(Î.mp z3).1;lia
    rw[Ã hj,z3]at e;cases e;exact R.lab a i q' z1
  |none=>
   rw[e1]at e;dsimp only at e;cases e2:g a with
   |none=>rw[e2]at e;cases e
   |some l=>
    let⟨j,r⟩:=l;rw[e2]at e;dsimp only at e;split at e
    .cases e
    .cases e;exact R.lab a i p e2
 .by_cases hi:i∈aX as
  .have hl:(aX as).length=outs.length:=by
    rw[T.olen,<- hps];have:∀(k:Nat)(as:List Arg),(aX as).length=(fY k as).length:=by
     intro k as
     induction as generalizing k with
     |nil=>rfl
     |cons a as ih=>
      cases a with
      |own i=>exact congrArg Nat.succ (ih (k+1))
      |val f=>exact ih (k+1)
    exact this 0 as
   let⟨t,t1,t2⟩:=xL nd hl hi e;have hpos:∃m,ps[t]?=some m:=by
    have:t<ps.length:=by rw[<- T.olen];exact(Î.mp t2).1
    exact⟨ps[t],Ê this⟩
   let⟨m,hm1⟩:=hpos;let⟨v',o1,o2⟩:=T.out t m d' hm1 t2;have e3:=(uQ (k:=0) (by rw[hps];exact hm1) t1).1;rw[Nat.sub_zero]at e3;have hlm:m<ds.length:=by
    have:=(Î.mp e3).1;exact õ ‹_› (Eq.symm ‹_›)
   rcases hat m ds[m] v' (Ê hlm) o1 with ⟨s,a1,a2,a3⟩|⟨⟨f,a1⟩,a2⟩
   .rw[e3]at a1;cases a1
    refine⟨v',a3,?_⟩;rw[hm m i e3]at o2;refine o2.relab λa p e4=>?_;unfold UX;rw[e4];dsimp only;have hj:m≠1000:=λw=>by
     have:=(Î.mp e3).1;lia
    rw[Ã hj,e3]
   .rw[e3]at a1;cases a1
  .rw[nD hi]at e
   let⟨w,w1,o⟩:=R.slot i d' e;refine⟨w,w1,?_⟩;by_cases hz:ow.getD i 0=0
   .rw[hz]at o⊢;exact T.s.rep _ _ o
   .have i1:i<1000:=by
     by_cases hl:i<ow.length
     .exact Ù hl S.ow
     .exact absurd (by rw[Ë,ç (by exact è.mp ‹_›)];rfl) hz
    refine bA.keepJ T.s (λa q u e3 e4 e5=>?_) o;have gn:=keepOut e3 hi;have g'n:g' a=none:=by
     cases e7:g' a with
     |none=>rfl
     |some l=>
      let⟨j,r⟩:=l;rcases T.lab a j r e7 with z|⟨q',z⟩
      .rw[e4]at z;cases z
      .rw[gn]at z;cases z
    refine⟨?_,T.kept a _ gn e4,T.new a e5 (by rw[e4];simp)⟩;unfold UX;rw[g'n,e3];dsimp only;rw[Ã];rintro(z|z)
    .lia
    .cases e8:gH 0 as i with
     |none=>rw[e8]at z;cases z
     |some m=>let⟨q,e9,_⟩:=k4 e8;exact hi (sK e9)
 .refine T.ret.relab λa p e=>?_
  unfold UX;rw[e];exact Â rfl
def NE{fn:ZI->Res D}{ps owp:ZH}{rm:Nat}{ods:List (ZL)}{ds:ZI}{vs:List V}{Q:VK}{E:XK}(S:aP Z ow)(R:bZ X.K Z ow F H σ δ)(hA:sJ X.K F σ as ods vs)(hf:eZ δ as ods=some ds)(hps:fY 0 as=ps)(nd:(aX as).Nodup)(hm:∀q i,as[q]?=some (.own i)->owp.getD q 0=ow.getD i 0)(hv:∀q f,as[q]?=some (.val f)->owp.getD q 0=0)(hlt:as.length<=1000)(q:match fn ds with
   |.ok d outs=>∀v H' F',gD X.K Z ow rm d v F' H' σ (cU (aX as) (outs.filterMap id) δ)->aI F F'->Q v H'
   |.err x outs=>∀nm,x=.str nm->∀H' F',bZ X.K Z ow F' H' σ (cU (aX as) (outs.filterMap id) δ)->aI F F'->E (.str nm 0) none H'
   |.stuck=>False):Ż X.K ps owp rm fn vs H Q E:=by
 let⟨g,R⟩:=R;let⟨l1,l2,hat⟩:=k5 hf hA;refine⟨F,D3 as g,ds,R.f0.lm,R.sub,∅,λa i p e=>?_,λi d' v' e1 e2=>?_,?_⟩
 .obtain⟨j,_,e2⟩:=ND e
  let⟨_,_,_,e3⟩:=k4 e2;rw[<- hps];exact e3
 .rcases hat i d' v' e1 e2 with ⟨s,a1,a2,a3⟩|⟨⟨f,a1⟩,a2⟩
  .rw[hm i s a1]
   let⟨w,w1,o⟩:=R.slot s d' a2;rw[a3]at w1;cases w1;exact o.relab λa p e=>aLE e (by rw[uR nd a1];simp)
  .rw[hv i f a1];exact a2
 .cases e:fn ds with
  |stuck=>rw[e]at q;exact q
  |ok d outs=>
   rw[e]at q;exact λv H' F' g' T=>q v H' F' (G1 S R hA hf hps nd hm hlt T) T.s
  |err x outs=>
   rw[e]at q;exact λnm hx H' F' g' T=>q nm hx H' F' (G1 S R hA hf hps nd hm hlt T).rel T.s
def fI(owp ow:ZH):Nat->List Arg->Bool
 |_,[]=>true
 |k,.own i::as=>(owp.getD k 0 == ow.getD i 0) && fI owp ow (k+1) as
 |k,.val _::as=>(owp.getD k 0 == 0) && fI owp ow (k+1) as
def lY :∀{k:Nat}{as:List Arg},fI owp ow k as=true->(∀q i,as[q]?=some (.own i)->owp.getD (k+q) 0=ow.getD i 0)/\(∀q f,as[q]?=some (.val f)->owp.getD (k+q) 0=0)
 |k,[],_=>⟨λq i e=>by simp at e,λq f e=>by simp at e⟩
 |k,.own s::as,h=>by
  unfold fI at h;rw[æ,beq_iff_eq]at h;let⟨h1,h2⟩:=lY h.2;refine⟨λq i e=>?_,λq f e=>?_⟩
  .cases q with
   |zero=>cases e;exact h.1
   |succ q=>have:=h1 q i e;rw[show k+(q+1)=k+1+q by lia];exact this
  .cases q with
   |zero=>cases e
   |succ q=>have:=h2 q f e;rw[show k+(q+1)=k+1+q by lia];exact this
 |k,.val _::as,h=>by
  unfold fI at h;rw[æ,beq_iff_eq]at h;let⟨h1,h2⟩:=lY h.2;refine⟨λq i e=>?_,λq f e=>?_⟩
  .cases q with
   |zero=>cases e
   |succ q=>have:=h1 q i e;rw[show k+(q+1)=k+1+q by lia];exact this
  .cases q with
   |zero=>exact h.1
   |succ q=>have:=h2 q f e;rw[show k+(q+1)=k+1+q by lia];exact this
abbrev TD(K:ZC)(pn:ZG)(ps owp:ZH)(rm:Nat)(fn:ZI->Res D):Sp:=λvs H Q E=>vs.length=pn.length/\Ż K ps owp rm fn vs H Q E
def UY(sp:Sp)(E:St->XK)(t:TA):TE:=λσ H Q=>t σ H λvs H1=>sp vs H1 Q (E σ)
def EX(X:Cx)(σ:St):XK:=λv _ H'=>∀nm,v=.str nm 0->∀À e s',Inv X À σ H' s'->ŷ X À H' s' nm e->X.xe e s'
def UZ{p:Pos}(Fk:qO X.prog X.w X.K X.mg X.base (A0 X.prog X.w X.K) k f fd pn sp)(hr:fD k X.A)(hg:Gl X x)(hmg:X.mg x=some (.ref f))(hk:W.keepIn X.K (.ref f)=true)(hb:pW X.K fd pn [])(ha:PA X (e::es) t)(hdb:⇑(Zdb x))(he:↥(Zse e es X.env))(hpl:↥(Zbt pos es X.env)):
  PE X (.Call 'h' (e::es) [] pos) (UY sp (EX X) t):=by
 intro À s σ H Q I h;refine wpAny_Call_Name_kw (DD I hg hmg ?_ hdb);refine W.callWith_K (h₀:=X.base) I.ok.mod.kin hk (cA (ha pos À s σ H _ I h) λus s1⟨vs,H1,I1,r,q⟩=>⟨I1.kIn,?_⟩) he hpl;have hl:us.length=pn.length:=by rw[<- r.length];exact Fk.len _ _ _ _ q
 have hb':=hb s1 us I1.kIn (by rw[â];exact hl);rw[â]at hb';refine wpAny_call (codeAny_mono (Fk.run X.A X.stack s1 H1 ⟨us,[]⟩ us vs Q (EX X σ) hr I1.env0 hb' r q) λr s' hq=>?_);cases r with
 |error e=>
  let⟨nm,a,cls,ch,H',rfl,hn,os,bare,un,hok,x,new,q2⟩:=hq;have I2:Inv X À σ H' s':=I1.call' os un hok bare λb z=>absurd z 'e';exact q2 nm rfl À _ s' I2 ⟨a,cls,ch,rfl,hn,x,λb hb=>xG.of I1 (new b hb).1 (new b hb).2⟩
 |ok fl=>
  cases fl with
  |ret u=>exact I1.after hq
  |next=>exact False.elim hq
  |brk=>exact False.elim hq
  |cont=>exact False.elim hq
def G3(S:aP Z ow)(hz:ē Z=true)(hl:as.length=pn.length)(hps:fY 0 as=ps)(nd:decide (aX as).Nodup=true)(hm:fI owp ow 0 as=true)(hlt:as.length<=1000)(h:tD X Z ow rm (iZ fn as) σ H Q):UY (TD X.K pn ps owp rm fn) (EX X) (ŏ X Z ow as) σ H Q:=by
 let⟨F,δ,R,h⟩:=h;unfold iZ at h;sleep 1;let⟨m1,m2⟩:=lY hm;cases e:dJ as δ with
 |stuck=>sleep 5
 |err x δ1=>rw[e]at h;exact h
 |ok ods δ1=>
  rw[e]at h;simp![Res.bind]at h;intro vs H1 F1 R1 s1 z;cases e2:eZ δ1 as ods with
  |none=>rw[e2]at h;exact h.elim
  |some ds=>
   rw[e2]at h;dsimp only at h;have l2:=(k5 e2 z).2.1;refine⟨by exact Eq.trans ‹_› ‹_›,NE S R1 z e2 hps (of_decide_eq_true nd) (λq i e=>by have:=m1 q i e;rwa [Nat.zero_add]at this) (λq f e=>by have:=m2 q f e;rwa [Nat.zero_add]at this) hlt ?_⟩
   cases e3:fn ds with
   |stuck=>rw[e3]at h;exact h.elim
   |err x outs=>
    rw[e3]at h;dsimp only at h⊢;intro nm hx H' F' R' s' nm' hnm À e s2 I2 fl;injection hnm with hnm;subst hnm;let⟨F2,s3,R2⟩:=R'.toP hz;exact h.out À e s2 ⟨nm,H',F2,σ,hx,I2,R2,s1.trans' (s'.trans' s3),fl⟩
   |ok d outs=>
    rw[e3]at h;dsimp only at h⊢;exact λv H' F' R' s'=>h v H' F' R' (s1.trans' s')
def aBS{p:Pos}(S:aP Z ow)(Fk:qO X.prog X.w X.K X.mg X.base (A0 X.prog X.w X.K) k f fd pn (TD X.K pn ps owp rm fn))(hr:fD k X.A)(hg:Gl X x)(hmg:X.mg x=some (.ref f))(hk:W.keepIn X.K (.ref f)=true)(hb:pW X.K fd pn [])(ha:DA X Z ow (e::es) as)(hz:↥(ē Z=true))(hl:↥(as.length=pn.length))(hps:↥(fY 0 as=ps))(nd:↥(decide (aX as).Nodup=true))(hm:↥(fI owp ow 0 as=true))(hlt:⇑(as.length<=1000))(hdb:⇑(Zdb x))(he:↥(Zse e es X.env))(hpl:↥(Zbt pos es X.env)):
  DE X Z ow rm (.Call 'h' (e::es) [] pos) (iZ fn as):=PE.mono (UZ Fk hr hg hmg hk hb ha hdb he hpl) λ_ _ _ h=>G3 S hz hl hps nd hm hlt h
end
section
variable {X:Cx}{Z:cI}{ow ol ox:ZH}{n rm:Nat}{pos:Pos}{e a b:Expr}{f h:M D}{F H:Hp}{σ:St}{δ:DS}{g:ZP}{K:ZC}
def bA.relabP{g':ZP}(hg:∀a p,g a=some (i,p)->g' a=some (j,q++p))(r:bA K F H g i n p d v):bA K F H g' j n (q++p) d v:=
 iR.trans (λ_ _ z=>z) (λa p o e1 e2 e3=>⟨hg a p e1,e2,e3⟩) r
def bZ.rewrite{a:Addr}(S:aP Z ow)(R:bZ K Z ow F H σ δ)(ho:ow.getD i 0=1)(hd:δ[i]?=some (some (.list ds)))(hs:σ[i]?=some (some (.ref a)))(hr:aD K F ds' vs'):
  bZ K Z ow F (aV H a (.lst vs')) σ (δ.set i (some (.list ds'))):=by
 let⟨g,R⟩:=R;let⟨v,e1,o⟩:=R.slot i _ hd;rw[hs]at e1;cases e1;rw[ho]at o;let⟨a',ds0,vs0,q1,q2,q3,q4,q5,q6,q7⟩:=o.lst (m:=0);cases q1;cases q2;have hi:i<δ.length:=(Î.mp hd).1;refine⟨g,λb u e=>?_,R.f0,λb u n e=>?_,R.new,λb z=>?_,R.lab,by rw[Ï];exact R.len,R.par,λj d e=>?_⟩
 .have:b≠a:=λz=>by rw[z,q5]at e;cases e
  rw[aE this];exact R.sub b u e
 .have:b≠a:=λz=>by
   subst z;rcases R.lab b i [] q3 with w|⟨q,w⟩
   all_goals grind
  rw[aE this];exact R.kept b u n e
 .by_cases hb:b=a
  .subst hb;rw[aJ];simp
  .rw[aE hb];exact R.there b z
 .by_cases hj:j=i
  .subst hj
   rw[ß hi]at e;cases e;refine⟨_,hs,?_⟩;rw[ho];exact bA.mkL (m:=0) ⟨a,ds',vs',rfl,rfl,q3,aJ,q5,hr.len,λk d' v' z1 z2=>hr.both k d' v' z1 z2⟩
  .rw[Ú (Í hj)]at e
   let⟨v,e1,o⟩:=R.slot j d e;refine⟨v,e1,o.mono 'o' (λ_ _ _ e=>e) (λ_ _ _ _ h=>h) λa' l u hl e h=>?_⟩;have:a'≠a:=λz=>by grind
   rw[aE this];exact h
def bZ.ownAt{d:D}(R:bZ K Z ow F H σ δ)(ho:ow.getD i 0=1)(hd:δ[i]?=some (some d)):∃a ds vs,d=.list ds/\σ[i]?=some (some (.ref a))/\H a=some (.lst vs)/\aD K F ds vs:=by
 let⟨g,R⟩:=R;let⟨v,e1,o⟩:=R.slot i _ hd;rw[ho]at o;let⟨a,ds0,vs0,q1,q2,q3,q4,q5,q6,q7⟩:=o.lst (m:=0);exact⟨a,ds0,vs0,q1,by rw[e1,q2],q4,aD.of q6 q7⟩
def LB(i:Nat)(op:ZI->ZI->Option (D×ZI))(fs:List (M D)):M D:=λδ=>match δ[i]? with
 |some (some _)=>(bB fs δ).bind λargs δ1=>(match δ1[i]? with
  |some (some (.list ds))=>(match op ds args with
   |some (ret,ds')=>.ok ret (δ1.set i (some (.list ds')))
   |none=>.stuck)
  |_=>.stuck)
 |_=>.stuck
def G5(X:Cx)(r:V->List V->Hp->VK->Prop)(op:ZI->ZI->Option (D×ZI)):Prop:=∀(F H:Hp)(l:Addr)(xs vs:List V)(ds args:ZI)(ret:D)(ds':ZI),H l=some (.lst xs)->aI F H->aD X.K F ds xs->aD X.K F args vs->op ds args=some (ret,ds') ->
 ∃xs' rv,aD X.K F ds' xs'/\bE X.K F ret rv/\∀Q:VK,Q rv (aV H l (.lst xs'))->r (.ref l) vs H Q
def aBT(S:aP Z ow)(ho:ow.getD i 0=1)(hm:G5 X r op)(h:tD X Z ow 0 (LB i op fs) σ H Q):Ŷ X.K "list" r (GF i) (tV X Z ow fs) σ H Q:=by
 let⟨F,δ,R,h⟩:=h;unfold LB at h;cases e0:δ[i]? with
 |none=>rw[e0]at h;exact h.elim
 |some o=>
  cases o with
  |none=>rw[e0]at h;exact h.elim
  |some d0=>
   rw[e0]at h;dsimp only at h;let⟨a,ds0,vs0,q1,q2,q3,q4⟩:=R.ownAt ho e0;refine⟨_,q2,.inl ⟨rfl,vs0,d8.of q3⟩,F,δ,R,?_⟩;cases e:bB fs δ with
   |stuck=>sleep 5
   |err x δ1=>rw[e]at h;exact h
   |ok args δ1=>
    rw[e]at h;simp![Res.bind]at h;intro vs H1 F1 R1 s1 z;cases e1:δ1[i]? with
    |none=>rw[e1]at h;exact h.elim
    |some o=>
     cases o with
     |none=>rw[e1]at h;exact h.elim
     |some d1=>
      rw[e1]at h;let⟨a',ds1,vs1,p1,p2,p3,p4⟩:=R1.ownAt ho e1;rw[q2]at p2;cases p2;subst p1;dsimp only at h;cases e2:op ds1 args with
      |none=>rw[e2]at h;exact h.elim
      |some rr=>
       let⟨ret,ds'⟩:=rr;rw[e2]at h;dsimp only at h;let⟨xs',rv,w1,w2,w3⟩:=hm F1 H1 a vs1 vs ds1 args ret ds' p3 R1.sub p4 z e2;exact w3 Q (h _ _ F1 ((R1.rewrite S ho e1 q2 w1).x w2) s1)
def qS(i:Nat){x:Str}{p q:Pos}{id:String}(S:aP Z ow)(slot:Slot "list" name id)(hty:typeOf (.builtin id)=pure (.type "method_descriptor"))(hmr:Ĺ X id r)(hm:G5 X r op)(ha:DV X Z ow (e::es) fs)(ho:↥(ow.getD i 0=1))(hN:↥(X.N[i]?=some x))(hv:#v[AU X.env.scope x])(hd:⇑(Zdb x))(hcd:⇑(Zcd x))(hbase:↥(attributeBase 'h' name X.env (eval 'h' X.env)=eval 'h' X.env))(hfew:↥(((backTo pos (starEach (e::es) X.env)).all (λx=>!x.1) && (backToKw pos (keywordEach [] X.env)).all (λx=>x.1.isSome)
   && decide ((e::es).length+([]:List Keyword).length+(if ([]:List Keyword).isEmpty then 0 else 1)<30))=true))(hline:↥((q.endLine == pos.line)=true))(hs:↥(Zse e es X.env))(hplain:↥(Zbt pos es X.env)):
  DE X Z ow 0 (.Call (.Attribute 'h' name q) (e::es) [] pos) (LB i op fs):=PE.mono (UK PySem.F.plainAttrs_list slot hty hmr (dA hN hv hd hcd) ha hbase hfew hline hs hplain) λ_ _ _ h=>aBT S ho hm h
def LC:ZI->ZI->Option (D×ZI)
 |ds,[d]=>if ds.length<sizeLine then some (.none,ds++[d])else none
 |_,_=>none
def D4:bE K F .none .non:=by unfold bE;rfl
def qT:G5 X M7 LC:=λF H l xs vs ds args ret ds' hl hs h1 h2 e=>by
 unfold LC at e;split at e
 .rename_i d
  split at e
  .rename_i hlt
   cases e;unfold aD at h2;let⟨x,r,rfl,hx,h2⟩:=h2;unfold aD at h2;subst h2;exact⟨xs++[x],.non,h1.app (fU hx iX),D4,λQ q=>⟨l,xs,x,rfl,rfl,hl,by rw[<- h1.len];exact hlt,q⟩⟩
  .cases e
 .cases e
def cE(i:Nat){x:Str}{p q:Pos}(S:aP Z ow)(ha:DE X Z ow 0 e f)(ho:↥(ow.getD i 0=1))(hN:↥(X.N[i]?=some x))(hv:#v[AU X.env.scope x])(hd:⇑(Zdb x))(hcd:⇑(Zcd x))(hbase:↥(attributeBase 'h' "append" X.env (eval 'h' X.env)=eval 'h' X.env))(hfew:↥(((backTo pos (starEach [e] X.env)).all (λx=>!x.1) && (backToKw pos (keywordEach [] X.env)).all (λx=>x.1.isSome)
   && decide ([e].length+([]:List Keyword).length+(if ([]:List Keyword).isEmpty then 0 else 1)<30))=true))(hline:↥((q.endLine == pos.line)=true))(hs:↥(Zse e [] X.env))(hplain:↥(Zbt pos [] X.env)):
  DE X Z ow 0 (.Call (.Attribute 'h' "append" q) [e] [] pos) (LB i LC [f]):=qS i S PySem.F.slot_list_append PySem.F.type_list_append uL qT (aF ha aY hs) ho hN hv hd hcd hbase hfew hline hs hplain
def U0(i:Nat)(fk fv:M D):M Fl:=λδ=>(fv δ).bind λv δ1=>match δ1[i]? with
 |some (some _)=>(fk δ1).bind λk δ2=>(match δ2[i]?,k with
  |some (some (.list ds)),.int k=>(match oJ ds.length k with
   |some j=>.ok .next (δ2.set i (some (.list (ds.set j v))))
   |none=>.stuck)
  |_,_=>.stuck)
 |_=>.stuck
def aD.set(h:aD K F ds vs)(j:Nat)(r:bE K F d v):aD K F (ds.set j d) (vs.set j v):=
 aD.of (by rw[Ï,Ï,h.len]) λk d' v' e1 e2=>by
  by_cases hk:j=k
  .grind
  .rw[Ú hk]at e1 e2
   exact h.both k d' v' e1 e2
def D5(i:Nat){x:Str}{p:Pos}{spos tpos:Pos}(S:aP Z ow)(hv:DE X Z ow 0 ev fv)(hk:DE X Z ow 0 ek fk)(ho:↥(ow.getD i 0=1))(hN:↥(X.N[i]?=some x))(hvi:#v[AU X.env.scope x])(hd:⇑(Zdb x))(hcd:⇑(Zcd x))(ha: ~~~(∀v,assign (.Subscript 'h' ek tpos) X.env v=(do
   let ov <- holding [v] (eval 'h' X.env);let iv <- holding [v,ov] (eval ek X.env)
   standAt tpos
   holding [v,ov,iv] (setItem ov iv v)
   release [v,ov,iv] [])))(hs:↥(swapsWithSole [.Subscript 'h' ek tpos] ev spos.line X.env=pure false))(hw:↥(swappedStores [.Subscript 'h' ek tpos] ev X.env=pure none))(h1:↥((assignEach [.Subscript 'h' ek tpos] X.env).map (·.2)=[assign (.Subscript 'h' ek tpos) X.env])):
  DZ X Z ow ow ol ox rm (.Assign [.Subscript 'h' ek tpos] ev spos) (U0 i fk fv):=PS.mono (T1 hv (T0 (dA hN hvi hd hcd) hk GO ha) hs hw h1) λDn σ H h=>by
 let⟨F,δ,R,h⟩:=h;unfold U0 at h;sleep 1;cases e:fv δ with
 |stuck=>sleep 5
 |err y δ1=>rw[e]at h;exact jJ.cast h
 |ok dv δ1=>
  rw[e]at h;simp![Res.bind]at h;intro v H1 F1 R1 s1;cases e0:δ1[i]? with
  |none=>rw[e0]at h;exact h.elim
  |some o=>
   cases o with
   |none=>rw[e0]at h;exact h.elim
   |some d0=>
    rw[e0]at h;dsimp only at h;let⟨a,ds0,vs0,q1,q2,q3,q4⟩:=R1.rel.ownAt ho e0;refine⟨_,q2,F1,δ1,R1.rel,?_⟩;cases e1:fk δ1 with
    |stuck=>rw[e1]at h;exact h.elim
    |err y δ2=>rw[e1]at h;exact jJ.cast (jJ.mono h s1)
    |ok dk δ2=>
     rw[e1]at h;dsimp only at h;intro kv H2 F2 R2 s2;cases e2:δ2[i]? with
     |none=>rw[e2]at h;exact h.elim
     |some o=>
      cases o with
      |none=>rw[e2]at h;exact h.elim
      |some d1=>
       rw[e2]at h;let⟨a',ds1,vs1,p1,p2,p3,p4⟩:=R2.rel.ownAt ho e2;rw[q2]at p2;cases p2;subst p1;cases dk with
       |int k=>
        dsimp only at h;cases e3:oJ ds1.length k with
        |none=>rw[e3]at h;exact h.elim
        |some j=>
         rw[e3]at h;have rk:=R2.rep;unfold bE at rk;subst rk;refine⟨a,vs1,k,j,rfl,rfl,p3,by rw[<- p4.len];exact e3,?_⟩;exact h σ _ F2 (R2.rel.rewrite S ho e2 q2 (p4.set j (s2.rep _ _ R1.rep))) (s1.trans' s2)
       |_=>exact h.elim
def fM(a b:D):ZL:=match b with
 |.int i=>(match a with
  |.list ds=>atI ds i
  |.tuple ds=>atI ds i
  |.str z=>if z.length<=sizeLine then (atI z.cps.toList i).map λc=>.str ⟨#[c]⟩else none
  |_=>none)
 |_=>none
def aD.atI{d:D}(h:aD K F ds vs)(e:L2.atI ds i=some d):∃v,L2.atI vs i=some v/\bE K F d v:=by
 unfold L2.atI at e⊢;rw[<- h.len];cases q:oJ ds.length i with
 |none=>rw[q]at e;cases e
 |some j=>
  rw[q]at e;exact h.get e
def aLF:oP X (ς X.K) 0 fM:=λZ ow F H σ δ a b x y d Q S R ra rb e q=>by
 unfold fM at e;split at e<;>try cases e
 split at e<;>try cases e
 .rename_i i _ ds
  unfold bE at ra rb;let⟨p,xs,rfl,hq,rs⟩:=ra;subst rb;let⟨v,e1,r⟩:=rs.atI e;exact .inl ⟨p,xs,i,v,rfl,rfl,R.sub.seq hq,e1,q v H F (R.x r) 'o'⟩
 .rename_i i _ ds
  unfold bE at ra rb;let⟨p,xs,rfl,hq,rs⟩:=ra;subst rb;let⟨v,e1,r⟩:=rs.atI e;exact .inr (.inl ⟨p,xs,i,v,rfl,rfl,R.sub.seqT hq,e1,q v H F (R.x r) 'o'⟩)
 .rename_i i _ z
  unfold bE at ra rb;subst ra rb;split at e
  .rename_i hz
   cases e1:atI z.cps.toList i with
   |none=>rw[e1]at e;cases e
   |some c=>
    rw[e1]at e;cases e;exact .inr (.inr ⟨z,i,c,rfl,rfl,hz,e1,q _ H F (R.x (by unfold bE;rfl)) 'o'⟩)
  .cases e
def fG(S:aP Z ow)(ha:DE X Z ow 0 a f)(hb:DE X Z ow 0 b h)(hs:oK b:=by exact λ_ _=>rfl):DE X Z ow 0 (.Subscript a b pos) (iF fM f h):=PE.mono (GN aHA ha hb hs) λ_ _ _ q=>DY S aLF q
def U1(i:Nat)(fk:M D):M D:=λδ=>match δ[i]? with
 |some (some _)=>(fk δ).bind λk δ1=>(match δ1[i]? with
  |some (some d)=>(match fM d k with
   |some r=>.ok r δ1
   |none=>.stuck)
  |_=>.stuck)
 |_=>.stuck
def aHN(i:Nat){x:Str}{p:Pos}(hb:DE X Z ow 0 b h)(ho:↥(ow.getD i 0=1))(hN:↥(X.N[i]?=some x))(hv:#v[AU X.env.scope x])(hd:⇑(Zdb x))(hcd:⇑(Zcd x))(hs:oK b:=by exact λ_ _=>rfl):
  DE X Z ow 0 (.Subscript 'h' b pos) (U1 i h):=PE.mono (GN sC (dA hN hv hd hcd) hb hs) λσ H Q q=>by
 let⟨F,δ,R,q⟩:=q;unfold U1 at q;cases e0:δ[i]? with
 |none=>rw[e0]at q;sleep 4
 |some o=>
  cases o with
  |none=>rw[e0]at q;sleep 4
  |some d0=>
   rw[e0]at q;dsimp only at q;let⟨a,ds0,vs0,q1,q2,q3,q4⟩:=R.ownAt ho e0;refine⟨_,q2,F,δ,R,?_⟩;cases e1:h δ with
   |stuck=>rw[e1]at q;sleep 4
   |err y δ2=>rw[e1]at q;exact q
   |ok dk δ2=>
    rw[e1]at q;simp![Res.bind]at q;intro kv H2 F2 R2 s2;cases e2:δ2[i]? with
    |none=>rw[e2]at q;sleep 4
    |some o=>
     cases o with
     |none=>rw[e2]at q;sleep 4
     |some d1=>
      rw[e2]at q;let⟨a',ds1,vs1,p1,p2,p3,p4⟩:=R2.rel.ownAt ho e2;rw[q2]at p2;cases p2;subst p1;cases dk with
      |int k=>
       dsimp![fM]at q;cases e3:atI ds1 k with
       |none=>rw[e3]at q;sleep 4
       |some r=>
        rw[e3]at q;have rk:=R2.rep;unfold bE at rk;subst rk;let⟨v,w1,w2⟩:=p4.atI e3;exact⟨a,vs1,k,v,rfl,rfl,d8.of p3,w1,q v H2 F2 (R2.rel.x w2) s2⟩
      |_=>sleep 4
def lZ:ZI->ZL
 |[d]=>(match d with
  |.list ds=>some (.int ds.length)
  |.tuple ds=>some (.int ds.length)
  |.str z=>if z.length<=sizeLine then some (.int z.length)else none
  |_=>none)
 |_=>none
def G6(i:Nat):M D:=λδ=>match δ[i]? with
 |some (some d)=>(match lZ [d]with
  |some r=>.ok r δ
  |none=>.stuck)
 |_=>.stuck
def NF(i:Nat){x:Str}{p p2:Pos}(hg:Gl X "len")(hm:X.mg "len"=none)(ho:↥(ow.getD i 0=1))(hN:↥(X.N[i]?=some x))(hv:#v[AU X.env.scope x])(hd:⇑(Zdb x))(hcd:⇑(Zcd x))(he:↥(starEach [.Name x p] X.env=(false,eval 'h' X.env)::starEach [] X.env))(hpl:↥(Zbt pos [] X.env)):DE X Z ow 0 (.Call (.Name "len" p2) [.Name x p] [] pos) (G6 i):=
 PE.mono (sA sD hg hm UM (dO (dA hN hv hd hcd) iW he) ⋯ ⋯ he hpl) λσ H Q q=>by
  let⟨F,δ,R,q⟩:=q;unfold G6 at q;cases e0:δ[i]? with
  |none=>rw[e0]at q;sleep 4
  |some o=>
   cases o with
   |none=>rw[e0]at q;sleep 4
   |some d0=>
    rw[e0]at q;let⟨a,ds0,vs0,rfl,q2,q3,q4⟩:=R.ownAt ho e0;refine⟨_,q2,a,vs0,rfl,.inl (d8.of q3),?_⟩;dsimp![lZ]at q;rw[q4.len]at q;exact q _ H F (R.x (by unfold bE;rfl)) 'o'
end
section
variable {a:Expr}{h:M D}{F:Hp}{K:ZC}
def gL(h:bE K F (.int i) v):v=.int i:=by unfold bE at h;exact h
def iG(h:bE K F (.str x) v):v=.str x:=by unfold bE at h;exact h
def jS(h:bE K F (.bool x) v):v=.bl x:=by unfold bE at h;exact h
def nE(h:bE K F .none v):v=.non:=by unfold bE at h;exact h
def jM(h:bE K F (.list ds) v):∃(a:Addr)(xs:List V),v=.ref a/\d8 K F a xs/\aD K F ds xs:=by unfold bE at h;exact h
def A1(h:bE K F (.tuple ds) v):∃(a:Addr)(xs:List V),v=.ref a/\rX K F a xs/\aD K F ds xs:=by unfold bE at h;exact h
def gJ:bE K F (.int i) (.int i):=by unfold bE;rfl
def BY:bE K F (.str i) (.str i):=by unfold bE;rfl
def iS:bE K F (.bool i) (.bl i):=by unfold bE;rfl
def iD(C:Int->Int->Prop)(g:Int->Int->D):D->D->ZL
 |.int i,.int j=>open Classical in if C i j then some (g i j)else none
 |_,_=>none
def D6(hg:∀F i j,bE X.K F (g' i j) (g i j)):oP X (rI C g) 0 (iD C g'):=λZ ow F H σ δ a b x y d Q S R ra rb e q=>by
 unfold iD at e;split at e
 .rename_i i j
  split at e
  .rename_i hc
   cases e;exact⟨i,j,gL ra,gL rb,hc,q _ H F (R.x (hg F i j)) 'o'⟩
  .cases e
 .cases e
def Ć(g:Int->Int->D):D->D->ZL
 |.int i,.int j=>some (g i j)
 |_,_=>none
def sL(hg:∀F i j,bE X.K F (g' i j) (g i j)):oP X (T6 g) 0 (Ć g'):=λZ ow F H σ δ a b x y d Q S R ra rb e q=>by
 unfold Ć at e;split at e
 .rename_i i j
  cases e;exact⟨i,j,gL ra,gL rb,q _ H F (R.x (hg F i j)) 'o'⟩
 .cases e
def oP.or(h:oP X r n o)(h':oP X r' n o'):oP X (λx y H Q=>r x y H Q\/r' x y H Q) n (λa b=>(o a b).or (o' a b)):=λZ ow F H σ δ a b x y d Q S R ra rb e q=>by
 dsimp only at e;cases e1:o a b with
 |some d'=>
  rw[e1,Option.some_or]at e;cases e;exact .inl (h Z ow F H σ δ a b x y d Q S R ra rb e1 q)
 |none=>
  rw[e1,Option.none_or]at e;exact .inr (h' Z ow F H σ δ a b x y d Q S R ra rb e q)
def D7:D->D->ZL
 |.str i,.str j=>if i.length+j.length<=sizeLine then some (.str (i++j))else none
 |_,_=>none
def LD:D->D->ZL
 |.tuple i,.tuple j=>if i≠[]/\i.length+j.length<=sizeLine then some (.tuple (i++j))else none
 |_,_=>none
def G7:D->D->ZL
 |.list i,.list j=>if i.length+j.length<=sizeLine then some (.list (i++j))else none
 |_,_=>none
instance{l:ZI}:Decidable (l≠[]):=match l with
 |[]=>.isFalse λh=>h rfl
 |_::_=>.isTrue λh=>by cases h
def aHO:oP X (λx y H Q=>∃i j,x=.str i/\y=.str j/\i.length+j.length<=sizeLine/\Q (.str (i++j)) H) 0 D7:=λZ ow F H σ δ a b x y d Q S R ra rb e q=>by
 unfold D7 at e;split at e
 .rename_i i j
  split at e
  .rename_i hc
   cases e;exact⟨i,j,iG ra,iG rb,hc,q _ H F (R.x BY) 'o'⟩
  .cases e
 .cases e
def aHP:oP X (ξ X.K) 0 LD:=λZ ow F H σ δ a b x y d Q S R ra rb e q=>by
 unfold LD at e;split at e
 .rename_i i j
  split at e
  .rename_i hc
   cases e;let⟨p,xs,rfl,hp,ha⟩:=A1 ra;let⟨p',ys,rfl,hp',hb⟩:=A1 rb;refine⟨p,p',xs,ys,rfl,rfl,R.sub.seqT hp,R.sub.seqT hp',λz=>?_,by rw[<- ha.len,<- hb.len];exact hc.2,λz=>?_,λz t ht=>?_⟩
   .have:=ha.len;rw[z]at this;exact hc.1 (List.length_eq_zero_iff.mp this)
   .have hj:j=[]:=by have:=hb.len;rw[z]at this;exact List.length_eq_zero_iff.mp this
    rw[hj,â]at q;exact q _ H F (R.x ra) 'o'
   .have ft:=R.fnone ht
    exact q _ _ (aV F t (.tup (xs++ys))) ((R.laid ht).x (qQ ft (ha.app hb))) (bW ft _)
  .cases e
 .cases e
def QO(l:Addr)(items:Array Value)(n:Nat)(sl:Array (ZN))(b:Addr)(fO:Array Value)(n2:Nat)(sl2:Array (ZN))(hc0:items.size+fO.size<=sizeLine):
  Meets (Builtin.«list.__add__» ⟨[.ref l,.ref b],[]⟩) (λ_ R s=>s.heap.get? l=some ⟨.type "list",none,.seq items n,sl⟩/\s.heap.get? b=some ⟨.type "list",none,.seq fO n2,sl2⟩/\R (.ok (.ret (Value.ref s.heap.objs.size))) {s with heap:=s.heap.push {cls:=Value.type "list",data:=Data.seq (items++fO)},toks:=s.toks}):=
 .of_wp λprog w A R s h=>by
  let⟨hp,g,d,tk,os⟩:=s;let⟨hl,hb,h⟩:=h;have f1:=PySem.AutoSeq1.idx_int;have f2:=PySem.AutoSeq1.sub_tuple_tuple;have f3:=PySem.AutoSeq1.sub_list_list;have f4:=PySem.AutoSeq1.sub_tuple_list;have f5:=PySem.AutoSeq1.sub_list_tuple
  wp_walk using PySem.AutoSeq1.wpAny_loadPart' hl,PySem.AutoSeq1.wpAny_loadPart' hb
  exact⟨_,rfl,h⟩
def QP{prog:Program}{w:World}{A:Around}{E:ZA}{s:Shared}{l b:Addr}{items fO:Array Value}{n n2:Nat}{sl sl2:Array (ZN)}{Q:ZA}(hl:s.heap.get? l=some ⟨.type "list",none,.seq items n,sl⟩)(hb:s.heap.get? b=some ⟨.type "list",none,.seq fO n2,sl2⟩)(h:Q (.ref s.heap.objs.size) {s with heap:=s.heap.push {cls:=.type "list",data:=.seq (items++fO)}})(hsz:items.size+fO.size<=sizeLine):wpAny 'p' A (binaryOp .Add (.ref l) (.ref b)) Q E s:=
 concat_meets ⟨_,hl,rfl⟩ ⟨_,hb,rfl⟩ noFill_list_add seq_list_add F.slot_list_add F.entry_list_add (F.args_list_add_2 _ _) (QO l items n sl b fO n2 sl2 hsz) ⟨hl,hb,h⟩
def ϋ(K:ZC):R2:=λx y H Q=>∃l b xs zs,x=.ref l/\y=.ref b/\d8 K H l xs/\d8 K H b zs/\xs.length+zs.length<=sizeLine/\∀p,H p=none->Q (.ref p) (aV H p (.lst (xs++zs)))
def NG:kC X (binaryOp .Add) (ϋ X.K):=by
 intro À s σ H x y v u Q I rx ry h;let⟨l,b,xs,zs,rfl,rfl,hH,hB,hz,q⟩:=h;cases rx;cases ry;let⟨its,r,⟨o,n,e,c,dn,dd⟩,z⟩:=I.list hH;let⟨its2,r2,⟨o2,n2,e2,c2,dn2,dd2⟩,z2⟩:=I.list hB;let⟨oc,od,oda,osl⟩:=o;let⟨oc2,od2,oda2,osl2⟩:=o2;cases c;cases c2;cases dn;cases dn2;cases dd;cases dd2;have hl:=r.length;have hl2:=r2.length;refine QP e e2 ?_ 'l';have ea:its.toArray++its2.toArray=(its++its2).toArray:=by simp
 rw[ea];exact⟨.ref _,_,I.lnew (t':=s.toks) (r.append r2) 'l',rfl,q _ I.fresh⟩
def NH:oP X (ϋ X.K) 1 G7:=λZ ow F H σ δ a b x y d Q S R ra rb e q=>by
 unfold G7 at e;split at e
 .rename_i i j
  split at e
  .rename_i hc
   cases e;let⟨p,xs,rfl,hp,ha⟩:=jM ra;let⟨p',ys,rfl,hp',hb⟩:=jM rb;exact⟨p,p',xs,ys,rfl,rfl,R.sub.seq hp,R.sub.seq hp',by rw[<- ha.len,<- hb.len];exact hc,λt ht=>q _ _ F (R.newList S ht (ha.app hb)) 'o'⟩
  .cases e
 .cases e
def oP.fz(h:oP X r n o):oP X r 0 o:=λZ ow F H σ δ a b x y d Q S R ra rb e q=>h Z ow F H σ δ a b x y d Q S R ra rb e λv H' F' R' s=>by
 let⟨F2,s2,R2⟩:=R'.freeze S;exact q v H' F2 R2 (s.trans' s2)
def LF:D->D->ZL:=λa b=>(Ć (λi j=>.int (i+j)) a b).or ((D7 a b).or ((LD a b).or (G7 a b)))
def bM(S:aP Z ow)(ha:DE X Z ow 0 a f)(hb:DE X Z ow 0 b h):DE X Z ow 0 (.BinOp a .Add b pos) (iF LF f h):=
 vX S (aGZ.or (KP.or (aBE.or NG))) ((sL λ_ _ _=>gJ).or (aHO.or (aHP.or NH.fz))) ha hb
def U2(S:aP Z ow)(ha:DE X Z ow 0 a f)(hb:DE X Z ow 0 b h):DE X Z ow 1 (.BinOp a .Add b pos) (iF G7 f h):=vX S NG NH ha hb
def ż:D->D->ZL:=Ć λi j=>.int (i-j)
def l0(S:aP Z ow)(ha:DE X Z ow 0 a f)(hb:DE X Z ow 0 b h):DE X Z ow 0 (.BinOp a .Sub b pos) (iF ż f h):=vX S aG0 (sL λ_ _ _=>gJ) ha hb
def QQ:D->D->ZL:=iD IntMulOk λi j=>.int (i*j)
def gM(S:aP Z ow)(ha:DE X Z ow 0 a f)(hb:DE X Z ow 0 b h):DE X Z ow 0 (.BinOp a .Mult b pos) (iF QQ f h):=vX S aBI (D6 λ_ _ _=>gJ) ha hb
def G8:D->D->ZL:=iD ψ λi j=>.int (i.fdiv j)
def D8(S:aP Z ow)(ha:DE X Z ow 0 a f)(hb:DE X Z ow 0 b h):DE X Z ow 0 (.BinOp a .FloorDiv b pos) (iF G8 f h):=vX S UN (D6 λ_ _ _=>gJ) ha hb
def D9:D->D->ZL:=iD (λ_ j=>j≠0) λi j=>.int (i.fmod j)
def i6(S:aP Z ow)(ha:DE X Z ow 0 a f)(hb:DE X Z ow 0 b h):DE X Z ow 0 (.BinOp a .Mod b pos) (iF D9 f h):=vX S aA2 (D6 λ_ _ _=>gJ) ha hb
def U3:D->D->ZL:=iD Ň λi j=>.int (i^j.toNat)
def EA(S:aP Z ow)(ha:DE X Z ow 0 a f)(hb:DE X Z ow 0 b h):DE X Z ow 0 (.BinOp a .Pow b pos) (iF U3 f h):=vX S aG1 (D6 λ_ _ _=>gJ) ha hb
def sM(op:D->ZL)(f:M D):M D:=λδ=>(f δ).bind λd δ1=>match op d with
 |some r=>.ok r δ1
 |none=>.stuck
def Ž:D->ZL
 |.int i=>some (.int (-i))
 |_=>none
def kF(ha:DE X Z ow 0 a f):DE X Z ow 0 (.UnaryOp .USub a pos) (sM Ž f):=PE.mono (aKV aG2 ha) λσ H Q q=>by
 let⟨F,δ,R,q⟩:=q;unfold sM at q;sleep 1;cases e:f δ with
 |stuck=>rw[e]at q;sleep 4
 |err x δ1=>rw[e]at q;exact q
 |ok d δ1=>
  rw[e]at q;simp![Res.bind]at q;intro v H1 F1 R1 s1;cases d with
  |int i=>exact⟨i,gL R1.rep,q _ H1 F1 (R1.rel.x gJ) s1⟩
  |_=>sleep 4
def BZ(f:M D):M D:=λδ=>(f δ).bind λd δ1=>match d with
 |.bool b=>.ok (.bool (!b)) δ1
 |_=>.stuck
def aHS(ha:DE X Z ow 0 a f):DE X Z ow 0 (.UnaryOp .Not a pos) (BZ f):=PE.mono (aGR ha) λσ H Q q=>by
 let⟨F,δ,R,q⟩:=q;unfold BZ at q;sleep 1;cases e:f δ with
 |stuck=>rw[e]at q;sleep 4
 |err x δ1=>rw[e]at q;exact q
 |ok d δ1=>
  rw[e]at q;simp![Res.bind]at q;intro v H1 F1 R1 s1;cases d with
  |bool i=>exact⟨i,jS R1.rep,q _ H1 F1 (R1.rel.x iS) s1⟩
  |_=>sleep 4
def mT(f g:M D):M D:=λδ=>(f δ).bind λd δ1=>match d with
 |.bool b=>if b=true then g δ1 else .ok (.bool false) δ1
 |_=>.stuck
def U4(f g:M D):M D:=λδ=>(f δ).bind λd δ1=>match d with
 |.bool b=>if b=true then .ok 'j' δ1 else g δ1
 |_=>.stuck
def uS(h:DE X Z ow 0 a f):DE X Z ow 0 (.BoolOp op [a] pos) f:=PE.mono (aGP h) λ_ _ _ q=>q
def uT{rest:List Expr}(ha:DE X Z ow 0 a f)(hb:DE X Z ow 0 (.BoolOp .And (b::rest) pos) h):DE X Z ow 0 (.BoolOp .And (a::b::rest) pos) (mT f h):=PE.mono (aGQ ha hb) λσ H Q q=>by
 let⟨F,δ,R,q⟩:=q;unfold mT at q;sleep 1;cases e:f δ with
 |stuck=>rw[e]at q;sleep 4
 |err x δ1=>rw[e]at q;exact q
 |ok d δ1=>
  rw[e]at q;simp![Res.bind]at q;intro v H1 F1 R1 s1;cases d with
  |bool i=>
   refine⟨i,jS R1.rep,?_⟩;dsimp only at q;cases i with
   |true=>rw[Â rfl]at q⊢;exact⟨F1,δ1,R1.rel,q.mono s1 λ_ _ z=>z⟩
   |false=>rw[Ã á]at q⊢;exact q _ H1 F1 (R1.rel.x iS) s1
  |_=>sleep 4
def aLG{rest:List Expr}(ha:DE X Z ow 0 a f)(hb:DE X Z ow 0 (.BoolOp .Or (b::rest) pos) h):DE X Z ow 0 (.BoolOp .Or (a::b::rest) pos) (U4 f h):=PE.mono (aKM ha hb) λσ H Q q=>by
 let⟨F,δ,R,q⟩:=q;unfold U4 at q;sleep 1;cases e:f δ with
 |stuck=>rw[e]at q;sleep 4
 |err x δ1=>rw[e]at q;exact q
 |ok d δ1=>
  rw[e]at q;simp![Res.bind]at q;intro v H1 F1 R1 s1;cases d with
  |bool i=>
   refine⟨i,jS R1.rep,?_⟩;dsimp only at q;cases i with
   |true=>rw[Â rfl]at q⊢;exact q _ H1 F1 (R1.rel.x iS) s1
   |false=>rw[Ã á]at q⊢;exact⟨F1,δ1,R1.rel,q.mono s1 λ_ _ z=>z⟩
  |_=>sleep 4
def aBU{f:M Bool}(ha:DT X Z ow a f):PW X (.BoolOp .And [a] pos) (tT X Z ow f):=aAZ ha
def qU{f:M Bool}(ha:DT X Z ow a f):PW X (.BoolOp .Or [a] pos) (tT X Z ow f):=aGM ha
def jT{f:M Bool}(h:PW X e (tT X Z ow f)):DT X Z ow e f:=h.pt
def TF:D->D->ZL:=λa b=>if SeqAt.shaped a=true/\SeqAt.shaped b=true then some (.bool (PyData.eqv a b))else none
def EB:D->D->ZL:=λa b=>if SeqAt.shaped a=true/\SeqAt.shaped b=true then some (.bool (!PyData.eqv a b))else none
def iN:oP X (λx y H Q=>∃d e,bE X.K H d x/\bE X.K H e y/\SeqAt.shaped d=true/\SeqAt.shaped e=true/\Q (.bl (PyData.eqv d e)) H) 0 TF:=λZ ow F H σ δ a b x y d Q S R ra rb e q=>by
 unfold TF at e;split at e
 .rename_i hc
  cases e;exact⟨a,b,R.sub.rep _ _ ra,R.sub.rep _ _ rb,hc.1,hc.2,q _ H F (R.x iS) 'o'⟩
 .cases e
def sN:oP X (λx y H Q=>∃d e,bE X.K H d x/\bE X.K H e y/\SeqAt.shaped d=true/\SeqAt.shaped e=true/\Q (.bl (!PyData.eqv d e)) H) 0 EB:=λZ ow F H σ δ a b x y d Q S R ra rb e q=>by
 unfold EB at e;split at e
 .rename_i hc
  cases e;exact⟨a,b,R.sub.rep _ _ ra,R.sub.rep _ _ rb,hc.1,hc.2,q _ H F (R.x iS) 'o'⟩
 .cases e
def ő:D->D->ZL:=Ć λi j=>.bool (decide (i<j))
def ĭ:D->D->ZL:=Ć λi j=>.bool (decide (i<=j))
def ό:D->D->ZL:=Ć λi j=>.bool (decide (j<i))
def aQF:D->D->ZL:=Ć λi j=>.bool (decide (j<=i))
def p8:oP X (T6 λi j=>.bl (decide (i<j))) 0 ő:=sL λ_ _ _=>iS
def U5:oP X (T6 λi j=>.bl (decide (i<=j))) 0 ĭ:=sL λ_ _ _=>iS
def B0:oP X (T6 λi j=>.bl (decide (j<i))) 0 ό:=sL λ_ _ _=>iS
def Ļ(a b:D):ZL:=match b with
 |.none=>(match a with
  |.none=>some 'j'
  |.dict _=>none
  |_=>some (.bool false))
 |.bool d=>(match a with
  |.bool c=>some (.bool (c == d))
  |_=>none)
 |_=>none
def xM(a b:D):ZL:=match b with
 |.none=>(match a with
  |.none=>some (.bool false)
  |.dict _=>none
  |_=>some 'j')
 |.bool d=>(match a with
  |.bool c=>some (.bool (c != d))
  |_=>none)
 |_=>none
def ύ{d:D}(h:bE K F d v)(hd:d≠.none):v≠.non:=λz=>by
 subst z;cases d with
 |none=>exact hd rfl
 |bool b=>exact absurd (jS h) 'e'
 |int b=>exact absurd (gL h) 'e'
 |str b=>exact absurd (iG h) 'e'
 |list b=>let⟨_,_,z,_⟩:=jM h;cases z
 |tuple b=>let⟨_,_,z,_⟩:=A1 h;cases z
 |dict b=>unfold bE at h;let⟨_,_,z,_⟩:=h;cases z
def ώ:oP X (λx y H Q=>(∃c d,x=.bl c/\y=.bl d/\Q (.bl (c == d)) H)\/(y=.non/\Q (.bl (decide (x=.non))) H)) 0 Ļ:=λZ ow F H σ δ a b x y d Q S R ra rb e q=>by
 unfold Ļ at e;split at e
 .split at e
  .cases e
   refine .inr ⟨nE rb,?_⟩;rw[decide_eq_true (nE ra)];exact q _ H F (R.x iS) 'o'
  .cases e
  .cases e
   refine .inr ⟨nE rb,?_⟩;rw[decide_eq_false (ύ ra ‹_›)];exact q _ H F (R.x iS) 'o'
 .split at e
  .cases e;exact .inl ⟨_,_,jS ra,jS rb,q _ H F (R.x iS) 'o'⟩
  .cases e
 .cases e
def U6:oP X (λx y H Q=>(∃c d,x=.bl c/\y=.bl d/\Q (.bl (c != d)) H)\/(y=.non/\Q (.bl (!decide (x=.non))) H)) 0 xM:=λZ ow F H σ δ a b x y d Q S R ra rb e q=>by
 unfold xM at e;split at e
 .split at e
  .cases e
   refine .inr ⟨nE rb,?_⟩;rw[decide_eq_true (nE ra)];exact q _ H F (R.x iS) 'o'
  .cases e
  .cases e
   refine .inr ⟨nE rb,?_⟩;rw[decide_eq_false (ύ ra ‹_›)];exact q _ H F (R.x iS) 'o'
 .split at e
  .cases e;exact .inl ⟨_,_,jS ra,jS rb,q _ H F (R.x iS) 'o'⟩
  .cases e
 .cases e
def iH(o o':D->D->ZL)(f g k:M D):M D:=λδ=>(f δ).bind λx δ1=>(g δ1).bind λy δ2=>match o x y with
 |some 'j'=>(k δ2).bind λz δ3=>(match o' y z with
  |some r=>.ok r δ3
  |none=>.stuck)
 |some (.bool false)=>.ok (.bool false) δ2
 |_=>.stuck
def B1(S:aP Z ow)(os:oP X r 0 o)(os':oP X r' 0 o')(q:tD X Z ow 0 (iH o o' f h k) σ H Q):KN r r' (tD X Z ow 0 f) (tD X Z ow 0 h) (tD X Z ow 0 k) σ H Q:=by
 let⟨F,δ,R,q⟩:=q;unfold iH at q;sleep 1;cases e:f δ with
 |stuck=>rw[e]at q;sleep 4
 |err x δ1=>rw[e]at q;exact q
 |ok d1 δ1=>
  rw[e]at q;simp![Res.bind]at q;intro x H1 F1 R1 s1;refine⟨F1,δ1,R1.rel,?_⟩;cases e2:h δ1 with
  |stuck=>rw[e2]at q;sleep 4
  |err x δ2=>rw[e2]at q;exact jJ.mono q s1
  |ok d2 δ2=>
   rw[e2]at q;dsimp only at q;intro y H2 F2 R2 s2;cases e3:o d1 d2 with
   |none=>rw[e3]at q;sleep 4
   |some d=>
    refine os Z ow F2 H2 σ δ2 d1 d2 x y d _ S R2.rel (s2.rep _ _ R1.rep) R2.rep e3 λv H3 F3 R3 s3=>?_;cases d with
    |bool bb=>
     refine⟨bb,jS R3.rep,?_⟩;cases bb with
     |false=>
      rw[e3]at q;rw[Ã á];exact q _ H3 F3 (R3.rel.x iS) (s1.trans' (s2.trans' s3))
     |true=>
      rw[e3]at q;rw[Â rfl];dsimp only at q;refine⟨F3,δ2,R3.rel,?_⟩;cases e4:k δ2 with
      |stuck=>rw[e4]at q;sleep 4
      |err x δ3=>rw[e4]at q;exact jJ.mono q (s1.trans' (s2.trans' s3))
      |ok d3 δ3=>
       rw[e4]at q;dsimp only at q;intro z H4 F4 R4 s4;cases e5:o' d2 d3 with
       |none=>rw[e5]at q;sleep 4
       |some r0=>
        rw[e5]at q;exact os' Z ow F4 H4 σ δ3 d2 d3 y z r0 Q S R4.rel ((s3.trans' s4).rep _ _ R2.rep) R4.rep e5 λv' H' F' R' s'=>q v' H' F' R' (s1.trans' (s2.trans' (s3.trans' (s4.trans' s'))))
    |_=>rw[e3]at q;sleep 4
def G9(S:aP Z ow)(ho:kC X (compareOp o1) r)(os:oP X r 0 o)(ho':kC X (compareOp o2) r')(os':oP X r' 0 o')(ha:DE X Z ow 0 a f)(hb:DE X Z ow 0 b h)(hc:DE X Z ow 0 c k)(hm:lastMarks [o1,o2] [b,c]=false:=by with_unfolding_all rfl):DE X Z ow 0 (.Compare a [o1,o2] [b,c] pos) (iH o o' f h k):=PE.mono (T9 ho ho' ha hb hc hm) λ_ _ _ q=>B1 S os os' q
def U7(S:aP Z ow)(ho:kC X (compareOp o1) r)(os:oP X r 0 o)(ho':kC X (compareOp o2) r')(os':oP X r' 0 o')(ha:DE X Z ow 0 a f)(hb:DE X Z ow 0 b h)(hc:DE X Z ow 0 c k)(hm:lastMarks [o1,o2] [b,c]=false:=by with_unfolding_all rfl):DT X Z ow (.Compare a [o1,o2] [b,c] pos) (dB (iH o o' f h k)):=PT.mono (UA ho ho' ha hb hc hm) λ_ _ _ q=>B1 S os os' (GU q)
end
structure TH(K:ZC)(F:Hp)(J:It)(ds:ZI):Prop where
 go:∀i H,aI F H->i<ds.length->J.go i H
 yld:∀i H x H' d,aI F H->J.yld i H x H'->ds[i]?=some d->(H'=H/\bE K F d x)\/∃p o,H p=none/\H'=aV H p o/\∀F2,aI F F2->F2 p=none->bE K (aV F2 p o) d x
 stop:∀H,aI F H->J.stop ds.length H
def kI(X:Cx)(Z:cI)(ow:ZH)(r:Res (ZI))(F:Hp)(σ:St)(R:It->Hp->Prop):Prop:=match r with
 |.ok ds δ=>∀J H' F',bZ X.K Z ow F' H' σ δ->aI F F'->TH X.K F' J ds->R J H'
 |.err x δ=>jJ X Z ow F x δ
 |.stuck=>False
def tI(X:Cx)(Z:cI)(ow:ZH)(f:M (ZI)):TI:=λσ H R=>∃F δ,bZ X.K Z ow F H σ δ/\kI X Z ow (f δ) F σ R
def DI(X:Cx)(Z:cI)(ow:ZH)(tg e:Expr)(f:M (ZI)):Prop:=PI X tg e (tI X Z ow f)
def PI.mono(h:PI X tg e t)(hm:∀σ H R,t' σ H R->t σ H R):PI X tg e t':=λÀ s σ H R I q=>h À s σ H R I (hm σ H R q)
section
variable {X:Cx}{Z:cI}{ow ol ox:ZH}{n rm:Nat}{pos:Pos}{e tg a b:Expr}{f f':M D}{g:TG}{set:D->DS->Option DS}{K:ZC}{F H:Hp}{σ:St}{δ:DS}
def U8{a:Addr}{xs:List V}{ds:ZI}(h:d8 K F a xs)(r:aD K F ds xs):TH K F (ī K a) ds where
 go:=λi H s hi=>⟨xs,xs[i]'(by rw[<- r.len];exact hi),s.seq h,Ê _⟩
 yld:=λi H x H' d s y e=>.inl ⟨y.1,by
  let⟨v,e1,q⟩:=r.get e;have:=y.2 xs (s.seq h);rw[e1]at this;cases this;exact q⟩
 stop:=λH s=>⟨xs,s.seq h,by rw[<- r.len];exact È _⟩
def aBV{a:Addr}{xs:List V}{ds:ZI}(h:rX K F a xs)(r:aD K F ds xs):TH K F (Ű K a) ds where
 go:=λi H s hi=>⟨xs,xs[i]'(by rw[<- r.len];exact hi),s.seqT h,Ê _⟩
 yld:=λi H x H' d s y e=>.inl ⟨y.1,by
  let⟨v,e1,q⟩:=r.get e;have:=y.2 xs (s.seqT h);rw[e1]at this;cases this;exact q⟩
 stop:=λH s=>⟨xs,s.seqT h,by rw[<- r.len];exact È _⟩
def NI{lo:Int}{m:Nat}:TH K F (ķ lo m) (jL lo m) where
 go:=λi H s hi=>by rw[fW]at hi;exact hi
 yld:=λi H x H' d s y e=>.inl ⟨y.1,by
  have hi:i<m:=by have:=(Î.mp e).1;rwa [fW]at this
  rw[D2 hi]at e;cases e;rw[y.2];exact gJ⟩
 stop:=λH s=>by rw[fW];exact È _
def l5(f:M D):M (ZI):=λδ=>(f δ).bind λd δ1=>match d with
 |.list ds=>.ok ds δ1
 |.tuple ds=>.ok ds δ1
 |_=>.stuck
def bO(h:DE X Z ow 0 e f):DI X Z ow tg e (l5 f):=(UU h).mono λσ H R q=>by
 let⟨F,δ,Rl,q⟩:=q;unfold l5 at q;refine⟨F,δ,Rl,?_⟩;cases e1:f δ with
 |stuck=>rw[e1]at q;sleep 4
 |err x δ1=>rw[e1]at q;exact q
 |ok d δ1=>
  rw[e1]at q;simp![Res.bind]at q;intro v H1 F1 R1 s1;have rp:=R1.rep;cases d with
  |list ds=>
   let⟨a,xs,rfl,hq,ra⟩:=jM rp;exact .inl ⟨a,rfl,⟨xs,R1.rel.sub.seq hq⟩,q _ H1 F1 R1.rel s1 (U8 hq ra)⟩
  |tuple ds=>
   let⟨a,xs,rfl,hq,ra⟩:=A1 rp;exact .inr ⟨a,rfl,⟨xs,R1.rel.sub.seqT hq⟩,q _ H1 F1 R1.rel s1 (aBV hq ra)⟩
  |_=>sleep 4
def pM(fs:List (M D)):M (ZI):=λδ=>(bB fs δ).bind λds δ1=>match kY ds with
 |some (lo,n)=>.ok (jL lo n) δ1
 |none=>.stuck
def dM(hgl:Gl X "range")(hm:X.mg "range"=none)(hi:DE X Z ow 0 b f)(hst:↥(Zse b [] X.env)):DI X Z ow tg (.Call (.Name "range" p2) [b] [] p3) (pM [f]):=
 (QE hgl hm (aF hi aY hst) hst).mono λσ H R q=>by
  let⟨F,δ,Rl,q⟩:=q;unfold pM at q;refine⟨F,δ,Rl,?_⟩;cases e1:bB [f] δ with
  |stuck=>rw[e1]at q;sleep 4
  |err x δ1=>rw[e1]at q;exact q
  |ok ds δ1=>
   rw[e1]at q;simp![Res.bind]at q;intro vs H1 F1 R1 s1 ra;cases e2:kY ds with
   |none=>rw[e2]at q;sleep 4
   |some p=>
    let⟨lo,m⟩:=p;rw[e2]at q;let⟨j,rfl,h1,h2,rfl,rfl⟩:=GW e2 (kZ e1);exact⟨j,xJ ra,h1,h2,q _ H1 F1 R1 s1 NI⟩
def QR{p2 p3:Pos}(hgl:Gl X "range")(hm:X.mg "range"=none)(ha:DE X Z ow 0 a f')(hi:DE X Z ow 0 b f)(hst:↥(starEach [a,b] X.env=(false,eval a X.env)::starEach [b] X.env))(hst2:↥(Zse b [] X.env)):
  DI X Z ow tg (.Call (.Name "range" p2) [a,b] [] p3) (pM [f',f]):=
 (QF hgl hm (aF ha (aF hi aY hst2) hst) (hst.trans (by rw[hst2];rfl)) hst2).mono λσ H R q=>by
  let⟨F,δ,Rl,q⟩:=q;unfold pM at q;refine⟨F,δ,Rl,?_⟩;cases e1:bB [f',f] δ with
  |stuck=>rw[e1]at q;sleep 4
  |err x δ1=>rw[e1]at q;exact q
  |ok ds δ1=>
   rw[e1]at q;simp![Res.bind]at q;intro vs H1 F1 R1 s1 ra;cases e2:kY ds with
   |none=>rw[e2]at q;sleep 4
   |some p=>
    let⟨lo,m⟩:=p;rw[e2]at q;let⟨i,j,rfl,h1,rfl,rfl⟩:=GX e2 (kZ e1);exact⟨lo,j,GY ra,h1,q _ H1 F1 R1 s1 NI⟩
def TH.turn{d:D}(T:TH X.K F1 J ds)(R:bZ X.K Z ow F H σ δ)(s:aI F1 F)(y:J.yld i H x H')(e:ds[i]?=some d):∃F',aI F F'/\bZ X.K Z ow F' H' σ δ/\bE X.K F' d x:=by
 rcases T.yld i H x H' d (s.trans' R.sub) y e with ⟨rfl,r⟩|⟨p,o,hp,rfl,r⟩
 .exact⟨F,aI.refl _,R,s.rep _ _ r⟩
 .have fp:=R.fnone hp
  exact⟨aV F p o,bW fp o,R.laid hp,r F s fp⟩
def nF(set:D->DS->Option DS)(f:M (ZI))(u:M Fl):M Fl:=λδ=>(f δ).bind λds δ1=>gG set u ds δ1
def EC{f:M (ZI)}(hp:PassesOwn 'b' X.A X.env X.xe)(hc:X.calm=true)(hi:DI X Z ow tg e f)(hg:PG X tg g)(hs:ĺ X Z ow g set)(hb:BU X Z ow ow ow ox rm sts u)(hf: ~~~(Zfi e X.env)):DZ X Z ow ow ol ox rm (.For tg e sts [] pos) (nF set f u):=PS.mono (T3 hp hc hi hg hb hf) λDn σ H h=>by
 let⟨F,δ,R,h⟩:=h;unfold nF at h;sleep 1;cases e1:f δ with
 |stuck=>rw[e1]at h;exact h.elim
 |err x δ1=>rw[e1]at h;exact jJ.cast h
 |ok ds δ1=>
  rw[e1]at h;simp![Res.bind]at h;intro J H1 F1 R1 s1 T;refine⟨λi m σ H=>m=ds.length-i/\i<=ds.length/\∃F2 δ,bZ X.K Z ow F2 H σ δ/\aI F1 F2/\kS X Z ow ol ox rm (gG set u (ds.drop i) δ) F2 Dn,⟨ds.length,rfl,î _,F1,δ1,R1,aI.refl _,h.mono s1⟩,?_⟩;rintro i m σ2 H2 ⟨rfl,hi,F2,δ2,R2,s2,k2⟩;by_cases hlt:i<ds.length
  .refine .inr ⟨T.go i H2 (s2.trans' R2.sub) hlt,λσ' H'=>∃F3 δ,bZ X.K Z ow F3 H' σ' δ/\aI F1 F3/\kS X Z ow ol ox rm (gG set u (ds.drop (i+1)) δ) F3 Dn,λσ' H' q=>⟨ds.length-(i+1),∅,rfl,hlt,q⟩,λx H' y=>?_⟩
   have ed:=Ê hlt;let⟨F3,s3,R3,r3⟩:=T.turn R2 s2 y ed;exact aBQ (Pv:=λj σ' H'=>∃F3 δ,bZ X.K Z ow F3 H' σ' δ/\aI F1 F3/\kS X Z ow ol ox rm (gG set u (ds.drop j) δ) F3 Dn) hs R3 (s2.trans' s3) (k2.mono s3) ed r3 λk σ H F δ q1 q2 q3=>⟨F,δ,q1,q2,q3⟩
  .have e:i=ds.length:=by lia
   subst e;rw[List.drop_length]at k2;exact .inl ⟨T.stop H2 (s2.trans' R2.sub),k2 σ2 H2 F2 R2 'o'⟩
def U9(k:Nat)(g:ZP):ZP:=λa=>match g a with
 |some (i,p)=>if i=1000 then none else some (i+k,p)
 |none=>none
def LG{g:ZP}{a:Addr}(h:U9 k g a=some (i,p)):∃j,g a=some (j,p)/\i=j+k/\j≠1000:=by
 unfold U9 at h;cases e:g a with
 |none=>rw[e]at h;cases h
 |some l=>
  let⟨j,q⟩:=l;rw[e]at h;dsimp only at h;split at h
  .cases h
  .rename_i hj;cases h;exact⟨j,rfl,rfl,hj⟩
def LH{k:Nat}{g:ZP}{a:Addr}{j:Nat}{p:ZH}(h:g a=some (j,p))(hj:j≠1000):U9 k g a=some (j+k,p):=by
 unfold U9;rw[h];exact Ã hj
def cI.sh(Z:cI)(k:Nat):cI:=⟨Z.F0,Z.H0,U9 k Z.g0,Z.ps.map (·+k),List.replicate k none++Z.σ0,List.replicate k 0++Z.owp,λa i q h=>by
 let⟨j,e1,e2,_⟩:=LG h;rw[e2];exact Ö.mpr ⟨j,Z.wf a j q e1,rfl⟩⟩
def l6:'q'.getD (i+k) 0=ow.getD i 0:=by
 rw[Ë,Ë,ã 'e',ï,Ĝ]
def aP.lt(S:aP Z ow)(h:ow.getD i 0≠0):i<1000:=by
 by_cases hl:i<ow.length
 .exact Ù hl S.ow
 .exact absurd (by rw[Ë,ç (by exact è.mp ‹_›)];rfl) h
def bA.sh{g:ZP}(hi:n=0\/i≠1000)(h:bA K F H g i n p d v):bA K F H (U9 k g) (i+k) n p d v:=by
 rcases hi with rfl|hi
 .exact h
 .exact h.relab λa p e=>LH e hi
def bZ.sh(S:aP Z ow)(R:bZ K Z ow F H σ δ):bZ K (Z.sh k) 'q' F H (List.replicate k none++σ) (List.replicate k none++δ):=by
 let⟨g,R⟩:=R;refine⟨U9 k g,R.sub,R.f0,λb o n e=>R.kept b o ?_ e,R.new,R.there,λa i p e=>?_,by simp[R.len],λi hi=>?_,λi d e=>?_⟩
 .cases e1:Z.g0 b with
  |none=>rfl
  |some l=>
   let⟨j,q⟩:=l;have n:U9 k Z.g0 b=none:=n;rw[LH e1 λz=>S.ps (by rw[<- z];exact Z.wf b j q e1)]at n;cases n
 .obtain⟨j,e1,e2,e3⟩:=LG e
  rcases R.lab a j p e1 with z|⟨q,z⟩
  .exact .inl z
  .exact .inr ⟨q,by rw[e2];exact LH z e3⟩
 .obtain⟨j,hj,rfl⟩:=Ö.mp (show i∈Z.ps.map (·+k)from hi)
  let⟨p1,p2⟩:=R.par j hj;refine⟨?_,?_⟩
  .show (List.replicate k none++σ)[j+k]?=(List.replicate k none++Z.σ0)[j+k]?
   rw[ã 'e',ã 'e',ï,Ĝ];exact p1
  .show 'q'.getD (j+k) 0=(List.replicate k 0++Z.owp).getD (j+k) 0
   rw[l6,l6];exact p2
 .by_cases hi:i<k
  .rw[ô (by simpa using hi),Ā]at e
   split at e<;>cases e
  .rw[ã (by simp;exact è.mp ‹_›),ï]at e
   let⟨v,e1,o⟩:=R.slot _ d e;obtain⟨j,rfl⟩:∃j,i=j+k:=⟨i-k,∅⟩;rw[Ĝ]at e1 o;refine⟨v,by rw[ã 'e',ï,Ĝ];exact e1,?_⟩;rw[l6];refine o.sh ?_;by_cases hz:ow.getD j 0=0
   .exact .inl hz
   .exact .inr (Ð (S.lt hz))
def bZ.unsh(S:aP Z ow)(hs:aP (Z.sh k) 'q')(R:bZ K (Z.sh k) 'q' F H σ' δ')(hσ:∀i,σ'[i+k]?=σ[i]?)(hl:σ'.length=σ.length+k)(hk:k<=δ'.length):bZ K Z ow F H σ (δ'.drop k):=by
 let⟨g,R⟩:=R;have un:∀a i p,(λb=>match g b with|some (j,q)=>if j<k\/j-k=1000 then none else some (j-k,q)|none=>none:ZP) a=some (i,p)->g a=some (i+k,p):=λa i p e=>by
  dsimp only at e;cases e1:g a with
  |none=>rw[e1]at e;cases e
  |some l=>
   let⟨j,q⟩:=l;rw[e1]at e;dsimp only at e;split at e
   .cases e
   .rename_i hj
    cases e;have:j-k+k=j:=by lia
    rw[this]
 have ins:∀a i p,i≠1000->g a=some (i+k,p)->(λb=>match g b with|some (j,q)=>if j<k\/j-k=1000 then none else some (j-k,q)|none=>none:ZP) a=some (i,p):=λa i p hi e=>by
  dsimp only;rw[e];dsimp only;rw[Ã ∅,Ĝ]
 refine⟨λb=>match g b with|some (j,q)=>if j<k\/j-k=1000 then none else some (j-k,q)|none=>none,R.sub,R.f0,λb o n e=>R.kept b o ?_ e,R.new,R.there,λa i p e=>?_,?_,λi hi=>?_,λi d e=>?_⟩
 .show U9 k Z.g0 b=none
  unfold U9;rw[n]
 .rcases R.lab a (i+k) p (un a i p e)with z|⟨q,z⟩
  .exact .inl z
  .obtain⟨j,e1,e2,_⟩:=LG (show U9 k Z.g0 a=some (i+k,q)from z)
   have:i=j:=by lia
   rw[this];exact .inr ⟨q,e1⟩
 .rw[ď,R.len,hl];lia
 .obtain⟨p1,p2⟩:=R.par (i+k) (Ö.mpr ⟨i,hi,rfl⟩)
  have p1:σ'[i+k]?=(List.replicate k none++Z.σ0)[i+k]?:=p1;have p2:'q'.getD (i+k) 0=(List.replicate k 0++Z.owp).getD (i+k) 0:=p2;rw[hσ,ã 'e',ï,Ĝ]at p1;rw[l6,l6]at p2;exact⟨p1,p2⟩
 .rw[List.getElem?_drop,Nat.add_comm]at e
  let⟨v,e1,o⟩:=R.slot _ d e;rw[hσ]at e1;rw[l6]at o;refine⟨v,e1,?_⟩;by_cases hz:ow.getD i 0=0
  .rw[hz]at o⊢;exact o
  .exact o.relab λa p e=>ins a i p (Ð (S.lt hz)) e
def ĕ(X:Cx)(Z:cI)(ow:ZH)(k:Nat)(g:TG)(set:D->DS->Option DS):Prop:=∀(F H:Hp)(σ:St)(δ δ':DS)(d:D)(v:V)(Q:St->Hp->Prop),bZ X.K Z ow F H σ δ->bE X.K F d v->set d δ=some δ'->(∀σ',bZ X.K Z ow F H σ' δ'->σ'.length=σ.length->δ'.length=δ.length->(∀i,σ'[i+k]?=σ[i+k]?)->Q σ' H)->g v σ H Q
def nG(S:aP Z ow)(hk:i<k)(hps:i∉Z.ps)(hl:i<ow.length)(h0:ow.getD i 0=0):ĕ X Z ow k (kU i) (setN i):=λF H σ δ δ' d v Q R r e q=>by
 unfold setN at e;split at e
 .rename_i hi
  cases e;have:=(R.x r).store S hi hps hl;rw[ź h0]at this;exact q _ this 'e' 'e' λj=>Ú ∅
 .cases e
def bP(set:D->DS->Option DS)(t:M Bool)(e:M D):ZI->ZI->DS->Res (ZI)
 |[],acc,δ=>.ok acc δ
 |d::ds,acc,δ=>match set d δ with
  |none=>.stuck
  |some δ1=>(t δ1).bind λb δ2=>if b=true then (e δ2).bind λy δ3=>(if acc.length<sizeLine then bP set t e ds (acc++[y]) δ3 else .stuck)else (if acc.length<sizeLine then bP set t e ds acc δ2 else .stuck)
def eD(k:Nat)(set:D->DS->Option DS)(f:M (ZI))(t:M Bool)(e:M D):M D:=λδ=>(f δ).bind λds δ1=>match bP set t e ds [] (List.replicate k none++δ1)with
 |.ok acc δ2=>if k<=δ2.length then .ok (.list acc) (δ2.drop k)else .stuck
 |_=>.stuck
def aQG(X:Cx)(Z:cI)(ow:ZH)(n:Nat)(r:Res D)(F:Hp)(σ:St)(Q:VK):Prop:=match r with
 |.ok d δ=>∀v H' F',gD X.K Z ow n d v F' H' σ δ->aI F F'->Q v H'
 |_=>False
def ĥ(X:Cx)(Z:cI)(ow:ZH)(n:Nat)(f:M D):TE:=λσ H Q=>∃F δ,bZ X.K Z ow F H σ δ/\aQG X Z ow n (f δ) F σ Q
def aQH(X:Cx)(Z:cI)(ow:ZH)(r:Res Bool)(F:Hp)(σ:St)(Q:Bool->Hp->Prop):Prop:=match r with
 |.ok b δ=>∀H' F',bZ X.K Z ow F' H' σ δ->aI F F'->Q b H'
 |_=>False
def Œ(X:Cx)(Z:cI)(ow:ZH)(f:M Bool):TT:=λσ H Q=>∃F δ,bZ X.K Z ow F H σ δ/\aQH X Z ow (f δ) F σ Q
def HA{k:Nat}{wi:TI}{fi:M (ZI)}{t:M Bool}{fe:M D}{Q:VK}(S:aP Z ow)(Sk:aP (Z.sh k) 'q')(hs:ĕ X (Z.sh k) 'q' k g set)(q:tD X Z ow 1 (eD k set fi t fe) σ H Q):M9 k (tI X Z ow fi) g (Œ X (Z.sh k) 'q' t) (ĥ X (Z.sh k) 'q' 0 fe) σ H Q:=by
 let⟨F,δ,R,q⟩:=q;unfold eD at q;sleep 1;cases e1:fi δ with
 |stuck=>rw[e1]at q;sleep 4
 |err x δ1=>rw[e1]at q;exact q
 |ok ds δ1=>
  rw[e1]at q;simp![Res.bind]at q;intro J H1 F1 R1 s1 T;have hcase:∃acc δ2,bP set t fe ds [] (List.replicate k none++δ1)=.ok acc δ2/\k<=δ2.length/\kD X Z ow 1 (.ok (.list acc) (δ2.drop k)) F σ Q:=by
   cases e2:bP set t fe ds [] (List.replicate k none++δ1)with
   |stuck=>rw[e2]at q;sleep 4
   |err x δ2=>rw[e2]at q;sleep 4
   |ok acc δ2=>
    rw[e2]at q;dsimp only at q;split at q
    .rename_i hk;exact⟨acc,δ2,rfl,hk,q⟩
    .sleep 4
  let⟨acc,δ2,e2,hk2,q⟩:=hcase;refine⟨λi m ys σ' H'=>m=ds.length-i/\i<=ds.length/\σ'.length=σ.length+k/\(∀i,σ'[i+k]?=σ[i]?)/\∃F2 δ' acc',bZ X.K (Z.sh k) 'q' F2 H' σ' δ'/\aI F1 F2/\aD X.K F2 acc' ys/\bP set t fe (ds.drop i) acc' δ'=.ok acc δ2,
   ⟨ds.length,rfl,î _,by simp;exact Nat.add_comm _ _,λi=>by rw[ã 'e',ï,Ĝ],F1,_,[],R1.sh S,aI.refl _,iX,e2⟩,?_⟩
  rintro i m ys σ2 H2 ⟨rfl,hi,hl2,hσ2,F2,δ',acc',R2,s2,ra,e3⟩;by_cases hlt:i<ds.length
  .have ed:=Ê hlt
   have ee:ds.drop i=ds[i]::ds.drop (i+1):=ñ hlt;rw[ee]at e3;unfold bP at e3;cases e4:set ds[i] δ' with
   |none=>simp![e4]at e3;cases e3
   |some δ3=>
    simp![e4]at e3;have small:acc'.length<sizeLine:=by
     cases e5:t δ3 with
     |stuck=>rw[e5]at e3;cases e3
     |err x δ4=>rw[e5]at e3;cases e3
     |ok bb δ4=>
      rw[e5]at e3;simp![Res.bind]at e3;cases bb with
      |false=>
       rw[Ã á]at e3;split at e3
       .assumption
       .cases e3
      |true=>
       rw[Â rfl]at e3;cases e6:fe δ4 with
       |stuck=>rw[e6]at e3;cases e3
       |err x δ5=>rw[e6]at e3;cases e3
       |ok y δ5=>
        rw[e6]at e3;dsimp only at e3;split at e3
        .assumption
        .cases e3
    refine .inr ⟨T.go i H2 (s2.trans' R2.sub) hlt,by rw[<- ra.len];exact small,λzs σ'' H''=>σ''.length=σ.length+k/\(∀i,σ''[i+k]?=σ[i]?)/\∃F3 δ' acc',bZ X.K (Z.sh k) 'q' F3 H'' σ'' δ'/\aI F1 F3/\aD X.K F3 acc' zs/\bP set t fe (ds.drop (i+1)) acc' δ'=.ok acc δ2,λzs σ'' H'' z=>⟨ds.length-(i+1),∅,rfl,hlt,z⟩,λx H3 y=>?_⟩
    let⟨F3,s3,R3,r3⟩:=T.turn R2 s2 y ed;refine hs F3 H3 σ2 δ' δ3 ds[i] x _ R3 r3 e4 λσ3 R4 l3 _ hσ3=>⟨F3,δ3,R4,?_⟩;have hl3:σ3.length=σ.length+k:=by exact Eq.trans ‹_› ‹_›
    have hσ4:∀i,σ3[i+k]?=σ[i]?:=λi=>(hσ3 i).trans (hσ2 i);cases e5:t δ3 with
    |stuck=>rw[e5]at e3;cases e3
    |err x δ4=>rw[e5]at e3;cases e3
    |ok bb δ4=>
     rw[e5]at e3;simp![Res.bind]at e3;intro H5 F5 R5 s5;cases bb with
     |false=>
      rw[Ã á,Â small]at e3;rw[Ã á];exact⟨hl3,hσ4,F5,δ4,acc',R5,s2.trans' (s3.trans' s5),(s3.trans' s5).repAll _ _ ra,e3⟩
     |true=>
      rw[Â rfl]at e3;rw[Â rfl];refine⟨F5,δ4,R5,?_⟩;cases e6:fe δ4 with
      |stuck=>rw[e6]at e3;cases e3
      |err x δ5=>rw[e6]at e3;cases e3
      |ok yd δ5=>
       rw[e6]at e3;dsimp only at e3;rw[Â small]at e3;intro yv H6 F6 R6 s6;exact⟨hl3,hσ4,F6,δ5,acc'++[yd],R6.rel,s2.trans' (s3.trans' (s5.trans' s6)),((s3.trans' (s5.trans' s6)).repAll _ _ ra).app (fU R6.rep iX),e3⟩
  .have e:i=ds.length:=by lia
   subst e;rw[List.drop_length]at e3;unfold bP at e3;cases e3;refine .inl ⟨T.stop H2 (s2.trans' R2.sub),λp hp=>?_⟩;have R7:bZ X.K Z ow F2 H2 σ (δ2.drop k):=R2.unsh S Sk hσ2 hl2 hk2;exact q _ _ F2 (R7.newList S hp ra) (s1.trans' s2)
def NJ(hK:X'.K=X.K)(h:ĥ X Z ow n f σ H Q):tD X' Z ow n f σ H Q:=by
 let⟨F,δ,R,h⟩:=h;refine⟨F,δ,by rw[hK];exact R,?_⟩;cases e:f δ with
 |stuck=>rw[e]at h;exact h
 |err x δ1=>sleep 5
 |ok d δ1=>rw[e]at h;exact λv H' F' R' s=>h v H' F' (by rw[<- hK];exact R') s
def Ϗ{f:M Bool}(hK:X'.K=X.K)(h:Œ X Z ow f σ H Q):tT X' Z ow f σ H Q:=by
 let⟨F,δ,R,h⟩:=h;refine⟨F,δ,by rw[hK];exact R,?_⟩;cases e:f δ with
 |stuck=>rw[e]at h;exact h
 |err x δ1=>sleep 5
 |ok d δ1=>rw[e]at h;exact λH' F' R' s=>h H' F' (by rw[<- hK];exact R') s
def eE:M Bool:=λδ=>.ok true δ
def bV:TC X [] (tT X Z ow eE):=λÀ s σ H Q I h=>by
 let⟨F,δ,R,h⟩:=h;exact DW À s σ H Q I (h H F R 'o')
def l7(h:DT X Z ow c t):TC X [c] (tT X Z ow t):=aBK h
def sO(S:aP Z ow)(Sk:aP (Z.sh xs.length) 'i')(hc:X.calm=true)(hi:DI X Z ow tg iter fi)(hg:∀C fp s H,PG 'g' tg g)(hs:ĕ X (Z.sh xs.length) 'i' xs.length g set)(hif:∀C fp s H,TC 'g' ifs (tT 'g' (Z.sh xs.length) 'i' t))(he:∀C fp s H,DE 'g' (Z.sh xs.length) 'i' 0 elt fe)(hk:↥(scope.kind=.function))(hok:↥(dR X.N xs scope.names X.env.scope.names=true))(hfs: ~~~(Zfi iter X.env)):
  DE X Z ow 1 'r' (eD xs.length set fi t fe):=
 PE.mono (GT (ti:=Œ X (Z.sh xs.length) 'i' t) (te:=ĥ X (Z.sh xs.length) 'i' 0 fe) hc hi hg (λC fp s H À s' σ H' Q I h=>hif C fp s H À s' σ H' Q I (Ϗ (X:=X) (X':=aT X xs scope C fp s H) rfl h)) (λC fp s H=>PE.mono (he C fp s H) λ_ _ _ h=>NJ (X:=X) (X':=aT X xs scope C fp s H) rfl h) hk hok hfs)
  λ_ _ _ q=>HA (wi:=tI X Z ow fi) S Sk hs q
def l8(i:Nat){pos' spos:Pos}(S:aP Z ow)(Sk:aP (Z.sh xs.length) 'i')(hc:X.calm=true)(hN:X.N.Nodup)(hi:DI X Z ow tg iter fi)(hg:∀C fp s H,PG 'g' tg g)(hs:ĕ X (Z.sh xs.length) 'i' xs.length g set)(hif:∀C fp s H,TC 'g' ifs (tT 'g' (Z.sh xs.length) 'i' t))(he:∀C fp s H,DE 'g' (Z.sh xs.length) 'i' 0 elt fe)(hx:↥(X.N[i]?=some x))(hl:↥(X.env.scope.names.lookup x=some .local))(hps:↥(Z.ps.contains i=false))(hlo:⇑(i<ow.length))(hsw:↥(swapsWith 'r' (some (.Name x pos')) spos.line X.env=pure true))(hk:↥(scope.kind=.function))(hok:↥(dR X.N xs scope.names X.env.scope.names=true))(hfs: ~~~(Zfi iter X.env)):
  DZ X Z ow (ow.set i 1) ol ox rm (.Assign [.Name x pos'] 'r' spos) (jK i (eD xs.length set fi t fe)):=
 PS.mono (sH (ti:=Œ X (Z.sh xs.length) 'i' t) (te:=ĥ X (Z.sh xs.length) 'i' 0 fe) hc hN hx hl hi hg (λC fp s H À s' σ H' Q I h=>hif C fp s H À s' σ H' Q I (Ϗ (X:=X) (X':=aT X xs scope C fp s H) rfl h)) (λC fp s H=>PE.mono (he C fp s H) λ_ _ _ h=>NJ (X:=X) (X':=aT X xs scope C fp s H) rfl h) hsw hk hok hfs)
  λDn σ H h=>HA (wi:=tI X Z ow fi) S Sk hs (D0 S (cP hps) hlo h)
end
section
variable {X:Cx}{Z:cI}{ow:ZH}{pos:Pos}{e:Expr}{f h:M D}{F:Hp}{K:ZC}
def A5(h:aD K F [d] vs):∃v,vs=[v]/\bE K F d v:=by
 unfold aD at h;let⟨x,r,rfl,rx,h⟩:=h;unfold aD at h;exact⟨x,by rw[h],rx⟩
def aHU:ğ X (λxs H Q=>(∃p ys,xs=[.ref p]/\(d8 X.K H p ys\/rX X.K H p ys)/\Q (.int ys.length) H)\/(∃z,xs=[.str z]/\z.length<=sizeLine/\Q (.int z.length) H)) 0 lZ:=λZ ow F H σ δ ds vs d Q S R ra e q=>by
 unfold lZ at e;split at e<;>try cases e
 split at e<;>try cases e
 .obtain⟨v,rfl,r⟩:=A5 ra
  let⟨p,xs,rfl,hp,hr⟩:=jM r;rw[hr.len]at q;exact .inl ⟨p,xs,rfl,.inl (R.sub.seq hp),q _ H F (R.x gJ) 'o'⟩
 .obtain⟨v,rfl,r⟩:=A5 ra
  let⟨p,xs,rfl,hp,hr⟩:=A1 r;rw[hr.len]at q;exact .inl ⟨p,xs,rfl,.inr (R.sub.seqT hp),q _ H F (R.x gJ) 'o'⟩
 .split at e
  .rename_i hz
   cases e;let⟨v,rfl,r⟩:=A5 ra;obtain rfl:=iG r;exact .inr ⟨_,rfl,hz,q _ H F (R.x gJ) 'o'⟩
  .cases e
def bQ{p:Pos}(S:aP Z ow)(hg:Gl X "len")(hm:X.mg "len"=none)(ha:DE X Z ow 0 e f)(hs:↥(Zse e [] X.env))(hpl:↥(Zbt pos [] X.env)):DE X Z ow 0 (.Call (.Name "len" p) [e] [] pos) (KC lZ [f]):=
 iY S (sD.or DQ) aHU hg hm UM (aF ha aY hs) ⋯ ⋯ hs hpl
def ž:ZI->ZL
 |[.int i]=>some (.int (if i<0 then -i else i))
 |_=>none
def ED:ğ X (λxs H Q=>∃i,xs=[.int i]/\Q (.int (if i<0 then -i else i)) H) 0 ž:=λZ ow F H σ δ ds vs d Q S R ra e q=>by
 unfold ž at e;split at e
 .cases e
  let⟨v,rfl,r⟩:=A5 ra;exact⟨_,by rw[gL r],q _ H F (R.x gJ) 'o'⟩
 .cases e
def NK:ZI->ZL
 |[.list ds]=>some (.list ds)
 |[.tuple ds]=>some (.list ds)
 |_=>none
def EE:ğ X (λxs H Q=>∃p ys,xs=[.ref p]/\(d8 X.K H p ys\/rX X.K H p ys)/\∀l,H l=none->Q (.ref l) (aV H l (.lst ys))) 1 NK:=λZ ow F H σ δ ds vs d Q S R ra e q=>by
 unfold NK at e;split at e
 .cases e
  let⟨v,rfl,r⟩:=A5 ra;let⟨p,xs,rfl,hp,hr⟩:=jM r;exact⟨p,xs,rfl,.inl (R.sub.seq hp),λl hl=>q _ _ F (R.newList S hl hr) 'o'⟩
 .cases e
  let⟨v,rfl,r⟩:=A5 ra;let⟨p,xs,rfl,hp,hr⟩:=A1 r;exact⟨p,xs,rfl,.inr (R.sub.seqT hp),λl hl=>q _ _ F (R.newList S hl hr) 'o'⟩
 .cases e
inductive Ty where|int|bool|str|list|tuple
def Ty.name:Ty->String
 |.int=>"int"|.bool=>"bool"|.str=>"str"|.list=>"list"|.tuple=>"tuple"
def gE:Ty->D->ZL
 |.int,.int _=>some 'j'|.int,.bool _=>some 'j'|.bool,.bool _=>some 'j'|.str,.str _=>some 'j'|.list,.list _=>some 'j'|.tuple,.tuple _=>some 'j'
 |_,.dict _=>none
 |_,_=>some (.bool false)
def QS(T:Ty):gZ X (.builtin "isinstance") (λxs H Q=>∃(x:V)(d:D)(b:Bool),xs=[x,.ty T.name]/\bE X.K H d x/\gE T d=some (.bool b)/\Q (.bl b) H):=by
 intro À s σ H xs us Q I r h;let⟨x,d,b,rfl,rd,hb,q⟩:=h;let⟨u,v,rfl,rx,rc⟩:=UC r;obtain rfl:v=Value.type T.name:=rc;obtain⟨t,G,Z,p,⟨c,e2,e⟩,hx⟩:∃t G,W.KitX X.K u t G/\G s.heap/\(∃c,gE T d=some (.bool c)/\W.kitOne X.K t (.type T.name)=some c)/\u≠.builtin "__main__.__loader__#opaque":=by
  cases d with
  |none=>obtain rfl:=nE rd;cases (show u=Value.none from rx);exact⟨_,_,W.kitx_none,trivial,by cases T<;>exact⟨_,rfl,rfl⟩,nofun⟩
  |bool y=>obtain rfl:=jS rd;cases (show u=Value.bool y from rx);exact⟨_,_,W.kitx_bool,trivial,by cases T<;>exact⟨_,rfl,rfl⟩,nofun⟩
  |int i=>obtain rfl:=gL rd;let⟨t,q'⟩:=(show ∃t,u=Value.int i t from rx);cases q';exact⟨_,_,W.kitx_int,trivial,by cases T<;>exact⟨_,rfl,rfl⟩,nofun⟩
  |str i=>obtain rfl:=iG rd;let⟨t,q'⟩:=(show ∃t,u=Value.str i t from rx);cases q';exact⟨_,_,W.kitx_str,trivial,by cases T<;>exact⟨_,rfl,rfl⟩,nofun⟩
  |list ds=>
   let⟨a,xs,rfl,hp,_⟩:=jM rd;cases (show u=Value.ref a from rx);let⟨_,_,⟨o,_,h1,h2,_⟩,_⟩:=I.list hp;exact⟨_,_,W.kitx_list,⟨o,h1,h2⟩,by cases T<;>exact⟨_,rfl,rfl⟩,nofun⟩
  |tuple ds=>
   let⟨a,xs,rfl,hp,_⟩:=A1 rd;cases (show u=Value.ref a from rx);let⟨_,_,⟨o,h1,h2,_⟩,_⟩:=I.tuple hp;exact⟨_,_,W.kitx_tuple,⟨o,h1,h2⟩,by cases T<;>exact⟨_,rfl,rfl⟩,nofun⟩
  |dict _=>cases T<;>cases hb
 cases hb.symm.trans e2;exact W.kia_one Z I.kIn p e hx λtk=>⟨.bl b,H,I.tok tk,rfl,q⟩
def iI(T:Ty){x:Str}{p p2:Pos}(hx:x=T.name)(hg:Gl X "isinstance")(hm:X.mg "isinstance"=none)(ć:Gl X x)(hmt:X.mg x=none)(hbt:bootBuiltins x=some (.type T.name))(ha:DE X Z ow 0 e f)(hn:⇑(x≠"__name__"))(hd:⇑(Zdb x))(hs:↥(starEach [e,.Name x p2] X.env=(false,eval e X.env)::starEach [.Name x p2] X.env))(hs2:↥(starEach [.Name x p2] X.env=(false,eval (.Name x p2) X.env)::starEach [] X.env))(hpl:↥((backTo pos (starEach [.Name x p2] X.env)).any (·.1)=false)):
  DE X Z ow 0 (.Call (.Name "isinstance" p) [e,.Name x p2] [] pos) (sM (gE T) f):=
 PE.mono (sA (QS T) hg hm pY (dO ha (dO (UP ć hmt hbt hn hd) iW hs2) hs) ⋯ ⋯ hs hpl) λσ H Q q=>by
  let⟨F,δ,R,q⟩:=q;unfold sM at q;sleep 1;cases e:f δ with
  |stuck=>rw[e]at q;sleep 4
  |err x δ1=>rw[e]at q;exact q
  |ok d δ1=>
   rw[e]at q;simp![Res.bind]at q;intro v H1 F1 R1 s1;have hb:∀r,gE T d=some r->∃b,r=.bool b:=λr h=>by
    cases T<;>cases d<;>cases h<;>exact⟨_,rfl⟩
   cases e1:gE T d with
   |none=>rw[e1]at q;sleep 4
   |some r=>
    rw[e1]at q;let⟨b,rfl⟩:=hb r e1;exact⟨v,d,b,rfl,R1.rel.sub.rep _ _ R1.rep,e1,q _ H1 F1 (R1.rel.x iS) s1⟩
def HB(xs:ZI)(lo hi:Option Int):ZI:=(xs.drop (HT.sIx xs.length 0 lo)).take (HT.sIx xs.length xs.length hi-HT.sIx xs.length 0 lo)
def aD.cut(r:aD K F ds vs)(lo hi:Option Int):aD K F (HB ds lo hi) (DK vs lo hi):=by
 unfold HB DK;rw[r.len];exact(r.drop _).take _
def kG:Option (M D)->M (Option Int)
 |none=>λδ=>.ok none δ
 |some f=>λδ=>(f δ).bind λd δ1=>match d with
  |.int i=>.ok (some i) δ1
  |_=>.stuck
def kO(X:Cx)(Z:cI)(ow:ZH)(r:Res (Option Int))(F:Hp)(σ:St)(Q:Option Int->Hp->Prop):Prop:=match r with
 |.ok o δ=>∀H' F',bZ X.K Z ow F' H' σ δ->aI F F'->Q o H'
 |.err x δ=>jJ X Z ow F x δ
 |.stuck=>False
def aQI(X:Cx)(Z:cI)(ow:ZH)(f:Option (M D)):TO:=λσ H Q=>∃F δ,bZ X.K Z ow F H σ δ/\kO X Z ow (kG f δ) F σ Q
def DO(X:Cx)(Z:cI)(ow:ZH)(e:Option Expr)(f:Option (M D)):Prop:=PO X e (aQI X Z ow f)
def PO.mono(h:PO X o t)(hm:∀σ H Q,t' σ H Q->t σ H Q):PO X o t':=λÀ s σ H Q I q=>h À s σ H Q I (hm σ H Q q)
def oR:DO X Z ow none none:=PO.mono aBC λσ H Q q=>by
 let⟨F,δ,R,q⟩:=q;exact q H F R 'o'
def jU(h:DE X Z ow 0 e f):DO X Z ow (some e) (some f):=PO.mono (aBD h) λσ H Q q=>by
 let⟨F,δ,R,q⟩:=q;have q:kO X Z ow ((f δ).bind λd δ1=>match d with|.int i=>.ok (some i) δ1|_=>.stuck) F σ Q:=q;sleep 1;cases e:f δ with
 |stuck=>rw[e]at q;sleep 4
 |err x δ1=>rw[e]at q;exact q
 |ok d δ1=>
  rw[e]at q;simp![Res.bind]at q;intro v H1 F1 R1 s1;cases d with
  |int i=>exact⟨i,gL R1.rep,q H1 F1 R1.rel s1⟩
  |_=>sleep 4
def Į(op:D->Option Int->Option Int->ZL)(f:M D)(lo hi:Option (M D)):M D:=λδ=>(f δ).bind λd δ1=>(kG lo δ1).bind λl δ2=>(kG hi δ2).bind λu δ3=>match op d l u with
 |some r=>.ok r δ3
 |none=>.stuck
def œ(X:Cx)(r:V->Option Int->Option Int->Hp->VK->Prop)(n:Nat)(op:D->Option Int->Option Int->ZL):Prop:=∀(Z:cI)(ow:ZH)(F H:Hp)(σ:St)(δ:DS)(a:D)(x:V)(l u:Option Int)(d:D)(Q:VK),aP Z ow->bZ X.K Z ow F H σ δ->bE X.K F a x->op a l u=some d ->
 (∀v H' F',gD X.K Z ow n d v F' H' σ δ->aI F F'->Q v H')->r x l u H Q
def nH{lo hi:Option Expr}(S:aP Z ow)(hr:Ŋ X r)(os:œ X r n op)(he:DE X Z ow 0 e f)(hl:DO X Z ow lo fl)(hu:DO X Z ow hi fh):
  DE X Z ow n (.Subscript e (.Slice lo hi none p2) pos) (Į op f fl fh):=PE.mono (GM hr he hl hu) λσ H Q q=>by
 let⟨F,δ,R,q⟩:=q;unfold Į at q;sleep 1;cases e1:f δ with
 |stuck=>rw[e1]at q;sleep 4
 |err x δ1=>rw[e1]at q;exact q
 |ok d δ1=>
  rw[e1]at q;simp![Res.bind]at q;intro v H1 F1 R1 s1;refine⟨F1,δ1,R1.rel,?_⟩;cases e2:kG fl δ1 with
  |stuck=>rw[e2]at q;sleep 4
  |err x δ2=>rw[e2]at q;exact jJ.mono q s1
  |ok l δ2=>
   rw[e2]at q;dsimp only at q;intro H2 F2 R2 s2;refine⟨F2,δ2,R2,?_⟩;cases e3:kG fh δ2 with
   |stuck=>rw[e3]at q;sleep 4
   |err x δ3=>rw[e3]at q;exact jJ.mono q (s1.trans' s2)
   |ok u δ3=>
    rw[e3]at q;dsimp only at q;intro H3 F3 R3 s3;cases e4:op d l u with
    |none=>rw[e4]at q;sleep 4
    |some r0=>
     rw[e4]at q;exact os Z ow F3 H3 σ δ3 d v l u r0 Q S R3 ((s2.trans' s3).rep _ _ R1.rep) e4 λv' H' F' R' s'=>q v' H' F' R' (s1.trans' (s2.trans' (s3.trans' s')))
def EF:D->Option Int->Option Int->ZL
 |.list ds,l,u=>some (.list (HB ds l u))
 |_,_,_=>none
def EG:œ X (τ X.K) 1 EF:=λZ ow F H σ δ a x l u d Q S R ra e q=>by
 unfold EF at e;split at e
 .cases e
  let⟨p,xs,rfl,hp,hr⟩:=jM ra;exact⟨p,xs,rfl,R.sub.seq hp,λt ht=>q _ _ F (R.newList S ht (hr.cut l u)) 'o'⟩
 .cases e
def Ŕ:D->Option Int->Option Int->ZL
 |.tuple ds,l,u=>if HT.sIx ds.length 0 l=0/\HT.sIx ds.length ds.length u=ds.length then none else some (.tuple (HB ds l u))
 |_,_,_=>none
def VA:œ X (ν X.K) 0 Ŕ:=λZ ow F H σ δ a x l u d Q S R ra e q=>by
 unfold Ŕ at e;split at e
 .split at e
  .cases e
  .rename_i hw
   cases e;let⟨p,xs,rfl,hp,hr⟩:=A1 ra;rw[hr.len]at hw;refine⟨p,xs,rfl,R.sub.seqT hp,hw,λt ht=>?_⟩;have ft:=R.fnone ht;exact q _ _ (aV F t (.tup (DK xs l u))) ((R.laid ht).x (qQ ft (hr.cut l u))) (bW ft _)
 .cases e
def aG(h1:↥(decide (ow.length<=1000)=true))(h2:↥(Z.ps.contains 1000=false)):aP Z ow:=⟨of_decide_eq_true h1,cP h2⟩
end
def ſ(x:Str):It:=⟨λi _=>i<x.cps.size,λi H v H'=>H'=H/\∃c,x.cps[i]?=some c/\v=.str ⟨#[c]⟩,λi _=>i=x.cps.size⟩
def VB{K:ZC}(x:Str)(t:Tok)(it:Addr):GI P w K tg (ſ x) [it] it (λi h=>h.IsStrIter it (strIterType x) x t i):=by
 have hty:strIterType x="str_ascii_iterator"\/strIterType x="str_iterator":=by
  unfold strIterType;split
  .exact .inl rfl
  .exact .inr rfl
 have W:∀A:Around,A.handled=none->Walks P w A it [it] [it] x.cps.size (SignAt x) (λi h=>h.IsStrIter it (strIterType x) x t i):=λA hh=>by
  rcases hty with e|e
  .rw[e];exact Walks.strAscii hh it x t
  .rw[e];exact Walks.strWide hh it x t
 refine⟨by simp,λi h st b hb=>?_,λi h h' st k=>let ⟨o,ho,r⟩:=st;⟨o,k it 'e' o ho,r⟩,?_,?_,λA i s Q E st h=>?_⟩
 .have e:b=it:=by simpa using hb
  subst e;let⟨o,e,c,d⟩:=st;exact⟨o,e,λv z=>by rw[d]at z;cases z⟩
 .intro X hP hw hK hc i À s σ H E I hf st hg
  subst hP hw hK;let⟨f0,f1,f2,f3,f4,f5⟩:=hf it 'e';refine(W X.A (I.ok.hd hc)).item i s _ E hg st λv h' tk hv st' k=>?_;have I1:Inv X À σ H {s with heap:=h',toks:=tk}:=I.turned (t':=tk) (λb o hb e=>k b o (by simpa using hb) e) f0 f1 f3 f4 f5;let⟨c,u,hx,rfl⟩:=hv;let⟨o,e,cl,d⟩:=id st';refine⟨_,rfl,GJ (s:={s with heap:=h',toks:=tk}) e cl d (by rcases hty with e|e<;>rw[e]<;>decide) ⟨.str ⟨#[c]⟩,H,I1,⟨u,rfl⟩,⟨rfl,c,hx,rfl⟩,st',λb hb=>(hf b hb).1⟩⟩
 .intro X hP hw hK hc i À s σ H E I hf st hg
  subst hP hw hK;let⟨f0,f1,f2,f3,f4,f5⟩:=hf it 'e';have hg:i=x.cps.size:=hg;subst hg;exact(W X.A (I.ok.hd hc)).done s _ E st λh' tk k=>⟨rfl,I.turned (t':=tk) (λb o hb e=>k b o (by simpa using hb) e) f0 f1 f3 f4 f5⟩
 .have st:s.heap.IsStrIter it (strIterType x) x t i:=st
  rcases hty with e|e
  .rw[e]at st;exact wpAny_pyIter_striter_ascii st h
  .rw[e]at st;exact wpAny_pyIter_striter_wide st h
section
variable {b:Expr}{F:Hp}{K:ZC}
def aOM(tl:TE):TI:=λσ H R=>tl σ H λx H1=>∃z,x=.str z/\R (ſ z) H1
def aHW(hl:PE X l tl):PI X tg l (aOM tl):=by
 intro À s σ H R I h;refine cA (hl À s σ H _ I h) λv s1 zQ=>?_;let⟨x,H1,I1,r1,q1⟩:=zQ;let⟨z,rfl,q⟩:=q1;let⟨t,rfl⟩:=r1;refine wpAny_pyIter_strU ?_;refine⟨s1.heap.objs.size,[s1.heap.objs.size],_,_,H1,rfl,I1.kept (t':=s1.toks) λb o e=>Heap.get?_push_of_some _ e,VB z t _,⟨_,Heap.get?_push_size _ rfl,rfl,rfl⟩,λb hb=>?_,q⟩;have e:b=s1.heap.objs.size:=by simpa using hb
 subst e;exact I1.fpOk (È _) (I1.hok.fresh (È _))
def mU(z:Str):ZI:=z.cps.toList.map λc=>.str ⟨#[c]⟩
def aBY{z:Str}:TH K F (ſ z) (mU z) where
 go:=λi H s hi=>by
  have:(mU z).length=z.cps.size:=by unfold mU;simp
  rw[this]at hi;exact hi
 yld:=λi H x H' d s y e=>.inl ⟨y.1,by
  let⟨c,hc,rfl⟩:=y.2;unfold mU at e;rw[Ò]at e;have:z.cps.toList[i]?=some c:=by simpa using hc
  rw[this]at e;cases e;exact BY⟩
 stop:=λH s=>by
  show (mU z).length=z.cps.size;unfold mU;simp
def xN(f:M D):M (ZI):=λδ=>(f δ).bind λd δ1=>match d with
 |.str z=>.ok (mU z) δ1
 |_=>.stuck
def aHX(h:DE X Z ow 0 e f):DI X Z ow tg e (xN f):=(aHW h).mono λσ H R q=>by
 let⟨F,δ,Rl,q⟩:=q;unfold xN at q;refine⟨F,δ,Rl,?_⟩;cases e1:f δ with
 |stuck=>rw[e1]at q;sleep 4
 |err x δ1=>rw[e1]at q;exact q
 |ok d δ1=>
  rw[e1]at q;simp![Res.bind]at q;intro v H1 F1 R1 s1;cases d with
  |str z=>exact⟨z,iG R1.rep,q _ H1 F1 R1.rel s1 aBY⟩
  |_=>sleep 4
def B2:kC X (compareOp .LtE) (λx y H Q=>∃i j,x=.str i/\y=.str j/\Q (.bl (!decide (j.cps.toList<i.cps.toList))) H):=by
 intro À s σ H x y v u Q I rx ry h;let⟨i,j,rfl,rfl,q⟩:=h;let⟨t,rfl⟩:=rx;let⟨t',rfl⟩:=ry;exact PySem.P.le_str ⟨.bl _,H,I,rfl,q⟩
def Ħ:D->D->ZL
 |.str i,.str j=>some (.bool (!decide (j.cps.toList<i.cps.toList)))
 |_,_=>none
def VC:oP X (λx y H Q=>∃i j,x=.str i/\y=.str j/\Q (.bl (!decide (j.cps.toList<i.cps.toList))) H) 0 Ħ:=λZ ow F H σ δ a b x y d Q S R ra rb e q=>by
 unfold Ħ at e;split at e
 .cases e;exact⟨_,_,iG ra,iG rb,q _ H F (R.x iS) 'o'⟩
 .cases e
def bI.bl_at:∀{bs:List Bool}{us:ZJ}{i:Nat}{u:Value},bI (bs.map V.bl) us->us[i]?=some u->∃b,bs[i]?=some b/\u=.bool b
 |[],us,i,u,r,e=>by cases r;simp at e
 |b::bs,_,0,u,.cons r _,e=>by cases e;exact⟨b,rfl,r⟩
 |b::bs,_,i+1,u,.cons _ r,e=>by
  let⟨b',e1,e2⟩:=bI.bl_at (i:=i) r (by simpa using e);exact⟨b',e1,e2⟩
def QT{bs:List Bool}:(List.range bs.length).all (λi=>bs.getD i true)=bs.all id:=by
 rw[Bool.eq_iff_iff,í,í];constructor
 .intro h b hb
  let⟨i,hi,e⟩:=List.mem_iff_getElem.mp hb;have:=h i (List.mem_range.mpr hi);rw[Ë,Ê hi]at this;rw[<- e];exact this
 .intro h i hi
  have hi:=List.mem_range.mp hi;rw[Ë,Ê hi];exact h _ (ý hi)
def HC(hc:X.calm=true):gZ X (.builtin "all") (λxs H Q=>∃(p:Addr)(bs:List Bool),xs=[.ref p]/\d8 X.K H p (bs.map V.bl)/\Q (.bl (bs.all id)) H):=by
 intro À s σ H xs us Q I r h;let⟨p,bs,rfl,hq,q⟩:=h;let⟨u,rfl,rx⟩:=pV r;cases rx;let⟨its,rv,pl,hz⟩:=I.list hq;refine call_all_walk (wpAny_pyIter_list pl.isList ?_);have hlen:=rv.length;rw[Å]at hlen;have hne:p≠s.heap.objs.size:=by
  let⟨o,n,e,_⟩:=pl;exact Ð (Heap.lt_size e)
 have ph:Inv X À σ H {s with heap:=s.heap.push {cls:=.type "list_iterator",data:=.fields #[.ref p,.int 0 0]}}:=I.kept (t':=s.toks) λb o e=>Heap.get?_push_of_some _ e;let⟨its',rv',pl',_⟩:=ph.list hq;have e1:its=its':=by
  let⟨o,n,e,c,dn,d⟩:=pl;let⟨o',n',e',c',dn',d'⟩:=pl';have e'':=Heap.get?_push_of_some {cls:=.type "list_iterator",data:=.fields #[.ref p,.int 0 0]} e;rw[e'']at e';cases e';rw[d]at d';injection d' with d1 _;simpa using congrArg Array.toList d1
 subst e1;refine⟨s.heap.objs.size,_,_,_,_,_,λi=>bs.getD i true,rfl,Walks.list (A:=X.A.in1) (show X.A.in1.handled=none from I.ok.hd hc) s.heap.objs.size p hne its.toArray,⟨⟨_,Heap.get?_push_size _ rfl,rfl,rfl⟩,pl'.isList⟩,λi v s' Q' E' hv hQ=>?_,λh' tk k=>?_⟩
 .have hv:its.toArray[i]?=some v:=hv
  let⟨b,hb,rfl⟩:=bI.bl_at (i:=i) rv (by simpa using hv);have hQ:Q' (bs.getD i true) s':=hQ;rw[Ë,hb]at hQ;exact wpAny_truthy_bool hQ
 .have sz:its.toArray.size=bs.length:=by simp;exact Eq.symm ‹_›
  rw[sz,QT];have I2:=ph.turned (it:=s.heap.objs.size) (h':=h') (t':=tk) (λb o hb e=>k b o (by simpa using hb) e) (I.hok.fresh (È _)) (Þ I.lt) (.inr I.sz) (λx c e=>by
   let⟨v,q⟩:=I.cell x c e;exact Ð q.lt) λp hp=>Ð (Heap.lt_size (I.pin p hp).1)
  exact⟨.bl _,H,I2,rfl,q⟩
def sQ:ZI->Option (List Bool)
 |[]=>some []
 |.bool b::r=>(sQ r).map (b::·)
 |_=>none
def B3:∀{ds:ZI}{bs:List Bool}{vs:List V},sQ ds=some bs->aD K F ds vs->vs=bs.map V.bl
 |[],bs,vs,h,r=>by
  cases h;unfold aD at r;rw[r];rfl
 |d::ds,bs,vs,h,r=>by
  unfold aD at r;let⟨x,rest,rfl,rx,r⟩:=r;cases d with
  |bool b=>
   have h:(sQ ds).map (b::·)=some bs:=h;cases e:sQ ds with
   |none=>rw[e]at h;cases h
   |some bs'=>
    rw[e]at h;cases h;rw[jS rx,B3 e r];rfl
  |_=>cases h
def Α:ZI->ZL
 |[.list ds]=>(sQ ds).map λbs=>.bool (bs.all id)
 |_=>none
def aH0:ğ X (λxs H Q=>∃(p:Addr)(bs:List Bool),xs=[.ref p]/\d8 X.K H p (bs.map V.bl)/\Q (.bl (bs.all id)) H) 0 Α:=λZ ow F H σ δ ds vs d Q S R ra e q=>by
 unfold Α at e;split at e
 .rename_i ds'
  cases e1:sQ ds' with
  |none=>rw[e1]at e;cases e
  |some bs=>
   rw[e1]at e;cases e;let⟨v,rfl,r⟩:=A5 ra;let⟨p,xs,rfl,hp,hr⟩:=jM r;rw[B3 e1 hr]at hp;exact⟨p,bs,rfl,R.sub.seq hp,q _ H F (R.x iS) 'o'⟩
 .cases e
def oU(hg:Gl X x)(hm:∃t,X.mg x=some (.int i t))(hd:⇑(Zdb x)):DE X Z ow 0 (.Name x pos) (dC (.int i)):=by
 let⟨t,hm⟩:=hm;exact nB (aAX hg hm (v:=.int i) ⟨t,rfl⟩ hd) λF=>gJ
end
theorem QU{K:ZC}(z:A0 P w K outer H s (λ_ _ _=>False) e s'):False:=by
 let⟨_,_,_,_,_,_,_,_,_,_,_,_,_,q⟩:=z;exact q
end L2
namespace L2
open PySem PySem.Spec
def EH{C:Int->Int->Prop}{g:Int->Int->D}{i j:Int}(h:C i j):iD C g (.int i) (.int j)=some (g i j):=by
 unfold iD;exact Â h
def HD(h:0<j):D9 (.int i) (.int j)=some (.int (i % j)):=by
 rw[D9,EH (by show j≠0;exact Int.ne_of_gt ‹_›),Int.fmod_eq_emod_of_nonneg i (by exact ö ‹_›)]
def QV(h:0<j)(h2:j.natAbs.log2<9000):G8 (.int i) (.int j)=some (.int (i/j)):=by
 rw[G8,EH ⟨by exact Int.ne_of_gt ‹_›,h2⟩,Int.fdiv_eq_ediv_of_nonneg i (by exact ö ‹_›)]
def aBZ(h:IntMulOk i j):QQ (.int i) (.int j)=some (.int (i*j)):=by rw[QQ,EH h]
def NL(h:Ň i j):U3 (.int i) (.int j)=some (.int (i^j.toNat)):=by rw[U3,EH h]
def aB0:TF (.int i) (.int j)=some (.bool (i == j)):=rfl
def NM:EB (.int i) (.int j)=some (.bool (!(i == j))):=rfl
def VD:EB (.bool i) (.bool j)=some (.bool (!(i == j))):=rfl
def xO{e:M D}{g:D->D}{δ:DS}:∀{ds acc:ZI}{o:ZL},(∀d∈ds,e (some d::δ)=.ok (g d) (some d::δ))->acc.length+ds.length<=sizeLine->∃o',bP (setN 0) eE e ds acc (o::δ)=.ok (acc++ds.map g) (o'::δ)
 |[],acc,o,_,_=>⟨o,by simp[bP]⟩
 |d::ds,acc,o,h,hl=>by
  have hd:=h d Ô;rw[Û]at hl;let⟨o',ih⟩:=xO (ds:=ds) (acc:=acc++[g d]) (o:=some d) (λx hx=>h x (Ó _ hx)) (by simp;lia);refine⟨o',?_⟩;unfold bP;have e1:setN 0 d (o::δ)=some (some d::δ):=by simp[setN]
  rw[e1];show Res.bind (eE (some d::δ)) _=_;simp![eE,Res.bind,if_true,hd];rw[Â ∅,ih];simp
def B4{f:M (ZI)}{e:M D}{g:D->D}{δ δ1:DS}{ds:ZI}(hf:f δ=.ok ds δ1)(he:∀d∈ds,e (some d::δ1)=.ok (g d) (some d::δ1))(hl:ds.length<=sizeLine):eD 1 (setN 0) f eE e δ=.ok (.list (ds.map g)) δ1:=by
 unfold eD;rw[hf];let⟨o',h⟩:=xO (acc:=[]) (o:=none) he (by simpa using hl);simp![Res.bind];rw[show List.replicate 1 (none:ZL)++δ1=none::δ1 from rfl,h];simp
def aKA{set:D->DS->Option DS}{u:M Fl}(I:Nat->ZO){ds:ZI}(hs:∀(k:Nat)(d:D)(δ:DS),ds[k]?=some d->I k δ->∃δ1 δ2,set d δ=some δ1/\(u δ1=.ok .next δ2\/u δ1=.ok .cont δ2)/\I (k+1) δ2)(h0:I 0 δ):
  ∃δ',gG set u ds δ=.ok .next δ'/\I ds.length δ':=by
 have main:∀(n k:Nat)(δ:DS),k+n=ds.length->I k δ->∃δ',gG set u (ds.drop k) δ=.ok .next δ'/\I ds.length δ':=by
  intro n
  induction n with
  |zero=>
   intro k δ hk h;have:k=ds.length:=by assumption
   subst this;rw[List.drop_length];exact⟨δ,rfl,h⟩
  |succ n ih=>
   intro k δ hk h;have hlt:k<ds.length:=by lia
   let⟨δ1,δ2,e1,e2,h2⟩:=hs k ds[k] δ (Ê hlt) h;let⟨δ',e3,h3⟩:=ih (k+1) δ2 ∅ h2;refine⟨δ',?_,h3⟩;rw[ñ hlt];unfold gG;rw[e1];rcases e2 with e2|e2
   .simp![e2,Res.bind];exact e3
   .simp![e2,Res.bind];exact e3
 have:=main ds.length 0 δ (by exact Nat.add_comm _ _) h0
 rwa [List.drop_zero]at this
def NO{u v:M Fl}{δ δ1:DS}(h:u δ=.ok .next δ1):eK u v δ=v δ1:=by unfold eK;rw[h];rfl
def VE{u v:M Fl}{δ δ1:DS}{d:D}(h:u δ=.ok (.ret d) δ1):eK u v δ=.ok (.ret d) δ1:=by unfold eK;rw[h];rfl
def HE{n k:Nat}{d:D}(h:(jL lo n)[k]?=some d):k<n/\d=.int (lo+(k:Int)):=by
 have hk:k<n:=by have:=(Î.mp h).1;rwa [fW]at this
 rw[D2 hk]at h;cases h;exact⟨hk,rfl⟩
def VF(h:z.length=n)(hn:n<=sizeLine):lZ [.str z]=some (.int n):=by
 show (if z.length<=sizeLine then some (PyData.int z.length)else none)=_;rw[Â (by rw[h];exact hn),h]
def aW{k:α->DS->Res β}:(Res.ok a δ).bind k=k a δ:=rfl
def xP{op:D->D->ZL}{f g:M D}{δ δ1 δ2:DS}{a b c:D}(hf:f δ=.ok a δ1)(hg:g δ1=.ok b δ2)(ho:op a b=some c):iF op f g δ=.ok c δ2:=by
 unfold iF;rw[hf,aW,hg,aW,ho]
def EI{op:ZI->ZL}{f:M D}{δ δ1:DS}{a c:D}(hf:f δ=.ok a δ1)(ho:op [a]=some c):KC op [f] δ=.ok c δ1:=by
 unfold KC;rw[show bB [f] δ=.ok [a] δ1 by simp![bB,hf,aW],aW,ho]
def aH1{op:D->ZL}{f:M D}{δ δ1:DS}{a c:D}(hf:f δ=.ok a δ1)(ho:op a=some c):sM op f δ=.ok c δ1:=by
 unfold sM;rw[hf,aW,ho]
def NP{f:M D}{δ δ1:DS}{b:Bool}(hf:f δ=.ok (.bool b) δ1):dB f δ=.ok b δ1:=by
 unfold dB;rw[hf,aW]
def NQ{f:M D}{δ δ1:DS}{d:D}(hf:f δ=.ok d δ1):pL f δ=.ok (.ret d) δ1:=by
 unfold pL;rw[hf,aW]
def aH2{c:M Bool}{u v:M Fl}{δ δ1:DS}(h:c δ=.ok true δ1):qR c u v δ=u δ1:=by unfold qR;rw[h,aW,Â rfl]
def VG{c:M Bool}{u v:M Fl}{δ δ1:DS}(h:c δ=.ok false δ1):qR c u v δ=v δ1:=by unfold qR;rw[h,aW,Ã á]
def aB1{f g:M D}{δ δ1:DS}(h:f δ=.ok 'j' δ1):mT f g δ=g δ1:=by unfold mT;rw[h,aW];exact Â rfl
def aB2{f g:M D}{δ δ1:DS}(h:f δ=.ok (.bool false) δ1):mT f g δ=.ok (.bool false) δ1:=by unfold mT;rw[h,aW];exact Ã á
def VH{f:M Bool}{δ δ1:DS}{b:Bool}(h:f δ=.ok b δ1):p6 f δ=.ok (!b) δ1:=by unfold p6;rw[h,aW]
def eY{i:Nat}{δ:DS}{d:D}(h:δ[i]?=some (some d)):bF i δ=.ok d δ:=by unfold bF;rw[h]
def v2:dC d δ=.ok d δ:=rfl
def VI(N B C:ZO)(R:D->ZO):Fl->ZO
 |.next,δ=>N δ
 |.brk,δ=>B δ
 |.cont,δ=>C δ
 |.ret d,δ=>R d δ
structure Wt{α:Type}(a:α):Type where
def bN(m:M Fl)(δ:DS)(N:ZO)(B C:ZO)(R:D->ZO)(_w:Wt (N,B,C,R):=⟨⟩):Prop:=match m δ with
 |.ok .next δ'=>N δ'
 |.ok .brk δ'=>B δ'
 |.ok .cont δ'=>C δ'
 |.ok (.ret d) δ'=>R d δ'
 |_=>False
def aU{α:Type}(f:M α)(δ:DS)(Q:α->ZO)(_w:Wt Q:=⟨⟩):Prop:=match f δ with
 |.ok a δ'=>Q a δ'
 |_=>False
section
variable {u:M Fl}{f k:M D}{δ δ1:DS}{N B C:ZO}{R:D->ZO}
def aU.of{f:M α}{a:α}{Q:α->ZO}(h:f δ=.ok a δ1)(q:Q a δ1):aU f δ Q:=by unfold aU;rw[h];exact q
def aU.ex{f:M α}{Q:α->ZO}(h:aU f δ Q):∃a δ1,f δ=.ok a δ1/\Q a δ1:=by
 unfold aU at h;cases e:f δ with
 |ok a δ1=>rw[e]at h;exact⟨a,δ1,rfl,h⟩
 |err x δ1=>sleep 5
 |stuck=>sleep 5
def bN.of{fl:Fl}(h:m δ=.ok fl δ1)(q:VI N B C R fl δ1):bN m δ N B C R:=by
 unfold bN;rw[h];cases fl<;>exact q
def bN.ex(h:bN m δ N B C R):∃fl δ1,m δ=.ok fl δ1/\VI N B C R fl δ1:=by
 unfold bN at h;cases e:m δ with
 |ok fl δ1=>rw[e]at h;exact⟨fl,δ1,rfl,by cases fl<;>exact h⟩
 |err x δ1=>sleep 5
 |stuck=>sleep 5
def VJ(h:bN u δ (λδ1=>bN v δ1 N B C R) B C R):bN (eK u v) δ N B C R:=by
 let⟨fl,δ1,e,q⟩:=h.ex;cases fl with
 |next=>
  let⟨fl,δ2,e2,q⟩:=bN.ex q;exact .of ((NO e).trans e2) q
 |brk=>exact .of (fl:=.brk) (by unfold eK;rw[e];rfl) q
 |cont=>exact .of (fl:=.cont) (by unfold eK;rw[e];rfl) q
 |ret d=>exact .of (fl:=.ret d) (VE e) q
def aH3(h:aU f δ R):bN (pL f) δ N B C R:=by
 let⟨d,δ1,e,q⟩:=h.ex;exact .of (fl:=.ret d) (NQ e) q
def aLI(h:aU c δ λb δ1=>if b=true then bN u δ1 N B C R else bN v δ1 N B C R):bN (qR c u v) δ N B C R:=by
 let⟨b,δ1,e,q⟩:=h.ex;cases b with
 |true=>
  rw[Â rfl]at q;let⟨fl,δ2,e2,q⟩:=q.ex;exact .of ((aH2 e).trans e2) q
 |false=>
  rw[Ã á]at q;let⟨fl,δ2,e2,q⟩:=q.ex;exact .of ((VG e).trans e2) q
def aB3{set:D->DS->Option DS}(I:Nat->ZO){ds:ZI}(hs:∀(k:Nat)(d:D)(δ:DS),ds[k]?=some d->I k δ->∃δ1,set d δ=some δ1/\bN u δ1 (I (k+1)) N (I (k+1)) R)(hN:∀δ,I ds.length δ->N δ)(h0:I 0 δ):bN (gG set u ds) δ N B C R:=by
 have main:∀(n k:Nat)(δ:DS),k+n=ds.length->I k δ->bN (gG set u (ds.drop k)) δ N B C R:=by
  intro n
  induction n with
  |zero=>
   intro k δ hk h;have:k=ds.length:=by assumption
   subst this;rw[List.drop_length];exact .of (fl:=.next) rfl (hN δ h)
  |succ n ih=>
   intro k δ hk h;have hlt:k<ds.length:=by lia
   let⟨δ1,e1,w⟩:=hs k ds[k] δ (Ê hlt) h;let⟨fl,δ2,e2,q⟩:=w.ex;rw[ñ hlt];cases fl with
   |next=>
    let⟨fl,δ3,e3,q⟩:=(ih (k+1) δ2 ∅ q).ex;exact .of (by unfold gG;rw[e1];simp![e2,aW];exact e3) q
   |cont=>
    let⟨fl,δ3,e3,q⟩:=(ih (k+1) δ2 ∅ q).ex;exact .of (by unfold gG;rw[e1];simp![e2,aW];exact e3) q
   |brk=>exact .of (fl:=.next) (by unfold gG;rw[e1];simp![e2,aW]) q
   |ret d=>exact .of (fl:=.ret d) (by unfold gG;rw[e1];simp![e2,aW]) q
 have:=main ds.length 0 δ (by exact Nat.add_comm _ _) h0
 rwa [List.drop_zero]at this
def cN{set:D->DS->Option DS}{f:M (ZI)}(I:Nat->ZO){ds:ZI}(hf:f δ=.ok ds δ1)(h0:I 0 δ1)(hs:∀(k:Nat)(d:D)(δ:DS),ds[k]?=some d->I k δ->∃δ1,set d δ=some δ1/\bN u δ1 (I (k+1)) N (I (k+1)) R)(hN:∀δ,I ds.length δ->N δ):bN (nF set f u) δ N B C R:=by
 let⟨fl,δ2,e,q⟩:=(aB3 (B:=B) (C:=C) I hs hN h0).ex;exact .of (by unfold nF;rw[hf,aW];exact e) q
def VL{set:D->DS->Option DS}{j:Int}(I:Nat->ZO)(hf:f δ=.ok (.int j) δ1)(hj:-(2^62)<=j)(hj2:j<2^62)(h0:I 0 δ1)(hs:∀(k:Nat)(δ:DS),(k:Int)<j->I k δ->∃δ1,set (.int k) δ=some δ1/\bN u δ1 (I (k+1)) N (I (k+1)) R)(hN:∀δ,I j.toNat δ->N δ):bN (nF set (pM [f]) u) δ N B C R:=by
 refine cN (ds:=jL 0 j.toNat) (δ1:=δ1) I ?_ h0 (λk d δ hd hI=>?_) (λδ h=>hN δ (by rwa [fW]at h))
 .simp![pM,bB,hf,aW,kY]
  rw[Â ⟨hj,hj2⟩]
 .obtain⟨hk,rfl⟩:=HE hd
  rw[Int.zero_add];exact hs k δ ∅ hI
def aQ{os:ZI}(h:bN body (ds.map some++List.replicate (m0-ds.length) none) (λ_=>False) (λ_=>False) (λ_=>False) λr δ=>r=d/\fX δ ps=some os):aR m0 ps rm body ds=.ok d (os.map some):=by
 let⟨fl,δ1,e,q⟩:=h.ex;cases fl with
 |ret r=>
  let⟨rfl,ho⟩:=q;unfold aR;rw[e];dsimp only;rw[ho]
 |next=>sleep 4
 |brk=>sleep 4
 |cont=>sleep 4
end
end L2
namespace L2
open PySem PySem.Spec PyProof.Rows
section
variable {X:Cx}{Z:cI}{ow:ZH}{k:M D}{F H:Hp}{σ:St}{δ:DS}{K:ZC}
def aH4:M Fl:=λ_=>.stuck
def fZ{st:Stmt}:DZ X Z ow ow' ol ox rm st aH4:=PS.mono TX λDn σ H h=>by
 let⟨F,δ,R,h⟩:=h;exact h.elim
def Β(set:D->DS->Option DS)(f:M D):M Fl:=λδ=>(f δ).bind λd δ1=>match set d δ1 with
 |some δ2=>.ok .next δ2
 |none=>.stuck
def bI.int_at:∀{ns:ZK}{us:ZJ}{i:Nat}{u:Value},bI (ns.map V.int) us->us[i]?=some u->∃m t,ns[i]?=some m/\u=.int m t
 |[],_,i,u,.nil,h=>by simp at h
 |m::ns,_,0,u,.cons r rr,h=>by
  let⟨t,rfl⟩:=r;cases h;exact⟨m,t,rfl,rfl⟩
 |m::ns,_,i+1,u,.cons r rr,h=>by
  let⟨m',t,h1,h2⟩:=bI.int_at (i:=i) rr (by simpa using h);exact⟨m',t,by simpa using h1,h2⟩
def v3{ns:ZK}:∀{j:Nat},j<=ns.length->preSum (λi=>ns.getD i 0) j=(ns.take j).sum
 |0,_=>rfl
 |j+1,h=>by
  show preSum (λi=>ns.getD i 0) j+ns.getD j 0=_;have e1:ns.getD j 0=ns[j]:=by rw[Ë,Ê (by assumption)];rfl
  have e2:ns.take (j+1)=ns.take j++[ns[j]]:=by rw[List.take_add_one,Ê (by assumption)];rfl
  rw[v3 (Nat.le_of_succ_le h),e1,e2,List.sum_append];simp![List.sum_cons,List.sum_nil,Int.add_zero]
def EJ(hc:X.calm=true):gZ X (.builtin "sum") (λxs H Q=>∃(p:Addr)(ns:ZK),xs=[.ref p]/\d8 X.K H p (ns.map V.int)/\Q (.int ns.sum) H):=by
 intro À s σ H xs us Q I r h;let⟨p,ns,rfl,hq,q⟩:=h;let⟨u,rfl,rx⟩:=pV r;cases rx;let⟨its,rv,pl,hz⟩:=I.list hq;refine call_sum_walkAnyS (wpAny_pyIter_list pl.isList ?_);have hlen:=rv.length;rw[Å]at hlen;have hne:p≠s.heap.objs.size:=by
  let⟨o,n,e,_⟩:=pl;exact Ð (Heap.lt_size e)
 have ph:Inv X À σ H {s with heap:=s.heap.push {cls:=.type "list_iterator",data:=.fields #[.ref p,.int 0 0]}}:=I.kept (t':=s.toks) λb o e=>Heap.get?_push_of_some _ e;let⟨its',rv',pl',_⟩:=ph.list hq;have e1:its=its':=by
  let⟨o,n,e,c,dn,d⟩:=pl;let⟨o',n',e',c',dn',d'⟩:=pl';have e'':=Heap.get?_push_of_some {cls:=.type "list_iterator",data:=.fields #[.ref p,.int 0 0]} e;rw[e'']at e';cases e';rw[d]at d';injection d' with d1 _;simpa using congrArg Array.toList d1
 subst e1;refine⟨s.heap.objs.size,_,_,_,_,_,_,λi=>ns.getD i 0,rfl,(Walks.list (A:=X.A.in1) (show X.A.in1.handled=none from I.ok.hd hc) s.heap.objs.size p hne its.toArray).toS,⟨⟨_,Heap.get?_push_size _ rfl,rfl,rfl⟩,pl'.isList⟩,λb hb=>?_,λi v hv=>?_,λs' t' mv=>?_⟩
 .have hb:b∈[s.heap.objs.size,p]:=hb
  have z:(s.heap.push {cls:=.type "list_iterator",data:=.fields #[.ref p,.int 0 0]}).objs.size=s.heap.objs.size+1:=by simp[Heap.push]
  show b<(s.heap.push _).objs.size;rw[z];simp![Õ,ë,or_false]at hb;rcases hb with rfl|rfl
  .exact ð _
  .obtain⟨o,n,e,_⟩:=pl
   exact Nat.lt_succ_of_lt (Heap.lt_size e)
 .have hv:its.toArray[i]?=some v:=hv
  let⟨m,t,hb,rfl⟩:=bI.int_at (i:=i) rv (by simpa using hv);refine⟨t,?_⟩;show _=Value.int (ns.getD i 0) t;rw[Ë,hb];rfl
 .have sz:its.toArray.size=ns.length:=by simp;exact Eq.symm ‹_›
  rw[sz,v3 (È _),List.take_length];let⟨h',g',d',t2,o'⟩:=s';obtain rfl:g'=s.gens:=mv.gens;obtain rfl:d'=s.drawn:=mv.drawn;obtain rfl:o'=s.os:=mv.os;have I2:=ph.turned (it:=s.heap.objs.size) (h':=h') (t':=t2) (λb o hb e=>mv.heap b o (by simpa using hb) e) (I.hok.fresh (È _)) (Þ I.lt) (.inr I.sz) (λx c e=>by
   let⟨v,q⟩:=I.cell x c e;exact Ð q.lt) λp hp=>Ð (Heap.lt_size (I.pin p hp).1)
  exact⟨.int _,H,I2,⟨t',rfl⟩,q⟩
def cQ:ZI->Option (ZK)
 |[]=>some []
 |.int i::r=>(cQ r).map (i::·)
 |_=>none
def i7:cQ (l.map .int)=some l:=by
 induction l with
 |nil=>rfl
 |cons a l ih=>show (cQ (l.map .int)).map (a::·)=_;rw[ih];rfl
def i8:∀{ds:ZI}{bs:ZK}{vs:List V},cQ ds=some bs->aD K F ds vs->vs=bs.map V.int
 |[],bs,vs,h,r=>by
  cases h;unfold aD at r;rw[r];rfl
 |d::ds,bs,vs,h,r=>by
  unfold aD at r;let⟨x,rest,rfl,rx,r⟩:=r;cases d with
  |int b=>
   have h:(cQ ds).map (b::·)=some bs:=h;cases e:cQ ds with
   |none=>rw[e]at h;cases h
   |some bs'=>
    rw[e]at h;cases h;rw[gL rx,i8 e r];rfl
  |_=>cases h
def ŕ:ZI->ZL
 |[.list ds]=>(cQ ds).map λbs=>.int bs.sum
 |_=>none
def aH6:ğ X (λxs H Q=>∃(p:Addr)(ns:ZK),xs=[.ref p]/\d8 X.K H p (ns.map V.int)/\Q (.int ns.sum) H) 0 ŕ:=λZ ow F H σ δ ds vs d Q S R ra e q=>by
 unfold ŕ at e;split at e
 .rename_i ds'
  cases e1:cQ ds' with
  |none=>rw[e1]at e;cases e
  |some bs=>
   rw[e1]at e;cases e;let⟨v,rfl,r⟩:=A5 ra;let⟨p,xs,rfl,hp,hr⟩:=jM r;rw[i8 e1 hr]at hp;exact⟨p,bs,rfl,R.sub.seq hp,q _ H F (R.x gJ) 'o'⟩
 .cases e
def LI:D->Option V
 |.int i=>some (.int i)
 |.bool b=>some (.bl b)
 |.str z=>some (.str z)
 |.none=>some .non
 |_=>none
def LJ:ZI->Option (List V)
 |[]=>some []
 |d::ds=>match LI d,LJ ds with
  |some v,some vs=>some (v::vs)
  |_,_=>none
def wH(h:LI d=some v)(r:bE K F d x):x=v/\pX v=true:=by
 cases d with
 |int i=>cases h;exact⟨gL r,rfl⟩
 |bool b=>cases h;exact⟨jS r,rfl⟩
 |str z=>cases h;exact⟨iG r,rfl⟩
 |none=>cases h;unfold bE at r;exact⟨r,rfl⟩
 |_=>cases h
def xQ:∀{ds:ZI}{vs xs:List V},LJ ds=some vs->aD K F ds xs->xs=vs/\vs.all pX=true
 |[],vs,xs,h,r=>by
  cases h;unfold aD at r;exact⟨r,rfl⟩
 |d::ds,vs,xs,h,r=>by
  unfold aD at r;let⟨x,rest,rfl,rx,r⟩:=r;unfold LJ at h;split at h
  .rename_i v vs' e1 e2
   cases h;let⟨rfl,f1⟩:=wH e1 rx;let⟨rfl,f2⟩:=xQ e2 r;exact⟨rfl,by rw[List.all_cons,f1,f2];rfl⟩
  .cases h
def ħ(neg:Bool):D->D->ZL
 |a,.list ds=>match LI a,LJ ds with
  |some x,some xs=>some (.bool (if neg then !Ğ x xs else Ğ x xs))
  |_,_=>none
 |a,.tuple ds=>match LI a,LJ ds with
  |some x,some xs=>some (.bool (if neg then !Ğ x xs else Ğ x xs))
  |_,_=>none
 |_,_=>none
def aH8:oP X (υ X.K neg) 0 (ħ neg):=λZ ow F H σ δ a b x y d Q S R ra rb e q=>by
 unfold ħ at e;split at e
 .split at e
  .rename_i v vs e1 e2
   cases e;let⟨p,xs,rfl,hp,hr⟩:=jM rb;let⟨rfl,f1⟩:=wH e1 ra;let⟨rfl,f2⟩:=xQ e2 hr;exact⟨p,_,rfl,.inl (R.sub.seq hp),f1,f2,q _ H F (R.x iS) 'o'⟩
  .cases e
 .split at e
  .rename_i v vs e1 e2
   cases e;let⟨p,xs,rfl,hp,hr⟩:=A1 rb;let⟨rfl,f1⟩:=wH e1 ra;let⟨rfl,f2⟩:=xQ e2 hr;exact⟨p,_,rfl,.inr (R.sub.seqT hp),f1,f2,q _ H F (R.x iS) 'o'⟩
  .cases e
 .cases e
def xR{k:Nat}(S:aP Z ow):∀(is:ZH)(t:TY),(∀i∈is,i<k/\i∉Z.ps/\i<ow.length/\ow.getD i 0=0)->t=is.foldr (λi u=>GH (kU i) u) TZ ->
  ∀(F H:Hp)(σ:St)(δ δ':DS)(ds:ZI)(vs:List V)(Q:St->Hp->Prop),bZ X.K Z ow F H σ δ->aD X.K F ds vs->ds.length=is.length ->
   (is.zip ds).foldl (λ(o:Option DS)(p:Nat×D)=>o.bind λδ=>setN p.1 p.2 δ) (some δ)=some δ'->(∀σ',bZ X.K Z ow F H σ' δ'->σ'.length=σ.length->δ'.length=δ.length->(∀i,σ'[i+k]?=σ[i+k]?)->Q σ' H)->t vs σ H Q
 |[],t,hi,ht,F,H,σ,δ,δ',ds,vs,Q,R,ra,hl,e,q=>by
  subst ht;cases ds with
  |cons _ _=>simp at hl
  |nil=>
   unfold aD at ra;cases e;exact⟨ra,q σ R rfl rfl λ_=>rfl⟩
 |i::is,t,hi,ht,F,H,σ,δ,δ',ds,vs,Q,R,ra,hl,e,q=>by
  subst ht;cases ds with
  |nil=>simp at hl
  |cons d ds=>
   unfold aD at ra;let⟨x,rest,rfl,rx,r⟩:=ra;rw[ä,List.foldl_cons]at e;cases e1:setN i d δ with
   |none=>
    rw[show ((some δ:Option DS).bind λδ=>setN (i,d).1 (i,d).2 δ)=none from e1]at e;have:∀l:List (Nat×D),l.foldl (λ(o:Option DS)(p:Nat×D)=>o.bind λδ=>setN p.1 p.2 δ) none=none:=λl=>by induction l with|nil=>rfl|cons a l ih=>exact ih
    rw[this]at e;cases e
   |some δ1=>
    rw[show ((some δ:Option DS).bind λδ=>setN (i,d).1 (i,d).2 δ)=some δ1 from e1]at e;let⟨h0,h1,h2,h3⟩:=hi i Ô;refine⟨x,rest,rfl,nG S h0 h1 h2 h3 F H σ δ δ1 d x _ R rx e1 λσ' R' l1 l2 l3=>?_⟩;exact xR S is _ (λj hj=>hi j (Ó _ hj)) rfl F H σ' δ1 δ' ds rest Q R' r (by simpa using hl) e λσ2 R2 m1 m2 m3=>q σ2 R2 (m1.trans l1) (m2.trans l2) λj=>(m3 j).trans (l3 j)
def sR{k:Nat}(S:aP Z ow)(hi:∀i∈is,i<k/\i∉Z.ps/\i<ow.length/\ow.getD i 0=0)(ht:t=is.foldr (λi u=>GH (kU i) u) TZ):ĕ X Z ow k (Ů X.K is.length t) (uP is):=λF H σ δ δ' d v Q R r e q=>by
 unfold uP at e;cases d with
 |tuple ds=>
  dsimp only at e;split at e
  .rename_i hl
   unfold bE at r;let⟨a,xs,rfl,hq,ra⟩:=r;exact⟨a,xs,rfl,R.sub.seqT hq,by rw[<- ra.len];exact hl,xR S is t hi ht F H σ δ δ' ds xs Q R ra hl e q⟩
  .cases e
 |_=>cases e
end
section
def aQJ:ZI->ZI->Option (D×ZI)
 |ds,[.int i,d]=>if 0<=i/\i<2^62/\ds.length<sizeLine then some (.none,ds.take i.toNat++[d]++ds.drop i.toNat)else none
 |_,_=>none
def EK(l:Addr)(items:Array Value)(n:Nat)(b:Addr)(fO:Array Value)(n2:Nat)(sl2:Array (ZN))(hc0:¬(!items.isEmpty && Builtin.List.listTooLong (items.size+fO.size))=true)(hc1:items.size<=sizeLine)(hs2:items.size+fO.size<=sizeLine+1):
  Meets (Builtin.«list.extend» ⟨[.ref l,.ref b],[]⟩) (λ_ R s=>s.heap.get? l=some {cls:=.type "list",dict:=none,data:=.seq items n,slots:=#[]}/\s.heap.get? b=some ⟨.type "list",none,.seq fO n2,sl2⟩/\R (.ok (.ret Value.none)) {s with heap:=s.heap.update l (Obj.mapSeq λx=>x++fO),toks:=s.toks}):=
 .of_wp λprog w A R s h=>by
  let⟨hp,g,d,tk,os⟩:=s;let⟨hl,hb,h⟩:=h;have f1:=PySem.AutoSeq1.idx_int;have f2:=PySem.AutoSeq1.sub_tuple_tuple;have f3:=PySem.AutoSeq1.sub_list_list;have f4:=PySem.AutoSeq1.sub_tuple_list;have f5:=PySem.AutoSeq1.sub_list_tuple;have hz':(items++fO).size<=sizeLine+1:=by rw[Array.size_append];exact hs2
  wp_walk using (wpAny_updateSeq hl rfl (hz:=hc1) (_hz':=hz')),PySem.AutoSeq1.wpAny_loadPart' hl,PySem.AutoSeq1.wpAny_loadPart' hb
  exact⟨_,rfl,h⟩
def ϐ(K:ZC):V->List V->Hp->VK->Prop:=λx vs H Q=>∃l b xs zs,x=.ref l/\vs=[.ref b]/\H l=some (.lst xs)/\d8 K H b zs/\xs.length+zs.length<=sizeLine/\Q .non (aV H l (.lst (xs++zs)))
def oV:Ō X "list.extend" (ϐ X.K):=by
 intro À s σ H x vs v us Q I rx rv h;let⟨l,b,xs,zs,rfl,rfl,hH,hB,hz,q⟩:=h;cases rx;let⟨u,rfl,ru⟩:=rv.one;cases ru;let⟨z,its,n,r,hl,e⟩:=I.lstM hH;let⟨its2,r2,⟨o2,n2,e2,c2,dn2,dd2⟩,z2⟩:=I.list hB;let⟨oc2,od2,oda2,osl2⟩:=o2;cases c2;cases dn2;cases dd2;have hl2:=r2.length;have hsz:its.toArray.size+its2.toArray.size<=sizeLine:=by rw[é,é];lia
 have hlong:¬(!its.toArray.isEmpty && Builtin.List.listTooLong (its.toArray.size+its2.toArray.size))=true:=by
  rw[UL hsz,Bool.and_false];exact á
 refine call_meets F.slot_list_extend ⟨_,e,rfl⟩ F.entry_list_extend (F.args_list_extend_2 _ _)
  (EK l its.toArray n b its2.toArray n2 osl2 hlong (by rw[é];lia) (by exact Nat.le_succ_of_le ‹_›)) ⟨e,e2,?_⟩
 refine⟨.non,_,I.lset (its':=its++its2) hH e 'e' (r.append r2) ?_,rfl,q⟩;rw[Ñ];assumption
def VM:ZI->ZI->Option (D×ZI)
 |ds,[.list zs]=>if ds.length+zs.length<=sizeLine then some (.none,ds++zs)else none
 |_,_=>none
def gN:G5 X (ϐ X.K) VM:=λF H l xs vs ds args ret ds' hl hs h1 h2 e=>by
 unfold VM at e;split at e
 .rename_i zs
  split at e
  .rename_i hlt
   cases e;let⟨v,rfl,r⟩:=A5 h2;let⟨p,ys,rfl,hp,hr⟩:=jM r;exact⟨xs++ys,.non,h1.app hr,D4,λQ q=>⟨l,p,xs,ys,rfl,rfl,hl,hs.seq hp,by rw[<- h1.len,<- hr.len];exact hlt,q⟩⟩
  .cases e
 .cases e
end
section
variable {X:Cx}{Z:cI}{ow ol ox:ZH}{rm:Nat}{pos pos' p1 p2:Pos}{e:Expr}{x y:Str}{f:M (ZI)}{u:M Fl}{sts:List Stmt}
def dW(i:Nat)(hN:X.N.Nodup)(hi:DI X Z ow (.Name x pos') e f)(hb:BU X Z ow ow ow ox rm sts u)(hp:PassesOwn 'b' X.A X.env X.xe:=by exact PassesOwn.leaving)(hc:↥(X.calm=true))(hx:↥(X.N[i]?=some x))(hl:#v[TQ X.env.scope x])(hfn:#v[X.fn x=true\/X.env.scope.names.lookup x=some .local])(ok:↥((decide (ow.length<=1000) && !Z.ps.contains 1000 && !Z.ps.contains i && decide (i<ow.length) && (ow.getD i 0 == 0))=true))(hf: ~~~(Zfi e X.env)):DZ X Z ow ow ol ox rm (.For (.Name x pos') e sts [] pos) (nF (setN i) f u):=by
 simp![æ,Bool.not_eq_true',decide_eq_true_eq,beq_iff_eq]at ok;exact EC hp hc hi (cL hN hx hl hfn) (D1 ⟨ok.1.1.1.1,cP ok.1.1.1.2⟩ (cP ok.1.1.2) ok.1.2 ok.2) hb hf
def eG(i j:Nat)(hN:X.N.Nodup)(hi:DI X Z ow (.Tuple [.Name x p1,.Name y p2] k pos') e f)(hb:BU X Z ow ow ow ox rm sts u)(hp:PassesOwn 'b' X.A X.env X.xe:=by exact PassesOwn.leaving)(hc:↥(X.calm=true))(hx:↥(X.N[i]?=some x))(hy:↥(X.N[j]?=some y))(hl:#v[TQ X.env.scope x])(hm:#v[TQ X.env.scope y])(hfn:#v[X.fn x=true\/X.env.scope.names.lookup x=some .local])(hfm:#v[X.fn y=true\/X.env.scope.names.lookup y=some .local])(ok:↥((decide (ow.length<=1000) && !Z.ps.contains 1000 && [i,j].all λi=>!Z.ps.contains i && decide (i<ow.length) && (ow.getD i 0 == 0))=true))(hf: ~~~(Zfi e X.env)):DZ X Z ow ow ol ox rm (.For (.Tuple [.Name x p1,.Name y p2] k pos') e sts [] pos) (nF (uP [i,j]) f u):=by
 simp![æ,Bool.not_eq_true',decide_eq_true_eq,beq_iff_eq,í]at ok;exact EC hp hc hi (uH hc (dX (cL hN hx hl hfn) (dX (cL hN hy hm hfm) oH))) (aHM (is:=[i,j]) ⟨ok.1.1,cP ok.1.2⟩ (λi hi=>⟨cP (ok.2 i hi).1.1,(ok.2 i hi).1.2,(ok.2 i hi).2⟩) rfl) hb hf
end
section
variable {X:Cx}{Z:cI}{ow ol ox:ZH}{rm:Nat}{pos p1:Pos}{elt iter:Expr}{ifs:List Expr}{scope:Scope}{x:Str}{fi:M (ZI)}{t:M Bool}{fe:M D}
abbrev Ŗ(Z:cI)(ow:ZH)(n:Nat):Bool:=decide (ow.length<=1000) && !Z.ps.contains 1000 && decide ((List.replicate n 0++ow).length<=1000) && !(Z.sh n).ps.contains 1000 && (List.range n).all λi=>!(Z.sh n).ps.contains i
def f7(x:Str)(hi:DI X Z ow (.Name x p1) iter fi)(hif:∀C fp s H,TC (aT X [x] scope C fp s H) ifs (tT (aT X [x] scope C fp s H) (Z.sh 1) (List.replicate 1 0++ow) t))(he:∀C fp s H,DE (aT X [x] scope C fp s H) (Z.sh 1) (List.replicate 1 0++ow) 0 elt fe)(nd:↥(decide ([x]++m7 [x] X.N).Nodup=true))(hc:↥(X.calm=true))(ok:↥(Ŗ Z ow 1=true))(hl:∀C fp s H,(aT X [x] scope C fp s H).env.scope.names.lookup x=some .local:=by intro _ _ _ _;rfl)(hk:↥(scope.kind=.function))(hok:↥(dR X.N [x] scope.names X.env.scope.names=true))(hfs: ~~~(Zfi iter X.env)):
  DE X Z ow 1 (.ListComp elt [⟨.Name x p1,iter,ifs,0⟩] scope pos) (eD 1 (setN 0) fi t fe):=by
 simp![Ŗ,æ,Bool.not_eq_true',decide_eq_true_eq,í,List.mem_range]at ok;exact sO (xs:=[x]) ⟨ok.1.1.1.1,cP ok.1.1.1.2⟩ ⟨ok.1.1.2,cP ok.1.2⟩ hc hi (λC fp s H=>cL (i:=0) (of_decide_eq_true nd) rfl (Or.inl (hl C fp s H)) (Or.inr (hl C fp s H))) (nG ⟨ok.1.1.2,cP ok.1.2⟩ (ă _) (cP (ok.2 0 ⋯)) (ă _) rfl) hif he hk hok hfs
def dE(i:Nat)(x:Str){z:Str}{pos' spos:Pos}(hN:X.N.Nodup)(hi:DI X Z ow (.Name x p1) iter fi)(hif:∀C fp s H,TC (aT X [x] scope C fp s H) ifs (tT (aT X [x] scope C fp s H) (Z.sh 1) (List.replicate 1 0++ow) t))(he:∀C fp s H,DE (aT X [x] scope C fp s H) (Z.sh 1) (List.replicate 1 0++ow) 0 elt fe)(nd:↥(decide ([x]++m7 [x] X.N).Nodup=true))(hc:↥(X.calm=true))(ok:↥(Ŗ Z ow 1=true))(hl:∀C fp s H,(aT X [x] scope C fp s H).env.scope.names.lookup x=some .local:=by intro _ _ _ _;rfl)(hx:↥(X.N[i]?=some z))(hz:↥(X.env.scope.names.lookup z=some .local))(hps:↥(Z.ps.contains i=false))(hlo:⇑(i<ow.length))(hsw:↥(swapsWith (.ListComp elt [⟨.Name x p1,iter,ifs,0⟩] scope pos) (some (.Name z pos')) spos.line X.env=pure true))(hk:↥(scope.kind=.function))(hok:↥(dR X.N [x] scope.names X.env.scope.names=true))(hfs: ~~~(Zfi iter X.env)):
  DZ X Z ow (ow.set i 1) ol ox rm (.Assign [.Name z pos'] (.ListComp elt [⟨.Name x p1,iter,ifs,0⟩] scope pos) spos) (jK i (eD 1 (setN 0) fi t fe)):=by
 simp![Ŗ,æ,Bool.not_eq_true',decide_eq_true_eq,í,List.mem_range]at ok;exact l8 i (xs:=[x]) ⟨ok.1.1.1.1,cP ok.1.1.1.2⟩ ⟨ok.1.1.2,cP ok.1.2⟩ hc hN hi (λC fp s H=>cL (i:=0) (of_decide_eq_true nd) rfl (Or.inl (hl C fp s H)) (Or.inr (hl C fp s H))) (nG ⟨ok.1.1.2,cP ok.1.2⟩ (ă _) (cP (ok.2 0 ⋯)) (ă _) rfl) hif he hx hz hps hlo hsw hk hok hfs
end
section
variable {K:ZC}{X:Cx}{Z:cI}{ow:ZH}{n:Nat}{pos:Pos}{F H H':Hp}{σ:St}{δ:DS}{g:ZP}
def KD(g:ZP)(F H:Hp):Hp:=λb=>open Classical in if ∃l,g b=some l then (if F b=none then H b else F b)else F b
def HF:aI F (KD g F H):=λb o e=>by
 unfold KD;split
 .rw[Ã (by rw[e];simp)];exact e
 .exact e
def aB5(hs:aI F H):aI (KD g F H) H:=λb o e=>by
 unfold KD at e;split at e
 .split at e
  .exact e
  .exact hs b o e
 .exact hs b o e
def bA.freezeA(r:bA K F H g i n p d v):bE K (KD g F H) d v:=
 iR.froze HF (λa p o e1 e2 e3=>by unfold KD;rw[Â ⟨_,e1⟩,Â e3];exact e2) r
def cV.grow(R:cV K Z ow g F H σ δ)(h:aI H H'):cV K Z ow g F H' σ δ:=
 ⟨R.sub.trans' h,R.f0,λb o n e=>h b o (R.kept b o n e),R.new,λb z=>by
  cases e:H b with
  |none=>exact absurd e (R.there b z)
  |some o=>rw[h b o e];simp,R.lab,R.len,R.par,λi d e=>by
  let⟨v,e1,o⟩:=R.slot i d e;exact⟨v,e1,o.mono (λ_ _ z=>z) (λ_ _ _ z=>z) (λ_ _ _ _ z=>z) λa l ob _ _ z=>h a ob z⟩⟩
def VN(h:LI d=some x)(r:bE K F d v):bE K F' d v:=by
 let⟨rfl,_⟩:=wH h r;cases d with
 |int i=>cases h;exact gJ
 |bool b=>cases h;exact iS
 |str z=>cases h;exact BY
 |none=>cases h;exact D4
 |_=>cases h
def cW(F H:Hp)(σ:St)(m:Nat):cI:=⟨F,H,λ_=>none,[],σ,List.replicate m 0,λ_ _ _ e=>by cases e⟩
def i9:'c'.getD i 0=0:=by
 rw[Ë,Ā];split<;>rfl
def cV.bor(R:cV K Z ow g F H σ δ):bZ K (cW (KD g F H) H σ m) 'c' (KD g F H) H σ δ:=
 ⟨λ_=>none,aB5 R.sub,⟨R.f0.lm.mono HF,λ_ _ z=>z⟩,λ_ _ _ e=>e,λ_ h _=>h,λ_ h=>h,λ_ _ _ e=>(by cases e),R.len,λi hi=>(by cases hi),λi d e=>by
  let⟨v,e1,o⟩:=R.slot i d e;refine⟨v,e1,?_⟩;rw[i9];exact o.freezeA⟩
def QW(f:M D):M D:=λδ=>match f δ with
 |.ok d _=>(match LI d with|some _=>.ok d δ|none=>.stuck)
 |_=>.stuck
def NR(f:M Bool):M Bool:=λδ=>match f δ with
 |.ok b _=>.ok b δ
 |_=>.stuck
def uU(m:Nat)(h:∀F H σ,DE X (cW F H σ m) 'c' 0 e f):DE X Z ow 0 e (QW f):=λÀ s σ H Q I q=>by
 let⟨F,δ,⟨g,R⟩,q⟩:=q;unfold QW at q;refine h (KD g F H) H σ À s σ H Q I ⟨KD g F H,δ,R.bor,?_⟩;cases e1:f δ with
 |stuck=>rw[e1]at q;sleep 4
 |err x δ1=>rw[e1]at q;sleep 4
 |ok d δ1=>
  rw[e1]at q;dsimp only at q;cases e2:LI d with
  |none=>rw[e2]at q;sleep 4
  |some x=>
   rw[e2]at q;rintro v H' F' ⟨g',R',o⟩ s';exact q v H' F ⟨g,R.grow λb o e=>R'.kept b o rfl e,VN e2 o⟩ λ_ _ z=>z
def aH9(m:Nat)(h:∀F H σ,DT X (cW F H σ m) 'c' e f):DT X Z ow e (NR f):=λÀ s σ H Q I q=>by
 let⟨F,δ,⟨g,R⟩,q⟩:=q;unfold NR at q;refine h (KD g F H) H σ À s σ H Q I ⟨KD g F H,δ,R.bor,?_⟩;cases e1:f δ with
 |stuck=>rw[e1]at q;sleep 4
 |err x δ1=>rw[e1]at q;sleep 4
 |ok d δ1=>
  rw[e1]at q;rintro H' F' ⟨g',R'⟩ s';exact q H' F ⟨g,R.grow λb o e=>R'.kept b o rfl e⟩ λ_ _ z=>z
def ŗ(i:Nat)(lo hi:Option (M D)):M D:=λδ=>match δ[i]? with
 |some (some _)=>(kG lo δ).bind λl δ1=>(kG hi δ1).bind λu δ2=>(match δ2[i]? with
  |some (some (.list ds))=>.ok (.list (HB ds l u)) δ2
  |_=>.stuck)
 |_=>.stuck
def VO(i:Nat){x:Str}{p p2:Pos}{lo hi:Option Expr}(S:aP Z ow)(hl:DO X Z ow lo fl)(hu:DO X Z ow hi fh)(ho:↥(ow.getD i 0=1))(hN:↥(X.N[i]?=some x))(hv:#v[AU X.env.scope x])(hd:⇑(Zdb x))(hcd:⇑(Zcd x)):
  DE X Z ow 1 (.Subscript 'h' (.Slice lo hi none p2) pos) (ŗ i fl fh):=PE.mono (GM wG (dA hN hv hd hcd) hl hu) λσ H Q q=>by
 let⟨F,δ,R,q⟩:=q;unfold ŗ at q;cases e0:δ[i]? with
 |none=>rw[e0]at q;sleep 4
 |some o=>
  cases o with
  |none=>rw[e0]at q;sleep 4
  |some d0=>
   rw[e0]at q;dsimp only at q;let⟨a,ds0,vs0,q1,q2,q3,q4⟩:=R.ownAt ho e0;refine⟨_,q2,F,δ,R,?_⟩;cases e1:kG fl δ with
   |stuck=>rw[e1]at q;sleep 4
   |err y δ2=>rw[e1]at q;exact q
   |ok l δ1=>
    rw[e1]at q;simp![Res.bind]at q;intro H1 F1 R1 s1;refine⟨F1,δ1,R1,?_⟩;cases e2:kG fh δ1 with
    |stuck=>rw[e2]at q;sleep 4
    |err y δ2=>rw[e2]at q;exact jJ.mono q s1
    |ok u δ2=>
     rw[e2]at q;simp![Res.bind]at q;intro H2 F2 R2 s2;cases e3:δ2[i]? with
     |none=>rw[e3]at q;sleep 4
     |some o=>
      cases o with
      |none=>rw[e3]at q;sleep 4
      |some d1=>
       rw[e3]at q;let⟨a',ds1,vs1,p1,p2,p3,p4⟩:=R2.ownAt ho e3;rw[q2]at p2;cases p2;subst p1;exact⟨a,vs1,rfl,d8.of p3,λt ht=>q _ _ F2 (R2.newList S ht (p4.cut l u)) (s1.trans' s2)⟩
end
section
variable {X:Cx}{À:ZB}{σ:St}{H:Hp}{s:Shared}{h':Heap}
def Inv.turns{ch:ZM}(I:Inv X À σ H s)(k:∀b o,b∉ch->s.heap.get? b=some o->h'.get? b=some o)(hc:∀b∈ch,wD X À H b):
  Inv X À σ H {s with heap:=h',toks:=t'}:=by
 have off:∀b u,H b=some u->b∉ch:=λb u e z=>by have:=(hc b z).1;rw[this]at e;cases e
 refine I.step (g':=s.gens) (d':=s.drawn) (ch:=ch) (λb hb=>⟨(hc b hb).2.2.2.1,(hc b hb).2.1,(hc b hb).2.2.2.2.1,(hc b hb).2.2.2.2.2⟩) (λb o _ _ n e _=>k b o n e) (λb o _ _ n e _=>⟨o.slots,k b o n e⟩)
  (λb o n e z=>z) (λb o n e=>⟨o,k b o n e⟩) (λb ys e=>e) (λb o u e=>e) (λb ps e=>⟨#[],by rw[e];simp⟩) (λm hm=>?_) (λb u e=>?_) I.bare
 .obtain⟨o,es,ep,ho,q⟩:=hm
  exact⟨o,es,ep,k _ o (λz=>(hc _ z).2.1 rfl) ho,q⟩
 .refine(I.hok b u e).stay (λc v z q=>k c v ?_ q) (λc q=>q) λc ys q=>q
  grind
def Inv.pair{ch:ZM}(I:Inv X À σ H s)(k:∀b o,b∉ch->s.heap.get? b=some o->h'.get? b=some o)(hc:∀b∈ch,wD X À H b)(hT:s.heap.objs.size<=T)(hz:xs.length<=sizeLine)(r:bI xs us)(ht:IsTup h' T us.toArray):
  Inv X À σ (aV H T (.tup xs)) {s with heap:=h',toks:=t'}:=by
 have fT:H T=none:=I.hok.fresh hT;have off:∀b u,H b=some u->b∉ch:=λb u e z=>by have:=(hc b z).1;rw[this]at e;cases e
 have neT:∀b u,H b=some u->b≠T:=λb u e=>bK e fT;refine I.step (g':=s.gens) (d':=s.drawn) (ch:=ch) (λb hb=>⟨(hc b hb).2.2.2.1,(hc b hb).2.1,(hc b hb).2.2.2.2.1,(hc b hb).2.2.2.2.2⟩) (λb o _ _ n e _=>k b o n e) (λb o _ _ n e _=>⟨o.slots,k b o n e⟩)
  (λb o n e z=>?_) (λb o n e=>⟨o,k b o n e⟩) (λb ys e=>?_) (λb o u e=>?_) (λb ps e=>⟨#[],?_⟩) (λm hm=>?_) (λb u e=>?_) I.bare
 .rw[aE (Ð (Ù (Heap.lt_size e) hT))];exact z
 .rw[aE (neT b _ e)];exact e
 .rw[aE (neT b _ e)];exact e
 .rw[aE (neT b _ e),e];simp
 .obtain⟨o,es,ep,ho,q⟩:=hm
  exact⟨o,es,ep,k _ o (λz=>(hc _ z).2.1 rfl) ho,q⟩
 .by_cases hb:b=T
  .subst hb;rw[aJ]at e;cases e;exact⟨hz,us,r,ht⟩
  .rw[aE hb]at e
   refine(I.hok b u e).stay (λc v z q=>k c v ?_ q) (λc q=>by rw[aE (neT c _ q)];exact q) λc ys q=>by rw[aE (neT c _ q)];exact q
   grind
end
def Γ(K:ZC)(a b:Addr):It:=
 ⟨λi H=>∃xs ys x y,d8 K H a xs/\d8 K H b ys/\xs[i]?=some x/\ys[i]?=some y,
   λi H v H'=>∃p x y,H p=none/\H'=aV H p (.tup [x,y])/\v=.ref p/\(∀xs,d8 K H a xs->xs[i]?=some x)/\∀ys,d8 K H b ys->ys[i]?=some y,
   λi H=>∃xs ys,d8 K H a xs/\d8 K H b ys/\(xs.length<=i\/ys.length<=i)⟩
structure aLJ(z p q i1 i2 a b:Addr)(i:Nat)(h:Heap):Prop where
 z0:IsZip h z p q .none
 p0:IsPair h p (.ref i1) (.ref i2)
 q0:∃u v,IsPair h q u v
 a0:h.IsListIter i1 a i
 b0:h.IsListIter i2 b i
def VP{P:Program}{w:World}{K:ZC}{es:List Expr}{n:Nat}{tp:Pos}(z p q i1 i2 a b:Addr)(D:ZipApart z p q i1 i2 a b):GI P w K (.Tuple es n tp) (Γ K a b) [z,p,q,i1,i2] z (aLJ z p q i1 i2 a b) where
 mem:=by simp
 obj:=λi h st c hc=>by
  simp![Õ,ë,or_false]at hc;rcases hc with rfl|rfl|rfl|rfl|rfl
  .exact⟨_,st.z0,λv e=>by cases e⟩
  .exact⟨_,st.p0,λv e=>by cases e⟩
  .obtain⟨u,v,e⟩:=st.q0
   grind
  .obtain⟨o,e,_,d⟩:=st.a0
   grind
  .obtain⟨o,e,_,d⟩:=st.b0
   grind
 keep:=λi h h' st k=>⟨k z 'e' _ st.z0,k p 'e' _ st.p0,by
  let⟨u,v,e⟩:=st.q0
  grind,st.a0.at λo e=>k i1 'e' o e,st.b0.at λo e=>k i2 'e' o e⟩
 item:=by
  sleep 2;let⟨xs,ys,x,y,hx,hy,ex,ey⟩:=hg;let⟨ia,ra,pa,_⟩:=I.list hx;let⟨ib,rb,pb,_⟩:=I.list hy;let⟨u,hu,ru⟩:=ra.get ex;let⟨v,hv,rv⟩:=rb.get ey;let⟨c1,c2,hq⟩:=st.q0;refine wpAny_pyNext_zip_item D st.z0 st.p0 hq st.a0 st.b0 pa.isList pb.isList (x:=u) (y:=v) (by simpa using hu) (by simpa using hv) λh1 e1 e2 e3 e4 e5 e6 k1=>⟨_,rfl,?_⟩;refine wpAny_letOwnedTupleGo_zip (s:={s with heap:=h1}) e1 λh2 f1 f2=>?_;have hT:s.heap.objs.size≠z:=Þ (Heap.lt_size st.z0);have tup:IsTup h2 s.heap.objs.size #[u,v]:=⟨_,f2.extBut _ _ hT e5,rfl,_,rfl⟩;have kk:∀c o,c∉[z,q,i1,i2]->s.heap.get? c=some o->h2.get? c=some o:=λc o n e=>by
   simp![Õ,ë,or_false,not_or]at n;exact f2.extBut _ _ n.1 (k1 c o n.1 n.2.1 n.2.2.1 n.2.2.2 e)
  have fp:∀c∈[z,q,i1,i2],wD X À H c:=λc hc=>hf c (by
   grind)
  have I2:Inv X À σ (aV H s.heap.objs.size (.tup [x,y])) {s with heap:=h2,toks:=s.toks}:=I.pair (us:=[u,v]) kk fp (È _) (show 2<=sizeLine by decide) (.cons ru (.cons rv .nil)) tup;refine⟨.ref s.heap.objs.size,_,I2,rfl,⟨_,x,y,I.hok.fresh (È _),rfl,rfl,λxs' h=>by rw[I.list_inj h hx];exact ex,λys' h=>by rw[I.list_inj h hy];exact ey⟩,⟨f1,f2.extBut _ _ D.TIz (k1 _ _ D.TIz D.TITO D.TIi1 D.TIi2 st.p0),⟨_,_,f2.extBut _ _ D.TOz e2⟩,e3.extBut f2.extBut D.i1z,e4.extBut f2.extBut D.i2z⟩,λc hc=>?_⟩
  rw[aE]
  .exact(hf c hc).1
  .intro z0
   simp![Õ,ë,or_false]at hc;have lt:∀{c o},s.heap.get? c=some o->c≠s.heap.objs.size:=λe=>Ð (Heap.lt_size e);let⟨o1,g1,_⟩:=st.a0;let⟨o2,g2,_⟩:=st.b0;rcases hc with rfl|rfl|rfl|rfl|rfl
   .exact lt st.z0 z0
   .exact lt st.p0 z0
   all_goals grind
 done:=by
  sleep 2;let⟨xs,ys,hx,hy,hl⟩:=hg;let⟨ia,ra,pa,_⟩:=I.list hx;let⟨ib,rb,pb,_⟩:=I.list hy;let⟨c1,c2,hq⟩:=st.q0;have la:=ra.length;have lb:=rb.length;refine wpAny_pyNext_zip_end (I.ok.hd hc) D st.z0 st.p0 hq st.a0 st.b0 pa.isList pb.isList ?_ λh1 k1=>⟨rfl,I.turns (t':=s.toks) (ch:=[z,q,i1,i2]) (λc o n e=>?_) λc hc=>hf c ?_⟩
  all_goals grind
 self:=λ_ _ _ _ _ st h=>wpAny_pyIter_zip st.z0 h
section
def aOO(K:ZC)(ta:TA):TI:=λσ H R=>ta σ H λvs H1=>∃a b,vs=[.ref a,.ref b]/\(∃xs,d8 K H1 a xs)/\(∃ys,d8 K H1 b ys)/\R (Γ K a b) H1
def aIA{es:List Expr}{n:Nat}{tp p pos:Pos}(hg:Gl X "zip")(hm:X.mg "zip"=none)(ha:PA X [a,b] ta)(hs:↥(starEach [a,b] X.env=[(false,eval a X.env),(false,eval b X.env)]))(hs2:↥(starEach [b] X.env=[(false,eval b X.env)])):
  PI X (.Tuple es n tp) (.Call (.Name "zip" p) [a,b] [] pos) (aOO X.K ta):=by
 intro À s σ H R I h;refine Call_ (iE I hg hm boot_zip (callWith_type1 (cA (ha pos À s σ H _ I h) λus s1 zQ=>?_) (by rw[hs,hs2]) (by rw[hs2];rfl)));let⟨vs,H1,I1,r1,q1⟩:=zQ;let⟨l,m,e,⟨xs,hx⟩,⟨ys,hy⟩,q⟩:=q1;subst e;cases r1 with
 |cons r rr=>
  cases rr with
  |cons r' rr=>
   cases rr;cases r;cases r';let⟨ia,ra,pa,_⟩:=I1.list hx;let⟨ib,rb,pb,_⟩:=I1.list hy;refine call_zip_2 pa.isList pb.isList λh1 z1 z2 z3 z4 z5 sz kk=>wpAny_pyIter_zip (s:={s1 with heap:=h1}) z1 ?_;have la:l<s1.heap.objs.size:=by let⟨o,n,e,_⟩:=pa;exact Heap.lt_size e
   have lb:m<s1.heap.objs.size:=by let⟨o,n,e,_⟩:=pb;exact Heap.lt_size e
   have ge:∀c∈[s1.heap.objs.size+4,s1.heap.objs.size+2,s1.heap.objs.size+3,s1.heap.objs.size,s1.heap.objs.size+1],s1.heap.objs.size<=c:=λc hc=>by
    grind
   refine⟨_,_,_,_,H1,rfl,I1.kept (t':=s1.toks) kk,VP _ _ _ _ _ l m ?_,⟨z1,z2,⟨_,_,z3⟩,z4,z5⟩,λc hc=>I1.fpOk (ge c hc) (I1.hok.fresh (ge c hc)),q⟩;have la:@LT.lt Nat instLTNat l s1.heap.objs.size:=la;have lb:@LT.lt Nat instLTNat m s1.heap.objs.size:=lb;constructor<;>(grind)
end
def pN(as bs:ZI):ZI:=List.zipWith (λa b=>PyData.tuple [a,b]) as bs
def NS{K:ZC}{F:Hp}{p:Addr}{x y:V}{d e:D}(h:F p=some (.tup [x,y]))(rx:bE K F d x)(ry:bE K F e y):bE K F (.tuple [d,e]) (.ref p):=by
 unfold bE;refine⟨p,_,rfl,rX.of h,?_⟩;unfold aD;refine⟨_,_,rfl,rx,?_⟩;unfold aD;refine⟨_,_,rfl,ry,?_⟩;unfold aD;rfl
def aB7{K:ZC}{F:Hp}{a b:Addr}{xs ys:List V}{ds es:ZI}(hx:d8 K F a xs)(hy:d8 K F b ys)(rx:aD K F ds xs)(ry:aD K F es ys):TH K F (Γ K a b) (pN ds es) where
 go:=λi H s hi=>by
  have hi:i<min ds.length es.length:=by simpa[pN]using hi
  have l1:=rx.len;have l2:=ry.len;exact⟨xs,ys,xs[i]'∅,ys[i]'∅,s.seq hx,s.seq hy,Ê _,Ê _⟩
 yld:=λi H v H' d s y e=>by
  let⟨p,x,y,hp,rfl,rfl,q1,q2⟩:=y;have hi:=(Î.mp e).1;have hi:i<min ds.length es.length:=by simpa[pN]using hi
  have e1:ds[i]?=some ds[i]:=Ê ∅;have e2:es[i]?=some es[i]:=Ê ∅;have ee:(pN ds es)[i]?=some (.tuple [ds[i],es[i]]):=by unfold pN;rw[List.getElem?_zipWith,e1,e2]
  rw[ee]at e;cases e;let⟨x',f1,g1⟩:=rx.get e1;let⟨y',f2,g2⟩:=ry.get e2;have:=q1 xs (s.seq hx);rw[f1]at this;cases this;have:=q2 ys (s.seq hy);rw[f2]at this;cases this;refine .inr ⟨p,_,hp,rfl,λF2 s2 n=>NS aJ ?_ ?_⟩
  .exact(s2.trans' (bW n _)).rep _ _ g1
  .exact(s2.trans' (bW n _)).rep _ _ g2
 stop:=λH s=>⟨xs,ys,s.seq hx,s.seq hy,by
  have l1:=rx.len;have l2:=ry.len;simp![pN,List.length_zipWith];lia⟩
def A6(f g:M D):M (ZI):=λδ=>(bB [f,g] δ).bind λds δ1=>match ds with
 |[.list as,.list bs]=>.ok (pN as bs) δ1
 |_=>.stuck
section
def EL{es:List Expr}{n:Nat}{tp p2 p3:Pos}(hgl:Gl X "zip")(hm:X.mg "zip"=none)(ha:DE X Z ow 0 a f)(hb:DE X Z ow 0 b g)(hst:↥(starEach [a,b] X.env=(false,eval a X.env)::starEach [b] X.env))(hst2:↥(Zse b [] X.env)):
  DI X Z ow (.Tuple es n tp) (.Call (.Name "zip" p2) [a,b] [] p3) (A6 f g):=
 (aIA hgl hm (aF ha (aF hb aY hst2) hst) (hst.trans (by rw[hst2];rfl)) hst2).mono λσ H R q=>by
  let⟨F,δ,Rl,q⟩:=q;unfold A6 at q;refine⟨F,δ,Rl,?_⟩;cases e1:bB [f,g] δ with
  |stuck=>rw[e1]at q;sleep 4
  |err x δ1=>rw[e1]at q;exact q
  |ok ds δ1=>
   rw[e1]at q;simp![Res.bind]at q;intro vs H1 F1 R1 s1 ra;split at q
   .rename_i as bs
    unfold aD at ra;let⟨x,t,rfl,rx,ra⟩:=ra;unfold aD at ra;let⟨y,t,rfl,ry,ra⟩:=ra;unfold aD at ra;subst ra;let⟨l,xs,rfl,hx,rx⟩:=jM rx;let⟨m,ys,rfl,hy,ry⟩:=jM ry;exact⟨l,m,rfl,⟨xs,R1.sub.seq hx⟩,⟨ys,R1.sub.seq hy⟩,q _ H1 F1 R1 s1 (aB7 hx hy rx ry)⟩
   .sleep 4
end
def Δ(K:ZC)(a:Addr):It:=
 ⟨λi H=>∃xs x,d8 K H a xs/\xs[i]?=some x,
   λi H v H'=>∃p x,H p=none/\H'=aV H p (.tup [.int i,x])/\v=.ref p/\∀xs,d8 K H a xs->xs[i]?=some x,
   λi H=>∃xs,d8 K H a xs/\xs.length<=i⟩
structure aIB(e it a:Addr)(i:Nat)(h:Heap):Prop where
 e0:∃old,IsEnum h e it (i:Int) old
 a0:h.IsListIter it a i
def QX{P:Program}{w:World}{K:ZC}{es:List Expr}{n:Nat}{tp:Pos}(e it a:Addr)(hne:e≠it):GI P w K (.Tuple es n tp) (Δ K a) [e,it] e (aIB e it a) where
 mem:=by simp
 obj:=λi h st c hc=>by
  simp![Õ,ë,or_false]at hc;rcases hc with rfl|rfl
  .obtain⟨o,x⟩:=st.e0
   exact⟨_,x,λv e=>by cases e⟩
  .obtain⟨o,e,_,d⟩:=st.a0
   exact⟨o,e,λv x=>by rw[d]at x;cases x⟩
 keep:=λi h h' st k=>⟨by
  let⟨o,x⟩:=st.e0;exact⟨o,k e 'e' _ x⟩,st.a0.at λo x=>k it 'e' o x⟩
 item:=by
  sleep 2;let⟨xs,x,hx,ex⟩:=hg;let⟨ia,ra,pa,_⟩:=I.list hx;let⟨u,hu,ru⟩:=ra.get ex;let⟨old,he⟩:=st.e0;refine wpAny_pyNext_enum_item he st.a0 pa.isList (x:=u) (by simpa using hu) hne λh1 e1 e2 e3 e4 k1=>⟨_,rfl,?_⟩;refine wpAny_letOwnedTupleGo_enum (s:={s with heap:=h1,toks:=s.toks+1}) e1 λh2 f1 f2=>?_;have hT:s.heap.objs.size≠e:=Þ (Heap.lt_size he);have tup:IsTup h2 s.heap.objs.size #[.int i s.toks,u]:=⟨_,f2.extBut _ _ hT e3,rfl,_,rfl⟩;have kk:∀c o,c∉[e,it]->s.heap.get? c=some o->h2.get? c=some o:=λc o n x=>by
   simp![Õ,ë,or_false,not_or]at n;exact f2.extBut _ _ n.1 (k1 c o n.1 n.2 x)
  have I2:Inv X À σ (aV H s.heap.objs.size (.tup [.int i,x])) {s with heap:=h2,toks:=s.toks+1}:=I.pair (us:=[.int i s.toks,u]) kk hf (È _) (show 2<=sizeLine by decide) (.cons ⟨_,rfl⟩ (.cons ru .nil)) tup;refine⟨.ref s.heap.objs.size,_,I2,rfl,⟨_,x,I.hok.fresh (È _),rfl,rfl,λxs' h=>by rw[I.list_inj h hx];exact ex⟩,⟨⟨_,by simpa using f1⟩,e2.extBut f2.extBut hne.symm⟩,λc hc=>?_⟩;rw[aE]
  .exact(hf c hc).1
  .intro z0
   simp![Õ,ë,or_false]at hc;have lt:∀{c o},s.heap.get? c=some o->c≠s.heap.objs.size:=λe=>Ð (Heap.lt_size e);let⟨o1,g1,_⟩:=st.a0;rcases hc with rfl|rfl
   .exact lt he z0
   .exact lt g1 z0
 done:=by
  sleep 2;let⟨xs,hx,hl⟩:=hg;let⟨ia,ra,pa,_⟩:=I.list hx;let⟨old,he⟩:=st.e0;have la:=ra.length;refine wpAny_pyNext_enum_end (I.ok.hd hc) he st.a0 pa.isList (Array.getElem?_eq_none (by simp;lia)) λh1 k1=>⟨rfl,I.turns (t':=s.toks) (ch:=[e,it]) (λc o n x=>?_) hf⟩;simp![Õ,ë,or_false,not_or]at n;exact k1 c o n.2 x
 self:=λ_ _ _ _ _ st h=>by
  let⟨old,he⟩:=st.e0;exact wpAny_pyIter_enum he h
section
def aLK(K:ZC)(ta:TA):TI:=λσ H R=>ta σ H λvs H1=>∃a,vs=[.ref a]/\(∃xs,d8 K H1 a xs)/\R (Δ K a) H1
def aB8(hg:Gl X "enumerate")(hm:X.mg "enumerate"=none)(ha:PA X [a] ta)(hs:↥(starEach [a] X.env=[(false,eval a X.env)])):
  PI X (.Tuple es n tp) (.Call (.Name "enumerate" p) [a] [] pos) (aLK X.K ta):=by
 intro À s σ H R I h;refine Call_ (iE I hg hm boot_enumerate (callWith_type1 (cA (ha pos À s σ H _ I h) λus s1 zQ=>?_) hs rfl));let⟨vs,H1,I1,r1,q1⟩:=zQ;let⟨l,e,⟨xs,hx⟩,q⟩:=q1;subst e;cases r1 with
 |cons r rr=>
  cases rr;cases r;let⟨ia,ra,pa,_⟩:=I1.list hx;refine call_enumerate_list pa.isList λh1 z1 z2 sz kk=>wpAny_pyIter_enum (s:={s1 with heap:=h1}) z1 ?_;have ge:∀c∈[s1.heap.objs.size+1,s1.heap.objs.size],s1.heap.objs.size<=c:=λc hc=>by
   simp![Õ,ë,or_false]at hc;rcases hc with rfl|rfl<;>lia
  exact⟨_,_,_,_,H1,rfl,I1.kept (t':=s1.toks) kk,QX _ _ l (show ¬(s1.heap.objs.size+1=s1.heap.objs.size) by lia),⟨⟨_,z1⟩,z2⟩,λc hc=>I1.fpOk (ge c hc) (I1.hok.fresh (ge c hc)),q⟩
end
def fB(ds:ZI):ZI:=ds.mapIdx λi d=>PyData.tuple [.int i,d]
def VQ{K:ZC}{F:Hp}{a:Addr}{xs:List V}{ds:ZI}(hx:d8 K F a xs)(rx:aD K F ds xs):TH K F (Δ K a) (fB ds) where
 go:=λi H s hi=>by
  have hi:i<ds.length:=by simpa[fB]using hi
  have l1:=rx.len;exact⟨xs,xs[i]'(by exact õ ‹_› ‹_›),s.seq hx,Ê _⟩
 yld:=λi H v H' d s y e=>by
  let⟨p,x,hp,rfl,rfl,q1⟩:=y;have hi:=(Î.mp e).1;have hi:i<ds.length:=by simpa[fB]using hi
  have e1:ds[i]?=some ds[i]:=Ê hi;have ee:(fB ds)[i]?=some (.tuple [.int i,ds[i]]):=by unfold fB;rw[List.getElem?_mapIdx,e1];rfl
  rw[ee]at e;cases e;let⟨x',f1,g1⟩:=rx.get e1;have:=q1 xs (s.seq hx);rw[f1]at this;cases this;exact .inr ⟨p,_,hp,rfl,λF2 s2 n=>NS aJ gJ ((s2.trans' (bW n _)).rep _ _ g1)⟩
 stop:=λH s=>⟨xs,s.seq hx,by
  have l1:=rx.len;simp![fB,List.length_mapIdx];lia⟩
def xS(f:M D):M (ZI):=λδ=>(bB [f] δ).bind λds δ1=>match ds with
 |[.list as]=>.ok (fB as) δ1
 |_=>.stuck
section
def gW(hgl:Gl X "enumerate")(hm:X.mg "enumerate"=none)(ha:DE X Z ow 0 a f)(hst:↥(Zse a [] X.env)):
  DI X Z ow (.Tuple es n tp) (.Call (.Name "enumerate" p2) [a] [] p3) (xS f):=
 (aB8 hgl hm (aF ha aY hst) hst).mono λσ H R q=>by
  let⟨F,δ,Rl,q⟩:=q;unfold xS at q;refine⟨F,δ,Rl,?_⟩;cases e1:bB [f] δ with
  |stuck=>rw[e1]at q;sleep 4
  |err x δ1=>rw[e1]at q;exact q
  |ok ds δ1=>
   rw[e1]at q;simp![Res.bind]at q;intro vs H1 F1 R1 s1 ra;split at q
   .rename_i as
    unfold aD at ra;let⟨x,t,rfl,rx,ra⟩:=ra;unfold aD at ra;subst ra;let⟨l,xs,rfl,hx,rx⟩:=jM rx;exact⟨l,rfl,⟨xs,R1.sub.seq hx⟩,q _ H1 F1 R1 s1 (VQ hx rx)⟩
   .sleep 4
def aIC:bootBuiltins "sum"=some (.builtin "sum"):=by decide +kernel
end
section
end
section
end
section
end
abbrev zA(h:Heap)(l1:Addr):Heap:=h.push {cls:=.type "list_iterator",data:=.fields #[.ref l1,.int 0 0]}
abbrev zB(h:Heap)(l1 l2:Addr):Heap:=(zA h l1).push {cls:=.type "tuple_iterator",data:=.fields #[.ref l2,.int 0 0]}
section
end
section
end
section
end
end L2
namespace L2
open PySem PySem.Spec
def TJ(o:ZL)(δ:DS)(Q:D->ZO)(_w:Wt Q:=⟨⟩):Prop:=∃r,o=some r/\Q r δ
def EM(o:Option (ZL))(δ:DS)(Q:D->ZO)(_w:Wt Q:=⟨⟩):Prop:=∃d,o=some (some d)/\Q d δ
def Ε(i:Nat)(d:D)(δ:DS)(N:ZO)(_w:Wt N:=⟨⟩):Prop:=i<δ.length/\N (δ.set i (some d))
def B5(d:D)(δ:DS)(Q:Bool->ZO)(_w:Wt Q:=⟨⟩):Prop:=∃b,d=.bool b/\Q b δ
def Ζ(o:Option DS)(N:ZO)(_w:Wt N:=⟨⟩):Prop:=∃δ,o=some δ/\N δ
def Ř(o:Option (D×ZI))(i:Nat)(δ:DS)(Q:D->ZO)(_w:Wt Q:=⟨⟩):Prop:=∃ret ds',o=some (ret,ds')/\Q ret (δ.set i (some (.list ds')))
def TK:Prop:=aU (λ_=>(.stuck:Res Unit)) [] λ_ _=>bN (λ_=>.stuck) [] (λ_=>False) (λ_=>False) (λ_=>False) λ_ _=>False
def ć:TK=False:=rfl
def ř:Nat->D->DS->Option DS
 |_,_,[]=>none
 |0,d,_::l=>some (some d::l)
 |n+1,d,a::l=>match ř n d l with
  |some l=>some (a::l)
  |none=>none
def v4(o:ZL)(δ:DS)(Q:D->ZO)(_w:Wt Q:=⟨⟩):Prop:=match o with
 |some r=>Q r δ
 |none=>TK
def gO(o:Option (ZL))(δ:DS)(Q:D->ZO)(_w:Wt Q:=⟨⟩):Prop:=match o with
 |some (some d)=>Q d δ
 |_=>TK
def EN(i:Nat)(d:D)(δ:DS)(N:ZO)(_w:Wt N:=⟨⟩):Prop:=match ř i d δ with
 |some l=>N l
 |none=>TK
def xT(d:D)(δ:DS)(Q:Bool->ZO)(_w:Wt Q:=⟨⟩):Prop:=match d with
 |.bool b=>Q b δ
 |_=>TK
def Ś(o:Option DS)(N:ZO)(_w:Wt N:=⟨⟩):Prop:=match o with
 |some δ=>N δ
 |none=>TK
def VR(r:Res D)(is:ZH)(δ:DS)(Q:D->ZO)(_w:Wt Q:=⟨⟩):Prop:=match r with
 |.ok d os=>Q d (cU is (os.filterMap id) δ)
 |_=>TK
def VS(o:Option (ZI))(fn:ZI->Res D)(is:ZH)(δ:DS)(Q:D->ZO)(_w:Wt Q:=⟨⟩):Prop:=match o with
 |some ds=>VR (fn ds) is δ Q
 |none=>TK
def EO(o:Option (D×ZI))(i:Nat)(δ:DS)(Q:D->ZO)(_w:Wt Q:=⟨⟩):Prop:=match o with
 |some (ret,ds)=>Q ret (δ.set i (some (.list ds)))
 |none=>TK
def Η(o:Option (ZL))(i:Nat)(op:ZI->ZI->Option (D×ZI))(args:ZI)(δ:DS)(Q:D->ZO)(_w:Wt Q:=⟨⟩):Prop:=match o with
 |some (some (.list ds))=>EO (op ds args) i δ Q
 |_=>TK
def ś(o:Option Nat)(ds:ZI)(v:D)(i:Nat)(δ:DS)(N:ZO)(_w:Wt N:=⟨⟩):Prop:=match o with
 |some j=>N (δ.set i (some (.list (ds.set j v))))
 |none=>TK
def Θ(o:Option (ZL))(k v:D)(i:Nat)(δ:DS)(N:ZO)(_w:Wt N:=⟨⟩):Prop:=match o,k with
 |some (some (.list ds)),.int n=>ś (oJ ds.length n) ds v i δ N
 |_,_=>TK
def jA:@v4=@TJ:=by funext o δ Q w;cases o<;>simp[v4,TJ,ć]
def l9:@gO=@EM:=by funext o δ Q w;rcases o with _|_|d<;>simp[gO,EM,ć]
def sS:@xT=@B5:=by funext d δ Q w;cases d<;>simp[xT,B5,ć]
def aCC:@Ś=@Ζ:=by funext o N w;cases o<;>simp[Ś,Ζ,ć]
def NT:@EO=@Ř:=by
 funext o i δ Q w;rcases o with _|⟨r,ds⟩
 .simp[EO,Ř,ć]
 .simp![EO,Ř]
  exact propext ⟨λq=>⟨_,_,rfl,q⟩,λ⟨_,_,h,q⟩=>by cases h;exact q⟩
def NU:∀{δ:DS}{i:Nat}{d:D},ř i d δ=if i<δ.length then some (δ.set i (some d))else none
 |[],i,d=>by cases i<;>rfl
 |a::l,0,d=>rfl
 |a::l,i+1,d=>by
  rw[ř,NU (δ:=l)];by_cases h:i<l.length
  .rw[Â h,Â (show i+1<(a::l).length from Nat.succ_lt_succ h)];rfl
  .rw[Ã h,Ã (show ¬i+1<(a::l).length from λz=>h (Nat.lt_of_succ_lt_succ z))]
def aIH:@EN=@Ε:=by
 funext i d δ N w;unfold EN Ε;rw[NU];by_cases h:i<δ.length
 .simp[h]
 .simp[h,ć]
section
variable {δ:DS}{N:ZO}
def ϑ:v4 (some r) δ Q=Q r δ:=rfl
def aLM:gO (some (some d)) δ Q=Q d δ:=rfl
def aII{Q:Bool->ZO}:xT (.bool b) δ Q=Q b δ:=rfl
def k_set:Ś (some δ) N=N δ:=rfl
def k_fill:VS (some ds) fn is δ Q=VR (fn ds) is δ Q:=rfl
def aIJ{os:DS}:VR (.ok d os) [] δ Q=Q d δ:=rfl
def aIK:VR (.ok d [some e]) [i] δ Q=Q d (δ.set i (some e)):=rfl
def aLN:Η (some (some (.list ds))) i op args δ Q=EO (op ds args) i δ Q:=rfl
def ϒ:EO (some (r,ds)) i δ Q=Q r (δ.set i (some (.list ds))):=rfl
def ϓ:Θ (some (some (.list ds))) (.int n) v i δ N=ś (oJ ds.length n) ds v i δ N:=rfl
def ϔ:ś (some j) ds v i δ N=N (δ.set i (some (.list (ds.set j v)))):=rfl
def ϕ:v4 (QQ (.int i) (.int j)) δ Q=(IntMulOk i j/\Q (.int (i*j)) δ):=by
 rw[jA];refine propext ⟨λzQ=>?_,λzQ=>by let⟨h,p⟩:=zQ;exact ⟨_,aBZ h,p⟩⟩;let⟨r,h,p⟩:=zQ;unfold QQ iD at h;dsimp only at h;split at h
 .rename_i hc;cases h;exact⟨hc,p⟩
 .cases h
def ϖ{d:D}:EO (LC ds [d]) i δ Q=(ds.length<sizeLine/\Q .none (δ.set i (some (.list (ds++[d]))))):=by
 rw[NT];refine propext ⟨λzQ=>?_,λzQ=>by let⟨h,p⟩:=zQ;exact ⟨_,_,Â h,p⟩⟩;let⟨r,d2,h,p⟩:=zQ;unfold LC at h;dsimp only at h;split at h
 .rename_i hc;cases h;exact⟨hc,p⟩
 .cases h
def VT{a b:ZI}:v4 (LF (.list a) (.list b)) δ Q=(a.length+b.length<=sizeLine/\Q (.list (a++b)) δ):=by
 have e:LF (.list a) (.list b)=if a.length+b.length<=sizeLine then some (.list (a++b))else none:=rfl;rw[e];rw[jA];unfold TJ;split
 .rename_i h;simp[h]
 .rename_i h;simp[h]
def aIL:EN 0 d (a0::δ) N=N (some d::δ):=rfl
def aIM:EN 1 d (a0::a1::δ) N=N (a0::some d::δ):=rfl
def aIN:EN 2 d (a0::a1::a2::δ) N=N (a0::a1::some d::δ):=rfl
def aIO:EN 3 d (a0::a1::a2::a3::δ) N=N (a0::a1::a2::some d::δ):=rfl
def aIP:EN 4 d (a0::a1::a2::a3::a4::δ) N=N (a0::a1::a2::a3::some d::δ):=rfl
def aIQ:EN 5 d (a0::a1::a2::a3::a4::a5::δ) N=N (a0::a1::a2::a3::a4::some d::δ):=rfl
def aIR:EN 6 d (a0::a1::a2::a3::a4::a5::a6::δ) N=N (a0::a1::a2::a3::a4::a5::some d::δ):=rfl
def aIS:EN 7 d (a0::a1::a2::a3::a4::a5::a6::a7::δ) N=N (a0::a1::a2::a3::a4::a5::a6::some d::δ):=rfl
def aIT:EN 8 d (a0::a1::a2::a3::a4::a5::a6::a7::a8::δ) N=N (a0::a1::a2::a3::a4::a5::a6::a7::some d::δ):=rfl
def aIU:EN 9 d (a0::a1::a2::a3::a4::a5::a6::a7::a8::a9::δ) N=N (a0::a1::a2::a3::a4::a5::a6::a7::a8::some d::δ):=rfl
def aCD:EN 10 d (a0::a1::a2::a3::a4::a5::a6::a7::a8::a9::a10::δ) N=N (a0::a1::a2::a3::a4::a5::a6::a7::a8::a9::some d::δ):=rfl
def aCE:EN 11 d (a0::a1::a2::a3::a4::a5::a6::a7::a8::a9::a10::a11::δ) N=N (a0::a1::a2::a3::a4::a5::a6::a7::a8::a9::a10::some d::δ):=rfl
def NV:EN 12 d (a0::a1::a2::a3::a4::a5::a6::a7::a8::a9::a10::a11::a12::δ) N=N (a0::a1::a2::a3::a4::a5::a6::a7::a8::a9::a10::a11::some d::δ):=rfl
def NW:EN 13 d (a0::a1::a2::a3::a4::a5::a6::a7::a8::a9::a10::a11::a12::a13::δ) N=N (a0::a1::a2::a3::a4::a5::a6::a7::a8::a9::a10::a11::a12::some d::δ):=rfl
def NX:EN 14 d (a0::a1::a2::a3::a4::a5::a6::a7::a8::a9::a10::a11::a12::a13::a14::δ) N=N (a0::a1::a2::a3::a4::a5::a6::a7::a8::a9::a10::a11::a12::a13::some d::δ):=rfl
def NY:EN 15 d (a0::a1::a2::a3::a4::a5::a6::a7::a8::a9::a10::a11::a12::a13::a14::a15::δ) N=N (a0::a1::a2::a3::a4::a5::a6::a7::a8::a9::a10::a11::a12::a13::a14::some d::δ):=rfl
end
section
def B6:bN (eK u v) δ N B C R=bN u δ (λδ1=>bN v δ1 N B C R) B C R:=by
 refine propext ⟨λh=>?_,VJ⟩;unfold bN eK at *;cases e:u δ with
 |stuck=>rw[e]at h;exact h
 |err x d=>rw[e]at h;exact h
 |ok fl d=>rw[e]at h;cases fl<;>exact h
def VU:bN xI δ N B C R=N δ:=rfl
def ϗ:bN (λδ=>.ok .brk δ) δ N B C R=B δ:=rfl
def VW:bN (λδ=>.ok .cont δ) δ N B C R=C δ:=rfl
def Ϙ:bN (jK i f) δ N B C R=aU f δ λd δ1=>EN i d δ1 N:=by
 rw[aIH];unfold bN jK aU Ε;cases f δ with
 |ok a d=>
  dsimp![Res.bind];by_cases h:i<d.length
  .rw[Â h]
   exact propext ⟨λq=>⟨h,q⟩,And.right⟩
  .rw[Ã h]
   exact propext ⟨False.elim,λq=>h q.1⟩
 |_=>rfl
def ϙ:bN (pL f) δ N B C R=aU f δ R:=by
 unfold bN pL aU;cases f δ<;>rfl
def VX:bN (BV f) δ N B C R=aU f δ λ_ δ1=>N δ1:=by
 unfold bN BV aU;cases f δ<;>rfl
def Ϛ:bN (qR c u v) δ N B C R=aU c δ λb δ1=>if b=true then bN u δ1 N B C R else bN v δ1 N B C R:=by
 refine propext ⟨λh=>?_,aLI⟩;unfold bN qR at h;unfold aU;cases e:c δ with
 |stuck=>rw[e]at h;exact h
 |err x d=>rw[e]at h;exact h
 |ok b d=>
  rw[e]at h;cases b
  .exact h
  .exact h
def ϛ{set:D->DS->Option DS}:bN (Β set f) δ N B C R=aU f δ λd δ1=>Ś (set d δ1) N:=by
 rw[aCC];unfold bN Β aU Ζ;cases f δ with
 |stuck=>rfl
 |err x d=>rfl
 |ok a d=>
  simp![Res.bind];cases set a d<;>simp
def Ϝ:aU (bF i) δ Q=gO δ[i]? δ Q:=by
 rw[l9];unfold aU bF EM;cases δ[i]? with
 |none=>simp
 |some o=>cases o<;>simp
def ϝ:aU (dC d) δ Q=Q d δ:=rfl
def Ϟ:aU (iF op f g) δ Q=aU f δ λa δ1=>aU g δ1 λb δ2=>v4 (op a b) δ2 Q:=by
 rw[jA];unfold aU iF TJ;cases f δ with
 |stuck=>rfl
 |err x d=>rfl
 |ok a d=>
  simp![Res.bind];cases g d with
  |stuck=>rfl
  |err x d=>rfl
  |ok b d=>dsimp only;cases op a b<;>simp
def ϟ:aU (sM op f) δ Q=aU f δ λa δ1=>v4 (op a) δ1 Q:=by
 rw[jA];unfold aU sM TJ;cases f δ with
 |stuck=>rfl
 |err x d=>rfl
 |ok a d=>simp![Res.bind];cases op a<;>simp
def N0{Q:ZI->ZO}:aU (bB []) δ Q=Q [] δ:=rfl
def VY{Q:ZI->ZO}:aU (bB (f::fs)) δ Q=aU f δ λa δ1=>aU (bB fs) δ1 λds δ2=>Q (a::ds) δ2:=by
 unfold aU;rw[bB];dsimp only;cases f δ with
 |stuck=>rfl
 |err x d=>rfl
 |ok a d=>
  simp![Res.bind];cases bB fs d<;>rfl
def Ϡ:aU (KC op fs) δ Q=aU (bB fs) δ λds δ1=>v4 (op ds) δ1 Q:=by
 rw[jA];unfold aU KC TJ;cases bB fs δ with
 |stuck=>rfl
 |err x d=>rfl
 |ok a d=>simp![Res.bind];cases op a<;>simp
def ϡ:aU (QN fs) δ Q=aU (bB fs) δ λds δ1=>ds.length<=sizeLine/\Q (.tuple ds) δ1:=by
 unfold aU QN;cases bB fs δ with
 |stuck=>rfl
 |err x d=>rfl
 |ok a d=>
  simp![Res.bind];split
  .rename_i z;split at z
   .rename_i h;cases z;simp[h]
   .cases z
  .rename_i z
   split at z
   .rename_i h
    exact absurd rfl (z _ _)
   .rename_i h;simp[h]
def Ϣ:aU (LA fs) δ Q=aU (bB fs) δ λds δ1=>ds.length<=sizeLine/\Q (.list ds) δ1:=by
 unfold aU LA;cases bB fs δ with
 |stuck=>rfl
 |err x d=>rfl
 |ok a d=>
  simp![Res.bind];split
  .rename_i z;split at z
   .rename_i h;cases z;simp[h]
   .cases z
  .rename_i z
   split at z
   .rename_i h
    exact absurd rfl (z _ _)
   .rename_i h;simp[h]
def ϣ{Q:Bool->ZO}:aU (dB f) δ Q=aU f δ λa δ1=>xT a δ1 Q:=by
 rw[sS];unfold aU dB B5;cases f δ with
 |stuck=>rfl
 |err x d=>rfl
 |ok a d=>cases a<;>simp[Res.bind]
def VZ{Q:Bool->ZO}:aU (p6 c) δ Q=aU c δ λb δ1=>Q (!b) δ1:=by
 unfold aU p6;cases c δ<;>rfl
def V1:aU (BZ f) δ Q=aU f δ λa δ1=>xT a δ1 λb δ2=>Q (.bool (!b)) δ2:=by
 rw[sS];unfold aU BZ B5;cases f δ with
 |stuck=>rfl
 |err x d=>rfl
 |ok a d=>cases a<;>simp[Res.bind]
def Ϥ{Q:Bool->ZO}:aU (QM c c') δ Q=aU c δ λb δ1=>if b=true then Q true δ1 else aU c' δ1 Q:=by
 unfold aU QM;cases c δ with
 |stuck=>rfl
 |err x d=>rfl
 |ok b d=>cases b<;>rfl
def V3{Q:Bool->ZO}:aU (GV c c') δ Q=aU c δ λb δ1=>if b=true then aU c' δ1 Q else Q false δ1:=by
 unfold aU GV;cases c δ with
 |stuck=>rfl
 |err x d=>rfl
 |ok b d=>cases b<;>rfl
def V4:aU (mT f g) δ Q=aU f δ λa δ1=>xT a δ1 λb δ1=>if b=true then aU g δ1 Q else Q (.bool false) δ1:=by
 rw[sS];unfold aU mT B5;cases f δ with
 |stuck=>rfl
 |err x d=>rfl
 |ok a d=>
  cases a with
  |bool b=>cases b<;>simp[Res.bind]
  |_=>simp[Res.bind]
def ϥ:aU (U4 f g) δ Q=aU f δ λa δ1=>xT a δ1 λb δ1=>if b=true then Q 'j' δ1 else aU g δ1 Q:=by
 rw[sS];unfold aU U4 B5;cases f δ with
 |stuck=>rfl
 |err x d=>rfl
 |ok a d=>
  cases a with
  |bool b=>cases b<;>simp[Res.bind]
  |_=>simp[Res.bind]
def V5:aU (iZ fn as) δ Q=aU (dJ as) δ λods δ1=>VS (eZ δ1 as ods) fn (aX as) δ1 Q:=by
 unfold aU iZ VS VR;cases dJ as δ with
 |ok ods d=>
  dsimp![Res.bind];cases eZ d as ods with
  |none=>rfl
  |some ds=>
   dsimp only;cases fn ds<;>rfl
 |_=>rfl
def N1{Q:List (ZL)->ZO}:aU (dJ []) δ Q=Q [] δ:=rfl
def N4{Q:List (ZL)->ZO}:aU (dJ (.val f::as)) δ Q=aU f δ λa δ1=>aU (dJ as) δ1 λds δ2=>Q (some a::ds) δ2:=by
 unfold aU;rw[dJ];dsimp only;cases f δ with
 |stuck=>rfl
 |err x d=>rfl
 |ok a d=>simp![Res.bind];cases dJ as d<;>rfl
def N5{Q:List (ZL)->ZO}:aU (dJ (.own j::as)) δ Q=gO δ[j]? δ λ_ δ=>aU (dJ as) δ λds δ2=>Q (none::ds) δ2:=by
 rw[l9];unfold aU EM;rw[dJ];dsimp only;cases δ[j]? with
 |none=>simp
 |some o=>
  cases o with
  |none=>simp
  |some d=>
   simp![Option.some.injEq,exists_eq_left'];cases dJ as δ<;>rfl
def Ϧ:aU (LB i op fs) δ Q=gO δ[i]? δ λ_ _=>aU (bB fs) δ λargs δ1=>Η δ1[i]? i op args δ1 Q:=by
 unfold aU LB gO Η EO;cases δ[i]? with
 |none=>rfl
 |some o=>
  cases o with
  |none=>rfl
  |some d=>
   dsimp only;cases bB fs δ with
   |ok args δ1=>
    dsimp![Res.bind];cases δ1[i]? with
    |none=>rfl
    |some o=>
     cases o with
     |none=>rfl
     |some d=>
      cases d with
      |list ds=>
       dsimp only;cases op ds args with
       |none=>rfl
       |some p=>rfl
      |_=>rfl
   |_=>rfl
def ϧ:aU (U1 i fk) δ Q=gO δ[i]? δ λ_ _=>aU fk δ λk δ1=>gO δ1[i]? δ1 λd δ1=>v4 (fM d k) δ1 Q:=by
 unfold aU U1 gO v4;cases δ[i]? with
 |none=>rfl
 |some o=>
  cases o with
  |none=>rfl
  |some d=>
   dsimp only;cases fk δ with
   |ok k δ1=>
    dsimp![Res.bind];cases δ1[i]? with
    |none=>rfl
    |some o=>
     cases o with
     |none=>rfl
     |some d=>
      dsimp only;cases fM d k<;>rfl
   |_=>rfl
def Ϩ:bN (U0 i fk fv) δ N B C R=aU fv δ λv δ1=>gO δ1[i]? δ1 λ_ δ1=>aU fk δ1 λk δ2=>Θ δ2[i]? k v i δ2 N:=by
 unfold bN U0 aU gO Θ ś;cases fv δ with
 |ok w δ1=>
  dsimp![Res.bind];cases δ1[i]? with
  |none=>rfl
  |some o=>
   cases o with
   |none=>rfl
   |some d=>
    dsimp only;cases fk δ1 with
    |ok k δ2=>
     dsimp only;cases δ2[i]? with
     |none=>rfl
     |some o=>
      cases o with
      |none=>rfl
      |some d=>
       cases d with
       |list ds=>
        cases k with
        |int n=>
         dsimp only;cases oJ ds.length n<;>rfl
        |_=>rfl
       |_=>rfl
    |_=>rfl
 |_=>rfl
def V6:aU (G6 i) δ Q=gO δ[i]? δ λd δ=>v4 (lZ [d]) δ Q:=by
 rw[l9,jA];unfold aU G6 EM TJ;cases δ[i]? with
 |none=>simp
 |some o=>
  cases o with
  |none=>simp
  |some d=>
   simp![Option.some.injEq,exists_eq_left'];cases e:lZ [d]<;>simp
def ϩ:aU (Ĭ c f g) δ Q=aU c δ λb δ1=>if b=true then aU f δ1 Q else aU g δ1 Q:=by
 unfold aU Ĭ;cases c δ with
 |stuck=>rfl
 |err x d=>rfl
 |ok b d=>cases b<;>rfl
def aLT{i j:Int}:LF (.int i) (.int j)=some (.int (i+j)):=rfl
def aLU{i j:Int}:ż (.int i) (.int j)=some (.int (i-j)):=rfl
def Ϫ{i:Int}:Ž (.int i)=some (.int (-i)):=rfl
def aOQ{i j:Int}:ő (.int i) (.int j)=some (.bool (decide (i<j))):=rfl
def aOR{i j:Int}:ĭ (.int i) (.int j)=some (.bool (decide (i<=j))):=rfl
def aOS{i j:Int}:ό (.int i) (.int j)=some (.bool (decide (j<i))):=rfl
def aOT{i j:Int}:aQF (.int i) (.int j)=some (.bool (decide (j<=i))):=rfl
def LK{i j:Int}:TF (.int i) (.int j)=some (.bool (decide (i=j))):=by rw[aB0];congr 2
def ϫ{i j:Int}:EB (.int i) (.int j)=some (.bool (decide (i≠j))):=by
 rw[NM];congr 2;rw[Bool.eq_iff_iff];simp
def Ϭ{i j:Bool}:EB (.bool i) (.bool j)=some (.bool (decide (i≠j))):=by
 rw[VD];congr 2;cases i<;>cases j<;>rfl
def N6{i j:Int}(h:0<j):D9 (.int i) (.int j)=some (.int (i % j)):=HD h
def aCF{i j:Int}(h:0<j)(h2:fK 9000 j):G8 (.int i) (.int j)=some (.int (i/j)):=QV h (fK.log2 h2)
def ϭ{i:Int}:ž [.int i]=some (.int (i.natAbs:Int)):=by
 show some (PyData.int (if i<0 then -i else i))=_;congr 2;split<;>lia
def V7:lZ [.list ds]=some (.int ds.length):=rfl
def aIV:lZ [.tuple ds]=some (.int ds.length):=rfl
def aLW{i:Int}:fM (.list ds) (.int i)=atI ds i:=rfl
def aLX{i:Int}:fM (.tuple ds) (.int i)=atI ds i:=rfl
def xU{as:List α}:atI (a::as) 0=some a:=dP (j:=0) rfl
def Ϯ{as:List α}(h:k<as.length):atI as (k:Int)=some as[k]:=dP (Ê h)
def sT{as:List α}:atI (a::b::as) 1=some b:=dP (j:=1) rfl
def p9{a b c:α}:atI (a::b::c::as) 2=some c:=dP (j:=2) rfl
def B7{a b c d:α}:atI (a::b::c::d::as) 3=some d:=dP (j:=3) rfl
def V8{a b c d e:α}:atI (a::b::c::d::e::as) 4=some e:=dP (j:=4) rfl
def ϯ{a b c d e f:α}:atI (a::b::c::d::e::f::as) 5=some f:=dP (j:=5) rfl
def ϰ{a b c d e f g:α}:atI (a::b::c::d::e::f::g::as) 6=some g:=dP (j:=6) rfl
end
def N7(h:n<=1000):(n<=sizeLine)=True:=eq_true (Ü h ⋯)
def aOU:gE .bool (.bool b)=some 'j':=rfl
def c6{d:D}(h:aU f δ λa δ1=>a=d/\δ1=δ):f δ=.ok d δ:=by
 let⟨a,δ1,e,rfl,rfl⟩:=h.ex;exact e
def xV{f e:M D}{δ:DS}{n:Int}{g:Nat->D}(hf:f δ=.ok (.int n) δ)(h0:0<=n)(h1:n<2^20)(he:∀k:Nat,(k:Int)<n->aU e (some (.int k)::δ) λa δ1=>a=g k/\δ1=some (.int k)::δ):eD 1 (setN 0) (pM [f]) eE e δ=.ok (.list ((List.range n.toNat).map g)) δ:=by
 have hr:pM [f] δ=.ok (jL 0 n.toNat) δ:=by
  simp![pM,bB,hf,aW,kY];rw[Â ⟨∅,∅⟩]
 have:=B4 (e:=e) (g:=λd=>match d with|.int i=>g i.toNat|_=>.none) hr (λd hd=>by
  let⟨k,hk,rfl⟩:=Ö.mp hd;have hk:=List.mem_range.mp hk;have:=c6 (he k ∅);rw[Int.zero_add];exact this) (by rw[fW];show n.toNat<=2^24;lia)
 rw[this,jL];simp
def wI{set:D->DS->Option DS}{u:M Fl}{f:M D}{δ δ1:DS}{N B C:ZO}{R:D->ZO}{j:Int}(I:Nat->ZO)(hf:f δ=.ok (.int j) δ1)(hj:-1000<=j)(hj2:j<=1000)(h0:I 0 δ1)(hs:∀(k:Nat)(δ:DS),(k:Int)<j->I k δ->∃δ1,set (.int k) δ=some δ1/\bN u δ1 (I (k+1)) N (I (k+1)) R)(hN:∀δ,I j.toNat δ->N δ):bN (nF set (pM [f]) u) δ N B C R:=
 VL I hf ∅ ∅ h0 hs hN
def xW{set:D->DS->Option DS}{u:M Fl}{f:M D}{δ δ1:DS}{N B C:ZO}{R:D->ZO}{j:Nat}(I:Nat->ZO)(hf:f δ=.ok (.int (j:Int)) δ1)(hj:j<=1000)(h0:I 0 δ1)(hs:∀(k:Nat)(δ:DS),k<j->I k δ->∃δ1,set (.int k) δ=some δ1/\bN u δ1 (I (k+1)) N (I (k+1)) R)(hN:∀δ,I j δ->N δ):bN (nF set (pM [f]) u) δ N B C R:=
 wI I hf ∅ ∅ h0 (λk δ hk=>hs k δ ∅) λδ h=>hN δ (by rwa [ü]at h)
def k6{P:D->Prop}(h:bN body (ds.map some++List.replicate (m0-ds.length) none) (λ_=>False) (λ_=>False) (λ_=>False) λr _=>P r):∃r,aR m0 [] rm body ds=.ok r []/\P r:=by
 let⟨fl,δ1,e,q⟩:=h.ex;cases fl with
 |ret r=>exact⟨r,by unfold aR;rw[e];rfl,q⟩
 |next=>sleep 4
 |brk=>sleep 4
 |cont=>sleep 4
end L2
namespace L2
open PySem
def aLZ{α β:Type}{f:α->β}{a:α}:(some a).map f=some (f a):=rfl
def aOV{α β:Type}{f:α->Option β}:List.filterMap f []=[]:=rfl
def aOW{α:Type}{a:α}{l:List α}:(a::l)[i+1]?=l[i]?:=rfl
def aOX{α:Type}{a:α}{l:List α}:(a::l)[0]?=some a:=rfl
def ϱ{α:Type}{a b:α}:(some a=some b)=(a=b):=by simp
def ϲ{α:Type}{p:α->Prop}{a:α}:(∃x,a=x/\p x)=p a:=by simp
def aOY{α:Type}{a:α}{l:List α}:(a::l).length=l.length+1:=rfl
def aOZ{α:Type}:([]:List α).length=0:=rfl
def aO0{α:Type}{a x:α}{l:List α}:(a::l).set (i+1) x=a::l.set i x:=rfl
def aO1{α:Type}{a x:α}{l:List α}:(a::l).set 0 x=x::l:=rfl
def ϳ{a b:Prop}:(if True then a else b)=a:=by simp
def ϴ{a b:Prop}:(if False then a else b)=b:=by simp
def aQK:type_of% (Æ @B6 <| Æ @VU <| Æ @ϗ <| Æ @VW <| Æ @Ϙ <| Æ @ϙ <| Æ @VX <| Æ @Ϛ <| Æ @ϛ <| Æ @Ϝ <| Æ @ϝ <| Æ @Ϟ <| Æ @ϟ <| Æ @N0 <| Æ @VY <| Æ @Ϡ <| Æ @ϡ <| Æ @Ϣ <| Æ @ϣ <| Æ @VZ <| Æ @V1 <| Æ @Ϥ <| Æ @V3 <| Æ @V4 <| Æ @ϥ <| Æ @V5 <| Æ @N1 <| Æ @N4 <| Æ @N5 <| Æ @Ϧ <| Æ @ϧ <| Æ @Ϩ <| Æ @V6 <| Æ @ϩ <| Æ @Ϫ <| Æ @LK <| Æ @ϫ <| Æ @Ϭ <| Æ @ϭ <| Æ @xU <| Æ @sT <| Æ @p9 <| Æ @B7 <| Æ @V8 <| Æ @ϯ <| Æ @ϰ <| Æ @N7 <| Æ @ϓ <| Æ @ϔ <| Æ @ϕ <| Æ @ϖ <| Æ @VT <| Æ @NV <| Æ @NW <| Æ @NX <| Æ @NY <| Æ @ϱ <| Æ @ϲ <| Æ @Nat.zero_add <| Æ @true_and <| Æ @and_true <| Æ @Res.ok.injEq <| Æ @PySem.PyData.bool.injEq <| Æ @PySem.PyData.int.injEq <| Æ @PySem.PyData.list.injEq <| Æ @PySem.PyData.tuple.injEq <| Æ @Bool.not_true <| Æ @Bool.not_false <| Æ @Bool.false_eq_true <| Æ @ϳ <| @ϴ):=
 Æ @B6 <| Æ @VU <| Æ @ϗ <| Æ @VW <| Æ @Ϙ <| Æ @ϙ <| Æ @VX <| Æ @Ϛ <| Æ @ϛ <| Æ @Ϝ <| Æ @ϝ <| Æ @Ϟ <| Æ @ϟ <| Æ @N0 <| Æ @VY <| Æ @Ϡ <| Æ @ϡ <| Æ @Ϣ <| Æ @ϣ <| Æ @VZ <| Æ @V1 <| Æ @Ϥ <| Æ @V3 <| Æ @V4 <| Æ @ϥ <| Æ @V5 <| Æ @N1 <| Æ @N4 <| Æ @N5 <| Æ @Ϧ <| Æ @ϧ <| Æ @Ϩ <| Æ @V6 <| Æ @ϩ <| Æ @Ϫ <| Æ @LK <| Æ @ϫ <| Æ @Ϭ <| Æ @ϭ <| Æ @xU <| Æ @sT <| Æ @p9 <| Æ @B7 <| Æ @V8 <| Æ @ϯ <| Æ @ϰ <| Æ @N7 <| Æ @ϓ <| Æ @ϔ <| Æ @ϕ <| Æ @ϖ <| Æ @VT <| Æ @NV <| Æ @NW <| Æ @NX <| Æ @NY <| Æ @ϱ <| Æ @ϲ <| Æ @Nat.zero_add <| Æ @true_and <| Æ @and_true <| Æ @Res.ok.injEq <| Æ @PySem.PyData.bool.injEq <| Æ @PySem.PyData.int.injEq <| Æ @PySem.PyData.list.injEq <| Æ @PySem.PyData.tuple.injEq <| Æ @Bool.not_true <| Æ @Bool.not_false <| Æ @Bool.false_eq_true <| Æ @ϳ <| @ϴ
end L2
namespace L2
open PySem PySem.Spec
structure Sh(k:Nat)(d:D):Prop where
 lay:d.canLay0=true
 dep:d.depth<=k
def V9 :∀{ds:ZI},(∀d∈ds,Sh k d)->PyData.canLayAll0 ds=true/\PyData.depthAll ds<=k
 |[],_=>⟨by simp[PyData.canLayAll0],by simp[PyData.depthAll]⟩
 |d::ds,h=>by
  let⟨h1,h2⟩:=V9 (ds:=ds) λx hx=>h x (Ó _ hx);have hd:=h d Ô;refine⟨by simp[PyData.canLayAll0,hd.lay,h1],?_⟩;have:=hd.dep;simp![PyData.depthAll];lia
def WA{ds:ZI}(h:∀d∈ds,Sh k d):Sh (k+1) (.tuple ds):=by
 let⟨h1,h2⟩:=V9 h;exact⟨by simpa[PyData.canLay0]using h1,by simp![PyData.depth];exact Nat.lt_succ_of_le ‹_›⟩
def Sh.shaped(h:Sh k d)(e:k<=64):SeqAt.shaped d=true:=by
 unfold SeqAt.shaped;rw[h.lay,decide_eq_true (Ü h.dep e)];rfl
def N8:NK [.list ds]=some (.list ds):=rfl
def aL3{xs:ZK}:ŕ [.list (xs.map PyData.int)]=some (.int xs.sum):=by
 show (cQ (xs.map PyData.int)).map _=_;rw[i7];rfl
def sU{k:Nat}(h:k<=ds.length):EF (.list ds) (some (k:Int)) none=some (.list (ds.drop k)):=by
 show some (PyData.list (HB ds (some (k:Int)) none))=_;unfold HB;rw[HT.sIx_none,HT.sIx_nat,Nat.min_eq_left h,List.take_of_length_le 'e']
section
def WB:aU (Į op f lo hi) δ Q=aU f δ λd δ1=>aU (kG lo) δ1 λl δ2=>aU (kG hi) δ2 λu δ3=>v4 (op d l u) δ3 Q:=by
 rw[jA];unfold aU Į TJ;cases f δ with
 |stuck=>rfl
 |err x d=>rfl
 |ok a d=>
  simp![Res.bind];cases kG lo d with
  |stuck=>rfl
  |err x d=>rfl
  |ok l d=>
   dsimp only;cases kG hi d with
   |stuck=>rfl
   |err x d=>rfl
   |ok u d=>dsimp only;cases op a l u<;>simp
def Ŝ(d:D)(δ:DS)(Q:Option Int->ZO)(_w:Wt Q:=⟨⟩):Prop:=∃i,d=.int i/\Q (some i) δ
def B8{Q:Option Int->ZO}:Ŝ (.int i) δ Q=Q (some i) δ:=by unfold Ŝ;simp
def uV{Q:Option Int->ZO}:aU (kG none) δ Q=Q none δ:=rfl
def uW{Q:Option Int->ZO}:aU (kG (some f)) δ Q=aU f δ λd δ1=>Ŝ d δ1 Q:=by
 unfold aU kG Ŝ;dsimp only;cases f δ with
 |stuck=>rfl
 |err x d=>rfl
 |ok a d=>cases a<;>simp[Res.bind]
end
end L2
namespace L2
open PySem PySem.Spec PyProof.Rows
section
variable {X:Cx}{Z:cI}{ow:ZH}{pos:Pos}
def bZ.give{K:ZC}{d:D}(S:aP Z ow)(hps:i∉Z.ps)(R:bZ K Z ow F H σ δ)(e:δ[i]?=some (some d)):∃v,σ[i]?=some (some v)/\gD K Z ow (ow.getD i 0) d v F H σ (δ.set i none):=by
 let⟨g,R⟩:=R;let⟨v,e1,o⟩:=R.slot i d e;refine⟨v,e1,λb=>match g b with|some (j,p)=>if j=i then some (1000,p)else if j=1000 then none else some (j,p)|none=>none,⟨R.sub,R.f0,R.kept,R.new,R.there,λa j p e=>?_,by rw[Ï];exact R.len,R.par,λj d' e=>?_⟩,?_⟩
 .cases q:g a with
  |none=>rw[q]at e;cases e
  |some l=>
   let⟨j',p'⟩:=l;rw[q]at e;have e:(if j'=i then some (1000,p')else if j'=1000 then none else some (j',p'))=some (j,p):=e;split at e
   .rename_i z
    refine .inl ((R.lab a j' p' q).elim id λzQ=>by let⟨q',w⟩:=zQ;exact absurd (Z.wf a j' q' w) (by rw[z];exact hps))
   .split at e
    .cases e
    .cases e;exact R.lab a j p q
 .have hj:j≠i:=λz=>by
   subst z;by_cases hl:j<δ.length
   .rw[ß hl]at e;cases e
   .rw[ç (by rw[Ï];exact è.mp ‹_›)]at e;cases e
  rw[Ú (Í hj)]at e;let⟨w,e1,o1⟩:=R.slot j d' e;refine⟨w,e1,?_⟩;by_cases hz:ow.getD j 0=0
  .rw[hz]at o1⊢;exact o1
  .have j1:j<1000:=by
    by_cases hl:j<ow.length
    .exact Ù hl S.ow
    .exact absurd (by rw[Ë,ç (by exact è.mp ‹_›)];rfl) hz
   exact o1.relab λa p e=>by
    rw[e];dsimp only;rw[Ã hj,Ã (by exact Ð ‹_›)]
 .exact o.relab λa p e=>by
   rw[e];exact Â rfl
def N9(i:Nat):M D:=λδ=>match δ[i]? with
 |some (some d)=>.ok d (δ.set i none)
 |_=>.stuck
def EQ(i:Nat){x:Str}(S:aP Z ow)(ho:↥(ow.getD i 0=n))(hps:↥(Z.ps.contains i=false))(hN:↥(X.N[i]?=some x))(hv:#v[AU X.env.scope x])(hd:⇑(Zdb x))(hcd:⇑(Zcd x)):DE X Z ow n (.Name x pos) (N9 i):=
 (dA hN hv hd hcd).mono λσ H Q h=>by
  let⟨F,δ,R,h⟩:=h;unfold N9 at h;cases e:δ[i]? with
  |none=>sleep 5
  |some o=>
   cases o with
   |none=>sleep 5
   |some d=>
    rw[e]at h;let⟨v,e1,R'⟩:=R.give S (cP hps) e;rw[ho]at R';exact⟨v,e1,h v H F R' λ_ _ z=>z⟩
end
def f8:Option Int->ZK->Option Int
 |o,[]=>o
 |none,x::xs=>f8 (some x) xs
 |some m,x::xs=>f8 (some (if x>m then x else m)) xs
def ϵ:ZN->Array Value
 |none=>#[]
 |some v=>#[v,v]
def aL4(b:Option Int)(o:ZN):Prop:=match b,o with
 |none,none=>True
 |some m,some v=>∃t,v=.int m t
 |_,_=>False
section
variable {prog:Program}{w:World}{A:Around}{E:ZA}{s:Shared}
def HG(a d:Value):argsOk "max" ⟨[a],[("default",d)]⟩:=by unfold argsOk;kernel_rfl
def xX:∀o:ZN,(ϵ o).size<=sizeLine
 |none=>by show 0<=sizeLine;decide
 |some _=>by show 2<=sizeLine;decide
def aCH{x m:Int}{t t':Tok}{Q:ZA}(h:Q (.bool (decide (x>m))) s):wpAny 'p' A (richCompare .Gt (.int x t) (.int m t')) Q E s:=CmpOf.ints_gt (P:=λi v=>∃t,v=.int (if i=0 then x else m) t) (λi=>if i=0 then x else m) (λ_ _ h=>h) 0 1 _ _ s Q E ⟨t,rfl⟩ ⟨t',rfl⟩ (by simpa using h)
def QY{R:Result->Shared->Prop}{I S:Addr}{fp wr:ZM}{n:Nat}{P:Nat->Value->Prop}{St:Nat->Heap->Prop}{dv:Value}{xs:ZK}(W:Walks prog w A.in1 I fp wr n P St)(hP:∀i v,P i v->∃x t,xs[i]?=some x/\v=.int x t)(hx:xs.length=n)(hSf:S∉fp):
  ∀(k i:Nat)(s:Shared)(b:Option Int)(o:ZN)(c:Nat),n-i=k->i<=n->St i s.heap->aL4 b o->s.heap.get? S=some {cls:=.type "list",dict:=none,data:=.seq (ϵ o) c,slots:=#[]} ->
  (∀v h' tk,(match f8 b (xs.drop i)with|none=>v=dv|some m=>∃t,v=.int m t)->(∀b o,b∉wr->b≠S->s.heap.get? b=some o->h'.get? b=some o)->R (.ok (.ret v)) {s with heap:=h',toks:=tk}) ->
  codeAny 'p' A (.builtin "max.loop" ⟨[.ref I,.none,.ref S],[("default",dv)]⟩) R s:=by
 have hSw:S∉wr:=λh=>hSf (W.sub _ h);have nm:(toString "max"++toString ".loop":String)="max.loop":=by decide
 intro k
 induction k with
 |zero=>
  intro i s b o c hk hi hst hb hS hR;obtain rfl:i=n:=by lia
  rw[List.drop_of_length_le (by exact ù ‹_›),show f8 b []=b by cases b<;>rfl]at hR;refine codeAny_builtin F.entry_max_loop ?_;rw[Around.under_plainId F.plain_max_loop _];refine(show wpAny _ A.in1 (seqItems? (.ref S) >>= _) _ _ s from wpAny_bind (wpAny_seqItems hS rfl ?_));refine(show wpAny _ A.in1 (tryCatch (pyNext (.ref I)) _ >>= _) _ _ s from wpAny_bind (wpAny_tryCatch (W.done s _ _ hst λh' tk hk'=>?_)));cases o with
  |none=>
   cases b with
   |some m=>exact hb.elim
   |none=>exact wpAny_bind (wpAny_rule (wpAny_pure (hR dv h' tk rfl λb o h1 _ e=>hk' b o h1 e)))
  |some v=>
   cases b with
   |none=>exact hb.elim
   |some m=>
    refine(show wpAny _ A.in1 (updateSeq S (λ_=>#[]) >>= _) _ _ _ from wpAny_bind (wpAny_updateSeq (hk' S _ hSw hS) rfl (wpAny_bind (wpAny_letGo (wpAny_pure ?_))) (hz:=xX _) (_hz':=î _)));exact hR v _ tk hb λb o h1 h2 e=>(Heap.get?_update_other _ _ (Í h2)).trans (hk' b o h1 e)
 |succ k ih=>
  intro i s b o c hk hi hst hb hS hR;have hlt:i<n:=by lia
  refine codeAny_builtin F.entry_max_loop ?_;rw[Around.under_plainId F.plain_max_loop _];refine(show wpAny _ A.in1 (seqItems? (.ref S) >>= _) _ _ s from wpAny_bind (wpAny_seqItems hS rfl ?_));refine(show wpAny _ A.in1 (tryCatch (pyNext (.ref I)) _ >>= _) _ _ s from wpAny_bind (wpAny_tryCatch (W.item i s _ _ hlt hst λv h' tk hp hst' hk'=>?_)));have hS':=hk' S _ hSw hS;let⟨x,t,ex,rfl⟩:=hP i v hp;have ed:xs.drop i=x::xs.drop (i+1):=by
   let⟨h1,h2⟩:=Î.mp ex;rw[ñ h1,h2]
  rw[ed]at hR;have new:(∀v h' tk,(match f8 (some x) (xs.drop (i+1))with|none=>v=dv|some m=>∃t,v=.int m t)->(∀b o,b∉wr->b≠S->s.heap.get? b=some o->h'.get? b=some o)->R (.ok (.ret v)) {s with heap:=h',toks:=tk})->codeAny 'p' A (.builtin "max.loop" ⟨[.ref I,.none,.ref S],[("default",dv)]⟩) R {s with heap:=h'.update S (Obj.mapSeq λ_=>#[.int x t,.int x t]),toks:=tk}:=λhR=>ih (i+1) _ (some x) (some (.int x t)) _ ∅ hlt (W.frame _ _ _ hst' λb hbf o e=>(Heap.get?_update_other _ _ (λh:S=b=>hSf (by rw[h];exact hbf))).trans e) ⟨t,rfl⟩ (Heap.get?_update_self _ hS' rfl) λv h'' tk'' hv hk''=>hR v h'' tk'' hv λb o h1 h2 e=>hk'' b o h1 h2 ((Heap.get?_update_other _ _ (Í h2)).trans (hk' b o h1 e));cases o with
  |none=>
   cases b with
   |some m=>exact hb.elim
   |none=>
    refine(show wpAny _ A.in1 (updateSeq S (λ_=>#[.int x t,.int x t]) >>= _) _ _ _ from wpAny_bind (wpAny_updateSeq hS' rfl ?_ (hz:=xX _) (_hz':=(by show 2<=sizeLine+1;decide))));rw[nm];exact wpAny_pure ⟨plainId_quiet F.plain_max_loop _,new hR⟩
  |some vb=>
   cases b with
   |none=>exact hb.elim
   |some m=>
    let⟨t',rfl⟩:=hb;refine(show wpAny _ A.in1 (tryCatch (holding [.int x t,.int x t] (richCompare .Gt (.int x t) (.int m t') >>= _)) _ >>= _) _ _ _ from wpAny_bind (wpAny_tryCatch (wpAny_holding (wpAny_bind (aCH ?_)))));refine wpAny_bind (wpAny_holding (wpAny_truthy_bool (wpAny_bind (wpAny_letGo (wpAny_pure ?_)))));by_cases hg:x>m
    .rw[show f8 (some m) (x::xs.drop (i+1))=f8 (some x) (xs.drop (i+1)) by simp[f8,hg]]at hR
     simp![hg,decide_true,if_true];refine wpAny_bind (wpAny_updateSeq hS' rfl (wpAny_bind (wpAny_letGo ?_)) (hz:=xX _) (_hz':=(by show 2<=sizeLine+1;decide)));rw[nm];exact wpAny_pure ⟨plainId_quiet F.plain_max_loop _,new hR⟩
    .rw[show f8 (some m) (x::xs.drop (i+1))=f8 (some m) (xs.drop (i+1)) by simp[f8,hg]]at hR
     simp![hg,decide_false,Bool.false_eq_true,if_false];refine wpAny_bind (wpAny_letGo ?_);rw[nm];exact wpAny_pure ⟨plainId_quiet F.plain_max_loop _,ih (i+1) _ (some m) (some (.int m t')) c ∅ hlt hst' ⟨t',rfl⟩ hS' λv h'' tk'' hv hk''=>hR v h'' tk'' hv λb o h1 h2 e=>hk'' b o h1 h2 (hk' b o h1 e)⟩
def QZ{x dv:Value}{xs:ZK}{Q:ZA}(h:wpAny 'p' A.in1 (pyIter x) (λit s₂=>∃I fp wr n P St,it=.ref I/\Walks prog w A.in1 I fp wr n P St/\St 0 s₂.heap/\(∀b∈fp,b<s₂.heap.objs.size)/\(∀i v,P i v->∃x t,xs[i]?=some x/\v=.int x t)/\xs.length=n /\
   ∀v h' tk,(match f8 none xs with|none=>v=dv|some m=>∃t,v=.int m t)->(∀b o,b∉wr->s₂.heap.get? b=some o->h'.get? b=some o)->Q v {s₂ with heap:=h',toks:=tk}) E s):wpAny 'p' A (call (.builtin "max") [x] [("default",dv)]) Q E s:=by
 have nm:(toString "max"++toString ".loop":String)="max.loop":=by decide
 refine wpAny_call (codeAny_call_builtin F.plain_max F.entry_max ?_);simp![checkBuiltinCall,F.kind_max];have key:wpAny 'p' A.in1 (Builtin.«max» ⟨[x],[("default",dv)]⟩) (λfin s'=>match fin with
   |.done f=>(match (Except.ok f:Result)with|.ok (.ret v)=>Q v s'|.ok _=>False|.error e=>E e s')
   |.again c'=>c'.quiet=true/\codeAny 'p' A c' (λr s'=>match r with|.ok (.ret v)=>Q v s'|.ok _=>False|.error e=>E e s') s') E s:=by
  refine(show wpAny _ A.in1 (Builtin.Builtins.bindParams "max" ["key","default"] 0 ⟨[],[("default",dv)]⟩ >>= _) _ _ s from wpAny_bind (wpAny_of_eq (show Builtin.Builtins.bindParams "max" ["key","default"] 0 ⟨[],[("default",dv)]⟩=pure [none,some dv]from rfl) ?_));refine wpAny_bind (wpAny_pure (wpAny_bind (wpAny_mono h (λit s₂ h₂=>?_) λ_ _ e=>e)));let⟨I,fp,wr,n,P,St,rfl,W,hst,hfp,hP,hx,hQ⟩:=h₂;refine wpAny_bind (wpAny_newObj_type ?_);have hSf:s₂.heap.objs.size∉fp:=λhm=>ú _ (hfp _ hm);rw[nm];refine wpAny_pure ⟨plainId_quiet F.plain_max_loop _,QY (dv:=dv) W hP hx hSf _ 0 _ none none _ rfl (î _) (W.frame _ _ _ hst λb _ o e=>Heap.get?_push_of_some _ e) trivial (Heap.get?_push_size _ rfl) λv h' tk hv hk=>?_⟩;rw[List.drop_zero]at hv;exact hQ v h' tk hv λb o hbw e=>hk b o hbw (Ð (Heap.lt_size e)) (Heap.get?_push_of_some _ e)
 have ha:=HG x dv;cases hsig:Manifest.signature? "max"with
 |none=>exact wpAny_pure key
 |some sig=>
  simp![argsOk,hsig]at ha;have h2:Bind.checkArgs "max" sig ⟨[x],[("default",dv)]⟩=pure ():=ha;refine(show wpAny _ A.in1 (Bind.checkArgs "max" sig ⟨[x],[("default",dv)]⟩) _ _ s from ?_);rw[h2];exact wpAny_pure key
end
section
def aL5(X:Cx)(te tc:TE):TE:=λσ H Q=>M4 te ŉ σ H λvs H1=>tc σ H1 λd H2=>∃(p:Addr)(xs:ZK),vs=[.ref p]/\d8 X.K H2 p (xs.map V.int)/\Q (match f8 none xs with|none=>d|some m=>.int m) H2
def WC{À:ZB}{s:Shared}{σ:St}{H:Hp}{Q:VK}{p:Addr}{xs:ZK}{d:V}{dv:Value}(hc:X.calm=true)(I:Inv X À σ H s)(hq:d8 X.K H p (xs.map V.int))(rd:bH d dv)(q:Q (match f8 none xs with|none=>d|some m=>.int m) H):
  wpAny 'b' X.A (call (.builtin "max") [.ref p] [("default",dv)]) (EP X À σ Q) X.xe s:=by
 let⟨its,rv,pl,hz⟩:=I.list hq;refine QZ (xs:=xs) (wpAny_pyIter_list pl.isList ?_);have hlen:=rv.length;rw[Å]at hlen;have hlt:p<s.heap.objs.size:=by
  let⟨o,n,e,_⟩:=pl;exact Heap.lt_size e
 have ph:Inv X À σ H {s with heap:=s.heap.push {cls:=.type "list_iterator",data:=.fields #[.ref p,.int 0 0]}}:=I.kept (t':=s.toks) λb o e=>Heap.get?_push_of_some _ e;let⟨its',rv',pl',_⟩:=ph.list hq;have e1:its=its':=by
  let⟨o,n,e,c,dn,d⟩:=pl;let⟨o',n',e',c',dn',d'⟩:=pl';have e2:=Heap.get?_push_of_some {cls:=.type "list_iterator",data:=.fields #[.ref p,.int 0 0]} e;rw[e2]at e';cases e';rw[d]at d';injection d' with d1 _;simpa using congrArg Array.toList d1
 subst e1;refine⟨s.heap.objs.size,_,_,_,_,_,rfl,Walks.list (A:=X.A.in1) (show X.A.in1.handled=none from I.ok.hd hc) s.heap.objs.size p (Ð hlt) its.toArray,⟨⟨_,Heap.get?_push_size _ rfl,rfl,rfl⟩,pl'.isList⟩,λb hb=>?_,λi v hv=>?_,by simp;assumption,λv h' tk hv k=>?_⟩
 .show b<(s.heap.push _).objs.size
  rw[Heap.size_push]
  grind
 .have hv:its.toArray[i]?=some v:=hv
  exact bI.int_at (i:=i) rv (by simpa using hv)
 .have I2:=ph.turned (it:=s.heap.objs.size) (h':=h') (t':=tk) (λb o hb e=>k b o (by simpa using hb) e) (I.hok.fresh (È _)) (Þ I.lt) (.inr I.sz) (λx c e=>by
   let⟨v,q⟩:=I.cell x c e;exact Ð q.lt) λp hp=>Ð (Heap.lt_size (I.pin p hp).1)
  refine⟨_,H,I2,?_,q⟩;cases eb:f8 none xs with
  |none=>grind
  |some m=>rw[eb]at hv;exact hv
def aCI{p pos kp:Pos}(hc:X.calm=true)(hg:Gl X "max")(hm:X.mg "max"=none)(ha:PE X e te)(hd:PE X c tc)(hs:↥(Zse e [] X.env))(hv:bootBuiltins "max"=some (.builtin "max"):=by decide +kernel):
  PE X (.Call (.Name "max" p) [e] [⟨some "default",c,kp⟩] pos) (aL5 X te tc):=by
 intro À s σ H Q I h;refine wpAny_Call_Name_kw (iE I hg hm hv ?_ ⋯ ⋯);have a1:backTo pos (starEach [e] X.env)=(false,eval e X.env)::backTo pos (starEach [] X.env):=by rw[hs];rfl
 refine callWith_kw (cA ((dO ha iW hs) pos À s σ H _ I h) λus s1 zQ=>?_) a1 (by rw[a1];rfl) rfl rfl;let⟨vs,H1,I1,r,q⟩:=zQ;refine kws_cons (cA (hd À s1 σ H1 _ I1 q) λu s2⟨d,H2,I2,rd,q2⟩=>kws_nil ?_);let⟨l,xs,rfl,hq,q2⟩:=q2;let⟨u',rfl,rx⟩:=pV r;cases rx;exact WC hc I2 hq rd q2
def HH(f g:M D):M D:=λδ=>(f δ).bind λd δ1=>(g δ1).bind λe δ2=>match d,e with
 |.list ds,.int n=>(match cQ ds with
  |some xs=>.ok (.int ((f8 none xs).getD n)) δ2
  |none=>.stuck)
 |_,_=>.stuck
def aCJ(hc:X.calm=true)(hg:Gl X "max")(hm:X.mg "max"=none)(ha:DE X Z ow 0 e f)(hd:DE X Z ow 0 c g)(hs:↥(Zse e [] X.env)):DE X Z ow 0 (.Call (.Name "max" p) [e] [⟨some "default",c,kp⟩] pos) (HH f g):=
 (aCI hc hg hm ha hd hs).mono λσ H Q h=>by
  let⟨F,δ,R,h⟩:=h;unfold HH at h;sleep 1;cases e1:f δ with
  |stuck=>rw[e1]at h;exact h.elim
  |err x δ1=>rw[e1]at h;exact h
  |ok d1 δ1=>
   rw[e1]at h;intro x H1 F1 R1 s1;refine⟨F1,δ1,R1.rel,?_⟩;simp![Res.bind]at h;cases e2:g δ1 with
   |stuck=>rw[e2]at h;exact h.elim
   |err x δ2=>rw[e2]at h;exact jJ.mono h s1
   |ok d2 δ2=>
    rw[e2]at h;simp![Res.bind]at h;intro y H2 F2 R2 s2;split at h
    .rename_i ds n
     cases e3:cQ ds with
     |none=>rw[e3]at h;exact h.elim
     |some xs=>
      rw[e3]at h;let⟨l,vs,rfl,hx,rx⟩:=jM R1.rep;rw[i8 e3 rx]at hx;have ry:=R2.rep;unfold bE at ry;subst ry;refine⟨l,xs,rfl,R2.rel.sub.seq (s2.seq hx),h _ H2 F2 (R2.rel.x ?_) (s1.trans' s2)⟩;cases f8 none xs with
      |none=>show bE X.K F2 (.int n) (.int n);unfold bE;rfl
      |some m=>show bE X.K F2 (.int m) (.int m);unfold bE;rfl
    .exact h.elim
end
section
end
end L2
namespace L2
open PySem PySem.Spec
section
def OA:D->D->ZL
 |.list ds,.int n=>(cQ ds).map λxs=>.int ((f8 none xs).getD n)
 |_,_=>none
def aCK:HH f g=iF OA f g:=by
 funext δ;unfold HH iF;cases f δ with
 |stuck=>rfl
 |err x d=>rfl
 |ok a d=>
  simp![Res.bind];cases g d with
  |stuck=>rfl
  |err x d=>rfl
  |ok b d=>
   simp![Res.bind];cases a<;>cases b<;>try rfl
   rename_i ds n;simp![OA];cases cQ ds<;>rfl
def aIW:aU (HH f g) δ Q=aU (iF OA f g) δ Q:=by rw[aCK]
def ER:aU (N9 i) δ Q=gO δ[i]? δ λd δ=>Q d (δ.set i none):=by
 rw[l9];unfold aU N9 EM;cases e:δ[i]? with
 |none=>simp
 |some o=>cases o<;>simp
def aL6:aU (ŗ i lo hi) δ Q=gO δ[i]? δ λ_ _=>aU (kG lo) δ λl δ1=>aU (kG hi) δ1 λu δ2=>gO δ2[i]? δ2 λd δ2=>v4 (EF d l u) δ2 Q:=by
 unfold aU ŗ gO v4;cases δ[i]? with
 |none=>rfl
 |some o=>
  cases o with
  |none=>rfl
  |some d0=>
   dsimp only;cases kG lo δ with
   |ok l δ1=>
    dsimp![Res.bind];cases kG hi δ1 with
    |ok u δ2=>
     dsimp only;cases δ2[i]? with
     |none=>rfl
     |some o=>
      cases o with
      |none=>rfl
      |some d=>cases d<;>rfl
    |_=>rfl
   |_=>rfl
def uX{ds zs:ZI}:EO (VM ds [.list zs]) i δ Q=(ds.length+zs.length<=sizeLine/\Q .none (δ.set i (some (.list (ds++zs))))):=by
 by_cases h:ds.length+zs.length<=sizeLine
 .have:VM ds [.list zs]=some (.none,ds++zs):=Â h
  rw[this,ϒ];simp[h]
 .have:VM ds [.list zs]=none:=Ã h
  rw[this];simp[h,NT,Ř]
def aIX{a b:ZI}:v4 (G7 (.list a) (.list b)) δ Q=(a.length+b.length<=sizeLine/\Q (.list (a++b)) δ):=by
 by_cases h:a.length+b.length<=sizeLine
 .have:G7 (.list a) (.list b)=some (.list (a++b)):=Â h
  rw[this,ϑ];simp[h]
 .have:G7 (.list a) (.list b)=none:=Ã h
  rw[this];simp[h,jA,TJ]
end
end L2
namespace L2
open PySem PySem.Spec PyProof.Rows
def wJ:D->Option (ZI)
 |.list xs=>some xs
 |.tuple xs=>some xs
 |_=>none
def ļ:D->D->ZL:=λa b=>match wJ b with
 |some xs=>if SeqAt.shaped a=true/\SeqAt.shaped b=true then some (.bool (xs.any λy=>PyData.eqv y a))else none
 |none=>none
section
def Ϸ(K:ZC):R2:=λx y H Q=>∃d e xs,bE K H d x/\bE K H e y/\wJ e=some xs/\SeqAt.shaped d=true/\SeqAt.shaped e=true/\Q (.bl (xs.any λy=>PyData.eqv y d)) H
def aIY(hu:X.A.units+64<cLine):kC X (compareOp .In) (Ϸ X.K):=by
 intro À s σ H x y v u Q I rx ry h;let⟨d,e,xs,hd,he,hi,sd,se,q⟩:=h;let⟨as,ra⟩:=bE.reads I d x v (gK sd) hd rx;let⟨bs,rb⟩:=bE.reads I e y u (gK se) he ry;have lay:=SeqAt.canLay_of_shaped se;have dep:=SeqAt.depth_of_shaped se;have ld:=SeqAt.canLay_of_shaped sd;cases e with
 |list ys=>
  cases hi;rw[PyData.depth]at dep;have:min (PyData.depthAll xs) d.depth<=PyData.depthAll xs:=Nat.min_le_left _ _;exact SeqAt.in_list_reads rb ra (by simpa[PyData.canLay0]using lay) ld ∅ (m5 I q rfl)
 |tuple ys=>
  cases hi;rw[PyData.depth]at dep;have:min (PyData.depthAll xs) d.depth<=PyData.depthAll xs:=Nat.min_le_left _ _;exact SeqAt.in_tuple_reads rb ra (by simpa[PyData.canLay0]using lay) ld ∅ (m5 I q rfl)
 |_=>cases hi
def aIZ:oP X (Ϸ X.K) 0 ļ:=λZ ow F H σ δ a b x y d Q S R ra rb e q=>by
 unfold ļ at e;cases hi:wJ b with
 |none=>rw[hi]at e;cases e
 |some xs=>
  rw[hi]at e;dsimp only at e;split at e
  .rename_i hc
   cases e;exact⟨a,b,xs,R.sub.rep _ _ ra,R.sub.rep _ _ rb,hi,hc.1,hc.2,q _ H F (R.x iS) 'o'⟩
  .cases e
end
section
variable {X:Cx}{Z:cI}{ow ol ox:ZH}{n rm m:Nat}{pos:Pos}{e a b c tg:Expr}{f h:M D}{F F' H H':Hp}{σ:St}{δ δ':DS}{g g':ZP}{K:ZC}
def bA.keep(hF:aI F F')(h:∀a p o,g a=some (i,p)->H a=some o->F a=none->g' a=some (i,p)/\H' a=some o/\F' a=none)(r:bA K F H g i n p d v):bA K F' H' g' i n p d v:=r.keepJ hF h
def iR.updNe{b:Addr}{i i0:Nat}{q0:ZH}{o:HO}(hb:g b=some (i0,q0)){f c:Nat}{p:ZH}{d:D}{v:V}(hn:i≠i0\/¬p <+: q0)(r:iR K F H g i f c p d v):iR K F (aV H b o) g i f c p d v:=by
 induction f generalizing c p d v with
 |zero=>
  cases c with
  |zero=>exact r
  |succ c=>exact r.elim
 |succ f ih=>
  cases c with
  |zero=>exact r
  |succ c=>
   let⟨ds,vs,cs,nd,hc,hl,r⟩:=r;refine⟨ds,vs,cs,nd,λx hx=>?_,hl,λk d' v' z1 z2=>ih (hn.imp id λz w=>z ((List.prefix_append p [k]).trans w)) (r k d' v' z1 z2)⟩;let⟨a1,a2,a3⟩:=hc x hx;have ne:x.1≠b:=λz=>by
    rw[z,hb]at a1;cases a1;exact hn.elim (λz=>z rfl) λz=>z (List.prefix_append _ _)
   exact⟨a1,by rw[aE ne];exact a2,a3⟩
def bA.updNe{b:Addr}{i i0:Nat}{q0:ZH}{o:HO}(hb:g b=some (i0,q0)){n:Nat}{p:ZH}{d:D}{v:V}(hn:i≠i0\/¬p <+: q0)(r:bA K F H g i n p d v):bA K F (aV H b o) g i n p d v:=iR.updNe hb hn r
def KF:ZH->DS->DS
 |[],δ=>δ
 |_::_,[]=>[]
 |n::ow,o::δ=>(if n=0 then o else none)::KF ow δ
def OB:∀{ow:ZH}{δ:DS},(KF ow δ).length=δ.length
 |[],_=>rfl
 |_::_,[]=>rfl
 |n::ow,o::δ=>by unfold KF;rw[Û,Û,OB]
def WD:∀{ow:ZH}{δ:DS}{i:Nat}{d:D},(KF ow δ)[i]?=some (some d)->ow.getD i 0=0/\δ[i]?=some (some d)
 |[],_,i,_,e=>⟨by simp,e⟩
 |_::_,[],_,_,e=>by unfold KF at e;cases e
 |n::ow,o::δ,0,d,e=>by
  unfold KF at e;rw[List.getElem?_cons_zero]at e;split at e
  .rename_i h;exact⟨h,e⟩
  .cases e
 |n::ow,o::δ,i+1,d,e=>by
  unfold KF at e;rw[List.getElem?_cons_succ]at e;let⟨h1,h2⟩:=WD e;exact⟨by simpa using h1,by simpa using h2⟩
def cV.hide(R:cV K Z ow g F H σ δ):bZ K (cW F H σ m) 'c' F H σ (KF ow δ):=
 ⟨λ_=>none,R.sub,⟨R.f0.lm,λ_ _ z=>z⟩,λ_ _ _ e=>e,λ_ h _=>h,λ_ h=>h,λ_ _ _ e=>(by cases e),by rw[OB];exact R.len,λi hi=>(by cases hi),λi d e=>by
  let⟨h0,e⟩:=WD e;let⟨v,e1,o⟩:=R.slot i d e;rw[h0]at o;exact⟨v,e1,by rw[i9];exact o⟩⟩
def cV.back(R:cV K Z ow g F H σ δ)(R':cV K (cW F H σ m) 'c' g' F' H' σ δ'):cV K Z ow g F' H' σ δ:=by
 have hk:∀b o,H b=some o->H' b=some o:=λb o e=>R'.kept b o rfl e;refine⟨R'.sub,R.f0.trans' R'.f0.2,λb o n e=>hk b o (R.kept b o n e),λa h1 h2=>R'.new a (R.new a h1 h2) (R.there a h2),λb h=>?_,R.lab,R.len,R.par,λi d e=>?_⟩
 .cases e:H b with
  |none=>exact absurd e (R.there b h)
  |some o=>rw[hk b o e];simp
 .obtain⟨v,e1,o⟩:=R.slot i d e
  exact⟨v,e1,o.keep (show aI F F' from R'.f0.2) λa p o e1 e2 e3=>⟨e1,hk a o e2,R'.new a e3 (show H a≠none by rw[e2];simp)⟩⟩
def cV.at2{i j:Nat}{ds inner:ZI}(R:cV K Z ow g F H σ δ)(ho:ow.getD i 0=2)(hd:δ[i]?=some (some (.list ds)))(hj:ds[j]?=some (.list inner)):
  ∃a vs b ws,σ[i]?=some (some (.ref a))/\H a=some (.lst vs)/\ds.length=vs.length/\vs[j]?=some (.ref b)/\H b=some (.lst ws)/\aD K F inner ws:=by
 let⟨v,e1,o⟩:=R.slot i _ hd;rw[ho]at o;let⟨a,ds0,vs,q1,q2,q3,q4,q5,q6,q7⟩:=o.lst (m:=1);cases q1;subst q2;have jl:j<vs.length:=by rw[<- q6];exact(Î.mp hj).1
 let⟨b,inner',ws,w1,w2,w3,w4,w5,w6,w7⟩:=(q7 j _ _ hj (Ê jl)).lst (m:=0);cases w1;exact⟨a,vs,b,ws,e1,q4,q6,by rw[Ê jl,w2],w4,aD.of w6 w7⟩
def cV.rewrite2{a b:Addr}(R:cV K Z ow g F H σ δ)(ho:ow.getD i 0=2)(hd:δ[i]?=some (some (.list ds)))(hs:σ[i]?=some (some (.ref a)))(ha:H a=some (.lst vs))(hb:vs[j]?=some (.ref b))(hr:aD K F inner' vs'):
  cV K Z ow g F (aV H b (.lst vs')) σ (δ.set i (some (.list (ds.set j (.list inner'))))):=by
 let⟨v,e1,o⟩:=R.slot i _ hd;rw[hs]at e1;cases e1;rw[ho]at o;let⟨a',ds0,vs0,q1,q2,q3,q4,q5,q6,q7⟩:=o.lst (m:=1);cases q1;cases q2;rw[ha]at q4;cases q4;have jl:j<vs.length:=(Î.mp hb).1;have jd:j<ds.length:=by exact õ ‹_› (Eq.symm ‹_›)
 let⟨b',inner,ws,w1,w2,w3,w4,w5,w6,w7⟩:=(q7 j _ _ (Ê jd) hb).lst (m:=0);cases w2;have hi:i<δ.length:=(Î.mp hd).1;have nab:a≠b:=λz=>by rw[z,w3]at q3;cases q3
 refine⟨λb' u e=>?_,R.f0,λb' u n e=>?_,R.new,λb' z=>?_,R.lab,by rw[Ï];exact R.len,R.par,λk d e=>?_⟩
 .have:b'≠b:=λz=>by rw[z,w5]at e;cases e
  rw[aE this];exact R.sub b' u e
 .have:b'≠b:=λz=>by
   subst z;rcases R.lab b' i _ w3 with w|⟨q,w⟩
   .rw[w]at e;cases e
   .rw[w]at n;cases n
  rw[aE this];exact R.kept b' u n e
 .by_cases hb':b'=b
  .subst hb';rw[aJ];simp
  .rw[aE hb'];exact R.there b' z
 .by_cases hk:k=i
  .subst hk
   rw[ß hi]at e;cases e;refine⟨_,hs,?_⟩;rw[ho];refine bA.mkL (m:=1) ⟨a,_,vs,rfl,rfl,q3,by rw[aE nab];exact ha,q5,by rw[Ï];exact q6,λl d' v' z1 z2=>?_⟩
   by_cases hl:j=l
   .subst hl
    rw[ß jd]at z1;cases z1;rw[hb]at z2;cases z2;exact bA.mkL (m:=0) ⟨b,inner',vs',rfl,rfl,w3,aJ,w5,hr.len,λk d' v' z1 z2=>hr.both k d' v' z1 z2⟩
   .rw[Ú hl]at z1
    refine bA.updNe w3 (.inr λz=>?_) (q7 l d' v' z1 z2);have z:[l] <+: [j]:=z;let⟨t,ht⟩:=z;cases ht;exact hl rfl
  .rw[Ú (Í hk)]at e
   let⟨v,e1,o⟩:=R.slot k d e;exact⟨v,e1,bA.updNe w3 (.inl hk) o⟩
def qA(ow:ZH)(i:Nat)(fk:M D)(op:ZI->ZI->Option (D×ZI))(fs:List (M D)):M D:=λδ=>match δ[i]? with
 |some (some (.list ds))=>(match fk δ with
  |.ok (.int k) _=>(match oJ ds.length k with
   |some j=>(match ds[j]? with
    |some (.list inner)=>(match bB fs (KF ow δ)with
     |.ok args _=>(match op inner args with
      |some (ret,inner')=>.ok ret (δ.set i (some (.list (ds.set j (.list inner')))))
      |none=>.stuck)
     |_=>.stuck)
    |_=>.stuck)
   |none=>.stuck)
  |_=>.stuck)
 |_=>.stuck
def HI(h:qA ow i fk op fs δ=.ok d δ1):
  ∃ds k δ2 j inner args δ3 inner',δ[i]?=some (some (.list ds))/\fk δ=.ok (.int k) δ2/\oJ ds.length k=some j/\ds[j]?=some (.list inner)/\bB fs (KF ow δ)=.ok args δ3/\op inner args=some (d,inner')/\δ1=δ.set i (some (.list (ds.set j (.list inner')))):=by
 unfold qA at h;split at h
 .rename_i ds e1
  split at h
  .rename_i k δ2 e2
   split at h
   .rename_i j e3
    split at h
    .rename_i inner e4
     split at h
     .rename_i args δ3 e5
      split at h
      .rename_i ret inner' e6
       cases h;exact⟨ds,k,δ2,j,inner,args,δ3,inner',e1,e2,e3,e4,e5,e6,rfl⟩
      .cases h
     .cases h
    .cases h
   .cases h
  .cases h
 .cases h
theorem WE(h:qA ow i fk op fs δ=.err x δ1):False:=by
 unfold qA at h;split at h
 .split at h
  .split at h
   .split at h
    .split at h
     .split at h<;>cases h
     .cases h
    .cases h
   .cases h
  .cases h
 .cases h
def uY(m:Nat)(h:∀F H σ,DE X (cW F H σ m) 'c' 0 ek fk):PE X ek (λσ H Q=>∃F0,tD X (cW F0 H σ m) 'c' 0 fk σ H Q):=λÀ s σ H Q I zQ=>by let⟨F0,q⟩:=zQ;exact h F0 H σ À s σ H Q I q
def aI0(m:Nat)(h:∀F H σ,DV X (cW F H σ m) 'c' es fs):PA X es (λσ H Q=>∃F0,tV X (cW F0 H σ m) 'c' fs σ H Q):=λcp À s σ H Q I zQ=>by let⟨F0,q⟩:=zQ;exact h F0 H σ cp À s σ H Q I q
def HJ(m:Nat)(ho:ow.getD i 0=2)(hm:G5 X r op)(h:tD X Z ow 0 (qA ow i fk op fs) σ H Q):
  GF i σ H λx H1=>∃F0,tD X (cW F0 H1 σ m) 'c' 0 fk σ H1 λy H2=>ŵ X.K x y H2 λv H3=>ŋ X.K "list" v H3/\∃F1,tV X (cW F1 H3 σ m) 'c' fs σ H3 λxs H4=>r v xs H4 Q:=by
 let⟨F,δ,⟨g,R⟩,h⟩:=h;cases e:qA ow i fk op fs δ with
 |stuck=>sleep 5
 |err x δ1=>exact(WE e).elim
 |ok d δ1=>
  rw[e]at h;let⟨ds,k,δ2,j,inner,args,δ3,inner',e1,e2,e3,e4,e5,e6,rfl⟩:=HI e;let⟨a,vs,b,ws,q1,q2,q3,q4,q5,q6⟩:=R.at2 ho e1 e4;refine⟨_,q1,KD g F H,KD g F H,δ,R.bor,?_⟩;rw[e2];rintro v H1 F1 ⟨g1,R1,o1⟩ s1;have ev:v=.int k:=by
   have o1:bE X.K F1 (.int k) v:=o1;unfold bE at o1;exact o1
  subst ev;have hk:aI H H1:=λb o e=>R1.kept b o rfl e;have R2:=R.grow hk;refine⟨a,vs,k,.ref b,rfl,rfl,d8.of (hk _ _ q2),?_,.inl ⟨rfl,ws,d8.of (hk _ _ q5)⟩,F,F,KF ow δ,R2.hide,?_⟩
  .unfold atI
   rw[<- q3,e3];exact q4
  .rw[e5]
   rintro us H2 F2 ⟨g3,R3⟩ s3 ra;have hk2:aI H1 H2:=λb o e=>R3.kept b o rfl e;have R4:=R2.back R3;let⟨xs',rv,w1,w2,w3⟩:=hm F2 H2 b ws us inner args d inner' (hk2 _ _ (hk _ _ q5)) R4.sub (s3.repAll _ _ q6) ra e6;exact w3 Q (h rv _ F2 ⟨g,R4.rewrite2 ho e1 q1 (hk2 _ _ (hk _ _ q2)) q4 w1,w2⟩ s3)
def OC(i m:Nat){x:Str}{p p2 q:Pos}{id:String}(slot:Slot "list" name id)(hty:typeOf (.builtin id)=pure (.type "method_descriptor"))(hmr:Ĺ X id r)(hm:G5 X r op)(hk:∀F H σ,DE X (cW F H σ m) 'c' 0 ek fk)(ha:∀F H σ,DV X (cW F H σ m) 'c' (e::es) fs)(ho:↥(ow.getD i 0=2))(hN:↥(X.N[i]?=some x))(hv:#v[AU X.env.scope x])(hd:⇑(Zdb x))(hcd:⇑(Zcd x))(hp:oK ek:=by exact λ_ _=>rfl)(hbase:↥(attributeBase (.Subscript 'h' ek p2) name X.env (eval (.Subscript 'h' ek p2) X.env)=eval (.Subscript 'h' ek p2) X.env))(hfew:↥(((backTo pos (starEach (e::es) X.env)).all (λx=>!x.1) && (backToKw pos (keywordEach [] X.env)).all (λx=>x.1.isSome)
   && decide ((e::es).length+([]:List Keyword).length+(if ([]:List Keyword).isEmpty then 0 else 1)<30))=true))(hline:↥((q.endLine == pos.line)=true))(hs:↥(Zse e es X.env))(hplain:↥(Zbt pos es X.env)):
  DE X Z ow 0 (.Call (.Attribute (.Subscript 'h' ek p2) name q) (e::es) [] pos) (qA ow i fk op fs):=PE.mono (UK PySem.F.plainAttrs_list slot hty hmr (GN sC (dA hN hv hd hcd) (uY m hk) hp) (aI0 m ha) hbase hfew hline hs hplain) λ_ _ _ h=>HJ m ho hm h
def WF(i m:Nat){x:Str}{p p2 q:Pos}{id:String}(slot:Slot "list" name id)(hty:typeOf (.builtin id)=pure (.type "method_descriptor"))(hmr:Ĺ X id r)(hm:G5 X r op)(hk:∀F H σ,DE X (cW F H σ m) 'c' 0 ek fk)(ho:↥(ow.getD i 0=2))(hN:↥(X.N[i]?=some x))(hv:#v[AU X.env.scope x])(hd:⇑(Zdb x))(hcd:⇑(Zcd x))(hp:oK ek:=by exact λ_ _=>rfl)(hbase:↥(attributeBase (.Subscript 'h' ek p2) name X.env (eval (.Subscript 'h' ek p2) X.env)=eval (.Subscript 'h' ek p2) X.env))(hline:↥((q.endLine == pos.line)=true)):
  DE X Z ow 0 (.Call (.Attribute (.Subscript 'h' ek p2) name q) [] [] pos) (qA ow i fk op []):=PE.mono (aHC PySem.F.plainAttrs_list slot hty hmr (GN sC (dA hN hv hd hcd) (uY m hk) hp) hbase hline) λσ H Q h=>by
 let⟨v,e1,F0,h⟩:=HJ m ho hm h;refine⟨v,e1,F0,?_⟩;let⟨F1,δ,R,h⟩:=h;refine⟨F1,δ,R,h.mono 'o' λy H2 h=>?_⟩;let⟨a,vs,k,u,w1,w2,w3,w4,w5,F2,F3,δ3,R3,q3⟩:=h;refine⟨a,vs,k,u,w1,w2,w3,w4,w5,?_⟩;exact q3 [] H2 F3 R3 'o' iX
def ŝ:ZI->ZI->Option (D×ZI)
 |ds,[]=>(match ds[ds.length-1]? with
  |some d=>some (d,ds.dropLast)
  |none=>none)
 |_,_=>none
def aCM:G5 X χ ŝ:=λF H l xs vs ds args ret ds' hl hs h1 h2 e=>by
 unfold ŝ at e;split at e
 .split at e
  .rename_i d e1
   cases e;unfold aD at h2;subst h2;let⟨v,e2,r⟩:=h1.get e1;rw[h1.len]at e2;refine⟨xs.dropLast,v,?_,r,λQ q=>⟨l,xs,v,rfl,rfl,hl,e2,q⟩⟩;rw[List.dropLast_eq_take,List.dropLast_eq_take,<- h1.len];exact h1.take _
  .cases e
 .cases e
def bZ.enter(hz:∀i,ow.getD i 0=0)(R:bZ K Z ow F H σ δ):bZ K (cW F H σ m) 'c' F H σ δ:=by
 let⟨g,R⟩:=R;exact⟨λ_=>none,R.sub,⟨R.f0.lm,λ_ _ z=>z⟩,λ_ _ _ e=>e,λ_ h _=>h,λ_ h=>h,λ_ _ _ e=>(by cases e),R.len,λi hi=>(by cases hi),λi d e=>by
  let⟨v,e1,o⟩:=R.slot i d e;rw[hz]at o;exact⟨v,e1,by rw[i9];exact o⟩⟩
def bZ.leave(hz:∀i,ow.getD i 0=0)(R:bZ K Z ow F H σ δ)(R':cV K (cW F H σ m) 'c' g' F' H' σ δ'):bZ K Z ow F' H' σ δ':=by
 let⟨g,R⟩:=R;have hk:∀b o,H b=some o->H' b=some o:=λb o e=>R'.kept b o rfl e;refine⟨λ_=>none,R'.sub,R.f0.trans' R'.f0.2,λb o n e=>hk b o (R.kept b o n e),λa h1 h2=>R'.new a (R.new a h1 h2) (R.there a h2),λb h=>?_,λ_ _ _ e=>(by cases e),R'.len,R.par,λi d e=>?_⟩
 .cases e:H b with
  |none=>exact absurd e (R.there b h)
  |some o=>rw[hk b o e];simp
 .obtain⟨v,e1,o⟩:=R'.slot i d e
  rw[i9]at o;exact⟨v,e1,by rw[hz];exact o⟩
def bZ.reg(hz:∀i,ow.getD i 0=0)(R:bZ K Z ow F H σ δ)(hl:∀a i p,g a=some (i,p)->Z.H0 a=none):cV K Z ow g F H σ δ:=by
 let⟨g0,R⟩:=R;exact⟨R.sub,R.f0,R.kept,R.new,R.there,λa i p e=>.inl (hl a i p e),R.len,R.par,λi d e=>by
  let⟨v,e1,o⟩:=R.slot i d e;rw[hz]at o;exact⟨v,e1,by rw[hz];exact o⟩⟩
structure HK(K:ZC)(H0 F H:Hp)(ga:ZP)(n:Nat)(acc:ZI)(ys:List V):Prop where
 len:acc.length=ys.length
 own:∀(k:Nat)(d:D)(v:V),acc[k]?=some d->ys[k]?=some v->bA K F H ga 1000 n [k] d v
 lab:∀a i p,ga a=some (i,p)->H0 a=none
def HK.keep(A:HK K H0 F H g n acc ys)(hF:aI F F')(h:∀a o,H a=some o->F a=none->H' a=some o/\F' a=none):HK K H0 F' H' g n acc ys:=
 ⟨A.len,λk d v e1 e2=>(A.own k d v e1 e2).keep hF λa p o z1 z2 z3=>⟨z1,h a o z2 z3⟩,A.lab⟩
def HK.add(A:HK K H0 F H g n acc ys)(R':cV K (cW F H σ m) 'c' g' F' H' σ δ')(o:bA K F' H' g' 1000 n [] d v)(h0:∀a,H a=none->H0 a=none):
  ∃ga,HK K H0 F' H' ga n (acc++[d]) (ys++[v]):=by
 have hn:∀a l,g' a=some l->H a=none:=λa l e=>by
  let⟨i,p⟩:=l;rcases R'.lab a i p e with z|⟨q,z⟩
  .exact z
  .cases z
 refine⟨λb=>match g' b with|some (i,p)=>if i=1000 then some (1000,ys.length::p)else none|none=>g b,by simp[A.len],λk d' v' e1 e2=>?_,λa i p e=>?_⟩
 .by_cases hk:k<ys.length
  .rw[ô (by rw[A.len];exact hk)]at e1
   rw[ô hk]at e2;refine(A.own k d' v' e1 e2).keep (H:=H) (H':=H') (show aI F F' from R'.f0.2) λa p o z1(z2:H a=some o)z3=>⟨?_,R'.kept a o rfl z2,R'.new a z3 (show H a≠none by rw[z2];simp)⟩;cases z4:g' a with
   |none=>exact z1
   |some l=>rw[hn a l z4]at z2;cases z2
  .have hk':k=ys.length:=by
    have:=(Î.mp e2).1;rw[Ñ,ó]at this;lia
   subst hk';rw[ã (È _),û]at e2;rw[<- A.len,ã (È _),û]at e1;cases e1;cases e2;have:=bA.relabP (g':=λb=>match g' b with|some (i,p)=>if i=1000 then some (1000,ys.length::p)else none|none=>g b) (j:=1000) (q:=[ys.length]) (λa p e=>by
    show (match g' a with|some (i,p)=>if i=1000 then some (1000,ys.length::p)else none|none=>g a)=_;rw[e];exact Â rfl) o
   exact this
 .cases z:g' a with
  |none=>rw[z]at e;exact A.lab a i p e
  |some l=>exact h0 a (hn a l z)
def TH.turn2{d:D}(T:TH X.K F1 J ds)(R:bZ X.K Z ow F H σ δ)(s:aI F1 F)(y:J.yld i H x H')(e:ds[i]?=some d):∃F',aI F F'/\bZ X.K Z ow F' H' σ δ/\bE X.K F' d x/\∀a o,H a=some o->F a=none->H' a=some o/\F' a=none:=by
 rcases T.yld i H x H' d (s.trans' R.sub) y e with ⟨rfl,r⟩|⟨p,o,hp,rfl,r⟩
 .exact⟨F,aI.refl _,R,s.rep _ _ r,λa o z1 z2=>⟨z1,z2⟩⟩
 .have fp:=R.fnone hp
  refine⟨aV F p o,bW fp o,R.laid hp,r F s fp,λa u z1 z2=>?_⟩;have:a≠p:=λz=>by rw[z,hp]at z1;cases z1
  rw[aE this,aE this];exact⟨z1,z2⟩
def Q0(hz:∀i,ow.getD i 0=0)(i:Nat):'q'.getD i 0=0:=by
 by_cases h:i<k
 .rw[Ë,ô (by simpa using h),Ā]
  split<;>rfl
 .obtain⟨j,rfl⟩:∃j,i=j+k:=⟨i-k,∅⟩
  rw[l6];exact hz j
def HL(h:ow.all (· == 0)=true)(i:Nat):ow.getD i 0=0:=by
 by_cases hl:i<ow.length
 .have:=í.mp h ow[i] (ý hl)
  rw[Ë,Ê hl];simpa using this
 .rw[Ë,ç (by exact è.mp ‹_›)];rfl
def B9{set:D->DS->Option DS}(m:Nat)(hkd:kd (n+1)=0)(hch:∀k,ch (n+1) k=n)(S:aP Z ow)(Sk:aP (Z.sh k) 'q')(hz:∀i,ow.getD i 0=0)(hs:ĕ X (Z.sh k) 'q' k gt set)(q:tD X Z ow (n+1) (eD k set fi eE fe) σ H Q):M9 k (tI X Z ow fi) gt (λ_ H Q=>Q true H) (λσ H Q=>∃F0,ĥ X (cW F0 H σ m) 'c' n fe σ H Q) σ H Q:=by
 let⟨F,δ,R,q⟩:=q;unfold eD at q;sleep 1;cases e1:fi δ with
 |stuck=>rw[e1]at q;sleep 4
 |err x δ1=>rw[e1]at q;exact q
 |ok ds δ1=>
  rw[e1]at q;simp![Res.bind]at q;intro J H1 F1 R1 s1 T;have hcase:∃acc δ2,bP set eE fe ds [] (List.replicate k none++δ1)=.ok acc δ2/\k<=δ2.length/\kD X Z ow (n+1) (.ok (.list acc) (δ2.drop k)) F σ Q:=by
   cases e2:bP set eE fe ds [] (List.replicate k none++δ1)with
   |stuck=>rw[e2]at q;sleep 4
   |err x δ2=>rw[e2]at q;sleep 4
   |ok acc δ2=>
    rw[e2]at q;dsimp only at q;split at q
    .rename_i hk;exact⟨acc,δ2,rfl,hk,q⟩
    .sleep 4
  let⟨acc,δ2,e2,hk2,q⟩:=hcase;have hz':∀i,'q'.getD i 0=0:=Q0 hz;refine⟨λi m ys σ' H'=>m=ds.length-i/\i<=ds.length/\σ'.length=σ.length+k/\(∀i,σ'[i+k]?=σ[i]?)/\∃F2 δ' acc' ga,bZ X.K (Z.sh k) 'q' F2 H' σ' δ'/\aI F1 F2/\HK X.K Z.H0 F2 H' ga n acc' ys/\bP set eE fe (ds.drop i) acc' δ'=.ok acc δ2,
   ⟨ds.length,rfl,î _,by simp;exact Nat.add_comm _ _,λi=>by rw[ã 'e',ï,Ĝ],F1,_,[],λ_=>none,R1.sh S,aI.refl _,⟨rfl,λk d v e=>(by cases e),λa i p e=>(by cases e)⟩,e2⟩,?_⟩
  rintro i m' ys σ2 H2 ⟨rfl,hi,hl2,hσ2,F2,δ',acc',ga,R2,s2,A2,e3⟩;by_cases hlt:i<ds.length
  .have ed:=Ê hlt
   have ee:ds.drop i=ds[i]::ds.drop (i+1):=ñ hlt;rw[ee]at e3;unfold bP at e3;cases e4:set ds[i] δ' with
   |none=>simp![e4]at e3;cases e3
   |some δ3=>
    simp![e4]at e3;have e3':((fe δ3).bind λy δ3=>if acc'.length<sizeLine then bP set eE fe (ds.drop (i+1)) (acc'++[y]) δ3 else .stuck)=.ok acc δ2:=e3;cases e6:fe δ3 with
    |stuck=>rw[e6]at e3';cases e3'
    |err x δ5=>rw[e6]at e3';cases e3'
    |ok yd δ5=>
     rw[e6]at e3';simp![Res.bind]at e3';split at e3'
     .rename_i small
      refine .inr ⟨T.go i H2 (s2.trans' R2.sub) hlt,by rw[<- A2.len];exact small,λzs σ'' H''=>σ''.length=σ.length+k/\(∀i,σ''[i+k]?=σ[i]?)/\∃F3 δ' acc' ga,bZ X.K (Z.sh k) 'q' F3 H'' σ'' δ'/\aI F1 F3/\HK X.K Z.H0 F3 H'' ga n acc' zs/\bP set eE fe (ds.drop (i+1)) acc' δ'=.ok acc δ2,λzs σ'' H'' z=>⟨ds.length-(i+1),∅,rfl,hlt,z⟩,λx H3 y=>?_⟩
      let⟨F3,s3,R3,r3,k3⟩:=T.turn2 R2 s2 y ed;refine hs F3 H3 σ2 δ' δ3 ds[i] x _ R3 r3 e4 λσ3 R4 l3 _ hσ3=>?_;dsimp only;rw[Â rfl];refine⟨F3,F3,δ3,R4.enter hz',?_⟩;rw[e6];rintro yv H6 F6 ⟨g6,R6,o6⟩ s6;have hl3:σ3.length=σ.length+k:=by exact Eq.trans ‹_› ‹_›
      have hσ4:∀i,σ3[i+k]?=σ[i]?:=λi=>(hσ3 i).trans (hσ2 i);have A3:=A2.keep s3 k3;let⟨ga',A4⟩:=A3.add R6 o6 λa ha=>by
       cases z:Z.H0 a with
       |none=>rfl
       |some u=>
        let⟨g4,R4⟩:=R4;exact absurd ha (R4.there a (by show Z.H0 a≠none;rw[z];simp))
      exact⟨hl3,hσ4,F6,δ5,acc'++[yd],ga',R4.leave hz' R6,s2.trans' (s3.trans' s6),A4,e3'⟩
     .cases e3'
  .have e:i=ds.length:=by lia
   subst e;rw[List.drop_length]at e3;unfold bP at e3;cases e3;refine .inl ⟨T.stop H2 (s2.trans' R2.sub),λp hp=>?_⟩;have R7:bZ X.K Z ow F2 H2 σ (δ2.drop k):=R2.unsh S Sk hσ2 hl2 hk2;have fp:=R7.fnone hp;have zp:Z.H0 p=none:=by
    cases z:Z.H0 p with
    |none=>rfl
    |some u=>
     let⟨g4,R4⟩:=R7;exact absurd hp (R4.there p (by rw[z];simp))
   refine q _ _ F2 ⟨λb=>if b=p then some (1000,[])else ga b,(R7.reg hz λa i q e=>?_).grow (bW hp _),?_⟩ (s1.trans' s2)
   .split at e
    .rename_i z;rw[z];exact zp
    .exact A2.lab a i q e
   .refine bA.mkL (hk:=hkd) (hm:=hch) ⟨p,acc,ys,rfl,rfl,Â rfl,aJ,fp,A2.len,λk d v z1 z2=>?_⟩
    refine bA.keep 'o' (λa q o y1 y2 y3=>?_) (A2.own k d v z1 z2);have:a≠p:=λz=>by rw[z,hp]at y2;cases y2
    rw[aE this];exact⟨by rw[Ã this];exact y1,y2,y3⟩
def Q1{set:D->DS->Option DS}(m:Nat)(S:aP Z ow)(Sk:aP (Z.sh xs.length) 'i')(hc:X.calm=true)(hi:DI X Z ow tg iter fi)(hg:∀C fp s H,PG 'g' tg gt)(hs:ĕ X (Z.sh xs.length) 'i' xs.length gt set)(he:∀C fp s H,∀F1 H1 σ1,DE 'g' (cW F1 H1 σ1 m) 'c' n elt fe)(hz:↥(ow.all (· == 0)=true))(hkd:↥(kd (n+1)=0))(hch: ~~~(∀k,ch (n+1) k=n))(hk:↥(scope.kind=.function))(hok:↥(dR X.N xs scope.names X.env.scope.names=true))(hfs: ~~~(Zfi iter X.env)):
  DE X Z ow (n+1) (.ListComp elt [⟨tg,iter,[],0⟩] scope pos) (eD xs.length set fi eE fe):=
 PE.mono (GT (ti:=λ_ H Q=>Q true H) (te:=λσ H Q=>∃F0,ĥ X (cW F0 H σ m) 'c' n fe σ H Q) hc hi hg (λC fp s H=>DW) (λC fp s H À s' σ H' Q I zQ=>by let⟨F0,h⟩:=zQ;exact he C fp s H F0 H' σ À s' σ H' Q I (NJ (X:=X) (X':=aT X xs scope C fp s H) rfl h)) hk hok hfs)
  λ_ _ _ q=>B9 m hkd hch S Sk (HL hz) hs q
def A7(i:Nat){x:Str}{pos' spos:Pos}{set:D->DS->Option DS}(m:Nat)(S:aP Z ow)(Sk:aP (Z.sh xs.length) 'i')(hc:X.calm=true)(hN:X.N.Nodup)(hi:DI X Z ow tg iter fi)(hg:∀C fp s H,PG 'g' tg gt)(hs:ĕ X (Z.sh xs.length) 'i' xs.length gt set)(he:∀C fp s H,∀F1 H1 σ1,DE 'g' (cW F1 H1 σ1 m) 'c' n elt fe)(hz:↥(ow.all (· == 0)=true))(hkd:↥(kd (n+1)=0))(hch: ~~~(∀k,ch (n+1) k=n))(hx:↥(X.N[i]?=some x))(hl:↥(X.env.scope.names.lookup x=some .local))(hps:↥(Z.ps.contains i=false))(hlo:⇑(i<ow.length))(hsw:↥(swapsWith (.ListComp elt [⟨tg,iter,[],0⟩] scope pos) (some (.Name x pos')) spos.line X.env=pure true))(hk:↥(scope.kind=.function))(hok:↥(dR X.N xs scope.names X.env.scope.names=true))(hfs: ~~~(Zfi iter X.env)):
  DZ X Z ow (ow.set i (n+1)) ol ox rm (.Assign [.Name x pos'] (.ListComp elt [⟨tg,iter,[],0⟩] scope pos) spos) (jK i (eD xs.length set fi eE fe)):=
 PS.mono (sH (ti:=λ_ H Q=>Q true H) (te:=λσ H Q=>∃F0,ĥ X (cW F0 H σ m) 'c' n fe σ H Q) hc hN hx hl hi hg (λC fp s H=>DW) (λC fp s H À s' σ H' Q I zQ=>by let⟨F0,h⟩:=zQ;exact he C fp s H F0 H' σ À s' σ H' Q I (NJ (X:=X) (X':=aT X xs scope C fp s H) rfl h)) hsw hk hok hfs)
  λDn σ H h=>B9 m hkd hch S Sk (HL hz) hs (D0 S (cP hps) hlo h)
end
end L2
namespace L2
open PySem PySem.Spec
section
def WG(ow:ZH)(i:Nat)(o:Option (ZL))(k:D)(op:ZI->ZI->Option (D×ZI))(fs:List (M D))(δ:DS)(Q:D->ZO)(_w:Wt Q:=⟨⟩):Prop:=
 ∃ds n j inner,o=some (some (.list ds))/\k=.int n/\oJ ds.length n=some j/\ds[j]?=some (.list inner)/\aU (bB fs) (KF ow δ) λargs _=>∃ret inner',op inner args=some (ret,inner')/\Q ret (δ.set i (some (.list (ds.set j (.list inner')))))
def LL:aU (qA ow i fk op fs) δ Q=aU fk δ λk _=>WG ow i δ[i]? k op fs δ Q:=by
 refine propext ⟨λh=>?_,λh=>?_⟩
 .obtain⟨d,δ1,e,q⟩:=h.ex
  let⟨ds,n,δ2,j,inner,args,δ3,inner',e1,e2,e3,e4,e5,e6,rfl⟩:=HI e;exact aU.of e2 ⟨ds,n,j,inner,e1,rfl,e3,e4,aU.of e5 ⟨d,inner',e6,q⟩⟩
 .obtain⟨k,δ2,e2,q⟩:=h.ex
  let⟨ds,n,j,inner,e1,rfl,e3,e4,w⟩:=q;let⟨args,δ3,e5,ret,inner',e6,q⟩:=w.ex;refine aU.of (a:=ret) (δ1:=δ.set i (some (.list (ds.set j (.list inner'))))) ?_ q;unfold qA;rw[e1];dsimp only;rw[e2];dsimp only;rw[e3];dsimp only;rw[e4];dsimp only;rw[e5];dsimp only;rw[e6]
def OD(o:Option (D×ZI))(ds:ZI)(j i:Nat)(δ:DS)(Q:D->ZO)(_w:Wt Q:=⟨⟩):Prop:=∃ret inner',o=some (ret,inner')/\Q ret (δ.set i (some (.list (ds.set j (.list inner')))))
def LM{ds inner:ZI}(e3:oJ ds.length n=some j)(e4:ds[j]?=some (.list inner)):WG ow i (some (some (.list ds))) (.int n) op fs δ Q=aU (bB fs) (KF ow δ) λargs _=>OD (op inner args) ds j i δ Q:=by
 unfold WG OD;refine propext ⟨λh=>?_,λh=>?_⟩
 .obtain⟨ds',n',j',inner',h1,h2,h3,h4,w⟩:=h
  cases h1;cases h2;rw[e3]at h3;cases h3;rw[e4]at h4;cases h4;exact w
 .exact⟨ds,n,j,inner,rfl,rfl,e3,e4,h⟩
def aI1:OD (some (r,l)) ds j i δ Q=Q r (δ.set i (some (.list (ds.set j (.list l))))):=propext ⟨λ⟨_,_,h,q⟩=>by cases h;exact q,λq=>⟨_,_,rfl,q⟩⟩
def qV{d:D}:OD (LC l [d]) ds j i δ Q=(l.length<sizeLine/\Q .none (δ.set i (some (.list (ds.set j (.list (l++[d]))))))):=by
 refine propext ⟨λzQ=>?_,λzQ=>by let⟨h,p⟩:=zQ;exact ⟨_,_,Â h,p⟩⟩;let⟨r,d2,h,p⟩:=zQ;unfold LC at h;dsimp only at h;split at h
 .rename_i hc;cases h;exact⟨hc,p⟩
 .cases h
end
end L2
namespace L2
open PySem PySem.Spec PyProof.Rows
def WH{K:ZC}:qO P w K mg base CX k f fd pn (TD K pn ps owp rm λ_=>.stuck):=
 ⟨λvs H Q E h=>h.1,λA outer s H args us vs Q E hr he hb hv hs=>by
  let⟨_,F,g,ds,_,_,_,_,_,q⟩:=hs;exact q.elim⟩
end L2
namespace L2
open PySem PySem.Spec
end L2
namespace L2
open PySem PySem.Spec PyProof.Rows
section
end
end L2
namespace L2
open PySem PySem.Spec
end L2
namespace L2
open PySem PySem.Spec PyProof.Rows
section
variable {X:Cx}{Z:cI}{ow:ZH}{e:Expr}{f:M D}{pos:Pos}
def qB(T U:Ty)(d:D):ZL:=match gE T d,gE U d with
 |some (.bool a),some (.bool b)=>some (.bool (a || b))
 |_,_=>none
def Q2:gZ X (.builtin "isinstance") (λxs H Q=>∃(x:V)(d:D)(b:Bool)(p:Addr),xs=[x,.ref p]/\H p=some (.tup [.ty Ty.tuple.name,.ty Ty.list.name])/\bE X.K H d x/\qB .tuple .list d=some (.bool b)/\Q (.bl b) H):=by
 intro À s σ H xs us Q I r h;let⟨x,d,b,p,rfl,hp,rd,hb,q⟩:=h;let⟨u,v,rfl,rx,rc⟩:=UC r;obtain rfl:v=Value.ref p:=rc;let⟨its,ri,⟨o,ho,hc,n,hd⟩,_⟩:=I.tuple (rX.of hp);let⟨t1,t2,e0,r1,r2⟩:=UC ri;obtain rfl:t1=Value.type Ty.tuple.name:=r1;obtain rfl:t2=Value.type Ty.list.name:=r2;subst e0;let⟨oc,od,dt,sl⟩:=o;cases hc;cases hd;cases d with
 |none=>obtain rfl:=nE rd;cases (show u=Value.none from rx);exact W.kia_tup W.kitx_none I.kIn True.intro ho (by cases hb;rfl) (λz=>nomatch z) λtk=>⟨.bl b,H,I.tok tk,rfl,q⟩
 |bool y=>obtain rfl:=jS rd;cases (show u=Value.bool y from rx);exact W.kia_tup W.kitx_bool I.kIn True.intro ho (by cases hb;rfl) (λz=>nomatch z) λtk=>⟨.bl b,H,I.tok tk,rfl,q⟩
 |int i=>obtain rfl:=gL rd;let⟨t,q'⟩:=(show ∃t,u=Value.int i t from rx);cases q';exact W.kia_tup W.kitx_int I.kIn True.intro ho (by cases hb;rfl) (λz=>nomatch z) λtk=>⟨.bl b,H,I.tok tk,rfl,q⟩
 |str i=>obtain rfl:=iG rd;let⟨t,q'⟩:=(show ∃t,u=Value.str i t from rx);cases q';exact W.kia_tup W.kitx_str I.kIn True.intro ho (by cases hb;rfl) (λz=>nomatch z) λtk=>⟨.bl b,H,I.tok tk,rfl,q⟩
 |list ds=>
  let⟨a,xs,rfl,hp,_⟩:=jM rd;cases (show u=Value.ref a from rx);let⟨_,_,⟨o,_,h1,h2,_⟩,_⟩:=I.list hp;exact W.kia_tup W.kitx_list I.kIn ⟨o,h1,h2⟩ ho (by cases hb;rfl) (λz=>nomatch z) λtk=>⟨.bl b,H,I.tok tk,rfl,q⟩
 |tuple ds=>
  let⟨a,xs,rfl,hp,_⟩:=A1 rd;cases (show u=Value.ref a from rx);let⟨_,_,⟨o,h1,h2,_⟩,_⟩:=I.tuple hp;exact W.kia_tup W.kitx_tuple I.kIn ⟨o,h1,h2⟩ ho (by cases hb;rfl) (λz=>nomatch z) λtk=>⟨.bl b,H,I.tok tk,rfl,q⟩
 |dict _=>cases hb
def aCN(T U:Ty){p p2 p3 p4:Pos}{c:Nat}(hg:Gl X "isinstance")(hm:X.mg "isinstance"=none)(ć:Gl X x)(hmt:X.mg x=none)(hbt:bootBuiltins x=some (.type T.name))(hgu:Gl X y)(hmu:X.mg y=none)(hbu:bootBuiltins y=some (.type U.name))(ha:DE X Z ow 0 e f)(hn:⇑(x≠"__name__"))(hd:⇑(Zdb x))(hn2:⇑(y≠"__name__"))(hd2:⇑(Zdb y))(hs:↥(starEach [e,.Tuple [.Name x p2,.Name y p3] c p4] X.env=(false,eval e X.env)::starEach [.Tuple [.Name x p2,.Name y p3] c p4] X.env))(hs2:↥(starEach [.Tuple [.Name x p2,.Name y p3] c p4] X.env=(false,eval (.Tuple [.Name x p2,.Name y p3] c p4) X.env)::starEach [] X.env))(hs3:↥(starEach [.Name x p2,.Name y p3] X.env=(false,eval (.Name x p2) X.env)::starEach [.Name y p3] X.env))(hs4:↥(starEach [.Name y p3] X.env=(false,eval (.Name y p3) X.env)::starEach [] X.env))(hpl:↥((backTo pos (starEach [.Tuple [.Name x p2,.Name y p3] c p4] X.env)).any (·.1)=false))(hT:↥(T=.tuple))(hU:↥(U=.list)):
  DE X Z ow 0 (.Call (.Name "isinstance" p) [e,.Tuple [.Name x p2,.Name y p3] c p4] [] pos) (sM (qB T U) f):=by
 subst hT hU;exact PE.mono (sA Q2 hg hm pY (dO ha (dO (UF (dO (UP ć hmt hbt hn hd) (dO (UP hgu hmu hbu hn2 hd2) iW hs4) hs3)) iW hs2) hs) ⋯ ⋯ hs hpl) λσ H Q q=>by
  let⟨F,δ,R,q⟩:=q;unfold sM at q;sleep 1;cases e:f δ with
  |stuck=>rw[e]at q;sleep 4
  |err x δ1=>rw[e]at q;exact q
  |ok d δ1=>
   rw[e]at q;simp![Res.bind]at q;intro v H1 F1 R1 s1;have hb:∀r,qB .tuple .list d=some r->∃b,r=.bool b:=λr h=>by
    unfold qB at h;split at h
    .cases h;exact⟨_,rfl⟩
    .cases h
   cases e1:qB .tuple .list d with
   |none=>rw[e1]at q;sleep 4
   |some r=>
    rw[e1]at q;let⟨b,rfl⟩:=hb r e1;refine⟨(by decide:2<=sizeLine),λp hp=>?_⟩;have R2:=R1.rel.laid (o:=.tup [.ty Ty.tuple.name,.ty Ty.list.name]) hp;have fp:=R1.rel.fnone hp;have s2:aI F1 (aV F1 p (.tup [.ty Ty.tuple.name,.ty Ty.list.name])):=bW fp _;exact⟨v,d,b,p,rfl,aJ,R2.sub.rep _ _ (s2.rep _ _ R1.rep),e1,q _ _ _ (R2.x iS) (s1.trans' s2)⟩
end
section
variable {a:Expr}
def iT(x:Str)(n:Int):Str:=⟨(List.replicate n.toNat x.cps).foldl (·++·) #[]⟩
def HM :∀(n:Nat)(a:Array Nat),((List.replicate n x).foldl (·++·) a).size=a.size+n*x.size
 |0,a=>by simp
 |n+1,a=>by rw[List.replicate_succ,List.foldl_cons,HM n,Array.size_append,Nat.succ_mul];omega
def jB:(iT x n).length=n.toNat*x.length:=by
 show ((List.replicate n.toNat x.cps).foldl (·++·) #[]).size=_;rw[HM];simp;rfl
def WI(hx:x.all (·<0x110000)=true):∀(n:Nat)(a:Array Nat),a.all (·<0x110000)=true->((List.replicate n x).foldl (·++·) a).all (·<0x110000)=true
 |0,a,ha=>ha
 |n+1,a,ha=>by
  rw[List.replicate_succ,List.foldl_cons];refine WI hx n _ ?_;rw[Array.all_append,ha,hx];rfl
def OE(hx:PyData.strOk x=true):PyData.strOk (iT x n)=true:=WI hx _ _ 'e'
def OF:∀n:Nat,(List.replicate n (#[]:Array Nat)).foldl (·++·) #[]=#[]
 |0=>rfl
 |n+1=>by
  rw[List.replicate_succ,List.foldl_cons,Array.append_empty];exact OF n
def aCO:kC X (binaryOp .Mult) (λx y H Q=>∃i n,x=.str i/\y=.int n/\i.length<=1000/\0<=n/\n<=1000/\Q (.str (iT i n)) H):=by
 intro À s σ H x y v u Q I rx ry h;let⟨i,n,rfl,rfl,h1,h2,h3,q⟩:=h;let⟨t,rfl⟩:=rx;let⟨t',rfl⟩:=ry;have hm:i.length*n.toNat<=1000*1000:=Nat.mul_le_mul h1 (by omega);have hz:sizeLine=2^24:=rfl;refine PySem.P.mul_str 'l' (λg1 _ g2=>?_) (λ_ _=>?_) ?_
 .have:(1000:Int)<=(2^63-1)/n:=Int.le_ediv_of_mul_le (by omega) (by omega)
  omega
 .unfold Builtin.Str.tooLong
  grind
 .split
  .rename_i g
   have e:n.toNat=0:=by omega
   have e2:iT i n=Str.empty:=by
    unfold iT;rw[e];rfl
   rw[e2]at q;exact⟨⋯,.str Str.empty,H,I.tok _,⟨_,rfl⟩,q⟩
  .split
   .rename_i g
    rw[Bool.or_eq_true,beq_iff_eq,beq_iff_eq]at g;refine⟨.str (iT i n),H,I,⟨t,?_⟩,q⟩;have:iT i n=i:=by
     unfold iT;rcases g with rfl|g
     .simp_all
     .have e:i.cps=#[]:=Array.eq_empty_of_size_eq_zero g
      rw[e,OF,<- e]
    rw[this]
   .refine⟨?_,.str (iT i n),H,I.tok _,⟨_,rfl⟩,q⟩
    have:=jB (x:=i) (n:=n);unfold iT at this
    grind
def Ş:D->D->ZL
 |.str i,.int n=>if i.length<=1000/\0<=n/\n<=1000 then some (.str (iT i n))else none
 |_,_=>none
def aCQ:oP X (λx y H Q=>∃i n,x=.str i/\y=.int n/\i.length<=1000/\0<=n/\n<=1000/\Q (.str (iT i n)) H) 0 Ş:=λZ ow F H σ δ a b x y d Q S R ra rb e q=>by
 unfold Ş at e;split at e
 .rename_i i n
  split at e
  .rename_i hc
   cases e;exact⟨i,n,iG ra,gL rb,hc.1,hc.2.1,hc.2.2,q _ H F (R.x BY) 'o'⟩
  .cases e
 .cases e
def OG(S:aP Z ow)(ha:DE X Z ow 0 a f)(hb:DE X Z ow 0 b h):DE X Z ow 0 (.BinOp a .Mult b pos) (iF Ş f h):=vX S aCO aCQ ha hb
def ϸ(h1:i.length<=1000)(h2:0<=n)(h3:n<=1000):Ş (.str i) (.int n)=some (.str (iT i n)):=Â ⟨h1,h2,h3⟩
end
def Ι(K:ZC)(a:Addr)(n:Nat):It:=
 ⟨λi H=>∃xs,d8 K H a xs/\xs.length=n/\i<n,
   λi H v H'=>H'=H/\∀xs,d8 K H a xs->xs[xs.length-1-i]?=some v,
   λi H=>i=n/\∃xs,d8 K H a xs⟩
def WJ{P:Program}{w:World}{K:ZC}{tg:Expr}(a it:Addr)(n:Nat):GI P w K tg (Ι K a n) [it] it (λi h=>i<=n/\h.IsRevIter it a ((n:Int)-1-(i:Int))) where
 mem:=by simp
 obj:=λi h st b hb=>by
  have e:b=it:=by simpa using hb
  subst e;let⟨_,o,e,c,d⟩:=st;exact⟨o,e,λv z=>by rw[d]at z;cases z⟩
 keep:=λi h h' st k=>⟨st.1,st.2.at λo e=>k it 'e' o e⟩
 item:=by
  sleep 2;let⟨xs,hq,hl,hi⟩:=hg;subst hl;let⟨its,rv,p,hz⟩:=I.list hq;have hx:xs[xs.length-1-i]?=some (xs[xs.length-1-i]'(by omega)):=Ê (by omega);let⟨u,hu,ru⟩:=rv.get hx;let⟨f0,f1,f2,f3,f4,f5⟩:=hf it 'e';have e0:(xs.length:Int)-1-(i:Int)=((xs.length-1-i:Nat):Int):=by omega
  have st2:=st.2;rw[e0]at st2;refine wpAny_pyNext_rev_item st2 p.isList (x:=u) (by simpa using hu) λh' st' sb=>?_;have I1:Inv X À σ H {s with heap:=h'}:=I.turned (t':=s.toks) (λb o hb e=>(sb.2 b hb).trans e) f0 f1 f3 f4 f5;have e2:((xs.length-1-i:Nat):Int)-1=(xs.length:Int)-1-((i+1:Nat):Int):=by omega
  rw[e2]at st';let⟨o,e,c,d⟩:=id st';exact⟨u,rfl,GJ (s:={s with heap:=h'}) e c d ⋯ ⟨xs[xs.length-1-i]'(by omega),H,I1,ru,⟨rfl,λys hy=>by rw[I.list_inj hy hq];exact hx⟩,⟨hi,st'⟩,λb hb=>(hf b hb).1⟩⟩
 done:=by
  sleep 2;let⟨rfl,xs,hq⟩:=hg;let⟨f0,f1,f2,f3,f4,f5⟩:=hf it 'e';have st2:=st.2;rw[show (i:Int)-1-(i:Int)=-1 by omega]at st2;exact wpAny_pyNext_rev_end (I.ok.hd hc) st2 λh' eb=>⟨rfl,I.turned (t':=s.toks) (λb o hb e=>eb b o hb e) f0 f1 f3 f4 f5⟩
 self:=λ_ _ _ _ _ st h=>wpAny_pyIter_revIter st.2 h
section
def A8:bootBuiltins "reversed"=some (.type "reversed"):=by first|rfl|kernel_rfl|decide +kernel
def aO3(K:ZC)(ta:TA):TI:=λσ H R=>ta σ H λvs H1=>∃a xs,vs=[.ref a]/\d8 K H1 a xs/\R (Ι K a xs.length) H1
def aI2(hg:Gl X "reversed")(hm:X.mg "reversed"=none)(ha:PA X [a] ta)(hs:↥(starEach [a] X.env=[(false,eval a X.env)])):
  PI X tg (.Call (.Name "reversed" p) [a] [] pos) (aO3 X.K ta):=by
 intro À s σ H R I h;refine Call_ (iE I hg hm A8 (callWith_type1 (cA (ha pos À s σ H _ I h) λus s1 zQ=>?_) hs rfl));let⟨vs,H1,I1,r1,q1⟩:=zQ;let⟨l,xs,e,hx,q⟩:=q1;subst e;cases r1 with
 |cons r rr=>
  cases rr;cases r;let⟨ia,ra,pa,_⟩:=I1.list hx;have la:=ra.length;refine call_reversed_list pa.isList ?_;have st:(s1.heap.push (revObj l ((ia.toArray.size:Int)-1))).IsRevIter s1.heap.objs.size l ((xs.length:Int)-1-((0:Nat):Int)):=⟨_,Heap.get?_push_size _ rfl,rfl,by
   show Data.fields #[.ref l,rawInt ((ia.toArray.size:Int)-1)]=_;rw[é,<- la];simp⟩
  refine wpAny_pyIter_revIter (s:={s1 with heap:=s1.heap.push (revObj l ((ia.toArray.size:Int)-1))}) st ?_;refine⟨s1.heap.objs.size,[s1.heap.objs.size],_,_,H1,rfl,I1.kept (t':=s1.toks) λb o e=>Heap.get?_push_of_some _ e,WJ l _ xs.length,⟨î _,st⟩,λb hb=>?_,q⟩;have e:b=s1.heap.objs.size:=by simpa using hb
  subst e;exact I1.fpOk (È _) (I1.hok.fresh (È _))
end
def aCR{K:ZC}{F:Hp}{a:Addr}{xs:List V}{ds:ZI}(hx:d8 K F a xs)(rx:aD K F ds xs):TH K F (Ι K a xs.length) ds.reverse where
 go:=λi H s hi=>by
  have l1:=rx.len;rw[List.length_reverse]at hi;exact⟨xs,s.seq hx,rfl,by omega⟩
 yld:=λi H v H' d s y e=>.inl ⟨y.1,by
  have l1:=rx.len;have hi:=(Î.mp e).1;rw[List.length_reverse]at hi;rw[List.getElem?_reverse hi]at e;let⟨x',f1,g1⟩:=rx.get e;have:=y.2 xs (s.seq hx);rw[<- l1,f1]at this;cases this;exact g1⟩
 stop:=λH s=>⟨by rw[List.length_reverse,rx.len],xs,s.seq hx⟩
def ş(f:M D):M (ZI):=λδ=>(bB [f] δ).bind λds δ1=>match ds with
 |[.list as]=>.ok as.reverse δ1
 |_=>.stuck
section
def aI3(hgl:Gl X "reversed")(hm:X.mg "reversed"=none)(ha:DE X Z ow 0 a f)(hst:↥(Zse a [] X.env)):
  DI X Z ow tg (.Call (.Name "reversed" p2) [a] [] p3) (ş f):=
 (aI2 hgl hm (aF ha aY hst) hst).mono λσ H R q=>by
  let⟨F,δ,Rl,q⟩:=q;unfold ş at q;refine⟨F,δ,Rl,?_⟩;cases e1:bB [f] δ with
  |stuck=>rw[e1]at q;sleep 4
  |err x δ1=>rw[e1]at q;exact q
  |ok ds δ1=>
   rw[e1]at q;simp![Res.bind]at q;intro vs H1 F1 R1 s1 ra;split at q
   .rename_i as
    let⟨v,rfl,r⟩:=A5 ra;let⟨l,xs,rfl,hp,hr⟩:=jM r;exact⟨l,xs,rfl,R1.sub.seq hp,q _ H1 F1 R1 s1 (aCR hp hr)⟩
   .sleep 4
end
section
end
section
def aO4:V->Option Int->Option Int->Hp->VK->Prop:=λx lo hi H Q=>∃z,x=.str z/\z.length<=sizeLine/\Q (.str (Txt.slice z lo hi)) H
def Ϲ:D->Option Int->Option Int->ZL
 |.str z,l,u=>if z.length<=sizeLine then some (.str (Txt.slice z l u))else none
 |_,_,_=>none
def WK:œ X aO4 0 Ϲ:=λZ ow F H σ δ a x l u d Q S R ra e q=>by
 unfold Ϲ at e;split at e
 .split at e
  .rename_i hz
   cases e;exact⟨_,iG ra,hz,q _ H F (R.x BY) 'o'⟩
  .cases e
 .cases e
end
def jN(f:Str):ZG->Nat
 |[]=>0
 |g::r=>if g=f then 0 else jN f r+1
def A9(f:Str):ZG->ZG
 |[]=>[f]
 |g::r=>if g=f then g::r else g::A9 f r
def wF{α:Type}(k:Nat)(y:α)(xs:List α):(List α):=if k<xs.length then xs.set k y else xs++[y]
def WL :∀{fs:ZG},jN f fs<=fs.length
 |[]=>È _
 |g::r=>by
  unfold jN;split
  .exact î _
  .have:=WL (f:=f) (fs:=r);rw[Û];exact Nat.lt_succ_of_le ‹_›
def CC{xs:List α}:wF (k+1) y (x::xs)=x::wF k y xs:=by
 unfold wF;by_cases h:k<xs.length
 .rw[Â (by rw[Û];exact Nat.succ_lt_succ ‹_›),Â h];rfl
 .rw[Ã (by rw[Û];lia),Ã h];rfl
def xY{xs:List α}:(wF k y xs).length=if k<xs.length then xs.length else xs.length+1:=by
 unfold wF;split
 .rw[Ï]
 .rw[Ñ];rfl
def OH{xs:List α}(h:k<=xs.length)(j:Nat):(wF k y xs)[j]?=if j=k then some y else xs[j]?:=by
 unfold wF;by_cases hk:k<xs.length
 .rw[Â hk]
  by_cases hj:j=k
  .subst hj;rw[Â rfl,ß hk]
  .rw[Ã hj,Ú (Í hj)]
 .rw[Ã hk]
  have:k=xs.length:=by lia
  subst this;by_cases hj:j=xs.length
  .subst hj;rw[Â rfl,ã (È _),û];rfl
  .rw[Ã hj]
   by_cases hl:j<xs.length
   .rw[ô hl]
   .rw[ç (by rw[Ñ,ó];lia),ç (by exact è.mp ‹_›)]
def HN :∀{fs:ZG},(A9 f fs).length=if jN f fs<fs.length then fs.length else fs.length+1
 |[]=>rfl
 |g::r=>by
  unfold A9 jN;by_cases h:g=f
  .rw[Â h,Â h,Â (by rw[Û];exact ă _)]
  .rw[Ã h,Ã h,Û,HN (f:=f) (fs:=r),Û]
   by_cases q:jN f r<r.length
   .rw[Â q,Â (by exact Nat.succ_lt_succ ‹_›)]
   .rw[Ã q,Ã ∅]
def jC :∀{fs:ZG}{vs:List V},fs.length=vs.length->(fs.zip vs).lookup f=vs[jN f fs]?
 |[],[],_=>rfl
 |g::fs,v::vs,h=>by
  rw[ä];unfold jN;by_cases e:g=f
  .rw[Â e,å,show (f == g)=true by rw[e];exact beq_self_eq_true _]
   rfl
  .rw[Ã e,å,show (f == g)=false from beq_eq_false_iff_ne.mpr (Í e),List.getElem?_cons_succ]
   exact jC (by simpa using h)
def HP :∀{fs:ZG}{vs:List V},fs.length=vs.length->kW f y (fs.zip vs)=(A9 f fs).zip (wF (jN f fs) y vs)
 |[],[],_=>rfl
 |g::fs,v::vs,h=>by
  rw[ä];unfold kW A9 jN;by_cases e:g=f
  .rw[Â e,Â e,Â e];rfl
  .rw[Ã e,Ã e,Ã e,CC,ä,HP (by simpa using h)]
def mB(f:Str):List (D×D)->ZL
 |(.str g,d)::r=>if g=f then some d else mB f r
 |_=>none
def pO(f:Str):List (D×D)->Nat
 |(.str g,_)::r=>if g=f then 0 else pO f r+1
 |_=>0
def qC(f:Str)(y:D):List (D×D)->List (D×D)
 |(.str g,d)::r=>if g=f then (.str g,y)::r else (.str g,d)::qC f y r
 |_=>[(.str f,y)]
def nI :∀{fs:ZG}{ds:ZI},fs.length=ds.length->mB f ((fs.map PyData.str).zip ds)=ds[jN f fs]?
 |[],[],_=>rfl
 |g::fs,v::vs,h=>by
  rw[Ì,ä];unfold mB jN;by_cases e:g=f
  .rw[Â e,Â e];rfl
  .rw[Ã e,Ã e,List.getElem?_cons_succ]
   exact nI (by simpa using h)
def sV :∀{fs:ZG}{ds:ZI},fs.length=ds.length->pO f ((fs.map PyData.str).zip ds)=jN f fs
 |[],[],_=>rfl
 |g::fs,v::vs,h=>by
  rw[Ì,ä];unfold pO jN;rw[sV (by simpa using h)]
def uZ :∀{fs:ZG}{ds:ZI},fs.length=ds.length->qC f y ((fs.map PyData.str).zip ds)=((A9 f fs).map PyData.str).zip (wF (jN f fs) y ds)
 |[],[],_=>rfl
 |g::fs,v::vs,h=>by
  rw[Ì,ä];unfold qC A9 jN;by_cases e:g=f
  .rw[Â e,Â e,Â e];rfl
  .rw[Ã e,Ã e,Ã e,CC,Ì,ä,uZ (by simpa using h)]
def gQ(nm f:Str):D->ZL
 |.dict ((.none,.str n)::Á)=>if n=nm then mB f Á else none
 |_=>none
section
variable {X:Cx}{Z:cI}{ow:ZH}{pos:Pos}{e a c:Expr}{h:M D}{F H:Hp}{g:ZP}{K:ZC}{nm f:Str}
def WM(K:ZC)(nm f:Str):Prop:=∀C,W.nsIn K mainGlobals nm=some (some (.ref C))->S8 K C/\lR K C f
def HQ:∀{Á:List (D×D)}{fs:ZG},Á.map Prod.fst=fs.map PyData.str->Á=(fs.map PyData.str).zip (Á.map Prod.snd)
 |[],[],_=>rfl
 |(k,d)::Á,g::fs,h=>by
  rw[Ì,Ì]at h;injection h with h1 h2;rw[Ì,Ì,ä,<- HQ h2];exact congrArg (λk=>(k,d)::Á) h1
def OI{d r:D}(h:bE K F d v)(e:gQ nm f d=some r):∃a C dx fs y,v=.ref a/\F a=some (.ins C dx fs)/\W.nsIn K mainGlobals nm=some (some (.ref C))/\fs.lookup f=some y/\bE K F r y:=by
 unfold gQ at e;split at e
 .rename_i n Á
  split at e
  .rename_i hn
   subst hn;unfold bE at h;let⟨a,xs,rfl,hh,hr⟩:=h;rcases hh with ⟨nm',fs,C,dx,vs,h1,h2,h3,h4,h5,h6⟩|⟨ms,h1,_⟩
   .subst h1
    rw[Ì]at h2;injection h2 with _ h2;unfold iM at hr;let⟨x,t,hx,r1,r2⟩:=hr;injection hx with hx1 hx2;subst hx2;unfold bE at r1;rw[<- hx1]at r1;injection r1 with r1;subst r1;rw[HQ h2]at e;have hl:fs.length=(Á.map Prod.snd).length:=by rw[<- Å (f:=PyData.str),<- h2,Å,Å]
    rw[nI hl]at e;let⟨y,y1,y2⟩:=r2.all.get e;exact⟨a,C,dx,_,y,rfl,h4,h6,by rw[jC h3];exact y1,y2⟩
   .exfalso
    rw[Ì]at h1;cases ms with
    |nil=>cases h1
    |cons m ms=>
     rw[Ì]at h1;injection h1 with h1 _;cases m<;>cases h1
  .cases e
 .cases e
def dN(nm:Str)(hc:WM X.K nm f)(ha:DE X Z ow 0 e fe)(hb:↥(attributeBase e f X.env (eval e X.env)=eval e X.env)):DE X Z ow 0 (.Attribute e f pos) (sM (gQ nm f) fe):=PE.mono (DJ ha hb) λσ H Q q=>by
 let⟨F,δ,R,q⟩:=q;unfold sM at q;sleep 1;cases e1:fe δ with
 |stuck=>rw[e1]at q;sleep 4
 |err x δ1=>rw[e1]at q;exact q
 |ok d δ1=>
  rw[e1]at q;simp![Res.bind]at q;intro v H1 F1 R1 s1;cases e2:gQ nm f d with
  |none=>rw[e2]at q;sleep 4
  |some r=>
   rw[e2]at q;let⟨a,C,dx,fs,y,rfl,h1,h2,h3,h4⟩:=OI R1.rep e2;let⟨c1,c2⟩:=hc C h2;exact⟨a,C,dx,fs,y,rfl,R1.rel.sub _ _ h1,c1,c2,h3,q y H1 F1 (R1.rel.x h4) s1⟩
def bA.ins{i c:Nat}(h:bA K F H g i c p d v)(hk:kd c=2):
  ∃a nm fs C dx ds vs,d=dH nm fs ds/\v=.ref a/\fs.length=ds.length/\ds.length=vs.length/\W.nsIn K mainGlobals nm=some (some (.ref C))/\g a=some (i,p)/\H a=some (.ins C dx (fs.zip vs))/\F a=none/\g dx=some (i,p++[1000])/\H dx=some (.own a)/\F dx=none /\
   ∀(k:Nat)(d':D)(v':V),ds[k]?=some d'->vs[k]?=some v'->bA K F H g i (ch c k) (p++[k]) d' v':=by
 cases c with
 |zero=>cases hk
 |succ c=>
  let⟨ds,vs,cs,nd,hc,hl,r⟩:=h.open;rw[hk]at nd;let⟨a,nm,fs,C,dx,h1,h2,h3,h4,rfl⟩:=nd;let⟨a1,a2,a3⟩:=hc _ Ô;let⟨b1,b2,b3⟩:=hc _ (Ó _ (ò.mpr rfl));exact⟨a,nm,fs,C,dx,ds,vs,h1,h2,h3,hl,h4,by simpa using a1,a2,a3,b1,b2,b3,r⟩
def bA.mkI{i c:Nat}{p:ZH}{a C dx:Addr}{fs:ZG}{ds:ZI}{vs:List V}(hk:kd c=2)(h3:fs.length=ds.length)(hl:ds.length=vs.length)(h4:W.nsIn K mainGlobals nm=some (some (.ref C)))(a1:g a=some (i,p))(a2:H a=some (.ins C dx (fs.zip vs)))(a3:F a=none)(b1:g dx=some (i,p++[1000]))(b2:H dx=some (.own a))(b3:F dx=none)(r:∀(k:Nat)(d':D)(v':V),ds[k]?=some d'->vs[k]?=some v'->bA K F H g i (ch c k) (p++[k]) d' v'):bA K F H g i c p (dH nm fs ds) (.ref a):=by
 cases c with
 |zero=>cases hk
 |succ c=>
  refine bA.shut (ds:=ds) (vs:=vs) (cs:=[(a,[],.ins C dx (fs.zip vs)),(dx,[1000],.own a)]) (by rw[hk];exact⟨a,nm,fs,C,dx,rfl,rfl,h3,h4,rfl⟩) (λx hx=>?_) hl r
  rcases Õ.mp hx with z|z
  .subst z;exact⟨by simpa using a1,a2,a3⟩
  .rw[ò.mp z];exact⟨b1,b2,b3⟩
def HR(i c:Nat)(nm f:Str):M D:=λδ=>match δ[i]? with
 |some (some (.dict ((.none,.str n)::Á)))=>if n=nm/\ch c (pO f Á)=0 then (match mB f Á with
  |some r=>.ok r δ
  |none=>.stuck)else .stuck
 |_=>.stuck
def oW{n:Str}{Á:List (D×D)}(h:(PyData.dict ((.none,.str n)::Á):D)=dH nm fs ds):n=nm/\Á=(fs.map PyData.str).zip ds:=by
 unfold dH at h;injection h with h;injection h with h1 h2;injection h1 with _ h1;injection h1 with h1;exact⟨h1,h2⟩
def oX(i:Nat)(nm:Str){c:Nat}{x:Str}{p:Pos}(hc:WM X.K nm f)(ho:↥(ow.getD i 0=c))(hk:↥(kd c=2))(hN:↥(X.N[i]?=some x))(hv:#v[AU X.env.scope x])(hd:⇑(Zdb x))(hcd:⇑(Zcd x))(hb:↥(attributeBase 'h' f X.env (eval 'h' X.env)=eval 'h' X.env)):DE X Z ow 0 (.Attribute 'h' f pos) (HR i c nm f):=PE.mono (DJ (dA hN hv hd hcd) hb) λσ H Q q=>by
 let⟨F,δ,⟨g,R⟩,q⟩:=q;unfold HR at q;split at q
 .rename_i n Á e0
  split at q
  .rename_i hn
   let⟨rfl,hch⟩:=hn;cases e1:mB f Á with
   |none=>rw[e1]at q;sleep 4
   |some r=>
    rw[e1]at q;let⟨v,w1,o⟩:=R.slot i _ e0;rw[ho]at o;let⟨a,nm',fs,C,dx,ds,vs,d1,rfl,l1,l2,hC,_,hH,_,_,_,_,hch'⟩:=o.ins hk;let⟨rfl,rfl⟩:=oW d1;rw[nI l1]at e1;rw[sV l1]at hch;have hlt:jN f fs<vs.length:=by have:=(Î.mp e1).1;exact õ ‹_› ‹_›
    have o1:=hch' _ _ _ e1 (Ê hlt);rw[hch]at o1;let⟨c1,c2⟩:=hc C hC;refine⟨_,w1,a,C,dx,_,vs[jN f fs],rfl,hH,c1,c2,?_,q _ H F ⟨g,R,o1⟩ λ_ _ z=>z⟩;rw[jC (by exact Eq.trans ‹_› ‹_›)];exact Ê hlt
  .sleep 4
 .sleep 4
end
section
variable {X:Cx}{Z:cI}{ow ol ox:ZH}{n rm c i:Nat}{pos:Pos}{e:Expr}{fe:M D}{F H:Hp}{σ:St}{δ:DS}{g:ZP}{K:ZC}{nm f:Str}
def LN(S:aP Z ow)(h:ow.getD i 0≠0):i<1000:=by
 by_cases hl:i<ow.length
 .exact Ù hl S.ow
 .exact absurd (by rw[Ë,ç (by exact è.mp ‹_›)];rfl) h
def aMA(hk:kd c=2):c≠0:=λz=>by rw[z]at hk;cases hk
def wK:∀{xs ys:ZG},xs.map PyData.str=ys.map PyData.str->xs=ys
 |[],[],_=>rfl
 |x::xs,y::ys,h=>by
  rw[Ì,Ì]at h;injection h with h1 h2;injection h1 with h1;rw[h1,wK h2]
def gD.putFld(S:aP Z ow)(R:gD K Z ow n d v F H σ δ)(ho:ow.getD i 0=c)(hk:kd c=2)(hd:δ[i]?=some (some (dH nm fs ds)))(hl:fs.length=ds.length)(hs:σ[i]?=some (some (.ref a)))(hch:ch c (jN f fs)=n):
  ∃C dx vs,fs.length=vs.length/\W.nsIn K mainGlobals nm=some (some (.ref C))/\H a=some (.ins C dx (fs.zip vs))/\bZ K Z ow F (aV H a (.ins C dx (kW f v (fs.zip vs)))) σ (δ.set i (some (dH nm (A9 f fs) (wF (jN f fs) d ds)))):=by
 let⟨g,R,oh⟩:=R;let⟨v1,w1,o⟩:=R.slot i _ hd;rw[hs]at w1;cases w1;rw[ho]at o;have i1:i<1000:=LN S (by rw[ho];exact aMA hk);let⟨a',nm',fs',C,dx,ds',vs,d1,ea,l1,l2,hC,a1,a2,a3,b1,b2,b3,hch'⟩:=o.ins hk;cases ea;let⟨rfl,ez⟩:=oW (nm:=nm') (n:=nm) (Á:=(fs.map PyData.str).zip ds) d1;have efs:fs=fs':=by
  have:=congrArg (List.map Prod.fst) ez;rw[ě (by rw[Å];exact ù ‹_›),ě (by rw[Å];exact ù ‹_›)]at this;exact wK this
 have eds:ds=ds':=by
  have:=congrArg (List.map Prod.snd) ez;rw[Ě (by rw[Å];lia),Ě (by rw[Å];lia)]at this;exact this
 subst efs eds;have hi:i<δ.length:=(Î.mp hd).1;have nda:dx≠a:=λz=>by rw[z,a1]at b1;cases b1
 refine⟨C,dx,vs,by exact Eq.trans ‹_› ‹_›,hC,a2,λb=>match g b with|some (m,p)=>if m=1000 then some (i,jN f fs::p)else some (m,p)|none=>none,λb u e=>?_,R.f0,λb u m e=>?_,R.new,λb z=>?_,λb m p e=>?_,by rw[Ï];exact R.len,R.par,λj d' e=>?_⟩
 .have:b≠a:=λz=>by rw[z,a3]at e;cases e
  rw[aE this];exact R.sub b u e
 .have:b≠a:=λz=>by
   subst z;rcases R.lab b i [] a1 with w|⟨q,w⟩
   .rw[w]at e;cases e
   .rw[w]at m;cases m
  rw[aE this];exact R.kept b u m e
 .by_cases hb:b=a
  .subst hb;rw[aJ];simp
  .rw[aE hb];exact R.there b z
 .cases eg:g b with
  |none=>rw[eg]at e;cases e
  |some l=>
   let⟨m',p'⟩:=l;rw[eg]at e;dsimp only at e;split at e
   .rename_i hm
    subst hm;rcases R.lab b 1000 p' eg with w|⟨q,w⟩
    .exact .inl w
    .exact absurd (Z.wf b 1000 q w) S.ps
   .cases e;exact R.lab b m p eg
 .have rl:∀{m:Nat},m≠1000->∀b p,g b=some (m,p)->(match g b with|some (m,p)=>if m=1000 then some (i,jN f fs::p)else some (m,p)|none=>none)=some (m,p):=λhm b p e=>by rw[e];exact Ã hm
  by_cases hj:j=i
  .subst hj
   rw[ß hi]at e;cases e;refine⟨_,hs,?_⟩;rw[ho];have ile:jN f fs<=ds.length:=by have:=WL (f:=f) (fs:=fs);lia
   refine bA.mkI (C:=C) (dx:=dx) (vs:=wF (jN f fs) v vs) hk ?_ ?_ hC (rl (by exact Ð ‹_›) _ _ a1) (by rw[aJ,HP (by exact Eq.trans ‹_› ‹_›)]) a3 (rl (by exact Ð ‹_›) _ _ b1) (by rw[aE nda];exact b2) b3 λk d' v' z1 z2=>?_
   .rw[HN,xY,hl]
   .rw[xY,xY,l2]
   .rw[OH ile]at z1
    rw[OH ∅]at z2;by_cases hk':k=jN f fs
    .subst hk'
     rw[Â rfl]at z1 z2;cases z1;cases z2;rw[hch];have:=bA.relabP (q:=[jN f fs]) (j:=j) (g':=λb=>match g b with|some (m,p)=>if m=1000 then some (j,jN f fs::p)else some (m,p)|none=>none) (λb p e=>by rw[e];exact Â rfl) (bA.updNe (o:=.ins C dx (kW f v (fs.zip vs))) a1 (.inl (by exact Þ ‹_›)) oh);rw[â]at this;exact this
    .rw[Ã hk']at z1 z2
     refine bA.relab (rl (by exact Ð ‹_›)) (bA.updNe a1 (.inr λw=>?_) (hch' k d' v' z1 z2));let⟨t,ht⟩:=w;cases ht
  .rw[Ú (Í hj)]at e
   let⟨v',e1,o'⟩:=R.slot j d' e;refine⟨v',e1,?_⟩;by_cases hz:ow.getD j 0=0
   .rw[hz]at o'⊢;exact o'
   .have j1:j<1000:=LN S hz
    exact bA.relab (rl (by exact Ð ‹_›)) (bA.updNe a1 (.inl hj) o')
def sW(i c n:Nat)(nm f:Str)(fe:M D):M Fl:=λδ=>(fe δ).bind λy δ1=>match δ1[i]? with
 |some (some (.dict ((.none,.str m)::Á)))=>if m=nm/\ch c (pO f Á)=n/\Á.length<1000 then .ok .next (δ1.set i (some (.dict ((.none,.str m)::qC f y Á))))else .stuck
 |_=>.stuck
def HS{Á:List (D×D)}(R:cV K Z ow g F H σ δ)(ho:ow.getD i 0=c)(hk:kd c=2)(hd:δ[i]?=some (some (.dict ((.none,.str m)::Á)))):∃(a:Addr)(fs:ZG)(ds:ZI),Á=(fs.map PyData.str).zip ds/\fs.length=ds.length/\σ[i]?=some (some (.ref a)):=by
 let⟨v1,w1,o⟩:=R.slot i _ hd;rw[ho]at o;let⟨a',nm',fs',C,dx,ds',vs,d1,ea,l1,_⟩:=o.ins hk;subst ea;let⟨_,ez⟩:=oW d1;exact⟨a',fs',ds',ez,l1,w1⟩
def nJ(i:Nat)(nm:Str){x:Str}{p pos':Pos}(S:aP Z ow)(hc:WM X.K nm f)(hv:DE X Z ow n e fe)(ho:↥(ow.getD i 0=c))(hk:↥(kd c=2))(hN:↥(X.N[i]?=some x))(hvi:#v[AU X.env.scope x])(hd:⇑(Zdb x))(hcd:⇑(Zcd x))(hs:↥(swapsWith e (some (.Attribute 'h' f pos')) pos.line X.env=pure false)):DZ X Z ow ow ol ox rm (.Assign [.Attribute 'h' f pos'] e pos) (sW i c n nm f fe):=PS.mono (aG4 (dA hN hvi hd hcd) hv hs) λDn σ H h=>by
 let⟨F,δ,R,h⟩:=h;unfold sW at h;sleep 1;cases e1:fe δ with
 |stuck=>rw[e1]at h;exact h.elim
 |err y δ1=>rw[e1]at h;exact jJ.cast h
 |ok dv δ1=>
  rw[e1]at h;simp![Res.bind]at h;intro v H1 F1 R1 s1;split at h
  .rename_i m Á e0
   split at h
   .rename_i hh
    let⟨rfl,hch,hlt⟩:=hh;let⟨g1,RG,o1⟩:=R1;let⟨a,fs,ds,rfl,l1,w1⟩:=HS RG ho hk e0;rw[sV l1]at hch;let⟨C,dx,vs,l3,hC,hH,R2⟩:=gD.putFld (f:=f) S ⟨g1,RG,o1⟩ ho hk (show δ1[i]?=some (some (dH m fs ds))from e0) l1 w1 hch;let⟨c1,c2⟩:=hc C hC;rw[ì,Å]at hlt;refine⟨_,w1,a,C,dx,_,rfl,hH,c1,c2,by rw[ì];lia,?_⟩;rw[uZ l1]at h;exact h σ _ F1 R2 s1
   .exact h.elim
  .exact h.elim
end
def OJ :∀{fs:ZG},jN f fs<fs.length->A9 f fs=fs
 |g::r,h=>by
  unfold A9;unfold jN at h;by_cases e:g=f
  .rw[Â e]
  .rw[Ã e]at h
   rw[Ã e,OJ (by rw[Û]at h;exact Nat.le_of_lt_succ ‹_›)]
section
variable {X:Cx}{Z:cI}{ow ol ox:ZH}{rm c i:Nat}{pos spos tpos:Pos}{e:Expr}{fk fv:M D}{F H:Hp}{σ:St}{δ:DS}{g:ZP}{K:ZC}{nm f:Str}
def cV.atF(R:cV K Z ow g F H σ δ)(ho:ow.getD i 0=c)(hk:kd c=2)(hd:δ[i]?=some (some (dH nm fs ds)))(hl:fs.length=ds.length)(hch:ch c (jN f fs)=1)(hj:ds[jN f fs]?=some (.list inner)):
  ∃a C dx vs b ws,σ[i]?=some (some (.ref a))/\W.nsIn K mainGlobals nm=some (some (.ref C))/\H a=some (.ins C dx (fs.zip vs))/\fs.length=vs.length/\vs[jN f fs]?=some (.ref b)/\H b=some (.lst ws)/\aD K F inner ws/\g b=some (i,[jN f fs]):=by
 let⟨v1,w1,o⟩:=R.slot i _ hd;rw[ho]at o;let⟨a,nm',fs',C,dx,ds',vs,d1,ea,l1,l2,hC,a1,a2,a3,b1,b2,b3,hch'⟩:=o.ins hk;subst ea;let⟨rfl,ez⟩:=oW (nm:=nm') (n:=nm) (Á:=(fs.map PyData.str).zip ds) d1;have efs:fs=fs':=by
  have:=congrArg (List.map Prod.fst) ez;rw[ě (by rw[Å];exact ù ‹_›),ě (by rw[Å];exact ù ‹_›)]at this;exact wK this
 have eds:ds=ds':=by
  have:=congrArg (List.map Prod.snd) ez;rw[Ě (by rw[Å];lia),Ě (by rw[Å];lia)]at this;exact this
 subst efs eds;have jl:jN f fs<vs.length:=by have:=(Î.mp hj).1;exact õ ‹_› ‹_›
 have o2:=hch' _ _ _ hj (Ê jl);rw[hch]at o2;let⟨b,inner',ws,y1,y2,y3,y4,y5,y6,y7⟩:=o2.lst (m:=0);cases y1;exact⟨a,C,dx,vs,b,ws,w1,hC,a2,by exact Eq.trans ‹_› ‹_›,by rw[Ê jl,y2],y4,aD.of y6 y7,y3⟩
def cV.rewriteF(R:cV K Z ow g F H σ δ)(ho:ow.getD i 0=c)(hk:kd c=2)(hd:δ[i]?=some (some (dH nm fs ds)))(hl:fs.length=ds.length)(hch:ch c (jN f fs)=1)(hj:ds[jN f fs]?=some (.list inner))(hs:σ[i]?=some (some (.ref a)))(ha:H a=some (.ins C dx (fs.zip vs)))(hb:vs[jN f fs]?=some (.ref b))(hvl:fs.length=vs.length)(hr:aD K F inner' ws'):cV K Z ow g F (aV H b (.lst ws')) σ (δ.set i (some (dH nm fs (ds.set (jN f fs) (.list inner'))))):=by
 let⟨v1,w1,o⟩:=R.slot i _ hd;rw[hs]at w1;cases w1;rw[ho]at o;let⟨a',nm',fs',C',dx',ds',vs',d1,ea,l1,l2,hC,a1,a2,a3,b1,b2,b3,hch'⟩:=o.ins hk;cases ea;let⟨rfl,ez⟩:=oW (nm:=nm') (n:=nm) (Á:=(fs.map PyData.str).zip ds) d1;have efs:fs=fs':=by
  have:=congrArg (List.map Prod.fst) ez;rw[ě (by rw[Å];exact ù ‹_›),ě (by rw[Å];exact ù ‹_›)]at this;exact wK this
 have eds:ds=ds':=by
  have:=congrArg (List.map Prod.snd) ez;rw[Ě (by rw[Å];lia),Ě (by rw[Å];lia)]at this;exact this
 subst efs eds;rw[ha]at a2;injection a2 with a2;injection a2 with q1 q2 q3;subst q1 q2;have evs:vs=vs':=by
  have:=congrArg (List.map Prod.snd) q3;rw[Ě ∅,Ě ∅]at this;exact this
 subst evs;have jl:jN f fs<vs.length:=(Î.mp hb).1;have o2:=hch' _ _ _ hj hb;rw[hch]at o2;let⟨b',inner0,ws,y1,y2,y3,y4,y5,y6,y7⟩:=o2.lst (m:=0);cases y1;cases y2;have y3:g b=some (i,[jN f fs]):=y3;have hi:i<δ.length:=(Î.mp hd).1;have nab:a≠b:=λz=>by rw[z,y3]at a1;cases a1
 have hne:dx≠b:=λz=>by rw[z,y4]at b2;cases b2
 refine⟨λb' u e=>?_,R.f0,λb' u n e=>?_,R.new,λb' z=>?_,R.lab,by rw[Ï];exact R.len,R.par,λk d e=>?_⟩
 .have:b'≠b:=λz=>by rw[z,y5]at e;cases e
  rw[aE this];exact R.sub b' u e
 .have:b'≠b:=λz=>by
   subst z;rcases R.lab b' i _ y3 with w|⟨q,w⟩
   .rw[w]at e;cases e
   .rw[w]at n;cases n
  rw[aE this];exact R.kept b' u n e
 .by_cases hb':b'=b
  .subst hb';rw[aJ];simp
  .rw[aE hb'];exact R.there b' z
 .by_cases hki:k=i
  .subst hki
   rw[ß hi]at e;cases e;refine⟨_,hs,?_⟩;rw[ho];refine bA.mkI (C:=C) (dx:=dx) (vs:=vs) hk (by rw[Ï];exact hl) (by rw[Ï];exact l2) hC a1 (by rw[aE nab];exact ha) a3 b1 (by rw[aE hne];exact b2) b3 λl d' v' z1 z2=>?_;by_cases hlq:jN f fs=l
   .subst hlq
    rw[ß (by exact õ ‹_› (Eq.symm ‹_›))]at z1;cases z1;rw[hb]at z2;cases z2;rw[hch];exact bA.mkL (m:=0) ⟨b,inner',ws',rfl,rfl,y3,aJ,y5,hr.len,λk d' v' z1 z2=>hr.both k d' v' z1 z2⟩
   .rw[Ú hlq]at z1
    refine bA.updNe y3 (.inr λz=>?_) (hch' l d' v' z1 z2);have z:[l] <+: [jN f fs]:=z;let⟨t,ht⟩:=z;injection ht with h1 _;exact hlq h1.symm
  .rw[Ú (Í hki)]at e
   let⟨v,e1,o⟩:=R.slot k d e;exact⟨v,e1,bA.updNe y3 (.inl hki) o⟩
def sX(i c:Nat)(nm f:Str)(fk fv:M D):M Fl:=λδ=>(fv δ).bind λv δ1=>match δ1[i]?,fk δ1 with
 |some (some (.dict ((.none,.str m)::Á))),.ok (.int k) _=>if m=nm/\ch c (pO f Á)=1 then (match mB f Á with
  |some (.list ds)=>(match oJ ds.length k with
   |some j=>.ok .next (δ1.set i (some (.dict ((.none,.str m)::qC f (.list (ds.set j v)) Á))))
   |none=>.stuck)
  |_=>.stuck)else .stuck
 |_,_=>.stuck
def CD(i m:Nat)(nm:Str){x:Str}{p p2:Pos}(S:aP Z ow)(hc:WM X.K nm f)(hv:DE X Z ow 0 ev fv)(hk:∀F H σ,DE X (cW F H σ m) 'c' 0 ek fk)(ho:↥(ow.getD i 0=c))(hkd:↥(kd c=2))(hN:↥(X.N[i]?=some x))(hvi:#v[AU X.env.scope x])(hd:⇑(Zdb x))(hcd:⇑(Zcd x))(hb:↥(attributeBase 'h' f X.env (eval 'h' X.env)=eval 'h' X.env))(ha: ~~~(∀v,assign (.Subscript (.Attribute 'h' f p2) ek tpos) X.env v=(do
   let ov <- holding [v] (eval (.Attribute 'h' f p2) X.env);let iv <- holding [v,ov] (eval ek X.env)
   standAt tpos
   holding [v,ov,iv] (setItem ov iv v)
   release [v,ov,iv] [])))(hs:↥(swapsWithSole [.Subscript (.Attribute 'h' f p2) ek tpos] ev spos.line X.env=pure false))(hw:↥(swappedStores [.Subscript (.Attribute 'h' f p2) ek tpos] ev X.env=pure none))(h1:↥((assignEach [.Subscript (.Attribute 'h' f p2) ek tpos] X.env).map (·.2)=[assign (.Subscript (.Attribute 'h' f p2) ek tpos) X.env])):
  DZ X Z ow ow ol ox rm (.Assign [.Subscript (.Attribute 'h' f p2) ek tpos] ev spos) (sX i c nm f fk fv):=PS.mono (T1 hv (T0 (DJ (dA hN hvi hd hcd) hb) (uY m hk) GO ha) hs hw h1) λDn σ H h=>by
 let⟨F,δ,R,h⟩:=h;unfold sX at h;sleep 1;cases e1:fv δ with
 |stuck=>rw[e1]at h;exact h.elim
 |err y δ1=>rw[e1]at h;exact jJ.cast h
 |ok dv δ1=>
  rw[e1]at h;simp![Res.bind]at h;rintro v H1 F1 ⟨g,R1,ov⟩ s1;have ov:bE X.K F1 dv v:=ov;split at h
  .rename_i mm Á k δ2 e0 ek0
   split at h
   .rename_i hh
    let⟨rfl,hch⟩:=hh;split at h
    .rename_i ds eds
     split at h
     .rename_i j ej
      let⟨a0,fs,dd,rfl,l1,w1⟩:=HS R1 ho hkd e0;rw[sV l1]at hch;rw[nI l1]at eds;let⟨a,C,dx,vs,b,ws,q1,hC,q2,q3,q4,q5,q6,q7⟩:=R1.atF ho hkd (show δ1[i]?=some (some (dH mm fs dd))from e0) l1 hch eds;let⟨c1,c2⟩:=hc C hC;refine⟨_,q1,a,C,dx,_,.ref b,rfl,q2,c1,c2,by rw[jC q3];exact q4,KD g F1 H1,KD g F1 H1,δ1,R1.bor,?_⟩;rw[ek0];rintro kv H2 F2 ⟨g2,R2,o2⟩ s2;have evk:kv=.int k:=by
       have o2:bE X.K F2 (.int k) kv:=o2;unfold bE at o2;exact o2
      subst evk;have hsame:aI H1 H2:=λb o e=>R2.kept b o rfl e;have R3:=R1.grow hsame;refine⟨b,ws,k,j,rfl,rfl,hsame _ _ q5,by rw[<- q6.len];exact ej,?_⟩;have R4:=R3.rewriteF (f:=f) ho hkd (show δ1[i]?=some (some (dH mm fs dd))from e0) l1 hch eds q1 (hsame _ _ q2) q4 q3 (q6.set j ov);have hlt:jN f fs<dd.length:=(Î.mp eds).1;rw[uZ l1,OJ (by exact õ ‹_› (Eq.symm ‹_›)),show wF (jN f fs) (PyData.list (ds.set j dv)) dd=dd.set (jN f fs) (.list (ds.set j dv))from Â hlt]at h;exact h σ _ F1 ⟨g,R4⟩ s1
     .exact h.elim
    .exact h.elim
   .exact h.elim
  .exact h.elim
def WN(C:Addr)(m:Str)(sp:Sp)(E:St->XK)(ta:TE)(t:TA):TE:=λσ H Q=>ta σ H λx H1=>∃a dx fs,x=.ref a/\H1 a=some (.ins C dx fs)/\fs.lookup m=none/\t σ H1 λvs H2=>sp (x::vs) H2 Q (E σ)
def WO{pl:Sem Bool}{apos:Pos}(he:PE X o ta)(c:S8 X.K C)(hm:ň X.K C m fa)(Fk:qO X.prog X.w X.K X.mg X.base (A0 X.prog X.w X.K) k fa fd pn sp)(hr:fD k X.A)(hb:pW X.K fd pn [])(ha:PA X (e::es) t)(hst:↥(Zse e es X.env))(hpl:↥(Zbt pos es X.env))(ht:↥(eval (.Call (.Attribute o m apos) (e::es) [] pos) X.env=(do
   let ov <- eval o X.env
   standAt apos.atName
   let (f,first) <- holding [ov] (getMethod ov m pl)
   callWith pos f first (backTo pos (starEach (e::es) X.env)) (backToKw pos (keywordEach [] X.env))))):
  PE X (.Call (.Attribute o m apos) (e::es) [] pos) (WN C m sp (EX X) ta t):=by
 intro À s σ H Q I h;refine W.methodCall_KW (pl:=pl) (cA (he À s σ H _ I h) λu s1 zQ=>?_) ht;let⟨x,H1,I1,rx,a,dx,fs,ex,ea,l,q⟩:=zQ;subst ex;obtain rfl:u=Value.ref a:=rx;refine KS I1 ea c hm l ?_;refine W.callWith_K (first:=[.ref a]) (h₀:=X.base) I.ok.mod.kin hm.kp (cA (ha pos À s1 σ H1 _ I1 q) λus s2⟨vs,H2,I2,r,q2⟩=>⟨I2.kIn,?_⟩) hst hpl;have r2:bI (V.ref a::vs) (Value.ref a::us):=.cons rfl r;have hl:(Value.ref a::us).length=pn.length:=by rw[<- r2.length];exact Fk.len _ _ _ _ q2
 have hb':=hb s2 (Value.ref a::us) I2.kIn (by rw[â];exact hl);rw[â]at hb';refine wpAny_call (codeAny_mono (Fk.run X.A X.stack s2 H2 ⟨Value.ref a::us,[]⟩ (Value.ref a::us) _ Q (EX X σ) hr I2.env0 hb' r2 q2) λr s' hq=>?_);cases r with
 |error e=>
  let⟨nm,a,cls,ch,H',rfl,hn,os,bare,un,hok,x,new,q3⟩:=hq;have I3:Inv X À σ H' s':=I2.call' os un hok bare λb z=>absurd z 'e';exact q3 nm rfl À _ s' I3 ⟨a,cls,ch,rfl,hn,x,λb hb=>xG.of I2 (new b hb).1 (new b hb).2⟩
 |ok fl=>
  cases fl with
  |ret u=>exact I2.after hq
  |next=>exact False.elim hq
  |brk=>exact False.elim hq
  |cont=>exact False.elim hq
def xZ(i:Nat)(nm m:Str)(fn:ZI->Res D)(as:List Arg):M D:=λδ=>match δ[i]? with
 |some (some (.dict ((.none,.str n)::Á)))=>if n=nm/\mB m Á=none then iZ fn (.own i::as) δ else .stuck
 |_=>.stuck
def Q3{fs:ZG}{ds:ZI}{vs:List V}(l1:fs.length=ds.length)(l2:fs.length=vs.length)(h:mB m ((fs.map PyData.str).zip ds)=none):(fs.zip vs).lookup m=none:=by
 rw[nI l1]at h;rw[jC l2];rw[List.getElem?_eq_none_iff]at h⊢;lia
def Š(K:ZC)(nm:Str)(C:Addr):Prop:=W.nsIn K mainGlobals nm=some (some (.ref C))/\S8 K C
def WP(S:aP Z ow)(hC:Š X.K nm C)(ho:kd (ow.getD i 0)=2)(hz:ē Z=true)(hl:as.length+1=pn.length)(hps:fY 0 (.own i::as)=ps)(nd:decide (aX (.own i::as)).Nodup=true)(hm:fI owp ow 0 (.own i::as)=true)(hlt:as.length+1<=1000)(h:tD X Z ow rm (xZ i nm m fn as) σ H Q):WN C m (TD X.K pn ps owp rm fn) (EX X) (GF i) (ŏ X Z ow as) σ H Q:=by
 let⟨F,δ,R,h⟩:=h;unfold xZ at h;split at h
 .rename_i n Á e0
  split at h
  .rename_i hh
   let⟨rfl,hg⟩:=hh;let⟨F0,δ0,R0,h0⟩:=G3 (as:=.own i::as) (pn:=pn) (ps:=ps) (owp:=owp) S hz hl hps nd hm hlt ⟨F,δ,R,h⟩;let⟨g,RG⟩:=R;let⟨v,w1,o⟩:=RG.slot i _ e0;let⟨a,nm',fs,C',dx,ds,vs,d1,rfl,l1,l2,hC',_,hH,_⟩:=o.ins ho;let⟨rfl,rfl⟩:=oW d1;rw[hC.1]at hC';cases hC';refine⟨_,w1,a,dx,_,rfl,hH,Q3 l1 (by exact Eq.trans ‹_› ‹_›) hg,F0,δ0,R0,?_⟩;unfold dJ at h0;split at h0
   .cases e1:dJ as δ0 with
    |stuck=>rw[e1]at h0;exact h0.elim
    |err x δ1=>rw[e1]at h0;exact h0
    |ok ods δ1=>
     rw[e1]at h0;exact λus H' F' R' s' z=>h0 (.ref a::us) H' F' R' s' ⟨w1,z⟩
   .exact h0.elim
  .exact h.elim
 .exact h.elim
def aCU(i:Nat){pl:Sem Bool}{x:Str}{p apos:Pos}(S:aP Z ow)(hC:Š X.K nm C)(hme:ň X.K C m fa)(Fk:qO X.prog X.w X.K X.mg X.base (A0 X.prog X.w X.K) k fa fd pn (TD X.K pn ps owp rm fn))(hr:fD k X.A)(hb:pW X.K fd pn [])(ha:DA X Z ow (e::es) as)(ho:↥(kd (ow.getD i 0)=2))(hz:↥(ē Z=true))(hl:↥(as.length+1=pn.length))(hps:↥(fY 0 (.own i::as)=ps))(nd:↥(decide (aX (.own i::as)).Nodup=true))(hm:↥(fI owp ow 0 (.own i::as)=true))(hlt:⇑(as.length+1<=1000))(hN:↥(X.N[i]?=some x))(hvi:#v[AU X.env.scope x])(hd:⇑(Zdb x))(hcd:⇑(Zcd x))(hst:↥(Zse e es X.env))(hpl:↥(Zbt pos es X.env))(ht:↥(eval (.Call (.Attribute 'h' m apos) (e::es) [] pos) X.env=(do
   let ov <- eval 'h' X.env
   standAt apos.atName
   let (f,first) <- holding [ov] (getMethod ov m pl)
   callWith pos f first (backTo pos (starEach (e::es) X.env)) (backToKw pos (keywordEach [] X.env))))):
  DE X Z ow rm (.Call (.Attribute 'h' m apos) (e::es) [] pos) (xZ i nm m fn as):=PE.mono (WO (pl:=pl) (dA hN hvi hd hcd) hC.2 hme Fk hr hb ha hst hpl ht) λ_ _ _ h=>WP S hC ho hz hl hps nd hm hlt h
def WQ(C:Addr)(sp:Sp)(E:St->XK)(t:TA):TE:=λσ H Q=>t σ H λvs H1=>∀x dx,H1 x=none->H1 dx=none->dx≠x ->
 sp (.ref x::vs) (aV (aV H1 dx (.own x)) x (.ins C dx [])) (λv H2=>v=.non/\Q (.ref x) H2) (E σ)
def WR{p:Pos}(M:Mk X.K C fa)(Fk:qO X.prog X.w X.K X.mg X.base (A0 X.prog X.w X.K) k fa fd pn sp)(hr:fD (k+1) X.A)(hg:Gl X x)(hm:X.mg x=some (.ref C))(hb:pW X.K fd pn [])(ha:PA X (e::es) t)(hdb:⇑(Zdb x))(he:↥(Zse e es X.env))(hpl:↥(Zbt pos es X.env)):
  PE X (.Call 'h' (e::es) [] pos) (WQ C sp (EX X) t):=by
 intro À s0 σ H0 Q I0 h0;refine wpAny_Call_Name_kw (DD I0 hg hm ?_ hdb);refine W.callWith_K (h₀:=X.base) I0.ok.mod.kin M.kp (cA (ha pos À s0 σ H0 _ I0 h0) λus s⟨vs,H,I,r,h⟩=>⟨I.kIn,?_⟩) he hpl;have hq:=h (s.heap.objs.size+1) s.heap.objs.size (I.hok.fresh (Nat.le_succ _)) (I.hok.fresh (È _)) (Ð (ð _));have I2:=Inv.made (C:=C) I;have r2:bI (V.ref (s.heap.objs.size+1)::vs) (Value.ref (s.heap.objs.size+1)::us):=.cons rfl r;have hl:(Value.ref (s.heap.objs.size+1)::us).length=pn.length:=by
  have e:=r2.length;rw[Fk.len _ _ _ _ hq]at e;exact e.symm
 have hb':=hb _ (Value.ref (s.heap.objs.size+1)::us) I2.kIn (by rw[â];exact hl);rw[â]at hb';refine wpAny_call (UE (f:=fa) I.kIn M.makes M.init (beq_iff_eq.mp M.fn) (codeAny_mono (Fk.run _ X.stack _ _ ⟨Value.ref (s.heap.objs.size+1)::us,[]⟩ (Value.ref (s.heap.objs.size+1)::us) _ _ (EX X σ) (hr.make C us [])
  (I2.env0.make C us []) hb' r2 hq) λr s' hq'=>?_))
 cases r with
 |error e=>
  let⟨nm,a,cls,ch,H',rfl,hn,os,bare,un,hok,x,new,q3⟩:=hq';have I3:Inv X À σ H' s':=I2.call' os un hok bare λb z=>absurd z 'e';exact q3 nm rfl À _ s' I3 ⟨a,cls,ch,rfl,hn,x,λb hb=>xG.of I2 (new b hb).1 (new b hb).2⟩
 |ok fl=>
  cases fl with
  |ret u=>
   let⟨v,H',I3,rv,ev,q3⟩:=I2.after hq';subst ev;exact⟨rv,⟨V.ref (s.heap.objs.size+1),H',I3,rfl,q3⟩⟩
  |next=>exact False.elim hq'
  |brk=>exact False.elim hq'
  |cont=>exact False.elim hq'
end
section
variable {X:Cx}{Z:cI}{ow:ZH}{c m:Nat}{pos:Pos}{e:Expr}{F:Hp}{σ:St}{δ:DS}{K:ZC}
def sY(h:i≠ow.length):(ow++[c]).getD i 0=ow.getD i 0:=by
 rw[Ë,Ë];by_cases hl:i<ow.length
 .rw[ô hl]
 .rw[ç (by rw[Ñ,ó];lia),ç (by exact è.mp ‹_›)]
def CF:(ow++[c]).getD ow.length 0=c:=by
 rw[Ë,ã (È _),û];rfl
def u0{α:Type}{xs:List α}{y:α}(h:i≠xs.length):(xs++[y])[i]?=xs[i]?:=by
 by_cases hl:i<xs.length
 .rw[ô hl]
 .rw[ç (by rw[Ñ,ó];lia),ç (by exact è.mp ‹_›)]
def k7{α:Type}{xs:List α}{y:α}:(xs++[y])[xs.length]?=some y:=by
 rw[ã (È _),û];rfl
def cV.push(R:cV K Z ow g F H σ δ)(hk:kd c=2)(hC:W.nsIn K mainGlobals nm=some (some (.ref C)))(hx:H x=none)(hdx:H dx=none)(ne:dx≠x)(hm:δ.length=ow.length)(hps:ow.length∉Z.ps):
  bZ K Z (ow++[c]) F (aV (aV H dx (.own x)) x (.ins C dx [])) (σ++[some (.ref x)]) (δ++[some (dH nm [] [])]):=by
 have hsm:σ.length=ow.length:=by rw[<- R.len];exact hm
 have fx:F x=none:=by
  cases e:F x with
  |none=>rfl
  |some u=>rw[R.sub x u e]at hx;cases hx
 have fdx:F dx=none:=by
  cases e:F dx with
  |none=>rfl
  |some u=>rw[R.sub dx u e]at hdx;cases hdx
 have h0:∀a,H a=none->Z.H0 a=none:=λa e=>by
  cases e1:Z.H0 a with
  |none=>rfl
  |some o=>exact absurd e (R.there a (by rw[e1];simp))
 have hk':∀b o,H b=some o->aV (aV H dx (.own x)) x (.ins C dx []) b=some o:=λb o e=>by
  rw[aE (λz=>by rw[z,hx]at e;cases e),aE (λz=>by rw[z,hdx]at e;cases e)];exact e
 refine⟨λb=>if b=x then some (ow.length,[])else if b=dx then some (ow.length,[1000])else g b,λb u e=>hk' b u (R.sub b u e),R.f0,λb u n e=>hk' b u (R.kept b u n e),R.new,λb z=>?_,λa i p e=>?_,by rw[Ñ,Ñ,R.len];rfl,λi hi=>?_,λi d e=>?_⟩
 .cases e:H b with
  |none=>exact absurd e (R.there b z)
  |some o=>rw[hk' b o e];simp
 .split at e
  .rename_i z;rw[z];exact .inl (h0 x hx)
  .split at e
   .rename_i z;rw[z];exact .inl (h0 dx hdx)
   .exact R.lab a i p e
 .have:i≠ow.length:=λz=>hps (by rw[<- z];exact hi)
  rw[u0 ∅,sY this];exact R.par i hi
 .by_cases hi:i=ow.length
  .have e2:(δ++[some (dH nm [] [])])[i]?=some (some (dH nm [] [])):=by rw[hi,<- hm];exact k7
   rw[e2]at e;cases e;refine⟨.ref x,by rw[hi,<- hsm];exact k7,?_⟩;rw[hi,CF];exact bA.mkI (C:=C) (dx:=dx) (vs:=[]) hk rfl rfl hC (Â rfl) aJ fx (by rw[Ã ne,Â rfl];rfl) (by rw[aE ne,aJ]) fdx λk d' v' z1=>by cases z1
  .rw[u0 ∅]at e
   let⟨v,e1,o⟩:=R.slot i d e;refine⟨v,by rw[u0 ∅];exact e1,?_⟩;rw[sY hi];refine o.keepJ 'o' λa p u y1 y2 y3=>⟨?_,hk' a u y2,y3⟩;rw[Ã (λz=>by rw[z,hx]at y2;cases y2),Ã (λz=>by rw[z,hdx]at y2;cases y2)];exact y1
def cV.pop(S:aP Z ow)(R:cV K Z (ow++[c]) g F H (σ++[some v]) (δ++[some d]))(hm:δ.length=ow.length)(hps:ow.length∉Z.ps)(hlt:ow.length<1000):gD K Z ow c d v F H σ δ:=by
 have hsm:σ.length=ow.length:=by have:=R.len;rw[Ñ,Ñ]at this;simp at this;lia
 refine⟨λb=>match g b with|some (j,p)=>if j=ow.length then some (1000,p)else if j=1000 then none else some (j,p)|none=>none,⟨R.sub,R.f0,R.kept,R.new,R.there,λa i p e=>?_,∅,λi hi=>?_,λi d' e=>?_⟩,?_⟩
 .cases eg:g a with
  |none=>rw[eg]at e;cases e
  |some l=>
   let⟨j,q⟩:=l;rw[eg]at e;dsimp only at e;split at e
   .rename_i z
    cases e;rcases R.lab a j _ eg with w|⟨q',w⟩
    .exact .inl w
    .exact absurd (Z.wf a j q' w) (by rw[z];exact hps)
   .split at e
    .cases e
    .cases e;exact R.lab a i p eg
 .have:i≠ow.length:=λz=>hps (by rw[<- z];exact hi)
  have q:=R.par i hi;rw[u0 ∅,sY this]at q;exact q
 .have hi:i<δ.length:=(Î.mp e).1
  let⟨v',e1,o⟩:=R.slot i d' (by rw[u0 (by exact Ð ‹_›)];exact e);rw[u0 ∅]at e1;rw[sY ∅]at o;refine⟨v',e1,o.relab λa p y=>?_⟩;rw[y];dsimp only;rw[Ã ∅,Ã ∅]
 .obtain⟨v',e1,o⟩:=R.slot ow.length d (by rw[<- hm];exact k7)
  rw[<- hsm,k7]at e1;cases e1;rw[CF]at o;refine o.relab λa p y=>?_;rw[y];exact Â rfl
def HU(m:Nat)(nm:Str)(fn:ZI->Res D)(as:List Arg):M D:=λδ=>(dJ as δ).bind λods δ1=>if δ1.length=m then (match eZ δ1 as ods with
 |some ds=>(match fn (dH nm [] []::ds)with
  |.ok .none [some d]=>.ok d δ1
  |.err x [some _]=>.err x δ1
  |_=>.stuck)
 |none=>.stuck)else .stuck
def yA{δ δ':DS}:∀{as:List Arg}{ods:List (ZL)},aX as=[]->eZ δ as ods=eZ δ' as ods
 |[],[],_=>rfl
 |[],_::_,_=>rfl
 |.own i::as,_,h=>by cases h
 |.val f::as,[],_=>rfl
 |.val f::as,none::ods,_=>rfl
 |.val f::as,some d::ods,h=>by unfold eZ;rw[yA (δ:=δ) (δ':=δ') (as:=as) h]
def yB :∀{as:List Arg}{ods:List (ZL)}{vs:List V},aX as=[]->sJ K F σ as ods vs->sJ K F σ' as ods vs
 |[],[],[],_,_=>True.intro
 |.own i::as,_,_,h,_=>by cases h
 |.val f::as,some d::ods,v::vs,h,z=>⟨z.1,yB (as:=as) h z.2⟩
def HV{xs:DS}{y z:ZL}:(xs++[y]).set xs.length z=xs++[z]:=by
 rw[List.set_append_right _ _ (È _),û];rfl
def WS(S:aP Z ow)(hC:Š X.K nm C)(hk:kd c=2)(hz:ē Z=true)(hl:as.length+1=pn.length)(hv:aX as=[])(hm:fI owp (ow++[c]) 0 (.own ow.length::as)=true)(hlt:as.length+1<=1000)(hps:ow.length∉Z.ps)(hlo:ow.length<1000)(h:tD X Z ow c (HU ow.length nm fn as) σ H Q):WQ C (TD X.K pn [0] owp 0 fn) (EX X) (ŏ X Z ow as) σ H Q:=by
 let⟨F,δ,R,h⟩:=h;unfold HU at h;sleep 1;cases e:dJ as δ with
 |stuck=>sleep 5
 |err x δ1=>rw[e]at h;exact h
 |ok ods δ1=>
  rw[e]at h;simp![Res.bind]at h;rintro vs H1 F1 ⟨g1,R1⟩ s1 z x dx hx hdx ne;split at h
  .rename_i hml
   cases e2:eZ δ1 as ods with
   |none=>rw[e2]at h;exact h.elim
   |some ds=>
    rw[e2]at h;dsimp only at h;have R2:=R1.push (c:=c) (nm:=nm) hk hC.1 hx hdx ne hml hps;have hsl:σ.length=ow.length:=by rw[<- R1.len];exact hml
    have zA:sJ X.K F1 (σ++[some (.ref x)]) (.own ow.length::as) (none::ods) (.ref x::vs):=⟨by rw[<- hsl];exact k7,yB hv z⟩;have fA:eZ (δ1++[some (dH nm [] [])]) (.own ow.length::as) (none::ods)=some (dH nm [] []::ds):=by
     unfold eZ;rw[<- hml,k7,yA (δ':=δ1) hv,e2]
    have S2:aP Z (ow++[c]):=⟨by rw[Ñ,ó];assumption,S.ps⟩;let⟨m1,m2⟩:=lY hm;have l2:=(k5 fA zA).2.1;refine⟨by rw[l2];exact hl,NE S2 R2 zA fA ?_ ?_ (λq i e=>by have:=m1 q i e;rwa [Nat.zero_add]at this) (λq f e=>by have:=m2 q f e;rwa [Nat.zero_add]at this) hlt ?_⟩
    .have:∀(k:Nat)(as:List Arg),aX as=[]->fY k as=[]:=by
      intro k as
      induction as generalizing k with
      |nil=>intro _;rfl
      |cons a as ih=>
       cases a with
       |own i=>intro h;cases h
       |val f=>intro h;exact ih (k+1) h
     show 0::fY 1 as=[0];rw[this 1 as hv]
    .show (ow.length::aX as).Nodup
     rw[hv];simp
    .have es:aX (.own ow.length::as)=[ow.length]:=by show ow.length::aX as=_;rw[hv]
     rw[es];split at h
     .rename_i d e3
      rw[e3];intro v H' F' R' s';have hv':=R'.rep;unfold bE at hv';subst hv';let⟨g3,R3⟩:=R'.rel;have R3:cV X.K Z (ow++[c]) g3 F' H' (σ++[some (.ref x)]) ((δ1++[some (dH nm [] [])]).set ow.length (some d)):=R3;rw[<- hml,HV]at R3;exact⟨rfl,h _ H' F' (R3.pop S hml hps hlo) (s1.trans' s')⟩
     .rename_i x' d e3
      rw[e3];intro nm' hx' H' F' R' s' nm2 hnm À e s2 I2 fl;injection hnm with hnm;subst hnm;let⟨g3,R3⟩:=R';have R3:cV X.K Z (ow++[c]) g3 F' H' (σ++[some (.ref x)]) ((δ1++[some (dH nm [] [])]).set ow.length (some d)):=R3;rw[<- hml,HV]at R3;let⟨F2,s3,R4⟩:=(R3.pop S hml hps hlo).rel.toP hz;exact jJ.out h À e s2 ⟨nm',H',F2,σ,hx',I2,R4,s1.trans' (s'.trans' s3),fl⟩
     .exact h.elim
  .exact h.elim
def aCV{p:Pos}(m:Nat)(S:aP Z ow)(hC:Š X.K x C)(M:Mk X.K C fa)(Fk:qO X.prog X.w X.K X.mg X.base (A0 X.prog X.w X.K) k fa fd pn (TD X.K pn [0] owp 0 fn))(hr:fD (k+1) X.A)(hg:Gl X x)(hmg:X.mg x=some (.ref C))(hb:pW X.K fd pn [])(ha:DA X Z ow (e::es) as)(c:Nat)(hm0:↥(ow.length=m))(hk:↥(kd c=2))(hz:↥(ē Z=true))(hl:↥(as.length+1=pn.length))(hv:↥(aX as=[]))(hm:↥(fI owp (ow++[c]) 0 (.own ow.length::as)=true))(hlt:⇑(as.length+1<=1000))(hps:↥(Z.ps.contains ow.length=false))(hlo:⇑(ow.length<1000))(hdb:⇑(Zdb x))(he:↥(Zse e es X.env))(hpl:↥(Zbt pos es X.env)):
  DE X Z ow c (.Call 'h' (e::es) [] pos) (HU m x fn as):=PE.mono (WR M Fk hr hg hmg hb ha hdb he hpl) λ_ _ _ h=>by subst hm0;exact WS S hC hk hz hl hv hm hlt (cP hps) hlo h
end
section
variable {κ:Type}[DecidableEq κ]
def pQ(Á:List (κ×V))(k:κ):(Option V):=(Á.find? λkv=>decide (kv.1=k)).map (·.2)
def nK(Á:List (κ×V))(k:κ)(v:V):(List (κ×V)):=
 if (Á.any λkv=>decide (kv.1=k))=true then Á.map (λkv=>if kv.1=k then (kv.1,v)else kv)else Á++[(k,v)]
def sZ{k:κ}(e:p.1=k):pQ (p::r) k=some p.2:=by simp[pQ,Ă,e]
def s8{k:κ}(e:¬p.1=k):pQ (p::r) k=pQ r k:=by simp[pQ,Ă,e]
def HW(k:κ):∀Á:List (κ×V),(Á.any λkv=>decide (kv.1=k))=(pQ Á k).isSome
 |[]=>rfl
 |p::r=>by
  rw[List.any_cons];by_cases e:p.1=k
  .simp![sZ e,decide_eq_true e,Bool.true_or,Option.isSome_some]
  .rw[s8 e,decide_eq_false e,Bool.false_or];exact HW k r
def nL(Á:List (κ×V))(k:κ)(v:V):(nK Á k v).length<=Á.length+1:=by
 unfold nK;split
 .rw[Å];exact Nat.le_succ _
 .rw[Ñ,Û,List.length_nil];exact ð _
def mY.isSome_eq(r:mY o u):o.isSome=u.isSome:=by
 cases o with
 |none=>cases u with
  |none=>rfl
  |some _=>exact(show False from r).elim
 |some _=>cases u with
  |none=>exact(show False from r).elim
  |some _=>rfl
def mY.getD(r:mY o u)(rd:bH d d'):bH (o.getD d) (u.getD d'):=by
 cases o with
 |none=>cases u with
  |none=>exact rd
  |some _=>exact(show False from r).elim
 |some _=>cases u with
  |none=>exact(show False from r).elim
  |some _=>exact r
def KV.val(r:KV Á vs)(k:κ):mY (pQ Á k) (valueAt vs k):=by
 unfold KV at r
 induction r with
 |nil=>exact True.intro
 |@cons p q ps qs h t ih=>
  let⟨h1,h2⟩:=h;by_cases e:p.1=k
  .have e':q.1=k:=h1.symm.trans e
   have b:valueAt (q::qs) k=some q.2:=by simp[valueAt,Ă,e']
   rw[sZ e,b];exact h2
  .have e':¬q.1=k:=λz=>e (h1.trans z)
   have b:valueAt (q::qs) k=valueAt qs k:=by simp[valueAt,Ă,e']
   rw[s8 e,b];exact ih
def KV.any(r:KV Á vs)(k:κ):(Á.any λkv=>decide (kv.1=k))=vs.any λkv=>decide (kv.1=k):=by
 unfold KV at r
 induction r with
 |nil=>rfl
 |cons h t ih=>rw[List.any_cons,List.any_cons,ih,h.1]
def KV.repl(r:KV Á vs)(k:κ)(ry:bH y u):
  KV (Á.map λkv=>if kv.1=k then (kv.1,y)else kv) (vs.map λkv=>if kv.1=k then (kv.1,u)else kv):=by
 unfold KV at r⊢
 induction r with
 |nil=>exact .nil
 |@cons p q ps qs h t ih=>
  rw[Ì,Ì];refine .cons ?_ ih;let⟨h1,h2⟩:=h;by_cases e:p.1=k
  .rw[Â e,Â (h1.symm.trans e)];exact⟨h1,ry⟩
  .rw[Ã e,Ã (λz=>e (h1.trans z))];exact⟨h1,h2⟩
def KV.put(r:KV Á vs)(k:κ)(ry:bH y u):KV (nK Á k y) (stored vs k u):=by
 unfold nK stored;rw[r.any k];by_cases e:(vs.any λkv=>decide (kv.1=k))=true
 .rw[Â e,Â e];exact r.repl k ry
 .rw[Ã e,Ã e];exact Paired.snoc r ⟨rfl,ry⟩
def KV.length{Á:List (κ×V)}{vs:List (κ×Value)}(r:KV Á vs):Á.length=vs.length:=Paired.length r
end
def yC(r:bH (kV k) u):(cT P w).is k u=true:=by
 cases k with
 |inl i=>let⟨t,e⟩:=(show ∃t,u=Value.int i t from r);subst e;exact GB P w i t
 |inr x=>let⟨t,e⟩:=(show ∃t,u=Value.str x t from r);subst e;exact GC P w x t
def CG :∀{ks:List cX}{us:ZJ},bI (ks.map kV) us->ItemsAre (cT P w) ks us
 |[],_,r=>by rw[List.map_nil]at r;cases r;exact .nil
 |k::ks,_,r=>by
  rw[Ì]at r;cases r with
  |cons h t=>exact .cons (yC h) (CG t)
abbrev KT(H:Hp):List (List cX×V)->List (List cX×Addr×Value)->Prop:=Paired λp q=>p.1=q.1/\H q.2.1=some (.tup (p.1.map kV))/\bH p.2 q.2.2
def KT.val(r:KT H Á xs)(k:List cX):mY (pQ Á k) ((atKey xs k).map (·.2)):=by
 induction r with
 |nil=>exact True.intro
 |@cons p q ps qs h t ih=>
  let⟨h1,_,h2⟩:=h;by_cases e:p.1=k
  .have e':q.1=k:=h1.symm.trans e
   have b:atKey (q::qs) k=some q.2:=by simp[atKey,Ă,e']
   rw[sZ e,b];exact h2
  .have e':¬q.1=k:=λz=>e (h1.trans z)
   have b:atKey (q::qs) k=atKey qs k:=by simp[atKey,Ă,e']
   rw[s8 e,b];exact ih
def KT.repl(r:KT H Á xs)(k:List cX)(ry:bH y u):
  KT H (Á.map λkv=>if kv.1=k then (kv.1,y)else kv) (xs.map (putAt k u)):=by
 induction r with
 |nil=>exact .nil
 |@cons p q ps qs h t ih=>
  rw[Ì,Ì];refine .cons ?_ ih;let⟨h1,h2,h3⟩:=h;unfold putAt;by_cases e:p.1=k
  .rw[Â e,Â (h1.symm.trans e)];exact⟨h1,h2,ry⟩
  .rw[Ã e,Ã (λz=>e (h1.trans z))];exact⟨h1,h2,h3⟩
def KT.put(r:KT H Á xs)(k:List cX)(hb:H b=some (.tup (k.map kV)))(ry:bH y u):
  KT H (nK Á k y) (storedH xs k b u):=by
 have e:(Á.any λkv=>decide (kv.1=k))=(atKey xs k).isSome:=by
  rw[HW,(r.val k).isSome_eq,Option.isSome_map]
 unfold nK storedH;rw[e];by_cases q:(atKey xs k).isSome=true
 .rw[Â q,Â q];exact r.repl k ry
 .rw[Ã q,Ã q];exact Paired.snoc r ⟨rfl,hb,ry⟩
def KT.keeps(r:KT H Á xs)(ht:∀b ys,H b=some (.tup ys)->H' b=some (.tup ys)):KT H' Á xs:=
 Paired.mapP r λ_ _ z=>⟨z.1,ht _ _ z.2.1,z.2.2⟩
section
def Ϻ(ok:mZ P w H h)(e:Rd H a u):eC P w H h a u:=e.ok ok
def yD(ok:mZ P w H h)(e:Rd H a (.dK Á)):Á.length<=sizeLine/\(a == sysModules)=false/\∃vs,KV Á vs/\h.DictOf (cT P w) a vs:=
 show eC P w H h a (.dK Á)from Ϻ ok e
def ϻ(ok:mZ P w H h)(e:H a=some (.dK Á)):Á.length<=sizeLine/\(a == sysModules)=false/\∃vs,KV Á vs/\h.DictOf (cT P w) a vs:=yD ok (.inl e)
def u1(ok:mZ P w H h)(e:H a=some (.tup (ks.map kV))):(tupleKind (cT P w)).is h ks a:=by
 let⟨_,its,r,o,h1,h2,n,h3⟩:=(show eC P w H h a (.tup (ks.map kV))from ok a _ e);exact⟨o,its.toArray,n,h1,h2,h3,by simpa using CG r⟩
def yE(ok:mZ P w H h)(e:Rd H a (.dT Á)):Á.length<=sizeLine/\(a == sysModules)=false /\
  ∃xs,KT H Á xs/\h.DictOfH (tupleKind (cT P w)) a xs:=by
 let⟨z,y,xs,r,o,es,ep,h1,h2,h3,h4,h5⟩:=(show eC P w H h a (.dT Á)from Ϻ ok e);refine⟨z,y,xs,r,o,es,ep,h1,h2,h3,h4,λx hx=>?_,h5⟩;have all:∀{l:List (List cX×V)}{m:List (List cX×Addr×Value)},KT H l m->∀x∈m,(tupleKind (cT P w)).is h x.1 x.2.1:=by
  intro l m q
  induction q with
  |nil=>intro x hx;exact nomatch hx
  |@cons p q ps qs hq t ih=>
   intro x hx;rcases Õ.mp hx with e|hx
   .subst e
    exact u1 ok (by rw[<- hq.1];exact hq.2.1)
   .exact ih x hx
 exact all r x hx
def aMB(ok:mZ P w H h)(e:H a=some (.dT Á)):Á.length<=sizeLine/\(a == sysModules)=false /\
  ∃xs,KT H Á xs/\h.DictOfH (tupleKind (cT P w)) a xs:=yE ok (.inl e)
end
def pR(H:Hp)(a:Addr)(y:V)(r:Option V):Prop:=
 (∃Á k,Rd H a (.dK Á)/\y=kV k/\r=pQ Á k)\/∃Á k b,Rd H a (.dT Á)/\y=.ref b/\H b=some (.tup (k.map kV))/\r=pQ Á k
def WT(H:Hp)(a:Addr)(y v:V)(H':Hp):Prop:=
 (∃Á k,H a=some (.dK Á)/\y=kV k/\Á.length<sizeLine/\H'=aV H a (.dK (nK Á k v))) \/
 ∃Á k b,H a=some (.dT Á)/\y=.ref b/\H b=some (.tup (k.map kV))/\Á.length<sizeLine/\H'=aV H a (.dT (nK Á k v))
def pR.k{H:Hp}{a:Addr}{Á:List (cX×V)}{k:cX}(e:H a=some (.dK Á)):pR H a (kV k) (pQ Á k):=.inl ⟨Á,k,.inl e,rfl,rfl⟩
def WT.k{H:Hp}{a:Addr}{Á:List (cX×V)}{k:cX}{v:V}(e:H a=some (.dK Á))(hl:Á.length<sizeLine):WT H a (kV k) v (aV H a (.dK (nK Á k v))):=.inl ⟨Á,k,e,rfl,hl,rfl⟩
section
variable {X:Cx}{À:ZB}{σ:St}{H:Hp}{s:Shared}{a:Addr}{y v:V}{u r:Value}{o:Option V}{A:Around}{E:ZA}
def Inv.big(I:Inv X À σ H s):sysModules<s.heap.objs.size:=by
 have h:mainGlobals<s.heap.objs.size:=(I.mod.glob.keeps I.bk).lt;exact Nat.lt_trans ⋯ h
def Q5(hu:A.units+1<cLine)(I:Inv X À σ H s)(g:pR H a y (some v))(ry:bH y u)(h:∀w' s',Inv X À σ H s'->bH v w'->Q w' s'):
  wpAny 'b' A (getItem (.ref a) u) Q E s:=by
 rcases g with ⟨Á,k,e,ey,l⟩|⟨Á,k,b,e,ey,eb,l⟩
 .subst ey
  let⟨z,hd,vs,rel,dd⟩:=yD I.hok e;let⟨w',hw,rw'⟩:=mY.some_of (v:=v) (o:=valueAt vs k) (by rw[l];exact rel.val k);exact wpAny_getItem_of (yC ry) dd.mapOf hw (h w' _ (I.tok _) rw')
 .subst ey
  cases (show u=Value.ref b from ry);let⟨z,hd,xs,rel,dd⟩:=yE I.hok e;let⟨w',hw,rw'⟩:=mY.some_of (v:=v) (o:=(atKey xs k).map (·.2)) (by rw[l];exact rel.val k);let⟨p,hp,hp2⟩:=Option.map_eq_some_iff.mp hw;refine wpAny_getItem_heap (tupleKind_room_in1 hu) (u1 I.hok eb) dd hp ?_;rw[hp2];exact h w' _ (I.tok _) rw'
def aO5{Q:ZA}(hu:A.units+1<cLine)(I:Inv X À σ H s)(g:pR H a y o)(ry:bH y u)(h:∀s',Inv X À σ H s'->Q (.bool o.isSome) s'):
  wpAny 'b' A (compareOp .In u (.ref a)) Q E s:=by
 rcases g with ⟨Á,k,e,ey,l⟩|⟨Á,k,b,e,ey,eb,l⟩
 .subst ey
  let⟨z,hd,vs,rel,dd⟩:=yD I.hok e;refine wpAny_in_of (yC ry) hd dd.mapOf ?_;rw[<- (rel.val k).isSome_eq,<- l];exact h _ (I.tok _)
 .subst ey
  cases (show u=Value.ref b from ry);let⟨z,hd,xs,rel,dd⟩:=yE I.hok e;refine wpAny_in_heap (tupleKind_room_in1 hu) (u1 I.hok eb) hd dd ?_;have q:=(rel.val k).isSome_eq;rw[Option.isSome_map]at q;rw[<- q,<- l];exact h _ (I.tok _)
def aCW{Q:ZA}(hu:A.units+1<cLine)(I:Inv X À σ H s)(g:pR H a y o)(ry:bH y u)(h:∀s',Inv X À σ H s'->Q (.bool (!o.isSome)) s'):
  wpAny 'b' A (compareOp .NotIn u (.ref a)) Q E s:=by
 rcases g with ⟨Á,k,e,ey,l⟩|⟨Á,k,b,e,ey,eb,l⟩
 .subst ey
  let⟨z,hd,vs,rel,dd⟩:=yD I.hok e;refine wpAny_notIn_of (yC ry) hd dd.mapOf ?_;rw[<- (rel.val k).isSome_eq,<- l];exact h _ (I.tok _)
 .subst ey
  cases (show u=Value.ref b from ry);let⟨z,hd,xs,rel,dd⟩:=yE I.hok e;refine wpAny_notIn_heap (tupleKind_room_in1 hu) (u1 I.hok eb) hd dd ?_;have q:=(rel.val k).isSome_eq;rw[Option.isSome_map]at q;rw[<- q,<- l];exact h _ (I.tok _)
def ES(I:Inv X À σ H s)(mu:ĵ (H a))(hs:Heap.SameBut a s.heap h')(he:∃q,h'.get? a=some q)(new:eC X.prog X.w (aV H a ob) h' a ob):
  Inv X À σ (aV H a ob) {s with heap:=h',toks:=t'}:=
 I.write (x:=a) (e:=a) mu (.inl rfl) (λb q hb z=>(hs.2 b hb).trans z) he new
def WU(z:Á.length<=sizeLine)(hd:(a == sysModules)=false)(rel:KV Á vs)(dd:h'.DictOf (cT P w) a vs):
  eC P w H' h' a (.dK Á):=⟨z,hd,vs,rel,dd⟩
def Q6{H':Hp}{Q:Unit->Shared->Prop}(hu:A.units+1<cLine)(I:Inv X À σ H s)(g:WT H a y v H')(ry:bH y u)(rv:bH v r)(h:∀s',Inv X À σ H' s'->Q () s'):
  wpAny 'b' A (setItem (.ref a) u r) Q E s:=by
 rcases g with ⟨Á,k,e,ey,l,eH⟩|⟨Á,k,b,e,ey,eb,l,eH⟩
 .subst ey eH
  let⟨z,hd,vs,rel,dd⟩:=ϻ I.hok e;have hz:vs.length<=sizeLine:=by rw[<- rel.length];exact z
  have hl:(nK Á k v).length<=sizeLine:=by have:=nL Á k v;exact Ü ‹_› ‹_›
  refine wpAny_setItem_pairs (hsz:=hz) (yC ry) dd λh' dd' hs=>h _ ?_;have he:∃q,h'.get? a=some q:=let ⟨q,_,_,hq,_⟩:=dd';⟨q,hq⟩
  exact ES I (by rw[e];exact True.intro) hs he (WU hl hd (rel.put k rv) dd')
 .subst ey eH
  cases (show u=Value.ref b from ry);let⟨z,hd,xs,rel,dd⟩:=aMB I.hok e;have hz:xs.length<=sizeLine:=by rw[<- Paired.length rel];exact z
  have hl:(nK Á k v).length<=sizeLine:=by have:=nL Á k v;exact Ü ‹_› ‹_›
  refine wpAny_setItem_heap (hsz:=hz) (tupleKind_room_in1 hu) (u1 I.hok eb) dd λh' dd' hs=>h _ ?_;let⟨q,es,ep,hq,h2,h3,h4,_,h5⟩:=dd';refine ES I (by rw[e];exact True.intro) hs ⟨q,hq⟩ ⟨hl,hd,_,(rel.put k eb rv).keeps λc ys ec=>?_,q,es,ep,hq,h2,h3,h4,h5⟩;rw[aE (aKH ec e (λz=>nomatch z))];exact ec
end
section
end
def š(i:Expr):Prop:=∀ov iv,subscripted i false ov iv=operate [ov,iv] (getItem ov iv)
def aCY{T id:String}(hl:typeLookup (.type T) "__getitem__"=pure (some (.builtin id)))(hs:š slice)(h:wpAny 'p' A (eval value env) (λo s₁=>wpAny 'p' A (eval slice env) (λi s₂=>s₂.TypeIs o T/\wpAny 'p' A (getItem o i) Q E s₂) E s₁) E s):
  wpAny 'p' A (eval (.Subscript value slice pos) env) Q E s:=by
 refine Subscript_ (wpAny_mono h (λo s₁ h₁=>wpAny_mono h₁ (λi s₂ h₂=>?_) λ_ _ x=>x) λ_ _ x=>x);let⟨hT,h₂⟩:=h₂;unfold subscriptTail;refine wpAny_bind ?_;rw[getitemInPython_of_ne hT.not_modules];refine wpAny_bind (wpAny_specialOf hT hl ?_);have fin:wpAny 'p' A (subscripted slice false o i) (λr s₃=>wpAny 'p' A (letTemporaryGo value o r >>= λ_=>pure r) Q E s₃) E s₂:=by
  rw[hs o i];exact wpAny_operating (wpAny_mono h₂ (λr s₃ h₃=>wpAny_bind (wpAny_letTemporaryGo (wpAny_pure h₃))) λ_ _ x=>x)
 first
  |exact wpAny_pure (wpAny_bind fin)
  |exact wpAny_bind (wpAny_pure (wpAny_bind fin))
  |exact wpAny_bind fin
def HX(I:Inv X À σ H s)(g:pR H a y o):s.TypeIs (.ref a) "dict":=by
 rcases g with ⟨Á,k,e,_,_⟩|⟨Á,k,b,e,_,_,_⟩
 .obtain⟨_,_,vs,_,dd⟩:=yD I.hok e
  exact dd.typeIs
 .obtain⟨_,_,xs,_,dd⟩:=yE I.hok e
  exact dd.typeIs
def aFV(td ty:TE):TE:=λσ H Q=>td σ H λx H1=>ty σ H1 λy H2=>∃a v,x=.ref a/\pR H2 a y (some v)/\Q v H2
def aO6(ty td:TE):TE:=λσ H Q=>ty σ H λy H1=>td σ H1 λx H2=>∃a o,x=.ref a/\pR H2 a y o/\Q (.bl o.isSome) H2
def aCZ(ty td:TE):TE:=λσ H Q=>ty σ H λy H1=>td σ H1 λx H2=>∃a o,x=.ref a/\pR H2 a y o/\Q (.bl (!o.isSome)) H2
def aMC(td ty tv:TE):TS:=λD σ H=>tv σ H λv H1=>td σ H1 λx H2=>ty σ H2 λy H3=>∃a H4,x=.ref a/\WT H3 a y v H4/\D.nx σ H4
section
def OK(hu:X.A.units+1<cLine)(ho:PE X o td)(hi:PE X i ty)(hs:š i):PE X (.Subscript o i pos) (aFV td ty):=by
 intro À s σ H Q I h;refine aCY PySem.F.slot_dict_getitem.lookup hs (cA (ho À s σ H _ I h) λu s1⟨x,H1,I1,rx,q1⟩=>cA (hi À s1 σ H1 _ I1 q1) λiv s2 zQ=>?_);let⟨y,H2,I2,ry,a,v,ex,g,q2⟩:=zQ;subst ex;obtain rfl:u=Value.ref a:=rx;exact⟨HX I2 g,Q5 hu I2 g ry λw' s3 I3 rw'=>⟨v,H2,I3,rw',q2⟩⟩
def WV(hu:X.A.units+1<cLine)(hi:PE X i ty)(ho:PE X o td):PC X .In i o (aO6 ty td):=by
 intro À s σ H Q I h;refine cA (hi À s σ H _ I h) λiv s1⟨y,H1,I1,ry,q1⟩=>cA (ho À s1 σ H1 _ I1 q1) λu s2 zQ=>?_;let⟨x,H2,I2,rx,a,ov,ex,g,q2⟩:=zQ;subst ex;obtain rfl:u=Value.ref a:=rx;exact aO5 hu I2 g ry λs3 I3=>⟨.bl ov.isSome,H2,I3,rfl,q2⟩
def Q7(hu:X.A.units+1<cLine)(hi:PE X i ty)(ho:PE X o td):PC X .NotIn i o (aCZ ty td):=by
 intro À s σ H Q I h;refine cA (hi À s σ H _ I h) λiv s1⟨y,H1,I1,ry,q1⟩=>cA (ho À s1 σ H1 _ I1 q1) λu s2 zQ=>?_;let⟨x,H2,I2,rx,a,ov,ex,g,q2⟩:=zQ;subst ex;obtain rfl:u=Value.ref a:=rx;exact aCW hu I2 g ry λs3 I3=>⟨.bl (!ov.isSome),H2,I3,rfl,q2⟩
def aC0(hu:X.A.units+1<cLine)(ho:PE X o td)(hi:PE X i ty)(hv:PE X value tv)(hs:swapsWith value (some (.Subscript o i pos')) pos.line X.env=pure false):
  PS X (.Assign [.Subscript o i pos'] value pos) (aMC td ty tv):=by
 intro À s σ H D I h;refine wpAny_Assign_Subscript (cA (hv À s σ H _ I h) λr s1⟨v,H1,I1,rv,q1⟩=>cA (ho À s1 σ H1 _ I1 q1) λu s2⟨x,H2,I2,rx,q2⟩=>cA (hi À s2 σ H2 _ I2 q2) λiv s3 zQ=>?_) hs;let⟨y,H3,I3,ry,a,H4,ex,g,q3⟩:=zQ;subst ex;obtain rfl:u=Value.ref a:=rx;exact Q6 hu I3 g ry rv λs4 I4=>⟨σ,H4,I4,q3⟩
end
def HY(h:Heap)(hb:sysModules<h.objs.size):eC P w H (h.push {cls:=.type "dict",data:=.dict #[]}) h.objs.size (.dK []):=
 ⟨î _,beq_eq_false_iff_ne.mpr (Í (Ð hb)),[],.nil,Heap.DictOf.new h⟩
def aI4:TE:=λ_ H Q=>∀p,H p=none->Q (.ref p) (aV H p (.dK []))
section
def WW:PE X (.Dict [] [] pos) aI4:=λÀ s σ H Q I h=>
 wpAny_Dict_empty ⟨.ref s.heap.objs.size,_,I.laid (a:=s.heap.objs.size) (o:=.dK []) (t':=s.toks) (λ_ _ q=>Heap.get?_push_of_some _ q) (È _) (HY s.heap I.big),rfl,h _ (I.hok.fresh (È _))⟩
end
def LO:List (TE×TE)->St->Hp->(List (V×V)->Hp->Prop)->Prop
 |[],_,H,Q=>Q [] H
 |(tk,tv)::r,σ,H,Q=>tk σ H λx H1=>tv σ H1 λy H2=>LO r σ H2 λps H3=>Q ((x,y)::ps) H3
abbrev VV:List (V×V)->List (Value×Value)->Prop:=Paired λp q=>bH p.1 q.1/\bH p.2 q.2
def Ţ(X:Cx)(pos:Pos)(keys:List (Option Expr))(values:List Expr)(trs:List (TE×TE)):Prop:=
 ∀(À:ZB)(s:Shared)(σ:St)(H:Hp)(Q:List (V×V)->Hp->Prop),Inv X À σ H s->LO trs σ H Q ->
  wpAny 'b' X.A (evalPairs (pairTrees keys values X.env pos)) (λvs s'=>∃ps H',Inv X À σ H' s'/\VV ps vs/\Q ps H') X.xe s
def aC1:Ţ X pos [] [] []:=λÀ s σ H Q I h=>pairTrees_nil_walk ⟨[],H,I,.nil,h⟩
def yF(hk:PE X k tk)(hv:PE X v tv)(hr:Ţ X pos ks vs trs):
  Ţ X pos (some k::ks) (v::vs) ((tk,tv)::trs):=λÀ s σ H Q I h=>
 pairTrees_cons_walk (cA (hk À s σ H _ I h) λu s1⟨x,H1,I1,rx,q1⟩=>cA (hv À s1 σ H1 _ I1 q1) λw2 s2⟨y,H2,I2,ry,q2⟩=>
  cA (hr À s2 σ H2 _ I2 q2) λws s3 zQ=>by let⟨ps,H3,I3,rel,q3⟩:=zQ;exact ⟨(x,y)::ps,H3,I3,.cons ⟨rx,ry⟩ rel,q3⟩)
def u2(Á more:List (cX×V)):(List (cX×V)):=more.foldl (λacc kv=>nK acc kv.1 kv.2) Á
def KV.merge:∀{more:List (cX×V)}{rs:List (cX×Value)}{Á:List (cX×V)}{vs:List (cX×Value)},KV more rs->KV Á vs->KV (u2 Á more) (merged vs rs):=by
 intro more rs Á vs r;unfold KV at r
 induction r generalizing Á vs with
 |nil=>intro q;exact q
 |@cons p q ps qs h t ih=>
  intro r0;have e:KV (nK Á p.1 p.2) (stored vs q.1 q.2):=by
   have:=r0.put p.1 h.2;rw[<- h.1];exact this
  exact ih e
def qD:∀(more Á:List (cX×V)),(u2 Á more).length<=Á.length+more.length
 |[],Á=>by show Á.length<=Á.length+0;exact È _
 |p::r,Á=>by
  have h1:=qD r (nK Á p.1 p.2);have h2:=nL Á p.1 p.2;show (u2 (nK Á p.1 p.2) r).length<=_;rw[Û];lia
def yG :∀{Á:List (cX×V)}{ws:List (Value×Value)},VV (Á.map λkv=>(kV kv.1,kv.2)) ws->∃rs,Carries (cT P w) ws rs/\KV Á rs
 |[],_,r=>by rw[List.map_nil]at r;cases r;exact⟨[],True.intro,.nil⟩
 |p::Á,_,r=>by
  rw[Ì]at r;cases r with
  |@cons a b as bs h t=>
   let⟨rs,c,q⟩:=yG (P:=P) (w:=w) t;let⟨b1,b2⟩:=b;exact⟨(p.1,b2)::rs,⟨yC h.1,rfl,c⟩,.cons ⟨rfl,h.2⟩ q⟩
def aFW(trs:List (TE×TE)):TE:=λσ H Q=>∀p,H p=none->LO trs σ (aV H p (.dK [])) λps H2=>H2 p=some (.dK [])/\∃Á:List (cX×V),ps=Á.map (λkv=>(kV kv.1,kv.2))/\Á.length<=15/\Q (.ref p) (aV H2 p (.dK (u2 [] Á)))
def aC2(h:Ţ X pos keys values trs)(hall:keys.all (·.isSome)=true)(hl:keys.length=values.length)(h0:keys≠[])(h15:keys.length<=15):PE X (.Dict keys values pos) (aFW trs):=by
 intro À s σ H Q I q;have hn:=I.hok.fresh (È s.heap.objs.size);have I1:=I.laid (a:=s.heap.objs.size) (o:=.dK []) (h':=s.heap.push {cls:=.type "dict",data:=.dict #[]}) (t':=s.toks) (λ_ _ q=>Heap.get?_push_of_some _ q) (È _) (HY s.heap I.big);refine wpAny_Dict_walk (knd:=cT X.prog X.w) hall hl h0 h15 (cA (h À _ σ _ _ I1 (q _ hn)) λws s2 zQ=>?_);let⟨ps,H2,I2,rel,e,Á,ep,lk,q2⟩:=zQ;subst ep;let⟨rs,c,rk⟩:=yG (P:=X.prog) (w:=X.w) rel;let⟨z,hd,vs0,r0,dd⟩:=ϻ I2.hok e;cases r0;refine⟨rs,c,dd,λh' dd' hs=>⟨.ref s.heap.objs.size,_,?_,rfl,q2⟩⟩;have hz:(u2 [] Á).length<=sizeLine:=by
  have h1:=qD Á [];rw[List.length_nil]at h1;rw[sizeLine_eq];lia
 have he:∃q,h'.get? s.heap.objs.size=some q:=let ⟨q,_,_,hq,_⟩:=dd';⟨q,hq⟩
 exact ES I2 (by rw[e];exact True.intro) hs he (WU hz hd (rk.merge .nil) dd')
structure M2(X:Cx)(o:Expr)(m:Str)(apos:Pos)(e f:Expr)(cpos:Pos):Prop where
 base:attributeBase o m X.env (eval o X.env)=eval o X.env
 few:((backTo cpos (starEach [e,f] X.env)).all (λx=>!x.1) && (backToKw cpos (keywordEach [] X.env)).all (λx=>x.1.isSome)
  && decide (([e,f]:List Expr).length+([]:List Keyword).length+(if ([]:List Keyword).isEmpty then 0 else 1)<30))=true
 line:(apos.endLine == cpos.line)=true
 trees:backTo cpos (starEach [e,f] X.env)=[(false,eval e X.env),(false,eval f X.env)]
def aPV(H:Hp)(a:Addr):Prop:=(∃Á,Rd H a (.dK Á))\/∃Á,Rd H a (.dT Á)
def aI5(I:Inv X À σ H s)(d:aPV H a):
  s.TypeIs (.ref a) "dict"/\(∀b,Value.ref a=.ref b->∃ob,s.heap.get? b=some ob/\ob.dict=none)/\(a == sysModules)=false:=by
 rcases d with ⟨Á,e⟩|⟨Á,e⟩
 .obtain⟨_,hd,vs,_,dd⟩:=yD I.hok e
  refine⟨dd.typeIs,λb q=>?_,hd⟩;cases q;let⟨ob,_,_,h1,h2,_⟩:=dd;exact⟨ob,h1,h2.2.1⟩
 .obtain⟨_,hd,xs,_,dd⟩:=yE I.hok e
  refine⟨dd.typeIs,λb q=>?_,hd⟩;cases q;let⟨ob,_,_,h1,h2,_⟩:=dd;exact⟨ob,h1,h2.2.1⟩
section
variable {X:Cx}{À:ZB}{σ:St}{H:Hp}{s:Shared}{a:Addr}{y d:V}{u r:Value}{o:Option V}{A:Around}{E:ZA}
def aI6(hu:A.units+1<cLine)(I:Inv X À σ H s)(g:pR H a y o)(ry:bH y u)(rd:bH d r)(h:∀w' s',Inv X À σ H s'->bH (o.getD d) w'->Q w' s'):
  wpAny 'b' A (call (.builtin "dict.get") [.ref a,u,r]) Q E s:=by
 rcases g with ⟨Á,k,e,ey,l⟩|⟨Á,k,b,e,ey,eb,l⟩
 .subst ey
  let⟨z,hd,vs,rel,dd⟩:=yD I.hok e;refine call_meetsIn PySem.F.slot_dict_get dd.typeIs PySem.F.entry_dict_get (PySem.F.args_dict_get_3 _ _ _) (meets_dict_get_default (cT X.prog X.w) a (yC ry) hd r) ⟨_,dd.mapOf,h _ _ (I.tok _) ?_⟩;rw[l];exact(rel.val k).getD rd
 .subst ey
  cases (show u=Value.ref b from ry);let⟨z,hd,xs,rel,dd⟩:=yE I.hok e;refine call_meetsIn PySem.F.slot_dict_get dd.typeIs PySem.F.entry_dict_get (PySem.F.args_dict_get_3 _ _ _) (meetsH_dict_get_default (tupleKind (cT X.prog X.w)) a b hd r) ⟨tupleKind_room_in1 hu,k,xs,u1 I.hok eb,dd,h _ _ (I.tok _) ?_⟩;rw[l];exact(rel.val k).getD rd
end
def aI7(td ty tx:TE):TE:=λσ H Q=>td σ H λx H1=>∃a,x=.ref a/\aPV H1 a/\ty σ H1 λy H2=>tx σ H2 λz H3=>∃o,pR H3 a y o/\Q (o.getD z) H3
section
def WX(hu:X.A.units+1<cLine)(ho:PE X o td)(he:PE X e ty)(hf:PE X f tx)(m:M2 X o "get" apos e f cpos):PE X (.Call (.Attribute o "get" apos) [e,f] [] cpos) (aI7 td ty tx):=by
 intro À s σ H Q I h;refine wpAny_Call_method m.base m.few m.line PySem.F.plainAttrs_dict PySem.F.slot_dict_get PySem.F.type_dict_get (cA (ho À s σ H _ I h) λu s1⟨x,H1,I1,rx,a,ex,d,q1⟩=>?_);subst ex;obtain rfl:u=Value.ref a:=rx;let⟨t1,t2,_⟩:=aI5 I1 d;refine⟨t1,t2,?_⟩;rw[m.trees];refine Calls.callWith_builtin rfl (Calls.evalArgs_plain (Calls.spliced_cons (cA (he À s1 σ H1 _ I1 q1) λiv s2⟨y,H2,I2,ry,q2⟩=>
  Calls.spliced_cons (cA (hf À s2 σ H2 _ I2 q2) λfv s3⟨z,H3,I3,rz,ov,g,q3⟩=>Calls.spliced_nil ?_))))
 exact aI6 hu I3 g ry rz λw' s4 I4 rw'=>⟨_,H3,I4,rw',q3⟩
end
section
end
section
end
def dG:D->Option cX
 |.int i=>some (.inl i)
 |.str x=>some (.inr x)
 |_=>none
def s9(k:cX):dG (F8 k)=some k:=by cases k<;>rfl
def LP(k:cX)(ms:List cX):(List cX):=if (ms.any λm=>decide (m=k))=true then ms else ms++[k]
def ET{α:Type}(k:cX)(y:α)(ms:List cX)(xs:List α):(List α):=if (ms.any λm=>decide (m=k))=true then (ms.zip xs).map (λp=>if p.1=k then y else p.2)else xs++[y]
def LQ(k:cX)(y:D)(Á:List (D×D)):(List (D×D)):=
 if (Á.any λkv=>decide (dG kv.1=some k))=true then Á.map (λkv=>if dG kv.1=some k then (kv.1,y)else kv)else Á++[(F8 k,y)]
def jV(k:cX)(Á:List (D×D)):ZL:=(Á.find? λkv=>decide (dG kv.1=some k)).map Prod.snd
def OL{α:Type}:∀{ms:List cX}{xs:List α},ms.length=xs.length->((ms.zip xs).any λkv=>decide (kv.1=k))=ms.any λm=>decide (m=k)
 |[],[],_=>rfl
 |m::ms,x::xs,h=>by rw[ä,List.any_cons,List.any_cons,OL (by simpa using h)]
def HZ :∀{ms:List cX}{xs:ZI},ms.length=xs.length->(((ms.map F8).zip xs).any λkv=>decide (dG kv.1=some k))=ms.any λm=>decide (m=k)
 |[],[],_=>rfl
 |m::ms,x::xs,h=>by
  rw[Ì,ä,List.any_cons,List.any_cons,HZ (by simpa using h)];dsimp only;rw[s9]
  grind
def OM{α:Type}{y:α}:∀{ms:List cX}{xs:List α},ms.length=xs.length->(ms.zip xs).map (λkv=>if kv.1=k then (kv.1,y)else kv)=ms.zip ((ms.zip xs).map (λp=>if p.1=k then y else p.2))
 |[],[],_=>rfl
 |m::ms,x::xs,h=>by
  rw[ä,Ì,Ì,ä,OM (by simpa using h)];congr 1;dsimp only;split<;>rfl
def H8{y:D}:∀{ms:List cX}{xs:ZI},ms.length=xs.length->((ms.map F8).zip xs).map (λkv=>if dG kv.1=some k then (kv.1,y)else kv)=(ms.map F8).zip ((ms.zip xs).map (λp=>if p.1=k then y else p.2))
 |[],[],_=>rfl
 |m::ms,x::xs,h=>by
  rw[Ì,ä,ä,Ì,Ì,ä,H8 (by simpa using h)];congr 1;dsimp only;rw[s9]
  grind
def WY{xs:List α}(h:ms.length=xs.length):(LP k ms).length=(ET k y ms xs).length:=by
 unfold LP ET;split
 .rw[Å,ì];lia
 .rw[Ñ,Ñ,h];rfl
def WZ(h:ms.length=xs.length):nK (ms.zip xs) k y=(LP k ms).zip (ET k y ms xs):=by
 unfold nK LP ET;rw[OL h];split
 .exact OM h
 .rw[List.zip_append h];rfl
def W0{xs:ZI}(h:ms.length=xs.length):LQ k y ((ms.map F8).zip xs)=((LP k ms).map F8).zip (ET k y ms xs):=by
 unfold LQ LP ET;rw[HZ h];split
 .exact H8 h
 .rw[Ø,List.zip_append (by rw[Å];exact h)];rfl
def u3{K:ZC}:∀{ms:List cX}{ds:ZI}{vs:List V},ms.length=ds.length->aD K F ds vs->(jV k ((ms.map F8).zip ds)=none/\pQ (ms.zip vs) k=none)\/∃d v,jV k ((ms.map F8).zip ds)=some d/\pQ (ms.zip vs) k=some v/\bE K F d v
 |[],[],vs,_,_=>.inl ⟨rfl,rfl⟩
 |m::ms,d::ds,vs,h,r=>by
  unfold aD at r;let⟨x,t,rfl,hx,ht⟩:=r;rw[Ì,ä,ä];by_cases e:m=k
  .refine .inr ⟨d,x,?_,?_,hx⟩
   .unfold jV
    rw[Ă,decide_eq_true (by dsimp only;rw[s9,e])]
    rfl
   .exact sZ e
  .have ih:=u3 (k:=k) (ms:=ms) (by simpa using h) ht
   have e1:jV k ((F8 m,d)::(ms.map F8).zip ds)=jV k ((ms.map F8).zip ds):=by
    unfold jV;rw[Ă,decide_eq_false (by dsimp only;rw[s9];exact λz=>e (Option.some.inj z))]
   rw[e1,s8 (by exact e)];exact ih
def aMD{K:ZC}:∀{ms:List cX}{ds:ZI}{vs:List V},ms.length=ds.length->aD K F ds vs->bE K F d v->aD K F ((ms.zip ds).map (λp=>if p.1=k then d else p.2)) ((ms.zip vs).map (λp=>if p.1=k then v else p.2))
 |[],[],vs,_,r,_=>by unfold aD at r;subst r;exact iX
 |m::ms,d'::ds,vs,h,r,hd=>by
  unfold aD at r;let⟨x,t,rfl,hx,ht⟩:=r;rw[ä,ä,Ì,Ì];refine fU ?_ (aMD (by simpa using h) ht hd);dsimp only;split
  .exact hd
  .exact hx
def aC3{K:ZC}(h:ms.length=ds.length)(r:aD K F ds vs)(hd:bE K F d v):aD K F (ET k d ms ds) (ET k v ms vs):=by
 unfold ET;split
 .exact aMD h r hd
 .exact r.app (fU hd iX)
section
variable {X:Cx}{Z:cI}{ow ol ox:ZH}{rm i:Nat}{spos tpos:Pos}{fk fv:M D}{F H:Hp}{σ:St}{δ:DS}{g:ZP}{K:ZC}
def bA.dct(h:bA K F H g i 30 p d v):
  ∃a ms ds vs,d=kE ms ds/\v=.ref a/\ms.length=ds.length/\ds.length=vs.length/\g a=some (i,p)/\H a=some (.dK (ms.zip vs))/\F a=none/\aD K F ds vs:=by
 let⟨ds,vs,cs,nd,hc,hl,r⟩:=bA.open (c:=29) h;let⟨a,ms,h1,h2,h3,rfl⟩:=nd;let⟨a1,a2,a3⟩:=hc _ (ò.mpr rfl);exact⟨a,ms,ds,vs,h1,h2,h3,hl,by simpa using a1,a2,a3,aD.of hl λk d' v' q1 q2=>r k d' v' q1 q2⟩
def bA.mkD{i:Nat}{p:ZH}{a:Addr}{ms:List cX}{ds:ZI}{vs:List V}(h3:ms.length=ds.length)(a1:g a=some (i,p))(a2:H a=some (.dK (ms.zip vs)))(a3:F a=none)(r:aD K F ds vs):bA K F H g i 30 p (kE ms ds) (.ref a):=by
 refine bA.shut (c:=29) (ds:=ds) (vs:=vs) (cs:=[(a,[],.dK (ms.zip vs))]) ⟨a,ms,rfl,rfl,h3,rfl⟩ (λx hx=>?_) r.len λk d' v' q1 q2=>r.both k d' v' q1 q2;rw[ò.mp hx];exact⟨by simpa using a1,a2,a3⟩
def bZ.newDict(S:aP Z ow)(R:bZ K Z ow F H σ δ)(hp:H p=none):gD K Z ow 30 (kE [] []) (.ref p) F (aV H p (.dK [])) σ δ:=by
 have fp:=R.fnone hp;let⟨g,R⟩:=R;have z:Z.H0 p=none:=by
  cases e:Z.H0 p with
  |none=>rfl
  |some u=>exact absurd hp (R.there p (by rw[e];simp))
 refine⟨λb=>if b=p then some (1000,[])else Ĥ g 1000 b,⟨R.sub.trans' (bW hp _),R.f0,λb u n e=>?_,R.new,λb h=>?_,λa i q e=>?_,R.len,R.par,λi d e=>?_⟩,?_⟩
 .have:b≠p:=λq=>by rw[q,z]at e;cases e
  rw[aE this];exact R.kept b u n e
 .have:b≠p:=λq=>h (by rw[q,z])
  rw[aE this];exact R.there b h
 .split at e
  .rename_i q;rw[q];exact .inl z
  .exact R.lab a i q (K9 e).1
 .obtain⟨v,e1,o⟩:=R.slot i d e
  refine⟨v,e1,?_⟩;by_cases hi:ow.getD i 0=0
  .rw[hi]at o⊢;exact o
  .have hi':i<1000:=LN S hi
   refine o.keepJ (λ_ _ z=>z) λa q u e1 e2 e3=>?_;have:a≠p:=λz=>by rw[z,hp]at e2;cases e2
   exact⟨by rw[Ã this];exact K8 (by show i≠1000;exact Ð ‹_›) e1,by rw[aE this];exact e2,e3⟩
 .exact bA.mkD (ms:=[]) (vs:=[]) rfl (Â rfl) aJ fp iX
def EU(S:aP Z ow):DE X Z ow 30 (.Dict [] [] pos) (dC (kE [] [])):=PE.mono WW λσ H Q q=>by
 let⟨F,δ,R,q⟩:=q;exact λp hp=>q _ _ F (R.newDict S hp) 'o'
def cV.rewriteD(R:cV K Z ow g F H σ δ)(ho:ow.getD i 0=30)(hd:δ[i]?=some (some (kE ms ds)))(hs:σ[i]?=some (some (.ref a)))(hl:ms'.length=ds'.length)(hr:aD K F ds' vs'):
  cV K Z ow g F (aV H a (.dK (ms'.zip vs'))) σ (δ.set i (some (kE ms' ds'))):=by
 let⟨v,e1,o⟩:=R.slot i _ hd;rw[hs]at e1;cases e1;rw[ho]at o;let⟨a',ms0,ds0,vs0,q1,q2,q3,q4,q5,q6,q7,q8⟩:=o.dct;cases q2;have hi:i<δ.length:=(Î.mp hd).1;refine⟨λb u e=>?_,R.f0,λb u n e=>?_,R.new,λb z=>?_,R.lab,by rw[Ï];exact R.len,R.par,λj d e=>?_⟩
 .have:b≠a:=λz=>by rw[z,q7]at e;cases e
  rw[aE this];exact R.sub b u e
 .have:b≠a:=λz=>by
   subst z;rcases R.lab b i [] q5 with w|⟨q,w⟩
   all_goals grind
  rw[aE this];exact R.kept b u n e
 .by_cases hb:b=a
  .subst hb;rw[aJ];simp
  .rw[aE hb];exact R.there b z
 .by_cases hj:j=i
  .subst hj
   rw[ß hi]at e;cases e;refine⟨_,hs,?_⟩;rw[ho];exact bA.mkD hl q5 aJ q7 hr
  .rw[Ú (Í hj)]at e
   let⟨v,e1,o⟩:=R.slot j d e;exact⟨v,e1,bA.updNe q5 (.inl hj) o⟩
def ON(i:Nat)(fk fv:M D):M Fl:=λδ=>(fv δ).bind λv δ1=>match δ1[i]? with
 |some (some _)=>(fk δ1).bind λk δ2=>(match δ2[i]?,dG k with
  |some (some (.dict Á)),some ky=>if Á.length<sizeLine then .ok .next (δ2.set i (some (.dict (LQ ky v Á))))else .stuck
  |_,_=>.stuck)
 |_=>.stuck
def EV(h:dG k=some ky)(r:bE K F k y):y=kV ky:=by
 cases k with
 |int i=>cases h;unfold bE at r;exact r
 |str x=>cases h;unfold bE at r;exact r
 |_=>cases h
def aI8{Á:List (D×D)}(h:(PyData.dict Á:D)=kE ms ds):Á=(ms.map F8).zip ds:=by
 unfold kE at h;injection h
def tE(i:Nat){x:Str}{p:Pos}(hu:X.A.units+64<cLine)(hv:DE X Z ow 0 ev fv)(hk:DE X Z ow 0 ek fk)(ho:↥(ow.getD i 0=30))(hN:↥(X.N[i]?=some x))(hvi:#v[AU X.env.scope x])(hd:⇑(Zdb x))(hcd:⇑(Zcd x))(hs:↥(swapsWith ev (some (.Subscript 'h' ek tpos)) spos.line X.env=pure false)):
  DZ X Z ow ow ol ox rm (.Assign [.Subscript 'h' ek tpos] ev spos) (ON i fk fv):=PS.mono (aC0 ∅ (dA hN hvi hd hcd) hk hv hs) λDn σ H h=>by
 let⟨F,δ,R,h⟩:=h;unfold ON at h;sleep 1;cases e:fv δ with
 |stuck=>sleep 5
 |err y δ1=>rw[e]at h;exact jJ.cast h
 |ok dv δ1=>
  rw[e]at h;simp![Res.bind]at h;intro v H1 F1 R1 s1;cases e0:δ1[i]? with
  |none=>rw[e0]at h;exact h.elim
  |some o=>
   cases o with
   |none=>rw[e0]at h;exact h.elim
   |some d0=>
    rw[e0]at h;dsimp only at h;let⟨g0,R0⟩:=R1.rel;let⟨v0,w0,o0⟩:=R0.slot i _ e0;rw[ho]at o0;let⟨a,ms0,ds0,vs0,_,q2,_⟩:=o0.dct;subst q2;refine⟨_,w0,F1,δ1,R1.rel,?_⟩;cases e1:fk δ1 with
    |stuck=>rw[e1]at h;exact h.elim
    |err y δ2=>rw[e1]at h;exact jJ.cast (jJ.mono h s1)
    |ok dk δ2=>
     rw[e1]at h;dsimp only at h;intro kv H2 F2 R2 s2;let⟨g2,RG,ok2⟩:=R2;have ok2:bE X.K F2 dk kv:=ok2;split at h
     .rename_i Á ky e2 e3
      split at h
      .rename_i hlt
       let⟨v1,w1,o1⟩:=RG.slot i _ e2;rw[ho]at o1;let⟨a',ms,ds,vs,d1,q2,l1,l2,_,hH,_,hr⟩:=o1.dct;rw[w0]at w1;cases w1;cases q2;obtain rfl:=aI8 d1;obtain rfl:=EV e3 ok2;rw[ì,Å]at hlt;refine⟨a,_,rfl,WT.k hH (by rw[ì];lia),?_⟩;rw[WZ 'l'];rw[W0 l1]at h;have R3:=RG.rewriteD (ms':=LP ky ms) ho (show δ2[i]?=some (some (kE ms ds))from e2) w0 (WY l1) (aC3 (k:=ky) l1 hr (s2.rep _ _ R1.rep));exact h σ _ F2 ⟨g2,R3⟩ (s1.trans' s2)
      .exact h.elim
     .exact h.elim
def OO(fx fk fz:M D):M D:=λδ=>(fx δ).bind λx δ1=>match x with
 |.dict Á=>if (Á.all λkv=>(dG kv.1).isSome)=true then (fk δ1).bind λk δ2=>(fz δ2).bind λz δ3=>(match dG k with
  |some ky=>.ok ((jV ky Á).getD z) δ3
  |none=>.stuck)else .stuck
 |_=>.stuck
def OP{Á:List (D×D)}(h:bE K F (.dict Á) v)(ha:(Á.all λkv=>(dG kv.1).isSome)=true):∃(a:Addr)(ms:List cX)(ds:ZI)(vs:List V),Á=(ms.map F8).zip ds/\ms.length=ds.length/\v=.ref a/\F a=some (.dK (ms.zip vs))/\aD K F ds vs:=by
 unfold bE at h;let⟨a,xs,rfl,hh,hr⟩:=h;rcases hh with ⟨nm,fs,C,dx,vs,h1,h2,_⟩|⟨ms,h1,h2,h3⟩
 .exfalso
  cases Á with
  |nil=>cases h2
  |cons kv Á=>
   rw[Ì]at h2;injection h2 with h2 _;rw[List.all_cons,h2]at ha;cases ha
 .have hl:ms.length=(Á.map Prod.snd).length:=by rw[<- Å (f:=F8),<- h1,Å,Å]
  refine⟨a,ms,Á.map Prod.snd,xs,?_,hl,rfl,h3,hr.all⟩;rw[<- h1];clear h1 hl h3 hr h2 ha
  induction Á with
  |nil=>rfl
  |cons kv Á ih=>grind
def OQ{apos cpos:Pos}(hu:X.A.units+64<cLine)(ho:DE X Z ow 0 o fx)(he:DE X Z ow 0 e fk)(hf:DE X Z ow 0 f fz)(base:↥(attributeBase o "get" X.env (eval o X.env)=eval o X.env))(few:↥(((backTo cpos (starEach [e,f] X.env)).all (λx=>!x.1) && (backToKw cpos (keywordEach [] X.env)).all (λx=>x.1.isSome)
   && decide (([e,f]:List Expr).length+([]:List Keyword).length+(if ([]:List Keyword).isEmpty then 0 else 1)<30))=true))(line:↥((apos.endLine == cpos.line)=true))(trees:↥(backTo cpos (starEach [e,f] X.env)=[(false,eval e X.env),(false,eval f X.env)])):
  DE X Z ow 0 (.Call (.Attribute o "get" apos) [e,f] [] cpos) (OO fx fk fz):=PE.mono (WX ∅ ho he hf ⟨base,few,line,trees⟩) λσ H Q q=>by
 let⟨F,δ,R,q⟩:=q;unfold OO at q;sleep 1;cases e1:fx δ with
 |stuck=>rw[e1]at q;sleep 4
 |err y δ1=>rw[e1]at q;exact q
 |ok dx δ1=>
  rw[e1]at q;simp![Res.bind]at q;intro x H1 F1 R1 s1;split at q
  .rename_i Á
   split at q
   .rename_i hall
    let⟨a,ms,ds,vs,rfl,l1,rfl,hF,hr⟩:=OP R1.rep hall;refine⟨a,rfl,.inl ⟨_,.inl (R1.rel.sub _ _ hF)⟩,F1,δ1,R1.rel,?_⟩;cases e2:fk δ1 with
    |stuck=>rw[e2]at q;sleep 4
    |err y δ2=>rw[e2]at q;exact jJ.mono q s1
    |ok dk δ2=>
     rw[e2]at q;simp![Res.bind]at q;intro y H2 F2 R2 s2;refine⟨F2,δ2,R2.rel,?_⟩;cases e3:fz δ2 with
     |stuck=>rw[e3]at q;sleep 4
     |err y δ3=>rw[e3]at q;exact jJ.mono q (s1.trans' s2)
     |ok dz δ3=>
      rw[e3]at q;simp![Res.bind]at q;intro z H3 F3 R3 s3;split at q
      .rename_i ky e4
       obtain rfl:=EV e4 R2.rep;refine⟨pQ (ms.zip vs) ky,pR.k (R3.rel.sub _ _ (s3 _ _ (s2 _ _ hF))),?_⟩;rcases u3 (k:=ky) l1 hr with ⟨h1,h2⟩|⟨d,v,h1,h2,h3⟩
       .rw[h1]at q
        rw[h2];exact q z H3 F3 R3 (s1.trans' (s2.trans' s3))
       .rw[h1]at q
        rw[h2];exact q v H3 F3 (R3.rel.x ((s2.trans' s3).rep _ _ h3)) (s1.trans' (s2.trans' s3))
      .sleep 4
   .sleep 4
  .sleep 4
end
section
def dU:List (M D)->M (ZI)
 |[],δ=>.ok [] δ
 |f::fs,δ=>match f δ with
  |.ok d δ1=>(match dU fs δ1 with
   |.ok ds δ2=>.ok (d::ds) δ2
   |_=>.stuck)
  |_=>.stuck
def aFX(m:Nat)(h:∀F H σ,DE X (cW F H σ m) 'c' n e f):PE X e (λσ H Q=>∃F0,tD X (cW F0 H σ m) 'c' n f σ H Q):=λÀ s σ H Q I zQ=>by let⟨F0,q⟩:=zQ;exact h F0 H σ À s σ H Q I q
end
section
end
end L2
namespace L2
open PySem PySem.Spec
section
end
end L2
namespace L2
open PySem PySem.Spec PyProof.Rows
def W1(lo:Int)(n:Nat):(List V):=(List.range n).map λ(k:Nat)=>V.int (lo+(k:Int))
def aO7(ta:TA):TE:=λσ H Q=>ta σ H λvs H1=>∃j:Int,vs=[.int j]/\-(2^62)<=j/\j<2^62/\∀r,H1 r=none->Q (.ref r) (aV H1 r (.rng 0 j))
def aO8(ta:TA):TE:=λσ H Q=>ta σ H λvs H1=>∃i j:Int,vs=[.int i,.int j]/\(-(2^62)<=i/\i<2^62/\-(2^62)<=j/\j<2^62)/\∀r,H1 r=none->Q (.ref r) (aV H1 r (.rng i j))
def aFY:∀{vs:List V}{us:ZJ},vs.length=us.length->(∀(k:Nat)(v:V)(u:Value),vs[k]?=some v->us[k]?=some u->bH v u)->bI vs us
 |[],[],_,_=>.nil
 |v::vs,u::us,hl,h=>.cons (h 0 v u rfl rfl) (aFY (by simpa using hl) λk v' u' e1 e2=>h (k+1) v' u' e1 e2)
section
variable {X:Cx}{a b:Expr}{ta:TA}{p pos:Pos}
def aI9(hg:Gl X "range")(hm:X.mg "range"=none)(ha:PA X [a] ta)(hs:↥(starEach [a] X.env=[(false,eval a X.env)])):PE X (.Call (.Name "range" p) [a] [] pos) (aO7 ta):=by
 intro À s σ H Q I h;refine Call_ (iE I hg hm boot_range (PyProof.Rows.callWith_type1 (cA (ha pos À s σ H _ I h) λus s1 zQ=>?_) hs rfl));let⟨vs,H1,I1,r1,q1⟩:=zQ;let⟨j,e,q1,q2,q⟩:=q1;subst e;cases r1 with
 |cons r rr=>
  cases rr;let⟨t,rfl⟩:=r;exact call_range_1 ⟨.ref _,_,I1.laid (o:=.rng 0 j) (λb o e=>Heap.get?_push_of_some _ e) (È _) (show ∃t u v,_ from⟨_,_,_,Heap.get?_push_size _ rfl⟩),rfl,q _ (I1.hok.fresh (È _))⟩
def aJA(hg:Gl X "range")(hm:X.mg "range"=none)(ha:PA X [a,b] ta)(hs:↥(starEach [a,b] X.env=[(false,eval a X.env),(false,eval b X.env)]))(hs2:↥(starEach [b] X.env=[(false,eval b X.env)])):PE X (.Call (.Name "range" p) [a,b] [] pos) (aO8 ta):=by
 intro À s σ H Q I h;refine Call_ (iE I hg hm boot_range (PyProof.Rows.callWith_type1 (cA (ha pos À s σ H _ I h) λus s1 zQ=>?_) (by rw[hs,hs2]) (by rw[hs2];rfl)));let⟨vs,H1,I1,r1,q1⟩:=zQ;let⟨i,j,e,q1,q⟩:=q1;subst e;cases r1 with
 |cons r rr=>
  cases rr with
  |cons r' rr=>
   cases rr;let⟨t,rfl⟩:=r;let⟨t',rfl⟩:=r';exact call_range_2 ⟨.ref _,_,I1.laid (o:=.rng i j) (λb o e=>Heap.get?_push_of_some _ e) (È _) (show ∃t u v,_ from⟨_,_,_,Heap.get?_push_size _ rfl⟩),rfl,q _ (I1.hok.fresh (È _))⟩
def qE(hc:X.calm=true):gZ X (.type "list") (λxs H Q=>∃p lo hi,xs=[.ref p]/\H p=some (.rng lo hi)/\(-(2^62)<=lo/\lo<2^62/\-(2^62)<=hi/\hi<2^62)/\(hi-lo).toNat<=sizeLine/\∀l,H l=none->Q (.ref l) (aV H l (.lst (W1 lo (hi-lo).toNat)))):=by
 intro À s σ H xs us Q I r h;let⟨p,lo,hi,rfl,hp,⟨h1,h2,h3,h4⟩,hz,q⟩:=h;let⟨u,rfl,rx⟩:=pV r;cases rx;let⟨t,u,v,e⟩:=I.hok p _ hp;refine call_list_range (I.ok.hd hc) (show IsRange s.heap p lo hi 1 t u v from e) (small_one h1 h2 h3 h4) (n:=(hi-lo).toNat) (by rw[rangeSize_one];split<;>lia) hz λh' tk acc' c' kp e it=>?_;let⟨i1,i2⟩:=it;refine⟨.ref _,_,I.laid (t':=tk) kp (È _) (show eC X.prog X.w _ h' _ (.lst (W1 lo (hi-lo).toNat))from⟨by unfold W1;simpa using hz,acc'.toList,c',?_,by simpa using e⟩),rfl,q _ (I.hok.fresh (È _))⟩;refine aFY ?_ λk v u e1 e2=>?_
 .unfold W1;simp[i1]
 .have hk:k<(hi-lo).toNat:=by
   have:=(Î.mp e1).1;unfold W1 at this;simpa using this
  unfold W1 at e1;rw[Ò,ÿ hk]at e1;cases e1;let⟨t',e3⟩:=i2 k u (by simpa using e2);exact⟨t',by rw[e3];simp⟩
end
section
variable {X:Cx}{Z:cI}{ow:ZH}{a b:Expr}{f g:M D}{p p2 p3 pos:Pos}
def CH(fs:List (M D)):M D:=λδ=>(bB fs δ).bind λds δ1=>match kY ds with
 |some (lo,n)=>if n<=sizeLine then .ok (.list (jL lo n)) δ1 else .stuck
 |none=>.stuck
def H9{K:ZC}{lo:Int}:aD K F (jL lo n) (W1 lo n):=aD.of (by rw[fW];unfold W1;simp) λk d v e1 e2=>by
 have hk:k<n:=by
  have:=(Î.mp e1).1;rw[fW]at this;exact this
 rw[D2 hk]at e1;unfold W1 at e2;rw[Ò,ÿ hk]at e2;cases e1;cases e2;exact gJ
def W3(S:aP Z ow)(hc:X.calm=true)(hgl:Gl X "list")(hml:X.mg "list"=none)(hgr:Gl X "range")(hmr:X.mg "range"=none)(ha:DE X Z ow 0 a f)(hs:↥(Zse a [] X.env))(he:↥(starEach [.Call (.Name "range" p2) [a] [] p3] X.env=(false,eval (.Call (.Name "range" p2) [a] [] p3) X.env)::starEach [] X.env)):DE X Z ow 1 (.Call (.Name "list" p) [.Call (.Name "range" p2) [a] [] p3] [] pos) (CH [f]):=
 PE.mono (uJ (qE hc) hgl hml iQ (dO (aI9 hgr hmr (aF ha aY hs) hs) iW he) ⋯ ⋯ he) λσ H Q q=>by
  let⟨F,δ,R,q⟩:=q;unfold CH at q;sleep 1;cases e1:bB [f] δ with
  |stuck=>rw[e1]at q;sleep 4
  |err x δ1=>rw[e1]at q;exact q
  |ok ds δ1=>
   rw[e1]at q;simp![Res.bind]at q;intro vs H1 F1 R1 s1 ra;cases e2:kY ds with
   |none=>rw[e2]at q;sleep 4
   |some m=>
    let⟨lo,m⟩:=m;rw[e2]at q;let⟨j,rfl,h1,h2,rfl,rfl⟩:=GW e2 (kZ e1);dsimp only at q;split at q
    .rename_i hz
     refine⟨j,xJ ra,h1,h2,λr hr=>⟨r,0,j,rfl,aJ,⟨⋯,⋯,h1,h2⟩,by simpa using hz,λl hl=>?_⟩⟩;have R2:=R1.laid (o:=.rng 0 j) hr;have fr:F1 r=none:=R1.fnone hr;have:=q (.ref l) _ _ (R2.newList (ds:=jL 0 j.toNat) (vs:=W1 0 (j-0).toNat) S hl (by rw[Int.sub_zero];exact H9)) (s1.trans' (bW fr _));exact this
    .sleep 4
def W4(S:aP Z ow)(hc:X.calm=true)(hgl:Gl X "list")(hml:X.mg "list"=none)(hgr:Gl X "range")(hmr:X.mg "range"=none)(ha:DE X Z ow 0 a f)(hb:DE X Z ow 0 b g)(hs:↥(starEach [a,b] X.env=(false,eval a X.env)::starEach [b] X.env))(hs2:↥(Zse b [] X.env))(he:↥(starEach [.Call (.Name "range" p2) [a,b] [] p3] X.env=(false,eval (.Call (.Name "range" p2) [a,b] [] p3) X.env)::starEach [] X.env)):DE X Z ow 1 (.Call (.Name "list" p) [.Call (.Name "range" p2) [a,b] [] p3] [] pos) (CH [f,g]):=
 PE.mono (uJ (qE hc) hgl hml iQ (dO (aJA hgr hmr (aF ha (aF hb aY hs2) hs) (hs.trans (by rw[hs2];rfl)) hs2) iW he) ⋯ ⋯ he) λσ H Q q=>by
  let⟨F,δ,R,q⟩:=q;unfold CH at q;sleep 1;cases e1:bB [f,g] δ with
  |stuck=>rw[e1]at q;sleep 4
  |err x δ1=>rw[e1]at q;exact q
  |ok ds δ1=>
   rw[e1]at q;simp![Res.bind]at q;intro vs H1 F1 R1 s1 ra;cases e2:kY ds with
   |none=>rw[e2]at q;sleep 4
   |some m=>
    let⟨lo,m⟩:=m;rw[e2]at q;let⟨i,j,rfl,h1,rfl,rfl⟩:=GX e2 (kZ e1);dsimp only at q;split at q
    .rename_i hz
     refine⟨lo,j,GY ra,h1,λr hr=>⟨r,lo,j,rfl,aJ,h1,hz,λl hl=>?_⟩⟩;have R2:=R1.laid (o:=.rng lo j) hr;have fr:F1 r=none:=R1.fnone hr;exact q (.ref l) _ _ (R2.newList (ds:=jL lo (j-lo).toNat) (vs:=W1 lo (j-lo).toNat) S hl H9) (s1.trans' (bW fr _))
    .sleep 4
end
structure tF(K:ZC)(mg:ZD)(base:Heap):Prop where
 bm:∃bm ob,mg "__builtins__"=some (.ref bm)/\bm≠builtinsNs/\base.get? bm=some ob/\ob.cls=.type "module"/\ob.dict=some builtinsNs/\ob.data=.plain
 cd:∀c P pos,jR K=some (c,P,pos)->W.CodeHd base c P
section
variable {X:Cx}{À:ZB}{σ:St}{H:Hp}{s:Shared}
structure IC(X:Cx)(À:ZB)(a:Addr):Prop where
 pin:∀p∈X.pn++À,p.1≠a
 new:X.s₀.heap.objs.size<=a
 loc:a≠X.env.locals
 cells:∀x c,X.env.cells.lookup x=some c->c≠a
def Inv.mine(I:Inv X À σ H s)(h:s.heap.objs.size<=a):IC X À a:=
 ⟨λp hp=>Ð (Ù (Heap.lt_size (I.pin p hp).1) h),Ü I.sz h,Þ (Ù I.lt h),λx c e=>by
  let⟨v,q⟩:=I.cell x c e;exact Ð (Ù q.lt h)⟩
def Inv.repin(I:Inv X ((a,o)::À) σ H s)(m:IC X À a)(k:∀b ob,b≠a->s.heap.get? b=some ob->h'.get? b=some ob)(e:h'.get? a=some o')(hd:∀v,o'.data≠.cell v):
  Inv X ((a,o')::À) σ H {s with heap:=h',toks:=t'}:=by
 let⟨p1,p2,p3,p4,p5⟩:=I.pin (a,o) (Ý _ Ô);have I1:Inv X À σ H s:=I.pins_of λp hp=>I.pin p (Ý _ (Ó _ hp));have I2:=I1.turned (h':=h') (t':=t') (it:=a) k p2 m.loc (.inr m.new) m.cells m.pin;refine I2.pins_of λp hp=>?_;rcases Õ.mp hp with rfl|hp
 .exact⟨e,p2,p3,p4,hd⟩
 .exact I2.pin p (Ý _ hp)
def Inv.pinNew(I:Inv X À σ H s)(e:s.heap.get? a=some o)(hn:H a=none)(hl:a≠X.env.locals)(hf:a∉X.fs)(hd:∀v,o.data≠.cell v):Inv X ((a,o)::À) σ H s:=I.pins_of λp hp=>by
 rcases Õ.mp hp with rfl|hp
 .exact⟨e,hn,hl,hf,hd⟩
 .exact I.pin p (Ý _ hp)
def Inv.unpin(I:Inv X (p::À) σ H s):Inv X À σ H s:=I.pins_of λq hq=>I.pin q (Ý _ (Ó _ hq))
end
abbrev tG(pos:Pos):HO:=.lam (rawInt pos.line) (rawInt pos.col) kX
abbrev Q8(pos:Pos)(c':Addr):Obj:=W.tabObj #[rawInt pos.line,rawInt pos.col,.ref c']
structure tH(X:Cx)(À:ZB)(σ:St)(H:Hp)(P:Addr)(pos:Pos)(fo:Obj)(f c':Addr)(H':Hp)(s':Shared):Prop where
 inv:Inv X À σ H' s'
 same:aI H H'
 fn:s'.heap.get? f=some fo
 un:H' f=none
 loc:f≠X.env.locals
 nf:f∉X.fs
 cd:s'.heap.CodeRec (.ref c') kX
 own:H' c'=some (.own P)
 ne:c'≠P
 tb:s'.heap.get? P=some (Q8 pos c')
 lm:H' P=some (tG pos)
section
variable {X:Cx}{À:ZB}{σ:St}{H:Hp}{s:Shared}{params:Arguments}{body:Expr}{scope:Scope}{pos:Pos}{c P:Addr}{clos:List (Str×Addr)}
def W5{Q:ZA}{E:ZA}{M:Model}{A:Around}(I:Inv X À σ H s)(B:tF X.K X.mg X.base)(hl:jR X.K=some (c,P,pos))(hP:H P=some (tG pos))(hcode:X.env.code=.ref c)(hq:X.env.qual++"<lambda>"=kX)(hcl:closureFor scope X.env=pure clos)(hdef:defaultsOf params X.env=([],[]))(h:∀f c' ctv H' s',tH X À σ H P pos 'f' f c' H' s'->Q (.ref f) s'):wpAny M A (eval (.Lambda params body scope pos) X.env) Q E s:=by
 refine W.kla_eval hdef ?_;rw[hq];have hg:s.heap.Ns mainGlobals X.mg:=I.mod.glob.keeps I.bk;have C:W.CodeHd s.heap c P:=(B.cd c P pos hl).keeps I.bk;let⟨bm,ob,b1,b2,b3,b4,b5,b6⟩:=B.bm;have b3':=I.bk _ _ b3;let⟨ps,e1,e2⟩:=I.hok P _ hP;have hPl:P<s.heap.objs.size:=Heap.lt_size e1;have hgP:mainGlobals≠P:=λq=>by
  let⟨o,es,ep,e,hd,_⟩:=hg;rw[q,e1]at e;cases e;cases hd
 have hbP:bm≠P:=λq=>by rw[q,e1]at b3';cases b3';cases b4
 have hbG:bm≠mainGlobals:=λq=>by
  let⟨o,es,ep,e,hd,_⟩:=hg;rw[q,e]at b3';cases b3';rw[hd]at b6;cases b6
 have BA:s.heap.BuiltinsAt X.mg P:=⟨bm,ob,b1,b2,hbG,hbP,b3',b4,b5,b6⟩;have far:∀{n:Nat},s.heap.objs.size<=n->H n=none/\n≠X.env.locals/\n∉X.fs:=λ{n}hn=>⟨I.hok.fresh hn,Þ (Ù I.lt hn),I.nofs hn⟩;rcases e2 with rfl|⟨c',rfl,o1,o2,o3⟩
 .refine W.kla_makeFunction (mg:=X.mg) hcl I.ok.glob hg hcode C e1 trivial rfl hgP BA λc' ctv h' tk hx hge hlt hrec htb=>?_
  have hc:H c'=none:=(far hge).1;have hk:∀b o,b≠P->s.heap.get? b=some o->(h'.push 'f').get? b=some o:=λb o n e=>Heap.get?_push_of_some _ (hx b o n e);have ht:(h'.push 'f').get? P=some (Q8 pos c'):=Heap.get?_push_of_some _ htb;have hr:(h'.push 'f').CodeRec (.ref c') kX:=hrec.push _;have ncP:c'≠P:=Þ (Ù hPl hge);have un:Un X.fs [] H (aV H c' (.own P)) s.heap (h'.push 'f'):=by
   have nP:∀b,H b=none->b≠P:=λb n z=>by rw[z,hP]at n;cases n
   refine⟨λb o e n _ _=>hk b o (nP b n) e,λb o e n _ _=>⟨o.slots,hk b o (nP b n) e⟩,λb o e n _=>?_,λb o e _=>?_,λb xs e=>?_,λb o u e=>?_,λb ps e=>⟨#[],?_⟩⟩
   .rw[aE (Ð (Ù (Heap.lt_size e) hge))];exact n
   .by_cases z:b=P
    .exact⟨_,z▸ht⟩
    .exact⟨o,hk b o z e⟩
   .rw[aE (bK e hc)];exact e
   .rw[aE (bK e hc)];exact e
   .rw[aE (bK e hc),e];simp
  have hok:mZ X.prog X.w (aV H c' (.own P)) (h'.push 'f'):=λb o e=>by
   by_cases z:b=c'
   .subst z
    rw[aJ]at e;cases e;let⟨_,o,_,_,q1,q2,_⟩:=hr;cases q1;exact⟨o,q2⟩
   .rw[aE z]at e
    by_cases y:b=P
    .subst y
     rw[hP]at e;cases e;exact⟨_,ht,.inr ⟨c',rfl,aJ,ncP,hr⟩⟩
    .refine(I.hok b o e).stay (λd u hd q=>hk d u ?_ q) (λd q=>by rw[aE (bK q hc)];exact q) λd xs q=>by rw[aE (bK q hc)];exact q
     rcases hd with rfl|hd
     .exact y
     .rintro rfl;rw[hP]at hd;cases hd
  have hf:s.heap.objs.size<=h'.objs.size:=É (ę hge hlt);have I2:=I.un (t':=tk) un hok;refine h _ c' ctv (aV H c' (.own P)) _ ⟨I2,λb o e=>by rw[aE (bK e hc)];exact e,Heap.get?_push_size _ rfl,?_,(far hf).2.1,(far hf).2.2,hr,aJ,ncP,ht,by rw[aE (Í ncP)];exact hP⟩
  rw[aE (Þ hlt)];exact(far hf).1
 .have am:codeAmong pos (#[rawInt pos.line,rawInt pos.col,.ref c']:Array Value).toList=some (.ref c'):=codeAmong_snoc (pos:=pos) (c:=.ref c') [] trivial rfl
  refine W.kla_makeFunctionHit (mg:=X.mg) hcl I.ok.glob hg hcode C e1 trivial am BA λctv h' tk hk hsz=>?_;have hk':∀b o,s.heap.get? b=some o->(h'.push 'f').get? b=some o:=λb o e=>Heap.get?_push_of_some _ (hk b o e);have I2:=I.kept (t':=tk) hk';exact h _ c' ctv H _ ⟨I2,λ_ _ e=>e,Heap.get?_push_size _ rfl,(far hsz).1,(far hsz).2.1,(far hsz).2.2,o3.keeps hk',o1,o2,hk' _ _ e1,hP⟩
def pT(P c':Addr)(H:Hp):Hp:=λb=>open Classical in if b=P\/b=c' then none else H b
def iU(h1:b≠P)(h2:b≠c'):pT P c' H b=H b:=by
 unfold pT;rw[Ã λz=>z.elim h1 h2]
def Q9(e:pT P c' H b=some o):b≠P/\b≠c'/\H b=some o:=by
 unfold pT at e;split at e
 .cases e
 .rename_i z
  exact⟨λq=>z (.inl q),λq=>z (.inr q),e⟩
def k8{P c' b:Addr}{H:Hp}(e:H b=none):pT P c' H b=none:=by
 unfold pT;split
 .rfl
 .exact e
def aJB:pT P c' H P=none:=by unfold pT;rw[Â (.inl rfl)]
def aJC:pT P c' H c'=none:=by unfold pT;rw[Â (.inr rfl)]
def tH.hide(m:tH X À σ H P pos fo f c' H' s')(hfo:∀v,fo.data≠.cell v):∃oc vs t,oc.data=.fields vs/\vs[1]?=some (.str kX t)/\Inv X ((f,fo)::(c',oc)::(P,Q8 pos c')::À) σ (pT P c' H') s':=by
 let⟨_,oc,vs,t,e0,e1,e2,e3⟩:=m.cd;cases e0;have nP:∀{b:Addr}{o:HO},H' b=some o->o≠tG pos->b≠P:=λ{b o}e n z=>by rw[z,m.lm]at e;cases e;exact n rfl
 have nc:∀{b:Addr}{o:HO},H' b=some o->o≠.own P->b≠c':=λ{b o}e n z=>by rw[z,m.own]at e;cases e;exact n rfl
 have I:=m.inv;have locP:P≠X.env.locals:=λz=>by have:=I.free;rw[<- z,m.lm]at this;cases this
 have locc:c'≠X.env.locals:=λz=>by have:=I.free;rw[<- z,m.own]at this;cases this
 have fsF:∀b∈X.fs,H' b=none:=λb hb=>by
  let⟨_,o,ho,_⟩:=I.ok.funs.mem hb;exact I.base.free b o ho (I.ok.frf b hb) λz=>I.ok.exfs b z hb
 have J:Inv X À σ (pT P c' H') s':=by
  refine⟨I.ok,I.os,I.bare,⟨I.base.keep,I.base.slot,λb o e n hx=>k8 (I.base.free b o e n hx),I.base.there,λb xs e=>?_,λb o u e=>?_,λb ps e=>?_⟩,I.loc,I.cell,k8 I.free,λx c e=>k8 (I.freeC x c e),λp hp=>?_,λb o e=>?_,I.len⟩
  .have q:=I.base.tups b xs e
   rw[iU (nP q 'e') (nc q 'e')];exact q
  .have q:=I.base.frzs b o u e
   rw[iU (nP q 'e') (nc q 'e')];exact q
  .obtain⟨more,q⟩:=I.base.tbls b ps e
   exact⟨more,by rw[iU (nP q 'e') (nc q 'e')];exact q⟩
  .obtain⟨a1,a2,a3⟩:=I.pin p hp
   exact⟨a1,k8 a2,a3⟩
  .obtain⟨h1,h2,e⟩:=Q9 e
   refine(I.hok b o e).stay (λ_ _ _ q=>q) (λd q=>?_) λd xs q=>?_
   .rw[iU (nP q 'e') (λz=>by rw[z,m.own]at q;cases q;exact h1 rfl)];exact q
   .rw[iU (nP q 'e') (nc q 'e')];exact q
 refine⟨oc,vs,t,e2,e3,((J.pinNew m.tb aJB locP (λz=>by have:=fsF _ z;rw[m.lm]at this;cases this) (λv=>by simp)).pinNew e1 aJC locc (λz=>by have:=fsF _ z;rw[m.own]at this;cases this) (λv=>by rw[e2];simp)).pinNew m.fn (k8 m.un) m.loc m.nf hfo⟩
def yH(P c':Addr)(pos:Pos)(H:Hp):Hp:=λb=>open Classical in if b=P then some (tG pos)else if b=c' then some (.own P)else H b
def tH.show(m:tH X À σ H P pos fo f c' H' s')(e2:oc.data=.fields vs)(e3:vs[1]?=some (.str kX t))(I2:Inv X ((f,fo)::(c',oc)::(P,Q8 pos c')::À) σ H2 s2)(hs:aI (pT P c' H') H2):Inv X À σ (yH P c' pos H2) s2/\aI H (yH P c' pos H2):=by
 have pc:=I2.pin (c',oc) (Ý _ 'e');have pP:=I2.pin (P,Q8 pos c') (Ý _ 'e');have I:=m.inv;have neP:∀{b:Addr}{o:HO},H2 b=some o->b≠P:=λe z=>by rw[z,pP.2.1]at e;cases e
 have nec:∀{b:Addr}{o:HO},H2 b=some o->b≠c':=λe z=>by rw[z,pc.2.1]at e;cases e
 have ne:∀{b:Addr},b≠P->b≠c'->yH P c' pos H2 b=H2 b:=λh1 h2=>by unfold yH;rw[Ã h1,Ã h2]
 have up:∀{b:Addr}{o:HO},H2 b=some o->yH P c' pos H2 b=some o:=λe=>by rw[ne (neP e) (nec e)];exact e
 have dn:∀{b:Addr},H' b=none->H2 b=none->yH P c' pos H2 b=none:=λ{b}e1 e2=>by
  rw[ne (λz=>by rw[z,m.lm]at e1;cases e1) (λz=>by rw[z,m.own]at e1;cases e1)];exact e2
 have sP:yH P c' pos H2 P=some (tG pos):=by unfold yH;rw[Â rfl]
 have sc:yH P c' pos H2 c'=some (.own P):=by unfold yH;rw[Ã m.ne,Â rfl]
 refine⟨⟨I2.ok,I2.os,I2.bare,⟨I2.base.keep,I2.base.slot,λb o e n hx=>dn (I.base.free b o e n hx) (I2.base.free b o e n hx),I2.base.there,λb xs e=>up (I2.base.tups b xs e),λb o u e=>up (I2.base.frzs b o u e),λb ps e=>?_⟩,I2.loc,I2.cell,dn I.free I2.free,λx c e=>dn (I.freeC x c e) (I2.freeC x c e),λp hp=>?_,λb o e=>?_,I2.len⟩,λb o e=>?_⟩
 .obtain⟨more,q⟩:=I2.base.tbls b ps e
  exact⟨more,up q⟩
 .have hp2:p∈X.pn++((f,fo)::(c',oc)::(P,Q8 pos c')::À):=by
   rcases ø.mp hp with z|z
   .exact ģ _ z
   .exact Ý _ (by simp[z])
  let⟨a1,a2,a3⟩:=I2.pin p hp2;exact⟨a1,dn (I.pin p hp).2.1 a2,a3⟩
 .by_cases h1:b=P
  .subst h1
   rw[sP]at e;cases e;exact⟨_,pP.1,.inr ⟨c',rfl,sc,m.ne,c',oc,vs,t,rfl,pc.1,e2,e3⟩⟩
  .by_cases h2:b=c'
   .subst h2
    rw[sc]at e;cases e;exact⟨oc,pc.1⟩
   .rw[ne h1 h2]at e
    exact(I2.hok b o e).stay (λ_ _ _ q=>q) (λd q=>up q) λd xs q=>up q
 .have e':=m.same b o e
  by_cases h1:b=P
  .subst h1;rw[m.lm]at e';cases e';exact sP
  .by_cases h2:b=c'
   .subst h2;rw[m.own]at e';cases e';exact sc
   .rw[ne h1 h2]
    exact hs b o (by rw[iU h1 h2];exact e')
end
abbrev lamE(scope:Scope)(x:Str)(cc:Addr)(s:Shared)(f c':Addr):Env:=W.envX kX scope s.heap.objs.size f (.ref c') [(x,cc)]
def ţ(X:Cx)(scope:Scope)(p x:Str)(cc:Addr)(s:Shared)(H:Hp)(f c':Addr):Cx where
 prog:=X.prog
 w:=X.w
 K:=X.K
 mg:=X.mg
 base:=X.base
 A:=X.A.in1.deeper (lamE scope x cc s f c')
 N:=[p,x]
 s₀:=s
 H₀:=H
 env:=lamE scope x cc s f c'
 outer:=X.stack
 stack:=lamE scope x cc s f c'::X.stack
 ex:=[]
 calm:=true
 fn:=λy=>y == p
 pn:=[]
 xe:=λe s'=>wpAny 'b' (X.A.in1.deeper (lamE scope x cc s f c')) (leaving (lamE scope x cc s f c') e) (λ_ _=>False) (λ_ _=>False) s'
structure W6(scope:Scope)(p x:Str):Prop where
 names:scope.names=[(p,.local),(x,.free)]\/scope.names=[(x,.free),(p,.local)]
 ne:(p == x)=false
 kind:scope.kind=.function
 co:scope.isCoroutine=false
 gen:scope.isGenerator=false
section
variable {X:Cx}{À:ZB}{σ:St}{H:Hp}{s:Shared}{params:Arguments}{body:Expr}{scope:Scope}{p x:Str}{cc f c':Addr}
theorem W6.look(S:W6 scope p x):scope.names.lookup p=some .local/\scope.names.lookup x=some .free/\∀y,(scope.names.lookup y=some .cell\/scope.names.lookup y=some .free)->y=x:=by
 have h1:=S.ne;have h2:(x == p)=false:=by
  rw[beq_eq_false_iff_ne]at h1⊢;exact λz=>h1 z.symm
 rcases S.names with e|e<;>rw[e]
 .refine⟨by simp[å],by simp[å,h2],λy hy=>?_⟩
  by_cases q1:y=p
  .subst q1;simp[å]at hy
  .by_cases q2:y=x
   .exact q2
   .simp[å,beq_eq_false_iff_ne.mpr q1,beq_eq_false_iff_ne.mpr q2]at hy
 .refine⟨by simp[å,h1],by simp[å],λy hy=>?_⟩
  by_cases q2:y=x
  .exact q2
  .by_cases q1:y=p
   .subst q1;simp[å,h1]at hy
   .simp[å,beq_eq_false_iff_ne.mpr q1,beq_eq_false_iff_ne.mpr q2]at hy
def RA(I:Inv X À σ H s)(S:W6 scope p x)(hc:X.calm=true)(rv:bH v u)(rt:bH vt ut)(hcell:s.heap.IsCell cc (some ut))(hH:H cc=none)(hb:X.A.in1.frames=some X.stack)(hn:h1.Ns s.heap.objs.size (λy=>[(p,u)].reverse.lookup y))(hk:∀b o,s.heap.get? b=some o->h1.get? b=some o)(e1:s1={s with heap:=h1,toks:=s.toks+1}):
  Inv (ţ X scope p x cc s H f c') [] [some v,some vt] H s1:=by
 subst e1;let⟨l1,l2,l3⟩:=S.look;have lx:∀y c,([(x,cc)]:List (Str×Addr)).lookup y=some c->y=x/\c=cc:=λy c e=>by
  rw[å]at e;cases q:y == x with
  |true=>rw[q]at e;cases e;exact⟨eq_of_beq q,rfl⟩
  |false=>rw[q]at e;cases e
 have noA:∀b:Addr,b∉(ţ X scope p x cc s H f c').ex:=λb z=>absurd (show b∈([]:ZM)from z) 'e';refine⟨⟨I.mod,S.kind,rfl,rfl,È _,λy z c a1 a2=>?_,λy hy=>?_,λy c a1 a2=>?_,λ_=>?_,Around.frames_deeper hb,.inr ⟨rfl,rfl⟩,λb z=>absurd z (noA b),I.bs,?_,λb _ _=>noA b,λb z=>absurd z (noA b),I.stack,I.stkFree⟩,
  rfl,I.bare,Un.kept hk,⟨_,hn,λi y v' a1 a2 a3=>?_⟩,λy c a=>?_,I.hok.fresh (È _),λy c a=>?_,λq hq=>absurd (show q∈([]:ZB)from hq) 'e',I.hok.kept hk,rfl⟩
 .rw[(lx y c a1).1,(lx z c a2).1]
 .have:=l3 y hy
  subst this;exact⟨cc,by show ([(y,cc)]:List (Str×Addr)).lookup y=some cc;simp[å]⟩
 .have e:=(lx y c a2).1
  subst e;have a1:(y == p)=true:=a1;have:=S.ne;rw[eq_of_beq a1]at this;simp at this
 .exact I.ok.hd hc
 .exact Ü I.ok.bsz I.sz
 .match i,a1,a2 with
  |0,a1,a2=>
   cases a1;cases a2;exact⟨u,rv,.inl ⟨l1,by simp[å]⟩⟩
  |1,a1,a2=>
   cases a1;cases a2;refine⟨ut,rt,.inr ⟨.inr l2,cc,by show ([(x,cc)]:List (Str×Addr)).lookup x=some cc;simp[å],?_⟩⟩
   let⟨o,ho,hd⟩:=hcell;exact⟨o,hk _ _ ho,hd⟩
  |i+2,a1,a2=>cases a1
 .obtain⟨rfl,rfl⟩:=lx y c a
  let⟨o,ho,hd⟩:=hcell;exact⟨_,o,hk _ _ ho,hd⟩
 .obtain⟨rfl,rfl⟩:=lx y c a
  exact hH
def W7{i:Nat}(I:Inv X À σ H s)(S:W6 scope p x)(hc:X.calm=true)(hr:fD 0 X.A)(hfr:X.A.in1.frames=some X.stack)(hf:(f,W.kla_obj "<lambda>" kX params body scope [(x,cc)] pm c' ctv)∈À)(hoc:(c',oc)∈À)(e2:oc.data=.fields cvs)(e3:cvs[1]?=some (.str kX ct))(hN:X.N[i]?=some x)(hσ:σ[i]?=some (some vt))(hkd:X.env.scope.names.lookup x=some .cell)(hxc:X.env.cells.lookup x=some cc)(hbind:bindArgs (W.kla_fn "<lambda>" kX params body scope [(x,cc)] pm (.ref c') ctv) ⟨[u],[]⟩=pure [(p,u)])(rv:bH v u)(hb:PE (ţ X scope p x cc s H f c') body tb)(ht:tb [some v,some vt] H (λw H'=>w=.int k/\aI H H')):
  wpAny 'b' X.A.in1 (call (.ref f) [u]) (λu' s'=>∃t H',u'=.int k t/\aI H H'/\Inv X À σ H' s') E s:=by
 let⟨l1,l2,l3⟩:=S.look;let⟨m,_,hl⟩:=id I.loc;let⟨ut,rt,lk⟩:=hl i x vt hN hσ (.inr (.inl hkd));have hcell:s.heap.IsCell cc (some ut):=by
  rcases lk with ⟨q,_⟩|⟨_,c,q,z⟩
  .rw[show X.env.kindOf x=X.env.scope.names.lookup x from rfl,hkd]at q;cases q
  .rw[hxc]at q;cases q;exact z
 have pf:=I.pin _ (Ý _ hf);have pc:=I.pin _ (Ý _ hoc);refine wpAny_call (W.kla_callFunE (body:=body) ?_ pf.1 rfl S.co S.gen rfl ⟨c',oc,cvs,ct,rfl,pc.1,e2,e3⟩ ?_)
 .have:=hr.dp
  show X.A.depth<_;lia
 rw[hbind];have hnc:∀y∈scope.names,y.2≠.cell:=λy hy=>by
  rcases S.names with e|e<;>rw[e]at hy<;>simp at hy<;>rcases hy with rfl|rfl<;>(intro h;cases h)
 refine wpAny_pure (wpAny_newFunctionEnv hnc (λy hy=>by rw[ò.mp hy];exact l1) (λh1 hns hsb=>⟨I.nolimit.fresh _ hsb,?_⟩) S.kind);have hk1:∀b o,s.heap.get? b=some o->h1.get? b=some o:=λb o e=>hsb.extBut b o (Ð (Heap.lt_size e)) (Heap.get?_push_of_some _ e);show codeAny _ _ (.expr body (lamE scope x cc s f c')) _ _;have J:Inv (ţ X scope p x cc s H f c') [] [some v,some vt] H {s with heap:=h1,toks:=s.toks+1}:=RA I S hc rv rt hcell (I.freeC x cc hxc) hfr hns hk1 rfl;refine W.kla_codeExpr (wpAny_mono (hb [] _ [some v,some vt] H _ J ht) (λu' s' q=>?_) λe s' q=>?_)
 .obtain⟨w,H',J',rw',rfl,sm⟩:=q
  let⟨t,rfl⟩:=rw';exact⟨t,H',rfl,sm,I.call' (ch:=[]) J'.os J'.base J'.hok J'.bare (λ_ z=>nomatch z)⟩
 .exact wpAny_mono q (λ_ _ z=>z.elim) λ_ _ z=>z.elim
end
def cY{α:Type}:Option (α×Int)->List (α×Int)->Option (α×Int)
 |o,[]=>o
 |none,y::ys=>cY (some y) ys
 |some m,y::ys=>cY (some (if y.2<m.2 then y else m)) ys
def aME(b:Option (V×Int))(o:Option (Value×Tok)):Prop:=match b,o with
 |none,none=>True
 |some m,some z=>bH m.1 z.1
 |_,_=>False
def W8:Option (V×Int)->Option (Value×Tok)->Array Value
 |some m,some z=>#[z.1,.int m.2 z.2]
 |_,_=>#[]
section
variable {X:Cx}{À:ZB}{σ:St}{H0:Hp}{q l:Addr}{dv:Value}{R:Result->Shared->Prop}
def ID(a f d:Value):argsOk "min" ⟨[a],[("key",f),("default",d)]⟩:=by unfold argsOk;kernel_rfl
def aC5{prog:Program}{w:World}{A:Around}{E:ZA}{s:Shared}{x m:Int}{t t':Tok}{Q:ZA}(h:Q (.bool (decide (x<m))) s):wpAny 'p' A (richCompare .Lt (.int x t) (.int m t')) Q E s:=CmpOf.ints_lt (P:=λi v=>∃t,v=.int (if i=0 then x else m) t) (λi=>if i=0 then x else m) (λ_ _ h=>h) 0 1 _ _ s Q E ⟨t,rfl⟩ ⟨t',rfl⟩ (by simpa using h)
def yI(b:Option (V×Int))(o:Option (Value×Tok)):(W8 b o).size<=sizeLine:=by
 unfold W8;split
 .show 2<=sizeLine;decide
 .show 0<=sizeLine;decide
abbrev v5(b:Option (V×Int))(o:Option (Value×Tok))(c:Nat):Obj:={cls:=.type "list",dict:=none,data:=.seq (W8 b o) c,slots:=#[]}
def Inv.swp(I:Inv X (a::b::À) σ H s):Inv X (b::a::À) σ H s:=I.pins_of λp hp=>I.pin p (Ý _ (by
 rcases Õ.mp hp with rfl|hp
 .exact Ó _ Ô
 .rcases Õ.mp hp with rfl|hp
  .exact Ô
  .exact Ó _ (Ó _ hp)))
def oY(o:Option (α×Int)):cY o []=o:=by cases o<;>rfl
def RB{vs:List V}{ks:ZK}(hlen:ks.length=vs.length)(hh:X.A.handled=none)(turn:∀(j:Nat)(v:V)(k:Int)(u:Value)(pins':ZB)(s:Shared)(H1:Hp),vs[j]?=some v->ks[j]?=some k->bH v u->aI H0 H1->(∀p∈À,p∈pins')->Inv X pins' σ H1 s ->
   wpAny 'b' X.A.in1 (call (.ref q) [u]) (λu' s'=>∃t H',u'=.int k t/\aI H1 H'/\Inv X pins' σ H' s') (λ_ _=>False) s)(hl:∀H1,aI H0 H1->d8 X.K H1 l vs)(mI:IC X À IA)(mS:IC X À S)(hSI:S≠IA)(hlI:l≠IA)(done:∀u s' H1,(match cY none (vs.zip ks)with|none=>u=dv|some m=>bH m.1 u)->aI H0 H1->Inv X À σ H1 s'->R (.ok (.ret u)) s'):
  ∀(r j:Nat)(s:Shared)(H1:Hp)(b:Option (V×Int))(o:Option (Value×Tok))(c:Nat)(oI:Obj),vs.length-j=r->j<=vs.length->cY b ((vs.zip ks).drop j)=cY none (vs.zip ks)->aME b o->aI H0 H1 ->
   oI.cls=.type "list_iterator"->oI.data=.fields #[.ref l,.int j 0]->Inv X ((S,v5 b o c)::(IA,oI)::À) σ H1 s ->
   codeAny 'b' X.A (.builtin "min.loop" ⟨[.ref IA,.ref q,.ref S],[("default",dv)]⟩) R s:=by
 have nm:(toString "min"++toString ".loop":String)="min.loop":=by decide
 have mS':∀oI:Obj,IC X ((IA,oI)::À) S:=λoI=>⟨λp hp=>by
  rcases ø.mp hp with hp|hp
  .exact mS.pin p (ģ _ hp)
  .rcases Õ.mp hp with rfl|hp
   .exact Í hSI
   .exact mS.pin p (Ý _ hp),mS.new,mS.loc,mS.cells⟩
 have mI':∀oS:Obj,IC X ((S,oS)::À) IA:=λoS=>⟨λp hp=>by
  rcases ø.mp hp with hp|hp
  .exact mI.pin p (ģ _ hp)
  .rcases Õ.mp hp with rfl|hp
   .exact hSI
   .exact mI.pin p (Ý _ hp),mI.new,mI.loc,mI.cells⟩
 intro r
 induction r with
 |zero=>
  intro j s H1 b o c oI hr hj hb hbo sm hoc hod I;obtain rfl:j=vs.length:=by lia
  rw[List.drop_of_length_le (by rw[ì];lia),oY]at hb;have pS:=I.pin _ (Ý _ Ô);have pI:=I.pin _ (Ý _ (Ó _ Ô));let⟨its,rv,pl,hz⟩:=I.list (hl H1 sm);have hn:=rv.length;have W:=Walks.list (prog:=X.prog) (w:=X.w) (A:=X.A.in1) (show X.A.in1.handled=none from hh) IA l hlI its.toArray;refine codeAny_builtin F.entry_min_loop ?_;rw[Around.under_plainId F.plain_min_loop _];refine(show wpAny _ X.A.in1 (seqItems? (.ref S) >>= _) _ _ s from wpAny_bind (wpAny_seqItems pS.1 rfl ?_));refine(show wpAny _ X.A.in1 (tryCatch (pyNext (.ref IA)) _ >>= _) _ _ s from wpAny_bind (wpAny_tryCatch (W.done s _ _ ⟨⟨oI,pI.1,hoc,by rw[hod];simp[<- hn]⟩,pl.isList⟩ λh' tk hk'=>?_)))
  have I1:Inv X ((S,v5 b o c)::À) σ H1 {s with heap:=h',toks:=tk}:=I.swp.unpin.turned (it:=IA) (λb o hb e=>hk' b o (by simpa using hb) e) pI.2.1 (mI' (v5 b o c)).loc (.inr mI.new) mI.cells (mI' (v5 b o c)).pin;cases o with
  |none=>
   cases b with
   |some m=>exact hbo.elim
   |none=>
    refine wpAny_bind (wpAny_rule (wpAny_pure (done dv _ H1 ?_ sm I1.unpin)));rw[<- hb]
  |some z=>
   cases b with
   |none=>exact hbo.elim
   |some m=>
    have pS1:=I1.pin _ (Ý _ Ô);refine(show wpAny _ X.A.in1 (updateSeq S (λ_=>#[]) >>= _) _ _ _ from wpAny_bind (wpAny_updateSeq pS1.1 rfl (wpAny_bind (wpAny_letGo (wpAny_pure ?_))) (hz:=yI _ _) (_hz':=î _)));refine done z.1 _ H1 (by rw[<- hb];exact hbo) sm ?_;exact I1.unpin.turned (t':=tk) (it:=S) (λb o hb e=>(Heap.get?_update_other _ _ (Í hb)).trans e) pS1.2.1 mS.loc (.inr mS.new) mS.cells mS.pin
 |succ r ih=>
  intro j s H1 b o c oI hr hj hb hbo sm hoc hod I;have hlt:j<vs.length:=by lia
  have pS:=I.pin _ (Ý _ Ô);have pI:=I.pin _ (Ý _ (Ó _ Ô));let⟨its,rv,pl,hz⟩:=I.list (hl H1 sm);have hn:=rv.length;have W:=Walks.list (prog:=X.prog) (w:=X.w) (A:=X.A.in1) (show X.A.in1.handled=none from hh) IA l hlI its.toArray;obtain⟨v,hv⟩:∃v,vs[j]?=some v:=⟨_,Ê hlt⟩;obtain⟨k,hk⟩:∃k,ks[j]?=some k:=⟨_,Ê (by exact õ ‹_› (Eq.symm ‹_›))⟩;have ed:(vs.zip ks).drop j=(v,k)::(vs.zip ks).drop (j+1):=by
   have hz:(vs.zip ks)[j]?=some (v,k):=by rw[Ģ];exact⟨hv,hk⟩
   let⟨h1,h2⟩:=Î.mp hz;rw[ñ h1,h2]
  rw[ed]at hb;refine codeAny_builtin F.entry_min_loop ?_;rw[Around.under_plainId F.plain_min_loop _];refine(show wpAny _ X.A.in1 (seqItems? (.ref S) >>= _) _ _ s from wpAny_bind (wpAny_seqItems pS.1 rfl ?_));refine(show wpAny _ X.A.in1 (tryCatch (pyNext (.ref IA)) _ >>= _) _ _ s from wpAny_bind (wpAny_tryCatch (W.item j s _ _ (by simp;exact õ ‹_› ‹_›) ⟨⟨oI,pI.1,hoc,hod⟩,pl.isList⟩ λu h' tk hp hst' hk'=>?_)));let⟨oI',hoI',hoc',hod'⟩:=hst'.1;have ru:bH v u:=by
   let⟨u',e1,e2⟩:=rv.get hv;have hp:its.toArray[j]?=some u:=hp;rw[List.getElem?_toArray,e1]at hp;cases hp;exact e2
  have I1:Inv X ((S,v5 b o c)::(IA,oI')::À) σ H1 {s with heap:=h',toks:=tk}:=(I.swp.repin (mI' _) (λb o hb e=>hk' b o (by simpa using hb) e) hoI' (λv=>by rw[hod'];simp)).swp;have hsub:∀p∈À,p∈(S,v5 b o c)::(IA,oI')::À:=λp hp=>Ó _ (Ó _ hp);refine(show wpAny _ X.A.in1 (tryCatch (holding [u] (call (.ref q) [u])) _ >>= _) _ _ _ from wpAny_bind (wpAny_tryCatch (wpAny_holding (wpAny_mono (turn j v k u _ _ H1 hv hk ru sm hsub I1) (λx s2 he=>?_) λ_ _ hF=>hF.elim))));let⟨t,H2,rfl,sm2,I2⟩:=he;have smA:aI H0 H2:=sm.trans' sm2;have pS2:=I2.pin _ (Ý _ Ô);have new:cY (some (v,k)) ((vs.zip ks).drop (j+1))=cY none (vs.zip ks)->codeAny 'b' X.A (.builtin "min.loop" ⟨[.ref IA,.ref q,.ref S],[("default",dv)]⟩) R {s2 with heap:=s2.heap.update S (Obj.mapSeq λ_=>#[u,.int k t])}:=λhb=>by
   obtain⟨c2,hc2⟩:∃c2,(s2.heap.update S (Obj.mapSeq λ_=>#[u,.int k t])).get? S=some (v5 (some (v,k)) (some (u,t)) c2):=⟨_,get?_update_seq pS2.1 λ_=>#[u,.int k t]⟩;exact ih (j+1) _ H2 (some (v,k)) (some (u,t)) c2 oI' ∅ hlt hb ru smA hoc' hod' (I2.repin (t':=s2.toks) (mS' oI') (λb o hb e=>(Heap.get?_update_other _ _ (Í hb)).trans e) hc2 (λv=>by simp))
  cases o with
  |none=>
   cases b with
   |some m=>exact hbo.elim
   |none=>
    refine(show wpAny _ X.A.in1 (updateSeq S (λ_=>#[u,.int k t]) >>= _) _ _ _ from wpAny_bind (wpAny_updateSeq pS2.1 rfl ?_ (hz:=yI _ _) (_hz':=(by show 2<=sizeLine+1;decide))));rw[nm];exact wpAny_pure ⟨plainId_quiet F.plain_min_loop _,new hb⟩
  |some z=>
   cases b with
   |none=>exact hbo.elim
   |some m=>
    refine(show wpAny _ X.A.in1 (tryCatch (holding [u,.int k t] (richCompare .Lt (.int k t) (.int m.2 z.2) >>= _)) _ >>= _) _ _ _ from wpAny_bind (wpAny_tryCatch (wpAny_holding (wpAny_bind (aC5 ?_)))));refine wpAny_bind (wpAny_holding (wpAny_truthy_bool (wpAny_bind (wpAny_letGo (wpAny_pure ?_)))));have hb':cY (some (if k<m.2 then (v,k)else m)) ((vs.zip ks).drop (j+1))=cY none (vs.zip ks):=hb;by_cases hg:k<m.2
    .rw[Â hg]at hb'
     simp![hg,decide_true,if_true];refine wpAny_bind (wpAny_updateSeq pS2.1 rfl (wpAny_bind (wpAny_letGo ?_)) (hz:=yI _ _) (_hz':=(by show 2<=sizeLine+1;decide)));rw[nm];exact wpAny_pure ⟨plainId_quiet F.plain_min_loop _,new hb'⟩
    .rw[Ã hg]at hb'
     simp![hg,decide_false,Bool.false_eq_true,if_false];refine wpAny_bind (wpAny_letGo ?_);rw[nm];exact wpAny_pure ⟨plainId_quiet F.plain_min_loop _,ih (j+1) s2 H2 (some m) (some z) c oI' ∅ hlt hb' hbo smA hoc' hod' I2⟩
def RC{ks:ZK}(hlen:ks.length=vs.length)(hh:X.A.handled=none)(I:Inv X À σ H0 s)(hq:d8 X.K H0 l vs)(turn:∀(j:Nat)(v:V)(k:Int)(u:Value)(pins':ZB)(s:Shared)(H1:Hp),vs[j]?=some v->ks[j]?=some k->bH v u->aI H0 H1->(∀p∈À,p∈pins')->Inv X pins' σ H1 s ->
   wpAny 'b' X.A.in1 (call (.ref q) [u]) (λu' s'=>∃t H',u'=.int k t/\aI H1 H'/\Inv X pins' σ H' s') (λ_ _=>False) s)(done:∀u s' H1,(match cY none (vs.zip ks)with|none=>u=dv|some m=>bH m.1 u)->aI H0 H1->Inv X À σ H1 s'->Q u s'):
  wpAny 'b' X.A (call (.builtin "min") [.ref l] [("key",.ref q),("default",dv)]) Q E s:=by
 have nm:(toString "min"++toString ".loop":String)="min.loop":=by decide
 refine wpAny_call (codeAny_call_builtin F.plain_min F.entry_min ?_);simp![checkBuiltinCall,F.kind_min];let⟨its,rv,pl,hz⟩:=I.list hq;have hlt:l<s.heap.objs.size:=by
  let⟨o,n,e,_⟩:=pl;exact Heap.lt_size e
 have key:wpAny 'b' X.A.in1 (Builtin.«min» ⟨[.ref l],[("key",.ref q),("default",dv)]⟩) (λfin s'=>match fin with
   |.done f=>(match (Except.ok f:Result)with|.ok (.ret v)=>Q v s'|.ok _=>False|.error e=>E e s')
   |.again c'=>c'.quiet=true/\codeAny 'b' X.A c' (λr s'=>match r with|.ok (.ret v)=>Q v s'|.ok _=>False|.error e=>E e s') s') E s:=by
  refine(show wpAny _ X.A.in1 (Builtin.Builtins.bindParams "min" ["key","default"] 0 ⟨[],[("key",.ref q),("default",dv)]⟩ >>= _) _ _ s from wpAny_bind (wpAny_of_eq (show Builtin.Builtins.bindParams "min" ["key","default"] 0 ⟨[],[("key",.ref q),("default",dv)]⟩=pure [some (.ref q),some dv]from rfl) ?_));refine wpAny_bind (wpAny_pure (wpAny_bind (wpAny_pyIter_list pl.isList ?_)));refine wpAny_bind (wpAny_newObj_type ?_);rw[nm];have hS:(s.heap.push {cls:=.type "list_iterator",data:=.fields #[.ref l,.int 0 0]}).objs.size=s.heap.objs.size+1:=by rw[Heap.size_push]
  have I1:Inv X ((s.heap.objs.size,{cls:=.type "list_iterator",data:=.fields #[.ref l,.int 0 0]})::À) σ H0 {s with heap:=s.heap.push {cls:=.type "list_iterator",data:=.fields #[.ref l,.int 0 0]}}:=
   (I.kept (t':=s.toks) λb o e=>Heap.get?_push_of_some _ e).pinNew (Heap.get?_push_size _ rfl) (I.hok.fresh (È _)) (Þ I.lt) (I.nofs (È _)) (λv=>by simp)
  have mI:IC X À s.heap.objs.size:=I.mine (È _);have mS:IC X À (s.heap.push {cls:=.type "list_iterator",data:=.fields #[.ref l,.int 0 0]}).objs.size:=I.mine (by rw[hS];exact Nat.le_succ _);have I2:=(I1.kept (t':=s.toks) (h':=(s.heap.push {cls:=.type "list_iterator",data:=.fields #[.ref l,.int 0 0]}).push (v5 none none 0)) λb o e=>Heap.get?_push_of_some _ e).pinNew (a:=(s.heap.push {cls:=.type "list_iterator",data:=.fields #[.ref l,.int 0 0]}).objs.size) (Heap.get?_push_size _ rfl) (I1.hok.fresh (È _)) (Þ I1.lt) (I1.nofs (È _)) (λv=>by simp);refine wpAny_pure ⟨plainId_quiet F.plain_min_loop _,RB (H0:=H0) (dv:=dv) hlen hh turn (λH1 sm=>sm.seq hq) mI mS (λz=>Nat.succ_ne_self _ (hS.symm.trans z)) (Ð hlt) done _ 0 _ H0 none none 0 _ rfl (î _) (by rw[List.drop_zero]) trivial (λ_ _ e=>e) rfl rfl I2⟩
 have ha:=ID (.ref l) (.ref q) dv;cases hsig:Manifest.signature? "min"with
 |none=>exact wpAny_pure key
 |some sig=>
  simp![argsOk,hsig]at ha;have h2:Bind.checkArgs "min" sig ⟨[.ref l],[("key",.ref q),("default",dv)]⟩=pure ():=ha;refine(show wpAny _ X.A.in1 (Bind.checkArgs "min" sig ⟨[.ref l],[("key",.ref q),("default",dv)]⟩) _ _ s from ?_);rw[h2];exact wpAny_pure key
end
def iJ(hs:ZK):ZK->Option (ZK)
 |[]=>some []
 |n::ns=>match atI hs n,iJ hs ns with
  |some k,some ks=>some (k::ks)
  |_,_=>none
def yJ :∀{ns ks:ZK},iJ hs ns=some ks->ks.length=ns.length
 |[],ks,h=>by cases h;rfl
 |n::ns,ks,h=>by
  unfold iJ at h;split at h
  .rename_i k ks' _ e2
   cases h;simp[yJ e2]
  .cases h
def CI :∀{ns ks:ZK}{j:Nat}{n k:Int},iJ hs ns=some ks->ns[j]?=some n->ks[j]?=some k->atI hs n=some k
 |m::ns,ks,j,n,k,h,e1,e2=>by
  unfold iJ at h;split at h
  .rename_i k0 ks' q1 q2
   cases h;cases j with
   |zero=>cases e1;cases e2;exact q1
   |succ j=>exact CI q2 (by simpa using e1) (by simpa using e2)
  .cases h
def XA(h:atI hs n=some k):atI (hs.map V.int) n=some (.int k):=by
 unfold atI at h⊢;rw[Å];cases e:oJ hs.length n with
 |none=>rw[e]at h;cases h
 |some j=>
  rw[e]at h;have h:hs[j]?=some k:=h;show (hs.map V.int)[j]?=_;rw[Ò,h];rfl
def CJ:∀{ds:ZI}{l:ZK},cQ ds=some l->ds=l.map .int
 |[],l,h=>by cases h;rfl
 |.int i::r,l,h=>by
  unfold cQ at h;cases e:cQ r with
  |none=>rw[e]at h;cases h
  |some l'=>
   rw[e]at h;cases h;rw[CJ e];rfl
 |.none::_,_,h=>by cases h
 |.bool _::_,_,h=>by cases h
 |.str _::_,_,h=>by cases h
 |.list _::_,_,h=>by cases h
 |.tuple _::_,_,h=>by cases h
 |.dict _::_,_,h=>by cases h
def wL(i:Nat)(nm fld:Str)(f:M D):M D:=λδ=>(f δ).bind λd δ1=>match d,δ1[i]? with
 |.list ds,some (some t)=>(match gQ nm fld t with
  |some (.list hs)=>(match cQ hs,cQ ds with
   |some hs',some ns=>(match iJ hs' ns with
    |some ks=>.ok ((cY none (ns.zip ks)).elim .none λm=>.int m.1) δ1
    |none=>.stuck)
   |_,_=>.stuck)
  |_=>.stuck)
 |_,_=>.stuck
def u4(g:α->β):∀(o:Option (α×Int))(l:List (α×Int)),cY (o.map λm=>(g m.1,m.2)) (l.map λm=>(g m.1,m.2))=(cY o l).map λm=>(g m.1,m.2)
 |o,[]=>by rw[List.map_nil,oY,oY]
 |none,y::ys=>u4 g (some y) ys
 |some m,y::ys=>by
  have:=u4 g (some (if y.2<m.2 then y else m)) ys;rw[Ì];show cY (some (if y.2<m.2 then (g y.1,y.2)else (g m.1,m.2))) _=_;rw[show (cY (some m) (y::ys))=cY (some (if y.2<m.2 then y else m)) ys from rfl,<- this];congr 1;split<;>rfl
def XB{K:ZC}(h:d8 K H l vs)(hP:H P=some (tG pos))(hc:H c'=some (.own P)):d8 K (pT P c' H) l vs:=by
 rcases h with (h|⟨o,h⟩)|h
 .exact .inl (.inl (by rw[iU (λz=>by rw[z,hP]at h;cases h) (λz=>by rw[z,hc]at h;cases h)];exact h))
 .exact .inl (.inr ⟨o,by rw[iU (λz=>by rw[z,hP]at h;cases h) (λz=>by rw[z,hc]at h;cases h)];exact h⟩)
 .exact .inr h
section
def RD(i:Nat)(nm:Str){pm kp kp2 p1 p2 p3 p4 cpos npos:Pos}{jj:_}(hr:fD 0 X.A)(hc:X.calm=true)(hg:Gl X "min")(hm:X.mg "min"=none)(B:tF X.K X.mg X.base)(hl:jR X.K=some (c,P,pos))(hcode:X.env.code=.ref c)(hat:WM X.K nm fld)(ha:DE X Z ow 0 e f)(Sc:W6 scope p x)(hbind:∀(u pm':Value)(c':Addr)(ctv:Value),bindArgs (W.kla_fn "<lambda>" kX params (.Subscript (.Attribute (.Name x p1) fld p2) (.Name p p3) p4) scope [(x,cc)] pm' (.ref c') ctv) ⟨[u],[]⟩=pure [(p,u)])(hd1:(x == ("__debug__":Str))=false)(hd2:(x == ("__classdict__":Str))=false)(hd3:(p == ("__debug__":Str))=false)(hd4:(p == ("__classdict__":Str))=false)(hq:↥(X.env.qual++"<lambda>"=kX))(hcl:↥(closureFor scope X.env=pure [(x,cc)]))(hdef:↥(defaultsOf params X.env=([],[])))(ho:↥(ow.getD i 0=0))(hN:↥(X.N[i]?=some x))(hkd:↥(X.env.scope.names.lookup x=some .cell))(hxc:↥(X.env.cells.lookup x=some cc))(hs:↥(Zse e [] X.env))(hv:bootBuiltins "min"=some (.builtin "min"):=by decide +kernel):
  DE X Z ow 0 (.Call (.Name "min" npos) [e] [⟨some "key",.Lambda params (.Subscript (.Attribute (.Name x p1) fld p2) (.Name p p3) p4) scope pos,kp⟩,⟨some "default",.Constant .none jj pm,kp2⟩] cpos) (wL i nm fld f):=λÀ s σ H Q I h=>by
 let⟨F,δ,R,h⟩:=h;unfold wL at h;refine wpAny_Call_Name_kw (iE I hg hm hv ?_ ⋯ ⋯);have a1:backTo cpos (starEach [e] X.env)=(false,eval e X.env)::backTo cpos (starEach [] X.env):=by rw[hs];rfl
 have pre:M4 (tD X Z ow 0 f) ŉ σ H (λvs H1=>∃l ns F1 δ1 t hs' ks,vs=[.ref l]/\bZ X.K Z ow F1 H1 σ δ1/\d8 X.K F1 l (ns.map V.int)/\aI F F1/\δ1[i]?=some (some t)/\gQ nm fld t=some (.list (hs'.map .int))/\iJ hs' ns=some ks /\
   kD X Z ow 0 (.ok ((cY none (ns.zip ks)).elim .none λm=>.int m.1) δ1) F1 σ Q):=by
  sleep 1;cases e1:f δ with
  |stuck=>rw[e1]at h;exact h.elim
  |err y δ1=>rw[e1]at h;exact h
  |ok d δ1=>
   rw[e1]at h;simp![Res.bind]at h;intro v H1 F1 R1 s1;cases d with
   |list ds=>
    cases e2:δ1[i]? with
    |none=>rw[e2]at h;exact h.elim
    |some o=>
     cases o with
     |none=>rw[e2]at h;exact h.elim
     |some t=>
      rw[e2]at h;dsimp only at h;split at h
      .rename_i hs2 e3
       split at h
       .rename_i hs' ns e4 e5
        split at h
        .rename_i ks e6
         let⟨l,vs,rfl,hx,rx⟩:=jM R1.rep;rw[i8 e5 rx]at hx;have e7:hs2=hs'.map .int:=CJ e4;subst e7;exact⟨l,ns,F1,δ1,t,hs',ks,rfl,R1.rel,hx,s1,e2,e3,e6,h.mono s1 λ_ _ z=>z⟩
        .exact h.elim
       .exact h.elim
      .exact h.elim
   |_=>exact h.elim
 refine callWith_kw (cA ((dO ha iW hs) cpos À s σ H _ I pre) λus s1 zQ=>?_) a1 (by rw[a1];rfl) rfl rfl;let⟨vs,H1,I1,r,q⟩:=zQ;let⟨l,ns,F1,δ1,t,hs',ks,rfl,R1,hx,s1',ht,hf,hk,hQ⟩:=q;let⟨u',rfl,rx⟩:=pV r;cases rx;let⟨g,G⟩:=R1;have hP1:F1 P=some (tG pos):=G.f0.lm c P pos hl;have hP:H1 P=some (tG pos):=G.sub _ _ hP1;let⟨vt,ev,rt⟩:=G.slot i t ht;rw[ho]at rt;have rt:bE X.K F1 t vt:=rt;let⟨a,C,dx,fs,y,rfl,f1,f2,f3,f4⟩:=OI rt hf;let⟨lk,ws,rfl,hw,rw'⟩:=jM f4;have ew:=i8 i7 rw';subst ew;let⟨c1,c2⟩:=hat C f2;refine kws_cons (W5 I1 B hl hP hcode hq hcl hdef λfa c' ctv H2 s2 m=>kws_cons (Constant_none (kws_nil ?_)));let⟨oc,cvs,ct,e2,e3,I3⟩:=m.hide (λv=>by simp[W.kla_obj]);have up:∀{l:Addr}{vs:List V},d8 X.K F1 l vs->d8 X.K (pT P c' H2) l vs:=λh=>XB (m.same.seq (G.sub.seq h)) m.lm m.own;have upa:pT P c' H2 a=some (.ins C dx fs):=by
  have z:=m.same _ _ (G.sub _ _ f1);rw[iU (λq=>by rw[q,m.lm]at z;cases z) (λq=>by rw[q,m.own]at z;cases z)];exact z
 let⟨l1,l2,_⟩:=Sc.look;refine RC (vs:=ns.map V.int) (ks:=ks) (by rw[Å];exact yJ hk) (I1.ok.hd hc) I3 (up hx) (λj v k u pins' s' H' hv hkk ru sm hsub I'=>?_) λu s' H' hu sm I'=>?_
 .rw[Ò]at hv
  cases en:ns[j]? with
  |none=>rw[en]at hv;cases hv
  |some n=>
   rw[en]at hv;cases hv;have hkey:=XA (CI hk en hkk);refine W7 (p:=p) (k:=k) I' Sc hc hr I'.ok.frames (hsub _ Ô) (hsub _ (Ó _ Ô)) e2 e3 hN ev hkd hxc (hbind _ _ _ _) ru (GN sC (DJ (dA (i:=1) rfl (.inr (.inr l2)) hd1 hd2) rfl) (dA (i:=0) rfl (.inl l1) hd3 hd4) (λ_ _=>rfl)) ?_;exact⟨_,rfl,a,C,dx,fs,_,rfl,sm _ _ upa,c1,c2,f3,_,rfl,lk,hs'.map V.int,n,.int k,rfl,rfl,sm.seq (up hw),hkey,rfl,λ_ _ z=>z⟩
 .obtain⟨I4,sm4⟩:=m.show e2 e3 I' sm
  have G4:bZ X.K Z ow F1 (yH P c' pos H') σ δ1:=⟨g,G.grow sm4⟩;have ez:(ns.map V.int).zip ks=(ns.zip ks).map λm=>(V.int m.1,m.2):=by
   rw[List.zip_map_left];rfl
  rw[ez]at hu;have eb:=u4 V.int none (ns.zip ks);rw[Option.map_none]at eb;rw[eb]at hu;cases eb2:cY none (ns.zip ks)with
  |none=>
   rw[eb2]at hu hQ;subst hu;exact⟨.non,_,I4,rfl,hQ .non _ F1 (G4.x (by show bE X.K F1 .none .non;unfold bE;rfl)) (λ_ _ z=>z)⟩
  |some m2=>
   rw[eb2]at hu hQ;exact⟨.int m2.1,_,I4,hu,hQ (.int m2.1) _ F1 (G4.x (by show bE X.K F1 (.int m2.1) (.int m2.1);unfold bE;rfl)) (λ_ _ z=>z)⟩
end
def LR{K:ZC}{H:Hp}{a:Addr}{ns:ZK}{owp:ZH}{f:ZI->Res D}{x:Str}(hS:d8 K H a (ns.map V.int))(hf:f [.list (ns.map .int)]=.ok 'j' [])(hL:Ą K H)(h0:↥(owp.getD 0 0=0)):
  TD K [x] [] owp 0 f [.ref a] H (λv H'=>v=.bl true/\aI H H') (λ_ _ _=>False):=by
 refine⟨rfl,H,λ_=>none,[.list (ns.map .int)],hL,aI.refl _,rfl,λa i p e=>(by cases e),λi d v e1 e2=>?_,by rw[hf];exact λv H' F' g' T=>⟨jS (F:=F') (K:=K) T.ret,λb o e=>T.kept b o rfl e⟩⟩
 cases i with
 |zero=>
  cases e1;cases e2;rw[h0];show bE K H _ _;unfold bE;refine⟨a,ns.map V.int,rfl,hS,?_⟩;clear hS hf
  induction ns with
  |nil=>exact iX
  |cons n ns ih=>exact fU gJ ih
 |succ i=>simp at e1
def RE{K:ZC}{ns:ZK}{c PT:Addr}{pos:Pos}(KX:K.In s₁.heap)(hns:s₁.heap.Ns mainGlobals mg)(hb:s₁.heap.Ns builtinsNs mb)(hbb:∀x:Str,x≠"__name__"->mb x=bootBuiltins x)(hlim:s₁.heap.NoLimit)(hg:s₁.gens=#[])(ha:s₁.heap.get? a=some {cls:=.type "list",data:=.seq vs.toArray})(hi:IntsAre vs ns)(hl:ns.length<=sizeLine)(hr:fD k callerA)(hlam:jR K=some (c,PT,pos))(hcd:W.CodeHd s₁.heap c PT)(hPT:s₁.heap.get? PT=some (W.tabObj #[]))(hnt:W.noTabs K=true)(hbm:∃bm ob,mg "__builtins__"=some (.ref bm)/\bm≠builtinsNs/\s₁.heap.get? bm=some ob/\ob.cls=.type "module"/\ob.dict=some builtinsNs/\ob.data=.plain)(F:∀base:Heap,K.In base->base.Ns mainGlobals mg->tF K mg base->qO P w K mg base CX k fa fd [x] sp)(hbind:∀(s:Shared)(u:Value),BindsTo s fd ⟨[u],[]⟩ [(x,u)])(hsp:∀H:Hp,Ą K H->d8 K H a (ns.map V.int)->sp [.ref a] H (λv H'=>v=.bl true/\aI H H') λ_ _ _=>False)(hCX:∀H e s',CX [] H s₁ (λ_ _ _=>False) e s'->False):
  codeAny (model P w) callerA (.call (.ref fa) ⟨[.ref a],[]⟩) (λr s'=>r=.ok (.ret 'j')/\OldK s₁.heap s'.heap/\s'.os=s₁.os/\AllBare s'.gens) s₁:=by
 have rv:=BS hi;have lenV:=hi.length;have haP:a≠PT:=λz=>by rw[z,hPT]at ha;cases ha
 have hKP:K.lookup PT=none:=by
  cases q:K.lookup PT with
  |none=>rfl
  |some o=>
   have e:=KX PT o q;rw[hPT]at e;cases e;have h2:=í.mp hnt (PT,_) (W.mem_of_lookupK q);exact absurd (show false=true from h2) á
 have core:∀H:Hp,H PT=some (tG pos)->d8 K H a (ns.map V.int)->mZ P w H s₁.heap->(∀b u,H b=some u->(b=PT/\u=tG pos)\/(b=a/\u=.frz {cls:=.type "list",data:=.seq vs.toArray} (.lst (ns.map V.int))/\K.lookup a=none)) ->
   codeAny (model P w) callerA (.call (.ref fa) ⟨[.ref a],[]⟩) (λr s'=>r=.ok (.ret 'j')/\OldK s₁.heap s'.heap/\s'.os=s₁.os/\AllBare s'.gens) s₁:=by
  intro H hO hS hok hA;have base_of:∀{b:Addr}{o:Obj},s₁.heap.get? b=some o->H b=none->(AX s₁.heap H).get? b=some o:=λe n=>TN e n;have noA:∀{b:Addr}{o:Obj},s₁.heap.get? b=some o->(∀z,o.data≠.seq z 0)->o.cls≠.none->H b=none:=λ{b o}e d d2=>by
   cases q:H b with
   |none=>rfl
   |some u=>
    rcases hA b u q with ⟨rfl,_⟩|⟨rfl,_⟩
    .rw[hPT]at e;cases e;exact absurd rfl d2
    .rw[ha]at e;cases e;exact absurd rfl (d vs.toArray)
  have nsK:∀{b:Addr}{m:ZD},s₁.heap.Ns b m->(AX s₁.heap H).Ns b m:=λ{b m}⟨o,es,ep,e,d,r⟩=>⟨o,es,ep,base_of e (by
   cases q:H b with
   |none=>rfl
   |some u=>
    rcases hA b u q with ⟨rfl,_⟩|⟨rfl,_⟩
    .rw[hPT]at e;cases e;cases d
    .rw[ha]at e;cases e;cases d),d,r⟩
  have hKb:K.In (AX s₁.heap H):=λb o e=>base_of (KX b o e) (by
   cases q:H b with
   |none=>rfl
   |some u=>
    rcases hA b u q with ⟨rfl,_⟩|⟨rfl,_,z⟩
    .rw[hKP]at e;cases e
    .rw[z]at e;cases e)
  have hM:Mod K mg (AX s₁.heap H):=⟨hKb,nsK hns,⟨mb,nsK hb,hbb⟩,let ⟨mc,h1,h2⟩:=hlim;⟨mc,nsK h1,h2⟩⟩
  have hB:tF K mg (AX s₁.heap H):=by
   refine⟨?_,λc2 P2 pos2 e=>?_⟩
   .obtain⟨bm,ob,b1,b2,b3,b4,b5,b6⟩:=hbm
    exact⟨bm,ob,b1,b2,base_of b3 (noA b3 (λz=>by rw[b6];simp) (by rw[b4];simp)),b4,b5,b6⟩
   .rw[hlam]at e;cases e
    let⟨o,vs,file,tf,flags,tg,aPW,text,tt,e1,e2,e3,r⟩:=hcd;exact⟨o,vs,file,tf,flags,tg,aPW,text,tt,base_of e1 (noA e1 (λz=>by rw[e3];simp) (by rw[e2];simp)),e2,e3,r⟩
  have e0:KZ P w K mg (AX s₁.heap H) callerA [] s₁ H:=⟨rfl,hM,λb o e=>aAV e,ù (QA _ _),trivial,λb hb=>absurd (show b∈([]:ZM)from hb) 'e',hok,.of_eq hg⟩;have hLm:Ą K H:=λc2 P2 pos2 e=>by rw[hlam]at e;cases e;exact hO
  refine codeAny_mono ((F _ hKb (nsK hns) hB).run callerA [] s₁ H ⟨[.ref a],[]⟩ [.ref a] [.ref a] _ _ hr e0 (hbind s₁ (.ref a)) (.cons rfl .nil) (hsp H hLm hS)) λr s' h=>?_;cases r with
  |error e=>exact(hCX H e s' h).elim
  |ok fl=>
   cases fl with
   |next=>exact False.elim h
   |brk=>exact False.elim h
   |cont=>exact False.elim h
   |ret u=>
    let⟨v,H',os,bare,un,hok',r',q⟩:=h;let⟨q',sm⟩:=q;subst q';obtain rfl:u=Value.bool true:=r';refine⟨rfl,⟨λb o e=>?_,λb o e=>un.there b o e 'e'⟩,os,bare⟩;cases q:H b with
    |none=>exact .inl (un.keep b o e q (by intro z;exact absurd (show b∈([]:ZM)from z) 'e') 'e')
    |some u=>
     rcases hA b u q with ⟨rfl,rfl⟩|⟨rfl,rfl,_⟩
     .rw[hPT]at e;cases e
      let⟨ps,e1,_⟩:=hok' _ _ (sm _ _ q);exact .inr (.inl ⟨(hcd.tab hPT).isCodeTable,rfl,#[],ps,rfl,by rw[e1];simp⟩)
     .obtain⟨e2,_⟩:=hok' _ _ (sm _ _ q)
      rw[ha]at e;cases e;exact .inl e2
 cases hk:K.lookup a with
 |some o=>
  have e:=KX a o hk;rw[ha]at e;cases e;refine core (λb=>if b=PT then some (tG pos)else none) (Â rfl) (.inr ⟨_,vs.toArray,_,hk,rfl,rfl,rfl,by rw[é,lenV];exact hl,by simpa using rv⟩) (λb u z=>?_) λb u z=>?_
  .by_cases hb:b=PT
   .have z':=(Â hb).symm.trans z
    cases z';subst hb;exact⟨_,hPT,.inl rfl⟩
   .have z':=(Ã hb).symm.trans z
    cases z'
  .by_cases hb:b=PT
   .have z':=(Â hb).symm.trans z
    cases z';exact .inl ⟨hb,rfl⟩
   .have z':=(Ã hb).symm.trans z
    cases z'
 |none=>
  have eq1:∀b u,(if b=PT then some (tG pos)else if b=a then some (HO.frz {cls:=.type "list",data:=.seq vs.toArray} (.lst (ns.map V.int)))else none)=some u->(b=PT/\u=tG pos)\/(b=a/\u=.frz {cls:=.type "list",data:=.seq vs.toArray} (.lst (ns.map V.int))):=λb u z=>by
   split at z
   .rename_i h;cases z;exact .inl ⟨h,rfl⟩
   .split at z
    .rename_i h;cases z;exact .inr ⟨h,rfl⟩
    .cases z
  refine core (λb=>if b=PT then some (tG pos)else if b=a then some (.frz {cls:=.type "list",data:=.seq vs.toArray} (.lst (ns.map V.int)))else none) (Â rfl) (.inl (.inr ⟨{cls:=.type "list",data:=.seq vs.toArray},by dsimp only;rw[Ã haP,Â rfl]⟩)) (λb u z=>?_) λb u z=>?_
  .rcases eq1 b u z with ⟨rfl,rfl⟩|⟨rfl,rfl⟩
   .exact⟨_,hPT,.inl rfl⟩
   .exact⟨ha,by rw[Å];exact hl,vs,_,rv,ha⟩
  .rcases eq1 b u z with h|⟨h1,h2⟩
   .exact .inl h
   .exact .inr ⟨h1,h2,hk⟩
def RF{K:ZC}(h:jR K=some (c,P,pos)):W.tabIn K m9=some (c,P):=by
 unfold jR at h;split at h
 .split at h
  .split at h
   .rename_i e
    split at h
    .cases h;exact e
    .cases h
   .cases h
  .cases h
 .cases h
def walk_ofL{l:W.OpenLaw}{n k:Nat}{q:Program}{loose:ZG}{XP:(ZD)->Heap->Prop}{YP:World->Heap->Prop}{d dl:DefRec}{K:Params->ZC}{CX:World->S9}{sp:World->Sp}{x:Str}(hn:l.most=some n)(hn2:n<=sizeLine)(hdf:d.params.defaults=[])(hr:fD k callerA)(hY:∀(w:World)(h:Heap),YP w h->(K w.params).In h)(hrec:(recsOf q).find? (λe=>e.name == m9)=some dl)(F:∀(w:World)(mg:ZD)(fa:Addr)(h:Heap),(K w.params).In h->h.Ns mainGlobals mg->mg d.name=some (.ref fa) ->
   (W.noTabs (K w.params)=true/\∃c P pos,jR (K w.params)=some (c,P,pos))/\∃fd:FuncData,(∀(s:Shared)(u:Value),BindsTo s fd ⟨[u],[]⟩ [(x,u)]) /\
    ∀base:Heap,(K w.params).In base->base.Ns mainGlobals mg->tF (K w.params) mg base->qO l.prog w (K w.params) mg base (CX w) k fa fd [x] (sp w))(hsp:∀(w:World)(H:Hp)(a:Addr)(ns:ZK),ns.length<=n->Ą (K w.params) H->d8 (K w.params) H a (ns.map V.int)->sp w [.ref a] H (λv H'=>v=.bl true/\aI H H') λ_ _ _=>False)(hCX:∀(w:World)(H:Hp)(s:Shared)(e:Value)(s':Shared),CX w [] H s (λ_ _ _=>False) e s'->False):
  W.WalkO q loose XP YP l.row.toRowW d [] (λf vs=>PySem.call f vs):=by
 refine Att.attach_call hn hdf λw s₀ s₁ mg mb fa o pm cd doc a vs ns G Y ho hd hcd hmg hobj hints hlen hg=>?_;have KX:=hY w _ Y;let⟨⟨hnt,c,P,pos,hlam⟩,fd,hb,hF⟩:=F w mg fa _ KX G.T.g hmg;let⟨t1,t2⟩:=W.tab_of G.T KX hrec (RF hlam);exact RE KX G.T.g G.T.b G.T.builtins G.T.nolimit hg hobj hints (Ü hlen hn2) hr hlam t1 t2 hnt G.T.bmain hF hb (λH hO hS=>hsp w H a ns hlen hO hS) λH e s'=>hCX w H s₁ e s'
def XC(s:Stmt)(k:Nat):Stmt:=match s with
 |.ClassDef _ _ _ b _ _ _ _ _ _ _=>b.getD k (.Pass ⟨0,0,0,0⟩)
 |s=>s
def yK{K:ZC}(n:W.nsIn K mainGlobals nm=some (some (.ref C)))(c:S8 K C)(h:lR K C f):WM K nm f:=λC' e=>by
 rw[n]at e;cases e;exact⟨c,h⟩
def XD{K:ZC}(a:W.nsIn K mainGlobals m9=some (some (.ref f)))(l:K.lookup f=some ⟨oc,od,.func fd,sl⟩)(hb:fd.body=.stmts b)(t:W.tabIn K m9=some (c,P))(hp:DX b=some pos):jR K=some (c,P,pos):=by
 unfold jR;rw[a];dsimp only;rw[l];dsimp only;rw[hb,t];dsimp only;rw[hp]
def XE{K:ZC}(a:W.nsIn K mainGlobals x=some (some (.ref f)))(l:K.lookup f=some ⟨oc,od,.func fd,sl⟩)(e:fd.code=.ref c)(lk:K.lookup c=some ⟨coc,cod,.fields cvs,csl⟩)(lv:(cvs[11]?:ZN)=some (.ref P)):W.tabIn K x=some (c,P):=by
 unfold W.tabIn;rw[a];dsimp only;rw[l];dsimp only;rw[e];dsimp only;rw[lk];dsimp only;rw[lv]
def XF{K:ZC}{st:Stmt}(a:W.nsIn K mainGlobals m9=some (some (.ref f)))(F:TB K x q st f fd)(e:fd.code=.ref c)(lk:K.lookup c=some ⟨coc,cod,.fields cvs,csl⟩)(lv:(cvs[11]?:ZN)=some (.ref P))(hp:DX (dQ st)=some pos):jR K=some (c,P,pos):=by
 let⟨oc,od,kV,doc,pm,an,cdv,ct,osl,e1,l,_⟩:=F.ex;exact XD a l (by rw[e1]) (XE a l e lk lv) hp
end L2
namespace L2
open PySem PySem.Spec
def CK(c:Nat)(nm f:Str):D->ZL
 |.dict ((.none,.str n)::Á)=>if n=nm/\ch c (pO f Á)=0 then mB f Á else none
 |_=>none
def nM(c n:Nat)(nm f:Str)(y:D):D->ZL
 |.dict ((.none,.str m)::Á)=>if m=nm/\ch c (pO f Á)=n/\Á.length<1000 then some (.dict ((.none,.str m)::qC f y Á))else none
 |_=>none
def yL(c:Nat)(nm f:Str)(k v:D):D->ZL
 |.dict ((.none,.str m)::Á)=>if m=nm/\ch c (pO f Á)=1 then (match mB f Á,k with
  |some (.list ds),.int k=>(match oJ ds.length k with
   |some j=>some (.dict ((.none,.str m)::qC f (.list (ds.set j v)) Á))
   |none=>none)
  |_,_=>none)else none
 |_=>none
def yM(nm m:Str):D->Prop
 |.dict ((.none,.str n)::Á)=>n=nm/\mB m Á=none
 |_=>False
def XG(o:Option (ZI))(nm:Str)(fn:ZI->Res D)(δ:DS)(Q:D->ZO)(_w:Wt Q:=⟨⟩):Prop:=∃ds d,o=some ds/\fn (dH nm [] []::ds)=.ok .none [some d]/\Q d δ
def yN(k v:D):D->ZL
 |.dict Á=>(match dG k with
  |some ky=>if Á.length<sizeLine then some (.dict (LQ ky v Á))else none
  |none=>none)
 |_=>none
def dctD':D->Bool
 |.dict Á=>Á.all λkv=>(dG kv.1).isSome
 |_=>false
def OS(x k z:D):ZL:=match x with
 |.dict Á=>(match dG k with
  |some ky=>some ((jV ky Á).getD z)
  |none=>none)
 |_=>none
def IE(nm fld:Str)(d t:D):ZL:=match d with
 |.list ds=>(match gQ nm fld t with
  |some (.list hs)=>(match cQ hs,cQ ds with
   |some hs',some ns=>(match iJ hs' ns with
    |some ks=>some ((cY none (ns.zip ks)).elim .none λm=>.int m.1)
    |none=>none)
   |_,_=>none)
  |_=>none)
 |_=>none
def į(ds:ZI):ZL:=match kY ds with
 |some (lo,n)=>if n<=sizeLine then some (.list (jL lo n))else none
 |none=>none
section
def aC6:HR i c nm f δ=(match δ[i]? with
 |some (some d)=>(match CK c nm f d with
  |some r=>Res.ok r δ
  |none=>.stuck)
 |_=>.stuck):=by
 unfold HR;cases δ[i]? with
 |none=>rfl
 |some o=>
  cases o with
  |none=>rfl
  |some d=>
   cases d<;>try rfl
   rename_i Á;cases Á with
   |nil=>rfl
   |cons kv Á=>
    let⟨k,v⟩:=kv;cases k<;>try rfl
    cases v<;>try rfl
    rename_i x;show _=(match (if x=nm/\ch c (pO f Á)=0 then mB f Á else none)with|some r=>Res.ok r δ|none=>.stuck);dsimp only;by_cases h:x=nm/\ch c (pO f Á)=0
    .rw[Â h,Â h]
     try (cases mB f Á<;>rfl)
    .rw[Ã h,Ã h]
def EW:aU (HR i c nm f) δ Q=gO δ[i]? δ λd δ=>v4 (CK c nm f d) δ Q:=by
 unfold aU gO v4;rw[aC6];cases δ[i]? with
 |none=>rfl
 |some o=>
  cases o with
  |none=>rfl
  |some d=>
   dsimp only;cases CK c nm f d with
   |none=>rfl
   |some r=>rfl
def aC7:sW i c n nm f fe δ=(fe δ).bind λy δ1=>(match δ1[i]? with
 |some (some d)=>(match nM c n nm f y d with
  |some r=>Res.ok Fl.next (δ1.set i (some r))
  |none=>.stuck)
 |_=>.stuck):=by
 unfold sW;congr 1;funext y δ1;cases δ1[i]? with
 |none=>rfl
 |some o=>
  cases o with
  |none=>rfl
  |some d=>
   cases d<;>try rfl
   rename_i Á;cases Á with
   |nil=>rfl
   |cons kv Á=>
    let⟨k,v⟩:=kv;cases k<;>try rfl
    cases v<;>try rfl
    rename_i x;show _=(match (if x=nm/\ch c (pO f Á)=n/\Á.length<1000 then some (PyData.dict ((.none,.str x)::qC f y Á))else none)with|some r=>Res.ok Fl.next (δ1.set i (some r))|none=>.stuck);dsimp only;by_cases h:x=nm/\ch c (pO f Á)=n/\Á.length<1000
    .rw[Â h,Â h]
    .rw[Ã h,Ã h]
def yO:bN (sW i c n nm f fe) δ N B C R=aU fe δ λy δ1=>gO δ1[i]? δ1 λd δ1=>v4 (nM c n nm f y d) δ1 λd' δ1=>N (δ1.set i (some d')):=by
 unfold bN aU gO v4;rw[aC7];cases fe δ with
 |stuck=>rfl
 |err x d=>rfl
 |ok y δ1=>
  dsimp![Res.bind];cases δ1[i]? with
  |none=>rfl
  |some o=>
   cases o with
   |none=>rfl
   |some d=>
    dsimp only;cases nM c n nm f y d with
    |none=>rfl
    |some r=>rfl
def aC8:sX i c nm f fk fv δ=(fv δ).bind λv δ1=>(match fk δ1 with
 |.ok k _=>(match δ1[i]? with
  |some (some d)=>(match yL c nm f k v d with
   |some r=>Res.ok Fl.next (δ1.set i (some r))
   |none=>.stuck)
  |_=>.stuck)
 |_=>.stuck):=by
 unfold sX;congr 1;funext v δ1;have dead:∀(o:Option (ZL))(rk:Res D),(∀k dd,rk≠.ok k dd)->(match o,rk with
  |some (some (.dict ((.none,.str m)::Á))),.ok (.int k) _=>if m=nm/\ch c (pO f Á)=1 then (match mB f Á with
   |some (.list ds)=>(match oJ ds.length k with
    |some j=>Res.ok Fl.next (δ1.set i (some (.dict ((.none,.str m)::qC f (.list (ds.set j v)) Á))))
    |none=>.stuck)
   |_=>.stuck)else .stuck
  |_,_=>(Res.stuck:Res Fl))=.stuck:=λo rk h=>by
  split
  .exact absurd rfl (h _ _)
  .rfl
 cases e:fk δ1 with
 |stuck=>exact dead _ _ (λ_ _ z=>by cases z)
 |err x dd=>exact dead _ _ (λ_ _ z=>by cases z)
 |ok kk dd=>
  cases δ1[i]? with
  |none=>rfl
  |some o=>
   cases o with
   |none=>rfl
   |some d=>
    cases d<;>try rfl
    rename_i Á;cases Á with
    |nil=>rfl
    |cons kv Á=>
     let⟨k,w⟩:=kv;cases k<;>try rfl
     cases w<;>try rfl
     rename_i x;show _=(match (if x=nm/\ch c (pO f Á)=1 then (match mB f Á,kk with
      |some (.list ds),.int k=>(match oJ ds.length k with
       |some j=>some (PyData.dict ((.none,.str x)::qC f (.list (ds.set j v)) Á))
       |none=>none)
      |_,_=>none)else none)with
      |some r=>Res.ok Fl.next (δ1.set i (some r))
      |none=>.stuck)
     by_cases h:x=nm/\ch c (pO f Á)=1
     .rw[Â h]
      cases kk with
      |int k=>
       dsimp only;rw[Â h];cases mB f Á with
       |none=>rfl
       |some r=>
        cases r with
        |list ds=>
         dsimp only;cases oJ ds.length k<;>rfl
        |_=>rfl
      |_=>
       dsimp only;cases mB f Á with
       |none=>rfl
       |some r=>cases r<;>rfl
     .rw[Ã h]
      cases kk with
      |int k=>dsimp only;rw[Ã h]
      |_=>rfl
def XH:bN (sX i c nm f fk fv) δ N B C R=aU fv δ λv δ1=>aU fk δ1 λk _=>gO δ1[i]? δ1 λd δ1=>v4 (yL c nm f k v d) δ1 λd' δ1=>N (δ1.set i (some d')):=by
 unfold bN aU gO v4;rw[aC8];cases fv δ with
 |stuck=>rfl
 |err x d=>rfl
 |ok y δ1=>
  dsimp![Res.bind];cases fk δ1 with
  |stuck=>rfl
  |err x d=>rfl
  |ok k δ2=>
   dsimp only;cases δ1[i]? with
   |none=>rfl
   |some o=>
    cases o with
    |none=>rfl
    |some d=>
     dsimp only;cases yL c nm f k y d with
     |none=>rfl
     |some r=>rfl
def EY:xZ i nm m fn as δ=(match δ[i]? with
 |some (some d)=>open Classical in if yM nm m d then iZ fn (.own i::as) δ else .stuck
 |_=>.stuck):=by
 unfold xZ;cases δ[i]? with
 |none=>rfl
 |some o=>
  cases o with
  |none=>rfl
  |some d=>
   cases d<;>try (exact(Ã (λz:False=>z)).symm)
   rename_i Á;cases Á with
   |nil=>exact(Ã (λz:False=>z)).symm
   |cons kv Á=>
    let⟨k,w⟩:=kv;cases k<;>try (exact(Ã (λz:False=>z)).symm)
    cases w<;>try (exact(Ã (λz:False=>z)).symm)
    rename_i x;dsimp only;by_cases h:x=nm/\mB m Á=none
    .rw[Â h,Â (show yM nm m (.dict ((.none,.str x)::Á))from h)]
    .rw[Ã h,Ã (show ¬yM nm m (.dict ((.none,.str x)::Á))from h)]
def aJD:aU (xZ i nm m fn as) δ Q=gO δ[i]? δ λd δ=>yM nm m d/\aU (iZ fn (.own i::as)) δ Q:=by
 rw[l9];unfold EM;cases e:δ[i]? with
 |none=>unfold aU;rw[EY,e];simp
 |some o=>
  cases o with
  |none=>unfold aU;rw[EY,e];simp
  |some d=>
   simp![Option.some.injEq,exists_eq_left'];unfold aU;rw[EY,e];dsimp only;by_cases h:yM nm m d
   .rw[Â h];simp[h]
   .rw[Ã h];simp[h]
def aJE:aU (HU m0 nm fn as) δ Q=aU (dJ as) δ λods δ1=>δ1.length=m0/\XG (eZ δ1 as ods) nm fn δ1 Q:=by
 unfold aU HU XG;cases dJ as δ with
 |stuck=>rfl
 |err x d=>rfl
 |ok ods δ1=>
  simp![Res.bind];by_cases h:δ1.length=m0
  .rw[Â h]
   simp![h,true_and];cases eZ δ1 as ods with
   |none=>simp
   |some ds=>
    simp![Option.some.injEq,exists_and_left,exists_eq_left'];cases e:fn (dH nm [] []::ds)with
    |stuck=>simp
    |err x os=>
     simp![reduceCtorEq,false_and,exists_false];split
     .rename_i z
      split at z
      .rename_i y;cases y
      .cases z
      .cases z
     .rfl
    |ok d os=>
     refine propext ⟨λz=>?_,λ⟨d2,z,q⟩=>?_⟩
     .split at z
      .rename_i y
       split at y
       .rename_i y2;cases y2;cases y;exact⟨_,rfl,z⟩
       .rename_i y2;cases y2
       .cases y
      .exact z.elim
     .cases z;exact q
  .rw[Ã h];simp[h]
def yP:bN (ON i fk fv) δ N B C R=aU fv δ λv δ1=>gO δ1[i]? δ1 λ_ δ1=>aU fk δ1 λk δ2=>gO δ2[i]? δ2 λd δ2=>v4 (yN k v d) δ2 λd' δ2=>N (δ2.set i (some d')):=by
 rw[l9,jA];unfold bN ON aU EM TJ;cases fv δ with
 |stuck=>rfl
 |err x d=>rfl
 |ok v δ1=>
  simp![Res.bind];cases δ1[i]? with
  |none=>simp
  |some o=>
   cases o with
   |none=>simp
   |some d0=>
    simp![Option.some.injEq,exists_eq_left'];cases fk δ1 with
    |stuck=>rfl
    |err x d=>rfl
    |ok k δ2=>
     simp![Res.bind];cases δ2[i]? with
     |none=>simp
     |some o=>
      cases o with
      |none=>simp
      |some d=>
       simp![Option.some.injEq,exists_eq_left'];unfold yN;cases d with
       |dict Á=>
        dsimp only;cases dG k with
        |none=>simp
        |some ky=>
         dsimp only;by_cases h:Á.length<sizeLine
         .rw[Â h];simp[h]
         .rw[Ã h];simp[h]
       |_=>simp
def XI:aU (OO fx fk fz) δ Q=aU fx δ λx δ1=>dctD' x=true/\aU fk δ1 λk δ2=>aU fz δ2 λz δ3=>v4 (OS x k z) δ3 Q:=by
 unfold aU OO v4;cases fx δ with
 |stuck=>rfl
 |err x d=>rfl
 |ok x δ1=>
  dsimp![Res.bind];cases x with
  |dict Á=>
   dsimp![dctD',OS];by_cases h:(Á.all λkv=>(dG kv.1).isSome)=true
   .rw[Â h]
    simp![h,true_and];cases fk δ1 with
    |stuck=>rfl
    |err x d=>rfl
    |ok k δ2=>
     dsimp![Res.bind];cases fz δ2 with
     |stuck=>rfl
     |err x d=>rfl
     |ok z δ3=>
      dsimp![Res.bind];cases dG k with
      |none=>rfl
      |some ky=>rfl
   .rw[Ã h];simp[h]
  |_=>simp[dctD']
def XJ:aU (wL i nm f fe) δ Q=aU fe δ λd δ1=>gO δ1[i]? δ1 λt δ1=>v4 (IE nm f d t) δ1 Q:=by
 rw[l9,jA];unfold aU wL EM TJ;cases fe δ with
 |stuck=>rfl
 |err x d=>rfl
 |ok d δ1=>
  simp![Res.bind];cases d with
  |list ds=>
   cases δ1[i]? with
   |none=>simp
   |some o=>
    cases o with
    |none=>simp
    |some t=>
     simp![Option.some.injEq,exists_eq_left'];unfold IE;dsimp only;cases gQ nm f t with
     |none=>simp
     |some r=>
      cases r with
      |list hs=>
       dsimp only;cases cQ hs with
       |none=>simp
       |some hs'=>
        cases cQ ds with
        |none=>simp
        |some ns=>
         dsimp only;cases iJ hs' ns with
         |none=>simp
         |some ks=>simp
      |_=>simp
  |_=>simp[IE]
def aJF:aU (CH fs) δ Q=aU (bB fs) δ λds δ1=>v4 (į ds) δ1 Q:=by
 rw[jA];unfold aU CH TJ į;cases bB fs δ with
 |stuck=>rfl
 |err x d=>rfl
 |ok ds δ1=>
  simp![Res.bind];cases kY ds with
  |none=>simp
  |some p=>
   let⟨lo,n⟩:=p;dsimp only;by_cases h:n<=sizeLine
   .rw[Â h];simp[h]
   .rw[Ã h];simp[h]
def RH(d:D)(δ:DS)(Q:D->ZO)(_w:Wt Q:=⟨⟩):Prop:=(LI d).isSome=true/\Q d δ
def yQ:aU (QW fe) δ Q=aU fe δ λd _=>RH d δ Q:=by
 unfold aU QW RH;cases fe δ with
 |stuck=>rfl
 |err x d=>rfl
 |ok d δ1=>
  dsimp only;cases LI d with
  |none=>simp
  |some v=>simp
def XL{i:Int}:RH (.int i) δ Q=Q (.int i) δ:=by unfold RH;simp[LI]
def aJG:RH .none δ Q=Q .none δ:=by unfold RH;simp[LI]
end
end L2
namespace PySem
namespace F
end F
section
end
end PySem
namespace L2
open PySem PySem.Spec PyProof.Rows
section
end
def Ť{P:ZJ->Prop}{us:ZJ}{n:Nat}(hl:us.length=n+1)(h:∀x xs,xs.length=n->P (x::xs)):P us:=by
 cases us with
 |nil=>cases hl
 |cons x xs=>exact h x xs (Nat.succ.inj hl)
def aQL{P:ZJ->Prop}{us:ZJ}(hl:us.length=0)(h:P []):P us:=by
 rw[List.length_eq_zero_iff.mp hl];exact h
def aPX{P:ZJ->Prop}{us:ZJ}(hl:us.length=1)(h:∀a,P [a]):P us:=Ť hl λa _ hl=>aQL (P:=λus=>P (a::us)) hl (h a)
def aPY{P:ZJ->Prop}{us:ZJ}(hl:us.length=2)(h:∀a b,P [a,b]):P us:=Ť hl λa _ hl=>aPX (P:=λus=>P (a::us)) hl (h a)
def aPZ{P:ZJ->Prop}{us:ZJ}(hl:us.length=3)(h:∀a b c,P [a,b,c]):P us:=Ť hl λa _ hl=>aPY (P:=λus=>P (a::us)) hl (h a)
def aQM{P:ZJ->Prop}{us:ZJ}(hl:us.length=4)(h:∀a b c d,P [a,b,c,d]):P us:=Ť hl λa _ hl=>aPZ (P:=λus=>P (a::us)) hl (h a)
def aP0{ps:ZG}(hl:us.length=1)(h:∀a,bindArgs fd ⟨[a],[]⟩=pure (ps.zip [a])):bindArgs fd ⟨us,[]⟩=pure (ps.zip us):=aPX (P:=λus=>bindArgs fd ⟨us,[]⟩=pure (ps.zip us)) hl h
def aP1{ps:ZG}(hl:us.length=2)(h:∀a b,bindArgs fd ⟨[a,b],[]⟩=pure (ps.zip [a,b])):bindArgs fd ⟨us,[]⟩=pure (ps.zip us):=aPY (P:=λus=>bindArgs fd ⟨us,[]⟩=pure (ps.zip us)) hl h
def aP2{ps:ZG}(hl:us.length=3)(h:∀a b c,bindArgs fd ⟨[a,b,c],[]⟩=pure (ps.zip [a,b,c])):bindArgs fd ⟨us,[]⟩=pure (ps.zip us):=aPZ (P:=λus=>bindArgs fd ⟨us,[]⟩=pure (ps.zip us)) hl h
def aP3{ps:ZG}(hl:us.length=4)(h:∀a b c d,bindArgs fd ⟨[a,b,c,d],[]⟩=pure (ps.zip [a,b,c,d])):bindArgs fd ⟨us,[]⟩=pure (ps.zip us):=aQM (P:=λus=>bindArgs fd ⟨us,[]⟩=pure (ps.zip us)) hl h
section
variable {P:Program}{w:World}{K:ZC}{mg:ZD}{base:Heap}{x qual:Str}{st:Stmt}{N:ZG}{k lev rm:Nat}{ps owp:ZH}{body:M Fl}
structure Fd(K:ZC)(x qual:Str)(st:Stmt)(N:ZG)(k:Nat) where
 f:Addr
 fd:FuncData
 F:TB K x qual st f fd
 b:pW K fd (N.take k) []
structure Fg(K:ZC)(mg:ZD)(x:Str)(st:Stmt)(N:ZG)(k:Nat) extends Fd K x x st N k where
 m:mg x=some (.ref f)
abbrev Fd.Ok(X:Fd K x qual st N k)(P:Program)(w:World)(mg:ZD)(base:Heap)(lev:Nat)(ps owp:ZH)(rm:Nat)(d:ZI->Res D):Prop:=qO P w K mg base (A0 P w K) lev X.f X.fd (N.take k) (TD K (N.take k) ps owp rm d)
def Fd.okD(X:Fd K x qual st N k)(S:jQ N (N.take k) (bD st))(hb:∀{cdv:Value}{A:Around}{outer:List Env}{s:Shared}{H:Hp}{E:XK}{F0:Hp}{g0:ZP}{σ0:St}{wf:∀a i q,g0 a=some (i,q)->i∈ps}(_:X.fd.code=cdv)(_:fD lev (A.deeper (envOfC qual (bD st) s.heap.objs.size X.f cdv))),
   BU (qP (A0 P w K) P w K mg base N qual (bD st) X.f cdv A outer s H E) ⟨F0,H,g0,ps,σ0,owp,wf⟩ owp owp owp owp rm (dQ st) body)(hN:↥(owp.length=N.length)):X.Ok P w mg base (lev+1) ps owp rm (aR N.length ps rm body):=
 X.F.okD S hN λ_ hcd _ _ _ _ _ _ _ _ _ hr=>⟨owp,hb hcd hr⟩
def Fd.okE(X:Fd K x qual st N k)(owe:ZH)(S:jQ N (N.take k) (bD st))(hb:∀{cdv:Value}{A:Around}{outer:List Env}{s:Shared}{H:Hp}{E:XK}{F0:Hp}{g0:ZP}{σ0:St}{wf:∀a i q,g0 a=some (i,q)->i∈ps}(_:X.fd.code=cdv)(_:fD lev (A.deeper (envOfC qual (bD st) s.heap.objs.size X.f cdv))),
   BU (qP (A0 P w K) P w K mg base N qual (bD st) X.f cdv A outer s H E) ⟨F0,H,g0,ps,σ0,owp,wf⟩ owp owe owe owe rm (dQ st) body)(hN:↥(owp.length=N.length)):X.Ok P w mg base (lev+1) ps owp rm (aR N.length ps rm body):=
 X.F.okD S hN λ_ hcd _ _ _ _ _ _ _ _ _ hr=>⟨owe,hb hcd hr⟩
def Ľ(N:ZG)(k:Nat)(sc:Scope):Bool:=(match sc.kind with|.function=>true|_=>false) && !sc.isCoroutine && !sc.isGenerator && decide N.Nodup && (N.take k).all (λx=>match sc.names.lookup x with|some .local=>true|some .cell=>true|_=>false) && sc.names.all (λy=>match y.2 with|.free=>false|_=>true)
def IF(h:Ľ N k sc=true):jQ N (N.take k) sc:=by
 unfold Ľ at h;simp![æ,Bool.not_eq_true',decide_eq_true_eq,í]at h;let⟨⟨⟨⟨⟨h1,h2⟩,h3⟩,h4⟩,h5⟩,h6⟩:=h;refine⟨?_,h2,h3,h4,?_,λx hx=>?_,λy hy e=>?_⟩
 all_goals grind
def aMG{h:Heap}{f:Addr}{oc:Value}{od an:Option Addr}{osl:Array (ZN)}{kV doc pm cdv ct:Value}(X:K.In h)(G:h.Ns mainGlobals mg)(a:W.nsIn K mainGlobals x=some (some (.ref f)))(l:K.lookup f=some ⟨oc,od,.func (W.fnOf x x (oM st) (dQ st) (bD st) .none kV doc pm an cdv ct),osl⟩)(c:W.codeIn K cdv x=true)(k':W.keepIn K (.ref f)=true)(hb:∀(kV doc pm:Value)(an:Option Addr)(cdv ct:Value)(us:ZJ),us.length=(N.take k).length->bindArgs (W.fnOf x x (oM st) (dQ st) (bD st) .none kV doc pm an cdv ct) ⟨us,[]⟩=pure ((N.take k).zip us)):(Fg K mg x st N k):=
 ⟨⟨f,_,K6 l c k',(K6 l c k').binds hb⟩,W.mg_of X G a⟩
def OT(X:K.In h)(G:h.Ns mainGlobals mg)(a:W.nsIn K mainGlobals x=some (some (.int v t))):∃t,mg x=some (.int v t):=⟨t,W.mg_of X G a⟩
def aB{pos p:Pos}(Y:Fg X.K X.mg x st N k)(Fk:Y.Ok X.prog X.w X.mg X.base lev ps owp rm fn)(hr:fD k1 X.A)(ha:DA X Z ow (e::es) as)(hk:⇑(lev<=k1))(S:aP Z ow:=by exact aG)(hg:Gl X x:=by exact rfl)(hz:↥(ē Z=true))(hl:↥(as.length=(N.take k).length))(hps:↥(fY 0 as=ps))(nd:↥(decide (aX as).Nodup=true))(hm:↥(fI owp ow 0 as=true))(hlt:⇑(as.length<=1000))(hdb:⇑(Zdb x))(he:↥(Zse e es X.env))(hpl:↥(Zbt pos es X.env)):
  DE X Z ow rm (.Call 'h' (e::es) [] pos) (iZ fn as):=aBS S Fk (hr.mono hk) hg Y.m Y.F.kp Y.b ha hz hl hps nd hm hlt hdb he hpl
end
def Fd.okN{K:ZC}{st:Stmt}(X:Fd K x qual st N k)(hb:∀{cdv:Value}{A:Around}{outer:List Env}{s:Shared}{H:Hp}{E:XK}{F0:Hp}{g0:ZP}{σ0:St}{wf:∀a i q,g0 a=some (i,q)->i∈ps}(_:X.fd.code=cdv)(_:fD lev (A.deeper (envOfC qual (bD st) s.heap.objs.size X.f cdv)))(_:N.Nodup),
   BU (qP (A0 P w K) P w K mg base N qual (bD st) X.f cdv A outer s H E) ⟨F0,H,g0,ps,σ0,owp,wf⟩ owp owp owp owp rm (dQ st) body)(h:Ľ N k (bD st)=true:=by decide +kernel)(hN:↥(owp.length=N.length)):X.Ok P w mg base (lev+1) ps owp rm (aR owp.length ps rm body):=by
 rw[hN];exact X.okD (IF h) (λa b=>hb a b (IF h).nd) hN
def Fd.okM{K:ZC}{st:Stmt}(X:Fd K x qual st N k)(owe:ZH)(hb:∀{cdv:Value}{A:Around}{outer:List Env}{s:Shared}{H:Hp}{E:XK}{F0:Hp}{g0:ZP}{σ0:St}{wf:∀a i q,g0 a=some (i,q)->i∈ps}(_:X.fd.code=cdv)(_:fD lev (A.deeper (envOfC qual (bD st) s.heap.objs.size X.f cdv)))(_:N.Nodup),
   BU (qP (A0 P w K) P w K mg base N qual (bD st) X.f cdv A outer s H E) ⟨F0,H,g0,ps,σ0,owp,wf⟩ owp owe owe owe rm (dQ st) body)(h:Ľ N k (bD st)=true:=by decide +kernel)(hN:↥(owp.length=N.length)):X.Ok P w mg base (lev+1) ps owp rm (aR owp.length ps rm body):=by
 rw[hN];exact X.okE owe (IF h) (λa b=>hb a b (IF h).nd) hN
def ť:ZG->Str->Nat->Option Nat
 |[],_,_=>none
 |y::ys,x,k=>if y == x then some k else ť ys x (k+1)
def OU:∀{N:ZG}{x:Str}{k i:Nat},ť N x k=some i->∃j,i=k+j/\N[j]?=some x
 |y::ys,x,k,i,h=>by
  unfold ť at h;by_cases e:(y == x)=true
  .rw[Â e]at h
   cases h;exact⟨0,rfl,congrArg some (eq_of_beq e)⟩
  .rw[Ã e]at h
   let⟨j,e1,e2⟩:=OU h;exact⟨j+1,∅,e2⟩
def rL{α:Type}(r:Expr->Option α):List Expr->Option (List α)
 |[]=>some []
 |e::es=>(r e).bind λf=>(rL r es).bind λfs=>some (f::fs)
def aQN:Operator->Option (D->D->ZL)
 |.Add=>some LF
 |.Sub=>some ż
 |.Mult=>some QQ
 |.Mod=>some D9
 |_=>none
def aQO:Const->Option (M D)
 |.int i=>some (dC (.int i))
 |.str x=>some (dC (.str x))
 |.none=>some (dC .none)
 |_=>none
def aO9:NameKind->Bool
 |.globalImplicit=>false
 |.globalExplicit=>false
 |_=>true
def aQP(N:ZG)(nm:List (Str×NameKind))(ow:ZH)(x:Str):(Option (M D)):=(nm.lookup x).bind λk=>(ť N x 0).bind λi=>if aO9 k && ow.getD i 0 == 0 && !(x == "__debug__") && !(x == "__classdict__")then some (bF i)else none
def rE(N:ZG)(nm:List (Str×NameKind))(ow:ZH):Nat->Expr->Option (M D)
 |0,_=>none
 |n+1,e=>match e with
  |.Name x _=>aQP N nm ow x
  |.Constant c _ _=>aQO c
  |.BinOp a o b _=>(aQN o).bind λg=>(rE N nm ow n a).bind λf=>(rE N nm ow n b).bind λh=>some (iF g f h)
  |.Subscript a b _=>(rE N nm ow n a).bind λf=>(rE N nm ow n b).bind λh=>some (iF fM f h)
  |.Tuple es _ _=>(rL (rE N nm ow n) es).bind λfs=>some (QN fs)
  |_=>none
def ob{α β:Type}{x:Option α}{f:α->Option β}{b:β}(h:x.bind f=some b):∃a,x=some a/\f a=some b:=Option.bind_eq_some_iff.mp h
section
variable {X:Cx}{Z:cI}{ow:ZH}{e:Expr}{f:M D}
structure Κ(X:Cx)(Z:cI)(ow:ZH)(e:Expr)(f:M D):Prop where
 de:DE X Z ow 0 e f
 st:∀es,starEach (e::es) X.env=(false,eval e X.env)::starEach es X.env
 ix:oK e
def Λ(h:∀e f,r e=some f->Κ X Z ow e f):∀{es:List Expr}{fs:List (M D)},rL r es=some fs->DV X Z ow es fs
 |[],fs,q=>by cases q;exact aY
 |e::es,fs,q=>by
  let⟨f,h1,q⟩:=ob q;let⟨gs,h2,q⟩:=ob q;cases q;exact aF (h _ _ h1).de (Λ h h2) ((h _ _ h1).st _)
def aMH{r:Expr->Option (M D)}(h:∀e f,r e=some f->Κ X Z ow e f):∀{es:List Expr}{as:List Arg},rL (λe=>(r e).bind λf=>some (Arg.val f)) es=some as->DA X Z ow es as
 |[],as,q=>by cases q;exact cM
 |e::es,as,q=>by
  let⟨a,h1,q⟩:=ob q;let⟨bs,h2,q⟩:=ob q;let⟨f,h3,q1⟩:=ob h1;cases q;cases q1;exact aO (h _ _ h3).de (aMH h h2) ((h _ _ h3).st _)
def OV(S:aP Z ow):∀(n:Nat)(e:Expr)(f:M D),rE X.N X.env.scope.names ow n e=some f->Κ X Z ow e f
 |n+1,e,f,h=>by
  have ih:=OV S n;cases e with
  |Name x p=>
   refine⟨?_,λ_=>rfl,λ_ _=>rfl⟩;let⟨k,hk,h⟩:=ob h;let⟨i,hi,h⟩:=ob h;split at h
   .rename_i q
    cases h;let⟨j,rfl,hj⟩:=OU hi;simp![æ,Bool.not_eq_true',beq_iff_eq,Nat.zero_add]at q⊢;refine dD j q.1.1.2 hj ?_ q.1.2 q.2;have q:=q.1.1.1;cases k<;>cases q
    .exact .inl hk
    .exact .inr (.inl hk)
    .exact .inr (.inr hk)
   .cases h
  |Constant c k p=>
   refine⟨?_,λ_=>rfl,λ_ _=>rfl⟩;cases c<;>cases h
   all_goals first|exact aK|exact fV|exact xH
  |BinOp a o b p=>
   let⟨g,h1,h⟩:=ob h;let⟨f1,h2,h⟩:=ob h;let⟨f2,h3,h⟩:=ob h;cases h;have a:=(ih _ _ h2).de;have b:=(ih _ _ h3).de;refine⟨?_,λ_=>rfl,λ_ _=>rfl⟩;cases o<;>cases h1
   all_goals first|exact bM S a b|exact l0 S a b|exact gM S a b|exact i6 S a b
  |Subscript a b p=>
   let⟨f1,h2,h⟩:=ob h;let⟨f2,h3,h⟩:=ob h;cases h;exact⟨fG S (ih _ _ h2).de (ih _ _ h3).de (ih _ _ h3).ix,λ_=>rfl,λ_ _=>rfl⟩
  |Tuple es k p=>
   let⟨fs,h2,h⟩:=ob h;cases h;exact⟨dL (Λ ih h2),λ_=>rfl,λ_ _=>rfl⟩
  |_=>cases h
def rx(S:aP Z ow:=by exact aG)(h:↥(rE X.N X.env.scope.names ow 9 e=some f)):DE X Z ow 0 e f:=(OV S 9 e f h).de
def rv{es:List Expr}{fs:List (M D)}(S:aP Z ow:=by exact aG)(h:↥(rL (rE X.N X.env.scope.names ow 9) es=some fs)):DV X Z ow es fs:=Λ (OV S 9) h
def ra{es:List Expr}{as:List Arg}(S:aP Z ow:=by exact aG)(h:↥(rL (λe=>(rE X.N X.env.scope.names ow 9 e).bind λf=>some (Arg.val f)) es=some as)):DA X Z ow es as:=aMH (OV S 9) h
end
section
end
section
end
section
def RI(k x:D):(Option (ZL)):=match x with
 |.dict Á=>if (Á.all λkv=>(dG kv.1).isSome)=true then (match dG k with
  |some ky=>some (jV ky Á)
  |none=>none)else none
 |_=>none
def qF(n:Bool)(k x:D):ZL:=(RI k x).map λr=>.bool (r.isSome != n)
def OW(x k:D):ZL:=match RI k x with
 |some (some d)=>some d
 |_=>none
def IG{K:ZC}(e:RI k x=some r)(hk:bE K F k y)(hx:bE K F x v)(hs:aI F H):∃a o,v=.ref a/\pR H a y o/\((r=none/\o=none)\/∃d w,r=some d/\o=some w/\bE K F d w):=by
 unfold RI at e;split at e
 .rename_i Á
  split at e
  .rename_i hall
   split at e
   .rename_i ky e4
    cases e;let⟨a,ms,ds,vs,rfl,l1,rfl,hF,hr⟩:=OP hx hall;obtain rfl:=EV e4 hk;refine⟨a,pQ (ms.zip vs) ky,rfl,pR.k (hs _ _ hF),?_⟩;rcases u3 (k:=ky) l1 hr with ⟨h1,h2⟩|⟨d,w,h1,h2,h3⟩
    .exact .inl ⟨h1,h2⟩
    .exact .inr ⟨d,w,h1,h2,h3⟩
   .cases e
  .cases e
 .cases e
def LS(h:tD X Z ow 0 (iF (qF n) fk fx) σ H Q):tD X Z ow 0 fk σ H λy H1=>tD X Z ow 0 fx σ H1 λx H2=>∃a o,x=.ref a/\pR H2 a y o/\Q (.bl (o.isSome != n)) H2:=by
 let⟨F,δ,R,h⟩:=h;unfold iF at h;sleep 1;cases e:fk δ with
 |stuck=>sleep 5
 |err x δ1=>rw[e]at h;exact h
 |ok d1 δ1=>
  rw[e]at h;simp![Res.bind]at h;intro y H1 F1 R1 s1;refine⟨F1,δ1,R1.rel,?_⟩;cases e2:fx δ1 with
  |stuck=>rw[e2]at h;exact h.elim
  |err x δ2=>rw[e2]at h;exact jJ.mono h s1
  |ok d2 δ2=>
   rw[e2]at h;simp![Res.bind]at h;intro v H2 F2 R2 s2;unfold qF at h;cases e3:RI d1 d2 with
   |none=>rw[e3]at h;exact h.elim
   |some r=>
    rw[e3]at h;let⟨a,o,rfl,hg,hr⟩:=IG e3 (s2.rep _ _ R1.rep) R2.rep R2.rel.sub;have eo:o.isSome=r.isSome:=by
     rcases hr with ⟨rfl,rfl⟩|⟨d,w,rfl,rfl,_⟩<;>rfl
    refine⟨a,o,rfl,hg,?_⟩;rw[eo];exact h _ H2 F2 (R2.rel.x iS) (s1.trans' s2)
def aPB(hu:X.A.units+64<cLine)(hi:DE X Z ow 0 i fk)(ho:DE X Z ow 0 o fx)(h1:↥(behindInMarks .In o=false)):DE X Z ow 0 (.Compare i [.In] [o] pos) (iF (qF false) fk fx):=
 PE.mono (aGK (WV ∅ hi ho) h1) λσ H Q h=>by
  have:=LS h;simp![Bool.bne_false]at this;exact this
def aJI(hu:X.A.units+64<cLine)(hi:DE X Z ow 0 i fk)(ho:DE X Z ow 0 o fx)(h1:↥(behindInMarks .In o=false)):DT X Z ow (.Compare i [.In] [o] pos) (dB (iF (qF false) fk fx)):=
 (TR (WV ∅ hi ho) h1).mono λσ H Q h=>by
  have:=LS (GU h);simp![Bool.bne_false]at this;exact this
def RJ(hu:X.A.units+64<cLine)(hi:DE X Z ow 0 i fk)(ho:DE X Z ow 0 o fx)(h1:↥(behindInMarks .NotIn o=false)):DT X Z ow (.Compare i [.NotIn] [o] pos) (dB (iF (qF true) fk fx)):=
 (TR (Q7 ∅ hi ho) h1).mono λσ H Q h=>by
  have:=LS (GU h);simp![Bool.bne_true]at this;exact this
def aJJ(hu:X.A.units+64<cLine)(ho:DE X Z ow 0 o fx)(hi:DE X Z ow 0 i f)(hs:š i:=by exact λ_ _=>rfl):DE X Z ow 0 (.Subscript o i pos) (iF OW fx f):=PE.mono (OK ∅ ho hi hs) λσ H Q h=>by
 let⟨F,δ,R,h⟩:=h;unfold iF at h;sleep 1;cases e:fx δ with
 |stuck=>sleep 5
 |err x δ1=>rw[e]at h;exact h
 |ok d1 δ1=>
  rw[e]at h;simp![Res.bind]at h;intro x H1 F1 R1 s1;refine⟨F1,δ1,R1.rel,?_⟩;cases e2:f δ1 with
  |stuck=>rw[e2]at h;exact h.elim
  |err x δ2=>rw[e2]at h;exact jJ.mono h s1
  |ok d2 δ2=>
   rw[e2]at h;simp![Res.bind]at h;intro y H2 F2 R2 s2;cases e3:OW d1 d2 with
   |none=>rw[e3]at h;exact h.elim
   |some r=>
    rw[e3]at h;unfold OW at e3;split at e3
    .rename_i d e4
     cases e3;let⟨a,ov,rfl,hg,hr⟩:=IG e4 R2.rep (s2.rep _ _ R1.rep) R2.rel.sub;rcases hr with ⟨hh,_⟩|⟨d',w,hd,rfl,hw⟩
     .cases hh
     .cases hd
      exact⟨a,w,rfl,hg,h w H2 F2 (R2.rel.x hw) (s1.trans' s2)⟩
    .cases e3
end
section
variable {c i:Nat}{F H:Hp}{g:ZP}{K:ZC}
def bA.mkC{p:ZH}{a:Addr}{ds:ZI}{vs:List V}(hk:kd c=0)(h0:c≠0)(a1:g a=some (i,p))(a2:H a=some (.lst vs))(a3:F a=none)(hl:ds.length=vs.length)(r:∀(k:Nat)(d':D)(v':V),ds[k]?=some d'->vs[k]?=some v'->bA K F H g i (ch c k) (p++[k]) d' v'):bA K F H g i c p (.list ds) (.ref a):=by
 cases c with
 |zero=>exact absurd rfl h0
 |succ c=>
  refine bA.shut (ds:=ds) (vs:=vs) (cs:=[(a,[],.lst vs)]) (by rw[hk];exact⟨a,rfl,rfl,rfl⟩) (λx hx=>?_) hl r
  rw[ò.mp hx];exact⟨by simpa using a1,a2,a3⟩
end
section
end
section
end
section
def nN(c:Nat)(ow:ZH):Bool:=(List.range ow.length).all λj=>j == c || ow.getD j 0 == 0
def RK(h:nN c ow=true)(hj:j≠c):ow.getD j 0=0:=by
 by_cases hl:j<ow.length
 .have:=í.mp h j (List.mem_range.mpr hl)
  simp![Bool.or_eq_true,beq_iff_eq]at this;exact this.resolve_left hj
 .rw[Ë,ç ∅]
  rfl
end
section
def OX(f:M D):M Bool:=λδ=>(f δ).bind λd δ1=>match d with
 |.list ds=>.ok (!ds.isEmpty) δ1
 |_=>.stuck
def aJK(h:DE X Z ow 0 e f)(he: ~~~(∀whole,isTrue e X.env whole=(do let v <- whole;standAt e.pos;holding [v] (truthy v)))):DT X Z ow e (OX f):=(UB h he).mono λσ H Q h=>by
 let⟨F,δ,R,h⟩:=h;unfold OX at h;sleep 1;cases e:f δ with
 |stuck=>sleep 5
 |err x δ1=>rw[e]at h;exact h
 |ok d δ1=>
  rw[e]at h;simp![Res.bind]at h;intro v H1 F1 R1 s1;split at h
  .rename_i ds
   let⟨l,vs,rfl,hx,rx⟩:=jM R1.rep;refine⟨!ds.isEmpty,?_,h H1 F1 R1.rel s1⟩;refine .inl ⟨vs,R1.rel.sub.seq hx,?_⟩;have:=rx.len
   grind
  .exact h.elim
def aJL{δ:DS}{Q:Bool->ZO}{ds:ZI}{δ1:DS}(h:f δ=.ok (.list ds) δ1)(q:Q (!ds.isEmpty) δ1):aU (OX f) δ Q:=by
 unfold aU OX;rw[h];exact q
end
def nO:ZI->Option (ZG)
 |[]=>some []
 |d::ds=>match d with
  |.str z=>(nO ds).map (z::·)
  |_=>none
def yR:∀{ds:ZI}{zs:ZG},nO ds=some zs->ds=zs.map PyData.str
 |[],zs,h=>by cases h;rfl
 |d::ds,zs,h=>by
  cases d with
  |str z=>
   let⟨ys,e,rfl⟩:=Option.map_eq_some_iff.mp (show (nO ds).map (z::·)=some zs from h);rw[yR e];rfl
  |_=>cases h
section
variable {X:Cx}{Z:cI}{ow ow' ol ox:ZH}{m c n:Nat}{F F' H:Hp}{σ:St}{δ δ1 δ2:DS}{K:ZC}
def Μ:∀{zs:ZG}{vs:List V},aD K F (zs.map PyData.str) vs->vs=zs.map V.str
 |[],vs,h=>by unfold aD at h;exact h
 |z::zs,vs,h=>by
  rw[Ì]at h;unfold aD at h;let⟨x,r,rfl,hx,h⟩:=h;unfold bE at hx;rw[hx,Μ h];rfl
def IH:∀{zs:ZG},aD K F (zs.map PyData.str) (zs.map V.str)
 |[]=>iX
 |_::_=>fU BY IH
def OY:V->List V->Hp->VK->Prop:=λx vs H Q=>∃(l:Addr)(zs:ZG)(z:Str),x=.ref l/\vs=[.str z]/\H l=some (.lst (zs.map V.str))/\z∈zs/\Q .non (aV H l (.lst ((zs.erase z).map V.str)))
def OZ:∀{zs:ZG}{us:ZJ},bI (zs.map V.str) us->StrsAre us zs
 |[],us,h=>by cases h;exact .nil
 |z::zs,us,h=>by
  rw[Ì]at h;cases h with
  |cons r t=>
   let⟨u,rfl⟩:=r;exact .cons z u (OZ t)
def XM :∀{us:ZJ}{zs:ZG},StrsAre us zs->∀(i:Nat)(h:i<us.length)(h':i<zs.length),isStrOf k us[i]=(zs[i] == k)
 |_,_,.cons _ _ _,0,_,_=>rfl
 |_,_,.cons _ _ t,i+1,h,h'=>XM t i (Nat.lt_of_succ_lt_succ h) (Nat.lt_of_succ_lt_succ h')
def RL:Ō X "list.remove" OY:=by
 intro À s σ H x vs v us Q I rx rv h;let⟨l,zs,z,rfl,rfl,hH,hz,q⟩:=h;cases rx;let⟨u,rfl,ru⟩:=rv.one;let⟨t,rfl⟩:=ru;let⟨hs,its,n,r,hl,e⟩:=I.lstM hH;have sa:=OZ r;have hj:zs.idxOf z<zs.length:=List.idxOf_lt_length_of_mem hz;rw[Å]at hl;refine call_meets PySem.F.slot_list_remove ⟨_,e,rfl⟩ PySem.F.entry_list_remove (PySem.F.args_list_remove_2 _ _) (MeetsSeq.list_remove l its.toArray n (.str z t) (isStrOf z) (λy hy=>eq_isStrOf z t sa y (by simpa using hy)) (zs.idxOf z) (by rw[é,<- hl];exact hj) ?_ ?_ (by rw[é,<- hl];simpa using hs)) ⟨e,?_⟩
 .rw[List.getElem_toArray,XM sa _ (by rw[<- hl];exact hj) hj,List.getElem_idxOf hj]
  exact beq_self_eq_true z
 .intro k hk hlt
  rw[é,<- hl]at hk;rw[List.getElem_toArray,XM sa k (by rw[<- hl];exact hk) hk];have:=List.not_of_lt_findIdx (show k<zs.findIdx (· == z)from hlt);simpa using this
 .refine⟨.non,_,I.lset (its':=its.eraseIdx (zs.idxOf z)) hH e ?_ (xs:=zs.map V.str) (ys:=(zs.erase z).map V.str) ?_ ?_,rfl,q⟩
  .show its.toArray.eraseIdxIfInBounds (zs.idxOf z)=_
   rw[List.eraseIdxIfInBounds_toArray]
  .have:=r.eraseIdx (zs.idxOf z)
   rw[List.erase_eq_eraseIdx_of_idxOf rfl];rw[List.eraseIdx_eq_take_drop_succ,<- List.map_take,<- List.map_drop,<- Ø,<- List.eraseIdx_eq_take_drop_succ]at this;exact this
  .rw[Å]at hs⊢
   exact Ü List.length_erase_le hs
def cV.updF(R:cV K Z ow g F H σ δ)(h0:nN c ow=true)(h1:ow.getD c 0=1)(hs:σ[c]?=some (some (.ref cc)))(hne:cc≠a)(hF:F a=none)(hZ:Z.H0 a=none):cV K Z ow g F (aV H a o) σ δ:=by
 refine⟨λb u e=>?_,R.f0,λb u n e=>?_,R.new,λb z=>?_,R.lab,R.len,R.par,λj d e=>?_⟩
 .have:b≠a:=λz=>by rw[z,hF]at e;cases e
  rw[aE this];exact R.sub b u e
 .have:b≠a:=λz=>by rw[z,hZ]at e;cases e
  rw[aE this];exact R.kept b u n e
 .have:b≠a:=λw=>z (by rw[w,hZ])
  rw[aE this];exact R.there b z
 .obtain⟨v,e1,o'⟩:=R.slot j d e
  refine⟨v,e1,?_⟩;by_cases hj:j=c
  .subst hj
   rw[h1]at o'⊢;let⟨a',ds,vs,q1,q2,q3,q4,q5,q6,q7⟩:=o'.lst (m:=0);rw[hs,q2]at e1;cases e1;exact bA.mkL (m:=0) ⟨_,ds,vs,q1,q2,q3,by rw[aE hne];exact q4,q5,q6,λk d' v' z1 z2=>q7 k d' v' z1 z2⟩
  .rw[RK h0 hj]at o'⊢;exact o'
def bZ.look(R:bZ K Z ow F H σ δ1)(s:aI F F')(s':aI F' H)(hl:δ2.length=δ1.length)(h:∀(j:Nat)(d:D),δ2[j]?=some (some d)->∃v,σ[j]?=some (some v)/\bE K F' d v):bZ K (cW F' H σ m) 'c' F' H σ δ2:=by
 let⟨g,R⟩:=R;exact⟨λ_=>none,s',⟨R.f0.lm.mono s,aI.refl _⟩,λ_ _ _ e=>e,λ_ h _=>h,λ_ h=>h,λ_ _ _ e=>(by cases e),by rw[hl];exact R.len,λi hi=>(by cases hi),λi d e=>by
  let⟨v,e1,e2⟩:=h i d e;exact⟨v,e1,by rw[i9];exact e2⟩⟩
abbrev N3:=ZG×ZG×ZG
def mC(N:N3):D:=kE [.inr "off",.inr "back",.inr "on"] [.list (N.1.map PyData.str),.list (N.2.1.map PyData.str),.list (N.2.2.map PyData.str)]
def EZ(k z:Str)(N:N3):(Option N3):=
 if k="off"then (if z∈N.1 then some (N.1.erase z,N.2.1,N.2.2)else none)
 else if k="back"then (if z∈N.2.1 then some (N.1,N.2.1.erase z,N.2.2)else none)
 else if k="on"then (if z∈N.2.2 then some (N.1,N.2.1,N.2.2.erase z)else none)else none
abbrev Ĩ(a b cc:Addr):List (cX×V):=[(.inr "off",.ref a),(.inr "back",.ref b),(.inr "on",.ref cc)]
structure aP4(Z:cI)(p a b cc:Addr):Prop where
 zp:Z.H0 p=none
 za:Z.H0 a=none
 zb:Z.H0 b=none
 cp:cc≠p
 ca:cc≠a
 cb:cc≠b
 pa:p≠a
 pb:p≠b
 ab:a≠b
structure rY(K:ZC)(Z:cI)(ow:ZH)(c n:Nat)(p a b cc:Addr)(N:N3)(F H:Hp)(σ:St)(δ:DS):Prop where
 rel:bZ K Z ow F H σ (δ.set c (some (.list (N.2.2.map PyData.str))))
 dc:δ[c]?=some none
 dn:δ[n]?=some none
 sn:σ[n]?=some (some (.ref p))
 sc:σ[c]?=some (some (.ref cc))
 hp:H p=some (.dK (Ĩ a b cc))
 ha:H a=some (.lst (N.1.map V.str))
 hb:H b=some (.lst (N.2.1.map V.str))
 fp:F p=none
 fa:F a=none
 fb:F b=none
variable {p a b cc:Addr}{N:N3}
def rY.hc(I:rY K Z ow c n p a b cc N F H σ δ)(h1:ow.getD c 0=1):H cc=some (.lst (N.2.2.map V.str)):=by
 let⟨a',ds,vs,q1,q2,q3,q4⟩:=I.rel.ownAt h1 (ß (Î.mp I.dc).1);cases q1;rw[I.sc]at q2;cases q2;rw[Μ q4]at q3;exact q3
def rY.at(I:rY K Z ow c n p a b cc N F H σ δ)(h0:nN c ow=true){j:Nat}{d:D}(e:δ[j]?=some (some d)):∃v,σ[j]?=some (some v)/\bE K F d v:=by
 have hj:j≠c:=λz=>by rw[z,I.dc]at e;cases e
 let⟨g,R⟩:=I.rel;let⟨v,e1,o⟩:=R.slot j d (by rw[Ú (Í hj)];exact e);rw[RK h0 hj]at o;exact⟨v,e1,o⟩
def rY.hide(I:rY K Z ow c n p a b cc N F H σ δ)(h0:nN c ow=true):bZ K (cW F H σ m) 'c' F H σ δ:=
 I.rel.look 'o' I.rel.sub (Ï ..).symm λ_ _ e=>I.at h0 e
def rY.view(I:rY K Z ow c n p a b cc N F H σ δ)(h0:nN c ow=true)(h1:ow.getD c 0=1):∃F',bZ K (cW F' H σ m) 'c' F' H σ (δ.set n (some (mC N))):=by
 have hn:n<δ.length:=(Î.mp I.dn).1;have s:aI F (λx=>if x=p\/x=a\/x=b\/x=cc then H x else F x):=λx o e=>by
  show (if x=p\/x=a\/x=b\/x=cc then H x else F x)=some o;split
  .exact I.rel.sub x o e
  .exact e
 refine⟨λx=>if x=p\/x=a\/x=b\/x=cc then H x else F x,I.rel.look s (λx o e=>?_) (by rw[Ï,Ï]) λj d e=>?_⟩
 .split at e
  .exact e
  .exact I.rel.sub x o e
 .by_cases hj:n=j
  .subst hj
   rw[ß hn]at e;cases e;refine⟨_,I.sn,Nd.rep (k:=3) (vs:=[.ref a,.ref b,.ref cc]) ⟨p,_,rfl,rfl,rfl,rfl⟩ (λx hx=>?_) rfl (fU ?_ (fU ?_ (fU ?_ iX)))⟩
   .rw[ò.mp hx]
    exact(Â (.inl rfl)).trans I.hp
   .unfold bE
    exact⟨a,_,rfl,d8.of ((Â (.inr (.inl rfl))).trans I.ha),IH⟩
   .unfold bE
    exact⟨b,_,rfl,d8.of ((Â (.inr (.inr (.inl rfl)))).trans I.hb),IH⟩
   .unfold bE
    exact⟨cc,_,rfl,d8.of ((Â (.inr (.inr (.inr rfl)))).trans (I.hc h1)),IH⟩
  .rw[Ú hj]at e
   let⟨v,e1,r⟩:=I.at h0 e;exact⟨v,e1,s.rep _ _ r⟩
def rY.grow(I:rY K Z ow c n p a b cc N F H σ δ)(h:aI H H'):rY K Z ow c n p a b cc N F H' σ δ:=
 {I with rel:=let ⟨g,R⟩:=I.rel;⟨g,R.grow h⟩,hp:=h _ _ I.hp,ha:=h _ _ I.ha,hb:=h _ _ I.hb}
def rY.back(I:rY K Z ow c n p a b cc N F H σ δ)(R':bZ K (cW F H σ m) 'c' F' H' σ δ'):rY K Z ow c n p a b cc N F' H' σ δ:=by
 let⟨g',R'⟩:=R';have h:aI H H':=λb o e=>R'.kept b o rfl e;exact {I with rel:=let ⟨g,R⟩:=I.rel;⟨g,R.back R'⟩,hp:=h _ _ I.hp,ha:=h _ _ I.ha,hb:=h _ _ I.hb,fp:=R'.new p I.fp (by show H p≠none;rw[I.hp];simp),fa:=R'.new a I.fa (by show H a≠none;rw[I.ha];simp),fb:=R'.new b I.fb (by show H b≠none;rw[I.hb];simp)}
def rY.store(I:rY K Z ow c n p a b cc N F H σ δ)(S:aP Z ow)(hX:X.K=K)(r:bE K F d v)(hi:i<δ.length)(hps:i∉Z.ps)(hl:i<ow.length)(h0:ow.getD i 0=0)(hc:i≠c)(hn:i≠n):rY K Z ow c n p a b cc N F H (σ.set i (some v)) (δ.set i (some d)):=by
 subst hX;have R:=(I.rel.x r).store S (X:=X) (i:=i) (by rw[Ï];exact hi) hps hl;rw[ź h0,List.set_comm _ _ hc.symm]at R;exact {I with rel:=R,dc:=by rw[Ú hc];exact I.dc,dn:=by rw[Ú hn];exact I.dn,sn:=by rw[Ú hn];exact I.sn,sc:=by rw[Ú hc];exact I.sc}
theorem rY.rem(I:rY K Z ow c n p a b cc N F H σ δ)(T:aP4 Z p a b cc)(S:aP Z ow)(h0:nN c ow=true)(h1:ow.getD c 0=1)(e:EZ k z N=some N'){P:Prop}(q:∀(l:Addr)(zs:ZG),pQ (Ĩ a b cc) (.inr k)=some (.ref l)->H l=some (.lst (zs.map V.str))->z∈zs->rY K Z ow c n p a b cc N' F (aV H l (.lst ((zs.erase z).map V.str))) σ δ->P):P:=by
 unfold EZ at e;have cl:c<δ.length:=(Î.mp I.dc).1;split at e
 .rename_i hk
  split at e
  .rename_i hz
   cases e;subst hk;refine q a N.1 rfl I.ha hz {I with rel:=let ⟨g,R⟩:=I.rel;⟨g,R.updF h0 h1 I.sc T.ca I.fa T.za⟩,hp:=by rw[aE T.pa];exact I.hp,ha:=aJ,hb:=by rw[aE T.ab.symm];exact I.hb}
  .cases e
 .split at e
  .rename_i hk
   split at e
   .rename_i hz
    cases e;subst hk;refine q b N.2.1 rfl I.hb hz {I with rel:=let ⟨g,R⟩:=I.rel;⟨g,R.updF h0 h1 I.sc T.cb I.fb T.zb⟩,hp:=by rw[aE T.pb];exact I.hp,ha:=by rw[aE T.ab];exact I.ha,hb:=aJ}
   .cases e
  .split at e
   .rename_i hk
    split at e
    .rename_i hz
     cases e;subst hk;have R:=I.rel.rewrite S h1 (ß cl) I.sc (ds':=(N.2.2.erase z).map PyData.str) (vs':=(N.2.2.erase z).map V.str) IH;rw[List.set_set]at R;refine q cc N.2.2 rfl (I.hc h1) hz {I with rel:=R,hp:=by rw[aE T.cp.symm];exact I.hp,ha:=by rw[aE T.ca.symm];exact I.ha,hb:=by rw[aE T.cb.symm];exact I.hb}
    .cases e
   .cases e
def iK(n e s:Nat)(t1:M Bool)(fs:M D)(t2:M Bool)(fk fy:M D):ZI->N3->DS->Option (Bool×N3)
 |[],N,_=>some (true,N)
 |d::ds,N,δ=>match t1 (δ.set e (some d))with
  |.ok true _=>some (false,N)
  |.ok false _=>(match fs (δ.set e (some d))with
   |.ok dv _=>(match t2 ('m'.set n (some (mC N)))with
    |.ok true _=>some (false,N)
    |.ok false _=>(match fk 'm',fy 'm'with
     |.ok (.str k) _,.ok (.str z) _=>(match EZ k z N with
      |some N'=>iK n e s t1 fs t2 fk fy ds N' 'm'
      |none=>none)
     |_,_=>none)
    |_=>none)
   |_=>none)
  |_=>none
theorem II{P:Prop}(h:iK n e s t1 fs t2 fk fy (d::ds) N δ=some r)(k1:∀δ1,t1 (δ.set e (some d))=.ok true δ1->r=(false,N)->P)(k2:∀δ1 dv δ2 δ3,t1 (δ.set e (some d))=.ok false δ1->fs (δ.set e (some d))=.ok dv δ2->t2 ('m'.set n (some (mC N)))=.ok true δ3->r=(false,N)->P)(k3:∀δ1 dv δ2 δ3 k δ4 z δ5 N',t1 (δ.set e (some d))=.ok false δ1->fs (δ.set e (some d))=.ok dv δ2->t2 ('m'.set n (some (mC N)))=.ok false δ3->fk 'm'=.ok (.str k) δ4->fy 'm'=.ok (.str z) δ5->EZ k z N=some N'->iK n e s t1 fs t2 fk fy ds N' 'm'=some r->P):P:=by
 unfold iK at h;split at h
 .rename_i δ1 e1
  exact k1 δ1 e1 (Option.some.inj h).symm
 .rename_i δ1 e1
  split at h
  .rename_i dv δ2 e2
   split at h
   .rename_i δ3 e3
    exact k2 δ1 dv δ2 δ3 e1 e2 e3 (Option.some.inj h).symm
   .rename_i δ3 e3
    split at h
    .rename_i k δ4 z δ5 e4 e5
     split at h
     .rename_i N' e6
      exact k3 δ1 dv δ2 δ3 k δ4 z δ5 N' e1 e2 e3 e4 e5 e6 h
     .cases h
    .cases h
   .cases h
  .cases h
 .cases h
def RM:Option (ZL)->Option (ZI)
 |some (some (.list ds))=>some ds
 |_=>none
def RN:Res D->Option (ZG)
 |.ok (.list xs) _=>nO xs
 |_=>none
def O0(h:RM o=some ds):o=some (some (.list ds)):=by
 unfold RM at h;split at h
 .cases h;rfl
 .cases h
def O1(h:RN r=some x):∃xs δ,r=.ok (.list xs) δ/\nO xs=some x:=by
 unfold RN at h;split at h
 .exact⟨_,_,rfl,h⟩
 .cases h
def nQ(l c n e s:Nat)(f1 f2:M D)(t1:M Bool)(fs:M D)(t2:M Bool)(fk fy:M D):M Fl:=λδ=>match ((RM δ[c]?).bind nO).bind λw=>(RM δ[l]?).bind λds=>(RN (f1 ((δ.set c none).set n none))).bind λx=>(RN (f2 ((δ.set c none).set n none))).bind λy=>
  if l≠c/\l≠n/\e<δ.length/\s<δ.length/\n<δ.length then iK n e s t1 fs t2 fk fy ds (x,y,w) ((δ.set c none).set n none)else none with
 |some r=>.ok (.ret (.bool r.1)) ((List.replicate δ.length none).set c (some (.list (r.2.2.2.map PyData.str))))
 |none=>.stuck
theorem RO{P:Prop}(k2:nQ l c n e s f1 f2 t1 fs t2 fk fy δ=.stuck->P)(k1:∀w ds xs δ1 ys δ2 x y b N,δ[c]?=some (some (.list (w.map PyData.str)))->δ[l]?=some (some (.list ds))->f1 ((δ.set c none).set n none)=.ok (.list xs) δ1->f2 ((δ.set c none).set n none)=.ok (.list ys) δ2->nO xs=some x->nO ys=some y->l≠c->l≠n->e<δ.length->s<δ.length->n<δ.length ->
   iK n e s t1 fs t2 fk fy ds (x,y,w) ((δ.set c none).set n none)=some (b,N)->nQ l c n e s f1 f2 t1 fs t2 fk fy δ=.ok (.ret (.bool b)) ((List.replicate δ.length none).set c (some (.list (N.2.2.map PyData.str))))->P):P:=by
 generalize hr:nQ l c n e s f1 f2 t1 fs t2 fk fy δ=r at *;unfold nQ at hr;split at hr
 .rename_i q e0
  let⟨w,e1,e0⟩:=Option.bind_eq_some_iff.mp e0;let⟨wc,e1,e2⟩:=Option.bind_eq_some_iff.mp e1;let⟨ds,e3,e0⟩:=Option.bind_eq_some_iff.mp e0;let⟨x,e4,e0⟩:=Option.bind_eq_some_iff.mp e0;let⟨y,e5,e0⟩:=Option.bind_eq_some_iff.mp e0;split at e0
  .rename_i h
   let⟨xs,δ1,f1,g1⟩:=O1 e4;let⟨ys,δ2,f2,g2⟩:=O1 e5;have e1:=O0 e1;rw[yR e2]at e1;exact k1 w ds xs δ1 ys δ2 x y q.1 q.2 e1 (O0 e3) f1 f2 g1 g2 h.1 h.2.1 h.2.2.1 h.2.2.2.1 h.2.2.2.2 e0 hr.symm
  .cases e0
 .exact k2 hr.symm
theorem aPC{P:Prop}{a b c d e f g h i j k l:Bool}(hh:(a && b && c && d && e && f && g && h && i && j && k && l)=true)(q:a=true->b=true->c=true->d=true->e=true->f=true->g=true->h=true->i=true->j=true->k=true->l=true->P):P:=by
 simp![æ]at hh;exact q hh.1.1.1.1.1.1.1.1.1.1.1 hh.1.1.1.1.1.1.1.1.1.1.2 hh.1.1.1.1.1.1.1.1.1.2 hh.1.1.1.1.1.1.1.1.2 hh.1.1.1.1.1.1.1.2 hh.1.1.1.1.1.1.2 hh.1.1.1.1.1.2 hh.1.1.1.1.2 hh.1.1.1.2 hh.1.1.2 hh.1.2 hh.2
def Ν{b:Bool}(h:(!b)=true):b=false:=by cases b<;>first|rfl|cases h
def XN{a b:Nat}(h:(a != b)=true):a≠b:=by simpa using h
def ľ(X:Cx)(m k:Nat)(f:M D):TE:=λσ H Q=>∃F0,tD X (cW F0 H σ m) 'c' k f σ H Q
def aP5(X:Cx)(m:Nat)(t:M Bool):TT:=λσ H Q=>∃F0,tT X (cW F0 H σ m) 'c' t σ H Q
def aFZ(m:Nat)(h:∀F H σ,DT X (cW F H σ m) 'c' x t):PT X x (λσ H Q=>∃F0,tT X (cW F0 H σ m) 'c' t σ H Q):=λÀ s σ H Q I zQ=>by let⟨F0,q⟩:=zQ;exact h F0 H σ À s σ H Q I q
def rY.test{t:M Bool}{k:Bool}{δ':DS}{Q:Bool->Hp->Prop}(I:rY X.K Z ow c n p a b cc N F H σ δ)(h0:nN c ow=true)(e:t δ=.ok k δ')(q:∀H',aI H H'->Q k H'):∃F0,tT X (cW F0 H σ m) 'c' t σ H Q:=
 ⟨F,F,δ,I.hide h0,by
  rw[e];intro H' F' ⟨g',R'⟩ s';exact q H' λb o e=>R'.kept b o rfl e⟩
def rY.test2{t:M Bool}{k:Bool}{δ':DS}{Q:Bool->Hp->Prop}(I:rY X.K Z ow c n p a b cc N F H σ δ)(h0:nN c ow=true)(h1:ow.getD c 0=1)(e:t (δ.set n (some (mC N)))=.ok k δ')(q:∀H',aI H H'->Q k H'):∃F0,tT X (cW F0 H σ m) 'c' t σ H Q:=by
 let⟨F',R⟩:=I.view (m:=m) h0 h1;refine⟨F',F',_,R,?_⟩;rw[e];intro H' F' ⟨g',R'⟩ s';exact q H' λb o e=>R'.kept b o rfl e
def rY.val{f:M D}{d:D}{δ':DS}{Q:VK}(I:rY X.K Z ow c n p a b cc N F H σ δ)(h0:nN c ow=true)(e:f δ=.ok d δ')(q:∀v H' F',bE X.K F' d v->rY X.K Z ow c n p a b cc N F' H' σ δ->aI F F'->aI H H'->Q v H'):∃F0,tD X (cW F0 H σ m) 'c' 0 f σ H Q:=
 ⟨F,F,δ,I.hide h0,by
  rw[e];intro v H' F' R' s';exact q v H' F' R'.rep (I.back R'.rel) s' (let ⟨g',R',_⟩:=R';λb o e=>R'.kept b o rfl e)⟩
def aMJ{f:M D}{xs:ZI}{x:ZG}{δ':DS}{Q:VK}(R:bZ X.K (cW F H σ m) 'c' F H σ δ)(e:f δ=.ok (.list xs) δ')(hx:nO xs=some x)(q:∀a H',aI H H'->H a=none->H' a=some (.lst (x.map V.str))->Q (.ref a) H'):∃F0,tD X (cW F0 H σ m) 'c' 1 f σ H Q:=
 ⟨F,F,δ,R,by
  rw[e];intro v H' F' ⟨g',R',o⟩ s';let⟨a,ds,vs,q1,q2,q3,q4,q5,q6,q7⟩:=o.lst (m:=0);cases q1;subst q2;rw[yR hx]at q6 q7;rw[Μ (aD.of q6 q7)]at q4;refine q a H' (λb o e=>R'.kept b o rfl e) ?_ q4;rcases R'.lab a 1000 [] q3 with z|⟨q,z⟩
  .exact z
  .cases z⟩
def bZ.setN(R:bZ K Z ow F H σ δ)(hn:n∉Z.ps):bZ K Z ow F H (σ.set n v) (δ.set n none):=by
 let⟨g,R⟩:=R;refine⟨g,R.sub,R.f0,R.kept,R.new,R.there,R.lab,by rw[Ï,Ï];exact R.len,λj hj=>?_,λj d e=>?_⟩
 .have ne:n≠j:=λz=>hn (z▸hj)
  rw[Ú ne];exact R.par j hj
 .have hj:n≠j:=λz=>by
   subst z;rw[č]at e;split at e
   .split at e<;>cases e
   .rename_i z;exact z rfl
  rw[Ú hj]at e⊢;exact R.slot j d e
def LU(o3:Z.ps.contains n=false)(o4:Z.ps.contains e=false)(o5:Z.ps.contains s=false)(o1:nN c ow=true)(o2:ow.getD c 0=1)(o6:c≠n)(o7:c≠e)(o8:c≠s)(o9:n≠e)(oa:n≠s)(ob:e<ow.length)(oc:s<ow.length)(S:aP Z ow)(h:tS X Z ow ow' ol ox 0 (nQ l c n e s f1 f2 t1 fs t2 fk fy) Dn σ H):
  QB (QC (aFW [(tC (.str "off"),(ľ X m 1 f1)),(tC (.str "back"),(ľ X m 1 f2)),(tC (.str "on"),GF c)]) (kU n)) (QB (η (ϊ X.K (GF l)) (kU e) (QB (ŭ (aP5 X m t1) (Ņ (tC (.bl false))) TV) (QB (QC (ľ X m 0 fs) (kU s)) (QB (ŭ (aP5 X m t2) (Ņ (tC (.bl false))) TV) (γ (Ŷ X.K "list" OY (aFV (GF n) (ľ X m 0 fk)) (M4 (ľ X m 0 fy) ŉ))))))) (Ņ (tC (.bl true)))) Dn σ H:=by
 let⟨F,δ,R,h⟩:=h;refine RO (l:=l) (c:=c) (n:=n) (e:=e) (s:=s) (f1:=f1) (f2:=f2) (t1:=t1) (fs:=fs) (t2:=t2) (fk:=fk) (fy:=fy) (δ:=δ) (λee=>by rw[ee]at h;exact h.elim) λw ds us δ1 ys δ2 x y k N y1 y2 y3 y4 y6 y7 y8 y9 ya yb yc yd ee=>?_;rw[ee]at h;have cl:c<δ.length:=(Î.mp y1).1;let⟨cc,ws,vs,z1,z2,z3,z4⟩:=R.ownAt o2 y1;cases z1;have hn0:=cP o3;have lk:∀{H':Hp},aI H H'->bZ X.K (cW F H' σ m) 'c' F H' σ ((δ.set c none).set n none):=λ{H'}hh=>by
  have R':bZ X.K Z ow F H' σ δ:=let ⟨g,R⟩:=R;⟨g,R.grow hh⟩
  refine R'.look 'o' R'.sub (by rw[Ï,Ï]) λj d e=>?_;have hj:n≠j:=λz=>by
   subst z;rw[ß (by rw[Ï];exact yc)]at e;cases e
  rw[Ú hj]at e;have hj:c≠j:=λz=>by
   subst z;rw[ß cl]at e;cases e
  rw[Ú hj]at e;let⟨g,R'⟩:=R';let⟨v,e1,o⟩:=R'.slot j d e;rw[RK o1 hj.symm]at o;exact⟨v,e1,o⟩
 intro p hp;have s1:aI H (aV H p (.dK [])):=bW hp _;refine aMJ (lk s1) y3 y6 λa H2 s2 a1 a2=>?_;refine aMJ (lk (s1.trans' s2)) y4 y7 λb H3 s3 b1 b2=>?_;have hp3:H3 p=some (.dK []):=s3 _ _ (s2 _ _ aJ);refine⟨_,z2,hp3,Ĩ a b cc,rfl,by simp,?_⟩;have hm:u2 [] (Ĩ a b cc)=Ĩ a b cc:=by with_unfolding_all rfl
 rw[hm];have ap:p≠a:=λz=>by rw[<- z,aJ]at a1;cases a1
 have bp:p≠b:=λz=>by rw[<- z,s2 _ _ aJ]at b1;cases b1
 have ab:a≠b:=λz=>by rw[<- z,a2]at b1;cases b1
 have ha:H a=none:=by rw[aE ap.symm]at a1;exact a1
 have hb:H b=none:=by
  cases q:H b with
  |none=>rfl
  |some o=>rw[s2 _ _ (s1 _ _ q)]at b1;cases b1
 have zz:∀{u:Addr},H u=none->Z.H0 u=none:=λ{u}hu=>by
  let⟨g,R⟩:=R;cases q:Z.H0 u with
  |none=>rfl
  |some o=>exact absurd hu (R.there u (by rw[q];simp))
 have cn:∀{u:Addr},H u=none->cc≠u:=λ{u}hu z=>by rw[<- z,z3]at hu;cases hu
 have T:aP4 Z p a b cc:=⟨zz hp,zz ha,zz hb,cn hp,cn ha,cn hb,ap,bp,ab⟩;have Rn:bZ X.K Z ow F (aV H3 p (.dK (Ĩ a b cc))) (σ.set n (some (.ref p))) (δ.set n none):=by
  have R1:bZ X.K Z ow F H3 σ δ:=let ⟨g,R⟩:=R;⟨g,R.grow ((s1.trans' s2).trans' s3)⟩
  let⟨g,R2⟩:=R1.setN (n:=n) (v:=some (.ref p)) hn0;exact⟨g,R2.updF o1 o2 (by rw[Ú o6.symm];exact z2) T.cp (R.fnone hp) T.zp⟩
 have I0:rY X.K Z ow c n p a b cc (x,y,w) F (aV H3 p (.dK (Ĩ a b cc))) (σ.set n (some (.ref p))) ((δ.set c none).set n none):=by
  refine⟨?_,?_,?_,?_,?_,aJ,?_,?_,R.fnone hp,R.fnone ha,R.fnone hb⟩
  .rw[List.set_comm _ _ o6,List.set_set]
   have:(δ.set n none).set c (some (.list (w.map PyData.str)))=δ.set n none:=by
    rw[List.set_comm _ _ o6.symm];congr 1;let⟨hh,ey⟩:=Î.mp y1;rw[<- ey];exact List.set_getElem_self hh
   rw[this];exact Rn
  .rw[Ú o6.symm,ß cl]
  .rw[ß (by rw[Ï];exact yc)]
  .obtain⟨g,R⟩:=R
   rw[ß (by rw[<- R.len];exact yc)]
  .rw[Ú o6.symm]
   exact z2
  .rw[aE ap.symm]
   exact s3 _ _ a2
  .rw[aE bp.symm]
   exact b2
 have fin:∀{σ':St}{H' F':Hp}{δ':DS}{N':N3},rY X.K Z ow c n p a b cc N' F' H' σ' δ'->aI F F'->k=k->N'=N->δ'.length=δ.length->Dn.rt (.bl k) H':=λ{σ' H' F' δ' N'}I s' _ hN hL=>by
  subst hN;refine h _ σ' H' F' ow ?_ s';let⟨g,R⟩:=I.rel;refine⟨g,⟨R.sub,R.f0,R.kept,R.new,R.there,R.lab,?_,R.par,λj d e=>?_⟩,by show bE X.K F' (.bool k) (.bl k);unfold bE;rfl⟩
  .rw[Ï,ï,<- hL,<- R.len,Ï]
  .by_cases hj:c=j
   .subst hj
    rw[ß (by rw[ï];exact cl)]at e;refine R.slot c d ?_;rw[ß (by rw[hL];exact cl)];exact e
   .rw[Ú hj,Ā]at e
    split at e<;>cases e
 let⟨vl,w1,w2⟩:=I0.at o1 (j:=l) (d:=.list ds) (by rw[Ú y9.symm,Ú y8.symm];exact y2);let⟨al,xl,rfl,w3,w4⟩:=jM w2;refine⟨_,w1,.inl ⟨al,rfl,⟨xl,I0.rel.sub.seq w3⟩,?_⟩⟩;refine T5 (xs:=xl) (λi σ' H'=>∃F' δ' N',rY X.K Z ow c n p a b cc N' F' H' σ' δ'/\aI F F'/\δ'.length=δ.length/\iK n e s t1 fs t2 fk fy (ds.drop i) N' δ'=some (k,N)) ⟨F,_,_,I0,aI.refl _,by rw[Ï,Ï],yd⟩ ?_ ?_ ?_
 .rintro i σ' H' _ ⟨F',δ',N',I,s',_⟩
  exact(s'.trans' I.rel.sub).seq w3
 .rintro i xv σ' H' hx ⟨F',δ',N',I,s',hL,hS⟩
  have hi:i<ds.length:=by rw[w4.len];exact(Î.mp hx).1
  have hd:=Ê hi;rw[ñ hi]at hS;have rx:=s'.rep _ _ (w4.both i _ xv hd hx);generalize ds[i]=d0 at *;have I1:=I.store S (X:=X) rfl rx (i:=e) (by rw[hL];exact ya) (cP o4) ob (RK o1 (Í o7)) (Í o7) (Í o9);refine II hS (λd1 g1 g2=>?_) (λd1 dv d2 d3 g1 g2 g3 g4=>?_) λd1 dv d2 d3 k3 d4 z d5 N2 g1 g2 g3 g4 g5 g6 g7=>?_
  .cases g2
   refine I1.test o1 g1 λH2 t2=>?_;exact fin (I1.grow t2) s' rfl rfl (by rw[Ï];exact hL)
  .cases g4
   refine I1.test o1 g1 λH2 t2=>?_;refine(I1.grow t2).val o1 g2 λv H3 F3 r3 I3 s3 _=>?_;have I4:=I3.store S (X:=X) rfl r3 (i:=s) (by rw[Ï,hL];exact yb) (cP o5) oc (RK o1 (Í o8)) (Í o8) (Í oa);refine I4.test2 o1 o2 g3 λH5 t5=>?_;exact fin (I4.grow t5) (s'.trans' s3) rfl rfl (by rw[Ï,Ï];exact hL)
  .refine I1.test o1 g1 λH2 t2=>?_
   refine(I1.grow t2).val o1 g2 λv H3 F3 r3 I3 s3 _=>?_;have I4:=I3.store S (X:=X) rfl r3 (i:=s) (by rw[Ï,hL];exact yb) (cP o5) oc (RK o1 (Í o8)) (Í o8) (Í oa);have hL4:((δ'.set e (some d0)).set s (some dv)).length=δ.length:=by rw[Ï,Ï];exact hL
   refine I4.test2 o1 o2 g3 λH5 t5=>?_;have I5:=I4.grow t5;refine⟨_,I5.sn,I5.val o1 g4 λv6 H6 F6 r6 I6 s6 t6=>?_⟩;unfold bE at r6;subst r6;refine I6.rem T S o1 o2 g6 λll zs m1 m2 m3 m4=>?_;refine⟨p,.ref ll,rfl,by rw[<- m1];exact pR.k (k:=.inr k3) I6.hp,.inl ⟨rfl,_,d8.of m2⟩,?_⟩
   refine I6.val o1 g5 λv7 H7 F7 r7 I7 s7 t7=>?_;unfold bE at r7;subst r7;refine I7.rem T S o1 o2 g6 λll' zs' m1' m2' m3' m4'=>?_;rw[m1]at m1';cases m1';exact⟨ll,zs',z,rfl,rfl,m2',m3',F7,_,N2,m4',((s'.trans' s3).trans' s6).trans' s7,hL4,g7⟩
 .rintro σ' H' ⟨F',δ',N',I,s',hL,hS⟩
  rw[<- w4.len,List.drop_length]at hS;cases hS;exact fin I s' rfl rfl hL
def RP(l c n e s m:Nat){xl xc xn xe xs:Str}{q1 q2 q3 q4 q5 q6 q7 q8 q9 qa qb qc qd qe qf qg qh qi qj qk ql qm qn qo qp:Pos}{j1 j2 j3 j4 j5 j6}(S:aP Z ow)(hN:X.N.Nodup)(hu:X.A.units+64<cLine)(h1:∀F H σ,DE X (cW F H σ m) 'c' 1 x1 f1)(h2:∀F H σ,DE X (cW F H σ m) 'c' 1 x2 f2)(hc1:∀F H σ,DT X (cW F H σ m) 'c' c1 t1)(hes:∀F H σ,DE X (cW F H σ m) 'c' 0 es fs)(hc2:∀F H σ,DT X (cW F H σ m) 'c' c2 t2)(hk:∀F H σ,DE X (cW F H σ m) 'c' 0 ek fk)(hy:∀F H σ,DE X (cW F H σ m) 'c' 0 ey fy)(ok:↥((nN c ow && ow.getD c 0 == 1 && !Z.ps.contains n && !Z.ps.contains e && !Z.ps.contains s && c != n && c != e && c != s && n != e && n != s && decide (e<ow.length) && decide (s<ow.length))=true))(hl:↥(X.N[l]?=some xl))(hc:↥(X.N[c]?=some xc))(hn:↥(X.N[n]?=some xn))(he:↥(X.N[e]?=some xe))(hs:↥(X.N[s]?=some xs))(vl:#v[AU X.env.scope xl])(vc:#v[AU X.env.scope xc])(vn:#v[AU X.env.scope xn])(dl:⇑((xl == ("__debug__":Str))=false/\(xl == ("__classdict__":Str))=false))(dc:⇑((xc == ("__debug__":Str))=false/\(xc == ("__classdict__":Str))=false))(dn:⇑((xn == ("__debug__":Str))=false/\(xn == ("__classdict__":Str))=false))(ln:#v[TQ X.env.scope xn])(le:#v[TQ X.env.scope xe])(ls:#v[TQ X.env.scope xs])(fn:X.fn xn=true\/X.env.scope.names.lookup xn=some .local:=by first|exact .inl rfl|exact .inr rfl)(fe:X.fn xe=true\/X.env.scope.names.lookup xe=some .local:=by first|exact .inl rfl|exact .inr rfl)(fs':X.fn xs=true\/X.env.scope.names.lookup xs=some .local:=by first|exact .inl rfl|exact .inr rfl)(hp:PassesOwn 'b' X.A X.env X.xe:=by exact PassesOwn.leaving)(hca:↥(X.calm=true))(hf: ~~~(∀x,foldedSetIterable (.Name xl qa) X.env x=pure x))(hw1:↥(swapsWith (.Dict [some (.Constant (.str "off") j1 q1),some (.Constant (.str "back") j2 q2),some (.Constant (.str "on") j3 q3)] [x1,x2,.Name xc q4] q5) (some (.Name xn q6)) q7.line X.env=pure false))(hw2:↥(swapsWith es (some (.Name xs qc)) qd.line X.env=pure false))(hw3:↥(swapsWith (.Call (.Attribute (.Subscript (.Name xn qe) ek qf) "remove" qg) [ey] [] qh) none qi.line X.env=pure false))(hsl:š ek:=by exact λ_ _=>rfl)(hbase:↥(attributeBase (.Subscript (.Name xn qe) ek qf) "remove" X.env (eval (.Subscript (.Name xn qe) ek qf) X.env)=eval (.Subscript (.Name xn qe) ek qf) X.env))(hfew:↥(((backTo qh (starEach [ey] X.env)).all (λx=>!x.1) && (backToKw qh (keywordEach [] X.env)).all (λx=>x.1.isSome)
   && decide ([ey].length+([]:List Keyword).length+(if ([]:List Keyword).isEmpty then 0 else 1)<30))=true))(hline:↥((qg.endLine == qh.line)=true))(hst:↥(Zse ey [] X.env))(hplain:↥(Zbt qh [] X.env)):
  BU X Z ow ow' ol ox 0 [.Assign [.Name xn q6] (.Dict [some (.Constant (.str "off") j1 q1),some (.Constant (.str "back") j2 q2),some (.Constant (.str "on") j3 q3)] [x1,x2,.Name xc q4] q5) q7,
   .For (.Name xe q8) (.Name xl qa) [.If c1 [.Return (some (.Constant (.bool false) j4 q9)) qb] [] qj,.Assign [.Name xs qc] es qd,.If c2 [.Return (some (.Constant (.bool false) j5 qk)) ql] [] qm,.Expr (.Call (.Attribute (.Subscript (.Name xn qe) ek qf) "remove" qg) [ey] [] qh) qi] [] qn,
   .Return (some (.Constant 'j' j6 qo)) qp] (nQ l c n e s f1 f2 t1 fs t2 fk fy):=by
 refine aPC ok λo1 o2 o3 o4 o5 o6 o7 o8 o9 oa ob oc=>?_;refine DB.mono (kR (KK hN hn ln (aC2 (yF DC (aFX m h1) (yF DC (aFX m h2) (yF DC (dA hc vc dc.1 dc.2) aC1))) rfl rfl 'e' 'e') hw1 fn)
  (kR (T3 hp hca (UU (dA hl vl dl.1 dl.2)) (cL (i:=e) hN he le fe) (kR (TW (aFZ m hc1) (rZ (DG M1)) DF) (kR (KK hN hs ls (uY m hes) hw2 fs') (kR (TW (aFZ m hc2) (rZ (DG M1)) DF)
   (rZ (M3 (UK PySem.F.plainAttrs_list PySem.F.slot_list_remove PySem.F.type_list_remove RL (OK ∅ (dA hn vn dn.1 dn.2) (uY m hk) hsl) (dO (uY m hy) iW hst) hbase hfew hline hst hplain) hw3))))) hf) (rZ (DG M1)))) λDn σ H h=>?_
 exact LU (Ν o3) (Ν o4) (Ν o5) o1 (eq_of_beq o2) (XN o6) (XN o7) (XN o8) (XN o9) (XN oa) (of_decide_eq_true ob) (of_decide_eq_true oc) S h
end
end L2
namespace L2
open PySem PySem.Spec
section
end
end L2
set_option maxRecDepth 100000
set_option maxHeartbeats 4000000
open L2 in
seal DE DT DZ BU DV DA DI DO TC PG ĺ ĕ Ķ PW
namespace Toy
open PySem L2
@[inline]def top(i:Nat):Stmt:=PySem.Challenge.pw_keel_k65_whole_out_at_their_port.main.body.getD i (.Pass ⟨0,0,0,0⟩)
abbrev qW:Stmt:=top 7
abbrev qX:ZG:=["one","other","rest"]
abbrev LV:Stmt:=top 8
abbrev LW:ZG:=["top","bottom","divisor"]
abbrev E0:Stmt:=top 11
abbrev E1:ZG:=["rooms","lines","tank","room","line"]
abbrev RQ:Stmt:=top 12
abbrev RR:ZG:=["line","pivot_line","column","scale","step","share","numbers"]
def tJ:(["one","other","line","pivot_line","column","scale","step","share","numbers"]:ZG).Nodup:=by decide +kernel
abbrev XO:Stmt:=top 13
abbrev XQ:ZG:=["pivot_line","column","scale","numbers"]
abbrev qG:Stmt:=top 14
abbrev BB:ZG:=["table","below"]
def k9:(["place","line","table","below"]:ZG).Nodup:=by decide +kernel
abbrev E2:Stmt:=top 15
abbrev E3:ZG:=["table","line","column","best","one","other"]
abbrev E4:Stmt:=top 16
abbrev E5:ZG:=["table","line","best","column"]
abbrev LX:Stmt:=top 17
abbrev LY:ZG:=["table","rows","shares","first_row","first_room","parts"]
abbrev IJ:Stmt:=top 18
abbrev IK:ZG:=["table","line","shares","number","share"]
abbrev IL:Stmt:=top 19
abbrev IN:ZG:=["table","rows","place","shares"]
abbrev IP:Stmt:=top 20
abbrev IQ:ZG:=["table","rows","rooms","reached","number","line","fills"]
abbrev u5:Stmt:=XC (top 10) 0
abbrev u6:ZG:=["self","rows","rooms"]
def iO:(["row","top","self","rows","rooms"]:ZG).Nodup:=by decide +kernel
abbrev E6:Stmt:=XC (top 10) 1
abbrev E7:ZG:=["self","place","column","pivot_line","lines","freed"]
abbrev aDA:Stmt:=top 21
abbrev aDB:ZG:=["rows","rooms","table","place","column"]
abbrev aDC:Stmt:=top 26
abbrev aDD:ZG:=["sums","weight","place"]
abbrev RS:Stmt:=top 27
abbrev RT:ZG:=["ship","cargo","own","sums","stack","boxes","t","box","place"]
abbrev BC:Stmt:=top 28
abbrev BD:ZG:=["tanks","axis","high","sums"]
abbrev E8:Stmt:=top 29
abbrev E9:ZG:=["tanks","axis","low","sums"]
abbrev RU:Stmt:=top 30
abbrev RV:ZG:=["ship","cargo","bounds","tanks","sums"]
abbrev LZ:Stmt:=top 32
abbrev L0:ZG:=["ship"]
abbrev RW:Stmt:=top 33
abbrev RY:ZG:=["ship","cargo"]
abbrev RZ:Stmt:=top 36
abbrev R8:ZG:=["thing"]
abbrev L4:Stmt:=top 37
abbrev L5:ZG:=["ship","s","other","one","two"]
abbrev IR:Stmt:=top 39
abbrev IS:ZG:=["box","names"]
abbrev tK:Stmt:=top 40
abbrev tL:ZG:=["stack","s","boxes","rules","above","t","box"]
abbrev XR:Stmt:=top 41
abbrev XS:ZG:=["ship","one","other"]
abbrev yS:Stmt:=top 42
abbrev yT:ZG:=["cargo","placed","s","boxes","t","box"]
abbrev yU:Stmt:=top 43
abbrev yV:ZG:=["ship","cargo","rules","placed","number","one","other"]
abbrev XU:Stmt:=top 44
abbrev XV:ZG:=["ship","cargo","rules","s","boxes"]
abbrev yW:Stmt:=top 46
abbrev yX:ZG:=["boxes","port","t","box"]
abbrev u7:Stmt:=top 47
abbrev u8:ZG:=["boxes","s","port","lifted","moves"]
abbrev L6:Stmt:=top 48
abbrev L7:ZG:=["cargo","call","moves","s","boxes"]
def qH:(["box","s","cargo","call","moves",".s","boxes"]:ZG).Nodup:=by decide +kernel
abbrev L8:Stmt:=top 49
abbrev L9:ZG:=["cargo","call"]
def qI:(["step","box","cargo","call"]:ZG).Nodup:=by decide +kernel
abbrev MA:Stmt:=top 50
abbrev MB:ZG:=["cargo","call"]
abbrev XW:Stmt:=top 51
abbrev XX:ZG:=["cargo"]
def IT:(["boxes","cargo"]:ZG).Nodup:=by decide +kernel
abbrev R9:Stmt:=top 52
abbrev SA:ZG:=["cargo","step","box","behind"]
abbrev MC:Stmt:=top 53
abbrev MD:ZG:=["cargo","names","boxes","box"]
abbrev BE:Stmt:=top 54
abbrev BF:ZG:=["ship","cargo","loads","names","box","s"]
abbrev ME:Stmt:=top 55
abbrev MF:ZG:=["ship","cargo","rules"]
abbrev XY:Stmt:=top 56
abbrev XZ:ZG:=["ship","cargo","call","behind","log","step","box","told"]
abbrev X0:Stmt:=top 58
abbrev X1:ZG:=["ship","cargo","calls","told","call","outcome"]
abbrev IU:Stmt:=top 60
abbrev IV:ZG:=["_law_script","_law_k"]
abbrev X2:Stmt:=top 61
abbrev X3:ZG:=["_law_script","_law_k","_law_many"]
abbrev SB:Stmt:=top 62
abbrev SC:ZG:=["_law_script","_law_k","_law_many"]
abbrev SD:Stmt:=top 63
abbrev SE:ZG:=["_law_script","_law_k","_law_many"]
abbrev X4:Stmt:=top 64
abbrev X5:ZG:=["_law_script","_law_k","_law_n","_law_letters","_law_many","_law_spot","_law_base","_law_sign"]
abbrev SF:Stmt:=top 65
abbrev SG:ZG:=["_law_script"]
abbrev SH:Stmt:=top 66
abbrev SI:ZG:=["_law_script","_law_s","_law_along","_law_across","_law_high","_law_most","_law_name_here"]
abbrev X6:Stmt:=top 67
abbrev X7:ZG:=["_law_script","_law_k","_law_along","_law_across","_law_room"]
abbrev X8:Stmt:=top 68
abbrev X9:ZG:=["_law_script","_law_scale_here","_law_own","_law_long","_law_wide_here","_law_most","_law_bounds","_law_stacks","_law_tanks","_law_apart","_law_k","_law_one","_law_other_here"]
abbrev aDE:Stmt:=top 69
abbrev aDF:ZG:=["_law_script","_law_n","_law_scale_here","_law_port","_law_kind","_law_bears"]
abbrev SJ:Stmt:=top 70
abbrev SK:ZG:=["_law_script","_law_ship_here","_law_many","_law_cargo_here","_law_n"]
def FA:(["_law_stack_here","_law_script","_law_ship_here","_law_many","_law_cargo_here","_law_n"]:ZG).Nodup:=by decide +kernel
abbrev YA:Stmt:=top 71
abbrev YB:ZG:=["_law_script","_law_ship_here","_law_first","_law_turn","_law_loads","_law_n"]
abbrev IW:Stmt:=top 72
abbrev yY:ZG:=["_law_found","_law_due","_law_kind","_law_k"]
def u9:jQ yY (yY.take 2) (bD IW):=IF (by decide +kernel)
abbrev YC:Stmt:=top 73
abbrev YD:ZG:=["_law_ship_here","_law_most","_law_stacks","_law_stack_here"]
abbrev YE:Stmt:=top 74
abbrev YF:ZG:=["_law_cargo_here","_law_call_here","_law_told","_law_s","_law_loads"]
abbrev MG:Stmt:=top 75
abbrev MH:ZG:=["_law_cargo_here","_law_call_here","_law_told","_law_boxes","_law_below","_law_box_here"]
abbrev aDG:Stmt:=top 76
abbrev aDH:ZG:=["_law_cargo_here","_law_call_here","_law_told","_law_boxes"]
abbrev BG:Stmt:=top 77
abbrev BH:ZG:=["_law_log","_law_out_here","_law_lifted_here","_law_loads","_law_named","_law_entry","_law_step"]
abbrev aMK:Stmt:=top 78
abbrev aML:ZG:=["_law_script","_law_ship_here","_law_many","_law_cargo_here","_law_calls","_law_turn","_law_told","_law_here","_law_k","_law_lifted_here","_law_loads"]
abbrev aPE:Pos:=(DX (dQ qG)).getD ⟨0,0,0,0⟩
set_option genInjectivity false in
set_option genSizeOf false in
structure Txt(K:ZC)(mg:ZD) where
 x0:Fg K mg "greatest_divisor" qW qX 2
 x1:Fg K mg "fraction" LV LW 2
 x2:Fg K mg "room_lines" E0 E1 1
 x3:Fg K mg "cleared" RQ RR 4
 x4:Fg K mg "turned" XO XQ 3
 x5:Fg K mg "place_below" qG BB 1
 x6:Fg K mg "goes_ahead" E2 E3 4
 x7:Fg K mg "column_for" E4 E5 2
 x8:Fg K mg "parts_of" LX LY 3
 x9:Fg K mg "shares_of" IJ IK 2
 x10:Fg K mg "told_none" IL IN 3
 x11:Fg K mg "told_fill" IP IQ 3
 x12:Fd K "__init__" "Table.__init__" u5 u6 3
 x13:Fd K "swap" "Table.swap" E6 E7 3
 x14:Fg K mg "least" aDA aDB 2
 x15:Fg K mg "added" aDC aDD 3
 x16:Fg K mg "weights" RS RT 2
 x17:Fg K mg "row_of_high" BC BD 4
 x18:Fg K mg "row_of_low" E8 E9 4
 x19:Fg K mg "rows_of" RU RV 2
 x20:Fg K mg "rooms_of" LZ L0 1
 x21:Fg K mg "ballast" RW RY 2
 x22:Fg K mg "is_name" RZ R8 1
 x23:Fg K mg "apart_by" L4 L5 3
 x24:Fg K mg "check_box" IR IS 2
 x25:Fg K mg "broken_in_stack" tK tL 3
 x26:Fg K mg "far_of" XR XS 3
 x27:Fg K mg "placed_boxes" yS yT 1
 x28:Fg K mg "broken_apart" yU yV 2
 x29:Fg K mg "broken" XU XV 2
 x30:Fg K mg "lifted_boxes" yW yX 2
 x31:Fg K mg "moves_in_stack" u7 u8 3
 x32:Fg K mg "moves_of" L6 L7 2
 x33:Fg K mg "steps_of" L8 L9 2
 x34:Fg K mg "moved_at" MA MB 2
 x35:Fg K mg "copied" XW XX 1
 x36:Fg K mg "stepped" R9 SA 3
 x37:Fg K mg "names_in" MC MD 1
 x38:Fg K mg "check_loads" BE BF 3
 x39:Fg K mg "standing" ME MF 2
 x40:Fg K mg "called" XY XZ 3
 x41:Fg K mg "voyage" X0 X1 3
 x42:Fg K mg "_law_cell_at" IU IV 2
 x43:Fg K mg "_law_draw" X2 X3 3
 x44:Fg K mg "_law_other" SB SC 3
 x45:Fg K mg "_law_third" SD SE 3
 x46:Fg K mg "_law_name" X4 X5 3
 x47:Fg K mg "_law_scale" SF SG 1
 x48:Fg K mg "_law_stack" SH SI 2
 x49:Fg K mg "_law_tank" X6 X7 2
 x50:Fg K mg "_law_ship" X8 X9 1
 x51:Fg K mg "_law_box" aDE aDF 2
 x52:Fg K mg "_law_cargo" SJ SK 3
 x53:Fg K mg "_law_call" YA YB 4
 x54:Fg K mg "_law_same" IW yY 2
 x55:Fg K mg "_law_wide" YC YD 1
 x56:Fg K mg "_law_left" YE YF 2
 x57:Fg K mg "_law_lifted" MG MH 2
 x58:Fg K mg "_law_out" aDG aDH 2
 x59:Fg K mg "_law_steps_are" BG BH 4
 x60:Fg K mg "law" aMK aML 1
 c_Table:Addr
 n_Table:W.nsIn K mainGlobals "Table"=some (some (.ref c_Table))
 q_Table:mg "Table"=some (.ref c_Table)
 cl_Table:S8 K c_Table
 x77:WM K "Table" "free"
 x78:WM K "Table" "goal"
 x79:WM K "Table" "held"
 x80:WM K "Table" "lines"
 x81:WM K "Table" "scale"
 mk_Table:Mk K c_Table x12.f
 me_Table_swap:ň K c_Table "swap" x13.f
 lamC:Addr
 lamP:Addr
 lamE:jR K=some (lamC,lamP,aPE)
 lamF:x5.fd.code=.ref lamC
 x61:mg "abs"=none
 x62:mg "all"=none
 x63:mg "bool"=none
 x64:mg "enumerate"=none
 x65:mg "int"=none
 x66:mg "isinstance"=none
 x67:mg "len"=none
 x68:mg "list"=none
 x69:mg "max"=none
 x70:mg "min"=none
 x71:mg "range"=none
 x72:mg "reversed"=none
 x73:mg "str"=none
 x74:mg "sum"=none
 x75:mg "tuple"=none
 x76:mg "zip"=none
 g_ABOVE:∃t,mg "ABOVE"=some (.int 3 t)
 g_ACROSS:∃t,mg "ACROSS"=some (.int 2 t)
 g_ALONG:∃t,mg "ALONG"=some (.int 1 t)
 g_LONGEST_NAME:∃t,mg "LONGEST_NAME"=some (.int 8 t)
def yZ(fn:ZI->Res D):M Fl:=
  (eK (qR (dB (sM (qB .tuple .list) (bF 1)))
   (eK (jK 2 (Ĭ (dB (sM (gE .tuple) (bF 1))) (sM (gE .tuple) (bF 0)) (sM (gE .list) (bF 0))))
   (eK (qR (QM (p6 (dB (bF 2))) (dB (iF EB (KC lZ [(bF 0)]) (KC lZ [(bF 1)]))))
    (pL (dC (.bool false)))
    xI)
   (eK (nF (setN 3) (pM [(KC lZ [(bF 1)])])
    (qR (p6 (dB (iZ fn [.val (iF fM (bF 0) (bF 3)),.val (iF fM (bF 1) (bF 3))])))
     (pL (dC (.bool false)))
     xI))
   (pL (dC 'j')))))
   xI)
  (eK (qR (dB (sM (gE .str) (bF 1)))
   (pL (mT (sM (gE .str) (bF 0)) (iF TF (bF 0) (bF 1))))
   xI)
  (pL (mT (sM (gE .int) (bF 0)) (mT (BZ (sM (gE .bool) (bF 0))) (iF TF (bF 0) (bF 1)))))))
def tN:Nat->ZI->Res D
 |0=>λ_=>.stuck
 |n+1=>aR 4 [] 0 (yZ (tN n))
abbrev Dq{x:Str}{st:Stmt}{N:ZG}{k:Nat}(p:∀{K mg},Txt K mg->Fg K mg x st N k)(lev:Nat)(ps ow:ZH)(rm:Nat):={b:M Fl // ∀{P:Program}{w:World}{K:ZC}{mg:ZD}{base:Heap}(T:Txt K mg)(_:tF K mg base),(p T).Ok P w mg base lev ps ow rm (aR ow.length ps rm b)}
open PySem.Spec PyProof.Rows in
def mq{x:Str}{st:Stmt}{N:ZG}{k lev rm:Nat}{p:∀{K mg},Txt K mg->Fg K mg x st N k}{ps ow:ZH}{b:M Fl}(h:∀{P:Program}{w:World}{K:ZC}{mg:ZD}{base:Heap}(T:Txt K mg)(_:tF K mg base){cdv:Value}{A:Around}{outer:List Env}{s:Shared}{H:Hp}{E:XK}{F0:Hp}{g0:ZP}{σ0:L2.St}{wf:∀a i q,g0 a=some (i,q)->i∈ps}(_:(p T).fd.code=cdv)(_:fD lev (A.deeper (envOfC x (bD st) s.heap.objs.size (p T).f cdv)))(_:N.Nodup),
  BU (qP (A0 P w K) P w K mg base N x (bD st) (p T).f cdv A outer s H E) ⟨F0,H,g0,ps,σ0,ow,wf⟩ ow ow ow ow rm (dQ st) b)(hs:Ľ N k (bD st)=true:=by decide +kernel)(hN:↥(ow.length=N.length)):(Dq p (lev+1) ps ow rm):=⟨b,λT B=>(p T).okN (λa c d=>h T B a c d) hs hN⟩
abbrev Dn(R:∀(_:Program)(_:World)(K:ZC)(mg:ZD)(_:Heap),Txt K mg->M Fl->Prop):={b:M Fl // ∀{P:Program}{w:World}{K:ZC}{mg:ZD}{base:Heap}(T:Txt K mg)(_:tF K mg base),R P w K mg base T b}
local macro_rules| `(no_index $x:ident)=>`(haveI h:($x).1=?p:=(by unfold $x;dsimp![mq,List.length_cons,List.length_nil,List.set_cons_zero,List.set_cons_succ,List.getD,List.getElem?_cons_zero,List.getElem?_cons_succ,Option.getD_some,List.replicate_succ,List.replicate_zero,List.cons_append,List.nil_append,Nat.reduceAdd];exact rfl);?p)
section
variable {P:Program}{w:World}{K:ZC}{mg:ZD}{base:Heap}
def jD:(Dq Txt.x0 1 [] [0,0,0] 0):=mq λT B=>λhcd hr nd=>(aA (GZ PassesOwn.leaving (bL aG (lV hr.units) sN rx aK (bC _)) (aA (aH 2 aG rx nd) (aA (aH 0 aG rx nd) (aC (aH 1 aG rx nd))))) (aC (aN rx)))
def qY:M Fl:=no_index jD
def jE:ZI->Res D:=aR 3 [] 0 qY
def qZ:(Dq Txt.x1 2 [] [0,0,0] 0):=mq λT B=>λhcd hr nd=>(aA (bX (bL aG (fE hr.units) iN rx aK (bC _)) (aC fZ) aZ) (aA (aH 2 aG (aB (fn:=jE) T.x0 (jD.2 T B) hr (aO (iY aG r9 ED rfl T.x61 DR rv) (aO (iY aG r9 ED rfl T.x61 DR rv) cM))) nd) (aA (bX (bL aG pU p8 rx aK (bC _)) (aC (aH 2 aG (kF rx) nd)) aZ) (aC (aN (dL (aF (D8 aG rx rx) (aF (D8 aG rx rx) aY))))))))
def rA:M Fl:=no_index qZ
def mD:ZI->Res D:=aR 3 [] 0 rA
def tO:(Dq Txt.x2 1 [] [0,0,0,0,0] 0):=mq λT B=>λhcd hr nd=>(aA (aH 1 aG (cJ aG aY) nd) (aA (eG 2 3 nd (gW rfl T.x64 rx) (aA (aH 4 aG (U2 aG (cC aG (f7 "other" (bO rx) (λC fp s H=>bV) (λC fp s H=>aK))) (cC aG (cJ aG rv))) nd) (aA (D5 4 aG aK rx) (bS 4 (aC (bR (cE 1 aG rx))))))) (bS 1 (aC (aN rx)))))
def mE:M Fl:=no_index tO
def tP:ZI->Res D:=aR 5 [] 0 mE
def vA:(Dq Txt.x3 1 [] [0,0,0,0,0,0,0] 0):=mq λT B=>λhcd hr nd=>(aA (aH 4 aG (kF rx) nd) (aA (aH 5 aG rx nd) (aA (l8 6 (xs:=[ "one" ,"other" ]) aG aG rfl nd (EL rfl T.x76 rx rx) (λC fp s H=>(uH rfl (dX (cL (i:=0) tJ rfl (Or.inl rfl)) (dX (cL (i:=1) tJ rfl (Or.inl rfl)) oH)))) (sR (is:=[0,1]) aG (by intro i hi;simp![Õ,ë,or_false]at hi;rcases hi with rfl|rfl<;>exact⟨⋯,cP rfl,⋯,rfl⟩) rfl) (λC fp s H=>bV) (λC fp s H=>(D8 aG rx rx))) (aA (D5 6 aG rx rx) (bS 6 (aC (aN rx)))))))
def vB:M Fl:=no_index vA
def vC:ZI->Res D:=aR 7 [] 0 vB
def IX:(Dq Txt.x4 1 [] [0,0,0,0] 0):=mq λT B=>λhcd hr nd=>(aA (dE 3 "one" nd (bO rx) (λC fp s H=>bV) (λC fp s H=>(kF rx))) (aA (D5 3 aG (kF rx) rx) (bS 3 (aC (aN rx)))))
def y0:M Fl:=no_index IX
def IY:ZI->Res D:=aR 4 [] 0 y0
def kH:(Dq Txt.x5 1 [] [0,0] 0):=mq λT B=>λhcd hr nd=>(aA (l8 1 (xs:=[ "place" ,"line" ]) aG aG rfl nd (gW rfl T.x64 (dN "Table" T.x80 rx)) (λC fp s H=>(uH rfl (dX (cL (i:=0) k9 rfl (Or.inl rfl)) (dX (cL (i:=1) k9 rfl (Or.inl rfl)) oH)))) (sR (is:=[0,1]) aG (by intro i hi;simp![Õ,ë,or_false]at hi;rcases hi with rfl|rfl<;>exact⟨⋯,cP rfl,⋯,rfl⟩) rfl) (λC fp s H=>(l7 (bL aG pU p8 (fG aG rx (kF aK)) aK (bC _)))) (λC fp s H=>rx)) (aC (aN (uU 2 (λF H σ=>(RD 0 "Table" (hr.mono (î _)) rfl rfl T.x70 B T.lamE (hcd.symm.trans T.lamF) T.x79 rx ⟨by ac_nf0,rfl,rfl,rfl,rfl⟩ (λ_ _ _ _=>rfl) ⋯ ⋯ ⋯ ⋯))))))
def kJ:M Fl:=no_index kH
def cB:ZI->Res D:=aR 2 [] 0 kJ
def tQ:(Dq Txt.x6 1 [] [0,0,0,0,0,0] 0):=mq λT B=>λhcd hr nd=>(aA (aH 4 aG (gM aG (fG aG (dN "Table" T.x78 rx) rx) (kF rx)) nd) (aA (aH 5 aG (gM aG (fG aG (dN "Table" T.x78 rx) rx) (kF rx)) nd) (aC (aN (aLG (nC aG pU p8 rx rx (bC _)) (uS (uT (nC aG (fE hr.units) iN rx rx (bC _)) (uS (nC aG pU p8 (fG aG (dN "Table" T.x77 rx) rx) (fG aG (dN "Table" T.x77 rx) rx) (bC _))))))))))
def mF:M Fl:=no_index tQ
def tR:ZI->Res D:=aR 6 [] 0 mF
def tU:(Dq Txt.x7 2 [] [0,0,0,0] 0):=mq λT B=>λhcd hr nd=>(aA (aH 2 aG xH nd) (aA (dW 3 nd (dM rfl T.x71 (bQ aG rfl T.x67 (dN "Table" T.x77 rx))) (aC (bX (jT (aHK (bL aG pU p8 rx aK (bC _)) (aBU (jT (p7 (bL aG (UO.or T8) ώ rx xH (bC _)) (qU (dS (aB (fn:=tR) T.x6 (tQ.2 T B) hr ra)))))))) (aC (aH 2 aG rx nd)) aZ))) (aC (aN rx))))
def iV:M Fl:=no_index tU
def mG:ZI->Res D:=aR 4 [] 0 iV
def rB:(Dq Txt.x8 3 [] [0,0,0,0,0,0] 0):=mq λT B=>λhcd hr nd=>(aA (aH 3 aG (bQ aG rfl T.x67 (dN "Table" T.x77 rx)) nd) (aA (aH 4 aG (bM aG rx 'k') nd) (aA (dE 5 "number" nd (dM rfl T.x71 (bM aG rx (bQ aG rfl T.x67 (dN "Table" T.x77 rx)))) (λC fp s H=>bV) (λC fp s H=>(aB (fn:=mD) T.x1 (qZ.2 T B) hr (aO (OQ hr.units rx rx aK) (aO (dN "Table" T.x81 rx) cM))))) (aC (aN (dL (aF (cC aG (VO 5 aG (jU rx) (jU rx))) (aF (cC aG (VO 5 aG (jU rx) oR)) aY))))))))
def rC:M Fl:=no_index rB
def rD:ZI->Res D:=aR 6 [] 0 rC
def nR:(Dq Txt.x9 1 [] [0,0,0,0,0] 30):=mq λT B=>λhcd hr nd=>(aA (aH 2 aG (EU aG) nd) (aA (eG 3 4 nd (EL rfl T.x76 (dN "Table" T.x77 rx) (cC aG (nH aG wG EG rx oR (jU (kF aK))))) (aC (tE 2 hr.units rx rx))) (aC (aN (EQ 2 aG)))))
def nS:M Fl:=no_index nR
def nT:ZI->Res D:=aR 5 [] 30 nS
def v8:(Dq Txt.x10 4 [] [0,0,0,0] 0):=mq λT B=>λhcd hr nd=>(aA (aH 3 aG (aB (fn:=nT) T.x9 (nR.2 T B) hr (aO rx (aO (fG aG (dN "Table" T.x80 rx) rx) cM))) nd) (aA (tE 3 hr.units (dN "Table" T.x81 rx) (fG aG (dN "Table" T.x79 rx) rx)) (bS 3 (aC (aN (dL (aF fV (aF (aB (fn:=rD) T.x8 (rB.2 T B) hr ra) aY))))))))
def nU:M Fl:=no_index v8
def nV:ZI->Res D:=aR 4 [] 0 nU
def v9:(Dq Txt.x11 4 [] [0,0,0,0,0,0,0] 0):=mq λT B=>λhcd hr nd=>(aA (aH 3 aG (EU aG) nd) (aA (eG 4 5 nd (EL rfl T.x76 (dN "Table" T.x79 rx) (dN "Table" T.x80 rx)) (aC (tE 3 hr.units (fG aG rx (kF aK)) rx))) (bS 3 (aA (dE 6 "number" nd (dM rfl T.x71 'k') (λC fp s H=>bV) (λC fp s H=>(aB (fn:=mD) T.x1 (qZ.2 T B) hr (aO (OQ hr.units rx rx aK) (aO (dN "Table" T.x81 rx) cM))))) (bS 6 (aC (aN (dL (aF fV (aF rx (aF (aB (fn:=rD) T.x8 (rB.2 T B) hr (aO rx (aO rx (aO (cC aG (aB (fn:=nT) T.x9 (nR.2 T B) hr (aO rx (aO (dN "Table" T.x78 rx) cM)))) cM)))) aY)))))))))))
def nW:M Fl:=no_index v9
def nX:ZI->Res D:=aR 7 [] 0 nW
def lB:(Dn λP w K mg base T b=>T.x12.Ok P w mg base 2 [0] [20,0,0] 0 (aR 3 [0] 0 b)):=⟨_,λT B=>T.x12.okN λhcd hr nd=>(aA (nJ 0 "Table" aG T.x81 aK) (aA (nJ 0 "Table" aG T.x77 (W3 aG rfl rfl T.x68 rfl T.x71 'k')) (aA (nJ 0 "Table" aG T.x79 (W4 aG rfl rfl T.x68 rfl T.x71 'k' (bM aG (bM aG 'k' 'k') 'k'))) (aA (nJ 0 "Table" aG T.x80 (bM aG (cC aG (sO (xs:=[ "row" ,"top" ]) aG aG rfl (bO rx) (λC fp s H=>(uH rfl (dX (cL (i:=0) iO rfl (Or.inl rfl)) (dX (cL (i:=1) iO rfl (Or.inl rfl)) oH)))) (sR (is:=[0,1]) aG (by intro i hi;simp![Õ,ë,or_false]at hi;rcases hi with rfl|rfl<;>exact⟨⋯,cP rfl,⋯,rfl⟩) rfl) (λC fp s H=>bV) (λC fp s H=>(bM aG (cC aG (uO aG lU EE rfl T.x68 iQ rv)) (cC aG (cJ aG rv)))))) (aB (fn:=tP) T.x2 (tO.2 T B) hr ra))) (aC (nJ 0 "Table" aG T.x78 (bM aG (cC aG (f7 "room" (bO rx) (λC fp s H=>bV) (λC fp s H=>aK))) (cC aG (cJ aG rv)))))))))⟩
def gR:M Fl:=no_index lB
def lC:ZI->Res D:=aR 3 [0] 0 gR
def tW(T:Txt K mg)(B:tF K mg base):T.x12.Ok P w mg base 2 [0] [20,0,0] 0 lC:=lB.2 T B
def tX:(Dn λP w K mg base T b=>T.x13.Ok P w mg base 2 [0] [20,0,0,0,0,0] 0 (aR 6 [0] 0 b)):=⟨_,λT B=>T.x13.okN λhcd hr nd=>(aA (aH 3 aG (fG aG (oX 0 "Table" T.x80) rx) nd) (aA (dE 4 "line" nd (bO (oX 0 "Table" T.x80)) (λC fp s H=>bV) (λC fp s H=>(aB (fn:=vC) T.x3 (vA.2 T B) hr (aO rx (aO rx (aO rx (aO (oX 1 "Table" T.x81) cM))))))) (aA (D5 4 aG (aB (fn:=IY) T.x4 (IX.2 T B) hr (aO rx (aO rx (aO (oX 0 "Table" T.x81) cM)))) rx) (aA (nJ 0 "Table" aG T.x78 (aB (fn:=vC) T.x3 (vA.2 T B) hr (aO (oX 0 "Table" T.x78) (aO rx (aO rx (aO (oX 0 "Table" T.x81) cM)))))) (bS 4 (aA (nJ 0 "Table" aG T.x80 rx) (aA (nJ 0 "Table" aG T.x81 (kF rx)) (aA (aH 5 aG (uU 6 (λF H σ=>(fG aG (dN "Table" T.x79 rx) rx))) nd) (aA (CD 0 6 "Table" aG T.x79 (uU 6 (λF H σ=>(fG aG (dN "Table" T.x77 rx) rx))) (λF H σ=>rx)) (aC (CD 0 6 "Table" aG T.x77 rx (λF H σ=>rx))))))))))))⟩
def mH:M Fl:=no_index tX
def mJ:ZI->Res D:=aR 6 [0] 0 mH
def BI(T:Txt K mg)(B:tF K mg base):T.x13.Ok P w mg base 2 [0] [20,0,0,0,0,0] 0 mJ:=tX.2 T B
def O2:(Dq Txt.x14 5 [] [0,0,0,0,0] 0):=mq λT B=>λhcd hr nd=>(aA (aH 2 aG (aCV 5 aG ⟨T.n_Table,T.cl_Table⟩ T.mk_Table (tW T B) (hr.mono ⋯) (by rfl) T.q_Table T.x12.b ra 20) nd) (aA (aH 3 aG (uU 5 (λF H σ=>(aB (fn:=cB) T.x5 (kH.2 T B) hr ra))) nd) (aA (GZ PassesOwn.leaving (bL aG (aBJ.or aA3) U6 rx xH (bC _)) (aA (aH 4 aG (uU 5 (λF H σ=>(aB (fn:=mG) T.x7 (tU.2 T B) hr (aO rx (aO (fG aG (dN "Table" T.x80 rx) rx) cM))))) nd) (aA (bX (bL aG (UO.or T8) ώ rx xH (bC _)) (bS 2 (aC (aN (aB (fn:=nV) T.x10 (v8.2 T B) hr ra)))) aZ) (aA (bR (aCU 2 aG ⟨T.n_Table,T.cl_Table⟩ T.me_Table_swap (BI T B) (hr.mono ⋯) T.x13.b ra)) (aC (aH 3 aG (uU 5 (λF H σ=>(aB (fn:=cB) T.x5 (kH.2 T B) hr ra))) nd)))))) (bS 2 (aC (aN (aB (fn:=nX) T.x11 (v9.2 T B) hr ra)))))))
def FB:M Fl:=no_index O2
def FC:ZI->Res D:=aR 5 [] 0 FB
def FD:(Dq Txt.x15 1 [] [0,0,0] 0):=mq λT B=>λhcd hr nd=>(aC (aN rx))
def FE:M Fl:=no_index FD
def wM:ZI->Res D:=aR 3 [] 0 FE
def CL:(Dq Txt.x16 2 [] [0,0,0,0,0,0,0,0,0] 0):=mq λT B=>λhcd hr nd=>(aA (aH 2 aG rx nd) (aA (aH 3 aG (aB (fn:=wM) T.x15 (FD.2 T B) hr (aO rx (aO rx (aO (nH aG UH VA rx (jU aK) oR) cM)))) nd) (aA (eG 4 5 nd (EL rfl T.x76 rx rx) (aC (eG 6 7 nd (gW rfl T.x64 rx) (aA (aH 8 aG rx nd) (aC (aH 3 aG (aB (fn:=wM) T.x15 (FD.2 T B) hr ra) nd)))))) (aC (aN rx)))))
def vD:M Fl:=no_index CL
def CN:ZI->Res D:=aR 9 [] 0 vD
def gX:(Dq Txt.x17 1 [] [0,0,0,0] 0):=mq λT B=>λhcd hr nd=>(aC (aN (dL (aF (cC aG (f7 "tank" (bO rx) (λC fp s H=>bV) (λC fp s H=>rx))) rv))))
def kK:M Fl:=no_index gX
def gY:ZI->Res D:=aR 4 [] 0 kK
def mK:(Dq Txt.x18 1 [] [0,0,0,0] 0):=mq λT B=>λhcd hr nd=>(aC (aN (dL (aF (cC aG (f7 "tank" (bO rx) (λC fp s H=>bV) (λC fp s H=>rx))) rv))))
def mL:M Fl:=no_index mK
def mM:ZI->Res D:=aR 4 [] 0 mL
def CO:(Dq Txt.x19 3 [] [0,0,0,0,0] 0):=mq λT B=>λhcd hr nd=>(aA (aH 2 aG rx nd) (aA (aH 3 aG rx nd) (aA (aH 4 aG (aB (fn:=CN) T.x16 (CL.2 T B) hr ra) nd) (aC (aN (cC aG (cJ aG (aF (aB (fn:=gY) T.x17 (gX.2 T B) hr (aO rx (aO (oU rfl T.g_ALONG) ra))) (aF (aB (fn:=mM) T.x18 (mK.2 T B) hr (aO rx (aO (oU rfl T.g_ALONG) ra))) (aF (aB (fn:=gY) T.x17 (gX.2 T B) hr (aO rx (aO (oU rfl T.g_ACROSS) ra))) (aF (aB (fn:=mM) T.x18 (mK.2 T B) hr (aO rx (aO (oU rfl T.g_ACROSS) ra))) (aF (aB (fn:=gY) T.x17 (gX.2 T B) hr (aO rx (aO (oU rfl T.g_ABOVE) ra))) (aF (dL (aF (cC aG (f7 "tank" (bO rx) (λC fp s H=>bV) (λC fp s H=>aK))) rv)) aY)))))))))))))
def vE:M Fl:=no_index CO
def vF:ZI->Res D:=aR 5 [] 0 vE
def zC:(Dq Txt.x20 1 [] [0] 0):=mq λT B=>λhcd hr nd=>(aC (aN (cC aG (f7 "tank" (bO rx) (λC fp s H=>bV) (λC fp s H=>rx)))))
def rF:M Fl:=no_index zC
def rG:ZI->Res D:=aR 1 [] 0 rF
def CP:(Dq Txt.x21 6 [] [0,0] 0):=mq λT B=>λhcd hr nd=>(aC (aN (aB (fn:=FC) T.x14 (O2.2 T B) hr (aO (aB (fn:=vF) T.x19 (CO.2 T B) hr ra) (aO (aB (fn:=rG) T.x20 (zC.2 T B) hr ra) cM)))))
def vG:M Fl:=no_index CP
def CQ:ZI->Res D:=aR 2 [] 0 vG
def lD:(Dq Txt.x22 1 [] [0] 0):=mq λT B=>λhcd hr nd=>(aA (bX (fL (dS (iI .str rfl rfl T.x66 rfl T.x73 K7 rx))) (aC (aN mR)) aZ) (aC (aN (uT (G9 aG T7 U5 T7 U5 aK 'k' (oU rfl T.g_LONGEST_NAME)) (uS (iY aG (HC rfl) aH0 rfl T.x62 aHE (aF (cC aG (f7 "sign" (aHX rx) (λC fp s H=>bV) (λC fp s H=>(G9 aG B2 VC B2 VC fV rx fV)))) aY)))))))
def oZ:M Fl:=no_index lD
def gS:ZI->Res D:=aR 1 [] 0 oZ
def zD:(Dq Txt.x23 1 [] [0,0,0,0,0] 0):=mq λT B=>λhcd hr nd=>(aA (aH 3 aG rx nd) (aA (aH 4 aG rx nd) (aC (aN (bM aG (iY aG r9 ED rfl T.x61 DR rv) (iY aG r9 ED rfl T.x61 DR rv))))))
def rH:M Fl:=no_index zD
def zE:ZI->Res D:=aR 5 [] 0 rH
def wA:(Dq Txt.x24 2 [1] [0,30] 0):=mq λT B=>λhcd hr nd=>(aA (bX (fL (dS (aB (fn:=gS) T.x22 (lD.2 T B) hr ra))) (aC fZ) aZ) (aA (bX (aH9 2 (λF H σ=>(aJI hr.units rx rx))) (aC fZ) aZ) (aA (bX (bL aG pU p8 rx aK (bC _)) (aC fZ) aZ) (aA (bX (fL (dS (aB (fn:=gS) T.x22 (lD.2 T B) hr ra))) (aC fZ) aZ) (aA (bX (fL (dS (aB (fn:=gS) T.x22 (lD.2 T B) hr ra))) (aC fZ) aZ) (aC (bX (bL aG pU p8 rx aK (bC _)) (aC fZ) aZ)))))))
def g8:M Fl:=no_index wA
def nY:ZI->Res D:=aR 2 [1] 0 g8
def jW:(Dq Txt.x25 1 [] [0,0,0,0,0,0,0] 0):=mq λT B=>λhcd hr nd=>(aA (aH 3 aG (cJ aG aY) nd) (aA (aH 4 aG (iY aG (EJ rfl) aH6 rfl T.x74 aIC (aF (cC aG (f7 "box" (bO rx) (λC fp s H=>bV) (λC fp s H=>rx))) aY)) nd) (aA (bX (bL aG BN B0 'k' rx (bC _)) (aC (bR (cE 3 aG rx))) aZ) (aA (bX (bL aG BN B0 rx rx (bC _)) (aC (bR (cE 3 aG rx))) aZ) (aA (eG 5 6 nd (gW rfl T.x64 rx) (aA (aH 4 aG rx nd) (aC (bX (bL aG BN B0 rx rx (bC _)) (aC (bR (cE 3 aG rx))) aZ)))) (bS 3 (aC (aN rx))))))))
def f9:M Fl:=no_index jW
def jX:ZI->Res D:=aR 7 [] 0 f9
def IZ:(Dq Txt.x26 1 [] [0,0,0] 0):=mq λT B=>λhcd hr nd=>(aC (aN (aCJ rfl rfl T.x69 (cC aG (f7 "row" (bO rx) (λC fp s H=>(l7 (bL aG (aIY hr.units) aIZ (nH aG UH VA rx oR (jU aK)) rx (by with_unfolding_all rfl)))) (λC fp s H=>rx))) aK)))
def zF:M Fl:=no_index IZ
def I8:ZI->Res D:=aR 3 [] 0 zF
def nZ:(Dq Txt.x27 1 [] [0,0,0,0,0,0] 0):=mq λT B=>λhcd hr nd=>(aA (aH 1 aG (cJ aG aY) nd) (aA (eG 2 3 nd (gW rfl T.x64 rx) (aC (eG 4 5 nd (gW rfl T.x64 rx) (aC (bR (cE 1 aG rx)))))) (bS 1 (aC (aN rx)))))
def jF:M Fl:=no_index nZ
def n5:ZI->Res D:=aR 6 [] 0 jF
def n6:(Dq Txt.x28 2 [] [0,0,0,0,0,0,0] 0):=mq λT B=>λhcd hr nd=>(aA (aH 2 aG (cJ aG aY) nd) (aA (aH 3 aG (aB (fn:=n5) T.x27 (nZ.2 T B) hr ra) nd) (aA (eG 4 5 nd (gW rfl T.x64 rx) (aC (dW 6 nd (bO (cC aG (nH aG wG EG rx (jU rx) oR))) (aC (bX (bL aG BN B0 (aB (fn:=I8) T.x26 (IZ.2 T B) hr ra) (aB (fn:=zE) T.x23 (zD.2 T B) hr ra) (bC _)) (aC (bR (cE 2 aG rx))) aZ))))) (bS 2 (aC (aN rx))))))
def jG:M Fl:=no_index n6
def n8:ZI->Res D:=aR 7 [] 0 jG
def I9:(Dq Txt.x29 3 [] [0,0,0,0,0] 0):=mq λT B=>λhcd hr nd=>(aA (aH 2 aG (cJ aG aY) nd) (aA (eG 3 4 nd (gW rfl T.x64 rx) (aC (bR (qS 2 aG PySem.F.slot_list_extend PySem.F.type_list_extend oV gN (aF (aB (fn:=jX) T.x25 (jW.2 T B) hr ra) aY))))) (aA (bR (qS 2 aG PySem.F.slot_list_extend PySem.F.type_list_extend oV gN (aF (aB (fn:=n8) T.x28 (n6.2 T B) hr ra) aY))) (bS 2 (aC (aN rx))))))
def zG:M Fl:=no_index I9
def JA:ZI->Res D:=aR 5 [] 0 zG
def n9:(Dq Txt.x30 1 [] [0,0,0,0] 0):=mq λT B=>λhcd hr nd=>(aA (eG 2 3 nd (gW rfl T.x64 rx) (aC (bX (bL aG (fE hr.units) iN rx rx (bC _)) (aC (aN (cC aG (nH aG wG EG rx (jU rx) oR)))) aZ))) (aC (aN (cC aG (cJ aG aY)))))
def jH:M Fl:=no_index n9
def oA:ZI->Res D:=aR 4 [] 0 jH
def lE:(Dq Txt.x31 2 [] [0,0,0,0,0] 0):=mq λT B=>λhcd hr nd=>(aA (aH 3 aG (aB (fn:=oA) T.x30 (n9.2 T B) hr ra) nd) (aA (dE 4 "box" nd (aI3 rfl T.x72 rx) (λC fp s H=>bV) (λC fp s H=>rx)) (aA (bR (qS 4 aG PySem.F.slot_list_extend PySem.F.type_list_extend oV gN (aF (cC aG (f7 "box" (bO rx) (λC fp s H=>(l7 (bL aG (lV hr.units) sN rx rx (bC _)))) (λC fp s H=>rx))) aY))) (bS 4 (aC (aN rx))))))
def gT:M Fl:=no_index lE
def lF:ZI->Res D:=aR 5 [] 0 gT
def rJ:(Dq Txt.x32 3 [] [0,0,0,0,0] 0):=mq λT B=>λhcd hr nd=>(aA (aH 2 aG (cJ aG aY) nd) (aA (eG 3 4 nd (gW rfl T.x64 rx) (aC (bR (qS 2 aG PySem.F.slot_list_extend PySem.F.type_list_extend oV gN (aF (aB (fn:=lF) T.x31 (lE.2 T B) hr ra) aY))))) (aA (bR (qS 2 aG PySem.F.slot_list_extend PySem.F.type_list_extend oV gN (aF (cC aG (sO (xs:=[ "box" ,"s" ]) aG aG rfl (bO rx) (λC fp s H=>(uH rfl (dX (cL (i:=0) qH rfl (Or.inl rfl)) (dX (cL (i:=1) qH rfl (Or.inl rfl)) oH)))) (sR (is:=[0,1]) aG (by intro i hi;simp![Õ,ë,or_false]at hi;rcases hi with rfl|rfl<;>exact⟨⋯,cP rfl,⋯,rfl⟩) rfl) (λC fp s H=>bV) (λC fp s H=>rx))) aY))) (bS 2 (aC (aN rx))))))
def rK:M Fl:=no_index rJ
def mN:ZI->Res D:=aR 5 [] 0 rK
def zH:(Dq Txt.x33 4 [] [0,0] 0):=mq λT B=>λhcd hr nd=>(aC (aN (cC aG (sO (xs:=[ "step" ,"box" ]) aG aG rfl (bO (aB (fn:=mN) T.x32 (rJ.2 T B) hr ra)) (λC fp s H=>(uH rfl (dX (cL (i:=0) qI rfl (Or.inl rfl)) (dX (cL (i:=1) qI rfl (Or.inl rfl)) oH)))) (sR (is:=[0,1]) aG (by intro i hi;simp![Õ,ë,or_false]at hi;rcases hi with rfl|rfl<;>exact⟨⋯,cP rfl,⋯,rfl⟩) rfl) (λC fp s H=>bV) (λC fp s H=>rx)))))
def rM:M Fl:=no_index zH
def zI:ZI->Res D:=aR 2 [] 0 rM
def zJ:(Dq Txt.x34 5 [] [0,0] 0):=mq λT B=>λhcd hr nd=>(aC (aN (cC aG (f7 "step" (bO (aB (fn:=zI) T.x33 (zH.2 T B) hr ra)) (λC fp s H=>(l7 (bL aG (fE hr.units) iN rx fV (bC _)))) (λC fp s H=>rx)))))
def rN:M Fl:=no_index zJ
def rO:ZI->Res D:=aR 2 [] 0 rN
def zK:(Dq Txt.x35 1 [] [0] 2):=mq λT B=>λhcd hr nd=>(aC (aN (Q1 (xs:=[ "boxes" ]) 2 aG aG rfl (bO rx) (λC fp s H=>(cL (i:=0) IT rfl (Or.inl rfl))) (nG aG ⋯ (cP rfl) ⋯ rfl) (λC fp s H F1 H1 σ1=>(uO aG lU EE rfl T.x68 iQ rv)))))
def zL:M Fl:=no_index zK
def zM:ZI->Res D:=aR 1 [] 2 zL
def CS:(Dq Txt.x36 2 [] [0,0,0,0] 2):=mq λT B=>λhcd hr nd=>(aA (aH 3 aG (aB (fn:=zM) T.x35 (zK.2 T B) hr ra) nd) (aA (bX (bL aG (fE hr.units) iN rx fV (bC _)) (aC (bR (WF 3 4 PySem.F.slot_list_pop PySem.F.type_list_pop aHD aCM (λF H σ=>rx)))) (aC (bR (OC 3 4 PySem.F.slot_list_append PySem.F.type_list_append uL qT (λF H σ=>rx) (λF H σ=>rv))))) (aC (aN (EQ 3 aG)))))
def lG:M Fl:=no_index CS
def pA:ZI->Res D:=aR 4 [] 2 lG
def zN:(Dq Txt.x37 1 [] [0,0,0,0] 30):=mq λT B=>λhcd hr nd=>(aA (aH 1 aG (EU aG) nd) (aA (dW 2 nd (bO rx) (aC (dW 3 nd (bO rx) (aC (tE 1 hr.units mR rx))))) (aC (aN (EQ 1 aG)))))
def rP:M Fl:=no_index zN
def zO:ZI->Res D:=aR 4 [] 30 rP
def qJ:(Dq Txt.x38 3 [] [0,0,0,0,0,0] 0):=⟨_,λT B=>T.x38.okM [0,0,0,30,0,0] λhcd hr nd=>(aA (aH 3 aG (aB (fn:=zO) T.x37 (zN.2 T B) hr ra) nd) (aC (eG 4 5 nd (bO rx) (aA (bX (fL (U7 aG T7 U5 pU p8 aK rx 'k')) (aC fZ) aZ) (aA (bR (aB (fn:=nY) T.x24 (wA.2 T B) hr (aO rx (US 3 cM)))) (aC (tE 3 hr.units mR rx)))))))⟩
def fH:M Fl:=no_index qJ
def kL:ZI->Res D:=aR 6 [] 0 fH
def zP:(Dq Txt.x39 7 [] [0,0,0] 0):=mq λT B=>λhcd hr nd=>(aA (aH 2 aG (aB (fn:=JA) T.x29 (I9.2 T B) hr ra) nd) (aA (bX (aJK rx) (aC (aN rx)) aZ) (aC (aN (aB (fn:=CQ) T.x21 (CP.2 T B) hr ra)))))
def rQ:M Fl:=no_index zP
def zQ:ZI->Res D:=aR 3 [] 0 rQ
def JB:(Dq Txt.x40 8 [] [0,0,0,0,0,0,0,0] 0):=mq λT B=>λhcd hr nd=>(aA (bX (fL (dS (aB (fn:=gS) T.x22 (lD.2 T B) hr ra))) (aC fZ) aZ) (aA (bR (aB (fn:=kL) T.x38 (qJ.2 T B) hr ra)) (aA (aH 3 aG (cC aG (aB (fn:=zM) T.x35 (zK.2 T B) hr ra)) nd) (aA (aH 4 aG (cJ aG aY) nd) (aA (eG 5 6 nd (bO (aB (fn:=mN) T.x32 (rJ.2 T B) hr ra)) (aA (aH 3 aG (cC aG (aB (fn:=pA) T.x36 (CS.2 T B) hr ra)) nd) (aA (aH 7 aG (aB (fn:=zQ) T.x39 (zP.2 T B) hr ra) nd) (aA (bX (bL aG (lV hr.units) sN rx fV (bC _)) (aC (aN (dL (aF fV (aF (NF 4 rfl T.x67) rv))))) aZ) (aC (bR (cE 4 aG rx))))))) (bS 4 (aC (aN (dL (aF fV (aF rx (aF rx (aF (aB (fn:=rO) T.x34 (zJ.2 T B) hr ra) aY)))))))))))))
def zR:M Fl:=no_index JB
def tY:ZI->Res D:=aR 8 [] 0 zR
def JC:(Dq Txt.x41 9 [] [0,0,0,0,0,0] 0):=mq λT B=>λhcd hr nd=>(aA (aH 3 aG (cJ aG aY) nd) (aA (dW 4 nd (bO rx) (aA (aH 5 aG (aB (fn:=tY) T.x40 (JB.2 T B) hr ra) nd) (aA (bR (cE 3 aG rx)) (aA (bX (bL aG (fE hr.units) iN rx fV (bC _)) (bS 3 (aC (aN rx))) aZ) (aC (aH 1 aG rx nd)))))) (bS 3 (aC (aN rx)))))
def zS:M Fl:=no_index JC
def JD:ZI->Res D:=aR 6 [] 0 zS
def jY:(Dq Txt.x42 1 [] [0,0] 0):=mq λT B=>λhcd hr nd=>(aA (bX (bL aG pU p8 rx 'k' (bC _)) (aC (aN rx)) aZ) (aC (aN aK)))
def oB:M Fl:=no_index jY
def jZ:ZI->Res D:=aR 2 [] 0 oB
def c7:(Dq Txt.x43 2 [] [0,0,0] 0):=mq λT B=>λhcd hr nd=>(aC (aN (i6 aG (i6 aG (gM aG (bM aG (i6 aG (aB (fn:=jZ) T.x42 (jY.2 T B) hr ra) aK) rx) aK) aK) rx)))
def zT:M Fl:=no_index c7
def c8:ZI->Res D:=aR 3 [] 0 zT
def cF:(Dq Txt.x44 2 [] [0,0,0] 0):=mq λT B=>λhcd hr nd=>(aC (aN (i6 aG (i6 aG (gM aG (bM aG (bM aG (i6 aG (aB (fn:=jZ) T.x42 (jY.2 T B) hr ra) aK) rx) aK) aK) aK) rx)))
def vH:M Fl:=no_index cF
def cG:ZI->Res D:=aR 3 [] 0 vH
def b8:(Dq Txt.x45 2 [] [0,0,0] 0):=mq λT B=>λhcd hr nd=>(aC (aN (i6 aG (i6 aG (gM aG (bM aG (bM aG (i6 aG (aB (fn:=jZ) T.x42 (jY.2 T B) hr ra) aK) rx) aK) aK) aK) rx)))
def vI:M Fl:=no_index b8
def b9:ZI->Res D:=aR 3 [] 0 vI
def gA:(Dq Txt.x46 3 [] [0,0,0,0,0,0,0,0] 0):=mq λT B=>λhcd hr nd=>(aA (aH 3 aG fV nd) (aA (aH 4 aG (bM aG aK (aB (fn:=b9) T.x45 (b8.2 T B) hr ra)) nd) (aA (aH 5 aG (aB (fn:=cG) T.x44 (cF.2 T B) hr ra) nd) (aA (aH 6 aG (fG aG rx (aB (fn:=c8) T.x43 (c7.2 T B) hr ra)) nd) (aA (aH 7 aG (fG aG rx (i6 aG (bM aG rx (aB (fn:=cG) T.x44 (cF.2 T B) hr ra)) aK)) nd) (aC (aN (bM aG (bM aG (OG aG rx rx) rx) (OG aG rx rx)))))))))
def zU:M Fl:=no_index gA
def gB:ZI->Res D:=aR 8 [] 0 zU
def lH:(Dq Txt.x47 3 [] [0] 0):=mq λT B=>λhcd hr nd=>(aC (aN (fG aG (cC aG (cJ aG (aF aK (aF aK (aF aK (aF (EA aG aK aK) aY)))))) (aB (fn:=c8) T.x43 (c7.2 T B) hr ra))))
def vJ:M Fl:=no_index lH
def lI:ZI->Res D:=aR 1 [] 0 vJ
def CT:(Dq Txt.x48 4 [] [0,0,0,0,0,0,0] 0):=mq λT B=>λhcd hr nd=>(aA (aH 2 aG (l0 aG (aB (fn:=c8) T.x43 (c7.2 T B) hr ra) aK) nd) (aA (aH 3 aG (l0 aG (aB (fn:=cG) T.x44 (cF.2 T B) hr ra) aK) nd) (aA (aH 4 aG (bM aG aK (aB (fn:=b9) T.x45 (b8.2 T B) hr ra)) nd) (aA (aH 5 aG (gM aG (aB (fn:=lI) T.x47 (lH.2 T B) hr ra) (bM aG aK (aB (fn:=cG) T.x44 (cF.2 T B) hr ra))) nd) (aA (aH 6 aG (aB (fn:=gB) T.x46 (gA.2 T B) hr ra) nd) (aC (aN (dL (aF rx (aF rx (aF rx (aF (aB (fn:=b9) T.x45 (b8.2 T B) hr ra) (aF (bM aG aK (aB (fn:=c8) T.x43 (c7.2 T B) hr ra)) rv)))))))))))))
def vK:M Fl:=no_index CT
def CU:ZI->Res D:=aR 7 [] 0 vK
def JE:(Dq Txt.x49 4 [] [0,0,0,0,0] 0):=mq λT B=>λhcd hr nd=>(aA (aH 2 aG (l0 aG (aB (fn:=c8) T.x43 (c7.2 T B) hr ra) aK) nd) (aA (aH 3 aG (l0 aG (aB (fn:=cG) T.x44 (cF.2 T B) hr ra) aK) nd) (aA (aH 4 aG (gM aG (aB (fn:=lI) T.x47 (lH.2 T B) hr ra) (bM aG aK (aB (fn:=c8) T.x43 (c7.2 T B) hr ra))) nd) (aC (aN (dL (aF (aB (fn:=gB) T.x46 (gA.2 T B) hr ra) (aF rx (aF rx (aF (l0 aG (aB (fn:=b9) T.x45 (b8.2 T B) hr ra) aK) rv))))))))))
def zV:M Fl:=no_index JE
def JF:ZI->Res D:=aR 5 [] 0 zV
def JG:(Dq Txt.x50 5 [] [0,0,0,0,0,0,0,0,0,0,0,0,0] 0):=mq λT B=>λhcd hr nd=>(aA (aH 1 aG (aB (fn:=lI) T.x47 (lH.2 T B) hr ra) nd) (aA (aH 2 aG (dL (aF (gM aG rx (bM aG aK (aB (fn:=c8) T.x43 (c7.2 T B) hr ra))) (aF (l0 aG (aB (fn:=cG) T.x44 (cF.2 T B) hr ra) aK) (aF (l0 aG (aB (fn:=b9) T.x45 (b8.2 T B) hr ra) aK) rv)))) nd) (aA (aH 3 aG (bM aG aK (aB (fn:=b9) T.x45 (b8.2 T B) hr ra)) nd) (aA (aH 4 aG (bM aG aK (aB (fn:=b9) T.x45 (b8.2 T B) hr ra)) nd) (aA (aH 5 aG (gM aG rx (bM aG aK (aB (fn:=cG) T.x44 (cF.2 T B) hr ra))) nd) (aA (aH 6 aG (dL (aF rx (aF rx (aF rx (aF (bM aG rx (aB (fn:=c8) T.x43 (c7.2 T B) hr ra)) (aF (bM aG aK (aB (fn:=b9) T.x45 (b8.2 T B) hr ra)) rv)))))) nd) (aA (dE 7 "_law_s" nd (dM rfl T.x71 (bM aG aK (aB (fn:=c8) T.x43 (c7.2 T B) hr ra))) (λC fp s H=>bV) (λC fp s H=>(aB (fn:=CU) T.x48 (CT.2 T B) hr ra))) (aA (dE 8 "_law_k" nd (dM rfl T.x71 (aB (fn:=cG) T.x44 (cF.2 T B) hr ra)) (λC fp s H=>bV) (λC fp s H=>(aB (fn:=JF) T.x49 (JE.2 T B) hr ra))) (aA (aH 9 aG (cJ aG aY) nd) (aA (dW 10 nd (dM rfl T.x71 (fG aG (cC aG (cJ aG rv)) (aB (fn:=b9) T.x45 (b8.2 T B) hr ra))) (aA (aH 11 aG (aB (fn:=gB) T.x46 (gA.2 T B) hr (aO rx (aO aK (aO (aB (fn:=c8) T.x43 (c7.2 T B) hr ra) cM)))) nd) (aA (aH 12 aG (aB (fn:=gB) T.x46 (gA.2 T B) hr (aO rx (aO aK (aO (aB (fn:=cG) T.x44 (cF.2 T B) hr ra) cM)))) nd) (aC (bR (cE 9 aG (dL (aF rx (aF rx (aF (bM aG aK (aB (fn:=b9) T.x45 (b8.2 T B) hr ra)) aY)))))))))) (bS 7 (bS 8 (bS 9 (aC (aN rx)))))))))))))))
def zW:M Fl:=no_index JG
def JH:ZI->Res D:=aR 13 [] 0 zW
def FF:(Dq Txt.x51 4 [] [0,0,0,0,0,0] 0):=mq λT B=>λhcd hr nd=>(aA (aH 2 aG (aB (fn:=lI) T.x47 (lH.2 T B) hr ra) nd) (aA (aH 3 aG (aB (fn:=gB) T.x46 (gA.2 T B) hr (aO rx (aO aK (aO (aB (fn:=cG) T.x44 (cF.2 T B) hr ra) cM)))) nd) (aA (aH 4 aG (aB (fn:=gB) T.x46 (gA.2 T B) hr (aO rx (aO aK (aO (fG aG (cC aG (cJ aG rv)) (aB (fn:=b9) T.x45 (b8.2 T B) hr ra)) cM)))) nd) (aA (aH 5 aG (gM aG rx (aB (fn:=cG) T.x44 (cF.2 T B) hr ra)) nd) (aA (bX (bL aG BN B0 rx rx (bC _)) (aC (aH 5 aG rx nd)) aZ) (aC (aN (dL (aF (aB (fn:=gB) T.x46 (gA.2 T B) hr ra) (aF (gM aG rx (bM aG aK (aB (fn:=c8) T.x43 (c7.2 T B) hr ra))) rv))))))))))
def FG:M Fl:=no_index FF
def FH:ZI->Res D:=aR 6 [] 0 FG
def CV:(Dq Txt.x52 5 [] [0,0,0,0,0] 0):=mq λT B=>λhcd hr nd=>(aA (A7 3 (xs:=[ "_law_stack_here" ]) 6 aG aG rfl nd (bO rx) (λC fp s H=>(cL (i:=0) FA rfl (Or.inl rfl))) (nG aG ⋯ (cP rfl) ⋯ rfl) (λC fp s H F1 H1 σ1=>(cJ aG aY))) (aA (dW 4 nd (dM rfl T.x71 rx) (aC (bR (OC 3 5 PySem.F.slot_list_append PySem.F.type_list_append uL qT (λF H σ=>(aB (fn:=b9) T.x45 (b8.2 T B) hr (aO rx (aO rx (aO 'k' cM))))) (λF H σ=>(aF (aB (fn:=FH) T.x51 (FF.2 T B) hr ra) aY)))))) (bS 3 (aC (aN rx)))))
def vL:M Fl:=no_index CV
def vM:ZI->Res D:=aR 5 [] 0 vL
def JI:(Dq Txt.x53 5 [] [0,0,0,0,0,0] 0):=mq λT B=>λhcd hr nd=>(aA (aH 4 aG (cJ aG aY) nd) (aA (dW 5 nd (QR rfl T.x71 rx (bM aG rx (aB (fn:=c8) T.x43 (c7.2 T B) hr ra))) (aC (bR (cE 4 aG (dL (aF (aB (fn:=FH) T.x51 (FF.2 T B) hr ra) (aF (aB (fn:=cG) T.x44 (cF.2 T B) hr (aO rx (aO rx (aO 'k' cM)))) aY))))))) (bS 4 (aC (aN (dL (aF (aB (fn:=gB) T.x46 (gA.2 T B) hr (aO rx (aO aK (aO (aB (fn:=b9) T.x45 (b8.2 T B) hr ra) cM)))) rv)))))))
def zX:M Fl:=no_index JI
def zY:ZI->Res D:=aR 6 [] 0 zX
def vN(T:Txt K mg)(B:tF K mg base):∀n,T.x54.Ok P w mg base (n+1) [] [0,0,0,0] 0 (tN n)
 |0=>WH
 |n+1=>T.x54.okD u9 λhcd hr=>(aA (bX (dS (aCN .tuple .list rfl T.x66 rfl T.x75 m6 rfl T.x68 iQ (dD 1)))
   (aA (aH 2 aG (aLB (dS (iI .tuple rfl rfl T.x66 rfl T.x75 m6 (dD 1))) (iI .tuple rfl rfl T.x66 rfl T.x75 m6 (dD 0)) (iI .list rfl rfl T.x66 rfl T.x68 iQ (dD 0))) u9.nd)
   (aA (bX (jT (p7 (fL (dS (dD 2))) (qU (bL aG (lV hr.units) sN (bQ aG rfl T.x67 (dD 0)) (bQ aG rfl T.x67 (dD 1)) (bC _)))))
    (aC (aN mR))
    aZ)
   (aA (EC PassesOwn.leaving rfl (dM rfl T.x71 (bQ aG rfl T.x67 (dD 1))) (cL (i:=3) u9.nd rfl (by ac_nf0)) (D1 aG (cP rfl) ⋯ rfl)
    (aC (bX (fL (dS (aB T.x54 (vN T B n) hr (aO (fG aG (dD 0) (dD 3)) (aO (fG aG (dD 1) (dD 3)) cM)) (È _))))
     (aC (aN mR))
     aZ)))
   (aC (aN mR)))))
   aZ)
  (aA (bX (dS (iI .str rfl rfl T.x66 rfl T.x73 K7 (dD 1)))
   (aC (aN (uT (iI .str rfl rfl T.x66 rfl T.x73 K7 (dD 0)) (uS (nC aG (fE hr.units) iN (dD 0) (dD 1) (bC _))))))
   aZ)
  (aC (aN (uT (iI .int rfl rfl T.x66 rfl T.x65 aHF (dD 0)) (uT (aHS (iI .bool rfl rfl T.x66 rfl T.x63 aBH (dD 0))) (uS (nC aG (fE hr.units) iN (dD 0) (dD 1) (bC _)))))))))
def JJ:(Dq Txt.x55 1 [] [0,0,0,0] 0):=mq λT B=>λhcd hr nd=>(aA (aH 1 aG (EA aG aK aK) nd) (aA (aH 2 aG (cJ aG aY) nd) (aA (dW 3 nd (bO rx) (aC (bR (cE 2 aG rx)))) (bS 2 (aC (aN (dL (aF rx (aF rx (aF rx (aF rx (aF (cC aG (cJ aG aY)) aY))))))))))))
def zZ:M Fl:=no_index JJ
def JK:ZI->Res D:=aR 4 [] 0 zZ
def z6:(Dq Txt.x56 1 [] [0,0,0,0,0] 0):=mq λT B=>λhcd hr nd=>(aA (aH 2 aG (cJ aG aY) nd) (aA (dW 3 nd (dM rfl T.x71 'k') (aA (dE 4 "_law_load" nd (bO rx) (λC fp s H=>(l7 (bL aG (fE hr.units) iN rx rx (bC _)))) (λC fp s H=>rx)) (bS 4 (aC (bR (cE 2 aG (bM aG (cC aG (f7 "_law_box_here" (bO rx) (λC fp s H=>(l7 (bL aG (lV hr.units) sN rx rx (bC _)))) (λC fp s H=>rx))) rx))))))) (bS 2 (aC (aN rx)))))
def z7:M Fl:=no_index z6
def tZ:ZI->Res D:=aR 5 [] 0 z7
def z8:(Dq Txt.x57 1 [] [0,0,0,0,0,0] 0):=mq λT B=>λhcd hr nd=>(aA (aH 2 aG (cJ aG aY) nd) (aA (dW 3 nd (bO rx) (aA (aH 4 aG mR nd) (aC (dW 5 nd (bO rx) (aC (bX (bL aG (fE hr.units) iN rx rx (bC _)) (aC (aH 4 aG mR nd)) (aC (bX (dS rx) (aC (bR (cE 2 aG rx))) aZ)))))))) (bS 2 (aC (aN rx)))))
def rR:M Fl:=no_index z8
def z9:ZI->Res D:=aR 6 [] 0 rR
def O3:(Dq Txt.x58 1 [] [0,0,0,0] 0):=mq λT B=>λhcd hr nd=>(aA (aH 2 aG (cJ aG aY) nd) (aA (dW 3 nd (bO rx) (aC (bR (qS 2 aG PySem.F.slot_list_extend PySem.F.type_list_extend oV gN (aF (cC aG (f7 "_law_box_here" (bO rx) (λC fp s H=>(l7 (bL aG (fE hr.units) iN rx rx (bC _)))) (λC fp s H=>rx))) aY))))) (bS 2 (aC (aN rx)))))
def FI:M Fl:=no_index O3
def O4:ZI->Res D:=aR 4 [] 0 FI
def qK:(Dq Txt.x59 1 [3] [0,0,0,1,0,0,0] 0):=mq λT B=>λhcd hr nd=>(aA (bX (jT (p7 (fL (dS (iI .list rfl rfl T.x66 rfl T.x68 iQ rx))) (qU (bL aG (lV hr.units) sN 'k' (bM aG (bM aG 'k' (gM aG aK 'k')) (NF 3 rfl T.x67)) (bC _))))) (aC (aN mR)) aZ) (RP 0 3 4 5 6 7 aG nd hr.units (λF H σ=>(U2 aG rx rx)) (λF H σ=>(uO aG lU EE rfl T.x68 iQ rv)) (λF H σ=>(jT (p7 (fL (dS (iI .tuple rfl rfl T.x66 rfl T.x75 m6 rx))) (p7 (bL aG (lV hr.units) sN 'k' aK (bC _)) (p7 (fL (dS (iI .tuple rfl rfl T.x66 rfl T.x75 m6 rx))) (qU (bL aG (lV hr.units) sN 'k' aK (bC _)))))))) (λF H σ=>rx) (λF H σ=>(jT (p7 (RJ hr.units rx rx) (qU (bL aG DP aH8 rx (aJJ hr.units rx rx) (by with_unfolding_all rfl)))))) (λF H σ=>rx) (λF H σ=>rx)))
def kM:M Fl:=no_index qK
def kP:ZI->Res D:=aR 7 [3] 0 kM
def aF0:(Dq Txt.x60 10 [] [0,0,0,0,0,0,0,0,0,0,0] 0):=mq λT B=>λhcd hr nd=>(aA (aH 1 aG (aB (fn:=JH) T.x50 (JG.2 T B) hr ra) nd) (aA (bX (bL aG (fE hr.units) iN (aB (fn:=b9) T.x45 (b8.2 T B) hr ra) aK (bC _)) (aC (aH 1 aG (aB (fn:=JK) T.x55 (JJ.2 T B) hr ra) nd)) aZ) (aA (aH 2 aG (aB (fn:=c8) T.x43 (c7.2 T B) hr ra) nd) (aA (aH 3 aG (aB (fn:=vM) T.x52 (CV.2 T B) hr ra) nd) (aA (bX (bL aG (fE hr.units) iN rx (EA aG aK aK) (bC _)) (aA (dE 3 "_law_boxes" nd (bO rx) (λC fp s H=>bV) (λC fp s H=>(cC aG (f7 "_law_box_here" (bO rx) (λC fp s H=>bV) (λC fp s H=>(dL (aF rx (aF rx (aF rx (aF rx (aF (EA aG aK aK) aY))))))))))) (bS 3 aZ)) aZ) (aA (aH 4 aG (cJ aG aY) nd) (aA (dW 5 nd (dM rfl T.x71 (bM aG aK (aB (fn:=cG) T.x44 (cF.2 T B) hr ra))) (aA (bR (cE 4 aG (aB (fn:=zY) T.x53 (JI.2 T B) hr ra))) (aC (aH 2 aG (bM aG rx (bQ aG rfl T.x67 (fG aG (aHN 4 rx) aK))) nd)))) (bS 4 (aA (aH 6 aG (aB (fn:=JD) T.x41 (JC.2 T B) hr ra) nd) (aA (bX (jT (p7 (fL (dS (iI .list rfl rfl T.x66 rfl T.x68 iQ rx))) (p7 (bL aG pU p8 'k' aK (bC _)) (qU (bL aG BN B0 'k' 'k' (bC _)))))) (aC (aN mR)) aZ) (aA (aH 7 aG rx nd) (aA (dW 8 nd (dM rfl T.x71 'k') (aA (bX (bL aG (lV hr.units) sN rx fV (bC _)) (aC (aN (uT (nC aG (fE hr.units) iN rx (l0 aG 'k' aK) (bC _)) (uS (nC aG (fE hr.units) iN rx fV (bC _)))))) aZ) (aA (aH 9 aG (aB (fn:=z9) T.x57 (z8.2 T B) hr ra) nd) (aA (dE 10 "_law_load" nd (bO rx) (λC fp s H=>bV) (λC fp s H=>rx)) (aA (bX (jT (p7 (fL (dS (aB T.x54 (vN T B 4) hr ra))) (qU (fL (dS (aB T.x54 (vN T B 4) hr (aO rx (aO (aB (fn:=tZ) T.x56 (z6.2 T B) hr ra) cM)))))))) (aC (aN mR)) aZ) (aA (bX (fL (dS (aB (fn:=kP) T.x59 (qK.2 T B) hr (aO rx (aO (aB (fn:=O4) T.x58 (O3.2 T B) hr ra) (aO rx (US 10 cM))))))) (aC (aN mR)) aZ) (aA (aH 7 aG (aB (fn:=tZ) T.x56 (z6.2 T B) hr ra) nd) (bS 10 aZ)))))))) (aC (aN (nC aG (fE hr.units) iN 'k' 'k' (bC _))))))))))))))))
def YG:M Fl:=no_index aF0
def JL:ZI->Res D:=aR 11 [] 0 YG
def aJO(T:Txt K mg)(B:tF K mg base):T.x60.Ok P w mg base 10 [] [0,0,0,0,0,0,0,0,0,0,0] 0 JL:=aF0.2 T B
end
end Toy
open L2 in
seal KC iF sM bF dC bB dJ iZ QN LA qR eK jK nF eD pM l5 A6 xS LB U0 U1 G6 dB p6 QM GV BZ U4 mT Ĭ Β BV pL fF bN aU aR Į kG
open PySem L2
local macro_rules| `(tactic|dsimp? [$as,*])=>`(tactic|simp![aQK,aOW,aOX,aOY,aLZ,aOV,aOZ,aO0,aO1,aLT,aLU,aOQ,aOS,aOR,aOT,V7,aIV,aLW,aLX,aOU,ϑ,aLM,aII,k_set,k_fill,aIJ,aIK,aLN,ϒ,aIL,aIM,aIN,aIO,aIP,aIQ,aIR,aIS,aIT,aIU,aCD,aCE,eZ,aX,cU,fX,Nat.reduceAdd,Nat.reduceLT,Nat.reduceLeDiff,↓reduceIte,$as,*])
local macro_rules| `(tactic|ac_nf)=>`(tactic|first|exact aK7 ∅ ∅|exact aK8 ∅ ∅)
namespace Sx
abbrev j0:=Nat->Int
def aS:Nat->(Nat->Int)->Int
 |0,_=>0
 |n+1,f=>aS n f+f n
def bG:∀{n:Nat}{f g:Nat->Int},(∀i,i<n->f i=g i)->aS n f=aS n g
 |0,_,_,_=>rfl
 |n+1,f,g,h=>by
  rw[aS,aS,bG (n:=n) λi hi=>h i 'l',h n (by exact ð _)]
def jI:∀{n:Nat}{f g:Nat->Int},aS n (λi=>f i+g i)=aS n f+aS n g
 |0,_,_=>rfl
 |n+1,f,g=>by
  rw[aS,aS,aS,jI];lia
def dY:∀{n:Nat}{a:Int}{f:Nat->Int},aS n (λi=>a*f i)=a*aS n f
 |0,a,_=>by simp[aS]
 |n+1,a,f=>by
  rw[aS,aS,dY,Int.mul_add]
def fQ:∀{n:Nat}{f:Nat->Int},(∀i,i<n->f i=0)->aS n f=0
 |0,_,_=>rfl
 |n+1,f,h=>by
  rw[aS,fQ (n:=n) λi hi=>h i 'l',h n (by exact ð _)];rfl
def cR :∀{n:Nat}{f:Nat->Int},k<n->(∀i,i<n->i≠k->f i=0)->aS n f=f k
 |0,_,hk,_=>by grind
 |n+1,f,hk,h=>by
  rw[aS];by_cases e:k=n
  .subst e
   rw[fQ λi hi=>h i 'l' (by exact Ð ‹_›)];lia
  .rw[cR (n:=n) ∅ λi hi hne=>h i 'l' hne,h n (by exact ð _) (λz=>e z.symm)]
   lia
def AA(hkl:k≠l):∀{n:Nat}{f:Nat->Int},k<n->l<n->(∀i,i<n->i≠k->i≠l->f i=0)->aS n f=f k+f l
 |0,_,hk,_,_=>by grind
 |n+1,f,hk,hl,h=>by
  rw[aS];by_cases e:k=n
  .subst e
   rw[cR (k:=l) ∅ λi hi hne=>h i 'l' (by exact Ð ‹_›) hne];lia
  .by_cases e2:l=n
   .subst e2
    rw[cR (k:=k) ∅ λi hi hne=>h i 'l' hne (by exact Ð ‹_›)]
   .rw[AA hkl (n:=n) ∅ ∅ λi hi h1 h2=>h i 'l' h1 h2,h n (by exact ð _) (λz=>e z.symm) (λz=>e2 z.symm)]
    lia
def CW:∀{n m:Nat}{f:Nat->Nat->Int},aS n (λi=>aS m (f i))=aS m (λj=>aS n (λi=>f i j))
 |0,m,f=>(fQ λ_ _=>rfl).symm
 |n+1,m,f=>by
  rw[aS,CW (n:=n),<- jI];rfl
def Ė(i:Nat):Int:=if i % 2=0 then 1 else -1
def YH(i:Nat):Ė (i+1)=-Ė i:=by
 unfold Ė
 grind
def skip(i r:Nat):Nat:=if r<i then r else r+1
def fC(M:Nat->j0)(i:Nat):Nat->j0:=λr c=>M (skip i r) (c+1)
def c9:Nat->(Nat->j0)->Int
 |0,_=>1
 |n+1,M=>aS (n+1) λi=>Ė i*M i 0*c9 n (fC M i)
def lJ:∀{n:Nat}{M M':Nat->j0},(∀r c,r<n->c<n->M r c=M' r c)->c9 n M=c9 n M'
 |0,_,_,_=>rfl
 |n+1,M,M',h=>by
  rw[c9,c9];refine bG λi hi=>?_;rw[h i 0 hi (by exact ă _),lJ (n:=n) (M:=fC M i) (M':=fC M' i) λr c hr hc=>?_];unfold fC;refine h _ _ ?_ 'l';unfold skip;split<;>lia
def aV(M:Nat->j0)(k:Nat)(w:j0):Nat->j0:=λr=>if r=k then w else M r
def aJ{M:Nat->j0}:aV M k w k=w:=Â rfl
def aE{M:Nat->j0}(h:r≠k):aV M k w r=M r:=Ã h
def C9{M:Nat->j0}:aV (aV M k u) k w=aV M k w:=by
 funext r;unfold aV;split<;>rfl
def dZ{M:Nat->j0}(h:k≠l):aV (aV M k u) l w=aV (aV M l w) k u:=by
 funext r;unfold aV
 grind
def g9{M:Nat->j0}:aV M k (M k)=M:=by
 funext r;unfold aV
 grind
def YI(i k:Nat):Nat:=if k<i then k else k-1
def mO{M:Nat->j0}(h:i≠k):fC (aV M k w) i=aV (fC M i) (YI i k) (λc=>w (c+1)):=by
 funext r c;unfold fC aV skip YI;by_cases h1:r<i
 .rw[Â h1]
  by_cases h2:k<i
  .rw[Â h2]
   by_cases h3:r=k
   all_goals simp_all
  .rw[Ã h2,Ã ∅,Ã ∅]
   simp![h1,if_true]
 .rw[Ã h1]
  by_cases h2:k<i
  .rw[Â h2,Ã ∅,Ã ∅]
   simp![h1,if_false]
  .rw[Ã h2]
   by_cases h3:r+1=k
   .rw[Â h3,Â ∅]
   .rw[Ã h3,Ã ∅]
    simp![h1,if_false]
def mP{M:Nat->j0}:fC (aV M k w) k=fC M k:=by
 funext r c;unfold fC aV skip
 grind
def t8:∀{n:Nat}{M:Nat->j0}{k:Nat}{u v:j0}{a b:Int},k<n->c9 n (aV M k λc=>a*u c+b*v c)=a*c9 n (aV M k u)+b*c9 n (aV M k v)
 |0,_,_,_,_,_,_,h=>by grind
 |n+1,M,k,u,v,a,b,h=>by
  rw[c9,c9,c9,<- dY,<- dY,<- jI];refine bG λi hi=>?_;by_cases e:i=k
  .subst e
   rw[aJ,aJ,aJ,mP,mP,mP]
   grind
  .rw[aE e,aE e,aE e,mO e,mO e,mO e]
   have hd:YI i k<n:=by unfold YI;split<;>lia
   have:=t8 (n:=n) (M:=fC M i) (k:=YI i k) (u:=λc=>u (c+1)) (v:=λc=>v (c+1)) (a:=a) (b:=b) hd;rw[this]
   grind
def wN:∀{n:Nat}{M:Nat->j0}{k:Nat},k+1<n->(∀c,M k c=M (k+1) c)->c9 n M=0
 |0,_,_,h,_=>by grind
 |n+1,M,k,h,he=>by
  rw[c9,AA (k:=k) (l:=k+1) ∅ 'a' (by assumption) λi hi h1 h2=>?_]
  .have em:fC M k=fC M (k+1):=by
    funext r c;unfold fC skip;by_cases h1:r<k
    .grind
    .grind
   rw[em,he 0,YH]
   grind
  .have hz:c9 n (fC M i)=0:=by
    by_cases hk:k+1<i
    .refine wN (n:=n) (k:=k) ∅ λc=>?_
     unfold fC skip
     grind
    .refine wN (n:=n) (k:=k-1) ∅ λc=>?_
     unfold fC skip
     grind
   rw[hz];lia
def pC{M:Nat->j0}(h:k<n):c9 n (aV M k λc=>u c+v c)=c9 n (aV M k u)+c9 n (aV M k v):=by
 have:=t8 (M:=M) (u:=u) (v:=v) (a:=1) (b:=1) h
 grind
def SL{M:Nat->j0}(h:k+1<n)(u v:j0):c9 n (aV (aV M k u) (k+1) v)=-c9 n (aV (aV M k v) (k+1) u):=by
 have z:∀w,c9 n (aV (aV M k w) (k+1) w)=0:=λw=>wN h λc=>by rw[aE ∅,aJ,aJ]
 have h1:=z λc=>u c+v c;rw[pC h,dZ ∅,pC 'a',dZ (u:=λc=>u c+v c) ∅,pC 'a']at h1;have zu:=z u;have zv:=z v;rw[dZ ∅]at zu zv;have e1:c9 n (aV (aV M k u) (k+1) v)=c9 n (aV (aV M (k+1) v) k u):=by rw[dZ ∅]
 have e2:c9 n (aV (aV M k v) (k+1) u)=c9 n (aV (aV M (k+1) u) k v):=by rw[dZ ∅]
 rw[e1,e2];lia
def MI:∀(d:Nat){n:Nat}{M:Nat->j0}{i j:Nat},j=i+d+1->j<n->(∀c,M i c=M j c)->c9 n M=0
 |0,n,M,i,j,e,h,he=>by
  subst e;exact wN (k:=i) (by assumption) he
 |d+1,n,M,i,j,e,h,he=>by
  -- Ç j-1 and j change places
  have hj:j-1+1=j:=by lia
  have e1:M=aV (aV M (j-1) (M (j-1))) (j-1+1) (M j):=by
   rw[g9,hj,g9]
  rw[e1,SL ∅];have:=MI d (n:=n) (M:=aV (aV M (j-1) (M j)) (j-1+1) (M (j-1))) (i:=i) (j:=j-1) ∅ ∅ λc=>by
   rw[aE ∅,aE ∅,aE ∅,aJ];exact he c
  rw[this];rfl
def wO{n:Nat}{M:Nat->j0}{i j:Nat}(hi:i<n)(hj:j<n)(hne:i≠j)(he:∀c,M i c=M j c):c9 n M=0:=by
 by_cases h:i<j
 .exact MI (j-i-1) ∅ hj he
 .exact MI (i-j-1) (i:=j) (j:=i) ∅ hi λc=>(he c).symm
def JM{M:Nat->j0}(hi:i<n)(hj:j<n)(hne:i≠j)(u v:j0):c9 n (aV (aV M i u) j v)=-c9 n (aV (aV M i v) j u):=by
 have z:∀w,c9 n (aV (aV M i w) j w)=0:=λw=>wO hi hj hne λc=>by rw[aE hne,aJ,aJ]
 have h1:=z λc=>u c+v c;rw[pC hj,dZ hne,pC hi,dZ (u:=λc=>u c+v c) hne,pC hi]at h1;have zu:=z u;have zv:=z v;rw[dZ hne]at zu zv;have e1:c9 n (aV (aV M i u) j v)=c9 n (aV (aV M j v) i u):=by rw[dZ hne]
 have e2:c9 n (aV (aV M i v) j u)=c9 n (aV (aV M j u) i v):=by rw[dZ hne]
 rw[e1,e2];lia
def JN{M:Nat->j0}(h:k<n):c9 n (aV M k λ_=>0)=0:=by
 have:=t8 (M:=M) (k:=k) (u:=λ_=>0) (v:=λ_=>0) (a:=0) (b:=0) h;simpa using this
def aDJ{M:Nat->j0}(h:k<n):c9 n (aV M k λc=>a*u c)=a*c9 n (aV M k u):=by
 have:=t8 (M:=M) (k:=k) (u:=u) (v:=λ_=>0) (a:=a) (b:=0) h
 grind
def wP{M:Nat->j0}(h:k<n):∀{m:Nat}{w:Nat->Int}{f:Nat->j0},c9 n (aV M k λc=>aS m λl=>w l*f l c)=aS m λl=>w l*c9 n (aV M k (f l))
 |0,w,f=>JN h
 |m+1,w,f=>by
  have:=t8 (M:=M) (k:=k) (u:=λc=>aS m λl=>w l*f l c) (v:=f m) (a:=1) (b:=w m) h;simp![Int.one_mul]at this;rw[aS,<- wP h];exact this
def aMM(hc:c<n)(hj:j<n)(hne:c≠j)(cr:∀x,x<n->c9 n f*h x=aS n λl=>c9 n (aV f l h)*f l x):
  c9 n f*c9 n (aV (aV f c h) j u)=c9 n (aV f c h)*c9 n (aV f j u)-c9 n (aV f j h)*c9 n (aV f c u):=by
 have e1:c9 n f*c9 n (aV (aV f c h) j u)=c9 n (aV (aV f j u) c λx=>c9 n f*h x):=by
  rw[aDJ hc,dZ hne]
 have e2:c9 n (aV (aV f j u) c λx=>c9 n f*h x)=c9 n (aV (aV f j u) c λx=>aS n λl=>c9 n (aV f l h)*f l x):=by
  refine lJ λr x hr hx=>?_;by_cases hrc:r=c
  .subst hrc
   rw[aJ,aJ];exact cr x hx
  .rw[aE hrc,aE hrc]
 rw[e1,e2,wP hc,AA hne hc hj λl hl h1 h2=>?_]
 .have a1:aV (aV f j u) c (f c)=aV f j u:=by
   rw[dZ (Í hne),g9]
  have a2:c9 n (aV (aV f j u) c (f j))=-c9 n (aV f c u):=by
   rw[JM hj hc (Í hne),g9]
  rw[a1,a2]
  grind
 .have:c9 n (aV (aV f j u) c (f l))=0:=wO hc hl (λz=>h1 z.symm) λx=>by rw[aJ,aE h1,aE h2]
  rw[this];lia
end Sx
namespace Sx
structure Tab where
 s:Int
 f:Nat->Nat
 h:Nat->Nat
 L:Nat->Nat->Int
structure Pr where
 n:Nat
 k:Nat
 N:Nat
 a:Nat->j0
 c:Nat->Int
def Tab.F(P:Pr)(T:Tab):Nat->j0:=λj=>P.a (T.f j)
structure Inv(P:Pr)(σ:Int)(T:Tab):Prop where
 sg:σ*σ=1
 pos:0<T.s
 sd:T.s=σ*c9 P.n (T.F P)
 ld:∀r,r<=P.k->∀j,j<P.n->T.L r j=-σ*c9 P.n (aV (T.F P) j (P.a (T.h r)))
 lc:∀r,r<=P.k->T.L r P.n=T.s*P.c (T.h r)+aS P.n λj=>T.L r j*P.c (T.f j)
 cr:∀r,r<=P.k->∀x,x<P.n->T.s*P.a (T.h r) x+(aS P.n λj=>T.L r j*P.a (T.f j) x)=0
 fi:∀i j,i<P.n->j<P.n->T.f i=T.f j->i=j
 hi:∀r q,r<=P.k->q<=P.k->T.h r=T.h q->r=q
 fh:∀j r,j<P.n->r<=P.k->T.f j≠T.h r
 hk:T.h P.k=P.N
 all:∀u,u<P.N->(∃j,j<P.n/\T.f j=u)\/∃r,r<P.k/\T.h r=u
 fN:∀j,j<P.n->T.f j<P.N
 hN:∀r,r<P.k->T.h r<P.N
 dual:∀j,j<P.n->0<=T.L P.k j
def swap(T:Tab)(p d:Nat):Tab where
 s:=-T.L p d
 f:=λj=>if j=d then T.h p else T.f j
 h:=λr=>if r=p then T.f d else T.h r
 L:=λr j=>if r=p then (if j=d then -T.s else -T.L p j)else (if j=d then T.L r d else (-T.L p d*T.L r j+T.L r d*T.L p j)/T.s)
section
def YJ:(swap T p d).F P=aV (T.F P) d (P.a (T.h p)):=by
 funext j;unfold Tab.F swap aV;dsimp only;split<;>rfl
def O5{n:Nat}{w:Nat->Int}{wu wh s:Int}{wf l p l':Nat->Int}{d:Nat}(hd:d<n)(hs:∀j,j<n->j≠d->s*l' j=-p d*l j+l d*p j)(hl:l' d=l d):
  s*(-p d*wu+aS n λj=>l' j*(if j=d then wh else wf j))=-p d*(s*wu+aS n λj=>l j*wf j)+l d*(s*wh+aS n λj=>p j*wf j):=by
 have e1:s*(aS n λj=>l' j*(if j=d then wh else wf j))=aS n λj=>(-p d*(l j*wf j)+l d*(p j*wf j))+(if j=d then s*l d*wh else 0):=by
  rw[<- dY];refine bG λj hj=>?_;by_cases e:j=d
  .grind
  .grind
 have e2:(aS n λj=>if j=d then s*l d*wh else 0)=s*l d*wh:=by
  rw[cR (k:=d) hd λi _ hne=>Ã hne,Â rfl]
 rw[jI,jI,dY,dY,e2]at e1
 grind
def JO{n:Nat}{wh s:Int}{wf p:Nat->Int}{d:Nat}(hd:d<n):
  -p d*wf d+(aS n λj=>(if j=d then -s else -p j)*(if j=d then wh else wf j))=-(s*wh+aS n λj=>p j*wf j):=by
 have e1:(aS n λj=>(if j=d then -s else -p j)*(if j=d then wh else wf j))=aS n λj=>(-1)*(p j*wf j)+(if j=d then p d*wf d-s*wh else 0):=by
  refine bG λj hj=>?_;by_cases e:j=d
  .grind
  .grind
 have e2:(aS n λj=>if j=d then p d*wf d-s*wh else 0)=p d*wf d-s*wh:=by
  rw[cR (k:=d) hd λi _ hne=>Ã hne,Â rfl]
 rw[e1,jI,dY,e2]
 grind
def Inv.det_s(I:Inv P σ T):c9 P.n (T.F P)=σ*T.s:=by
 rw[I.sd,<- Int.mul_assoc,I.sg,Int.one_mul]
def Inv.det_l(I:Inv P σ T)(hr:r<=P.k)(hj:j<P.n):c9 P.n (aV (T.F P) j (P.a (T.h r)))=-σ*T.L r j:=by
 rw[I.ld r hr j hj,<- Int.mul_assoc];have:-σ*-σ=1:=by have:=I.sg;grind
 rw[this,Int.one_mul]
def Inv.cramer(I:Inv P σ T)(hr:r<=P.k)(x:Nat)(hx:x<P.n):c9 P.n (T.F P)*P.a (T.h r) x=aS P.n λl=>c9 P.n (aV (T.F P) l (P.a (T.h r)))*T.F P l x:=by
 have e:(aS P.n λl=>c9 P.n (aV (T.F P) l (P.a (T.h r)))*T.F P l x)=aS P.n λl=>-σ*(T.L r l*P.a (T.f l) x):=bG λl hl=>by
  rw[I.det_l hr hl,Int.mul_assoc];rfl
 rw[e,dY,I.det_s];have:=I.cr r hr x hx
 grind
def Inv.exact(I:Inv P σ T) (hp:p<P.k) (hd:d<P.n) (hr:r<=P.k) (hj:j<P.n) (hne:j≠d):
  T.s*(-σ*c9 P.n (aV (aV (T.F P) d (P.a (T.h p))) j (P.a (T.h r))))=-T.L p d*T.L r j+T.L r d*T.L p j:=by
 have pl:=aMM (u:=P.a (T.h r)) hd hj (Í hne) (I.cramer (r:=p) 'a');rw[I.det_s,I.det_l 'a' hd,I.det_l hr hj,I.det_l 'a' hj,I.det_l hr hd]at pl;have sg:=I.sg
 grind
def Inv.quot(I:Inv P σ T)(hp:p<P.k)(hd:d<P.n)(hr:r<=P.k)(hrp:r≠p)(hj:j<P.n)(hne:j≠d):
  T.s*(swap T p d).L r j=-T.L p d*T.L r j+T.L r d*T.L p j/\(swap T p d).L r j=-σ*c9 P.n (aV (aV (T.F P) d (P.a (T.h p))) j (P.a (T.h r))):=by
 have e:=I.exact hp hd hr hj hne;have q:(swap T p d).L r j=-σ*c9 P.n (aV (aV (T.F P) d (P.a (T.h p))) j (P.a (T.h r))):=by
  show (if r=p then (if j=d then -T.s else -T.L p j)else (if j=d then T.L r d else (-T.L p d*T.L r j+T.L r d*T.L p j)/T.s))=_;rw[Ã hrp,Ã hne,<- e,Int.mul_ediv_cancel_left _ (by have:=I.pos;exact Int.ne_of_gt ‹_›)]
 exact⟨by rw[q,e],q⟩
def t9(hrp:r≠p):(swap T p d).L r d=T.L r d:=by
 show (if r=p then (if d=d then -T.s else -T.L p d)else (if d=d then T.L r d else (-T.L p d*T.L r d+T.L r d*T.L p d)/T.s))=_;rw[Ã hrp,Â rfl]
def FJ:(swap T p d).L p j=if j=d then -T.s else -T.L p j:=by
 show (if p=p then (if j=d then -T.s else -T.L p j)else _)=_;rw[Â rfl]
def fP:(swap T p d).f j=if j=d then T.h p else T.f j:=rfl
def gU:(swap T p d).h r=if r=p then T.f d else T.h r:=rfl
def Inv.quotN(I:Inv P σ T)(hp:p<P.k)(hd:d<P.n)(hr:r<=P.k)(hrp:r≠p):
  T.s*(swap T p d).L r P.n=-T.L p d*T.L r P.n+T.L r d*T.L p P.n/\(swap T p d).L r P.n=-T.L p d*P.c (T.h r)+aS P.n λj=>(swap T p d).L r j*P.c ((swap T p d).f j):=by
 have e:=O5 (w:=λ_=>0) (wu:=P.c (T.h r)) (wh:=P.c (T.h p)) (s:=T.s) (wf:=λj=>P.c (T.f j)) (l:=T.L r) (p:=T.L p) (l':=(swap T p d).L r) hd (λj hj hne=>(I.quot hp hd hr hrp hj hne).1) (t9 hrp);rw[<- I.lc r hr,<- I.lc p 'a']at e;have ew:(aS P.n λj=>(swap T p d).L r j*(if j=d then P.c (T.h p)else P.c (T.f j)))=aS P.n λj=>(swap T p d).L r j*P.c ((swap T p d).f j):=bG λj _=>by
  rw[fP];split<;>rfl
 rw[ew]at e;have q:(swap T p d).L r P.n=-T.L p d*P.c (T.h r)+aS P.n λj=>(swap T p d).L r j*P.c ((swap T p d).f j):=by
  show (if r=p then (if P.n=d then -T.s else -T.L p P.n)else (if P.n=d then T.L r d else (-T.L p d*T.L r P.n+T.L r d*T.L p P.n)/T.s))=_;rw[Ã hrp,Ã (by exact Þ ‹_›),<- e,Int.mul_ediv_cancel_left _ (by have:=I.pos;exact Int.ne_of_gt ‹_›)]
 exact⟨by rw[q,e],q⟩
def Inv.swap(I:Inv P σ T)(hp:p<P.k)(hd:d<P.n)(hneg:T.L p d<0)(hmin:∀j,j<P.n->T.L p j<0->T.L P.k d*-T.L p j<=T.L P.k j*-T.L p d):Inv P σ (swap T p d):=by
 have sg:=I.sg;have pos:=I.pos;have hdh:∀r,r<=P.k->T.f d≠T.h r:=λr hr=>I.fh d r hd hr;refine⟨sg,?_,?_,?_,?_,?_,?_,?_,?_,?_,?_,?_,?_,?_⟩
 .show 0 < -T.L p d
  lia
 .show -T.L p d=_
  rw[YJ,I.det_l 'a' hd]
  grind
 .intro r hr j hj
  rw[YJ];by_cases hrp:r=p
  .subst hrp
   rw[FJ,gU,Â rfl];by_cases hjd:j=d
   .subst hjd
    rw[Â rfl,C9];have:aV (T.F P) j (P.a (T.f j))=T.F P:=g9;rw[this,I.det_s,<- Int.mul_assoc]
    grind
   .rw[Ã hjd,JM hd hj (Í hjd)]
    have:aV (T.F P) d (P.a (T.f d))=T.F P:=g9;rw[this,I.det_l (by assumption) hj]
    grind
  .rw[gU,Ã hrp]
   by_cases hjd:j=d
   .subst hjd
    rw[t9 hrp,C9];exact I.ld r hr j hj
   .exact(I.quot hp hd hr hrp hj hjd).2
 .intro r hr
  by_cases hrp:r=p
  .subst hrp
   have e:=JO (wh:=P.c (T.h r)) (s:=T.s) (wf:=λj=>P.c (T.f j)) (p:=T.L r) hd;rw[<- I.lc r hr]at e;show (if r=r then (if P.n=d then -T.s else -T.L r P.n)else _)=_;rw[Â rfl,Ã (by exact Þ ‹_›),gU,Â rfl,<- e];show _=-T.L r d*_+_;congr 1;refine bG λj hj=>?_;rw[FJ,fP];split<;>rfl
  .rw[gU,Ã hrp]
   exact(I.quotN hp hd hr hrp).2
 .intro r hr x hx
  by_cases hrp:r=p
  .subst hrp
   have e:=JO (wh:=P.a (T.h r) x) (s:=T.s) (wf:=λj=>P.a (T.f j) x) (p:=T.L r) hd;rw[I.cr r hr x hx]at e;rw[gU,Â rfl];show -T.L r d*_+_=_;have ew:(aS P.n λj=>(Sx.swap T r d).L r j*P.a ((Sx.swap T r d).f j) x)=aS P.n λj=>(if j=d then -T.s else -T.L r j)*(if j=d then P.a (T.h r) x else P.a (T.f j) x):=bG λj _=>by
    rw[FJ,fP];split<;>rfl
   rw[ew,e];rfl
  .have e:=O5 (w:=λ_=>0) (wu:=P.a (T.h r) x) (wh:=P.a (T.h p) x) (s:=T.s) (wf:=λj=>P.a (T.f j) x) (l:=T.L r) (p:=T.L p) (l':=(Sx.swap T p d).L r) hd (λj hj hne=>(I.quot hp hd hr hrp hj hne).1) (t9 hrp)
   rw[I.cr r hr x hx,I.cr p 'a' x hx]at e;rw[gU,Ã hrp];have ew:(aS P.n λj=>(Sx.swap T p d).L r j*P.a ((Sx.swap T p d).f j) x)=aS P.n λj=>(Sx.swap T p d).L r j*(if j=d then P.a (T.h p) x else P.a (T.f j) x):=bG λj _=>by
    rw[fP];split<;>rfl
   show -T.L p d*_+_=_;rw[ew];have e:T.s*(-T.L p d*P.a (T.h r) x+aS P.n λj=>(Sx.swap T p d).L r j*(if j=d then P.a (T.h p) x else P.a (T.f j) x))=0:=by rw[e];lia
   rcases Int.mul_eq_zero.mp e with z|z
   .lia
   .exact z
 .intro i j hi hj e
  rw[fP,fP]at e;split at e
  .split at e
   .lia
   .exact absurd e.symm (I.fh j p hj 'a')
  .split at e
   .exact absurd e (I.fh i p hi 'a')
   .exact I.fi i j hi hj e
 .intro r q hr hq e
  rw[gU,gU]at e;split at e
  .grind
  .split at e
   .grind
   .exact I.hi r q hr hq e
 .intro j r hj hr e
  rw[fP,gU]at e;split at e
  .split at e
   .grind
   .rename_i hrp
    exact hrp (I.hi p r 'a' hr e).symm
  .split at e
   .rename_i hjd _
    exact hjd (I.fi j d hj hd e)
   .exact I.fh j r hj hr e
 .rw[gU,Ã (by exact Þ ‹_›)]
  exact I.hk
 .intro u hu
  rcases I.all u hu with ⟨j,hj,e⟩|⟨r,hr,e⟩
  .by_cases hjd:j=d
   .subst hjd
    exact .inr ⟨p,hp,by rw[gU,Â rfl];exact e⟩
   .exact .inl ⟨j,hj,by rw[fP,Ã hjd];exact e⟩
  .by_cases hrp:r=p
   .subst hrp
    exact .inl ⟨d,hd,by rw[fP,Â rfl];exact e⟩
   .exact .inr ⟨r,hr,by rw[gU,Ã hrp];exact e⟩
 .intro j hj
  rw[fP];split
  .exact I.hN p hp
  .exact I.fN j hj
 .intro r hr
  rw[gU];split
  .exact I.fN d hd
  .exact I.hN r hr
 .intro j hj
  by_cases hjd:j=d
  .subst hjd
   rw[t9 (by exact Þ ‹_›)];exact I.dual j hj
  .have e:=(I.quot hp hd (r:=P.k) (È _) (by exact Þ ‹_›) hj hjd).1
   have g1:=I.dual j hj;have g2:=I.dual d hd;have hge:0<=-T.L p d*T.L P.k j+T.L P.k d*T.L p j:=by
    by_cases hn:T.L p j<0
    .grind
    .have a1:0<=-T.L p d*T.L P.k j:=Int.mul_nonneg ∅ g1
     have a2:0<=T.L P.k d*T.L p j:=Int.mul_nonneg g2 (by exact Int.not_lt.mp ‹_›);lia
   rw[<- e]at hge;exact Int.nonneg_of_mul_nonneg_right hge pos |> λz=>by first|exact z|lia
end
end Sx
namespace Sx
section
def Inv.indep(I:Inv P σ T){w:Nat->Int}(h:∀x,x<P.n->(aS P.n λi=>w i*P.a (T.f i) x)=0)(i:Nat)(hi:i<P.n):w i=0:=by
 have e1:c9 P.n (aV (T.F P) i λx=>aS P.n λl=>w l*T.F P l x)=0:=by
  rw[<- JN (M:=T.F P) hi];refine lJ λr x hr hx=>?_;by_cases e:r=i
  .subst e
   rw[aJ,aJ];exact h x hx
  .rw[aE e,aE e]
 rw[wP hi,cR (k:=i) hi λl hl hne=>?_]at e1
 .rw[g9,I.det_s]at e1
  rcases Int.mul_eq_zero.mp e1 with z|z
  .exact z
  .rcases Int.mul_eq_zero.mp z with z|z
   .have:=I.sg
    grind
   .have:=I.pos
    lia
 .have:c9 P.n (aV (T.F P) i (T.F P l))=0:=wO hi hl (λz=>hne z.symm) λx=>by rw[aJ,aE hne]
  rw[this];lia
structure At(P:Pr)(T:Tab)(u:Nat)(E:Nat->Int)(V:Int):Prop where
 a:∀x,x<P.n->T.s*P.a u x+(aS P.n λi=>E i*P.a (T.f i) x)=0
 c:T.s*P.c u+(aS P.n λi=>E i*P.c (T.f i))=V
def Inv.at_held(I:Inv P σ T)(hr:r<=P.k):At P T (T.h r) (T.L r) (T.L r P.n):=⟨I.cr r hr,(I.lc r hr).symm⟩
def FK(hj:j<P.n):At P T (T.f j) (λi=>if i=j then -T.s else 0) 0:=by
 refine⟨λx _=>?_,?_⟩
 .rw[cR (k:=j) hj λi _ hne=>by rw[Ã hne];lia,Â rfl]
  grind
 .rw[cR (k:=j) hj λi _ hne=>by rw[Ã hne];lia,Â rfl]
  grind
def Inv.eval(I:Inv P σ T){ρ:Nat->Int}{u:Nat->Nat}{E:Nat->Nat->Int}{V:Nat->Int}(hat:∀t,t<q->At P T (u t) (E t) (V t))(ha:∀x,x<P.n->(aS q λt=>ρ t*P.a (u t) x)=0)(hc:(aS q λt=>ρ t*P.c (u t))=ρ0):
  (aS q λt=>ρ t*V t)=T.s*ρ0:=by
 have lin:∀b:Nat->Int,(aS P.n λi=>(aS q λt=>ρ t*E t i)*b i)=aS q λt=>ρ t*aS P.n λi=>E t i*b i:=λb=>by
  have e1:(aS P.n λi=>(aS q λt=>ρ t*E t i)*b i)=aS P.n λi=>aS q λt=>ρ t*(E t i*b i):=bG λi _=>by
   rw[Int.mul_comm,<- dY]
   grind
  rw[e1,CW];exact bG λt _=>dY
 have w0:∀i,i<P.n->(aS q λt=>ρ t*E t i)=0:=λi hi=>I.indep (w:=λi=>aS q λt=>ρ t*E t i) (λx hx=>by
  rw[lin λi=>P.a (T.f i) x];have e2:(aS q λt=>ρ t*aS P.n λi=>E t i*P.a (T.f i) x)=aS q λt=>-T.s*(ρ t*P.a (u t) x):=bG λt ht=>by
   have:=(hat t ht).a x hx
   grind
  rw[e2,dY,ha x hx];lia) i hi
 have e4:(aS q λt=>ρ t*V t)=aS q λt=>T.s*(ρ t*P.c (u t))+ρ t*aS P.n λi=>E t i*P.c (T.f i):=bG λt ht=>by
  rw[<- (hat t ht).c]
  grind
 rw[e4,jI,dY,hc,<- lin λi=>P.c (T.f i),fQ λi hi=>by rw[w0 i hi];lia];lia
def O6:∀{n:Nat}{g:Nat->Int},aS n g<0->∃m,m<n/\g m<0
 |0,_,h=>by simp[aS]at h
 |n+1,g,h=>by
  rw[aS]at h;by_cases c:g n<0
  .grind
  .obtain⟨m,hm,e⟩:=O6 (n:=n) (g:=g) ∅
   grind
structure Ch(P:Pr)(T:Tab)(p d:Nat):Prop where
 hp:p<P.k
 neg:T.L p P.n<0
 first:∀r,r<P.k->T.L r P.n<0->T.h p<=T.h r
 hd:d<P.n
 dneg:T.L p d<0
 best:∀j,j<P.n->T.L p j<0->T.L P.k d*-T.L p j<T.L P.k j*-T.L p d\/(T.L P.k d*-T.L p j=T.L P.k j*-T.L p d/\T.f d<=T.f j)
def Ch.inv(C:Ch P T p d)(I:Inv P σ T):Inv P σ (swap T p d):=I.swap C.hp C.hd C.dneg λj hj hn=>by
 rcases C.best j hj hn with h|h<;>lia
def Fr(P:Pr)(T:Tab)(u:Nat):Prop:=∃j,j<P.n/\T.f j=u
def NZ(P:Pr)(T:Tab)(u:Nat):Prop:=∃j,j<P.n/\T.f j=u/\T.L P.k j≠0
def uA(C:Ch P T p d)(I:Inv P σ T)(u:Nat):Fr P (swap T p d) u↔u=T.h p\/(Fr P T u/\u≠T.f d):=by
 constructor
 .rintro⟨j,hj,e⟩
  rw[fP]at e;split at e
  .exact .inl e.symm
  .rename_i hjd
   refine .inr ⟨⟨j,hj,e⟩,λz=>hjd (I.fi j d hj C.hd ?_)⟩;rw[e,z]
 .rintro(rfl|⟨⟨j,hj,rfl⟩,hne⟩)
  .exact⟨d,C.hd,by rw[fP,Â rfl]⟩
  .exact⟨j,hj,by rw[fP,Ã λz=>hne (by rw[z])]⟩
def aDK(C:Ch P T p d)(I:Inv P σ T)(hz:T.L P.k d=0)(u:Nat):NZ P (swap T p d) u↔NZ P T u:=by
 have pos:=I.pos;have step:∀j,j<P.n->j≠d->((swap T p d).L P.k j≠0↔T.L P.k j≠0):=λj hj hjd=>by
  have e:=(I.quot C.hp C.hd (r:=P.k) (È _) (by have:=C.hp;exact Þ ‹_›) hj hjd).1;rw[hz,Int.zero_mul,Int.add_zero]at e;have dn:=C.dneg;constructor
  .intro h z
   rw[z,Int.mul_zero]at e;rcases Int.mul_eq_zero.mp e with z|z
   .lia
   .exact h z
  .intro h z
   rw[z,Int.mul_zero]at e;rcases Int.mul_eq_zero.mp e.symm with z|z
   .lia
   .exact h z
 have ed:(swap T p d).L P.k d=0:=by rw[t9 (by have:=C.hp;exact Þ ‹_›)];exact hz
 constructor
 .rintro⟨j,hj,e,hnz⟩
  rw[fP]at e;by_cases hjd:j=d
  .grind
  .rw[Ã hjd]at e
   exact⟨j,hj,e,(step j hj hjd).mp hnz⟩
 .rintro⟨j,hj,e,hnz⟩
  by_cases hjd:j=d
  .grind
  .exact⟨j,hj,by rw[fP,Ã hjd];exact e,(step j hj hjd).mpr hnz⟩
def Inv.held_nz(I:Inv P σ T)(hr:r<=P.k):¬NZ P T (T.h r):=λzQ=>by let⟨j,hj,e,_⟩:=zQ;exact I.fh j r hj hr e
def Inv.not_fr(I:Inv P σ T)(hr:r<=P.k):¬Fr P T (T.h r):=λzQ=>by let⟨j,hj,e⟩:=zQ;exact I.fh j r hj hr e
end
structure KG(P:Pr)(σ:Int)(T:Nat->Tab)(p d:Nat->Nat)(l:Nat):Prop where
 inv:Inv P σ (T 0)
 ch:∀i,i<l->Ch P (T i) (p i) (d i)
 next:∀i,i<l->T (i+1)=swap (T i) (p i) (d i)
section
def KG.inv_at(R:KG P σ T p d l):∀i,i<=l->Inv P σ (T i)
 |0,_=>R.inv
 |i+1,h=>by
  rw[R.next i (by assumption)];exact(R.ch i (by assumption)).inv (R.inv_at i 'a')
structure İ(P:Pr)(T:Nat->Tab)(p d:Nat->Nat)(x y t:Nat):Prop where
 e:∀m,x<=m->m<y->(T m).h (p m)<t
 g:∀m,x<=m->m<y->(T m).f (d m)<t
 z:∀m,x<=m->m<y->(T m).L P.k (d m)=0
def İ.fr(R:KG P σ T p d l)(S:İ P T p d x y t)(hy:y<=l)(hu:t<=u):∀m,x<=m->m<=y->(Fr P (T m) u↔Fr P (T x) u):=by
 intro m hx
 induction m with
 |zero=>grind
 |succ m ih=>
  intro hm;by_cases e:x=m+1
  .rw[e]
  .have h1:=S.e m ∅ (by assumption)
   have h2:=S.g m ∅ (by assumption);rw[<- ih ∅ 'a',R.next m 'l',uA (R.ch m 'l') (R.inv_at m 'l')]
   grind
def İ.nz(R:KG P σ T p d l)(S:İ P T p d x y t)(hy:y<=l):∀m,x<=m->m<=y->(NZ P (T m) u↔NZ P (T x) u):=by
 intro m hx
 induction m with
 |zero=>grind
 |succ m ih=>
  intro hm;by_cases e:x=m+1
  .rw[e]
  .rw[<- ih ∅ 'a',R.next m 'l']
   exact aDK (R.ch m 'l') (R.inv_at m 'l') (S.z m ∅ (by assumption)) u
theorem O7(R:KG P σ T p d l)(S:İ P T p d x y (t+1))(hy:y<=l)(hi:x<=i)(hi2:i<y)(hj:x<=j)(hj2:j<y)(hA:(T i).h (p i)=t)(hB:(T j).f (d j)=t):False:=by
 have IA:=R.inv_at i 'l';have IB:=R.inv_at j 'l';have CA:=R.ch i 'l';have CB:=R.ch j 'l';have pB:=CB.hp
 -- where an unknown stands at A
 have stand:∀u,u<P.N->∃E V,At P (T i) u E V/\((Fr P (T i) u/\V=0)\/∃r,r<P.k/\(T i).h r=u/\V=(T i).L r P.n):=λu hu=>by
  rcases IA.all u hu with ⟨m,hm,e⟩|⟨r,hr,e⟩
  .exact⟨_,0,by rw[<- e];exact FK hm,.inl ⟨⟨m,hm,e⟩,rfl⟩⟩
  .exact⟨_,_,by rw[<- e];exact IA.at_held 'a',.inr ⟨r,hr,e,rfl⟩⟩
 -- the unknowns of B's line
 let u:Nat->Nat:=λm=>if m<P.n then (T j).f m else (T j).h (p j);let ρ:Nat->Int:=λm=>if m<P.n then (T j).L (p j) m else (T j).s;have uN:∀m,u m<P.N:=λm=>by
  show (if m<P.n then (T j).f m else (T j).h (p j))<P.N;split
  .rename_i h;exact IB.fN m h
  .exact IB.hN _ pB
 have ev:=IA.eval (q:=P.n+1) (ρ:=ρ) (u:=u) (E:=λm=>(stand (u m) (uN m)).choose) (V:=λm=>(stand (u m) (uN m)).choose_spec.choose) (ρ0:=(T j).L (p j) P.n) (λm _=>(stand (u m) (uN m)).choose_spec.choose_spec.1) (λx hx=>by
  have e:=IB.cr (p j) 'a' x hx;rw[aS];have e1:(aS P.n λm=>ρ m*P.a (u m) x)=aS P.n λm=>(T j).L (p j) m*P.a ((T j).f m) x:=bG λm hm=>by
   grind
  grind) (by
  have e:=IB.lc (p j) 'a';rw[aS];have e1:(aS P.n λm=>ρ m*P.c (u m))=aS P.n λm=>(T j).L (p j) m*P.c ((T j).f m):=bG λm hm=>by
   grind
  grind)
 have neg:(T i).s*(T j).L (p j) P.n<0:=Int.mul_neg_of_pos_of_neg IA.pos CB.neg;rw[<- ev]at neg;let⟨m,hm,hneg⟩:=O6 neg;have st:=(stand (u m) (uN m)).choose_spec.choose_spec.2;generalize (stand (u m) (uN m)).choose_spec.choose=V at st hneg
 -- it is held at A
 rcases st with ⟨_,hV⟩|⟨r,hr,hru,hV⟩
 .grind
 .have notA:¬Fr P (T i) (u m):=by rw[<- hru];exact IA.not_fr 'a'
  have fromA:V<0->t<=u m:=λhv=>by
   rw[<- hA,<- hru];exact CA.first r hr (by rw[<- hV];exact hv)
  by_cases hmn:m<P.n
  .have eu:u m=(T j).f m:=Â hmn
   have eρ:ρ m=(T j).L (p j) m:=Â hmn;rw[eρ]at hneg;have frB:Fr P (T j) (u m):=⟨m,hmn,eu.symm⟩
   -- it has moved
   have le:u m<=t:=by
    refine Nat.le_of_not_lt λgt=>?_;have h1:=S.fr R hy (u:=u m) (by assumption) i hi 'a';have h2:=S.fr R hy (u:=u m) (by assumption) j hj 'a';exact notA (h1.mpr (h2.mp frB))
   by_cases hv:V<0
   .have:=fromA hv
    have et:(T j).f m=(T j).f (d j):=by rw[hB,<- eu];exact Nat.le_antisymm ‹_› ‹_›
    have:=IB.fi m (d j) hmn CB.hd et;rw[this]at hneg;have dn:=CB.dneg;have:=Int.mul_pos_of_neg_of_neg dn hv;lia
   .have hv0:0<V:=by
     rcases Int.lt_trichotomy V 0 with z|z|z
     .contradiction
     .grind
     .exact z
    have ln:(T j).L (p j) m<0:=by
     refine Int.not_le.mp λz=>?_;have:=Int.mul_nonneg z (ö hv0);lia
    have ne:u m≠t:=λz=>by
     have hrp:r=p i:=IA.hi r (p i) 'a' (by have:=CA.hp;exact É ‹_›) (by rw[hru,hA,z]);rw[hV,hrp]at hv0;have:=CA.neg;lia
    have zB:=S.z j hj hj2;have nzA:¬NZ P (T i) (u m):=by rw[<- hru];exact IA.held_nz 'a'
    have nzB:¬NZ P (T j) (u m):=λz=>nzA ((S.nz R hy i hi 'a').mpr ((S.nz R hy j hj 'a').mp z));have gz:(T j).L P.k m=0:=Ď λz=>nzB ⟨m,hmn,eu.symm,z⟩;rcases CB.best m hmn ln with h|h
    all_goals grind
  .have eu:u m=(T j).h (p j):=Ã hmn
   have eρ:ρ m=(T j).s:=Ã hmn;rw[eρ]at hneg;have sB:=IB.pos;have hv:V<0:=by
    refine Int.not_le.mp λz=>?_;have:=Int.mul_nonneg (ö sB) z;lia
   have h1:=fromA hv;have h2:=S.e j hj hj2;have et:(T j).f (d j)=(T j).h (p j):=by rw[hB,<- eu];lia
   exact IB.fh (d j) (p j) CB.hd 'a' et
end
end Sx
namespace Sx
section
variable {P:Pr}{σ:Int}{T:Nat->Tab}{p d:Nat->Nat}{l:Nat}
def aMN(R:KG P σ T p d l):∀(n x:Nat),x+n<=l->Fr P (T x) t->¬Fr P (T (x+n)) t->∃m,x<=m/\m<x+n/\(T m).f (d m)=t
 |0,x,_,h1,h2=>absurd h1 h2
 |n+1,x,hl,h1,h2=>by
  by_cases c:Fr P (T (x+n)) t
  .refine⟨x+n,by exact Nat.le_add_right _ _,by exact ð _,?_⟩
   refine Ď λhne=>h2 ?_;rw[<- Nat.add_assoc,R.next (x+n) (by assumption),uA (R.ch _ (by assumption)) (R.inv_at _ 'a')]
   grind
  .obtain⟨m,h3,h4,h5⟩:=aMN R n x 'a' h1 c
   grind
def aMO(R:KG P σ T p d l):∀(n x:Nat),x+n<=l->¬Fr P (T x) t->Fr P (T (x+n)) t->∃m,x<=m/\m<x+n/\(T m).h (p m)=t
 |0,x,_,h1,h2=>absurd h2 h1
 |n+1,x,hl,h1,h2=>by
  by_cases c:Fr P (T (x+n)) t
  .obtain⟨m,h3,h4,h5⟩:=aMO R n x 'a' h1 c
   grind
  .refine⟨x+n,by exact Nat.le_add_right _ _,by exact ð _,?_⟩
   rw[<- Nat.add_assoc,R.next (x+n) (by assumption),uA (R.ch _ (by assumption)) (R.inv_at _ 'a')]at h2
   grind
def bd:Nat->Nat
 |0=>0
 |t+1=>2*bd t+1
def aF1(R:KG P σ T p d l):∀(t x y:Nat),y<=l->İ P T p d x y t->y-x<=bd t
 |0,x,y,hy,S=>by
  by_cases h:x<y
  .exact absurd (S.e x (È _) h) ∅
  .rw[bd];lia
 |t+1,x,y,hy,S=>by
  have sub:∀x' y',x<=x'->y'<=y->(∀m,x'<=m->m<y'->(T m).h (p m)≠t/\(T m).f (d m)≠t)->y'-x'<=bd t:=λx' y' h1 h2 h3=>aF1 R t x' y' 'l' ⟨λm a b=>by
   have:=S.e m 'l' 'l'
   grind,λm a b=>by
   have:=S.g m 'l' 'l'
   grind,λm a b=>S.z m 'l' 'l'⟩
  by_cases ex:∃m,x<=m/\m<y/\((T m).h (p m)=t\/(T m).f (d m)=t)
  .obtain⟨m0,a0,b0,c0⟩:=ex
   have no2:∀m m',x<=m->m<m'->m'<y->((T m).h (p m)=t\/(T m).f (d m)=t)->((T m').h (p m')=t\/(T m').f (d m')=t)->False:=by
    intro m m' h1 h2 h3 c c';have IM:=R.inv_at m ∅;have CM:=R.ch m ∅;have IM':=R.inv_at m' 'l';have CM':=R.ch m' 'l';rcases c with c|c
    .rcases c' with c'|c'
     ·-- freed twice
      have f1:Fr P (T (m+1)) t:=by
       rw[R.next m ∅,uA CM IM];exact .inl c.symm
      have f2:¬Fr P (T (m+1+(m'-(m+1)))) t:=by
       rw[show m+1+(m'-(m+1))=m' by lia,<- c'];exact IM'.not_fr (by have:=CM'.hp;exact É ‹_›)
      let⟨q,q1,q2,q3⟩:=aMN R (m'-(m+1)) (m+1) ∅ f1 f2;exact O7 R S hy h1 ∅ ∅ ∅ c q3
     .exact O7 R S hy h1 'l' ∅ h3 c c'
    .rcases c' with c'|c'
     .exact O7 R S hy ∅ h3 h1 'l' c' c
     .have f1:¬Fr P (T (m+1)) t:=by
       rw[R.next m ∅,uA CM IM];rintro(h|h)
       .exact IM.fh (d m) (p m) CM.hd (by have:=CM.hp;exact É ‹_›) (by rw[c,h])
       .exact h.2 c.symm
      have f2:Fr P (T (m+1+(m'-(m+1)))) t:=by
       rw[show m+1+(m'-(m+1))=m' by lia];exact⟨d m',CM'.hd,c'⟩
      let⟨q,q1,q2,q3⟩:=aMO R (m'-(m+1)) (m+1) ∅ f1 f2;exact O7 R S hy ∅ ∅ h1 ∅ q3 c
   have l1:=sub x m0 (È _) 'a' λm a b=>⟨λz=>no2 m m0 a b b0 (.inl z) c0,λz=>no2 m m0 a b b0 (.inr z) c0⟩;have l2:=sub (m0+1) y 'l' (È _) λm a b=>⟨λz=>no2 m0 m a0 (by assumption) b c0 (.inl z),λz=>no2 m0 m a0 (by assumption) b c0 (.inr z)⟩;rw[bd];lia
  .have:=sub x y (È _) (È _) λm a b=>⟨λz=>ex ⟨m,a,b,.inl z⟩,λz=>ex ⟨m,a,b,.inr z⟩⟩
   rw[bd];lia
def KG.fN(R:KG P σ T p d l)(hy:y<=l)(hz:∀m,x<=m->m<y->(T m).L P.k (d m)=0):y-x<=bd P.N:=aF1 R P.N x y hy ⟨λm a b=>(R.inv_at m 'l').hN _ (R.ch m 'l').hp,λm a b=>(R.inv_at m 'l').fN _ (R.ch m 'l').hd,hz⟩
def aMP(R:KG P σ T p d l)(hi:i<l):(T (i+1)).L P.k P.n*(T i).s=(T i).L P.k P.n*(T (i+1)).s+(T i).L P.k (d i)*(T i).L (p i) P.n:=by
 have I:=R.inv_at i 'a';have C:=R.ch i hi;have e:=(I.quotN C.hp C.hd (r:=P.k) (È _) (by have:=C.hp;exact Þ ‹_›)).1;rw[R.next i hi];show _=_*-(T i).L (p i) (d i)+_
 grind
def aJP{k0 k1 k2 s0 s1 s2 w:Int}(p0:0<s0)(p1:0<s1)(p2:0<s2)(e:k2*s1=k1*s2+w)(ih:k1*s0<=k0*s1)(le:w<=0):k2*s0<=k0*s2:=by
 have b1:k2*s0*s1=(k1*s0)*s2+w*s0:=by
  rw[Int.mul_right_comm,e,Int.add_mul,Int.mul_right_comm]
 have b2:(k1*s0)*s2<=(k0*s1)*s2:=ġ ih (ö p2);have b3:w*s0<=0:=Int.mul_nonpos_of_nonpos_of_nonneg le (ö p0);rw[Int.mul_right_comm k0]at b2;have a1:k2*s0*s1<=k0*s2*s1:=by lia
 exact Int.le_of_mul_le_mul_right a1 p1
def aJQ{k0 k1 k2 k3 s0 s1 s2 s3 w:Int}(p0:0<s0)(p1:0<s1)(p2:0<s2)(p3:0<s3)(b:k3*s2<=k2*s3)(e:k2*s1=k1*s2+w)(a:k1*s0<=k0*s1)(lt:w<0):k3*s0<k0*s3:=by
 -- k3 s2<=k2 s3;k2 s1=k1 s2+w;k1 s0<=k0 s1
 have s12:0<s1*s2:=Int.mul_pos p1 p2;have a1:k3*s0*(s1*s2)<k0*s3*(s1*s2):=by
  have b1:k3*s0*(s1*s2)=(k3*s2)*(s0*s1):=by grind
  have b2:(k3*s2)*(s0*s1)<=(k2*s3)*(s0*s1):=ġ b (ö (Int.mul_pos p0 p1));have b3:(k2*s3)*(s0*s1)=(k2*s1)*(s0*s3):=by grind
  have b4:(k2*s1)*(s0*s3)=(k1*s0)*(s2*s3)+w*(s0*s3):=by rw[e];grind
  have b5:(k1*s0)*(s2*s3)<=(k0*s1)*(s2*s3):=ġ a (ö (Int.mul_pos p2 p3));have b6:w*(s0*s3)<0:=Int.mul_neg_of_neg_of_pos lt (Int.mul_pos p0 p3);have b7:(k0*s1)*(s2*s3)=k0*s3*(s1*s2):=by grind
  lia
 simp_all
def FL(R:KG P σ T p d l):∀n,i+n<=l->(T (i+n)).L P.k P.n*(T i).s<=(T i).L P.k P.n*(T (i+n)).s
 |0,_=>Int.le_refl _
 |n+1,h=>by
  have ih:=FL R n (i:=i) 'a';have e:=aMP R (i:=i+n) (by assumption);have C:=R.ch (i+n) (by assumption);have I:=R.inv_at (i+n) 'a';have I0:=R.inv_at i ∅;have I1:=R.inv_at (i+n+1) (by assumption);have g:=I.dual _ C.hd;have neg:=C.neg;have p0:=I0.pos;have p1:=I.pos;have p2:=I1.pos;have le:(T (i+n)).L P.k (d (i+n))*(T (i+n)).L (p (i+n)) P.n<=0:=Int.mul_nonpos_of_nonneg_of_nonpos g (by exact ö ‹_›);rw[<- Nat.add_assoc];exact aJP p0 p1 p2 e ih le
def aDL(R:KG P σ T p d l)(h1:i<=m)(h2:m<j)(h3:j<=l)(hnz:(T m).L P.k (d m)≠0):(T j).L P.k P.n*(T i).s<(T i).L P.k P.n*(T j).s:=by
 have a:=FL R (i:=i) (m-i) ∅;have b:=FL R (i:=m+1) (j-(m+1)) ∅;rw[show i+(m-i)=m by lia]at a;rw[show m+1+(j-(m+1))=j by lia]at b;have e:=aMP R (i:=m) 'l';have C:=R.ch m 'l';have I:=R.inv_at m 'l';have p0:=(R.inv_at i ∅).pos;have p1:=I.pos;have p2:=(R.inv_at (m+1) 'l').pos;have p3:=(R.inv_at j (by assumption)).pos;have g:=I.dual _ C.hd;have neg:=C.neg;have lt:(T m).L P.k (d m)*(T m).L (p m) P.n<0:=Int.mul_neg_of_pos_of_neg ∅ neg;exact aJQ p0 p1 p2 p3 b e a lt
def SM(IA:Inv P σ A)(IB:Inv P σ B)(h:∀u,u<P.N->Fr P B u->Fr P A u):B.s*A.L P.k P.n=A.s*B.L P.k P.n:=by
 let u:Nat->Nat:=λm=>if m<P.n then B.f m else P.N;let ρ:Nat->Int:=λm=>if m<P.n then B.L P.k m else B.s;have stand:∀m,m<P.n+1->∃E,At P A (u m) E (if m<P.n then 0 else A.L P.k P.n):=λm hm=>by
  by_cases c:m<P.n
  .obtain⟨j,hj,e⟩:=h (B.f m) (IB.fN m c) ⟨m,c,rfl⟩
   refine⟨λi=>if i=j then -A.s else 0,?_⟩;rw[Â c];show At P A (if m<P.n then B.f m else P.N) _ 0;rw[Â c,<- e];exact FK hj
  .refine⟨A.L P.k,?_⟩
   rw[Ã c];show At P A (if m<P.n then B.f m else P.N) _ _;rw[Ã c,<- IA.hk];exact IA.at_held (È _)
 have ev:=IA.eval (q:=P.n+1) (ρ:=ρ) (u:=u) (E:=λm=>open Classical in if hm:m<P.n+1 then (stand m hm).choose else λ_=>0) (V:=λm=>if m<P.n then 0 else A.L P.k P.n) (ρ0:=B.L P.k P.n) (λm hm=>by
  grind) (λx hx=>by
  have e:=IB.cr P.k (È _) x hx;rw[IB.hk]at e;rw[aS];have e1:(aS P.n λm=>ρ m*P.a (u m) x)=aS P.n λm=>B.L P.k m*P.a (B.f m) x:=bG λm hm=>by
   grind
  grind) (by
  have e:=IB.lc P.k (È _);rw[IB.hk]at e;rw[aS];have e1:(aS P.n λm=>ρ m*P.c (u m))=aS P.n λm=>B.L P.k m*P.c (B.f m):=bG λm hm=>by
   grind
  grind)
 rw[aS,fQ λm hm=>by rw[Â hm];lia]at ev
 grind
def aP6:∀(M:Nat)(g:Nat->Nat),(∀i,i<=M->g i<M)->∃i j,i<j/\j<=M/\g i=g j
 |0,g,h=>absurd (h 0 (È _)) ∅
 |M+1,g,h=>by
  by_cases ex:∃i,i<=M/\g i=g (M+1)
  .obtain⟨i,hi,e⟩:=ex
   exact⟨i,M+1,by grind,by exact ð _,e⟩
  .have hv:=h (M+1) (by exact ð _)
   let⟨i,j,h1,h2,h3⟩:=aP6 M (λi=>if g i=M then g (M+1)else g i) λi hi=>by
    grind
   refine⟨i,j,h1,by grind,?_⟩
   grind
def code(b:Nat->Bool):Nat->Nat
 |0=>0
 |n+1=>2*code b n+(if b n=true then 1 else 0)
def O8 :∀n,code b n<2^n
 |0=>by simp[code]
 |n+1=>by
  have:=O8 (b:=b) n;rw[code,Nat.pow_succ];split<;>lia
def JP :∀n,code b n=code b' n->∀u,u<n->b u=b' u
 |0,_,u,hu=>by grind
 |n+1,e,u,hu=>by
  rw[code,code]at e;have hb:b n=b' n/\code b n=code b' n:=by
   cases h1:b n<;>cases h2:b' n<;>rw[h1,h2]at e<;>simp at e⊢<;>lia
  by_cases c:u=n
  .subst c;exact hb.1
  .exact JP n hb.2 u ∅
def most(N:Nat):Nat:=(2^N+1)*(bd N+1)
def KG.most(R:KG P σ T p d l):l<Sx.most P.N:=by
 refine Nat.lt_of_not_le λhl=>?_
 -- in each window the goal falls once
 have win:∀w,w<=2^P.N->∃m,w*(bd P.N+1)<=m/\m<(w+1)*(bd P.N+1)/\(T m).L P.k (d m)≠0:=λw hw=>by
  refine Ď λno=>?_;have hle:(w+1)*(bd P.N+1)<=Sx.most P.N:=Nat.mul_le_mul_right _ 'l';have:=R.fN (x:=w*(bd P.N+1)) (y:=(w+1)*(bd P.N+1)) 'l' λm a b=>Ď λz=>no ⟨m,a,b,z⟩
  grind
 let mm:Nat->Nat:=λw=>open Classical in if hw:w<=2^P.N then (win w hw).choose else 0;have mmS:∀w,w<=2^P.N->w*(bd P.N+1)<=mm w/\mm w<(w+1)*(bd P.N+1)/\(T (mm w)).L P.k (d (mm w))≠0:=λw hw=>by
  grind
 let fb:Nat->Nat->Bool:=λw u=>open Classical in decide (Fr P (T (mm w)) u);let⟨i,j,h1,h2,h3⟩:=aP6 (2^P.N) (λw=>code (fb w) P.N) λw _=>O8 P.N;have si:=mmS i 'l';have sj:=mmS j h2;have hij:(i+1)*(bd P.N+1)<=j*(bd P.N+1):=Nat.mul_le_mul_right _ (by assumption);have hjl:(j+1)*(bd P.N+1)<=Sx.most P.N:=Nat.mul_le_mul_right _ 'l';have fl:=aDL R (i:=mm i) (m:=mm i) (j:=mm j) (È _) ∅ ∅ si.2.2;have sg:=SM (R.inv_at (mm i) ∅) (R.inv_at (mm j) ∅) λu hu hf=>by
  have e:=JP P.N h3 u hu
  grind
 grind
end
end Sx
namespace Sx
def shr(n:Nat)(f:Nat->Nat)(w:Nat->Int)(u:Nat):Int:=aS n λj=>if f j=u then w j else 0
def shr_at(hf:∀i j,i<n->j<n->f i=f j->i=j)(hj:j<n):shr n f w (f j)=w j:=by
 unfold shr;rw[cR (k:=j) hj λi hi hne=>Ã λz=>hne (hf i j hi hj z),Â rfl]
def shr_no(h:∀j,j<n->f j≠u):shr n f w u=0:=fQ λj hj=>Ã (h j hj)
structure Lp where
 n:Nat
 m:Nat
 row:Nat->j0
 top:Nat->Int
 room:Nat->Int
def Lp.pr(Q:Lp):Pr where
 n:=Q.n
 k:=Q.m+Q.n
 N:=Q.n+Q.m+Q.n
 a:=λu x=>if u<Q.n then (if x=u then -1 else 0)else if u<Q.n+Q.m then Q.row (u-Q.n) x else if u<Q.n+Q.m+Q.n then (if x=u-(Q.n+Q.m)then 1 else 0)else 1
 c:=λu=>if u<Q.n then 0 else if u<Q.n+Q.m then Q.top (u-Q.n)else if u<Q.n+Q.m+Q.n then Q.room (u-(Q.n+Q.m))else 0
def Lp.start(Q:Lp):Tab where
 s:=1
 f:=λj=>j
 h:=λr=>Q.n+r
 L:=λr j=>if j<Q.n then Q.pr.a (Q.n+r) j else Q.pr.c (Q.n+r)
section
variable {Q:Lp}
def AB(h:i<Q.n):Q.pr.a i x=if x=i then -1 else 0:=Â h
def aF2(h:r<Q.m):Q.pr.a (Q.n+r) x=Q.row r x:=by
 show (if Q.n+r<Q.n then _ else if Q.n+r<Q.n+Q.m then Q.row (Q.n+r-Q.n) x else _)=_
 grind
def YK(h:i<Q.n):Q.pr.a (Q.n+Q.m+i) x=if x=i then 1 else 0:=by
 show (if Q.n+Q.m+i<Q.n then _ else if Q.n+Q.m+i<Q.n+Q.m then _ else if Q.n+Q.m+i<Q.n+Q.m+Q.n then (if x=Q.n+Q.m+i-(Q.n+Q.m)then (1:Int)else 0)else _)=_
 grind
def MJ:Q.pr.a Q.pr.N x=1:=by
 show (if Q.n+Q.m+Q.n<Q.n then _ else if Q.n+Q.m+Q.n<Q.n+Q.m then _ else if Q.n+Q.m+Q.n<Q.n+Q.m+Q.n then _ else (1:Int))=_
 grind
def YL(h:i<Q.n):Q.pr.c i=0:=Â h
def aF3(h:r<Q.m):Q.pr.c (Q.n+r)=Q.top r:=by
 show (if Q.n+r<Q.n then _ else if Q.n+r<Q.n+Q.m then Q.top (Q.n+r-Q.n)else _)=_
 grind
def YM(h:i<Q.n):Q.pr.c (Q.n+Q.m+i)=Q.room i:=by
 show (if Q.n+Q.m+i<Q.n then _ else if Q.n+Q.m+i<Q.n+Q.m then _ else if Q.n+Q.m+i<Q.n+Q.m+Q.n then Q.room (Q.n+Q.m+i-(Q.n+Q.m))else _)=_
 grind
def YN:Q.pr.c Q.pr.N=0:=by
 show (if Q.n+Q.m+Q.n<Q.n then _ else if Q.n+Q.m+Q.n<Q.n+Q.m then _ else if Q.n+Q.m+Q.n<Q.n+Q.m+Q.n then _ else (0:Int))=_
 grind
def aDM:∀n:Nat,c9 (n+1) (λj x=>if x=j then -1 else 0)=-c9 n (λj x=>if x=j then -1 else 0):=λn=>by
 rw[c9,cR (k:=0) (by exact ă _) λi hi hne=>by
  grind]
 have e:fC (λj x=>if x=j then (-1:Int)else 0) 0=λj x=>if x=j then -1 else 0:=by
  funext r c;unfold fC skip;rw[Ã ∅];by_cases h:c=r
  .grind
  .grind
 rw[e];show Ė 0*(if 0=0 then -1 else 0)*_=_;rw[Â rfl];show 1*-1*_=_;lia
def YO:∀n:Nat,c9 n (λj x=>if x=j then -1 else 0)*c9 n (λj x=>if x=j then -1 else 0)=1
 |0=>rfl
 |n+1=>by
  rw[aDM];have:=YO n
  grind
def Lp.inv(Q:Lp):Inv Q.pr (c9 Q.n (λj x=>if x=j then -1 else 0)) Q.start:=by
 have sq:=YO Q.n;have eF:∀M:Nat->j0,(∀j x,j<Q.n->M j x=if x=j then -1 else 0)->c9 Q.n M=c9 Q.n (λj x=>if x=j then -1 else 0):=λM h=>lJ λr c hr _=>h r c hr;have hF:∀j x,j<Q.n->Q.start.F Q.pr j x=if x=j then -1 else 0:=λj x hj=>AB hj;have dF:=eF (Q.start.F Q.pr) hF;have dU:∀(j:Nat)(v:j0),j<Q.n->c9 Q.n (aV (Q.start.F Q.pr) j v)=-v j*c9 Q.n (λj x=>if x=j then -1 else 0):=λj v hj=>by
  have e1:c9 Q.n (aV (Q.start.F Q.pr) j v)=c9 Q.n (aV (Q.start.F Q.pr) j λx=>aS Q.n λl=>-v l*Q.start.F Q.pr l x):=lJ λr x hr hx=>by
   by_cases e:r=j
   .subst e
    rw[aJ,aJ,cR (k:=x) hx λl hl hne=>by grind,hF x x hx,Â rfl];lia
   .rw[aE e,aE e]
  rw[e1,wP hj,cR (k:=j) hj λl hl hne=>?_,g9,dF];have:c9 Q.n (aV (Q.start.F Q.pr) j (Q.start.F Q.pr l))=0:=wO hj hl (λz=>hne z.symm) λx=>by rw[aJ,aE hne]
  rw[this];lia
 have Lj:∀r j,j<Q.n->Q.start.L r j=Q.pr.a (Q.n+r) j:=λr j hj=>Â hj;have Ln:∀r,Q.start.L r Q.n=Q.pr.c (Q.n+r):=λr=>Ã ∅;have kN:Q.pr.k=Q.m+Q.n:=rfl;have NN:Q.pr.N=Q.n+Q.m+Q.n:=rfl;have nn:Q.pr.n=Q.n:=rfl;refine⟨sq,by show (0:Int)<1;decide,?_,?_,?_,?_,?_,?_,?_,?_,?_,?_,?_,?_⟩
 .show (1:Int)=_*c9 Q.n (Q.start.F Q.pr)
  rw[dF,sq]
 .intro r _ j hj
  rw[Lj r j hj];show _=_*c9 Q.n (aV (Q.start.F Q.pr) j (Q.pr.a (Q.n+r)));rw[dU j _ hj]
  grind
 .intro r _
  show Q.start.L r Q.n=1*Q.pr.c (Q.n+r)+aS Q.n λj=>Q.start.L r j*Q.pr.c j;rw[Ln,fQ λj hj=>by rw[YL hj];lia];lia
 .intro r _ x hx
  show 1*Q.pr.a (Q.n+r) x+(aS Q.n λj=>Q.start.L r j*Q.pr.a j x)=0;have hx:x<Q.n:=hx;rw[cR (k:=x) hx λl hl hne=>by rw[AB hl,Ã λz=>hne z.symm];lia,AB hx,Â rfl,Lj r x hx];lia
 .exact λi j _ _ e=>e
 .intro r q _ _ e
  have e:Q.n+r=Q.n+q:=e;lia
 .intro j r hj _ e
  have e:j=Q.n+r:=e
  grind
 .show Q.n+(Q.m+Q.n)=Q.n+Q.m+Q.n
  lia
 .intro u hu
  rw[NN]at hu;by_cases h:u<Q.n
  .exact .inl ⟨u,h,rfl⟩
  .refine .inr ⟨u-Q.n,by rw[kN];lia,?_⟩
   show Q.n+(u-Q.n)=u;lia
 .intro j hj
  show j<Q.n+Q.m+Q.n
  grind
 .intro r hr
  show Q.n+r<Q.n+Q.m+Q.n
  grind
 .intro j hj
  rw[Lj _ j hj];have:Q.n+Q.pr.k=Q.pr.N:=by rw[kN,NN];lia
  rw[this,MJ];decide
variable {σ:Int}{T:Tab}
def val(P:Pr)(T:Tab)(u:Nat):Int:=shr P.k T.h (λr=>T.L r P.n) u
def MK(I:Inv Q.pr σ T)(hu:u<Q.pr.N):∃E,At Q.pr T u E (val Q.pr T u):=by
 rcases I.all u hu with ⟨j,hj,e⟩|⟨r,hr,e⟩
 .have:val Q.pr T u=0:=shr_no λr hr z=>I.fh j r hj 'a' (by rw[e,z])
  rw[this,<- e];exact⟨_,FK hj⟩
 .have:val Q.pr T u=T.L r Q.pr.n:=by
   unfold val;rw[<- e];exact shr_at (λi j hi hj z=>I.hi i j 'a' 'a' z) hr
  rw[this,<- e];exact⟨_,I.at_held 'a'⟩
def aMQ(I:Inv Q.pr σ T):(∀r,r<Q.m->val Q.pr T (Q.n+r)+(aS Q.n λx=>Q.row r x*val Q.pr T x)=T.s*Q.top r)/\(∀i,i<Q.n->val Q.pr T (Q.n+Q.m+i)+val Q.pr T i=T.s*Q.room i)/\T.L Q.pr.k Q.n+(aS Q.n λx=>val Q.pr T x)=0:=by
 have fillN:∀x,x<Q.n->x<Q.pr.N:=λx hx=>by show x<Q.n+Q.m+Q.n;lia
 -- a relation of the aMQ and one more
 have rel:∀(u:Nat)(E:Nat->Int)(V:Int)(w:Nat->Int)(ρ0:Int),At Q.pr T u E V->(∀x,x<Q.n->Q.pr.a u x=w x)->Q.pr.c u=ρ0->V+(aS Q.n λx=>w x*val Q.pr T x)=T.s*ρ0:=λu E V w ρ0 hA ha hc=>by
  have ev:=I.eval (q:=Q.n+1) (ρ:=λm=>if m<Q.n then w m else 1) (u:=λm=>if m<Q.n then m else u) (E:=λm=>open Classical in if hm:m<Q.n then (MK I (fillN m hm)).choose else E) (V:=λm=>if m<Q.n then val Q.pr T m else V) (ρ0:=ρ0) (λm hm=>by
   grind) (λx hx=>by
   have hx:x<Q.n:=hx;rw[aS,Ã ∅,Ã ∅,ha x hx,cR (k:=x) hx λm hm hne=>by rw[Â hm,Â hm,AB hm,Ã λz=>hne z.symm];lia,Â hx,Â hx,AB hx,Â rfl];lia) (by
   rw[aS,Ã ∅,Ã ∅,hc,fQ λm hm=>by rw[Â hm,Â hm,YL hm];lia];lia)
  rw[aS,Ã ∅,Ã ∅]at ev;have e1:(aS Q.n λm=>(if m<Q.n then w m else 1)*(if m<Q.n then val Q.pr T m else V))=aS Q.n λx=>w x*val Q.pr T x:=bG λm hm=>by rw[Â hm,Â hm]
  rw[e1]at ev;lia
 refine⟨λr hr=>?_,λi hi=>?_,?_⟩
 .obtain⟨E,hA⟩:=MK I (u:=Q.n+r) (by show Q.n+r<Q.n+Q.m+Q.n;lia)
  exact rel _ E _ (Q.row r) (Q.top r) hA (λx _=>aF2 hr) (aF3 hr)
 .obtain⟨E,hA⟩:=MK I (u:=Q.n+Q.m+i) (by show Q.n+Q.m+i<Q.n+Q.m+Q.n;lia)
  have:=rel _ E _ (λx=>if x=i then 1 else 0) (Q.room i) hA (λx _=>YK hi) (YM hi);rw[cR (k:=i) hi λx _ hne=>by rw[Ã hne];lia,Â rfl]at this;lia
 .have hA:=I.at_held (r:=Q.pr.k) (È _)
  rw[I.hk]at hA;have:=rel _ _ _ (λ_=>1) 0 hA (λx _=>MJ) YN;have e:(aS Q.n λx=>1*val Q.pr T x)=aS Q.n λx=>val Q.pr T x:=bG λx _=>by lia
  rw[e]at this;have this:T.L Q.pr.k Q.n+(aS Q.n λx=>val Q.pr T x)=T.s*0:=this;lia
end
end Sx
namespace Sx
def simplex_ind{P:Pr}{σ:Int}{Good:Tab->Prop}(step:∀T,Inv P σ T->(∀p d,Ch P T p d->Good (swap T p d))->Good T)(T:Tab)(I:Inv P σ T):Good T:=by
 refine Ď λh=>?_;have nx:∀B:{T:Tab // Inv P σ T/\¬Good T},∃pd:Nat×Nat,Ch P B.1 pd.1 pd.2/\¬Good (swap B.1 pd.1 pd.2):=λB=>by
  refine Ď λz=>B.2.2 (step B.1 B.2.1 λp d C=>?_);exact Ď λg=>z ⟨(p,d),C,g⟩
 let nxt:{T:Tab // Inv P σ T/\¬Good T}->{T:Tab // Inv P σ T/\¬Good T}:=λB=>⟨swap B.1 (nx B).choose.1 (nx B).choose.2,(nx B).choose_spec.1.inv B.2.1,(nx B).choose_spec.2⟩;let sq:Nat->{T:Tab // Inv P σ T/\¬Good T}:=λi=>Nat.rec ⟨T,I,h⟩ (λ_ B=>nxt B) i;have R:KG P σ (λi=>(sq i).1) (λi=>(nx (sq i)).choose.1) (λi=>(nx (sq i)).choose.2) (most P.N):=⟨I,λi _=>(nx (sq i)).choose_spec.1,λi _=>rfl⟩;exact absurd R.most (ú _)
structure LT where
 s:Int
 free:ZK
 held:ZK
 lines:List (ZK)
 goal:ZK
structure LnR(n:Nat)(ln:ZK)(g:Nat->Int):Prop where
 len:ln.length=n+1
 at':∀j,j<=n->ln[j]?=some (g j)
def LnR.getD(h:LnR n ln g)(hj:j<=n):ln.getD j 0=g j:=by
 rw[Ë,h.at' j hj];rfl
structure Rp(P:Pr)(L:LT)(T:Tab):Prop where
 s:L.s=T.s
 fl:L.free.length=P.n
 hl:L.held.length=P.k
 ll:L.lines.length=P.k
 f:∀j,j<P.n->L.free[j]?=some (T.f j:Int)
 h:∀r,r<P.k->L.held[r]?=some (T.h r:Int)
 l:∀r,r<P.k->∃ln,L.lines[r]?=some ln/\LnR P.n ln (T.L r)
 g:LnR P.n L.goal (T.L P.k)
def clearL(ln pv:ZK)(d:Nat)(s:Int):ZK:=(List.zipWith (λone other=>(-pv.getD d 0*one+ln.getD d 0*other)/s) ln pv).set d (ln.getD d 0)
def turnL(pv:ZK)(d:Nat)(s:Int):ZK:=(pv.map λx=>-x).set d (-s)
def swapL(L:LT)(p d:Nat):LT where
 s:=-(L.lines.getD p []).getD d 0
 free:=L.free.set d (L.held.getD p 0)
 held:=L.held.set p (L.free.getD d 0)
 lines:=(L.lines.map λln=>clearL ln (L.lines.getD p []) d L.s).set p (turnL (L.lines.getD p []) d L.s)
 goal:=clearL L.goal (L.lines.getD p []) d L.s
def JQ{ln pv:ZK}(ha:LnR n ln a)(hb:LnR n pv b)(hd:d<=n):LnR n (clearL ln pv d s) λj=>if j=d then a d else (-b d*a j+a d*b j)/s:=by
 refine⟨by unfold clearL;rw[Ï,List.length_zipWith,ha.len,hb.len,Nat.min_self],λj hj=>?_⟩
 unfold clearL;rw[č,ha.getD hd,hb.getD hd];by_cases e:d=j
 .rw[Â e,Â (by rw[List.length_zipWith,ha.len,hb.len,Nat.min_self];exact Nat.lt_succ_of_le ‹_›)]
  grind
 .rw[Ã e,List.getElem?_zipWith,ha.at' j hj,hb.at' j hj]
  show _=some (if j=d then _ else _);rw[Ã (Í e)]
def aDN{pv:ZK}(hb:LnR n pv b)(hd:d<=n):LnR n (turnL pv d s) λj=>if j=d then -s else -b j:=by
 refine⟨by unfold turnL;rw[Ï,Å,hb.len],λj hj=>?_⟩
 unfold turnL;rw[č];by_cases e:d=j
 .rw[Â e,Â (by rw[Å,hb.len];exact Nat.lt_succ_of_le ‹_›)]
  grind
 .rw[Ã e,Ò,hb.at' j hj]
  grind
def Rp.swap(R:Rp P L T)(hp:p<P.k)(hd:d<P.n):Rp P (swapL L p d) (swap T p d):=by
 let⟨pv,e1,e2⟩:=R.l p hp;have eP:L.lines.getD p []=pv:=by rw[Ë,e1];rfl
 have eH:L.held.getD p 0=T.h p:=by rw[Ë,R.h p hp];rfl
 have eF:L.free.getD d 0=T.f d:=by rw[Ë,R.f d hd];rfl
 refine⟨?_,by show (L.free.set _ _).length=_;rw[Ï,R.fl],by show (L.held.set _ _).length=_;rw[Ï,R.hl],by show ((L.lines.map _).set _ _).length=_;rw[Ï,Å,R.ll],λj hj=>?_,λr hr=>?_,λr hr=>?_,?_⟩
 .show -(L.lines.getD p []).getD d 0=-T.L p d
  rw[eP,e2.getD 'a']
 .show (L.free.set d (L.held.getD p 0))[j]?=some ((if j=d then T.h p else T.f j:Nat):Int)
  rw[č,eH];by_cases e:d=j
  .rw[Â e,Â (by rw[R.fl];assumption),Â e.symm]
  .rw[Ã e,Ã (Í e),R.f j hj]
 .show (L.held.set p (L.free.getD d 0))[r]?=some ((if r=p then T.f d else T.h r:Nat):Int)
  rw[č,eF];by_cases e:p=r
  .rw[Â e,Â (by rw[R.hl];assumption),Â e.symm]
  .rw[Ã e,Ã (Í e),R.h r hr]
 .show ∃ln,((L.lines.map λln=>clearL ln (L.lines.getD p []) d L.s).set p (turnL (L.lines.getD p []) d L.s))[r]?=some ln/\LnR P.n ln (λj=>if r=p then (if j=d then -T.s else -T.L p j)else (if j=d then T.L r d else (-T.L p d*T.L r j+T.L r d*T.L p j)/T.s))
  rw[č,eP,R.s];by_cases e:p=r
  .rw[Â e,Â 'l']
   refine⟨_,rfl,?_⟩;have:=aDN (s:=T.s) e2 (d:=d) 'a'
   grind
  .obtain⟨ln,h1,h2⟩:=R.l r hr
   rw[Ã e,Ò,h1];refine⟨_,rfl,?_⟩;simp![Ã (Í e)];exact JQ h2 e2 'a'
 .show LnR P.n (clearL L.goal (L.lines.getD p []) d L.s) (λj=>if P.k=p then (if j=d then -T.s else -T.L p j)else (if j=d then T.L P.k d else (-T.L p d*T.L P.k j+T.L P.k d*T.L p j)/T.s))
  simp![Ã (show ¬P.k=p by exact Þ ‹_›)];rw[eP,R.s];exact JQ R.g e2 'a'
def startL(Ç:ZE)(Ä:ZK):LT where
 s:=1
 free:=(List.range Ä.length).map λ(i:Nat)=>(i:Int)
 held:=(List.range (Ç.length+Ä.length)).map λ(i:Nat)=>((Ä.length+i:Nat):Int)
 lines:=(Ç.map λr=>r.1++[r.2])++(List.range Ä.length).map λ(i:Nat)=>((List.replicate Ä.length 0).set i 1)++[Ä.getD i 0]
 goal:=List.replicate Ä.length 1++[0]
def lpOf(Ç:ZE)(Ä:ZK):Lp where
 n:=Ä.length
 m:=Ç.length
 row:=λr x=>(Ç.getD r ([],0)).1.getD x 0
 top:=λr=>(Ç.getD r ([],0)).2
 room:=λi=>Ä.getD i 0
def LnR.snoc{v:Nat->Int}(h1:a.length=n)(h2:∀j,j<n->a[j]?=some (v j))(h3:v n=b):LnR n (a++[b]) v:=⟨by rw[Ñ,h1];rfl,λj hj=>by
 by_cases c:j<n
 .rw[ô (by rw[h1];exact c)]
  exact h2 j c
 .obtain rfl:n=j:=Nat.le_antisymm (è.mp c) hj
  rw[ã (by rw[h1];exact È _),h1,û,h3];rfl⟩
def start_ok(hr:∀r∈Ç,r.1.length=Ä.length):Rp (lpOf Ç Ä).pr (startL Ç Ä) (lpOf Ç Ä).start:=by
 have L1:∀r j,j<Ä.length->(lpOf Ç Ä).start.L r j=(lpOf Ç Ä).pr.a (Ä.length+r) j:=λr j hj=>Â hj;have L2:∀r,(lpOf Ç Ä).start.L r Ä.length=(lpOf Ç Ä).pr.c (Ä.length+r):=λr=>Ã (ú _);have lm:(Ç.map λr=>r.1++[r.2]).length=Ç.length:=Å ..;have lr:∀{f:Nat->ZK},((List.range Ä.length).map f).length=Ä.length:=λ{f}=>by rw[Å,List.length_range]
 refine⟨rfl,by show ((List.range _).map _).length=Ä.length;rw[Å,List.length_range],by show ((List.range _).map _).length=Ç.length+Ä.length;rw[Å,List.length_range],by show List.length (_++_)=Ç.length+Ä.length;rw[Ñ,lm,lr],λj hj=>?_,λr hr'=>?_,λr hr'=>?_,?_⟩
 .show ((List.range Ä.length).map _)[j]?=_
  rw[Ò,ÿ (n:=Ä.length) hj];rfl
 .show ((List.range (Ç.length+Ä.length)).map _)[r]?=_
  rw[Ò,ÿ (n:=Ç.length+Ä.length) hr'];rfl
 .show ∃ln,(List.append _ _)[r]?=some ln/\LnR Ä.length ln _
  rw[List.append_eq];by_cases c:r<Ç.length
  .have hg:Ç.getD r ([],0)=Ç[r]:=by rw[Ë,Ê c];rfl
   have hl:=hr Ç[r] (ý c);rw[ô (by rw[lm];exact c),Ò,Ê c];refine⟨_,rfl,LnR.snoc hl (λj hj=>?_) ?_⟩
   .rw[L1 r j hj,show (lpOf Ç Ä).pr.a (Ä.length+r) j=_ from aF2 (Q:=lpOf Ç Ä) c]
    show _=some ((Ç.getD r ([],0)).1.getD j 0);rw[hg,Ë,Ê (by rw[hl];exact hj)];rfl
   .rw[L2,show (lpOf Ç Ä).pr.c (Ä.length+r)=_ from aF3 (Q:=lpOf Ç Ä) c]
    show (Ç.getD r ([],0)).2=_;rw[hg]
  .obtain⟨i,rfl⟩:=Nat.exists_eq_add_of_le (è.mp c)
   have ci:i<Ä.length:=Nat.lt_of_add_lt_add_left hr';rw[ã (by rw[lm];exact Nat.le_add_right _ _),lm,Nat.add_sub_cancel_left,Ò,ÿ ci];refine⟨_,rfl,LnR.snoc (by rw[Ï,ï]) (λj hj=>?_) ?_⟩
   .rw[L1 _ j hj,<- Nat.add_assoc,show (lpOf Ç Ä).pr.a (Ä.length+Ç.length+i) j=_ from YK (Q:=lpOf Ç Ä) ci,č,Ā,ï]
    by_cases e:i=j
    .rw[Â e,Â ci,Â e.symm]
    .rw[Ã e,Â hj,Ã (Í e)]
   .rw[L2,<- Nat.add_assoc,show (lpOf Ç Ä).pr.c (Ä.length+Ç.length+i)=_ from YM (Q:=lpOf Ç Ä) ci]
    rfl
 .have eN:Ä.length+(lpOf Ç Ä).pr.k=(lpOf Ç Ä).pr.N:=(Nat.add_assoc _ _ _).symm
  refine LnR.snoc (n:=Ä.length) (ï ..) (λj hj=>?_) ?_
  .rw[L1 _ j hj,eN,MJ,Ā,Â hj]
  .rw[L2,eN,YN]
end Sx
namespace Sx
def BestC(G l:Nat->Int)(f:Nat->Nat)(j:Nat):Option Nat->Prop
 |none=>∀i,i<j->0<=l i
 |some b=>b<j/\l b<0/\∀i,i<j->l i<0->(G b*-l i<G i*-l b\/(G b*-l i=G i*-l b/\f b<=f i))
section
def BestC.zero:BestC G l f 0 none:=λi hi=>by grind
def BestC.skip(h:BestC G l f j o)(hj:¬l j<0):BestC G l f (j+1) o:=by
 cases o with
 |none=>
  intro i hi;by_cases e:i=j
  .grind
  .exact h i ∅
 |some b=>
  let⟨h1,h2,h3⟩:=h;refine⟨by grind,h2,λi hi hn=>?_⟩
  grind
def BestC.first(h:BestC G l f j none)(hj:l j<0):BestC G l f (j+1) (some j):=by
 refine⟨by exact ð _,hj,λi hi hn=>?_⟩;by_cases e:i=j
 .grind
 .exact absurd (h i ∅) ∅
def BestC.worse(h:BestC G l f j (some b))(na:¬(G j*-l b<G b*-l j\/(G j*-l b=G b*-l j/\f j<f b))):BestC G l f (j+1) (some b):=by
 let⟨h1,h2,h3⟩:=h;refine⟨by grind,h2,λi hi hn=>?_⟩;by_cases e:i=j
 .subst e
  generalize hx:G i*-l b=x at na⊢;generalize hy:G b*-l i=y at na⊢;omega
 .exact h3 i ∅ hn
def CY{A B C a b c:Int}(ha:0<a)(hb:0<b)(hc:0<c)(h1:A*b<=B*a)(h2:B*c<=C*b):A*c<=C*a:=by
 have e1:A*b*c<=B*a*c:=ġ h1 (by exact ö ‹_›);have e2:B*c*a<=C*b*a:=ġ h2 (by exact ö ‹_›);have e3:(A*c)*b<=(C*a)*b:=by
  have p1:A*b*c=(A*c)*b:=by grind
  have p2:B*a*c=B*c*a:=by grind
  have p3:C*b*a=(C*a)*b:=by grind
  lia
 simp_all
def SN{A B C a b c:Int}(ha:0<a)(hb:0<b)(hc:0<c)(h1:A*b<=B*a)(h2:B*c<=C*b)(h:A*b<B*a\/B*c<C*b):A*c<C*a:=by
 have p1:A*b*c=(A*c)*b:=by grind
 have p2:B*a*c=B*c*a:=by grind
 have p3:C*b*a=(C*a)*b:=by grind
 have e1:A*b*c<=B*a*c:=ġ h1 (by exact ö ‹_›);have e2:B*c*a<=C*b*a:=ġ h2 (by exact ö ‹_›);have e3:(A*c)*b<(C*a)*b:=by
  rcases h with h|h
  .have e4:A*b*c<B*a*c:=Int.mul_lt_mul_of_pos_right h hc
   lia
  .have e4:B*c*a<C*b*a:=Int.mul_lt_mul_of_pos_right h ha
   lia
 simp_all
def BestC.better(h:BestC G l f j (some b))(hj:l j<0)(ha:G j*-l b<G b*-l j\/(G j*-l b=G b*-l j/\f j<f b)):BestC G l f (j+1) (some j):=by
 let⟨h1,h2,h3⟩:=h;refine⟨by exact ð _,hj,λi hi hn=>?_⟩;by_cases e:i=j
 .grind
 .have q:=h3 i ∅ hn
  have L1:G j*-l b<=G b*-l j:=by rcases ha with z|z<;>lia
  have L2:G b*-l i<=G i*-l b:=by rcases q with z|z<;>lia
  by_cases s:G j*-l b<G b*-l j\/G b*-l i<G i*-l b
  .exact .inl (SN ∅ ∅ ∅ L1 L2 s)
  .have s1:G j*-l b=G b*-l j:=by lia
   have s2:G b*-l i=G i*-l b:=by lia
   have le:=CY ∅ ∅ ∅ L1 L2;have ge:=CY (A:=G i) (B:=G b) (C:=G j) (a:=-l i) (b:=-l b) (c:=-l j) ∅ ∅ ∅ ∅ ∅;refine .inr ⟨by omega,?_⟩
   grind
end
def ch_of(hp:p<P.k)(neg:T.L p P.n<0)(first:∀r,r<P.k->T.L r P.n<0->T.h p<=T.h r)(hb:BestC (T.L P.k) (T.L p) T.f P.n (some d)):Ch P T p d:=⟨hp,neg,first,hb.1,hb.2.1,hb.2.2⟩
end Sx
namespace Sx
def AC{X:Int}(hX:0<=X):∀{n:Nat}{f:Nat->Int},(∀i,i<n->(f i).natAbs<=X.natAbs)->(aS n f).natAbs<=n*X.natAbs
 |0,_,_=>by simp[aS]
 |n+1,f,h=>by
  rw[aS];have h1:=AC hX (n:=n) (f:=f) λi hi=>h i (by exact Nat.lt_succ_of_lt ‹_›);have h2:=h n (by exact ð _);have h3:=Int.natAbs_add_le (aS n f) (f n);rw[Nat.add_mul];lia
def aDO(i:Nat):(Ė i).natAbs=1:=by
 unfold Ė;split<;>rfl
def fac:Nat->Nat
 |0=>1
 |n+1=>(n+1)*fac n
def FM :∀{n:Nat}{M:Nat->j0},(∀r c,r<n->c<n->(M r c).natAbs<=B)->(c9 n M).natAbs<=fac n*B^n
 |0,M,_=>by simp[c9,fac]
 |n+1,M,h=>by
  rw[c9];have key:∀i,i<n+1->(Ė i*M i 0*c9 n (fC M i)).natAbs<=((B*(fac n*B^n):Nat):Int).natAbs:=λi hi=>by
   have ih:=FM (B:=B) (n:=n) (M:=fC M i) λr c hr hc=>by
    unfold fC;refine h _ _ ?_ (by exact Nat.succ_lt_succ ‹_›);unfold skip;split<;>lia
   rw[Int.natAbs_mul,Int.natAbs_mul,Int.natAbs_natCast];have h1:(Ė i).natAbs=1:=aDO i;rw[h1,Nat.one_mul];exact Nat.mul_le_mul (h i 0 hi (by exact ă _)) ih
  have:=AC (X:=((B*(fac n*B^n):Nat):Int)) ∅ key;rw[Int.natAbs_natCast]at this;refine Ü this (ù ?_);rw[fac,Nat.pow_succ]
  grind
theorem Inv.small(I:Inv P σ T)(ha:∀u x,u<=P.N->x<P.n->(P.a u x).natAbs<=A)(hc:∀u,u<=P.N->(P.c u).natAbs<=C):
  T.s.natAbs<=fac P.n*A^P.n/\(∀r j,r<=P.k->j<P.n->(T.L r j).natAbs<=fac P.n*A^P.n)/\∀r,r<=P.k->(T.L r P.n).natAbs<=(P.n+1)*(fac P.n*A^P.n*C):=by
 have sg:σ.natAbs=1:=by
  have:=congrArg Int.natAbs I.sg;rw[Int.natAbs_mul]at this;have h1:(1:Int).natAbs=1:=rfl;rw[h1]at this;exact Nat.eq_one_of_mul_eq_one_left this
 have hN:∀r,r<=P.k->T.h r<=P.N:=λr hr=>by
  by_cases e:r=P.k
  .rw[e,I.hk];exact È _
  .exact É (I.hN r (by exact Nat.lt_of_le_of_ne ‹_› ‹_›))
 have hs:T.s.natAbs<=fac P.n*A^P.n:=by
  rw[I.sd,Int.natAbs_mul,sg,Nat.one_mul];exact FM λr c hr hcn=>ha _ _ (É (I.fN r hr)) hcn
 have hl:∀r j,r<=P.k->j<P.n->(T.L r j).natAbs<=fac P.n*A^P.n:=λr j hr hj=>by
  rw[I.ld r hr j hj,Int.natAbs_mul,Int.natAbs_neg,sg,Nat.one_mul];refine FM λq c hq hcn=>?_;by_cases e:q=j
  .subst e;rw[aJ];exact ha _ _ (hN r hr) hcn
  .rw[aE e];exact ha _ _ (É (I.fN q hq)) hcn
 refine⟨hs,hl,λr hr=>?_⟩;rw[I.lc r hr];have h1:(T.s*P.c (T.h r)).natAbs<=fac P.n*A^P.n*C:=by
  rw[Int.natAbs_mul];exact Nat.mul_le_mul hs (hc _ (hN r hr))
 have h2:=AC (X:=((fac P.n*A^P.n*C:Nat):Int)) ∅ (n:=P.n) (f:=λj=>T.L r j*P.c (T.f j)) λj hj=>by
  rw[Int.natAbs_mul,Int.natAbs_natCast];exact Nat.mul_le_mul (hl r j hr hj) (hc _ (É (I.fN j hj)))
 rw[Int.natAbs_natCast]at h2;have h3:=Int.natAbs_add_le (T.s*P.c (T.h r)) (aS P.n λj=>T.L r j*P.c (T.f j));rw[Nat.add_mul];lia
end Sx
namespace L2
open PySem PySem.Spec
def kQ(h:∀(K M L:ZO)(S:D->ZO),(∀δ,I δ->K δ)->(∀d δ,R d δ->S d δ)->bN u δ K M L S):bN u δ I N C R:=h I N C R (λ_=>id) λ_ _=>id
def d9{d:D}(h:aU f δ λa δ1=>a=d/\δ1=δ2):f δ=.ok d δ2:=by
 let⟨a,δ1,e,rfl,rfl⟩:=h.ex;exact e
end L2
namespace Toy
open PySem L2
def GP(a b:Nat):Nat.gcd b (a % b)=Nat.gcd a b:=by
 rw[Nat.gcd_comm b,<- Nat.gcd_rec,Nat.gcd_comm]
def aDP{a b:Nat}(h:0<b):D9 (.int a) (.int b)=some (.int ((a % b:Nat):Int)):=by
 rw[HD ∅];rfl
def O9:∀(n a b:Nat)(o:ZL),b<=n->∃o',fF (dB (iF EB (bF 1) (dC (.int 0)))) (eK (jK 2 (iF D9 (bF 0) (bF 1))) (eK (jK 0 (bF 1)) (jK 1 (bF 2)))) [some (.int a),some (.int b),o]=.ok .next [some (.int (Nat.gcd a b:Nat)),some (.int 0),o']
 |n,a,0,o,_=>⟨o,by
  rw[eQ];have:dB (iF EB (bF 1) (dC (.int 0))) [some (.int a),some (.int (0:Nat)),o]=.ok false [some (.int a),some (.int (0:Nat)),o]:=NP (xP (eY rfl) v2 rfl);rw[this,Nat.gcd_zero_right];rfl⟩
 |0,a,b+1,o,h=>absurd h (by exact absurd ‹_› (Nat.not_lt_zero _))
 |n+1,a,b+1,o,h=>by
  let⟨o',ih⟩:=O9 n (b+1) (a % (b+1)) (some (.int ((a % (b+1):Nat):Int))) (by have:=Nat.mod_lt a (show 0<b+1 by exact ă _);lia);refine⟨o',?_⟩;rw[eQ];have c:dB (iF EB (bF 1) (dC (.int 0))) [some (.int a),some (.int (b+1:Nat)),o]=.ok true [some (.int a),some (.int (b+1:Nat)),o]:=by
   refine NP (xP (eY rfl) v2 ?_);rw[NM];have:¬((b+1:Nat):Int)=0:=by lia
   simp;assumption
  rw[c];simp![aW,if_true];have e:eK (jK 2 (iF D9 (bF 0) (bF 1))) (eK (jK 0 (bF 1)) (jK 1 (bF 2))) [some (.int a),some (.int (b+1:Nat)),o]=.ok .next [some (.int (b+1:Nat)),some (.int ((a % (b+1):Nat):Int)),some (.int ((a % (b+1):Nat):Int))]:=by
   simp![eK,jK,iF,bF,List.getElem?_cons_zero,List.getElem?_cons_succ,aW,aDP (show 0<b+1 by exact ă _)];rfl
  rw[e];simp![aW];rw[ih,GP]
def aJR(hb:body=eK (fF (dB (iF EB (bF 1) (dC (.int 0)))) (eK (jK 2 (iF D9 (bF 0) (bF 1))) (eK (jK 0 (bF 1)) (jK 1 (bF 2))))) (pL (bF 0)))(a b:Nat):aR 3 [] 0 body [.int a,.int b]=.ok (.int (Nat.gcd a b:Nat)) []:=by
 subst hb;let⟨o,h⟩:=O9 b a b none (È _);sleep 3;refine VJ (bN.of (fl:=.next) h ?_);dsimp![VI];exact aH3 (aU.of (eY rfl) ⟨rfl,rfl⟩)
def aMR(a b:Nat):jE [.int a,.int b]=.ok (.int (Nat.gcd a b:Nat)) []:=aJR rfl a b
def fr(p:Int×Int):D:=.tuple [.int p.1,.int p.2]
abbrev wY(ps:ZF):D:=.list (ps.map fr)
def dv(t b:Int):Int:=if b<0 then -(Nat.gcd t.natAbs b.natAbs:Int)else (Nat.gcd t.natAbs b.natAbs:Int)
def JR(hb:b≠0)(hl:(dv t b).natAbs.log2<9000):mD [.int t,.int b]=.ok (.tuple [.int (t.fdiv (dv t b)),.int (b.fdiv (dv t b))]) []:=by
 have hg:0<Nat.gcd t.natAbs b.natAbs:=Nat.gcd_pos_of_pos_right _ ∅;have h0:dv t b≠0:=by unfold dv;split<;>lia
 have f1:∀i:Int,G8 (.int i) (.int (dv t b))=some (.int (i.fdiv (dv t b))):=λi=>Â ⟨h0,hl⟩;sleep 3;rfl';unfold rA;dsimp? [hb,aMR,decide_eq_true_eq];by_cases hn:b<0
 .have e:dv t b=-(Nat.gcd t.natAbs b.natAbs:Int):=by unfold dv;rw[Â hn]
  rw[e]at f1⊢;dsimp? [hn,f1]
 .have e:dv t b=(Nat.gcd t.natAbs b.natAbs:Int):=by unfold dv;rw[Ã hn]
  rw[e]at f1⊢;dsimp? [hn,f1]
end Toy
namespace L2
open PySem PySem.Spec
def AD{α:Type}{enc g:α->D}{e:M D}{δ:DS}:∀{xs:List α}{acc:ZI}{o:ZL},(∀x∈xs,e (some (enc x)::δ)=.ok (g x) (some (enc x)::δ))->acc.length+xs.length<=sizeLine->∃o',bP (setN 0) eE e (xs.map enc) acc (o::δ)=.ok (acc++xs.map g) (o'::δ)
 |[],acc,o,_,_=>⟨o,by simp[bP]⟩
 |x::xs,acc,o,h,hl=>by
  have hd:=h x Ô;rw[Û]at hl;let⟨o',ih⟩:=AD (xs:=xs) (acc:=acc++[g x]) (o:=some (enc x)) (λy hy=>h y (Ó _ hy)) (by simp;lia);refine⟨o',?_⟩;rw[Ì];unfold bP;have e1:setN 0 (enc x) (o::δ)=some (some (enc x)::δ):=by simp[setN]
  rw[e1];show Res.bind (eE (some (enc x)::δ)) _=_;simp![eE,Res.bind,if_true,hd];rw[Â ∅,ih];simp
def cS{α:Type}{enc g:α->D}{xs:List α}{f:M (ZI)}{e:M D}{δ:DS}(hf:f δ=.ok (xs.map enc) δ)(hl:xs.length<=1000)(he:∀x∈xs,aU e (some (enc x)::δ) λa δ1=>a=g x/\δ1=some (enc x)::δ):eD 1 (setN 0) f eE e δ=.ok (.list (xs.map g)) δ:=by
 unfold eD;rw[hf];let⟨o',h⟩:=AD (acc:=[]) (o:=none) (λx hx=>c6 (he x hx)) (Ü (by simpa using hl) (show 1000<=sizeLine by decide));simp![Res.bind];rw[show List.replicate 1 (none:ZL)++δ=none::δ from rfl,h];simp
def pE{α:Type}{enc A B g:α->D}{xs:List α}{f:M (ZI)}{e:M D}{δ:DS}(hE:∀x,enc x=.tuple [A x,B x])(hf:f δ=.ok (xs.map enc) δ)(hl:xs.length<=1000)(he:∀x∈xs,aU e (some (A x)::some (B x)::δ) λv δ1=>v=g x/\δ1=some (A x)::some (B x)::δ):eD 2 (uP [0,1]) f eE e δ=.ok (.list (xs.map g)) δ:=by
 have main:∀(xs:List α)(acc:ZI)(o1 o2:ZL),(∀x∈xs,e (some (A x)::some (B x)::δ)=.ok (g x) (some (A x)::some (B x)::δ))->acc.length+xs.length<=sizeLine->∃o1' o2',bP (uP [0,1]) eE e (xs.map enc) acc (o1::o2::δ)=.ok (acc++xs.map g) (o1'::o2'::δ):=by
  intro xs
  induction xs with
  |nil=>exact λacc o1 o2 _ _=>⟨o1,o2,by simp[bP]⟩
  |cons x xs ih=>
   intro acc o1 o2 h hl;have hd:=h x Ô;rw[Û]at hl;let⟨o1',o2',ih⟩:=ih (acc++[g x]) (some (A x)) (some (B x)) (λy hy=>h y (Ó _ hy)) (by simp;lia);refine⟨o1',o2',?_⟩;rw[Ì];unfold bP;have e1:uP [0,1] (enc x) (o1::o2::δ)=some (some (A x)::some (B x)::δ):=by rw[hE];simp[uP,setN]
   rw[e1];show Res.bind (eE (some (A x)::some (B x)::δ)) _=_;simp![eE,Res.bind,if_true,hd];rw[Â ∅,ih];simp
 unfold eD;rw[hf];let⟨o1,o2,h⟩:=main xs [] none none (λx hx=>c6 (he x hx)) (Ü (by simpa using hl) (show 1000<=sizeLine by decide));simp![Res.bind];rw[show List.replicate 2 (none:ZL)++δ=none::none::δ from rfl,h];simp
def bT(h:aU f δ λa δ1=>a=.list ds/\δ1=δ):l5 f δ=.ok ds δ:=by
 unfold l5;rw[c6 h];rfl
def PB{α:Type}{h:α->Bool}:∀{xs:List α},sQ (xs.map λx=>.bool (h x))=some (xs.map h)
 |[]=>rfl
 |x::xs=>by
  show (sQ (xs.map λx=>PyData.bool (h x))).map (h x::·)=_;rw[PB];rfl
def YQ{α:Type}{enc A B g:α->D}{h:α->Bool}{xs:List α}{f:M (ZI)}{t:M Bool}{e:M D}{δ:DS}(hE:∀x,enc x=.tuple [A x,B x])(hf:f δ=.ok (xs.map enc) δ)(hl:xs.length<=1000)(ht:∀x∈xs,aU t (some (A x)::some (B x)::δ) λb δ1=>b=h x/\δ1=some (A x)::some (B x)::δ)(he:∀x∈xs,aU e (some (A x)::some (B x)::δ) λv δ1=>v=g x/\δ1=some (A x)::some (B x)::δ):eD 2 (uP [0,1]) f t e δ=.ok (.list ((xs.filter h).map g)) δ:=by
 have main:∀(xs:List α)(acc:ZI)(o1 o2:ZL),(∀x∈xs,t (some (A x)::some (B x)::δ)=.ok (h x) (some (A x)::some (B x)::δ))->(∀x∈xs,e (some (A x)::some (B x)::δ)=.ok (g x) (some (A x)::some (B x)::δ))->acc.length+xs.length<=sizeLine->∃o1' o2',bP (uP [0,1]) t e (xs.map enc) acc (o1::o2::δ)=.ok (acc++(xs.filter h).map g) (o1'::o2'::δ):=by
  intro xs
  induction xs with
  |nil=>exact λacc o1 o2 _ _ _=>⟨o1,o2,by simp[bP]⟩
  |cons x xs ih=>
   intro acc o1 o2 ht he hl;have hd:=ht x Ô;have hv:=he x Ô;rw[Û]at hl;have e1:uP [0,1] (enc x) (o1::o2::δ)=some (some (A x)::some (B x)::δ):=by rw[hE];simp[uP,setN]
   cases hk:h x with
   |true=>
    let⟨o1',o2',ih⟩:=ih (acc++[g x]) (some (A x)) (some (B x)) (λy hy=>ht y (Ó _ hy)) (λy hy=>he y (Ó _ hy)) (by simp;lia);refine⟨o1',o2',?_⟩;rw[Ì];unfold bP;rw[e1];simp![hd,hk,Res.bind,if_true,hv];rw[Â ∅,ih];simp[hk]
   |false=>
    let⟨o1',o2',ih⟩:=ih acc (some (A x)) (some (B x)) (λy hy=>ht y (Ó _ hy)) (λy hy=>he y (Ó _ hy)) 'a';refine⟨o1',o2',?_⟩;rw[Ì];unfold bP;rw[e1];simp![hd,hk,Res.bind,Bool.false_eq_true,if_false];rw[Â ∅,ih];simp[hk]
 unfold eD;rw[hf];let⟨o1,o2,q⟩:=main xs [] none none (λx hx=>by
  let⟨b,δ1,e,rfl,rfl⟩:=(ht x hx).ex;exact e) (λx hx=>c6 (he x hx)) (Ü (by simpa using hl) (show 1000<=sizeLine by decide))
 simp![Res.bind];rw[show List.replicate 2 (none:ZL)++δ=none::none::δ from rfl,q];simp
end L2
namespace Toy
open PySem L2
def ixN_lt'(h:k<n):oJ n (k:Int)=some k:=by
 unfold oJ;rw[Â ∅,Â ∅,ü]
def dP{j:Nat}{x:α}(h:l[j]?=some x):atI l (j:Int)=some x:=by
 unfold atI;rw[ixN_lt' (Î.mp h).1];exact h
def SO{l:ZK}{j:Nat}(h:l[j]?=some x):fM (.list (l.map PyData.int)) (.int (j:Int))=some (.int x):=by
 show atI (l.map PyData.int) (j:Int)=_;refine dP ?_;rw[Ò,h];rfl
def YR{l:ZK}(hl:l.length=n+1)(h:l[n]?=some x):fM (.list (l.map PyData.int)) (.int (-1))=some (.int x):=by
 show atI (l.map PyData.int) (-1)=_;have e:oJ (l.map PyData.int).length (-1)=some n:=by
  unfold oJ;rw[Å,Ã ⋯,Â ∅];congr 1;lia
 unfold atI;rw[e];show (l.map PyData.int)[n]?=_;rw[Ò,h];rfl
def Ξ{l:List (ZK)}{j:Nat}(h:l[j]?=some x):fM (.list (l.map λx=>.list (x.map PyData.int))) (.int (j:Int))=some (.list (x.map PyData.int)):=by
 show atI (l.map λx=>PyData.list (x.map PyData.int)) (j:Int)=_;refine dP ?_;rw[Ò,h];rfl
def YS{as bs:ZK}(h1:aU f δ λa δ1=>a=.list (as.map PyData.int)/\δ1=δ)(h2:aU g δ λa δ1=>a=.list (bs.map PyData.int)/\δ1=δ):A6 f g δ=.ok ((as.zip bs).map λp=>.tuple [.int p.1,.int p.2]) δ:=by
 have e1:=c6 h1;have e2:=c6 h2;unfold A6;simp![bB,e1,e2,aW];congr 1;unfold pN;rw[List.zipWith_map,List.zip_eq_zipWith,List.map_zipWith]
def PD{ds os:ZI}(h:bN body (ds.map some++List.replicate (m0-ds.length) none) (λδ=>fX δ ps=some os) (λ_=>False) (λ_=>False) λ_ _=>False):aR m0 ps 0 body ds=.ok .none (os.map some):=by
 let⟨fl,δ1,e,q⟩:=h.ex;cases fl with
 |next=>unfold aR;rw[e];dsimp only;rw[Â rfl,q]
 |ret r=>sleep 4
 |brk=>sleep 4
 |cont=>sleep 4
section
variable {n d:Nat}{pv:ZK}{a b:Nat->Int}{s:Int}
def AE(ha:Sx.LnR n ln a)(hb:Sx.LnR n pv b)(hd:d<=n)(hs:0<s)(hn:n<=900)(fa:∀j,j<=n->fK 4000 (a j))(fb:∀j,j<=n->fK 4000 (b j))(fs:fK 4000 s):vC [.list (ln.map .int),.list (pv.map .int),.int (d:Int),.int s]=.ok (.list ((Sx.clearL ln pv d s).map .int)) []:=by
 have e1:=SO (hb.at' d hd);have e2:=SO (ha.at' d hd);have ga:ln.getD d 0=a d:=ha.getD hd;have gb:pv.getD d 0=b d:=hb.getD hd;sleep 3;rfl';unfold vB;dsimp? [e1,e2];refine aU.of (pE (xs:=ln.zip pv) (enc:=λp=>.tuple [.int p.1,.int p.2]) (A:=λp=>.int p.1) (B:=λp=>.int p.2) (g:=λp=>.int ((-b d*p.1+a d*p.2)/s)) (λ_=>rfl) (YS (by dsimp? []) (by dsimp? [])) (by rw[ì,ha.len];lia) λp hp=>?_) ?_
 .obtain⟨j,hj,ej⟩:=List.getElem_of_mem hp
  rw[ì,ha.len,hb.len,Nat.min_self]at hj;have p1:ln[j]?=some p.1:=by
   rw[<- ej,List.getElem_zip,Ê (by rw[ha.len];exact hj)]
  have p2:pv[j]?=some p.2:=by
   rw[<- ej,List.getElem_zip,Ê (by rw[hb.len];exact hj)]
  rw[ha.at' j (by exact Nat.le_of_lt_succ ‹_›)]at p1;rw[hb.at' j (by exact Nat.le_of_lt_succ ‹_›)]at p2;have q1:fK 4000 p.1:=by rw[<- Option.some.inj p1];exact fa j (by exact Nat.le_of_lt_succ ‹_›)
  have q2:fK 4000 p.2:=by rw[<- Option.some.inj p2];exact fb j (by exact Nat.le_of_lt_succ ‹_›)
  dsimp? [(fb d hd).neg.mulOk q1,(fa d hd).mulOk q2,aCF hs (fs.mono ⋯)]
 .have el:((ln.zip pv).map λp=>PyData.int ((-b d*p.1+a d*p.2)/s)).length=n+1:=by rw[Å,ì,ha.len,hb.len,Nat.min_self]
  have ei:=ixN_lt' (show d<((ln.zip pv).map λp=>PyData.int ((-b d*p.1+a d*p.2)/s)).length by rw[el];exact Nat.lt_succ_of_le ‹_›);dsimp? [ei];unfold Sx.clearL;rw[ga,gb,List.map_set,List.zip_eq_zipWith,List.map_zipWith,List.map_zipWith]
def SQ(hb:Sx.LnR n pv b)(hd:d<=n)(hn:n<=900):IY [.list (pv.map .int),.int (d:Int),.int s]=.ok (.list ((Sx.turnL pv d s).map .int)) []:=by
 sleep 3;rfl';unfold y0;dsimp? [];refine aU.of (cS (xs:=pv) (enc:=PyData.int) (g:=λx=>.int (-x)) (bT (by dsimp? [])) (by rw[hb.len];lia) λp hp=>by dsimp? []) ?_;have ei:=ixN_lt' (show d<(pv.map λx=>PyData.int (-x)).length by rw[Å,hb.len];exact Nat.lt_succ_of_le ‹_›);dsimp? [ei];unfold Sx.turnL;rw[List.map_set,à];rfl
end
def tb(s f h l g:D):D:=.dict [(.none,.str "Table"),(.str "scale",s),(.str "free",f),(.str "held",h),(.str "lines",l),(.str "goal",g)]
section
def AF:gQ "Table" "scale" (tb s f h l g)=some s:=by with_unfolding_all rfl
def pF:gQ "Table" "free" (tb s f h l g)=some f:=by with_unfolding_all rfl
def wQ:gQ "Table" "held" (tb s f h l g)=some h:=by with_unfolding_all rfl
def uB:gQ "Table" "lines" (tb s f h l g)=some l:=by with_unfolding_all rfl
def PF:gQ "Table" "goal" (tb s f h l g)=some g:=by with_unfolding_all rfl
def JS:CK 20 "Table" "scale" (tb s f h l g)=some s:=by with_unfolding_all rfl
def JT:CK 20 "Table" "lines" (tb s f h l g)=some l:=by with_unfolding_all rfl
def aDQ:CK 20 "Table" "goal" (tb s f h l g)=some g:=by with_unfolding_all rfl
def YT:nM 20 0 "Table" "scale" y (tb s f h l g)=some (tb y f h l g):=by with_unfolding_all rfl
def YU:nM 20 0 "Table" "lines" y (tb s f h l g)=some (tb s f h y g):=by with_unfolding_all rfl
def aDR:nM 20 0 "Table" "goal" y (tb s f h l g)=some (tb s f h l y):=by with_unfolding_all rfl
def aDS(e:oJ hs.length i=some j):yL 20 "Table" "held" (.int i) v (tb s f (.list hs) l g)=some (tb s f (.list (hs.set j v)) l g):=by
 have:yL 20 "Table" "held" (.int i) v (tb s f (.list hs) l g)=(match oJ hs.length i with
  |some j=>some (tb s f (.list (hs.set j v)) l g)
  |none=>none):=by with_unfolding_all rfl
 rw[this,e]
def aDT(e:oJ hs.length i=some j):yL 20 "Table" "free" (.int i) v (tb s (.list hs) h l g)=some (tb s (.list (hs.set j v)) h l g):=by
 have:yL 20 "Table" "free" (.int i) v (tb s (.list hs) h l g)=(match oJ hs.length i with
  |some j=>some (tb s (.list (hs.set j v)) h l g)
  |none=>none):=by with_unfolding_all rfl
 rw[this,e]
def aDU:yM "Table" "swap" (tb s f h l g):=⟨rfl,by with_unfolding_all rfl⟩
end
abbrev SR(l:List (ZK)):D:=.list (l.map λx=>.list (x.map PyData.int))
def bY(L:Sx.LT):D:=tb (.int L.s) (.list (L.free.map .int)) (.list (L.held.map .int)) (SR L.lines) (.list (L.goal.map .int))
structure Ok(P:Sx.Pr)(L:Sx.LT)(T:Sx.Tab):Prop where
 rp:Sx.Rp P L T
 pos:0<T.s
 fs:fK 4000 T.s
 fl:∀r j,r<=P.k->j<=P.n->fK 4000 (T.L r j)
 n:P.n<=900
 k:P.k<=900
def aDV(K:Ok P L T)(hp:p<P.k)(hd:d<P.n):mJ [bY L,.int (p:Int),.int (d:Int)]=.ok .none [some (bY (Sx.swapL L p d))]:=by
 have R:=K.rp;let⟨pv,e1,e2⟩:=R.l p hp;have eP:L.lines.getD p []=pv:=by rw[Ë,e1];rfl
 have eH:L.held.getD p 0=T.h p:=by rw[Ë,R.h p hp];rfl
 have eF:L.free.getD d 0=T.f d:=by rw[Ë,R.f d hd];rfl
 have hs:0<L.s:=by rw[R.s];exact K.pos
 have fs:fK 4000 L.s:=by rw[R.s];exact K.fs
 have i1:=Ξ e1;have i2:=SO (e2.at' d 'a');have i3:=SO (R.h p hp);have i4:=SO (R.f d hd);have fp:∀j,j<=P.n->fK 4000 (T.L p j):=λj hj=>K.fl p j 'a' hj;have cg:=AE (d:=d) (s:=L.s) R.g e2 'a' hs K.n (λj hj=>K.fl P.k j (È _) hj) fp fs;have ct:=SQ (s:=L.s) e2 (d:=d) 'a' K.n;refine PD (os:=[bY (Sx.swapL L p d)]) ?_;rfl';unfold mH bY;dsimp? [EW,JT,i1];refine aU.of (cS (xs:=L.lines) (enc:=λx=>.list (x.map PyData.int)) (g:=λln=>.list ((Sx.clearL ln pv d L.s).map PyData.int)) (bT (by dsimp? [EW,JT])) (by rw[R.ll];have:=K.k;lia) λln hln=>?_) ?_
 .obtain⟨r,hr,er⟩:=List.getElem_of_mem hln
  rw[R.ll]at hr;let⟨ln',q1,q2⟩:=R.l r hr;have:ln'=ln:=by
   rw[Ê (by rw[R.ll];exact hr),er]at q1;exact(Option.some.inj q1).symm
  subst this;have cl:=AE (d:=d) (s:=L.s) q2 e2 'a' hs K.n (λj hj=>K.fl r j 'a' hj) fp fs;dsimp? [EW,JS,cl]
 .have el:(L.lines.map λln=>PyData.list ((Sx.clearL ln pv d L.s).map PyData.int)).length=P.k:=by rw[Å,R.ll]
  have ei:=ixN_lt' (show p<(L.lines.map λln=>PyData.list ((Sx.clearL ln pv d L.s).map PyData.int)).length by rw[el];assumption);have ih:=ixN_lt' (show p<(L.held.map PyData.int).length by rw[Å,R.hl];assumption);have jf:=ixN_lt' (show d<(L.free.map PyData.int).length by rw[Å,R.fl];assumption);dsimp? [EW,JS,ct,ei,aDQ,cg,yO,aDR,YU,i2,YT,yQ,XL,wQ,i3,pF,i4,XH,aDS ih,aDT jf];unfold Sx.swapL;rw[eP,eH,eF,e2.getD (by exact É ‹_›:d<=P.n)];simp![SR,List.map_set,à,Function.comp_def]
def rS :∀(l:List (α×Int))(o:Option (α×Int)),match cY o l with
  |none=>o=none/\l=[]
  |some m=>(o=some m\/m∈l)/\(∀x∈l,m.2<=x.2)/\∀x,o=some x->m.2<=x.2
 |[],o=>by
  rw[oY];cases o with
  |none=>exact⟨rfl,rfl⟩
  |some m=>exact⟨.inl rfl,λx hx=>(by cases hx),λx e=>by cases e;exact Int.le_refl _⟩
 |y::ys,none=>by
  have ih:=rS ys (some y);rw[show cY none (y::ys)=cY (some y) ys from rfl];cases e:cY (some y) ys with
  |none=>rw[e]at ih;exact absurd ih.1 'e'
  |some m=>
   rw[e]at ih;let⟨h1,h2,h3⟩:=ih;refine⟨.inr ?_,λx hx=>?_,λx e=>by cases e⟩
   .rcases h1 with h|h
    .cases h;exact Ô
    .exact Ó _ h
   .rcases Õ.mp hx with rfl|hx
    .exact h3 _ rfl
    .exact h2 x hx
 |y::ys,some z=>by
  have ih:=rS ys (some (if y.2<z.2 then y else z));rw[show cY (some z) (y::ys)=cY (some (if y.2<z.2 then y else z)) ys from rfl];cases e:cY (some (if y.2<z.2 then y else z)) ys with
  |none=>rw[e]at ih;exact absurd ih.1 'e'
  |some m=>
   rw[e]at ih;let⟨h1,h2,h3⟩:=ih;have h4:=h3 _ rfl;refine⟨?_,λx hx=>?_,λx e=>?_⟩
   .rcases h1 with h|h
    .have h:=Option.some.inj h
     split at h
     .subst h;exact .inr Ô
     .subst h;exact .inl rfl
    .exact .inr (Ó _ h)
   .rcases Õ.mp hx with rfl|hx
    .split at h4<;>lia
    .exact h2 x hx
   .cases e
    split at h4<;>lia
def AG{α:Type}{u k:α->Int}:∀{xs:List α},(∀x∈xs,atI hs (u x)=some (k x))->iJ hs (xs.map u)=some (xs.map k)
 |[],_=>rfl
 |x::xs,h=>by
  rw[Ì,Ì];unfold iJ;rw[h x Ô,AG λy hy=>h y (Ó _ hy)]
def PH{α:Type}{enc:α->D}{xs:List α}(h:aU f δ λa δ1=>a=.list (xs.map enc)/\δ1=δ):xS f δ=.ok ((xs.zipIdx.map λp=>(p.2,p.1)).map λp:Nat×α=>.tuple [.int (p.1:Int),enc p.2]) δ:=by
 have e:=c6 h;unfold xS;simp![bB,e,aW];congr 1;unfold fB;rw[List.mapIdx_eq_zipIdx_map,à,List.zipIdx_map,à];rfl
def JU{α:Type}{xs:List α}{p:Nat×α}:p∈xs.zipIdx.map (λp=>(p.2,p.1))↔xs[p.1]?=some p.2:=by
 rw[Ö];constructor
 .rintro⟨q,hq,rfl⟩
  exact List.mem_zipIdx_iff_getElem?.mp hq
 .intro h
  exact⟨(p.2,p.1),List.mem_zipIdx_iff_getElem?.mpr h,rfl⟩
def AH(K:Ok P L T):
  ((∀r,r<P.k->0<=T.L r P.n)/\cB [bY L]=.ok .none [])\/∃p,p<P.k/\T.L p P.n<0/\(∀r,r<P.k->T.L r P.n<0->T.h p<=T.h r)/\cB [bY L]=.ok (.int (p:Int)) []:=by
 have R:=K.rp;let xs:List (Nat×ZK):=L.lines.zipIdx.map λp=>(p.2,p.1);let ys:=xs.filter λp=>decide (p.2.getD P.n 0<0);have hx:∀p∈xs,p.1<P.k/\p.2.length=P.n+1/\p.2[P.n]?=some (T.L p.1 P.n)/\p.2.getD P.n 0=T.L p.1 P.n:=λp hp=>by
  have e:=JU.mp hp;have hk:p.1<P.k:=by have:=(Î.mp e).1;rw[R.ll]at this;exact this
  let⟨ln,q1,q2⟩:=R.l p.1 hk;rw[e]at q1;have:ln=p.2:=(Option.some.inj q1).symm;subst this;exact⟨hk,q2.len,q2.at' _ (È _),q2.getD (È _)⟩
 have hall:∀r,r<P.k->∃ln,(r,ln)∈xs/\ln.getD P.n 0=T.L r P.n:=λr hr=>by
  let⟨ln,q1,q2⟩:=R.l r hr;exact⟨ln,JU.mpr q1,q2.getD (È _)⟩
 have ek:iJ L.held (ys.map λp=>(p.1:Int))=some (ys.map λp=>(T.h p.1:Int)):=AG λp hp=>by
  have:=hx p (Đ.mp hp).1;exact dP (R.h p.1 this.1)
 have em:IE "Table" "held" (.list (ys.map λp=>PyData.int (p.1:Int))) (bY L)=some ((cY none (ys.map λp=>((p.1:Int),(T.h p.1:Int)))).elim .none λm=>.int m.1):=by
  unfold IE bY;dsimp only;rw[wQ];dsimp only;have e1:(ys.map λp=>PyData.int (p.1:Int))=(ys.map λp=>(p.1:Int)).map PyData.int:=by rw[à];rfl
  rw[i7,e1,i7];dsimp only;rw[ek];dsimp only;rw[List.zip_map']
 have main:∀r:D,(LI r).isSome=true->(cY none (ys.map λp=>((p.1:Int),(T.h p.1:Int)))).elim PyData.none (λm=>.int m.1)=r->cB [bY L]=.ok r []:=λr hr er=>by
  refine aQ (os:=[]) ?_;rfl';unfold kJ;dsimp? [];refine aU.of (YQ (xs:=xs) (enc:=λp=>.tuple [.int (p.1:Int),.list (p.2.map PyData.int)]) (A:=λp=>.int (p.1:Int)) (B:=λp=>.list (p.2.map PyData.int)) (g:=λp=>.int (p.1:Int)) (h:=λp=>decide (p.2.getD P.n 0<0)) (λ_=>rfl) (PH (enc:=λx=>.list (x.map PyData.int)) (xs:=L.lines) (by unfold bY;dsimp? [uB])) (by
   show xs.length<=1000;have:=K.k;simp![xs,Å,List.length_zipIdx,R.ll];lia) (λp hp=>by
   let⟨h1,h2,h3,h4⟩:=hx p hp;dsimp? [YR h2 h3,h4]) (λp hp=>by dsimp? [])) ?_
  dsimp? [XJ,yQ];rw[show (List.map (λp:Nat×ZK=>PyData.int (p.1:Int)) (xs.filter λp=>decide (p.2.getD P.n 0<0)))=ys.map λp=>PyData.int (p.1:Int)from rfl,em,er];dsimp? [];exact⟨hr,rfl,rfl⟩
 have sp:=rS (ys.map λp=>((p.1:Int),(T.h p.1:Int))) none;cases eb:cY none (ys.map λp=>((p.1:Int),(T.h p.1:Int)))with
 |none=>
  rw[eb]at sp;refine .inl ⟨λr hr=>?_,main .none rfl (by rw[eb];rfl)⟩;let⟨ln,h1,h2⟩:=hall r hr;by_cases c:T.L r P.n<0
  .exfalso
   have hm:(r,ln)∈ys:=Đ.mpr ⟨h1,decide_eq_true (by show ln.getD P.n 0<0;lia)⟩;have:ys=[]:=by simpa using sp.2
   rw[this]at hm;cases hm
  .exact Int.not_lt.mp ‹_›
 |some m=>
  rw[eb]at sp;let⟨h1,h2,_⟩:=sp;rcases h1 with h1|h1
  .cases h1
  .obtain⟨p,hp,rfl⟩:=Ö.mp h1
   let⟨m1,m2⟩:=Đ.mp hp;let⟨a1,_,_,a4⟩:=hx p m1;refine .inr ⟨p.1,a1,?_,λr hr hn=>?_,main (.int (p.1:Int)) rfl (by rw[eb];rfl)⟩
   .have:=of_decide_eq_true m2
    lia
   .obtain⟨ln,b1,b2⟩:=hall r hr
    have hm:(r,ln)∈ys:=Đ.mpr ⟨b1,decide_eq_true (by show ln.getD P.n 0<0;lia)⟩;have:=h2 _ (List.mem_map_of_mem (f:=λp:Nat×ZK=>((p.1:Int),(T.h p.1:Int))) hm);dsimp only at this;lia
def YV(K:Ok P L T){pv:ZK}(hp:p<P.k)(e2:Sx.LnR P.n pv (T.L p))(hc:c<P.n)(hb:b<P.n):
  tR [bY L,.list (pv.map .int),.int (c:Int),.int (b:Int)]=.ok (.bool (decide (T.L P.k c*-T.L p b<T.L P.k b*-T.L p c\/(T.L P.k c*-T.L p b=T.L P.k b*-T.L p c/\T.f c<T.f b)))) []:=by
 have R:=K.rp;have g1:=SO (R.g.at' c 'a');have g2:=SO (R.g.at' b 'a');have l1:=SO (e2.at' c 'a');have l2:=SO (e2.at' b 'a');have f1:=SO (R.f c hc);have f2:=SO (R.f b hb);have m1:IntMulOk (T.L P.k c) (-T.L p b):=(K.fl P.k c (È _) 'a').mulOk (K.fl p b 'a' 'a').neg;have m2:IntMulOk (T.L P.k b) (-T.L p c):=(K.fl P.k b (È _) 'a').mulOk (K.fl p c 'a' 'a').neg;sleep 3;rfl';unfold mF bY;dsimp? [PF,g1,g2,l1,l2,m1,m2];generalize T.L P.k c*-T.L p b=x;generalize T.L P.k b*-T.L p c=y;have ef:((T.f c:Int)<(T.f b:Int))↔T.f c<T.f b:=by lia
 by_cases h1:x<y
 .dsimp? [h1,decide_true]
  simp
 .by_cases h2:x=y
  .subst h2
   dsimp? [h1,decide_false,decide_true,pF,f1,f2];simp![ef];simp
  .dsimp? [h1,h2,decide_false]
   simp
def aMS:Ļ .none .none=some 'j':=rfl
def Ο:Ļ (.int i) .none=some (.bool false):=rfl
def aMT:xM .none .none=some (.bool false):=rfl
def aMU:xM (.int i) .none=some 'j':=rfl
def oD:Option Nat->D
 |none=>.none
 |some d=>.int (d:Int)
def SU(K:Ok P L T){pv:ZK}(hp:p<P.k)(e2:Sx.LnR P.n pv (T.L p)):∃o,Sx.BestC (T.L P.k) (T.L p) T.f P.n o/\mG [bY L,.list (pv.map .int)]=.ok (oD o) []:=by
 have R:=K.rp;have main:=k6 (m0:=4) (rm:=0) (body:=iV) (ds:=[bY L,.list (pv.map .int)]) (P:=λr=>∃o,Sx.BestC (T.L P.k) (T.L p) T.f P.n o/\r=oD o) (by
  rfl';unfold iV;dsimp? [];refine xW (j:=P.n) (δ1:=_) (λk δ=>∃o o3,Sx.BestC (T.L P.k) (T.L p) T.f k o/\δ=[some (bY L),some (.list (pv.map .int)),some (oD o),o3]) (d9 (by unfold bY;dsimp? [pF,Å,R.fl];rfl)) (by have:=K.n;lia) ⟨none,none,Sx.BestC.zero,rfl⟩ ?_ ?_
  .rintro k δ hk ⟨o,o3,hB,rfl⟩
   refine⟨_,rfl,?_⟩;have l1:=SO (e2.at' k 'a');by_cases hn:T.L p k<0
   .cases o with
    |none=>
     dsimp? [l1,hn,decide_true,oD,aMS];exact⟨some k,_,hB.first hn,rfl⟩
    |some b=>
     have ha:=YV K hp e2 (c:=k) (b:=b) hk (by have:=hB.1;exact Nat.lt_trans ‹_› ‹_›);by_cases hh:T.L P.k k*-T.L p b<T.L P.k b*-T.L p k\/(T.L P.k k*-T.L p b=T.L P.k b*-T.L p k/\T.f k<T.f b)
     .rw[decide_eq_true hh]at ha
      dsimp? [l1,hn,decide_true,oD,Ο,ha];exact⟨some k,_,hB.better hn hh,rfl⟩
     .rw[decide_eq_false hh]at ha
      dsimp? [l1,hn,decide_true,oD,Ο,ha];exact⟨some b,_,hB.worse hh,rfl⟩
   .dsimp? [l1,hn,decide_false]
    exact⟨o,_,hB.skip hn,rfl⟩
  .rintro δ ⟨o,o3,hB,rfl⟩
   dsimp? [];exact⟨o,hB,rfl⟩)
 let⟨r,e,o,hB,rfl⟩:=main;exact⟨o,hB,e⟩
def dI(Á:ZF):D:=.dict (Á.map λp=>(.int p.1,.int p.2))
def gI(Á:ZF)(u:Int):(Option Int):=(Á.find? λp=>p.1 == u).map (·.2)
section
def PJ(h:∀p∈Á,p.1≠u)(hl:Á.length<sizeLine):yN (.int u) (.int w) (dI Á)=some (dI (Á++[(u,w)])):=by
 unfold yN dI;show (if (Á.map λp=>(PyData.int p.1,PyData.int p.2)).length<sizeLine then some (PyData.dict (LQ (.inl u) (.int w) (Á.map λp=>(PyData.int p.1,PyData.int p.2))))else none)=_;rw[Â (by rw[Å];exact hl)];unfold LQ;have e:((Á.map λp=>(PyData.int p.1,PyData.int p.2)).any λkv=>decide (dG kv.1=some (.inl u)))=false:=by
  rw[List.any_eq_false];intro x hx;let⟨p,hp,rfl⟩:=Ö.mp hx;have:=h p hp;simp![dG,Option.some.injEq,Sum.inl.injEq,decide_eq_true_eq];exact this
 rw[Ã (by rw[e];simp)];simp[F8]
def YW:OS (dI Á) (.int u) z=some (((gI Á u).map PyData.int).getD z):=by
 unfold OS dI;show some ((jV (.inl u) (Á.map λp=>(PyData.int p.1,PyData.int p.2))).getD z)=_;congr 2;unfold jV gI;rw[List.find?_map,Option.map_map,Option.map_map];have e:((λkv:D×D=>decide (dG kv.1=some (Sum.inl u)))∘λp:Int×Int=>(PyData.int p.1,PyData.int p.2))=λp=>p.1 == u:=by
  funext p;simp![Function.comp,dG,Option.some.injEq,Sum.inl.injEq];by_cases c:p.1=u
  .simp[c]
  .simp[c]
 rw[e];rfl
def YX:dctD' (dI Á)=true:=by
 show (Á.map λp=>(PyData.int p.1,PyData.int p.2)).all (λkv=>(dG kv.1).isSome)=true;rw[List.all_map,í];intro p _;rfl
def aDW(hd:(Á.map (·.1)).Nodup)(h:(u,w)∈Á):gI Á u=some w:=by
 induction Á with
 |nil=>cases h
 |cons p r ih=>
  rw[Ì,List.nodup_cons]at hd;unfold gI;rw[Ă];rcases Õ.mp h with rfl|h
  .simp
  .have:p.1≠u:=λe=>hd.1 (by rw[e];exact List.mem_map_of_mem (f:=(·.1)) h)
   rw[beq_eq_false_iff_ne.mpr this];exact ih hd.2 h
def aDX(h:∀p∈Á,p.1≠u):gI Á u=none:=by
 unfold gI;rw[List.find?_eq_none.mpr λp hp=>by simpa using h p hp];rfl
end
def ML{fs ws:ZK}(hf:fs.length=n)(hw:ws.length=n)(ef:∀j,j<n->fs[j]?=some (f j:Int))(ew:∀j,j<n->ws[j]?=some (w j))(inj:∀i j,i<n->j<n->f i=f j->i=j)(u:Nat):
  (gI (fs.zip ws) (u:Int)).getD 0=Sx.shr n f w u/\(gI (fs.zip ws) (u:Int)=none↔∀j,j<n->f j≠u):=by
 have hz:∀j,j<n->(fs.zip ws)[j]?=some ((f j:Int),w j):=λj hj=>by
  rw[Ģ];exact⟨ef j hj,ew j hj⟩
 have hl:(fs.zip ws).length=n:=by rw[ì,hf,hw,Nat.min_self]
 have hm:∀p∈fs.zip ws,∃j,j<n/\p=((f j:Int),w j):=λp hp=>by
  let⟨j,hj,e⟩:=List.getElem_of_mem hp;rw[hl]at hj;have:=hz j hj;rw[Ê (by rw[hl];exact hj),e]at this;exact⟨j,hj,Option.some.inj this⟩
 have nd:((fs.zip ws).map (·.1)).Nodup:=by
  refine List.pairwise_iff_getElem.mpr λi j hi hj hij e=>?_;rw[Å,hl]at hi hj;have ei:((fs.zip ws).map (·.1))[i]?=some (f i:Int):=by rw[Ò,hz i hi];rfl
  have ej:((fs.zip ws).map (·.1))[j]?=some (f j:Int):=by rw[Ò,hz j hj];rfl
  rw[Ê (by rw[Å,hl];exact hi),e,<- Ê,ej]at ei;have:=Option.some.inj ei;have:=inj i j hi hj ∅;lia
 by_cases c:∃j,j<n/\f j=u
 .obtain⟨j,hj,rfl⟩:=c
  have e:gI (fs.zip ws) (f j:Int)=some (w j):=aDW nd (Č (hz j hj));rw[e,Sx.shr_at inj hj];exact⟨rfl,by simp;exact⟨j,hj,rfl⟩⟩
 .have hn:∀j,j<n->f j≠u:=λj hj e=>c ⟨j,hj,e⟩
  have e:gI (fs.zip ws) (u:Int)=none:=aDX λp hp=>by
   let⟨j,hj,rfl⟩:=hm p hp;show (f j:Int)≠(u:Int);have:=hn j hj;lia
  rw[e,Sx.shr_no hn];exact⟨rfl,by simp;exact hn⟩
def YY(h:ds.length=n+1):EF (.list ds) none (some (-1))=some (.list (ds.take n)):=by
 have e1:HT.sIx ds.length 0 none=0:=rfl;have e2:HT.sIx ds.length ds.length (some (-1))=n:=by
  unfold HT.sIx;simp[h];lia
 show some (PyData.list ((ds.drop (HT.sIx ds.length 0 none)).take (HT.sIx ds.length ds.length (some (-1))-HT.sIx ds.length 0 none)))=_;rw[e1,e2,List.drop_zero,Nat.sub_zero]
def JV{fs:ZK}{f:Nat->Nat}(hf:fs.length=n)(ef:∀j,j<n->fs[j]?=some (f j:Int))(inj:∀i j,i<n->j<n->f i=f j->i=j)(hn:n<=900)(hk:(fs.zip ws)[k]?=some (u,w)):
  yN (.int u) (.int w) (dI ((fs.zip ws).take k))=some (dI ((fs.zip ws).take (k+1))):=by
 have hkl:=(Î.mp hk).1;rw[ì]at hkl;have hu:fs[k]?=some u:=(Ģ.mp hk).1;rw[PJ (λp hp=>?_) (by
  rw[ê,ì,hf];have:900<sizeLine:=by decide
  lia)]
 .rw[List.take_add_one,hk]
  rfl
 .obtain⟨i,hi,e⟩:=List.getElem_of_mem hp
  rw[ê,ì]at hi;have e2:(fs.zip ws)[i]?=some p:=by
   rw[List.getElem_take]at e;rw[Ê (by rw[ì];lia),e]
  have hp1:fs[i]?=some p.1:=(Ģ.mp e2).1;rw[ef i ∅]at hp1;rw[ef k ∅]at hu;intro z;have:=inj i k ∅ ∅ (by have:=Option.some.inj hp1;have:=Option.some.inj hu;lia);lia
def CZ(K:Ok P L T)(I:Sx.Inv P σ T)(e2:Sx.LnR P.n ln w):nT [bY L,.list (ln.map .int)]=.ok (dI (L.free.zip (ln.take P.n))) []:=by
 have R:=K.rp;have el:(L.free.zip (ln.take P.n)).length=P.n:=by rw[ì,R.fl,ê,e2.len];lia
 refine aQ (os:=[]) ?_;rfl';unfold nS;dsimp? [];have hz:A6 (sM (gQ "Table" "free") (bF 0)) (Į EF (bF 1) none (some (sM Ž (dC (.int 1))))) [some (bY L),some (.list (ln.map .int)),some (kE [] []),none,none]=.ok ((L.free.zip (ln.take P.n)).map λp=>.tuple [.int p.1,.int p.2]) [some (bY L),some (.list (ln.map .int)),some (kE [] []),none,none]:=YS (by unfold bY;dsimp? [pF]) (by
  have:=YY (ds:=ln.map PyData.int) (n:=P.n) (by rw[Å,e2.len]);dsimp? [WB,uV,uW,B8,this];rw[List.map_take])
 refine cN (λk δ=>∃o3 o4,δ=[some (bY L),some (.list (ln.map .int)),some (dI ((L.free.zip (ln.take P.n)).take k)),o3,o4]) hz ⟨none,none,rfl⟩ ?_ ?_
 .rintro k d δ hk ⟨o3,o4,rfl⟩
  rw[Ò]at hk;cases e:(L.free.zip (ln.take P.n))[k]? with
  |none=>rw[e]at hk;cases hk
  |some p=>
   rw[e]at hk;cases hk;refine⟨_,rfl,?_⟩;have pt:=JV R.fl R.f I.fi K.n e;dsimp? [yP,pt];exact⟨_,_,rfl⟩
 .rintro δ ⟨o3,o4,rfl⟩
  rw[Å,List.take_length];dsimp? [ER]
def PK(t b:Int):(Int×Int):=(Ŏ t b t,Ŏ t b b)
def YZ(hb:b≠0)(fb:fK 9000 b):mD [.int t,.int b]=.ok (fr (PK t b)) []:=by
 have hd:dv t b=(if b<0 then -(Int.gcd t b:Int)else (Int.gcd t b:Int)):=rfl;have gl:(Int.gcd t b:Int).natAbs<=b.natAbs:=by
  have:=Int.gcd_le_natAbs_right (a:=t) hb;assumption
 have hl:(dv t b).natAbs.log2<9000:=by
  have fg:fK 9000 (Int.gcd t b:Int):=fb.le gl;rw[hd];split
  .exact fg.neg.log2
  .exact fg.log2
 rw[JR hb hl,hd,GQ (Int.gcd_dvd_left t b),GQ (Int.gcd_dvd_right t b)];rfl
def aDY{a b:Nat}(h:a+b<=ds.length):EF (.list ds) (some (a:Int)) (some ((a+b:Nat):Int))=some (.list ((ds.drop a).take b)):=by
 have e1:HT.sIx ds.length 0 (some (a:Int))=a:=by rw[HT.sIx_nat];lia
 have e2:HT.sIx ds.length ds.length (some ((a+b:Nat):Int))=a+b:=by rw[HT.sIx_nat];lia
 show some (PyData.list ((ds.drop (HT.sIx ds.length 0 (some (a:Int)))).take (HT.sIx ds.length ds.length (some ((a+b:Nat):Int))-HT.sIx ds.length 0 (some (a:Int)))))=_;rw[e1,e2,Nat.add_sub_cancel_left]
def ı(n m:Nat)(y:Nat->Int)(s:Int):D:=.tuple [.list ((List.range m).map λr=>fr (PK (y (n+r)) s)),.list ((List.range n).map λi=>fr (PK (y (n+m+i)) s))]
def JW(K:Ok P L T)(hm:rs.length=m)(hk:P.k=m+P.n)(hy:∀u,u<P.n+m+P.n->(gI Á (u:Int)).getD 0=y u):rD [bY L,.list rs,dI Á]=.ok (ı P.n m y T.s) []:=by
 have R:=K.rp;have kn:=K.k;have nn:=K.n;have hs0:T.s≠0:=by have:=K.pos;exact Int.ne_of_gt ‹_›
 sleep 3;rfl';unfold rC;unfold bY;dsimp? [pF,Å,R.fl,hm];refine aU.of (xV (n:=((P.n+m+P.n:Nat):Int)) (g:=λu=>fr (PK (y u) T.s)) (c6 (by dsimp? [pF,Å,R.fl];simp)) ∅ ∅ λk hk=>?_) ?_
 .have hk:k<P.n+m+P.n:=by lia
  have e:=hy k hk;have g0:((gI Á (k:Int)).map PyData.int).getD (.int 0)=.int (y k):=by
   rw[<- e];cases gI Á (k:Int)<;>rfl
  dsimp? [XI,YX,YW,g0,AF,R.s,YZ hs0 (K.fs.mono ⋯)]
 .rw[ü]
  have c1:=aDY (ds:=(List.range (P.n+m+P.n)).map λu=>fr (PK (y u) T.s)) (a:=P.n) (b:=m) 'e';have c2:=sU (ds:=(List.range (P.n+m+P.n)).map λu=>fr (PK (y u) T.s)) (k:=P.n+m) 'e';have ec:((P.n+m:Nat):Int)=(P.n:Int)+(m:Int):=by simp
  rw[ec]at c1 c2;dsimp? [aL6,uV,uW,B8,c1,c2];unfold ı;have d1:(((List.range (P.n+m+P.n)).map λu=>fr (PK (y u) T.s)).drop P.n).take m=(List.range m).map λr=>fr (PK (y (P.n+r)) T.s):=by
   refine List.ext_getElem? λj=>?_;rw[List.getElem?_take];split
   .rename_i hj
    rw[List.getElem?_drop,Ò,ÿ ∅,Ò,ÿ hj];rfl
   .rw[ç (by simp;exact è.mp ‹_›)]
  have d2:((List.range (P.n+m+P.n)).map λu=>fr (PK (y u) T.s)).drop (P.n+m)=(List.range P.n).map λi=>fr (PK (y (P.n+m+i)) T.s):=by
   refine List.ext_getElem? λj=>?_;rw[List.getElem?_drop];by_cases hj:j<P.n
   .rw[Ò,ÿ ∅,Ò,ÿ hj]
    rfl
   .rw[ç (by simp;exact è.mp ‹_›),ç (by simp;exact è.mp ‹_›)]
  rw[d1,d2]
theorem PL(e2:Sx.LnR n ln w):(ln.take n).length=n/\∀j,j<n->(ln.take n)[j]?=some (w j):=
 ⟨by rw[ê,e2.len];lia,λj hj=>by rw[List.getElem?_take,Â hj];exact e2.at' j 'a'⟩
def aDZ(K:Ok P L T)(I:Sx.Inv P σ T)(hm:rs.length=m)(hk:P.k=m+P.n)(hp:p<P.k):
  nV [bY L,.list rs,.int (p:Int)]=.ok (.tuple [.str "none",ı P.n m (λu=>if u=T.h p then T.s else Sx.shr P.n T.f (T.L p) u) T.s]) []:=by
 have R:=K.rp;let⟨pv,e1,e2⟩:=R.l p hp;have i1:=Ξ e1;have i2:=SO (R.h p hp);have sh:=CZ K I e2;let⟨t1,t2⟩:=PL e2;have gs:=λu=>ML R.fl t1 R.f t2 I.fi u;have hnew:∀q∈L.free.zip (pv.take P.n),q.1≠(T.h p:Int):=λq hq z=>by
  have h1:=(gs (T.h p)).2.mpr λj hj=>I.fh j p hj 'a';have h2:gI (L.free.zip (pv.take P.n)) (T.h p:Int)≠none:=by
   unfold gI;intro y;rw[Option.map_eq_none_iff,List.find?_eq_none]at y;exact y q hq (by simp[z])
  exact h2 h1
 have hzl:(L.free.zip (pv.take P.n)).length=P.n:=by rw[ì,R.fl,t1,Nat.min_self]
 have pn:=PJ (w:=L.s) hnew (by rw[hzl];have:=K.n;have:900<sizeLine:=⋯;exact ę ‹_› ‹_›)
 have pe:=JW K hm hk (Á:=L.free.zip (pv.take P.n)++[((T.h p:Int),L.s)]) (y:=λu=>if u=T.h p then T.s else Sx.shr P.n T.f (T.L p) u) λu _=>by
  have e:gI (L.free.zip (pv.take P.n)++[((T.h p:Int),L.s)]) (u:Int)=(gI (L.free.zip (pv.take P.n)) (u:Int)).or (if (T.h p:Int)=(u:Int)then some L.s else none):=by
   unfold gI;rw[List.find?_append,Option.map_or,List.find?_singleton];congr 1;by_cases c:(T.h p:Int)=(u:Int)
   .simp[c]
   .simp[c]
  rw[e];by_cases c:u=T.h p
  .subst c
   rw[(gs (T.h p)).2.mpr λj hj=>I.fh j p hj 'a',Â rfl,Â rfl,R.s];rfl
  .rw[Ã c,Ã ∅,Option.or_none]
   exact(gs u).1
 sleep 3;rfl';unfold nU;have tl:gQ "Table" "lines" (bY L)=some (SR L.lines):=uB;have th:gQ "Table" "held" (bY L)=some (.list (L.held.map .int)):=wQ;have ts:gQ "Table" "scale" (bY L)=some (.int L.s):=AF;dsimp? [tl,i1,sh,ts,yP,th,i2,pn,pe]
def aD0(K:Ok P L T)(I:Sx.Inv P σ T){Ä:ZK}(hm:rs.length=m)(hk:P.k=m+P.n)(hr:Ä.length=P.n):
  nX [bY L,.list rs,.list (Ä.map .int)]=.ok (.tuple [.str "fill",.list ((List.range P.n).map λx=>fr (PK (Sx.val P T x) T.s)),ı P.n m (λu=>Sx.shr P.n T.f (T.L P.k) u) T.s]) []:=by
 have R:=K.rp;have kk:=K.k;have hs0:T.s≠0:=by have:=K.pos;exact Int.ne_of_gt ‹_›
 have sh:=CZ K I R.g;let⟨t1,t2⟩:=PL R.g;have gs:=λu=>ML R.fl t1 R.f t2 I.fi u;have pe:=JW K hm hk (Á:=L.free.zip (L.goal.take P.n)) (y:=λu=>Sx.shr P.n T.f (T.L P.k) u) λu _=>(gs u).1;let ws:ZK:=L.lines.map λln=>ln.getD P.n 0;have wl:ws.length=P.k:=by simp![ws,Å,R.ll]
 have wa:∀r,r<P.k->ws[r]?=some (T.L r P.n):=λr hr=>by
  let⟨ln,q1,q2⟩:=R.l r hr;simp![ws,Ò,q1,Option.map_some,q2.getD (È _)]
 have hv:=λu=>ML R.hl wl R.h wa (λi j hi hj e=>I.hi i j 'a' 'a' e) u;sleep 3;rfl';unfold nW;have tl:gQ "Table" "lines" (bY L)=some (SR L.lines):=uB;have th:gQ "Table" "held" (bY L)=some (.list (L.held.map .int)):=wQ;have ts:gQ "Table" "scale" (bY L)=some (.int L.s):=AF;have tg:gQ "Table" "goal" (bY L)=some (.list (L.goal.map .int)):=PF;dsimp? [];have hz:A6 (sM (gQ "Table" "held") (bF 0)) (sM (gQ "Table" "lines") (bF 0)) [some (bY L),some (.list rs),some (.list (Ä.map .int)),some (kE [] []),none,none,none]=.ok ((L.held.zip L.lines).map λp=>.tuple [.int p.1,.list (p.2.map PyData.int)]) [some (bY L),some (.list rs),some (.list (Ä.map .int)),some (kE [] []),none,none,none]:=by
  have e1:sM (gQ "Table" "held") (bF 0) [some (bY L),some (.list rs),some (.list (Ä.map .int)),some (kE [] []),none,none,none]=.ok (.list (L.held.map .int)) [some (bY L),some (.list rs),some (.list (Ä.map .int)),some (kE [] []),none,none,none]:=c6 (by dsimp? [th]);have e2:sM (gQ "Table" "lines") (bF 0) [some (bY L),some (.list rs),some (.list (Ä.map .int)),some (kE [] []),none,none,none]=.ok (SR L.lines) [some (bY L),some (.list rs),some (.list (Ä.map .int)),some (kE [] []),none,none,none]:=c6 (by dsimp? [tl]);unfold A6;simp![bB,e1,e2,aW];congr 1;unfold pN;rw[List.zipWith_map,List.zip_eq_zipWith,List.map_zipWith]
 refine cN (λk δ=>∃o4 o5,δ=[some (bY L),some (.list rs),some (.list (Ä.map .int)),some (dI ((L.held.zip ws).take k)),o4,o5,none]) hz ⟨none,none,rfl⟩ ?_ ?_
 .rintro k d δ hkd ⟨o4,o5,rfl⟩
  rw[Ò]at hkd;cases e:(L.held.zip L.lines)[k]? with
  |none=>rw[e]at hkd;cases hkd
  |some q=>
   rw[e]at hkd;cases hkd;let⟨q1,q2⟩:=Ģ.mp e;have hk':k<P.k:=by have:=(Î.mp q1).1;rw[R.hl]at this;exact this
   let⟨ln,l1,l2⟩:=R.l k hk';rw[q2]at l1;have el:ln=q.2:=(Option.some.inj l1).symm;subst el;refine⟨_,rfl,?_⟩;have ez:(L.held.zip ws)[k]?=some (q.1,T.L k P.n):=by rw[Ģ];exact⟨q1,wa k hk'⟩
   have pt:=JV R.hl R.h (λi j hi hj e=>I.hi i j 'a' 'a' e) kk ez;have il:=YR l2.len (l2.at' P.n (È _));dsimp? [yP,il,pt];exact⟨_,_,rfl⟩
 .rintro δ ⟨o4,o5,rfl⟩
  rw[Å,ì,R.hl,R.ll,Nat.min_self,List.take_of_length_le (by rw[ì,R.hl,wl];lia)];dsimp? [];refine aU.of (xV (n:=(P.n:Int)) (g:=λu=>fr (PK (Sx.val P T u) T.s)) (c6 (by dsimp? [Å,hr])) ∅ (by have:=K.n;lia) λk hk=>?_) ?_
  .have e:=(hv k).1
   have g0:((gI (L.held.zip ws) (k:Int)).map PyData.int).getD (.int 0)=.int (Sx.val P T k):=by
    unfold Sx.val;rw[<- e];cases gI (L.held.zip ws) (k:Int)<;>rfl
   dsimp? [XI,YX,YW,g0,ts,R.s,YZ hs0 (K.fs.mono ⋯)]
  .rw[ü]
   dsimp? [tg,sh,pe]
def aMV(h:aU c δ λb δ1=>if b=true then bN u δ1 (λδ2=>bN (fF c u) δ2 N B C R) N (λδ2=>bN (fF c u) δ2 N B C R) R else N δ1):bN (fF c u) δ N B C R:=by
 let⟨b,δ1,e,q⟩:=h.ex;cases b with
 |false=>
  refine bN.of (fl:=.next) (by rw[eQ,e];rfl) ?_;exact(by simpa using q:N δ1)
 |true=>
  rw[Â rfl]at q;let⟨fl,δ2,e2,q2⟩:=q.ex;cases fl with
  |next=>
   let⟨fl3,δ3,e3,q3⟩:=bN.ex q2;exact bN.of (fl:=fl3) (by rw[eQ,e];simp![aW,if_true,e2];exact e3) q3
  |cont=>
   let⟨fl3,δ3,e3,q3⟩:=bN.ex q2;exact bN.of (fl:=fl3) (by rw[eQ,e];simp![aW,if_true,e2];exact e3) q3
  |brk=>exact bN.of (fl:=.next) (by rw[eQ,e];simp![aW,if_true,e2]) q2
  |ret r=>exact bN.of (fl:=.ret r) (by rw[eQ,e];simp![aW,if_true,e2]) q2
def ĩ(Ä:ZK)(i:Nat):D:=.list ((((List.replicate Ä.length (0:Int)).set i 1)++[Ä.getD i 0]).map PyData.int)
def Y0(hn:Ä.length<=900):tP [.list (Ä.map .int)]=.ok (.list ((List.range Ä.length).map (ĩ Ä))) []:=by
 sleep 3;rfl';unfold mE;dsimp? [];refine cN (λk δ=>∃o2 o3 o4,δ=[some (.list (Ä.map .int)),some (.list ((List.range k).map (ĩ Ä))),o2,o3,o4]) (PH (enc:=PyData.int) (xs:=Ä) (by dsimp? [])) ⟨none,none,none,rfl⟩ ?_ ?_
 .rintro k d δ hk ⟨o2,o3,o4,rfl⟩
  have hk0:=(Î.mp hk).1;simp![Å,List.length_zipIdx]at hk0;have ed:d=.tuple [.int (k:Int),.int (Ä.getD k 0)]:=by
   rw[Ò,Ò,List.getElem?_zipIdx,Ê hk0]at hk;simp![Option.map_some,Option.some.injEq]at hk;rw[<- hk,Ë,Ê hk0];simp
  subst ed;refine⟨_,rfl,?_⟩;dsimp? [];refine aU.of (cS (xs:=Ä) (enc:=PyData.int) (g:=λ_=>.int 0) (bT (by dsimp? [])) ∅ λx _=>by dsimp? []) ?_;have ei:=ixN_lt' (show k<((Ä.map λ_=>PyData.int 0)++[PyData.int (Ä.getD k 0)]).length by simp;exact Nat.lt_succ_of_lt ‹_›);have er:(List.range (k+1)).map (ĩ Ä)=(List.range k).map (ĩ Ä)++[ĩ Ä k]:=by rw[List.range_succ,Ø];rfl
  rw[er];have e0:(Ä.map λ_=>PyData.int 0)=(List.replicate Ä.length (0:Int)).map PyData.int:=by
   rw[List.map_replicate];exact List.map_const' ..
  have el:(((Ä.map λ_=>PyData.int 0)++[PyData.int (Ä.getD k 0)]).set k (.int 1))=(((List.replicate Ä.length (0:Int)).set k 1)++[Ä.getD k 0]).map PyData.int:=by
   rw[e0,List.set_append_left _ _ (by simpa using hk0),Ø,List.map_set];rfl
  have cat:G7 (.list (Ä.map λ_=>PyData.int 0)) (.list [PyData.int (Ä.getD k 0)])=some (.list ((Ä.map λ_=>PyData.int 0)++[PyData.int (Ä.getD k 0)])):=Â (by
   simp![Å,Û,List.length_nil];have:901<=sizeLine:=by decide
   exact ę ‹_› ‹_›)
  dsimp? [cat,ei,el];refine⟨by have:900<sizeLine:=⋯;simp![Å,List.length_range];lia,_,_,_,rfl⟩
 .rintro δ ⟨o2,o3,o4,rfl⟩
  simp![Å,List.length_zipIdx];dsimp? []
def aQQ:nM 20 0 "Table" "scale" s (dH "Table" [] [])=some (.dict [(.none,.str "Table"),(.str "scale",s)]):=by with_unfolding_all rfl
def aQR:nM 20 1 "Table" "free" f (.dict [(.none,.str "Table"),(.str "scale",s)])=some (.dict [(.none,.str "Table"),(.str "scale",s),(.str "free",f)]):=by with_unfolding_all rfl
def aQS:nM 20 1 "Table" "held" h (.dict [(.none,.str "Table"),(.str "scale",s),(.str "free",f)])=some (.dict [(.none,.str "Table"),(.str "scale",s),(.str "free",f),(.str "held",h)]):=by with_unfolding_all rfl
def aQT:nM 20 0 "Table" "lines" l (.dict [(.none,.str "Table"),(.str "scale",s),(.str "free",f),(.str "held",h)])=some (.dict [(.none,.str "Table"),(.str "scale",s),(.str "free",f),(.str "held",h),(.str "lines",l)]):=by with_unfolding_all rfl
def aQU:nM 20 0 "Table" "goal" g (.dict [(.none,.str "Table"),(.str "scale",s),(.str "free",f),(.str "held",h),(.str "lines",l)])=some (tb s f h l g):=by with_unfolding_all rfl
def aQV{n:Nat}(h:n<=1000):kY [.int (n:Int)]=some (0,n):=by
 unfold kY;dsimp only;rw[Â ⟨∅,∅⟩,ü]
def aQW{n m:Nat}(h:n+m<=1000):kY [.int (n:Int),.int ((n+m:Nat):Int)]=some ((n:Int),m):=by
 unfold kY;dsimp only;rw[Â ⟨∅,∅,∅,∅⟩];have e:((((n+m:Nat):Int))-(n:Int)).toNat=m:=by lia
 rw[e]
def Ρ(h:n<=1000):n<=sizeLine:=Ü h (show 1000<=sizeLine by decide)
def Y1(h:kY ds=some (lo,n))(hn:n<=1000):į ds=some (.list (jL lo n)):=by
 unfold į;rw[h];exact Â (Ρ hn)
def aQX{n:Nat}(h:n<=1000):į [.int (n:Int)]=some (.list (((List.range n).map λ(i:Nat)=>(i:Int)).map PyData.int)):=by
 rw[Y1 (aQV h) h];have e:jL 0 n=((List.range n).map λ(i:Nat)=>(i:Int)).map PyData.int:=by
  unfold jL;rw[à];refine List.map_congr_left λk _=>?_;show PyData.int (0+(k:Int))=.int (k:Int);rw[Int.zero_add]
 rw[e]
def aQY{n m:Nat}(h:n+m<=1000):į [.int (n:Int),.int ((n+m:Nat):Int)]=some (.list (((List.range m).map λ(i:Nat)=>((n+i:Nat):Int)).map PyData.int)):=by
 rw[Y1 (aQW h) ∅];have e:jL (n:Int) m=((List.range m).map λ(i:Nat)=>((n+i:Nat):Int)).map PyData.int:=by
  unfold jL;rw[à];refine List.map_congr_left λk _=>?_;show PyData.int ((n:Int)+(k:Int))=.int ((n+k:Nat):Int);rw[Int.natCast_add]
 rw[e]
def Ŀ(r:ZK×Int):D:=.tuple [.list (r.1.map PyData.int),.int r.2]
abbrev SV(rs:ZE):D:=.list (rs.map Ŀ)
def aD1(hm:Ç.length<=300)(hn:Ä.length<=300)(hr:∀r∈Ç,r.1.length=Ä.length):lC [dH "Table" [] [],SV Ç,.list (Ä.map .int)]=.ok .none [some (bY (Sx.startL Ç Ä))]:=by
 have sz:1000<=sizeLine:=by decide
 refine PD (os:=[bY (Sx.startL Ç Ä)]) ?_;rfl';unfold gR;have e1:=aQX (n:=Ä.length) ∅;have e2:=aQY (n:=Ä.length) (m:=Ç.length+Ä.length) ∅;have e3:((Ä.length+(Ç.length+Ä.length):Nat):Int)=(Ä.length:Int)+(Ç.length:Int)+(Ä.length:Int):=by lia
 rw[e3]at e2;have er:=Y0 (Ä:=Ä) ∅;dsimp? [yO,aQQ,aJF,Å,e1,aQR,e2,aQS,SV];refine aU.of (pE (xs:=Ç) (enc:=Ŀ) (A:=λr=>.list (r.1.map PyData.int)) (B:=λr=>.int r.2) (g:=λr=>.list ((r.1++[r.2]).map PyData.int)) (λ_=>rfl) (bT (by dsimp? [])) ∅ λr hr'=>?_) ?_
 .have hl:=hr r hr'
  have ll:∀l:ZI,NK [.list l]=some (.list l):=λ_=>rfl;dsimp? [ll,Å,Ø,Ì,List.map_nil,Û,List.length_nil];exact Ρ ∅
 .dsimp? [er,Å,List.length_range]
  refine⟨∅,?_⟩;dsimp? [aQT,yO];refine aU.of (cS (xs:=Ä) (enc:=PyData.int) (g:=λ_=>.int 1) (bT (by dsimp? [])) ∅ λx _=>by dsimp? []) ?_;have g1:(Ä.map λ_=>PyData.int 1)++[PyData.int 0]=(List.replicate Ä.length (1:Int)++[0]).map PyData.int:=by
   have e0:(Ä.map λ_=>PyData.int 1)=List.replicate Ä.length (PyData.int 1):=List.map_const' ..;rw[Ø,List.map_replicate,e0,Ì,List.map_nil]
  have g2:(Ç.map λr=>PyData.list ((r.1++[r.2]).map PyData.int))++(List.range Ä.length).map (ĩ Ä)=((Ç.map λr=>r.1++[r.2])++(List.range Ä.length).map λ(i:Nat)=>((List.replicate Ä.length (0:Int)).set i 1)++[Ä.getD i 0]).map λx=>PyData.list (x.map PyData.int):=by
   rw[Ø,à,à];congr 1
  have fin:tb (.int 1) (.list (((List.range Ä.length).map λ(i:Nat)=>(i:Int)).map PyData.int)) (.list (((List.range (Ç.length+Ä.length)).map λ(i:Nat)=>((Ä.length+i:Nat):Int)).map PyData.int)) (.list ((Ç.map λr=>PyData.list ((r.1++[r.2]).map PyData.int))++(List.range Ä.length).map (ĩ Ä))) (.list ((Ä.map λ_=>PyData.int 1)++[PyData.int 0]))=bY (Sx.startL Ç Ä):=by
   rw[g1,g2];rfl
  dsimp? [Å,Û,List.length_nil];refine⟨Ρ ∅,?_⟩;dsimp? [aQU,fin]
structure ė(Ç:ZE)(Ä:ZK)(A C:Nat):Prop where
 len:∀r∈Ç,r.1.length=Ä.length
 m:Ç.length<=300
 n:Ä.length<=300
 a1:1<=A
 a:∀r∈Ç,∀x∈r.1,x.natAbs<=A
 c:∀r∈Ç,r.2.natAbs<=C
 cr:∀x∈Ä,x.natAbs<=C
 f1:Sx.fac Ä.length*A^Ä.length<2^4000
 f2:(Ä.length+1)*(Sx.fac Ä.length*A^Ä.length*C)<2^4000
section
def JX{l:ZK}(h:∀y∈l,y.natAbs<=A):(l.getD x 0).natAbs<=A:=by
 rw[Ë];cases e:l[x]? with
 |none=>simp
 |some y=>exact h y (Č e)
def ė.pa(b:ė Ç Ä A C)(u x:Nat):((Sx.lpOf Ç Ä).pr.a u x).natAbs<=A:=by
 have a1:=b.a1;have h0:(0:Int).natAbs<=A:=by simp
 have h1:(1:Int).natAbs<=A:=by simpa using a1
 have h2:(-1:Int).natAbs<=A:=by simpa using a1
 show (if u<Ä.length then (if x=u then -1 else 0)else if u<Ä.length+Ç.length then (Ç.getD (u-Ä.length) ([],0)).1.getD x 0 else if u<Ä.length+Ç.length+Ä.length then (if x=u-(Ä.length+Ç.length)then 1 else 0)else 1:Int).natAbs<=A;split
 .split
  .exact h2
  .exact h0
 .split
  .refine JX λy hy=>?_
   rw[Ë]at hy;cases e:Ç[u-Ä.length]? with
   |none=>rw[e]at hy;cases hy
   |some r=>rw[e]at hy;exact b.a r (Č e) y hy
  .split
   .split
    .exact h1
    .exact h0
   .exact h1
def ė.pc(b:ė Ç Ä A C)(u:Nat):((Sx.lpOf Ç Ä).pr.c u).natAbs<=C:=by
 have h0:(0:Int).natAbs<=C:=by simp
 show (if u<Ä.length then 0 else if u<Ä.length+Ç.length then (Ç.getD (u-Ä.length) ([],0)).2 else if u<Ä.length+Ç.length+Ä.length then Ä.getD (u-(Ä.length+Ç.length)) 0 else 0:Int).natAbs<=C;split
 .exact h0
 .split
  .rw[Ë]
   cases e:Ç[u-Ä.length]? with
   |none=>exact h0
   |some r=>exact b.c r (Č e)
  .split
   .exact JX b.cr
   .exact h0
def ė.ok(b:ė Ç Ä A C)(I:Sx.Inv (Sx.lpOf Ç Ä).pr σ T)(R:Sx.Rp (Sx.lpOf Ç Ä).pr L T):Ok (Sx.lpOf Ç Ä).pr L T:=by
 let⟨h1,h2,h3⟩:=I.small (A:=A) (C:=C) (λu x _ _=>b.pa u x) (λu _=>b.pc u);have bm:=b.m;have bn:=b.n;refine⟨R,I.pos,ę h1 b.f1,λr j hr hj=>?_,?_,?_⟩
 .by_cases e:j<(Sx.lpOf Ç Ä).pr.n
  .exact ę (h2 r j hr e) b.f1
  .have e:j=(Sx.lpOf Ç Ä).pr.n:=by lia
   subst e;exact ę (h3 r hr) b.f2
 .show Ä.length<=900
  lia
 .show Ç.length+Ä.length<=900
  lia
end
def aMX(Q:Sx.Lp)(T:Sx.Tab):D:=.tuple [.str "fill",.list ((List.range Q.n).map λx=>fr (PK (Sx.val Q.pr T x) T.s)),ı Q.n Q.m (λu=>Sx.shr Q.n T.f (T.L Q.pr.k) u) T.s]
def aMY(Q:Sx.Lp)(T:Sx.Tab)(p:Nat):D:=.tuple [.str "none",ı Q.n Q.m (λu=>if u=T.h p then T.s else Sx.shr Q.n T.f (T.L p) u) T.s]
def aMZ(Q:Sx.Lp)(r:D):Prop:=∃T σ,Sx.Inv Q.pr σ T/\(((∀r,r<Q.pr.k->0<=T.L r Q.n)/\r=aMX Q T)\/∃p,p<Q.pr.k/\T.L p Q.n<0/\(∀j,j<Q.n->0<=T.L p j)/\r=aMY Q T p)
def aF4(Ç:ZE)(Ä:ZK)(T:Sx.Tab):Prop:=∀(L:Sx.LT),Sx.Rp (Sx.lpOf Ç Ä).pr L T->∀(o4:ZL)(pl:D),cB [bY L]=.ok pl [] ->
   bN (eK (fF (dB (iF xM (bF 3) (dC .none)))
   (eK (jK 4 (QW (iZ mG [.val (bF 2),.val (iF fM (sM (gQ "Table" "lines") (bF 2)) (bF 3))])))
   (eK (qR (dB (iF Ļ (bF 4) (dC .none)))
    (pL (iZ nV [.val (bF 2),.val (bF 0),.val (bF 3)]))
    xI)
   (eK (BV (xZ 2 "Table" "swap" mJ [.val (bF 3),.val (bF 4)]))
   (jK 3 (QW (iZ cB [.val (bF 2)])))))))
  (pL (iZ nX [.val (bF 2),.val (bF 0),.val (bF 1)]))) [some (SV Ç),some (.list (Ä.map .int)),some (bY L),some pl,o4] (λ_=>False) (λ_=>False) (λ_=>False) λr _=>aMZ (Sx.lpOf Ç Ä) r
def aD3(b:ė Ç Ä A C)(T:Sx.Tab)(I:Sx.Inv (Sx.lpOf Ç Ä).pr σ T):aF4 Ç Ä T:=by
 refine Sx.simplex_ind (Good:=aF4 Ç Ä) ?_ T I;clear I T;intro T I ih L R o4 pl hpl;have K:=b.ok I R;have hk:(Sx.lpOf Ç Ä).pr.k=Ç.length+(Sx.lpOf Ç Ä).pr.n:=rfl;have hm:(Ç.map Ŀ).length=Ç.length:=Å _;have tl:gQ "Table" "lines" (bY L)=some (SR L.lines):=uB;rw[B6];refine aMV ?_;rcases AH K with ⟨all,e⟩|⟨p,hp,neg,first,e⟩
 .rw[e]at hpl
  cases hpl;have fe:=aD0 K I (rs:=Ç.map Ŀ) (Ä:=Ä) hm hk rfl;dsimp? [aMT,Bool.false_eq_true,if_false,fe];exact⟨T,σ,I,.inl ⟨all,rfl⟩⟩
 .rw[e]at hpl
  cases hpl;let⟨pv,e1,e2⟩:=R.l p hp;let⟨o,hB,ec⟩:=SU K hp e2;have i1:=Ξ e1;dsimp? [aMU,if_true,tl,i1,ec,yQ];cases o with
  |none=>
   have ne:=aDZ K I (rs:=Ç.map Ŀ) hm hk hp;simp![oD,aJG];dsimp? [aMS,ne];exact⟨T,σ,I,.inr ⟨p,hp,neg,hB,rfl⟩⟩
  |some d=>
   have C:=Sx.ch_of hp neg first hB
   have R':=R.swap hp C.hd;have I':=C.inv I;have K':=b.ok I' R';have sw:=aDV K hp C.hd;obtain⟨pl',ep,hv⟩:∃pl',cB [bY (Sx.swapL L p d)]=.ok pl' []/\(LI pl').isSome=true:=by
    rcases AH K' with ⟨_,e⟩|⟨q,_,_,_,e⟩
    .exact⟨_,e,rfl⟩
    .exact⟨_,e,rfl⟩
   have nx:=ih p d C (Sx.swapL L p d) R' (some (.int (d:Int))) pl' ep;rw[B6]at nx;simp![oD,XL];have tm:yM "Table" "swap" (bY L):=aDU;dsimp? [Ο,aJD,tm,true_and,sw,ep,yQ];refine⟨hv,?_⟩;dsimp? [];exact nx
def Y2(b:ė Ç Ä A C):∃r,FC [SV Ç,.list (Ä.map .int)]=.ok r []/\aMZ (Sx.lpOf Ç Ä) r:=by
 have bm:=b.m;have bn:=b.n;have R:=Sx.start_ok b.len;have I:=(Sx.lpOf Ç Ä).inv;have K:=b.ok I R;have ie:=aD1 (Ç:=Ç) (Ä:=Ä) (by assumption) (by assumption) b.len;obtain⟨pl,ep,hv⟩:∃pl,cB [bY (Sx.startL Ç Ä)]=.ok pl []/\(LI pl).isSome=true:=by
  rcases AH K with ⟨_,e⟩|⟨q,_,_,_,e⟩
  .exact⟨_,e,rfl⟩
  .exact⟨_,e,rfl⟩
 have wk:=aD3 b _ I (Sx.startL Ç Ä) R none pl ep;refine k6 (m0:=5) (rm:=0) ?_;rfl';unfold FB;dsimp? [aJE];unfold XG;refine⟨_,_,rfl,ie,?_⟩;dsimp? [ep,yQ];refine⟨hv,?_⟩;dsimp? [];rw[B6]at wk;exact wk
abbrev iL(ns:ZK):D:=.list (ns.map PyData.int)
def SW(r:ZK×Int):D:=.tuple [iL r.1,.int r.2]
abbrev aF5(rs:ZE):D:=.list (rs.map SW)
def aF6(a:Nat)(ns:ZK):Prop:=∀n∈ns,fK a n
def aPH(h:1<=n):fK n 1:=by
 show (1:Int).natAbs<2^n;have:2^1<=2^n:=Nat.pow_le_pow_right ⋯ h;simp;exact Þ ‹_›
def aD4{ns:ZK}(h:k<ns.length):atI (ns.map PyData.int) (k:Int)=some (.int (ns.getD k 0)):=by
 refine dP ?_;rw[Ò,Ê h,Ë,Ê h];rfl
end Toy
namespace L2
open PySem PySem.Spec
end L2
namespace Toy
open PySem L2
section
end
def qs(n:Nat)(y:Nat->Int)(s:Int):ZF:=(List.range n).map λx=>PK (y x) s
section
end
section
abbrev y1(Ç:ZE)(Ä:ZK)(y:Nat->Int)(i:Nat):Int:=y (Ä.length+Ç.length+i)
end
section
end
end Toy
namespace L2
open PySem PySem.Spec
def vO(P:ZO)(h1:bN u δ P B C R)(h2:∀δ1,P δ1->bN v δ1 N B C R):bN (eK u v) δ N B C R:=by
 rw[B6];let⟨fl,δ1,e,q⟩:=h1.ex;refine .of e ?_;cases fl with
 |next=>exact h2 _ q
 |_=>exact q
def seq_assoc:eK a (eK b c)=eK (eK a b) c:=by
 funext δ;unfold eK;cases a δ with
 |stuck=>rfl
 |err x d=>rfl
 |ok fl d=>cases fl<;>rfl
end L2
namespace Toy
open PySem L2
def aPW:ħ true (.str "fill") (.tuple [.str "fill",.str "none"])=some (.bool false):=by with_unfolding_all rfl
def aPI:EB (.str "fill") (.str "fill")=some (.bool false):=by with_unfolding_all rfl
end Toy
namespace L2
open PySem PySem.Spec
section
end
def cO{i:Nat}{δ:DS}(h1:δ[i]?=some (some (.list as))):l5 (bF i) δ=.ok as δ:=by
 simp![l5,eY h1,aW]
def aD5(h:aU (bB [f,g]) δ λds δ1=>ds=[.list as,.list bs]/\δ1=δ):A6 f g δ=.ok (pN as bs) δ:=by
 let⟨ds,δ1,e,rfl,rfl⟩:=h.ex;unfold A6;rw[e,aW]
def j7{i:Nat}{δ:DS}(h1:δ[i]?=some (some (.list as))):xS (bF i) δ=.ok (fB as) δ:=by
 simp![xS,bB,eY h1,aW]
def aD6(h:as.length=bs.length):(pN as bs).length=as.length:=by simp[pN,h]
def hW:(fB as).length=as.length:=by simp[fB]
def fO:l5 (LA [dC a,dC b]) δ=.ok [a,b] δ:=by
 simp![l5,LA,bB,v2,aW];rw[Â (show [a,b].length<=sizeLine from Ü (show 2<=1000 by decide) ⋯)];rfl
def vP{α:Type}{enc g:α->D}{h:α->Bool}{t:M Bool}{e:M D}{δ:DS}:∀{xs:List α}{acc:ZI}{o:ZL},(∀x∈xs,t (some (enc x)::δ)=.ok (h x) (some (enc x)::δ))->(∀x∈xs,e (some (enc x)::δ)=.ok (g x) (some (enc x)::δ))->acc.length+xs.length<=sizeLine->∃o',bP (setN 0) t e (xs.map enc) acc (o::δ)=.ok (acc++(xs.filter h).map g) (o'::δ)
 |[],acc,o,_,_,_=>⟨o,by simp[bP]⟩
 |x::xs,acc,o,ht,he,hl=>by
  have hd:=ht x Ô;have hv:=he x Ô;rw[Û]at hl;have e1:setN 0 (enc x) (o::δ)=some (some (enc x)::δ):=by simp[setN]
  cases hk:h x with
  |true=>
   let⟨o',ih⟩:=vP (xs:=xs) (acc:=acc++[g x]) (o:=some (enc x)) (λy hy=>ht y (Ó _ hy)) (λy hy=>he y (Ó _ hy)) (by simp;lia);refine⟨o',?_⟩;rw[Ì];unfold bP;rw[e1];simp![hd,hk,Res.bind,if_true,hv];rw[Â ∅,ih];simp[hk]
  |false=>
   let⟨o',ih⟩:=vP (xs:=xs) (acc:=acc) (o:=some (enc x)) (λy hy=>ht y (Ó _ hy)) (λy hy=>he y (Ó _ hy)) ∅;refine⟨o',?_⟩;rw[Ì];unfold bP;rw[e1];simp![hd,hk,Res.bind,Bool.false_eq_true,if_false];rw[Â ∅,ih];simp[hk]
def pG{α:Type}{enc g:α->D}{h:α->Bool}{f:M (ZI)}{t:M Bool}{e:M D}{δ:DS}{xs:List α}(hf:f δ=.ok (xs.map enc) δ)(hl:xs.length<=1000)(ht:∀x∈xs,aU t (some (enc x)::δ) λb δ1=>b=h x/\δ1=some (enc x)::δ)(he:∀x∈xs,aU e (some (enc x)::δ) λa δ1=>a=g x/\δ1=some (enc x)::δ):eD 1 (setN 0) f t e δ=.ok (.list ((xs.filter h).map g)) δ:=by
 unfold eD;rw[hf];let⟨o',q⟩:=vP (h:=h) (t:=t) (acc:=[]) (o:=none) (λx hx=>by
  let⟨b,δ1,e,rfl,rfl⟩:=(ht x hx).ex;exact e) (λx hx=>c6 (he x hx)) (by rw[List.length_nil,Nat.zero_add];exact Ü hl (show 1000<=sizeLine by decide))
 simp![Res.bind];rw[show List.replicate 1 (none:ZL)++δ=none::δ from rfl,q];simp
def aF7{n:Nat}{k:Int}(h0:0<=k)(h1:k<n):oJ n k=some k.toNat:=by
 unfold oJ;rw[Â ∅,Â ∅]
def aD7(h:c<1000):PyData.strOk ⟨#[c]⟩=true:=by
 show (#[c]:Array Nat).all (·<0x110000)=true;simp;lia
def C0(h:x.length+y.length<=1000):LF (.str x) (.str y)=some (.str (x++y)):=by
 have hz:sizeLine=2^24:=rfl;have:D7 (.str x) (.str y)=some (.str (x++y)):=Â ∅;unfold LF;rw[this];rfl
def iA{x y:Str}:(x++y).length=x.length+y.length:=by
 show (x.cps++y.cps).size=_;rw[Array.size_append];rfl
def AI(hx:PyData.strOk x=true)(hy:PyData.strOk y=true):PyData.strOk (x++y)=true:=by
 show (x.cps++y.cps).all (·<0x110000)=true;rw[Array.all_append,show x.cps.all (·<0x110000)=true from hx,show y.cps.all (·<0x110000)=true from hy];rfl
def iB(s:String):PyData.strOk (Str.ofString s)=true:=by
 rw[Str.ofString_eq_toList];show ((s.toList.map Char.toNat).toArray).all (·<0x110000)=true;rw[List.all_toArray,í];intro x hx;let⟨c,_,rfl⟩:=Ö.mp hx;have:=c.valid;rw[decide_eq_true_eq];rcases this with h|h
 .exact Nat.lt_trans h ⋯
 .exact h.2
structure bJ(z:Str):Prop where
 len:z.length<=8
 ok:PyData.strOk z=true
def bJ.sh(h:bJ z):Sh 1 (.str z):=by
 have hz:sizeLine=2^24:=rfl;have:=h.len;exact⟨by simp[PyData.canLay0,h.ok],by simp[PyData.depth]⟩
def qL(hx:bJ x)(hy:bJ y):TF (.str x) (.str y)=some (.bool (x == y)):=by
 unfold TF;rw[Â ⟨hx.sh.shaped ⋯,hy.sh.shaped ⋯⟩];rfl
def aF8(hx:bJ x)(hy:bJ y):EB (.str x) (.str y)=some (.bool (!(x == y))):=by
 unfold EB;rw[Â ⟨hx.sh.shaped ⋯,hy.sh.shaped ⋯⟩];rfl
end L2
namespace Toy
open PySem L2
structure St where
 nm:Str
 x:Int
 y:Int
 z:Int
 t:Int
 h:Int
 m:Int
structure Bx where
 nm:Str
 w:Int
 p:Str
 k:Str
 b:Int
structure Tk where
 nm:Str
 x:Int
 y:Int
 z:Int
 r:Int
def pH(s:St):D:=.tuple [.str s.nm,.int s.x,.int s.y,.int s.z,.int s.t,.int s.h,.int s.m]
def eJ(b:Bx):D:=.tuple [.str b.nm,.int b.w,.str b.p,.str b.k,.int b.b]
def AJ(t:Tk):D:=.tuple [.str t.nm,.int t.x,.int t.y,.int t.z,.int t.r]
def aM(bs:List Bx):D:=.list (bs.map eJ)
def rT(x:Int):Prop:=-1000000000<=x/\x<=1000000000
structure FN(s:St):Prop where
 nm:bJ s.nm
 x:rT s.x
 y:rT s.y
 z:rT s.z
 t:rT s.t
structure FO(s:Tk):Prop where
 nm:bJ s.nm
 x:rT s.x
 y:rT s.y
 z:rT s.z
 r:0<=s.r/\s.r<=1000000000
structure aJU(b:Bx):Prop where
 nm:bJ b.nm
 p:bJ b.p
 k:bJ b.k
 w:1<=b.w/\b.w<=1000000000
structure tH(own:Int×Int×Int×Int)(ss:List St)(cs:List 'n')(ts:List Tk):Prop where
 o0:1<=own.1/\own.1<=1000000000
 o1:rT own.2.1/\rT own.2.2.1/\rT own.2.2.2
 ls:ss.length<=10
 lc:cs.length=ss.length
 lb:∀c∈cs,c.length<=30
 lt:ts.length<=4
 gs:∀s∈ss,FN s
 gb:∀c∈cs,∀b∈c,aJU b
 gt:∀t∈ts,FO t
def AK(o:Int×Int×Int×Int):D:=.tuple [.int o.1,.int o.2.1,.int o.2.2.1,.int o.2.2.2]
abbrev Q4:=Int×Int×Int×Int
def T4:List Q4->Q4
 |[]=>(0,0,0,0)
 |p::l=>(p.1+(T4 l).1,p.1*p.2.1+(T4 l).2.1,p.1*p.2.2.1+(T4 l).2.2.1,p.1*p.2.2.2+(T4 l).2.2.2)
def Y3:∀(l m:List Q4),T4 (l++m)=((T4 l).1+(T4 m).1,(T4 l).2.1+(T4 m).2.1,(T4 l).2.2.1+(T4 m).2.2.1,(T4 l).2.2.2+(T4 m).2.2.2)
 |[],m=>by simp[T4]
 |p::l,m=>by
  rw[List.cons_append,T4,Y3 l m,T4];simp![Int.add_assoc]
def aD8(l:List Q4)(p:Q4):T4 (l++[p])=((T4 l).1+p.1,(T4 l).2.1+p.1*p.2.1,(T4 l).2.2.1+p.1*p.2.2.1,(T4 l).2.2.2+p.1*p.2.2.2):=by
 rw[Y3];simp[T4]
def BJ:St:=⟨"",0,0,0,0,0,0⟩
def AV:Bx:=⟨"",0,"","",0⟩
def aQZ:Tk:=⟨"",0,0,0,0⟩
def KH(s:St)(bs:List Bx)(t:Nat):(List Q4):=(List.range t).map λ(j:Nat)=>((bs.getD j AV).w,s.x,s.y,s.z+(j:Int)*s.t)
def uC(ss:List St)(cs:List 'n')(k:Nat):(List Q4):=((List.range k).map λj=>KH (ss.getD j BJ) (cs.getD j []) (cs.getD j []).length).flatten
def Y4:KH s bs (t+1)=KH s bs t++[((bs.getD t AV).w,s.x,s.y,s.z+(t:Int)*s.t)]:=by
 unfold KH;rw[List.range_succ,Ø];rfl
def JY:uC ss cs (k+1)=uC ss cs k++KH (ss.getD k BJ) (cs.getD k []) (cs.getD k []).length:=by
 unfold uC;rw[List.range_succ,Ø,List.flatten_append];simp
def fJ{α:Type}{l:List α}{d:α}(h:k<l.length):l[k]?=some (l.getD k d):=by
 rw[Ë,Ê h];rfl
def cK{α:Type}{l:List α}{d:α}(h:k<l.length):l.getD k d∈l:=Č (fJ h)
def MM{α:Type}{enc:α->D}{l:List α}{d:α}(h:k<l.length):atI (l.map enc) (k:Int)=some (enc (l.getD k d)):=by
 refine dP ?_;rw[Ò,fJ (d:=d) h];rfl
def MN(q:Q4):D:=.tuple [.int q.1,.int q.2.1,.int q.2.2.1,.int q.2.2.2]
def Sm(x:Int):Prop:=-18446744073709551616<x/\x<18446744073709551616
def JZ(hw:Sm w):wM [MN q,.int w,.tuple [.int x,.int y,.int z]]=.ok (MN (q.1+w,q.2.1+w*x,q.2.2.1+w*y,q.2.2.2+w*z)) []:=by
 let⟨h1,h2⟩:=hw;sleep 3;rfl';unfold FE;dsimp? [MN];exact⟨by ac_nf,by ac_nf,by ac_nf⟩
def Y5{α β:Type}{f:α->D}{g:β->D}{as:List α}{bs:List β}{a0:α}{b0:β}{k:Nat}{d:D}(h:(pN (as.map f) (bs.map g))[k]?=some d):k<as.length/\k<bs.length/\d=.tuple [f (as.getD k a0),g (bs.getD k b0)]:=by
 have hi:=(Î.mp h).1;simp![pN,List.length_zipWith,Å]at hi;have h1:k<as.length:=by lia
 have h2:k<bs.length:=by lia
 refine⟨h1,h2,?_⟩;rw[pN,List.getElem?_zipWith,Ò,Ò,fJ (d:=a0) h1,fJ (d:=b0) h2]at h;simp![Option.map_some,Option.some.injEq]at h;rw[<- h]
def fR{α:Type}{f:α->D}{as:List α}{a0:α}{k:Nat}{d:D}(h:(fB (as.map f))[k]?=some d):k<as.length/\d=.tuple [.int (k:Int),f (as.getD k a0)]:=by
 have hi:=(Î.mp h).1;simp![fB,List.length_mapIdx,Å]at hi;refine⟨hi,?_⟩;rw[fB,List.getElem?_mapIdx,Ò,fJ (d:=a0) hi]at h;simp![Option.map_some,Option.some.injEq]at h;rw[<- h]
def aM0:Ŕ (.tuple (a::l)) (some 1) none=some (.tuple l):=by
 show (if HT.sIx (l.length+1) 0 (some ((1:Nat):Int))=0/\HT.sIx (l.length+1) (l.length+1) none=l.length+1 then none else some (PyData.tuple (HB (a::l) (some ((1:Nat):Int)) none)))=_;rw[HT.sIx_nat,Ã ∅];have:=sU (ds:=a::l) (k:=1) 'e';have:=PyData.list.inj (Option.some.inj this);rw[this];rfl
section
variable {own:Q4}{ss:List St}{cs:List 'n'}{ts:List Tk}{bd ap tk:D}
def MO(M:tH own ss cs ts):CN [.tuple [AK own,bd,.list (ss.map pH),tk,ap],.list (cs.map aM)]=.ok (MN (T4 (own::uC ss cs ss.length))) []:=by
 have lc:=M.lc;have ls:=M.ls;have o0:=M.o0;sleep 3;rfl';unfold vD;have e0:=JZ (q:=(0,0,0,0)) (w:=own.1) (x:=own.2.1) (y:=own.2.2.1) (z:=own.2.2.2) (by unfold Sm;lia);have z0:((0+own.1,0+own.1*own.2.1,0+own.1*own.2.2.1,0+own.1*own.2.2.2):Q4)=T4 [own]:=by simp[T4]
 rw[z0]at e0;have e0':wM [.tuple [.int 0,.int 0,.int 0,.int 0],.int own.1,.tuple [.int own.2.1,.int own.2.2.1,.int own.2.2.2]]=.ok (MN (T4 [own])) []:=e0;dsimp? [AK,WB,uV,uW,B8,aM0,e0'];refine cN (ds:=pN (ss.map pH) (cs.map aM)) (δ1:=_) (λk δ=>∃o4 o5 o6 o7 o8,δ=[some (.tuple [.tuple [.int own.1,.int own.2.1,.int own.2.2.1,.int own.2.2.2],bd,.list (ss.map pH),tk,ap]),some 'd',some (.tuple [.int own.1,.int own.2.1,.int own.2.2.1,.int own.2.2.2]),some (MN (T4 (own::uC ss cs k))),o4,o5,o6,o7,o8]) (aD5 (by dsimp? [])) ⟨_,_,_,_,_,by simp[uC];exact⟨rfl,rfl,rfl,rfl,rfl⟩⟩ ?_ ?_
 .rintro k d δ hk ⟨o4,o5,o6,o7,o8,rfl⟩
  let⟨k1,k2,rfl⟩:=Y5 (a0:=BJ) (b0:=[]) hk;have gb:=M.gb _ (cK (d:=[]) k2);refine⟨_,rfl,?_⟩;refine cN (ds:=fB ((cs.getD k []).map eJ)) (λt δ=>∃o6 o7 o8,δ=[some (.tuple [.tuple [.int own.1,.int own.2.1,.int own.2.2.1,.int own.2.2.2],bd,.list (ss.map pH),tk,ap]),some 'd',some (.tuple [.int own.1,.int own.2.1,.int own.2.2.1,.int own.2.2.2]),some (MN (T4 (own::uC ss cs k++KH (ss.getD k BJ) (cs.getD k []) t))),some (pH (ss.getD k BJ)),some (aM (cs.getD k [])),o6,o7,o8]) (j7 rfl) ⟨_,_,_,by simp[KH];exact⟨rfl,rfl,rfl⟩⟩ ?_ ?_
  .rintro t d δ ht ⟨o6,o7,o8,rfl⟩
   let⟨t1,rfl⟩:=fR (a0:=AV) ht;have gw:=gb _ (cK (d:=AV) t1);generalize hs:ss.getD k BJ=s at *;generalize hb:(cs.getD k []).getD t AV=b at *;have e1:=JZ (q:=T4 (own::uC ss cs k++KH s (cs.getD k []) t)) (w:=b.w) (x:=s.x) (y:=s.y) (z:=s.z+(t:Int)*s.t) (by unfold Sm;have:=gw.w;lia);have lb:=M.lb _ (cK (d:=[]) k2);refine⟨_,rfl,?_⟩;dsimp? [pH,eJ,e1];have eT:T4 (own::uC ss cs k++KH s (cs.getD k []) (t+1))=((T4 (own::uC ss cs k++KH s (cs.getD k []) t)).1+b.w,(T4 (own::uC ss cs k++KH s (cs.getD k []) t)).2.1+b.w*s.x,(T4 (own::uC ss cs k++KH s (cs.getD k []) t)).2.2.1+b.w*s.y,(T4 (own::uC ss cs k++KH s (cs.getD k []) t)).2.2.2+b.w*(s.z+(t:Int)*s.t)):=by
    rw[Y4,<- List.append_assoc,aD8,hb]
   rw[eT];exact⟨by ac_nf,_,_,_,rfl⟩
  .rintro δ ⟨o6,o7,o8,rfl⟩
   rw[hW,Å,JY];exact⟨_,_,_,_,_,rfl⟩
 .rintro δ ⟨o4,o5,o6,o7,o8,rfl⟩
  rw[aD6 (by simp[lc]),Å];dsimp? []
end
section
variable {own:Q4}{ss:List St}{cs:List 'n'}{ts:List Tk}
def PM:(ts.map λt=>PyData.int (f t))=(ts.map f).map PyData.int:=by simp
def FP{g:Tk->Int}(hl:ts.length<=10)(hg:∀t:Tk,atI [PyData.str t.nm,.int t.x,.int t.y,.int t.z,.int t.r] axis=some (.int (g t)))(hq:atI [PyData.int q.1,.int q.2.1,.int q.2.2.1,.int q.2.2.2] axis=some (.int qa))(hh:rT high):
  gY [.list (ts.map AJ),.int axis,.int high,MN q]=.ok (SW (ts.map λt=>g t-high,high*q.1-qa)) []:=by
 unfold rT at hh;sleep 3;rfl';unfold kK;dsimp? [];refine aU.of (cS (enc:=AJ) (xs:=ts) (g:=λt=>.int (g t-high)) (cO rfl) ∅ λt _=>?_) ?_
 .dsimp? [AJ,hg]
 .rw[PM]
  dsimp? [MN,hq,SW];exact(by ac_nf)
def Y6{g:Tk->Int}(hl:ts.length<=10)(hg:∀t:Tk,atI [PyData.str t.nm,.int t.x,.int t.y,.int t.z,.int t.r] axis=some (.int (g t)))(hq:atI [PyData.int q.1,.int q.2.1,.int q.2.2.1,.int q.2.2.2] axis=some (.int qa))(hh:rT low):
  mM [.list (ts.map AJ),.int axis,.int low,MN q]=.ok (SW (ts.map λt=>low-g t,qa-low*q.1)) []:=by
 unfold rT at hh;sleep 3;rfl';unfold mL;dsimp? [];refine aU.of (cS (enc:=AJ) (xs:=ts) (g:=λt=>.int (low-g t)) (cO rfl) ∅ λt _=>?_) ?_
 .dsimp? [AJ,hg]
 .rw[PM]
  dsimp? [MN,hq,SW];exact(by ac_nf)
structure PN where
 b0:Int
 b1:Int
 b2:Int
 b3:Int
 b4:Int
 b5:Int
structure uD(b:PN):Prop where
 b0:rT b.b0
 b1:rT b.b1
 b2:rT b.b2
 b3:rT b.b3
 b4:rT b.b4
 b5:rT b.b5
def Y7(b:PN):D:=.tuple [.int b.b0,.int b.b1,.int b.b2,.int b.b3,.int b.b4,.int b.b5]
def J1(ts:List Tk)(b:PN)(q:Q4):ZE:=
 [(ts.map λt=>t.x-b.b1,b.b1*q.1-q.2.1),(ts.map λt=>b.b0-t.x,q.2.1-b.b0*q.1),(ts.map λt=>t.y-b.b3,b.b3*q.1-q.2.2.1),(ts.map λt=>b.b2-t.y,q.2.2.1-b.b2*q.1),(ts.map λt=>t.z-b.b4,b.b4*q.1-q.2.2.2),(ts.map λ_=>1,b.b5-q.1)]
def aD9(M:tH own ss cs ts)(g:uD b):vF [.tuple [AK own,Y7 b,.list (ss.map pH),.list (ts.map AJ),ap],.list (cs.map aM)]=.ok (.list ((J1 ts b (T4 (own::uC ss cs ss.length))).map SW)) []:=by
 have lt:ts.length<=10:=Ü M.lt ⋯;have e0:=MO (bd:=Y7 b) (tk:=.list (ts.map AJ)) (ap:=ap) M;generalize T4 (own::uC ss cs ss.length)=q at *;have h1:=FP (ts:=ts) (axis:=1) (g:=λt=>t.x) (q:=q) (qa:=q.2.1) lt (λ_=>sT) sT g.b1;have h2:=Y6 (ts:=ts) (axis:=1) (g:=λt=>t.x) (q:=q) (qa:=q.2.1) lt (λ_=>sT) sT g.b0;have h3:=FP (ts:=ts) (axis:=2) (g:=λt=>t.y) (q:=q) (qa:=q.2.2.1) lt (λ_=>p9) p9 g.b3;have h4:=Y6 (ts:=ts) (axis:=2) (g:=λt=>t.y) (q:=q) (qa:=q.2.2.1) lt (λ_=>p9) p9 g.b2;have h5:=FP (ts:=ts) (axis:=3) (g:=λt=>t.z) (q:=q) (qa:=q.2.2.2) lt (λ_=>B7) B7 g.b4;sleep 3;rfl';unfold vE;dsimp? [e0];simp![Y7];dsimp? [h1,h2,h3,h4,h5];refine aU.of (cS (enc:=AJ) (xs:=ts) (g:=λ_=>.int 1) (cO rfl) ∅ λt _=>by dsimp? []) ?_;rw[PM (f:=λ_=>1)];dsimp? [MN];rfl
def MP(lt:ts.length<=10):rG [.tuple [A,B,C,.list (ts.map AJ),E]]=.ok (iL (ts.map λt=>t.r)) []:=by
 sleep 3;rfl';unfold rF;dsimp? [];refine aU.of (cS (enc:=AJ) (xs:=ts) (g:=λt=>.int t.r) (bT (by dsimp? [])) ∅ λt _=>by dsimp? [AJ]) ?_;rw[PM];exact⟨rfl,rfl⟩
end
section
variable {own:Q4}{ss:List St}{cs:List 'n'}{ts:List Tk}
def aF9(h1:-1000000000<=x)(h2:x<=1000000000):fK 30 x:=by show x.natAbs<2^30;lia
def rT.fit(h:rT x):fK 30 x:=aF9 h.1 h.2
def PP:∀l:List Q4,T4 l=((l.map λq=>q.1).sum,(l.map λq=>q.1*q.2.1).sum,(l.map λq=>q.1*q.2.2.1).sum,(l.map λq=>q.1*q.2.2.2).sum)
 |[]=>rfl
 |p::l=>by rw[T4,PP l];simp
def PQ(M:tH own ss cs ts):∀k,k<=ss.length->(uC ss cs k).length<=30*k
 |0,_=>by simp[uC]
 |k+1,hk=>by
  have ih:=PQ M k ∅;have lc:=M.lc;have lb:=M.lb _ (cK (d:=[]) (show k<cs.length by lia));rw[JY,Ñ];have:(KH (ss.getD k BJ) (cs.getD k []) (cs.getD k []).length).length=(cs.getD k []).length:=by simp[KH]
  lia
structure aQ0(p:Q4):Prop where
 w:1<=p.1/\p.1<=1000000000
 x:fK 40 p.2.1
 y:fK 40 p.2.2.1
 z:fK 40 p.2.2.2
def aJV(M:tH own ss cs ts):∀p∈own::uC ss cs ss.length,aQ0 p:=λp hp=>by
 rcases Õ.mp hp with rfl|hp
 .have:=M.o1
  exact⟨M.o0,this.1.fit.mono ⋯,this.2.1.fit.mono ⋯,this.2.2.fit.mono ⋯⟩
 .unfold uC at hp
  let⟨l,hl,hq⟩:=List.mem_flatten.mp hp;let⟨j,hj,rfl⟩:=Ö.mp hl;have hj:=List.mem_range.mp hj;unfold KH at hq;let⟨t,ht,rfl⟩:=Ö.mp hq;have ht:=List.mem_range.mp ht;have lc:=M.lc;have hc:j<cs.length:=by lia
  have gb:=M.gb _ (cK (d:=[]) hc) _ (cK (d:=AV) ht);have lb:=M.lb _ (cK (d:=[]) hc);have gs:=M.gs _ (cK (d:=BJ) hj);refine⟨gb.w,gs.x.fit.mono ⋯,gs.y.fit.mono ⋯,?_⟩;have h1:=gs.z;have h2:=gs.t;unfold rT at h1 h2;have ht':(t:Int)<=30:=by lia
  have e1:(t:Int)*(ss.getD j BJ).t<=30*1000000000:=by
   have a1:=Int.mul_le_mul_of_nonneg_left h2.2 (show (0:Int)<=(t:Int) by lia);lia
  have e2:-(30*1000000000)<=(t:Int)*(ss.getD j BJ).t:=by
   have a1:=Int.mul_le_mul_of_nonneg_left h2.1 (show (0:Int)<=(t:Int) by lia);lia
  show ((ss.getD j BJ).z+(t:Int)*(ss.getD j BJ).t).natAbs<2^40;lia
open Classical in
end
def Y8 :∀xs:ZK,(∀x∈xs,fK m x)->xs.sum.natAbs<=xs.length*2^m
 |[],_=>î _
 |x::xs,h=>by
  have h1:x.natAbs<2^m:=h x Ô;have h2:=Y8 xs λq hq=>h q (Ó _ hq);rw[List.sum_cons,Û,Nat.succ_mul];have:=Int.natAbs_add_le x xs.sum;lia
def aEA{xs:ZK}(hl:xs.length<512)(hn:m+9=n)(h:∀x∈xs,fK m x):fK n xs.sum:=by
 subst hn;have:=Y8 xs h;have h2:=Nat.two_pow_pos m;show _<2^(m+9);rw[Nat.pow_add,Nat.mul_comm];exact ę this ((Nat.mul_lt_mul_right h2).mpr hl)
section
variable {own:Q4}{ss:List St}{cs:List 'n'}{ts:List Tk}
def aJW(M:tH own ss cs ts):fK 80 (T4 (own::uC ss cs ss.length)).1/\fK 80 (T4 (own::uC ss cs ss.length)).2.1/\fK 80 (T4 (own::uC ss cs ss.length)).2.2.1/\fK 80 (T4 (own::uC ss cs ss.length)).2.2.2:=by
 have ls:=M.ls;have len:=PQ M ss.length (È _);have al:=aJV M;rw[PP];have l1:(own::uC ss cs ss.length).length<512:=by rw[Û];lia
 generalize own::uC ss cs ss.length=L at *;have w:∀p∈L,fK 30 p.1:=λp hp=>aF9 (by have:=(al p hp).w;lia) (al p hp).w.2;have main:∀f:Q4->Int,(∀p∈L,fK 71 (f p))->fK 80 (L.map f).sum:=λf hf=>aEA (m:=71) (by rw[Å];exact l1) rfl λx hx=>by
  let⟨p,hp,rfl⟩:=Ö.mp hx;exact hf p hp
 exact⟨main _ λp hp=>(w p hp).mono ⋯,main _ λp hp=>(w p hp).mul (al p hp).x ⋯,main _ λp hp=>(w p hp).mul (al p hp).y ⋯,main _ λp hp=>(w p hp).mul (al p hp).z ⋯⟩
structure W9(Ç:ZE)(Ä:ZK):Prop where
 n:Ä.length<=4
 m:Ç.length<=8
 rw:∀r∈Ç,r.1.length=Ä.length/\aF6 40 r.1/\fK 120 r.2
 ro:∀r∈Ä,0<=r/\r<=1000000000
def aEB(M:tH own ss cs ts)(g:uD b):W9 (J1 ts b (T4 (own::uC ss cs ss.length))) (ts.map λt=>t.r):=by
 let⟨f0,f1,f2,f3⟩:=aJW M;have mp:∀(h:Tk->Int),(∀t∈ts,fK 31 (h t))->aF6 40 (ts.map h):=λh hh x hx=>by
  let⟨t,ht,rfl⟩:=Ö.mp hx;exact(hh t ht).mono ⋯
 generalize T4 (own::uC ss cs ss.length)=q at *;refine⟨by rw[Å];exact M.lt,Nat.le_of_ble_eq_true rfl,λr hr=>?_,λr hr=>?_⟩
 .unfold J1 at hr
  simp![Õ,ë,or_false]at hr;rcases hr with rfl|rfl|rfl|rfl|rfl|rfl
  .exact⟨by simp,mp _ λt ht=>(M.gt t ht).x.fit.sub g.b1.fit ⋯,(g.b1.fit.mul f0 (k:=110) ⋯).sub f1 ⋯⟩
  .exact⟨by simp,mp _ λt ht=>g.b0.fit.sub (M.gt t ht).x.fit ⋯,f1.sub (g.b0.fit.mul f0 (k:=110) ⋯) ⋯⟩
  .exact⟨by simp,mp _ λt ht=>(M.gt t ht).y.fit.sub g.b3.fit ⋯,(g.b3.fit.mul f0 (k:=110) ⋯).sub f2 ⋯⟩
  .exact⟨by simp,mp _ λt ht=>g.b2.fit.sub (M.gt t ht).y.fit ⋯,f2.sub (g.b2.fit.mul f0 (k:=110) ⋯) ⋯⟩
  .exact⟨by simp,mp _ λt ht=>(M.gt t ht).z.fit.sub g.b4.fit ⋯,(g.b4.fit.mul f0 (k:=110) ⋯).sub f3 ⋯⟩
  .exact⟨by simp,mp _ λt ht=>aPH ⋯,g.b5.fit.sub f0 ⋯⟩
 .obtain⟨t,ht,rfl⟩:=Ö.mp hr
  exact(M.gt t ht).r
end
section
def W9.bnd(W:W9 Ç Ä):ė Ç Ä (2^40) (2^120)/\Sx.fac Ä.length*(2^40)^Ä.length<2^300/\(Ä.length+1)*(Sx.fac Ä.length*(2^40)^Ä.length*2^120)<2^300:=by
 have n4:=W.n;have r8:=W.m;have hh:Sx.fac Ä.length*(2^40)^Ä.length<2^300/\(Ä.length+1)*(Sx.fac Ä.length*(2^40)^Ä.length*2^120)<2^300:=by
  have:Ä.length=0\/Ä.length=1\/Ä.length=2\/Ä.length=3\/Ä.length=4:=by lia
  rcases this with h|h|h|h|h<;>rw[h]<;>decide
 have up:(2:Nat)^300<2^4000:=by decide
 refine⟨⟨λr hr=>(W.rw r hr).1,∅,∅,⋯,λr hr x hx=>É ((W.rw r hr).2.1 x hx),λr hr=>É (W.rw r hr).2.2,λx hx=>?_,Nat.lt_trans hh.1 up,Nat.lt_trans hh.2 up⟩,hh⟩;have:=W.ro x hx;have h70:(1000000000:Nat)<=2^120:=by decide
 lia
end
section
def cell(ns:ZK)(k:Int):Int:=ns.getD k.toNat 0
def FQ(h0:0<=k):jZ [iL ns,.int k]=.ok (.int (cell ns k)) []:=by
 sleep 3;rfl';unfold oB;by_cases h:k<(ns.length:Int)
 .have e:k=(k.toNat:Int):=by lia
  have e2:=aD4 (ns:=ns) (k:=k.toNat) ∅;rw[<- e]at e2;dsimp? [Å,h,decide_true,e2,cell]
 .have e:cell ns k=0:=by unfold cell;rw[Ë,ç ∅];rfl
  dsimp? [Å,h,decide_false,Bool.false_eq_true,e]
def dr(ns:ZK)(k m:Int):Int:=(cell ns k % 1000003+k*k)*48271 % 999983 % m
def ot(ns:ZK)(k m:Int):Int:=(cell ns k % 1000033+7*k+1)*69621 % 1000003 % m
def th(ns:ZK)(k m:Int):Int:=(cell ns k % 1000037+11*k+5)*16807 % 999979 % m
def iC(h:0<m):0<=dr ns k m/\dr ns k m<m:=⟨Int.emod_nonneg _ ∅,Int.emod_lt_of_pos _ h⟩
def j8(h:0<m):0<=ot ns k m/\ot ns k m<m:=⟨Int.emod_nonneg _ ∅,Int.emod_lt_of_pos _ h⟩
def lK(h:0<m):0<=th ns k m/\th ns k m<m:=⟨Int.emod_nonneg _ ∅,Int.emod_lt_of_pos _ h⟩
def mV(h0:0<=k)(h1:k<=1000)(h:0<m):c8 [iL ns,.int k,.int m]=.ok (.int (dr ns k m)) []:=by
 sleep 3;rfl';unfold zT;dsimp? [FQ h0,N6,Int.reduceLT,h,dr];exact⟨by ac_nf,by ac_nf⟩
def mW(h0:0<=k)(h1:k<=1000)(h:0<m):cG [iL ns,.int k,.int m]=.ok (.int (ot ns k m)) []:=by
 sleep 3;rfl';unfold vH;dsimp? [FQ h0,N6,Int.reduceLT,h,ot];exact⟨by ac_nf,by ac_nf⟩
def oC(h0:0<=k)(h1:k<=1000)(h:0<m):b9 [iL ns,.int k,.int m]=.ok (.int (th ns k m)) []:=by
 sleep 3;rfl';unfold vI;dsimp? [FQ h0,N6,Int.reduceLT,h,th];exact⟨by ac_nf,by ac_nf⟩
def jO(i:Int):Str:=⟨#[97+i.toNat]⟩
def Y9:∀n<26,(match fM (.str "abcdefghijklmnopqrstuvwxyz") (.int (n:Nat))with|some (.str z)=>z.cps == #[97+n]|_=>false)=true:=by decide +kernel
def wR(h0:0<=i)(h1:i<26):fM (.str "abcdefghijklmnopqrstuvwxyz") (.int i)=some (.str (jO i))/\(jO i).length=1/\PyData.strOk (jO i)=true:=by
 refine⟨?_,rfl,aD7 ∅⟩;have h:=Y9 i.toNat ∅;rw[Int.toNat_of_nonneg h0]at h;split at h
 .rename_i z e
  rw[e];unfold jO;congr 2;cases z;exact congrArg Str.mk (beq_iff_eq.mp h)
 .cases h
def nm(ns:ZK)(k n:Int):Str:=
 iT (jO (dr ns k 26)) (ot ns k (1+th ns k 8))++jO ((7*n+ot ns (k+1) 26) % 26)++iT (jO (dr ns k 26)) (1+th ns k 8-1-ot ns k (1+th ns k 8))
def J2:(jO (dr ns k 26)).length=1/\PyData.strOk (jO (dr ns k 26))=true/\(jO ((7*n+ot ns (k+1) 26) % 26)).length=1/\PyData.strOk (jO ((7*n+ot ns (k+1) 26) % 26))=true:=by
 have h1:=iC (ns:=ns) (k:=k) (m:=26) ⋯;have a:=wR h1.1 h1.2;have b:=wR (i:=(7*n+ot ns (k+1) 26) % 26) ∅ ∅;exact⟨a.2.1,a.2.2,b.2.1,b.2.2⟩
def j9:bJ (nm ns k n):=by
 let⟨a1,a2,b1,b2⟩:=J2 (ns:=ns) (k:=k) (n:=n);have h1:=lK (ns:=ns) (k:=k) (m:=8) ⋯;have h2:=j8 (ns:=ns) (k:=k) (m:=1+th ns k 8) ∅;unfold nm;refine⟨?_,AI (AI (OE a2) b2) (OE a2)⟩;rw[iA,iA,jB,jB,a1,b1];lia
def kB(h0:0<=k)(h1:k<=900)(n0:0<=n)(n1:n<=1000):gB [iL ns,.int k,.int n]=.ok (.str (nm ns k n)) []:=by
 sleep 3;rfl';unfold zU;have t1:=lK (ns:=ns) (k:=k) (m:=8) ⋯;have t2:=j8 (ns:=ns) (k:=k) (m:=1+th ns k 8) ∅;have t3:=iC (ns:=ns) (k:=k) (m:=26) ⋯;have p1:=wR t3.1 t3.2;have p2:=wR (i:=(7*n+ot ns (k+1) 26) % 26) ∅ ∅;have e1:=oC (ns:=ns) (k:=k) (m:=8) h0 ∅ ⋯;have e2:=mW (ns:=ns) (k:=k) (m:=1+th ns k 8) h0 ∅ ∅;have e3:=mV (ns:=ns) (k:=k) (m:=26) h0 ∅ ⋯;have e4:=mW (ns:=ns) (k:=k+1) (m:=26) ∅ ∅ ⋯;have en:nm ns k n=iT (jO (dr ns k 26)) (ot ns k (1+th ns k 8))++jO ((7*n+ot ns (k+1) 26) % 26)++iT (jO (dr ns k 26)) (1+th ns k 8-1-ot ns k (1+th ns k 8)):=rfl;rw[en];clear en;generalize jO (dr ns k 26)=x at *;generalize jO ((7*n+ot ns (k+1) 26) % 26)=y at *;have l1:=jB (x:=x) (n:=ot ns k (1+th ns k 8));have l2:=jB (x:=x) (n:=1+th ns k 8-1-ot ns k (1+th ns k 8));have r1:=ϸ (i:=x) (n:=ot ns k (1+th ns k 8)) ∅ ∅ ∅;have r2:=ϸ (i:=x) (n:=1+th ns k 8-1-ot ns k (1+th ns k 8)) ∅ ∅ ∅;rw[p1.2.1,Nat.mul_one]at l1 l2;have s1:=C0 (x:=iT x (ot ns k (1+th ns k 8))) (y:=y) ∅;have l3:(iT x (ot ns k (1+th ns k 8))++y).length=_:=iA;have s2:=C0 (x:=iT x (ot ns k (1+th ns k 8))++y) (y:=iT x (1+th ns k 8-1-ot ns k (1+th ns k 8))) ∅;dsimp? [e1,e2,e3,e4,p1.1,p2.1,N6,Int.reduceLT,r1,r2,s1,s2];exact(by ac_nf)
def wB(ns:ZK):Int:=if dr ns 0 4=2 then 997 else if dr ns 0 4=3 then 1000000 else 1
def rV:1<=wB ns/\wB ns<=1000000:=by
 unfold wB;split
 .decide
 .split<;>decide
def aQ1:U3 (.int 10) (.int 6)=some (.int 1000000):=by
 rw[NL (ω ∅ ∅ ⋯)];rfl
def oE:lI [iL ns]=.ok (.int (wB ns)) []:=by
 sleep 3;rfl';unfold vJ;have t:=iC (ns:=ns) (k:=0) (m:=4) ⋯;have e:atI [PyData.int 1,.int 1,.int 997,.int 1000000] (dr ns 0 4)=some (.int (wB ns)):=by
  unfold wB;have:dr ns 0 4=0\/dr ns 0 4=1\/dr ns 0 4=2\/dr ns 0 4=3:=by lia
  rcases this with z|z|z|z<;>rw[z]<;>rfl
 dsimp? [aQ1,mV,Int.reduceLE,Int.reduceLT,e]
structure uE(b:Bx):Prop where
 nm:bJ b.nm
 p:bJ b.p
 k:bJ b.k
def kd(ns:ZK)(n:Int):Int:=if th ns (20+n) 6=4 then 1 else if th ns (20+n) 6=5 then 2 else 0
def ŀ(ns:ZK)(n:Int):Int:=if wB ns*ot ns (21+n) 90>9*wB ns then wB ns*ot ns (21+n) 90+40*wB ns else wB ns*ot ns (21+n) 90
def bx(ns:ZK)(n:Int):Bx:=⟨nm ns 16 n,wB ns*(1+dr ns (20+n) 20),nm ns 17 (ot ns (20+n) 4),nm ns 18 (kd ns n),ŀ ns n⟩
def aEC:uE (bx ns n):=⟨j9,j9,j9⟩
def ZQ(n0:0<=n)(n1:n<=100):FH [iL ns,.int n]=.ok (eJ (bx ns n)) []:=by
 sleep 3;rfl';unfold FG;have s:=rV (ns:=ns);have t1:=j8 (ns:=ns) (k:=20+n) (m:=4) ⋯;have t2:=lK (ns:=ns) (k:=20+n) (m:=6) ⋯;have t3:=j8 (ns:=ns) (k:=21+n) (m:=90) ⋯;have t4:=iC (ns:=ns) (k:=20+n) (m:=20) ⋯;have e1:=mW (ns:=ns) (k:=20+n) (m:=4) ∅ ∅ ⋯;have e2:=oC (ns:=ns) (k:=20+n) (m:=6) ∅ ∅ ⋯;have e3:=mW (ns:=ns) (k:=21+n) (m:=90) ∅ ∅ ⋯;have e4:=mV (ns:=ns) (k:=20+n) (m:=20) ∅ ∅ ⋯;have ek:atI [PyData.int 0,.int 0,.int 0,.int 0,.int 1,.int 2] (th ns (20+n) 6)=some (.int (kd ns n)):=by
  unfold kd;have:th ns (20+n) 6=0\/th ns (20+n) 6=1\/th ns (20+n) 6=2\/th ns (20+n) 6=3\/th ns (20+n) 6=4\/th ns (20+n) 6=5:=by lia
  rcases this with z|z|z|z|z|z<;>rw[z]<;>rfl
 have k0:0<=kd ns n/\kd ns n<=2:=by unfold kd;split<;>(try split)<;>lia
 have n1:=kB (ns:=ns) (k:=17) (n:=ot ns (20+n) 4) ⋯ ⋯ ∅ ∅;have n2:=kB (ns:=ns) (k:=18) (n:=kd ns n) ⋯ ⋯ ∅ ∅;have n3:=kB (ns:=ns) (k:=16) (n:=n) ⋯ ⋯ ∅ ∅;by_cases c:wB ns*ot ns (21+n) 90>9*wB ns
 .have eb:ŀ ns n=wB ns*ot ns (21+n) 90+40*wB ns:=Â c
  have c':9*wB ns<wB ns*ot ns (21+n) 90:=c;dsimp? [oE,e1,e2,e3,e4,ek,n1,n2,n3,c',decide_true,eJ,bx,eb];exact⟨by ac_nf,by ac_nf,by ac_nf,by ac_nf⟩
 .have eb:ŀ ns n=wB ns*ot ns (21+n) 90:=Ã c
  have c':¬9*wB ns<wB ns*ot ns (21+n) 90:=c;dsimp? [oE,e1,e2,e3,e4,ek,n1,n2,n3,c',decide_false,Bool.false_eq_true,eJ,bx,eb];exact⟨by ac_nf,by ac_nf,by ac_nf⟩
end
end Toy
namespace L2
open PySem PySem.Spec
def aJX{i:Nat}{δ:DS}(h:δ[i]?=some (some (.list as))):ş (bF i) δ=.ok as.reverse δ:=by
 simp![ş,bB,eY h,aW]
end L2
namespace Toy
open PySem L2
def wC(cs:List 'n')(m:Nat):Prop:=∀c∈cs,c.length<=m/\∀b∈c,uE b
section
variable {p:Str}{cs:List 'n'}
def lQ(bs:List Bx)(p:Str):(List Bx):=bs.drop (bs.findIdx λb=>b.p == p)
def FR:(lQ bs p).length<=bs.length:=by unfold lQ;rw[ď];lia
def FS(h:b∈lQ bs p):b∈bs:=List.mem_of_mem_drop h
def SX(gb:∀b∈bs,uE b)(gp:bJ p):oA [aM bs,.str p]=.ok (aM (lQ bs p)) []:=by
 sleep 3;rfl';unfold jH;dsimp? [];refine cN (ds:=fB (bs.map eJ)) (δ1:=_) (λk δ=>∃o2 o3,δ=[some (aM bs),some (.str p),o2,o3]/\∀i(hi:i<bs.length),i<k->(bs[i].p == p)=false) (j7 rfl) ⟨none,none,rfl,λi hi h=>by lia⟩ ?_ ?_
 .rintro k d δ hk ⟨o2,o3,rfl,ih⟩
  let⟨k1,rfl⟩:=fR (a0:=AV) hk;have eg:bs.getD k AV=bs[k]:=by rw[Ë,Ê k1];rfl
  rw[eg];have gk:=gb _ (ý k1);refine⟨_,rfl,?_⟩;cases c:(bs[k].p == p)with
  |true=>
   have e1:bs.findIdx (λb=>b.p == p)=k:=by
    rw[List.findIdx_eq k1];exact⟨c,λj hj=>ih j ∅ hj⟩
   have e2:EF (.list (bs.map eJ)) (some (k:Int)) none=some (.list ((bs.map eJ).drop k)):=sU (by rw[Å];lia);dsimp? [eJ,qL gk.p gp,c];have e3:lQ bs p=bs.drop k:=by unfold lQ;rw[e1]
   dsimp? [WB,uV,uW,B8,aM,e2,e3,List.map_drop]
  |false=>
   dsimp? [eJ,qL gk.p gp,c];refine⟨_,_,rfl,λi hi h=>?_⟩;by_cases z:i=k
   .subst z;exact c
   .exact ih i hi ∅
 .rintro δ ⟨o2,o3,rfl,ih⟩
  rw[hW,Å]at ih;have e1:lQ bs p=[]:=by
   unfold lQ;have:bs.findIdx (λb=>b.p == p)=bs.length:=by
    rw[List.findIdx_eq_length];intro x hx;let⟨i,hi,rfl⟩:=List.mem_iff_getElem.mp hx;exact ih i hi hi
   rw[this,List.drop_length]
  dsimp? [e1,aM,List.map_nil]
structure Ŧ where
 w:Str
 s:Int
 z:Str
def eA(t:Ŧ):D:=.tuple [.str t.w,.int t.s,.str t.z]
abbrev Mv:=Ŧ×D
def F9(m:Mv):D:=.tuple [eA m.1,m.2]
def SY(s:Int)(b:Bx):Mv:=(⟨"off",s,b.nm⟩,.none)
def Ĳ(s:Int)(b:Bx):Mv:=(⟨"back",s,b.nm⟩,eJ b)
abbrev Ld:=Bx×Int
def AL(x:Ld):D:=.tuple [eJ x.1,.int x.2]
def Ł(x:Ld):Mv:=(⟨"on",x.2,x.1.nm⟩,eJ x.1)
def nP(p:Str)(b:Bx):Bool:=!(b.p == p)
def KI(bs:List Bx)(s:Int)(p:Str):(List Mv):=(lQ bs p).reverse.map (SY s)++((lQ bs p).filter (nP p)).map (Ĳ s)
def PR:(KI bs s p).length<=2*bs.length:=by
 have h1:=FR (bs:=bs) (p:=p);have h2:=List.length_filter_le (nP p) (lQ bs p);unfold KI;rw[Ñ,Å,Å,List.length_reverse];lia
def ZR(gb:∀b∈bs,uE b)(gp:bJ p)(l:bs.length<=100):lF [aM bs,.int s,.str p]=.ok (.list ((KI bs s p).map F9)) []:=by
 have hz:sizeLine=2^24:=rfl;have h1:=FR (bs:=bs) (p:=p);have h2:=List.length_filter_le (nP p) (lQ bs p);sleep 3;rfl';unfold gT;dsimp? [SX gb gp];have er:((lQ bs p).map eJ).reverse=(lQ bs p).reverse.map eJ:=by rw[List.map_reverse]
 refine aU.of (cS (enc:=eJ) (xs:=(lQ bs p).reverse) (g:=λb=>F9 (SY s b)) (by rw[<- er];exact aJX rfl) (by rw[List.length_reverse];lia) λx _=>by dsimp? [eJ,F9,SY,eA]) ?_;dsimp? [];refine aU.of (pG (enc:=eJ) (xs:=lQ bs p) (h:=nP p) (g:=λb=>F9 (Ĳ s b)) (bT (by dsimp? [aM])) ∅ (λx hx=>by
  have gx:=gb x (FS hx);dsimp? [eJ,aF8 gx.p gp,nP]) λx _=>by dsimp? [eJ,F9,Ĳ,eA]) ?_
 have em:(KI bs s p).map F9=((lQ bs p).reverse.map λb=>F9 (SY s b))++(((lQ bs p).filter (nP p)).map λb=>F9 (Ĳ s b)):=by
  unfold KI;rw[Ø,à,à];rfl
 dsimp? [uX,em];rw[Å,Å,List.length_reverse];lia
def SZ(cs:List 'n')(p:Str)(k:Nat):(List Mv):=((List.range k).map λ(j:Nat)=>KI (cs.getD j []) (j:Int) p).flatten
def uF:SZ cs p (k+1)=SZ cs p k++KI (cs.getD k []) (k:Int) p:=by
 unfold SZ;rw[List.range_succ,Ø,List.flatten_append];simp
def wS(h:∀c∈cs,c.length<=50):∀k,k<=cs.length->(SZ cs p k).length<=100*k
 |0,_=>by simp[SZ]
 |k+1,hk=>by
  rw[uF,Ñ];have h1:=wS h k ∅;have h2:=PR (bs:=cs.getD k []) (s:=(k:Int)) (p:=p);have h3:=h _ (cK (d:=[]) (show k<cs.length by lia));lia
def iP(p:Str)(ld:List Ld):D:=.tuple [.str p,.list (ld.map AL)]
def jP(cs:List 'n')(p:Str)(ld:List Ld):(List Mv):=SZ cs p cs.length++ld.map Ł
def J3(gc:wC cs 50)(gp:bJ p)(lc:cs.length<=8)(ll:ld.length<=50):mN [.list (cs.map aM),iP p ld]=.ok (.list ((jP cs p ld).map F9)) []:=by
 have hz:sizeLine=2^24:=rfl;have hl:∀c∈cs,c.length<=50:=λc hc=>(gc c hc).1;sleep 3;rfl';unfold rK;dsimp? [];refine cN (ds:=fB (cs.map aM)) (δ1:=_) (λk δ=>∃o3 o4,δ=[some 'd',some (iP p ld),some (.list ((SZ cs p k).map F9)),o3,o4]) (j7 rfl) ⟨none,none,rfl⟩ ?_ ?_
 .rintro k d δ hk ⟨o3,o4,rfl⟩
  let⟨k1,rfl⟩:=fR (a0:=[]) hk;refine⟨_,rfl,?_⟩;have g1:=gc _ (cK (d:=[]) k1);have l1:=wS (p:=p) hl k ∅;have l2:=PR (bs:=cs.getD k []) (s:=(k:Int)) (p:=p);have e1:=ZR (bs:=cs.getD k []) (s:=(k:Int)) (p:=p) g1.2 gp ∅;rw[uF,Ø];dsimp? [iP,e1,uX];refine⟨by rw[Å,Å];lia,_,_,rfl⟩
 .rintro δ ⟨o3,o4,rfl⟩
  rw[hW,Å];have l1:=wS (p:=p) hl cs.length (È _);dsimp? [];refine aU.of (pE (enc:=AL) (A:=λx=>eJ x.1) (B:=λx=>.int x.2) (xs:=ld) (g:=λx=>F9 (Ł x)) (λx=>rfl) (bT (by dsimp? [iP])) ∅ λx _=>by dsimp? [eJ,F9,Ł,eA]) ?_;have em:(jP cs p ld).map F9=(SZ cs p cs.length).map F9++ld.map λx=>F9 (Ł x):=by
   unfold jP;rw[Ø,à];rfl
  dsimp? [uX,em];rw[Å,Å];lia
def AM(gc:wC cs 50)(lc:cs.length<=8)(ll:ld.length<=50):(jP cs p ld).length<=1000:=by
 have l1:=wS (p:=p) (λc hc=>(gc c hc).1) cs.length (È _);unfold jP;rw[Ñ,Å];lia
def FT(cs:List 'n')(p:Str)(ld:List Ld):(List Ŧ):=(jP cs p ld).map Prod.fst
def ZS(gc:wC cs 50)(gp:bJ p)(lc:cs.length<=8)(ll:ld.length<=50):zI [.list (cs.map aM),iP p ld]=.ok (.list ((FT cs p ld).map eA)) []:=by
 have l1:=AM (p:=p) gc lc ll;sleep 3;rfl';unfold rM;dsimp? [];refine aU.of (pE (enc:=F9) (A:=λm=>eA m.1) (B:=λm=>m.2) (xs:=jP cs p ld) (g:=λm=>eA m.1) (λx=>rfl) (bT (by dsimp? [J3 gc gp lc ll])) ∅ λx _=>by dsimp? []) ?_;have e:(FT cs p ld).map eA=(jP cs p ld).map λm=>eA m.1:=by
  unfold FT;rw[à];rfl
 rw[e];exact⟨rfl,rfl⟩
def ŧ(t:Ŧ):Bool:=t.w == "back"
def aQ2:bJ "off":=⟨⋯,iB _⟩
def Τ:bJ "back":=⟨⋯,iB _⟩
def aP7:bJ "on":=⟨⋯,iB _⟩
def aPK(h:m∈jP cs p ld):bJ m.1.w:=by
 unfold jP at h;rcases ø.mp h with h|h
 .unfold SZ at h
  let⟨l,hl,h⟩:=List.mem_flatten.mp h;let⟨j,_,rfl⟩:=Ö.mp hl;unfold KI at h;rcases ø.mp h with h|h
  .obtain⟨b,_,rfl⟩:=Ö.mp h
   exact aQ2
  .obtain⟨b,_,rfl⟩:=Ö.mp h
   exact Τ
 .obtain⟨b,_,rfl⟩:=Ö.mp h
  exact aP7
def aM4(h:t∈FT cs p ld):bJ t.w:=by
 let⟨m,hm,rfl⟩:=Ö.mp h;exact aPK hm
def ZT(gc:wC cs 50)(gp:bJ p)(lc:cs.length<=8)(ll:ld.length<=50):rO [.list (cs.map aM),iP p ld]=.ok (.list (((FT cs p ld).filter ŧ).map λt=>.str t.z)) []:=by
 have l1:=AM (p:=p) gc lc ll;sleep 3;rfl';unfold rN;dsimp? [];refine aU.of (pG (enc:=eA) (xs:=FT cs p ld) (h:=ŧ) (g:=λt=>.str t.z) (bT (by dsimp? [ZS gc gp lc ll])) (by unfold FT;rw[Å];lia) (λt ht=>by dsimp? [eA,qL (aM4 ht) Τ,ŧ]) λt _=>by dsimp? [eA]) ?_
 exact⟨rfl,rfl⟩
end
section
variable {cs:List 'n'}
def vQ(lc:cs.length<=100):zM [.list (cs.map aM)]=.ok 'd' []:=by
 sleep 3;rfl';unfold zL;dsimp? [];refine aU.of (cS (enc:=aM) (xs:=cs) (g:=aM) (bT (by dsimp? [])) ∅ λx _=>by dsimp? [aM,N8]) ?_;dsimp? []
def ZU(s0:0<=s)(s1:s.toNat<cs.length):oJ (cs.map aM).length s=some s.toNat/\(cs.map aM)[s.toNat]?=some (.list ((cs[s.toNat]).map eJ)):=by
 refine⟨aF7 s0 (by rw[Å];lia),?_⟩;rw[Ò,Ê s1];rfl
def S0(gw:bJ w)(hw:(w == "off")=false)(lc:cs.length<=100)(s0:0<=s)(s1:s.toNat<cs.length)(l1:(cs[s.toNat]).length<=100):pA [.list (cs.map aM),.tuple [.str w,.int s,x],eJ b]=.ok (.list ((cs.set s.toNat (cs[s.toNat]++[b])).map aM)) []:=by
 have hz:sizeLine=2^24:=rfl;sleep 3;rfl';unfold lG;let⟨e1,e2⟩:=ZU s0 s1;have eh:KF [0,0,0,2] [some 'd',some (.tuple [.str w,.int s,x]),some (eJ b),some 'd']=[some 'd',some (.tuple [.str w,.int s,x]),some (eJ b),none]:=rfl;have go:bJ "off":=⟨⋯,iB _⟩;dsimp? [vQ lc,qL gw go,hw,LL,LM e1 e2,eh,qV,ER];refine⟨by rw[Å];lia,?_⟩;simp[List.map_set,aM]
def MQ(lc:cs.length<=100)(s0:0<=s)(s1:s.toNat<cs.length)(l1:cs[s.toNat]=c++[b]):pA [.list (cs.map aM),.tuple [.str "off",.int s,x],y]=.ok (.list ((cs.set s.toNat c).map aM)) []:=by
 sleep 3;rfl';unfold lG;let⟨e1,e2⟩:=ZU s0 s1;have eh:KF [0,0,0,2] [some 'd',some (.tuple [.str "off",.int s,x]),some y,some 'd']=[some 'd',some (.tuple [.str "off",.int s,x]),some y,none]:=rfl;have go:bJ "off":=⟨⋯,iB _⟩;have ep:ŝ ((cs[s.toNat]).map eJ) []=some (eJ b,c.map eJ):=by
  rw[l1];unfold ŝ;simp
 have et:("off" == ("off":Str))=true:=by decide
 dsimp? [vQ lc,qL go go,et,LL,LM e1 e2,eh,ER,ep,aI1];simp[List.map_set,aM]
end
def wT(zs:ZG):D:=.dict (zs.map λz=>(.str z,.bool true))
def aJY(zs:ZG):((zs.map λz=>((.str z,.bool true):D×D)).all λkv=>(dG kv.1).isSome)=true:=by
 rw[í];intro kv h;let⟨z,_,rfl⟩:=Ö.mp h;rfl
def ZV(z:Str):∀zs:ZG,jV (.inr z) (zs.map λz=>((.str z,.bool true):D×D))=if z∈zs then some 'j'else none
 |[]=>rfl
 |y::zs=>by
  have ih:=ZV z zs;unfold jV at ih⊢;rw[Ì,Ă];by_cases e:y=z
  .subst e
   rw[Â Ô];simp[dG]
  .have:decide (dG (PyData.str y)=some (Sum.inr z))=false:=decide_eq_false λh=>e (by cases h;rfl)
   rw[this];rw[ih];by_cases h:z∈zs
   .rw[Â h,Â (Ó _ h)]
   .rw[Ã h,Ã λq=>(Õ.mp q).elim (λq=>e q.symm) h]
def aM5:qF false (.str z) (wT zs)=some (.bool (decide (z∈zs))):=by
 unfold qF RI wT;dsimp only;rw[Â (aJY zs)];show (some (jV (.inr z) _)).map _=_;rw[ZV];by_cases h:z∈zs
 .rw[Â h,decide_eq_true h];rfl
 .rw[Ã h,decide_eq_false h];rfl
def ZW(hz:z∉zs)(hl:zs.length<=1000):yN (.str z) 'j' (wT zs)=some (wT (zs++[z])):=by
 have hs:sizeLine=16777216:=by decide
 unfold yN wT;dsimp only;show (if _ then _ else _)=_;rw[Â (by rw[Å];omega)];unfold LQ;have:((zs.map λz=>((.str z,.bool true):D×D)).any λkv=>decide (dG kv.1=some (Sum.inr z)))=false:=by
  rw[List.any_eq_false];intro kv h;let⟨y,hy,rfl⟩:=Ö.mp h;intro q;have q:=of_decide_eq_true q;cases q;exact hz hy
 rw[this,Ø];rfl
def Ĉ(c:Nat):Bool:=decide (97<=c/\c<=122)
def aM6:∀c<128,((!decide ((⟨#[c]⟩:Str).cps.toList<(Str.ofString "a").cps.toList)) && (!decide ((Str.ofString "z").cps.toList<(⟨#[c]⟩:Str).cps.toList)))=Ĉ c:=by decide +kernel
def AW(z:Str):Bool:=decide (1<=z.length/\z.length<=8) && z.cps.toList.all Ĉ
def Υ:D->D
 |.str z=>.bool (z.cps.toList.all Ĉ)
 |_=>.none
def name_ev'(hz:z.length<=100)(hs:∀c∈z.cps.toList,c<128):gS [.str z]=.ok (.bool (AW z)) []:=by
 have hl:lZ [.str z]=some (.int z.length):=VF rfl (Ü hz ⋯);have hc:∀δ:DS,eD 1 (setN 0) (xN (bF 0)) eE (iH Ħ Ħ (dC (.str "a")) (bF 0) (dC (.str "z"))) (some (.str z)::δ)=.ok (.list (z.cps.toList.map λc=>.bool (Ĉ c))) (some (.str z)::δ):=λδ=>by
  have hg:∀d∈mU z,(iH Ħ Ħ (dC (.str "a")) (bF 0) (dC (.str "z"))) (some d::some (.str z)::δ)=.ok (Υ d) (some d::some (.str z)::δ):=λd hd=>by
   unfold mU at hd;let⟨c,hc,rfl⟩:=Ö.mp hd;have:=aM6 c (hs c hc);simp![iH,dC,aW,bF,List.getElem?_cons_zero,Ħ,Υ,List.all_cons,List.all_nil,Bool.and_true];cases h1:(!decide ((⟨#[c]⟩:Str).cps.toList<(Str.ofString "a").cps.toList))with
   |true=>rw[h1,Bool.true_and]at this;rw[this]
   |false=>rw[h1,Bool.false_and]at this;rw[<- this]
  have:=B4 (f:=xN (bF 0)) (δ:=some (.str z)::δ) (δ1:=some (.str z)::δ) (ds:=mU z) (by simp[xN,bF,Res.bind]) hg (by unfold mU;rw[Å];exact Ü hz ⋯)
  rw[this];unfold mU;rw[à];congr 2;apply List.map_congr_left;intro c _;simp[Υ]
 have ha:Α [.list (z.cps.toList.map λc=>.bool (Ĉ c))]=some (.bool (z.cps.toList.all Ĉ)):=by
  show (sQ _).map _=_;rw[PB];simp
 have hsi:gE .str (.str z)=some 'j':=rfl;have hni:p6 (dB (sM (gE .str) (bF 0))) [some (.str z)]=.ok false [some (.str z)]:=VH (b:=true) (NP (aH1 (eY rfl) hsi));have e0:oZ [some (.str z)]=.ok (.ret (.bool (AW z))) [some (.str z)]:=by
  unfold oZ;rw[NO (δ1:=[some (.str z)]) (by rw[VG (δ1:=[some (.str z)]) hni];rfl)];refine NQ ?_;have hlen:KC lZ [bF 0] [some (.str z)]=.ok (.int z.length) [some (.str z)]:=EI (eY rfl) hl;unfold AW;by_cases h:1<=z.length/\z.length<=8
  .rw[aB1 (δ1:=[some (.str z)]),decide_eq_true h,Bool.true_and]
   .exact EI (hc []) ha
   .simp![iH,v2,aW,hlen,ĭ,Ć]
    rw[decide_eq_true (show (1:Int)<=z.length by lia),decide_eq_true (show (z.length:Int)<=8 by lia)]
  .rw[aB2 (δ1:=[some (.str z)]),decide_eq_false h,Bool.false_and]
   simp![iH,v2,aW,hlen,ĭ,Ć];by_cases h1:(1:Int)<=z.length
   .rw[decide_eq_true h1,decide_eq_false (show ¬(z.length:Int)<=8 by lia)]
   .rw[decide_eq_false h1]
 show (match oZ [some (.str z)]with|_=>_)=_;unfold gS aR;simp[e0,fX]
def AN{i:Int}(_:0<=i)(_:i<26):jO i=⟨#[97+i.toNat]⟩:=rfl
def PU{x y:Str}(hx:x.cps.toList.all p=true)(hy:y.cps.toList.all p=true):(x++y).cps.toList.all p=true:=by
 show ((x.cps++y.cps).toList).all p=true;rw[Array.toList_append,List.all_append,hx,hy];rfl
def PV(hx:x.toList.all p=true):∀(n:Nat)(a:Array Nat),a.toList.all p=true->((List.replicate n x).foldl (·++·) a).toList.all p=true
 |0,_,h=>h
 |n+1,a,h=>by
  rw[List.replicate_succ,List.foldl_cons];exact PV hx n _ (by rw[Array.toList_append,List.all_append,h,hx];rfl)
def ZX(h0:0<=i)(h1:i<26):(jO i).cps.toList.all Ĉ=true:=by
 rw[AN h0 h1];simp![List.all_cons,List.all_nil,Bool.and_true,Ĉ];exact decide_eq_true ∅
section
def rW:AW (nm ns k n)=true:=by
 let⟨a1,a2,b1,b2⟩:=J2 (ns:=ns) (k:=k) (n:=n);have h1:=lK (ns:=ns) (k:=k) (m:=8) ⋯;have h2:=j8 (ns:=ns) (k:=k) (m:=1+th ns k 8) ∅;have h3:=iC (ns:=ns) (k:=k) (m:=26) ⋯;have e1:=ZX h3.1 h3.2;have e2:=ZX (i:=(7*n+ot ns (k+1) 26) % 26) ∅ ∅;have r:∀j,(iT (jO (dr ns k 26)) j).cps.toList.all Ĉ=true:=λj=>PV e1 _ _ rfl;have l:(nm ns k n).length=_:=iA;rw[iA,jB,jB,a1,b1]at l;unfold AW;rw[decide_eq_true ∅,show (nm ns k n).cps.toList.all Ĉ=true from PU (PU (r _) e2) (r _)];rfl
def wU(h:AW z=true):z.length<=100/\∀c∈z.cps.toList,c<128:=by
 unfold AW at h;rw[æ,decide_eq_true_eq,í]at h;refine⟨∅,λc hc=>?_⟩;have:=of_decide_eq_true (h.2 c hc);lia
def ZY(n0:0<=n)(n1:n<26)(m0:0<=m)(m1:m<26)(h:nm ns k n=nm ns k m):n=m:=by
 have cv:(nm ns k n).cps.toList=(nm ns k m).cps.toList:=by rw[h]
 have e:∀j,(nm ns k j).cps.toList=(iT (jO (dr ns k 26)) (ot ns k (1+th ns k 8))).cps.toList++(jO ((7*j+ot ns (k+1) 26) % 26)).cps.toList++(iT (jO (dr ns k 26)) (1+th ns k 8-1-ot ns k (1+th ns k 8))).cps.toList:=λj=>by
  show ((_++_:Array Nat)++_).toList=_;rw[Array.toList_append,Array.toList_append]
 rw[e,e]at cv;have cv:=List.append_cancel_left (List.append_cancel_right cv);rw[AN ∅ ∅,AN ∅ ∅]at cv;have cv:97+((7*n+ot ns (k+1) 26) % 26).toNat=97+((7*m+ot ns (k+1) 26) % 26).toNat:=(List.cons.inj cv).1;clear e h;generalize ot ns (k+1) 26=c at *;have q:(7*n+c) % 26=(7*m+c) % 26:=by lia
 have h1:7*(n-m)=26*((7*n+c)/26-(7*m+c)/26):=by lia
 generalize (7*n+c)/26-(7*m+c)/26=t at *;have h2:n-m=26*(15*t-4*(n-m)):=by lia
 generalize 15*t-4*(n-m)=u at *;lia
end
end Toy
namespace L2
open PySem PySem.Spec
def PX{α:Type}{enc:α->D}{P:α->Prop}(x0:α){f e:M D}{δ:DS}{n:Int}{Q:D->ZO}(hf:aU f δ λa δ1=>a=.int n/\δ1=δ)(h0:0<=n)(h1:n<=1000)(he:∀k:Nat,(k:Int)<n->∃x,P x/\aU e (some (.int k)::δ) λa δ1=>a=enc x/\δ1=some (.int k)::δ)(hq:∀xs:List α,(xs.length:Int)=n->(∀x∈xs,P x)->Q (.list (xs.map enc)) δ):aU (eD 1 (setN 0) (pM [f]) eE e) δ Q:=by
 obtain⟨c,hc⟩:∃c:Nat->α,∀k:Nat,(k:Int)<n->P (c k)/\aU e (some (.int k)::δ) λa δ1=>a=enc (c k)/\δ1=some (.int k)::δ:=⟨λk=>open Classical in if h:(k:Int)<n then (he k h).choose else x0,λk hk=>by
  dsimp only;rw[dif_pos hk];exact(he k hk).choose_spec⟩
 have:=xV (f:=f) (e:=e) (δ:=δ) (n:=n) (g:=λk=>enc (c k)) (c6 hf) h0 ∅ λk hk=>(hc k hk).2;refine aU.of this ?_;have q:=hq ((List.range n.toNat).map c) (by simp;lia) λx hx=>by
  let⟨k,hk,rfl⟩:=Ö.mp hx;exact(hc k (by have:=List.mem_range.mp hk;lia)).1
 rw[à]at q;exact q
end L2
namespace Toy
open PySem L2
structure Ap where
 x:Str
 y:Str
 n:Int
def Ġ(a:Ap):D:=.tuple [.str a.x,.str a.y,.int a.n]
abbrev pJ(own:Q4)(b:PN)(ss:List St)(ts:List Tk)(as:List Ap):D:=.tuple [AK own,Y7 b,.list (ss.map pH),.list (ts.map AJ),.list (as.map Ġ)]
structure Ę(own:Q4)(b:PN)(ss:List St)(ts:List Tk)(as:List Ap):Prop where
 o0:1<=own.1/\own.1<=1000000000
 o1:rT own.2.1/\rT own.2.2.1/\rT own.2.2.2
 b:uD b
 ls:1<=ss.length/\ss.length<=4
 lt:ts.length<=3
 la:as.length<=3
 gs:∀s∈ss,FN s
 gt:∀t∈ts,FO t
 ga:∀a∈as,bJ a.x/\bJ a.y
def oF{α:Type}{P:α->Prop}{l:List α}{x:α}(h:∀y∈l,P y)(hx:P x):∀y∈l++[x],P y:=λy hy=>by
 rcases ø.mp hy with z|z
 .exact h y z
 .rw[ò.mp z]
  exact hx
section
def fS(h0:-1000<=x)(h1:x<=1000):rT x:=⟨∅,∅⟩
def AO(h0:0<=x)(h1:x<=m)(hm:m<=1000):0<=wB ns*x/\wB ns*x<=1000000000:=by
 have s:=rV (ns:=ns);have a:=Int.mul_nonneg (show 0<=wB ns by lia) h0;have b:=Int.mul_le_mul s.2 (show x<=1000 by lia) h0 ⋯;exact⟨a,∅⟩
def PY(h:1<=x):1<=wB ns*x:=Int.mul_pos (a:=wB ns) (b:=x) (by have:=rV (ns:=ns);lia) h
def aM7(n0:0<=n)(n1:n<=100):∃d,CU [iL ns,.int n]=.ok d []/\∃s,d=pH s/\FN s:=by
 refine k6 ?_;rfl';unfold vK;have s:=rV (ns:=ns);have e1:=λm(h:0<m)=>mV (ns:=ns) (k:=2+n) (m:=m) ∅ ∅ h;have e2:=λm(h:0<m)=>mW (ns:=ns) (k:=2+n) (m:=m) ∅ ∅ h;have e3:=λm(h:0<m)=>oC (ns:=ns) (k:=6+n) (m:=m) ∅ ∅ h;have e4:=λm(h:0<m)=>mW (ns:=ns) (k:=6+n) (m:=m) ∅ ∅ h;have e5:=λm(h:0<m)=>oC (ns:=ns) (k:=2+n) (m:=m) ∅ ∅ h;have e6:=λm(h:0<m)=>mV (ns:=ns) (k:=6+n) (m:=m) ∅ ∅ h;have n3:=kB (ns:=ns) (k:=14) (n:=n) ⋯ ⋯ ∅ ∅;have l1:=iC (ns:=ns) (k:=2+n) (m:=21) ⋯;have l2:=j8 (ns:=ns) (k:=2+n) (m:=21) ⋯;have l3:=lK (ns:=ns) (k:=2+n) (m:=5) ⋯;have l4:=iC (ns:=ns) (k:=6+n) (m:=3) ⋯;dsimp? [oE,e1,e2,e3,e4,e5,e6,n3,Int.reduceLT];exact⟨by ac_nf,⟨_,_,_,_,_,_,_⟩,rfl,j9,fS ∅ ∅,fS ∅ ∅,fS ∅ ∅,fS ∅ ∅⟩
def aM8(n0:0<=n)(n1:n<=100):∃d,JF [iL ns,.int n]=.ok d []/\∃t,d=AJ t/\FO t:=by
 refine k6 ?_;rfl';unfold zV;have s:=rV (ns:=ns);have e1:=λm(h:0<m)=>mV (ns:=ns) (k:=10+n) (m:=m) ∅ ∅ h;have e2:=λm(h:0<m)=>mW (ns:=ns) (k:=10+n) (m:=m) ∅ ∅ h;have e5:=λm(h:0<m)=>oC (ns:=ns) (k:=10+n) (m:=m) ∅ ∅ h;have e6:=λm(h:0<m)=>mV (ns:=ns) (k:=13+n) (m:=m) ∅ ∅ h;have n3:=kB (ns:=ns) (k:=15) (n:=n) ⋯ ⋯ ∅ ∅;have l1:=iC (ns:=ns) (k:=10+n) (m:=81) ⋯;have l2:=j8 (ns:=ns) (k:=10+n) (m:=81) ⋯;have l3:=lK (ns:=ns) (k:=10+n) (m:=5) ⋯;have l4:=iC (ns:=ns) (k:=13+n) (m:=60) ⋯;dsimp? [oE,e1,e2,e5,e6,n3,Int.reduceLT];exact⟨by ac_nf,⟨_,_,_,_,_⟩,rfl,j9,fS ∅ ∅,fS ∅ ∅,fS ∅ ∅,AO ∅ ∅ (Int.le_refl _)⟩
def aEF:∃r,JH [iL ns]=.ok r []/\∃own b ss ts as,r=pJ own b ss ts as/\Ę own b ss ts as:=by
 refine k6 ?_;rfl';unfold zW;have hz:sizeLine=2^24:=rfl;have s:=rV (ns:=ns);have q1:=iC (ns:=ns) (k:=1) (m:=4) ⋯;have q2:=j8 (ns:=ns) (k:=1) (m:=4) ⋯;have q3:=lK (ns:=ns) (k:=1) (m:=5) ⋯;have d0:=iC (ns:=ns) (k:=13) (m:=80) ⋯;have d1:=j8 (ns:=ns) (k:=13) (m:=7) ⋯;have d2:=lK (ns:=ns) (k:=13) (m:=5) ⋯;have d3:=lK (ns:=ns) (k:=14) (m:=6) ⋯;have d4:=lK (ns:=ns) (k:=15) (m:=6) ⋯;have d5:=iC (ns:=ns) (k:=15) (m:=2) ⋯;have d6:=lK (ns:=ns) (k:=0) (m:=9) ⋯;have d7:=j8 (ns:=ns) (k:=0) (m:=200) ⋯;rw[L2.seq_assoc,L2.seq_assoc,L2.seq_assoc,L2.seq_assoc,L2.seq_assoc];refine vO (λδ=>∃(own:Q4)(b:PN)(o1 o3 o4 o5:ZL),((1<=own.1/\own.1<=1000000000)/\(rT own.2.1/\rT own.2.2.1/\rT own.2.2.2)/\uD b)/\δ=[some (iL ns),o1,some (AK own),o3,o4,o5,some (Y7 b),none,none,none,none,none,none]) ?_ ?_
 .refine kQ λK _ _ _ hK _=>?_
  dsimp? [oE,mV,mW,oC,Int.reduceLE,Int.reduceLT];exact⟨by ac_nf,by ac_nf,hK _ ⟨(_,_,_,_),⟨_,_,_,_,_,_⟩,_,_,_,_,⟨⟨PY ∅,(AO ∅ ∅ (m:=120) ⋯).2⟩,⟨fS ∅ ∅,fS ∅ ∅,fS (x:=2) ⋯ ⋯⟩,fS ∅ ∅,fS ∅ ∅,fS ∅ ∅,fS ∅ ∅,fS ∅ ∅,by have:=AO (ns:=ns) (x:=120+ot ns 0 200) (m:=320) ∅ ∅ ⋯;exact⟨by dsimp only;lia,this.2⟩⟩,rfl⟩⟩
 rintro δ ⟨own,b,o1,o3,o4,o5,ho,rfl⟩;dsimp? [];refine PX (enc:=pH) (P:=FN) BJ (n:=1+dr ns 1 4) (by dsimp? [mV,Int.reduceLE,Int.reduceLT]) ∅ ∅ (λk hk=>?_) λss ls gs=>?_
 .obtain⟨d,ed,t,rfl,g⟩:=aM7 (ns:=ns) (n:=(k:Int)) ∅ ∅
  exact⟨t,g,by dsimp? [ed]⟩
 dsimp? [];refine PX (enc:=AJ) (P:=FO) aQZ (n:=ot ns 1 4) (by dsimp? [mW,Int.reduceLE,Int.reduceLT]) ∅ ∅ (λk hk=>?_) λts lt gt=>?_
 .obtain⟨d,ed,t,rfl,g⟩:=aM8 (ns:=ns) (n:=(k:Int)) ∅ ∅
  exact⟨t,g,by dsimp? [ed]⟩
 dsimp? [];obtain⟨r,er,r0,r1⟩:∃r:Int,atI [PyData.int 0,.int 0,.int 0,.int 1,.int 2] (th ns 1 5)=some (.int r)/\0<=r/\r<=2:=by
  have:th ns 1 5=0\/th ns 1 5=1\/th ns 1 5=2\/th ns 1 5=3\/th ns 1 5=4:=by lia
  rcases this with z|z|z|z|z<;>rw[z]<;>exact⟨_,rfl,⋯,⋯⟩
 refine wI (j:=r) (δ1:=_) (λk δ=>∃(as:List Ap)(p1 p2 p3:ZL),δ=[some (iL ns),o1,some (AK own),o3,o4,o5,some (Y7 b),some (.list (ss.map pH)),some (.list (ts.map AJ)),some (.list (as.map Ġ)),p1,p2,p3]/\as.length=k/\∀a∈as,bJ a.x/\bJ a.y) (d9 (by dsimp? [oC,Int.reduceLE,Int.reduceLT,er];rfl)) ∅ ∅ ⟨[],none,none,none,rfl,rfl,λa ha=>by cases ha⟩ ?_ ?_
 .rintro k δ hk ⟨as,p1,p2,p3,rfl,la,ga⟩
  refine⟨_,rfl,?_⟩;refine kQ λK _ _ _ hK _=>?_;have d1:=iC (ns:=ns) (k:=17+(k:Int)) (m:=3) ⋯;have d2:=j8 (ns:=ns) (k:=17+(k:Int)) (m:=3) ⋯;have e1:=mV (ns:=ns) (k:=17+(k:Int)) (m:=3) ∅ ∅ ⋯;have e2:=mW (ns:=ns) (k:=17+(k:Int)) (m:=3) ∅ ∅ ⋯;have e3:=oC (ns:=ns) (k:=17+(k:Int)) (m:=9) ∅ ∅ ⋯;have n1:=kB (ns:=ns) (k:=18) (n:=dr ns (17+(k:Int)) 3) ⋯ ⋯ ∅ ∅;have n2:=kB (ns:=ns) (k:=18) (n:=ot ns (17+(k:Int)) 3) ⋯ ⋯ ∅ ∅;dsimp? [e1,e2,e3,n1,n2,Å];exact⟨∅,hK _ ⟨as++[⟨_,_,_⟩],_,_,_,by rw[Ø];rfl,by rw[Ñ,la];rfl,oF ga ⟨j9,j9⟩⟩⟩
 .rintro δ ⟨as,p1,p2,p3,rfl,la,ga⟩
  dsimp? [];exact⟨own,b,ss,ts,as,rfl,ho.1,ho.2.1,ho.2.2,∅,∅,∅,gs,gt,ga⟩
end
def aP8(ha:Sh 1 (.str a))(hb:Sh 1 (.str b))(hp:Sh 1 (.str p))(hq:Sh 1 (.str q)):∃r:Bool,ļ (.tuple [.str p,.str q]) (.tuple [.tuple [.str a,.str b],.tuple [.str b,.str a]])=some (.bool r):=by
 have s:∀{x y:Str},Sh 1 (.str x)->Sh 1 (.str y)->Sh 2 (.tuple [.str x,.str y]):=λhx hy=>WA λd hd=>by
  simp![Õ,ë,or_false]at hd;rcases hd with rfl|rfl<;>assumption
 have h1:=(s hp hq).shaped ⋯;have h2:SeqAt.shaped (.tuple [.tuple [.str a,.str b],.tuple [.str b,.str a]])=true:=Sh.shaped (k:=3) (WA λx hx=>by
  simp![Õ,ë,or_false]at hx;rcases hx with rfl|rfl
  .exact s ha hb
  .exact s hb ha) ⋯
 unfold ļ;simp![wJ];rw[Â ⟨h1,h2⟩];exact⟨_,rfl⟩
def S1(h:∃r,aR m [] 0 u ds=.ok r []/\∃L,r=.list L):∃L,aR m [] 0 u ds=.ok (.list L) []:=by
 let⟨r,e,L,rfl⟩:=h;exact⟨L,e⟩
def MR(hl:bs.length<=100):∃r,jX [pH st,.int s,aM bs]=.ok r []/\∃L,r=.list L/\L.length<=bs.length+2:=by
 have e24:sizeLine=2^24:=rfl;refine k6 ?_;rfl';unfold f9;rw[L2.seq_assoc,L2.seq_assoc,L2.seq_assoc];refine vO (λδ=>∃(L:ZI)(w:Int),L.length<=2/\δ=[some (pH st),some (.int s),some (aM bs),some (.list L),some (.int w),none,none]) ?_ ?_
 .dsimp? []
  refine aU.of (cS (enc:=eJ) (xs:=bs) (g:=λb=>.int b.w) (cO rfl) ∅ λb _=>by dsimp? [eJ]) ?_;have es:ŕ [.list (bs.map λb=>PyData.int b.w)]=some (.int (bs.map λb=>b.w).sum):=by
   rw[show (bs.map λb=>PyData.int b.w)=(bs.map λb=>b.w).map PyData.int by simp,aL3]
  have eb:aM bs=.list (bs.map eJ):=rfl;generalize (bs.map λb=>b.w).sum=W at *;by_cases c1:st.h<(bs.length:Int)<;>by_cases c2:st.m<W
  .dsimp? [es,pH,eb,Å,c1,c2,decide_true,List.nil_append]
   exact⟨∅,∅,_,_,by simp,rfl⟩
  .dsimp? [es,pH,eb,Å,c1,c2,decide_true,decide_false,Bool.false_eq_true,List.nil_append]
   exact⟨∅,_,_,by simp,rfl⟩
  .dsimp? [es,pH,eb,Å,c1,c2,decide_true,decide_false,Bool.false_eq_true,List.nil_append]
   exact⟨∅,_,_,by simp,rfl⟩
  .dsimp? [es,pH,eb,Å,c1,c2,decide_false,Bool.false_eq_true]
   exact⟨_,_,by simp,rfl⟩
 rintro _ ⟨L,w,lL,rfl⟩;refine vO (λδ=>∃(L:ZI)(o4 o5 o6:ZL),L.length<=bs.length+2/\δ=[some (pH st),some (.int s),some (aM bs),some (.list L),o4,o5,o6]) ?_ ?_
 .refine cN (ds:=fB (bs.map eJ)) (δ1:=_) (λt δ=>∃(L:ZI)(w:Int)(o5 o6:ZL),L.length<=t+2/\δ=[some (pH st),some (.int s),some (aM bs),some (.list L),some (.int w),o5,o6]) (j7 rfl) ⟨L,w,none,none,∅,rfl⟩ ?_ ?_
  .rintro t d δ ht ⟨L,w,o5,o6,lL,rfl⟩
   let⟨t1,rfl⟩:=fR (a0:=AV) ht;refine⟨_,rfl,?_⟩;generalize bs.getD t AV=bt at *;by_cases c:bt.b<w-bt.w
   .dsimp? [eJ,c,decide_true]
    exact⟨∅,_,_,_,_,by rw[Ñ,ó];lia,rfl⟩
   .dsimp? [eJ,c,decide_false,Bool.false_eq_true]
    exact⟨_,_,_,_,∅,rfl⟩
  .rintro δ ⟨L,w,o5,o6,lL,rfl⟩
   rw[hW,Å]at lL;exact⟨L,_,_,_,lL,rfl⟩
 rintro _ ⟨L,o4,o5,o6,lL,rfl⟩;dsimp? [];exact lL
section
variable {own:Q4}{b:PN}{ss:List St}{cs:List 'n'}{ts:List Tk}{as:List Ap}
def ZZ(la:as.length<=10)(ga:∀a∈as,bJ a.x/\bJ a.y)(hx:bJ x)(hy:bJ y):∃r,I8 [pJ own b ss ts as,.str x,.str y]=.ok r []/\∃n:Int,r=.int n:=by
 refine k6 ?_;rfl';unfold zF;have i4:fM (pJ own b ss ts as) (.int 4)=some (.list (as.map Ġ)):=rfl;have ct:∀x y z:D,Ŕ (.tuple [x,y,z]) none (some 2)=some (.tuple [x,y]):=λ_ _ _=>rfl;obtain⟨h,hh⟩:∃h:Ap->Bool,∀a∈as,ļ (.tuple [.str a.x,.str a.y]) (.tuple [.tuple [.str x,.str y],.tuple [.str y,.str x]])=some (.bool (h a)):=by
  refine⟨λa=>open Classical in if q:a∈as then (aP8 hx.sh hy.sh (ga a q).1.sh (ga a q).2.sh).choose else false,λa q=>?_⟩;dsimp only;rw[dif_pos q];exact(aP8 hx.sh hy.sh (ga a q).1.sh (ga a q).2.sh).choose_spec
 have em:∃n:Int,OA (.list ((as.filter h).map λr=>PyData.int r.n)) (.int 0)=some (.int n):=by
  rw[show ((as.filter h).map λr=>PyData.int r.n)=((as.filter h).map λr=>r.n).map PyData.int by simp];refine⟨(f8 none ((as.filter h).map λr=>r.n)).getD 0,?_⟩;show (cQ _).map _=_;rw[i7];rfl
 let⟨n,em⟩:=em;generalize pJ own b ss ts as=sh at *;dsimp? [aIW];refine aU.of (pG (enc:=Ġ) (xs:=as) (h:=h) (g:=λr=>.int r.n) (bT (by dsimp? [i4])) ∅ (λr hr=>?_) λr hr=>by dsimp? [Ġ]) ?_
 .dsimp? [Ġ,WB,uV,uW,B8,ct,hh r hr]
 .dsimp? [em]
  exact⟨n,rfl⟩
def Z0(hi:i<ss.length)(hj:j<ss.length):∃n:Int,zE [pJ own b ss ts as,.int i,.int j]=.ok (.int n) []:=by
 refine⟨(((ss.getD i BJ).x-(ss.getD j BJ).x).natAbs:Int)+(((ss.getD i BJ).y-(ss.getD j BJ).y).natAbs:Int),aQ (os:=[]) ?_⟩;rfl';unfold rH;dsimp? [MM (enc:=pH) (l:=ss) (d:=BJ) hi,MM (enc:=pH) (l:=ss) (d:=BJ) hj,pH]
def Φ(n:Nat)(d:D):Prop:=∃(i j:Nat)(z:Str),i<n/\bJ z/\d=.tuple [.int i,.int j,.str z]
def S3(lc:cs.length<=10)(gc:∀c∈cs,c.length<=30/\∀b∈c,uE b):∃r,n5 [.list (cs.map aM)]=.ok r []/\∃P,r=.list P/\P.length<=300/\∀d∈P,Φ cs.length d:=by
 have e24:sizeLine=2^24:=rfl;refine k6 ?_;rfl';unfold jF;dsimp? [];refine cN (ds:=fB (cs.map aM)) (δ1:=_) (λk δ=>∃P o2 o3 o4 o5,δ=[some 'd',some (.list P),o2,o3,o4,o5]/\P.length<=30*k/\∀d∈P,Φ cs.length d) (j7 rfl) ⟨[],_,_,_,_,rfl,by simp,by simp⟩ ?_ ?_
 .rintro k d δ hk ⟨P,o2,o3,o4,o5,rfl,lP,gP⟩
  let⟨k1,rfl⟩:=fR (a0:=[]) hk;let⟨lb1,gb1⟩:=gc _ (cK (d:=[]) k1);refine⟨_,rfl,?_⟩;generalize cs.getD k []=bs at *;refine cN (ds:=fB (bs.map eJ)) (δ1:=_) (λt δ=>∃P o4 o5,δ=[some 'd',some (.list P),some (.int k),some (aM bs),o4,o5]/\P.length<=30*k+t/\∀d∈P,Φ cs.length d) (j7 rfl) ⟨P,_,_,rfl,∅,gP⟩ ?_ ?_
  .rintro t d δ ht ⟨P,o4,o5,rfl,lP,gP⟩
   let⟨t1,rfl⟩:=fR (a0:=AV) ht;have gk:=(gb1 _ (cK (d:=AV) t1)).k;refine⟨_,rfl,?_⟩;generalize bs.getD t AV=bt at *;dsimp? [eJ];refine⟨∅,_,_,_,rfl,by rw[Ñ,ó];lia,oF gP ⟨k,t,_,k1,gk,rfl⟩⟩
  .rintro δ ⟨P,o4,o5,rfl,lP,gP⟩
   rw[hW,Å]at lP;exact⟨P,_,_,_,_,rfl,∅,gP⟩
 .rintro δ ⟨P,o2,o3,o4,o5,rfl,lP,gP⟩
  rw[hW,Å]at lP;dsimp? [];exact⟨∅,gP⟩
def J4(la:as.length<=10)(ga:∀a∈as,bJ a.x/\bJ a.y)(ls:cs.length=ss.length)(lc:cs.length<=10)(gc:∀c∈cs,c.length<=30/\∀b∈c,uE b):∃r,n8 [pJ own b ss ts as,.list (cs.map aM)]=.ok r []/\∃L,r=.list L/\L.length<=90000:=by
 have e24:sizeLine=2^24:=rfl;let⟨r,eP,P,rfl,lP,gP⟩:=S3 lc gc;have fs:=λ(x y:Str)hx hy=>ZZ (own:=own) (b:=b) (ss:=ss) (ts:=ts) (as:=as) (x:=x) (y:=y) la ga hx hy;have ap:=λ(i j:Nat)hi hj=>Z0 (own:=own) (b:=b) (ss:=ss) (ts:=ts) (as:=as) (i:=i) (j:=j) hi hj;generalize pJ own b ss ts as=sh at *;refine k6 ?_;rfl';unfold jG;dsimp? [eP];refine cN (ds:=fB P) (δ1:=_) (λk δ=>∃L o4 o5 o6,L.length<=300*k/\δ=[some sh,some 'd',some (.list L),some (.list P),o4,o5,o6]) (j7 rfl) ⟨[],_,_,_,by simp,rfl⟩ ?_ ?_
 .rintro k d δ hk ⟨L,o4,o5,o6,lL,rfl⟩
  have eid:P=P.map id:=by simp
  rw[eid]at hk;let⟨k1,rfl⟩:=fR (a0:=.none) hk;refine⟨_,rfl,?_⟩;let⟨i,j,z,hi,gz,e1⟩:=gP _ (cK (d:=.none) k1);simp![id,e1];have ct:EF (.list P) (some ((k:Int)+1)) none=some (.list (P.drop (k+1))):=sU (k:=k+1) ∅;refine cN (ds:=P.drop (k+1)) (δ1:=_) (λt δ=>∃L o6,L.length<=300*k+t/\δ=[some sh,some 'd',some (.list L),some (.list P),some (.int k),some (.tuple [.int i,.int j,.str z]),o6]) (bT (by dsimp? [WB,uV,uW,B8,ct])) ⟨L,_,∅,rfl⟩ ?_ ?_
  .rintro t d δ ht ⟨L,o6,lL,rfl⟩
   have ht1:=(Î.mp ht).1;rw[ď]at ht1;let⟨i2,j2,z2,hi2,gz2,rfl⟩:=gP d (List.mem_of_mem_drop (Č ht));refine⟨_,rfl,?_⟩;let⟨n,en⟩:=ap i i2 ∅ ∅;let⟨_,ef,m,rfl⟩:=fs z z2 gz gz2;by_cases c:n<m
   .dsimp? [ef,en,c,decide_true]
    exact⟨∅,_,_,by rw[Ñ,ó];lia,rfl⟩
   .dsimp? [ef,en,c,decide_false,Bool.false_eq_true]
    exact⟨_,_,∅,rfl⟩
  .rintro δ ⟨L,o6,lL,rfl⟩
   rw[ď]at lL;exact⟨L,_,_,_,∅,rfl⟩
 .rintro δ ⟨L,o4,o5,o6,lL,rfl⟩
  rw[hW]at lL;dsimp? [];lia
def J5(la:as.length<=10)(ga:∀a∈as,bJ a.x/\bJ a.y)(ls:cs.length=ss.length)(lc:cs.length<=10)(gc:∀c∈cs,c.length<=30/\∀b∈c,uE b):∃L,JA [pJ own b ss ts as,.list (cs.map aM)]=.ok (.list L) []:=by
 have e24:sizeLine=2^24:=rfl;let⟨r,ea,A,rfl,lA⟩:=J4 (own:=own) (b:=b) (ts:=ts) la ga ls lc gc;have i2:fM (pJ own b ss ts as) (.int 2)=some (.list (ss.map pH)):=rfl;generalize pJ own b ss ts as=sh at *;refine S1 (k6 ?_);rfl';unfold zG;dsimp? [];refine cN (ds:=fB (cs.map aM)) (δ1:=_) (λk δ=>∃L o3 o4,L.length<=32*k/\δ=[some sh,some 'd',some (.list L),o3,o4]) (j7 rfl) ⟨[],_,_,by simp,rfl⟩ ?_ ?_
 .rintro k d δ hk ⟨L,o3,o4,lL,rfl⟩
  let⟨k1,rfl⟩:=fR (a0:=[]) hk;have lb1:=(gc _ (cK (d:=[]) k1)).1;refine⟨_,rfl,?_⟩;let⟨_,e1,L1,rfl,l1⟩:=MR (st:=ss.getD k BJ) (s:=(k:Int)) (bs:=cs.getD k []) ∅;dsimp? [i2,MM (enc:=pH) (l:=ss) (d:=BJ) (show k<ss.length by lia),e1,uX];exact⟨∅,_,_,_,by rw[Ñ];lia,rfl⟩
 .rintro δ ⟨L,o3,o4,lL,rfl⟩
  rw[hW,Å]at lL;dsimp? [ea,uX];exact⟨∅,_,rfl⟩
end
section
def Z1(r:D):Prop:=(∃a b,r=.tuple [.str "fill",a,b])\/∃(k:Str)(a:D),(k="none"\/k="broken")/\r=.tuple [.str k,a]
def MS(W:W9 Ç Ä):∃r,FC [aF5 Ç,iL Ä]=.ok r []/\Z1 r:=by
 let⟨b,_,_⟩:=W.bnd;let⟨r,el,T,σ,I,h⟩:=Y2 b;refine⟨r,el,?_⟩;rcases h with ⟨all,rfl⟩|⟨p,hp,hneg,ha,rfl⟩
 .exact .inl ⟨_,_,rfl⟩
 .exact .inr ⟨"none",_,.inl rfl,rfl⟩
end
section
variable {own:Q4}{b:PN}{ss:List St}{cs:List 'n'}{ts:List Tk}{as:List Ap}
def FU(M:tH own ss cs ts)(g:uD b):∃r,CQ [pJ own b ss ts as,.list (cs.map aM)]=.ok r []/\Z1 r:=by
 have lt:=M.lt;let⟨r,el,hr⟩:=MS (aEB M g);refine⟨r,?_,hr⟩;have e0:vF [pJ own b ss ts as,.list (cs.map aM)]=.ok (aF5 (J1 ts b (T4 (own::uC ss cs ss.length)))) []:=aD9 M g;have e1:rG [pJ own b ss ts as]=.ok (iL (ts.map λt=>t.r)) []:=MP ∅;generalize J1 ts b (T4 (own::uC ss cs ss.length))=Ç at *;generalize pJ own b ss ts as=sh at *;sleep 3;rfl';unfold vG;dsimp? [e0,e1,el]
def aGB(cs:List 'n'):Prop:=∀c∈cs,c.length<=30/\∀b∈c,uE b/\1<=b.w/\b.w<=1000000000
def aEG(S:Ę own b ss ts as)(lc:cs.length=ss.length)(gc:aGB cs):tH own ss cs ts:=
 ⟨S.o0,S.o1,by have:=S.ls;lia,lc,λc hc=>(gc c hc).1,by have:=S.lt;lia,S.gs,λc hc b hb=>by have:=(gc c hc).2 b hb;exact⟨this.1.nm,this.1.p,this.1.k,this.2⟩,S.gt⟩
def BK(S:Ę own b ss ts as)(lc:cs.length=ss.length)(gc:aGB cs):∃r,zQ [pJ own b ss ts as,.list (cs.map aM)]=.ok r []/\Z1 r:=by
 have ls:=S.ls;let⟨r,eb,hr⟩:=FU (as:=as) (aEG S lc gc) S.b;let⟨L,ek⟩:=J5 (own:=own) (b:=b) (ts:=ts) (by have:=S.la;lia) S.ga lc ∅ λc hc=>⟨(gc c hc).1,λx hx=>((gc c hc).2 x hx).1⟩;generalize pJ own b ss ts as=sh at *;refine k6 ?_;rfl';unfold rQ;dsimp? [ek];refine aJL (eY rfl) ?_;cases L with
 |nil=>
  dsimp? [List.isEmpty_nil,Bool.not_true,Bool.false_eq_true,eb];exact hr
 |cons x L=>
  dsimp? [List.isEmpty_cons,Bool.not_false];exact .inr ⟨"broken",_,.inr rfl,rfl⟩
end
def Z2{o o':D->D->ZL}{f g k:M D}{δ:DS}{a b c:D}{r r':Bool}(hf:f δ=.ok a δ)(hg:g δ=.ok b δ)(hk:k δ=.ok c δ)(h1:o a b=some (.bool r))(h2:o' b c=some (.bool r')):iH o o' f g k δ=.ok (.bool (r && r')) δ:=by
 unfold iH;rw[hf,aW,hg,aW,h1];cases r
 .rfl
 .simp![hk,aW,h2,Bool.true_and]
def Ũ(z:Str):Prop:=z.length<=100/\∀c∈z.cps.toList,c<128
structure S4(b:Bx):Prop where
 nm:Ũ b.nm
 p:Ũ b.p
 k:Ũ b.k
def FV(h:Ũ z):gS [.str z]=.ok (.bool (AW z)) []:=name_ev' h.1 h.2
def ĉ(zs:ZG)(b:Bx):(Option Str):=if AW b.nm=false then some "NoName"else if b.nm∈zs then some "NoName"else if b.w<1 then some "NoWeight"else if AW b.p=false then some "NoName"else if AW b.k=false then some "NoName"else if b.b<0 then some "NoWeight"else none
def S5(h:ĉ zs b=none):AW b.nm=true/\b.nm∉zs/\1<=b.w/\AW b.p=true/\AW b.k=true/\0<=b.b:=by
 unfold ĉ at h;split at h
 .cases h
 split at h
 .cases h
 split at h
 .cases h
 split at h
 .cases h
 split at h
 .cases h
 split at h
 .cases h
 rename_i a1 a2 a3 a4 a5 a6;exact⟨by simpa using a1,a2,∅,by simpa using a4,by simpa using a5,∅⟩
def Z3(A:S4 b)(h:ĉ zs b=none):nY [eJ b,wT zs]=.ok .none [some (wT zs)]:=by
 let⟨a1,a2,a3,a4,a5,a6⟩:=S5 h;have i0:fM (eJ b) (.int 0)=some (.str b.nm):=rfl;have i1:fM (eJ b) (.int 1)=some (.int b.w):=rfl;have i2:fM (eJ b) (.int 2)=some (.str b.p):=rfl;have i3:fM (eJ b) (.int 3)=some (.str b.k):=rfl;have i4:fM (eJ b) (.int 4)=some (.int b.b):=rfl;have e0:=FV A.nm;have e2:=FV A.p;have e3:=FV A.k;rw[a1]at e0;rw[a4]at e2;rw[a5]at e3;have q1:decide (b.w<1)=false:=decide_eq_false ∅;have q2:decide (b.b<0)=false:=decide_eq_false ∅;generalize eJ b=T at *;have ci:NR (dB (iF (qF false) (iF fM (bF 0) (dC (.int 0))) (bF 1))) [some T,some (wT zs)]=.ok false [some T,some (wT zs)]:=by
  have:=NP (xP (op:=qF false) (xP (δ:=[some T,some (wT zs)]) (eY (i:=0) rfl) v2 i0) (eY (i:=1) rfl) aM5);unfold NR;rw[this,decide_eq_false a2]
 have e:g8 [some T,some (wT zs)]=.ok .next [some T,some (wT zs)]:=by
  have:bN g8 [some T,some (wT zs)] (λδ=>δ=[some T,some (wT zs)]) (λ_=>False) (λ_=>False) (λ_ _=>False):=by
   unfold g8;dsimp? [i0,e0,Bool.not_true,Bool.false_eq_true];refine aU.of ci ?_;dsimp? [i1,i2,i3,i4,e2,e3,q1,q2,Bool.not_true,Bool.false_eq_true]
  let⟨fl,δ1,e,q⟩:=this.ex;cases fl with
  |next=>rw[e,show δ1=_ from q]
  |brk=>sleep 4
  |cont=>sleep 4
  |ret d=>sleep 4
 unfold nY aR;show (match g8 [some T,some (wT zs)]with|.ok (.ret d) δ=>_|.ok .next δ=>_|.ok _ _=>_|.err x δ=>_|.stuck=>_)=_;rw[e];rfl
abbrev cH(bs:List Bx):ZG:=bs.map λb=>b.nm
def Ċ(m:Nat):ZG->List Ld->Option Str
 |_,[]=>none
 |zs,x::r=>if 0<=x.2/\x.2<(m:Int)then (match ĉ zs x.1 with
  |some e=>some e
  |none=>Ċ m (zs++[x.1.nm]) r)else some "NoStack"
def PZ(h:ĉ zs b=none):b.nm∉zs:=λhm=>by
 unfold ĉ at h;rw[Â hm]at h;split at h<;>cases h
def Z4{cs:List 'n'}(nd:(cH cs.flatten).Nodup)(hl:cs.flatten.length<=300):zO [.list (cs.map aM)]=.ok (wT (cH cs.flatten)) []:=by
 sleep 3;rfl';unfold rP;dsimp? [];have e0:kE [] []=wT (cH ([]:List 'n').flatten):=rfl;rw[e0];have sub:∀k,∃rest,cs.flatten=(cs.take k).flatten++rest:=λk=>⟨(cs.drop k).flatten,by rw[<- List.flatten_append,List.take_append_drop]⟩;refine cN (ds:=cs.map aM) (δ1:=_) (λk δ=>∃o2 o3,δ=[some 'd',some (wT (cH (cs.take k).flatten)),o2,o3]) (cO rfl) ⟨none,none,rfl⟩ ?_ ?_
 .rintro k d δ hk ⟨o2,o3,rfl⟩
  have k1:k<cs.length:=by have:=(Î.mp hk).1;rwa [Å]at this
  rw[Ò,fJ (d:=[]) k1]at hk;cases hk;refine⟨_,rfl,?_⟩;have ek:(cs.take (k+1)).flatten=(cs.take k).flatten++cs.getD k []:=by
   rw[List.take_add_one,fJ (d:=[]) k1,List.flatten_append];simp
  let⟨rest,er⟩:=sub (k+1);rw[ek]at er;rw[er]at nd hl;rw[ek];generalize (cs.take k).flatten=P at *;generalize cs.getD k []=bs at *;refine cN (ds:=bs.map eJ) (δ1:=_) (λt δ=>∃o3,δ=[some 'd',some (wT (cH (P++bs.take t))),some (aM bs),o3]) (cO rfl) ⟨o3,by rw[List.take_zero,â];rfl⟩ ?_ ?_
  .rintro t d δ ht ⟨o3,rfl⟩
   have t1:t<bs.length:=by have:=(Î.mp ht).1;rwa [Å]at this
   rw[Ò,fJ (d:=AV) t1]at ht;cases ht;have et:P++bs.take (t+1)=P++bs.take t++[bs.getD t AV]:=by rw[List.take_add_one,fJ (d:=AV) t1,List.append_assoc];rfl
   have eb:bs=bs.take t++(bs.getD t AV::bs.drop (t+1)):=by
    have:=List.take_append_drop t bs;rw[ñ t1]at this;rw[Ë,Ê t1];exact this.symm
   have ni:(bs.getD t AV).nm∉cH (P++bs.take t):=by
    rw[eb,<- List.append_assoc,List.append_assoc]at nd;have nd:((P++bs.take t).map (λb=>b.nm)++(bs.getD t AV::bs.drop (t+1)++rest).map λb=>b.nm).Nodup:=by rw[<- Ø];exact nd
    have:=(List.nodup_append.mp nd).2.2;intro hm;exact this _ hm _ 'e' rfl
   have ln:(cH (P++bs.take t)).length<=1000:=by
    rw[Ñ,Ñ]at hl;rw[Å,Ñ,ê];lia
   refine⟨_,rfl,?_⟩;rw[et,show cH (P++bs.take t++[bs.getD t AV])=cH (P++bs.take t)++[(bs.getD t AV).nm]from Ø];generalize bs.getD t AV=x at *;have i0:fM (eJ x) (.int 0)=some (.str x.nm):=rfl;dsimp? [yP,i0,ZW ni ln];exact⟨_,rfl⟩
  .rintro δ ⟨o3,rfl⟩
   rw[Å,List.take_length];exact⟨_,_,rfl⟩
 .rintro δ ⟨o2,o3,rfl⟩
  rw[Å,List.take_length];dsimp? [ER]
def Z5{cs:List 'n'}(hs:fM sh (.int 2)=some (.list st))(nd:(cH cs.flatten).Nodup)(hl:cs.flatten.length<=300)(ll:ld.length<=300)(A:∀x∈ld,S4 x.1)(hc:Ċ st.length (cH cs.flatten) ld=none):kL [sh,.list (cs.map aM),.list (ld.map AL)]=.ok .none []:=by
 have en:=Z4 nd hl;have lz:(cH cs.flatten).length<=300:=by rw[Å];exact hl
 have:bN fH [some sh,some 'd',some (.list (ld.map AL)),none,none,none] (λ_=>True) (λ_=>False) (λ_=>False) (λ_ _=>False):=by
  unfold fH;dsimp? [en];generalize cH cs.flatten=zs at *;refine cN (ds:=ld.map AL) (δ1:=_) (λk δ=>Ċ st.length (zs++(ld.take k).map λx=>x.1.nm) (ld.drop k)=none/\∃o4 o5,δ=[some sh,some 'd',some (.list (ld.map AL)),some (wT (zs++(ld.take k).map λx=>x.1.nm)),o4,o5]) (cO rfl) ⟨by rw[List.take_zero,List.map_nil,â,List.drop_zero];exact hc,none,none,by rw[List.take_zero,List.map_nil,â]⟩ ?_ λ_ _=>trivial
  rintro k d δ hk ⟨he,o4,o5,rfl⟩;have k1:k<ld.length:=by have:=(Î.mp hk).1;rwa [Å]at this
  rw[Ò,Ê k1]at hk;cases hk;have Ax:=A _ (ý k1);have ez:(ld.take (k+1)).map (λx=>x.1.nm)=(ld.take k).map (λx=>x.1.nm)++[ld[k].1.nm]:=by
   rw[List.take_add_one,Ê k1,Ø];rfl
  have lk:(zs++(ld.take k).map λx=>x.1.nm).length<=1000:=by
   rw[Ñ,Å,ê];lia
  rw[ez,<- List.append_assoc];rw[ñ k1,Ċ]at he;generalize zs++(ld.take k).map (λx=>x.1.nm)=ys at *;generalize ld[k]=x at *;refine⟨[some sh,some 'd',some (.list (ld.map AL)),some (wT ys),some (eJ x.1),some (.int x.2)],rfl,?_⟩;split at he
  .rename_i c
   cases hB:ĉ ys x.1 with
   |some e=>rw[hB]at he;cases he
   |none=>
    rw[hB]at he;have ech:iH ĭ ő (dC (.int 0)) (bF 5) (KC lZ [(iF fM (bF 0) (dC (.int 2)))]) [some sh,some 'd',some (.list (ld.map AL)),some (wT ys),some (eJ x.1),some (.int x.2)]=.ok 'j' [some sh,some 'd',some (.list (ld.map AL)),some (wT ys),some (eJ x.1),some (.int x.2)]:=by
     have:=(Z2 (o:=ĭ) (o':=ő) (f:=dC (.int 0)) (g:=bF 5) (k:=KC lZ [(iF fM (bF 0) (dC (.int 2)))]) (δ:=[some sh,some 'd',some (.list (ld.map AL)),some (wT ys),some (eJ x.1),some (.int x.2)]) v2 (eY rfl) (EI (xP (eY rfl) v2 hs) V7) rfl rfl);rw[decide_eq_true c.1,decide_eq_true c.2]at this;exact this
    have eB:=Z3 (zs:=ys) Ax hB;have i0:fM (eJ x.1) (.int 0)=some (.str x.1.nm):=rfl;generalize eJ x.1=T at *;dsimp? [];refine aU.of ech ?_;dsimp? [Bool.not_true,Bool.false_eq_true,eB,yP,i0,ZW (PZ hB) lk];exact⟨he,_,_,rfl⟩
  .cases he
 let⟨fl,δ1,e,q⟩:=this.ex;cases fl with
 |next=>
  show aR 6 [] 0 fH [sh,.list (cs.map aM),.list (ld.map AL)]=_;unfold aR;show (match fH [some sh,some 'd',some (.list (ld.map AL)),none,none,none]with|.ok (.ret d) δ=>_|.ok .next δ=>_|.ok _ _=>_|.err x δ=>_|.stuck=>_)=_;rw[e];rfl
 |brk=>sleep 4
 |cont=>sleep 4
 |ret d=>sleep 4
def TL(b:Bx):Prop:=uE b/\1<=b.w/\b.w<=1000000000
def bU(cs:List 'n')(m:Nat):Prop:=∀c∈cs,c.length<=m/\∀b∈c,TL b
def bU.mono(h:bU cs m)(e:m<=n):bU cs n:=λc hc=>⟨Ü (h c hc).1 e,(h c hc).2⟩
def bU.set(h:bU cs m)(lc:c.length<=m)(gc:∀b∈c,TL b):bU (cs.set k c) m:=λx hx=>by
 rcases List.mem_or_eq_of_mem_set hx with z|rfl
 .exact h x z
 .exact⟨lc,gc⟩
def bU.at(h:bU cs m):(cs.getD k []).length<=m/\∀b∈cs.getD k [],TL b:=by
 by_cases hk:k<cs.length
 .exact h _ (cK hk)
 .rw[Ë,ç ∅]
  exact⟨î _,λb hb=>by cases hb⟩
def aGC(m:Mv)(cs cs':List 'n'):Prop:=∃k:Nat,k<cs.length/\((∃z c b,m=(⟨"off",(k:Int),z⟩,.none)/\cs.getD k []=c++[b]/\cs'=cs.set k c)\/∃w z b,bJ w/\(w == "off")=false/\m=(⟨w,(k:Int),z⟩,eJ b)/\cs'=cs.set k (cs.getD k []++[b]))
def lM:List Mv->List 'n'->List 'n'->Prop
 |[],cs,cs1=>cs1=cs
 |m::ms,cs,cs1=>∃cs',aGC m cs cs'/\bU cs' 30/\lM ms cs' cs1
def lM.app:∀{ms ms':List Mv}{cs cs1 cs2:List 'n'},lM ms cs cs1->lM ms' cs1 cs2->lM (ms++ms') cs cs2
 |[],_,_,_,_,h,g=>by cases h;exact g
 |_::_,_,_,_,_,⟨cs',s,q,h⟩,g=>⟨cs',s,q,h.app g⟩
def lO{cs:List 'n'}(h:k<cs.length):(cs.set k c).getD k []=c:=by
 rw[Ë,ß h];rfl
def aEH{cs:List 'n'}(h:k≠j):(cs.set k c).getD j []=cs.getD j []:=by
 rw[Ë,Ú h,Ë]
def J6{cs:List 'n'}(h:k<cs.length):cs.set k (cs.getD k [])=cs:=by
 rw[Ë,Ê h];exact List.set_getElem_self h
def P0 :∀{l:List Bx}{cs:List 'n'},k<cs.length->bU cs 30->cs.getD k []=keep++l.reverse->lM (l.map (SY (k:Int))) cs (cs.set k keep)
 |[],cs,hk,_,e=>by
  rw[List.reverse_nil,â]at e;show cs.set k keep=cs;rw[<- e,J6 hk]
 |b::l,cs,hk,g,e=>by
  rw[List.reverse_cons,<- List.append_assoc]at e;have ga:=g.at (k:=k);rw[e]at ga;have lg:(keep++l.reverse).length<=30:=by have:=ga.1;rw[Ñ]at this;lia
  have g':bU (cs.set k (keep++l.reverse)) 30:=g.set lg λx hx=>ga.2 x (ģ _ hx);refine⟨cs.set k (keep++l.reverse),⟨k,hk,.inl ⟨_,_,_,rfl,e,rfl⟩⟩,g',?_⟩;have:=P0 (k:=k) (keep:=keep) (l:=l) (cs:=cs.set k (keep++l.reverse)) (by rw[Ï];exact hk) g' (lO hk)
  rwa [List.set_set]at this
def Z6 :∀{l:List Bx}{cs:List 'n'},k<cs.length->bU cs 30->(cs.getD k []).length+l.length<=30->(∀b∈l,TL b)->lM (l.map (Ĳ (k:Int))) cs (cs.set k (cs.getD k []++l))
 |[],cs,hk,_,_,_=>by
  show cs.set k (cs.getD k []++[])=cs;rw[â,J6 hk]
 |b::l,cs,hk,g,hl,gl=>by
  rw[Û]at hl;have g':bU (cs.set k (cs.getD k []++[b])) 30:=g.set (by rw[Ñ,ó];lia) (oF g.at.2 (gl b Ô));refine⟨cs.set k (cs.getD k []++[b]),⟨k,hk,.inr ⟨"back",_,b,Τ,⋯,rfl,rfl⟩⟩,g',?_⟩;have:=Z6 (k:=k) (l:=l) (cs:=cs.set k (cs.getD k []++[b])) (by rw[Ï];exact hk) g' (by rw[lO hk,Ñ,ó];lia) λx hx=>gl x (Ó _ hx)
  rwa [List.set_set,lO hk,List.append_assoc]at this
def Z7(s:aGC m cs cs')(g:bU cs 30)(lc:cs.length<=10):pA [.list (cs.map aM),eA m.1,m.2]=.ok (.list (cs'.map aM)) []/\cs'.length=cs.length:=by
 obtain⟨k,hk,⟨z,c,b,rfl,e,rfl⟩|⟨w,z,b,gw,hw,rfl,rfl⟩⟩:=s
 .have hk':((k:Nat):Int).toNat<cs.length:=by lia
  have e2:cs[((k:Nat):Int).toNat]=c++[b]:=by
   have:=fJ (d:=[]) hk';rw[Ê hk']at this;rw[Option.some.inj this,ü];exact e
  have:=MQ (x:=.str z) (y:=.none) (s:=(k:Int)) (b:=b) ∅ ∅ hk' e2;rw[ü]at this;exact⟨this,Ï⟩
 .have hk':((k:Nat):Int).toNat<cs.length:=by lia
  have e2:cs[((k:Nat):Int).toNat]=cs.getD k []:=by
   have:=fJ (d:=[]) hk';rw[Ê hk']at this;rw[Option.some.inj this,ü]
  have lg:=(g.at (k:=k)).1;have:=S0 (x:=.str z) (s:=(k:Int)) (b:=b) gw hw ∅ ∅ hk' (by rw[e2];lia);rw[e2,ü]at this;exact⟨this,Ï⟩
def aJ0:∀k:Str,(k="none"\/k="broken")->EB (.str k) (.str "fill")=some 'j':=λk h=>by
 rcases h with rfl|rfl<;>with_unfolding_all rfl
abbrev stay(p:Str)(c:List Bx):List Bx:=c.filter (nP p)
def MT:bs.take (bs.findIdx λb=>b.p == p)++(lQ bs p).filter (nP p)=stay p bs:=by
 have e:bs.take (bs.findIdx λb=>b.p == p)++lQ bs p=bs:=List.take_append_drop _ _;have h:(bs.take (bs.findIdx λb=>b.p == p)).filter (nP p)=bs.take (bs.findIdx λb=>b.p == p):=by
  rw[List.filter_eq_self];intro b hb;let⟨i,hi,rfl⟩:=List.mem_iff_getElem.mp hb;rw[ê]at hi;have:=List.not_of_lt_findIdx (p:=λb:Bx=>b.p == p) (xs:=bs) (i:=i) ∅;rw[List.getElem_take];unfold nP;rw[Bool.not_eq_true'];simpa using this
 show _=bs.filter (nP p);rw[<- h,<- List.filter_append,e]
def MU(hk:k<cs.length)(g:bU cs m)(hm:m<=30):lM (KI (cs.getD k []) (k:Int) p) cs (cs.set k (stay p (cs.getD k []))):=by
 have ga:=g.at (k:=k);have g3:=g.mono hm;rw[<- MT];generalize hb:cs.getD k []=bs at *;have e:bs.take (bs.findIdx λb=>b.p == p)++lQ bs p=bs:=List.take_append_drop _ _;have fl:=List.length_filter_le (nP p) (lQ bs p);have le:=congrArg List.length e;rw[Ñ]at le;have gk:∀b∈bs.take (bs.findIdx λb=>b.p == p),TL b:=λb hb=>ga.2 b (List.mem_of_mem_take hb);have gf:∀b∈(lQ bs p).filter (nP p),TL b:=λb hb=>ga.2 b (FS (Đ.mp hb).1);generalize bs.take (bs.findIdx λb=>b.p == p)=keep at *;have r1:=P0 (k:=k) (keep:=keep) (l:=(lQ bs p).reverse) hk g3 (by rw[List.reverse_reverse,e,hb]);have r2:=Z6 (k:=k) (l:=(lQ bs p).filter (nP p)) (cs:=cs.set k keep) (by rw[Ï];exact hk) (g3.set ∅ gk) (by rw[lO hk];lia) gf;rw[List.set_set,lO hk]at r2;exact r1.app r2
def bU.stay(g:bU cs m):bU (cs.map (stay p)) m:=λc hc=>by
 let⟨d,hd,rfl⟩:=Ö.mp hc;exact⟨Ü (List.length_filter_le _ _) (g d hd).1,λb hb=>(g d hd).2 b (Đ.mp hb).1⟩
def J7(g:bU cs m)(hm:m<=30):∀k,k<=cs.length->lM (SZ cs p k) cs ((cs.take k).map (stay p)++cs.drop k)
 |0,_=>by simp[SZ,lM]
 |k+1,hk=>by
  have r1:=J7 (p:=p) g hm k (É hk);have lt:((cs.take k).map (stay p)).length=k:=by rw[Å,ê];lia
  have hd:cs.drop k=cs[k]::cs.drop (k+1):=ñ hk;have g1:bU ((cs.take k).map (stay p)++cs.drop k) m:=λc hc=>by
   rcases ø.mp hc with h|h
   .exact bU.stay (p:=p) (λc hc=>g c (List.mem_of_mem_take hc)) c h
   .exact g c (List.mem_of_mem_drop h)
  have e1:((cs.take k).map (stay p)++cs.drop k).getD k []=cs.getD k []:=by
   rw[Ë,ã ∅,lt,û,hd,Ë,Ê hk];rfl
  have r2:=MU (k:=k) (cs:=(cs.take k).map (stay p)++cs.drop k) (p:=p) (by rw[Ñ,lt,ď];lia) g1 hm;rw[e1]at r2;have e2:((cs.take k).map (stay p)++cs.drop k).set k (stay p (cs.getD k []))=(cs.take (k+1)).map (stay p)++cs.drop (k+1):=by
   rw[List.set_append_right _ _ ∅,lt,û,hd,List.set_cons_zero,List.take_succ_eq_append_getElem hk,Ø,List.append_assoc,Ë,Ê hk];rfl
  rw[e2]at r2;rw[uF];exact r1.app r2
def ċ:List Ld->List 'n'->List 'n'
 |[],cs=>cs
 |x::ld,cs=>ċ ld (cs.set x.2.toNat (cs.getD x.2.toNat []++[x.1]))
def P1:∀{ld:List Ld}{cs:List 'n'},(ċ ld cs).length=cs.length
 |[],_=>rfl
 |_::ld,cs=>by rw[ċ,P1,Ï]
def eU(cs:List 'n')(p:Str)(ld:List Ld):(List 'n'):=ċ ld (cs.map (stay p))
def C1:(eU cs p ld).length=cs.length:=by unfold eU;rw[P1,Å]
def P3:∀{ld:List Ld}{cs:List 'n'}{m:Nat},bU cs m->m+ld.length<=30->(∀x∈ld,TL x.1/\0<=x.2/\x.2<(cs.length:Int))->lM (ld.map Ł) cs (ċ ld cs)/\bU (ċ ld cs) (m+ld.length)
 |[],cs,_,g,_,_=>⟨rfl,g⟩
 |x::ld,cs,m,g,hl,h=>by
  let⟨hb,h0,h1⟩:=h x Ô;rw[Û]at hl;have hk:x.2.toNat<cs.length:=by lia
  have g':bU (cs.set x.2.toNat (cs.getD x.2.toNat []++[x.1])) (m+1):=(g.mono (Nat.le_succ m)).set (by rw[Ñ,ó];have:=(g.at (k:=x.2.toNat)).1;lia) (oF g.at.2 hb)
  let⟨r,g2⟩:=P3 (ld:=ld) g' ∅ λy hy=>by rw[Ï];exact h y (Ó _ hy)
  refine⟨⟨_,⟨x.2.toNat,hk,.inr ⟨"on",x.1.nm,x.1,aP7,⋯,?_,rfl⟩⟩,g'.mono ∅,r⟩,g2.mono (by rw[Û];lia)⟩;rw[show ((x.2.toNat:Nat):Int)=x.2 by lia];rfl
def C2(g:bU cs m)(ll:m+ld.length<=30)(h:∀x∈ld,TL x.1/\0<=x.2/\x.2<(cs.length:Int)):lM (jP cs p ld) cs (eU cs p ld)/\bU (eU cs p ld) (m+ld.length):=by
 have r1:=J7 (p:=p) g ∅ cs.length (È _);rw[List.take_length,List.drop_length,â]at r1;let⟨r2,g2⟩:=P3 (ld:=ld) (cs:=cs.map (stay p)) g.stay ll λx hx=>by rw[Å];exact h x hx
 exact⟨r1.app r2,g2⟩
def AQ :∀{cs:List 'n'}{j:Nat}(h:j<cs.length),((cs.set j (cs[j]++[x])).flatten).Perm (cs.flatten++[x])
 |c::cs,0,_=>by
  show ((c++[x])++cs.flatten).Perm ((c++cs.flatten)++[x]);rw[List.append_assoc,List.append_assoc];exact List.perm_append_comm.append_left c
 |c::cs,j+1,h=>by
  show (c++(cs.set j (cs[j]'(Nat.lt_of_succ_lt_succ h)++[x])).flatten).Perm ((c++cs.flatten)++[x]);rw[List.append_assoc];exact(AQ (Nat.lt_of_succ_lt_succ h)).append_left c
def J8:∀{ld:List Ld}{cs:List 'n'},(∀x∈ld,0<=x.2/\x.2<(cs.length:Int))->(ċ ld cs).flatten.Perm (cs.flatten++ld.map λx=>x.1)
 |[],cs,_=>by rw[List.map_nil,â];exact List.Perm.refl _
 |x::ld,cs,h=>by
  have hx:=h x Ô;have hk:x.2.toNat<cs.length:=by lia
  have e:cs.getD x.2.toNat []=cs[x.2.toNat]:=by rw[Ë,Ê hk];rfl
  have:=J8 (ld:=ld) (cs:=cs.set x.2.toNat (cs.getD x.2.toNat []++[x.1])) λy hy=>by rw[Ï];exact h y (Ó _ hy)
  refine this.trans ?_;rw[e,Ì,<- List.singleton_append (l:=ld.map λx=>x.1),<- List.append_assoc];exact(AQ hk).append_right _
def Z8 :∀{ld:List Ld}{cs:List 'n'},(∀x∈ld,0<=x.2/\x.2<(cs.length:Int))->(ċ ld cs).getD s []=cs.getD s []++(ld.filter λx=>decide (x.2=(s:Int))).map λx=>x.1
 |[],cs,_=>by simp[ċ]
 |x::ld,cs,h=>by
  have hx:=h x Ô;have hk:x.2.toNat<cs.length:=by lia
  rw[ċ,Z8 λy hy=>by rw[Ï];exact h y (Ó _ hy)]
  by_cases c:x.2=(s:Int)
  .have e:x.2.toNat=s:=by lia
   rw[e]at hk⊢;rw[lO hk,List.filter_cons,Â (decide_eq_true c),Ì,List.append_assoc];rfl
  .rw[aEH ∅,List.filter_cons,Ã (by simpa using c)]
def FW:∀ps:ZG,LJ (ps.map PyData.str)=some (ps.map V.str)
 |[]=>rfl
 |p::ps=>by
  have:=FW ps;show (match LI (.str p),LJ (ps.map PyData.str)with|some v,some vs=>some (v::vs)|_,_=>none)=_;rw[this];rfl
def aEI{ps:ZG}:ħ false (.str p) (.list (ps.map PyData.str))=some (.bool (decide (p∈ps))):=by
 unfold ħ;dsimp only;rw[FW];show some (PyData.bool (Ğ (.str p) (ps.map V.str)))=_;unfold Ğ;rw[List.any_map];congr 2;show (ps.any λx=>x == p)=_;rw[Bool.eq_iff_iff,decide_eq_true_eq,List.any_eq_true];exact⟨λ⟨x,h,e⟩=>beq_iff_eq.mp e▸h,λh=>⟨p,h,beq_self_eq_true p⟩⟩
def Z9{m:Nat}:∀{ld:List Ld}{zs:ZG},(zs++ld.map λx=>x.1.nm).Nodup->(∀x∈ld,(0<=x.2/\x.2<(m:Int))/\AW x.1.nm=true/\1<=x.1.w/\AW x.1.p=true/\AW x.1.k=true/\0<=x.1.b)->Ċ m zs ld=none
 |[],_,_,_=>rfl
 |x::ld,zs,nd,h=>by
  let⟨h1,h2,h3,h4,h5,h6⟩:=h x Ô;have ni:x.1.nm∉zs:=λhm=>(List.nodup_append.mp nd).2.2 _ hm _ 'e' rfl;have:ĉ zs x.1=none:=by
   unfold ĉ;rw[h2,h4,h5,Ã ⋯,Ã ni,Ã ∅,Ã ⋯,Ã ⋯,Ã ∅]
  rw[Ċ,Â h1,this];refine Z9 (by rw[List.append_assoc];exact nd) λy hy=>h y (Ó _ hy)
section
def MV:TL (bx ns n):=by
 have t:=iC (ns:=ns) (k:=20+n) (m:=20) ⋯;exact⟨aEC,PY ∅,(AO (m:=20) ∅ ∅ ⋯).2⟩
def aJ1:S4 (bx ns n):=⟨wU rW,wU rW,wU rW⟩
def aM9:0<=(bx ns n).b:=by
 have t:=j8 (ns:=ns) (k:=21+n) (m:=90) ⋯;have a:=(AO (ns:=ns) (m:=90) t.1 ∅ ⋯).1;have s:=rV (ns:=ns);show 0<=ŀ ns n;unfold ŀ;split<;>lia
def aAA(m0:0<=m)(m1:m<=10)(s0:1<=ss.length)(s1:ss.length<=50):∃r,vM [iL ns,.tuple [a,b,.list ss,c,d],.int m]=.ok r []/\∃cs:List 'n',r=.list (cs.map aM)/\cs.length=ss.length/\bU cs 10/\cs.flatten.Perm ((List.range m.toNat).map λi:Nat=>bx ns (i:Int)):=by
 refine k6 ?_;rfl';unfold vL;have hz:sizeLine=2^24:=rfl;dsimp? [];refine aU.of (cS (enc:=id) (xs:=ss) (g:=λ_=>.list []) (bT (by dsimp? [List.map_id])) ∅ λx _=>by dsimp? []) ?_;dsimp? [];refine wI (j:=m) (δ1:=_) (λk δ=>∃(cs:List 'n')(o4:ZL),δ=[some (iL ns),some (.tuple [a,b,.list ss,c,d]),some (.int m),some 'd',o4]/\cs.length=ss.length/\bU cs k/\cs.flatten.Perm ((List.range k).map λi:Nat=>bx ns (i:Int))) (d9 (by dsimp? [];rfl)) ∅ ∅ ⟨ss.map λ_=>[],none,?_,by simp,λc hc=>?_,?_⟩ ?_ ?_
 .simp[aM]
 .obtain⟨_,_,rfl⟩:=Ö.mp hc
  exact⟨by simp,λb hb=>by cases hb⟩
 .simp
 .rintro k δ hk ⟨cs,o4,rfl,lc,gc,pc⟩
  refine⟨_,rfl,?_⟩;have t1:=lK (ns:=ns) (k:=21+(k:Int)) (m:=(cs.length:Int)) ∅;have e1:=oC (ns:=ns) (k:=21+(k:Int)) (m:=(cs.length:Int)) ∅ ∅ ∅;have e2:=ZQ (ns:=ns) (n:=(k:Int)) ∅ ∅;generalize th ns (21+(k:Int)) (cs.length:Int)=j at *;have hj:j.toNat<cs.length:=by lia
  have eh:KF [0,0,0,2,0] [some (iL ns),some (.tuple [a,b,.list ss,c,d]),some (.int m),some 'd',some (.int (k:Int))]=[some (iL ns),some (.tuple [a,b,.list ss,c,d]),some (.int m),none,some (.int (k:Int))]:=rfl;have ea:(cs.map aM)[j.toNat]?=some (.list ((cs[j.toNat]).map eJ)):=by rw[Ò,Ê hj];rfl
  have gj:=gc _ (ý hj);dsimp? [LL,Å,e1,LM (aF7 (n:=(cs.map aM).length) (k:=j) t1.1 (by rw[Å];exact t1.2)) ea,eh,e2,qV];refine⟨∅,?_⟩;refine⟨cs.set j.toNat (cs[j.toNat]++[bx ns (k:Int)]),some (.int (k:Int)),?_,by rw[Ï];exact lc,λc hc=>?_,?_⟩
  .simp[List.map_set,aM]
  .rcases List.mem_or_eq_of_mem_set hc with h|rfl
   .exact⟨by have:=(gc c h).1;lia,(gc c h).2⟩
   .exact⟨by rw[Ñ,ó];lia,oF gj.2 MV⟩
  .rw[List.range_succ,Ø]
   exact(AQ hj).trans (pc.append_right _)
 .rintro δ ⟨cs,o4,rfl,lc,gc,pc⟩
  dsimp? [];exact⟨cs,rfl,lc,gc.mono ∅,pc⟩
end
def SS:Nat->D->Prop
 |0,_=>False
 |_+1,.int _=>True
 |_+1,.str z=>bJ z
 |j+1,.list ds=>ds.length<=1000/\∀d∈ds,SS j d
 |j+1,.tuple ds=>ds.length<=1000/\∀d∈ds,SS j d
 |_+1,_=>False
def SS.int:SS (j+1) (.int i):=True.intro
def SS.str(h:bJ z):SS (j+1) (.str z):=h
def SS.list{ds:ZI}(l:ds.length<=1000)(h:∀d∈ds,SS j d):SS (j+1) (.list ds):=⟨l,h⟩
def SS.tup{ds:ZI}(l:ds.length<=1000)(h:∀d∈ds,SS j d):SS (j+1) (.tuple ds):=⟨l,h⟩
def wV:∀{j:Nat}{d:D},SS j d->tN j [d,d]=.ok 'j' []
 |0,_,h=>h.elim
 |j+1,d,h=>by
  sleep 3;show bN (yZ (tN j)) [some d,some d,none,none] _ _ _ _;unfold yZ;cases d with
  |int i=>
   have e1:qB .tuple .list (.int i)=some (.bool false):=rfl;have e2:gE .str (.int i)=some (.bool false):=rfl;have e3:gE .int (.int i)=some 'j':=rfl;have e4:gE .bool (.int i)=some (.bool false):=rfl;dsimp? [e1,e2,e3,e4,decide_true]
  |str z=>
   have e1:qB .tuple .list (.str z)=some (.bool false):=rfl;have e2:gE .str (.str z)=some 'j':=rfl;have gz:bJ z:=h;dsimp? [e1,e2,qL gz gz,beq_self_eq_true]
  |list ds=>
   obtain⟨l1,l2⟩:ds.length<=1000/\∀x∈ds,SS j x:=h;have e1:qB .tuple .list (.list ds)=some 'j':=rfl;have e2:gE .tuple (.list ds)=some (.bool false):=rfl;have e3:gE .list (.list ds)=some 'j':=rfl;have en:decide ((ds.length:Int)≠(ds.length:Int))=false:=by simp
   dsimp? [e1,e2,e3,en];refine xW (j:=ds.length) (δ1:=_) (λk δ=>∃o,δ=[some (.list ds),some (.list ds),some 'j',o]) (d9 (by dsimp? [])) l1 ⟨none,rfl⟩ ?_ ?_
   .rintro k δ hk ⟨o,rfl⟩
    refine⟨_,rfl,?_⟩;have es:=wV (l2 _ (ý hk));dsimp? [Ϯ hk,es];exact⟨_,rfl⟩
   .rintro δ ⟨o,rfl⟩
    dsimp? []
  |tuple ds=>
   obtain⟨l1,l2⟩:ds.length<=1000/\∀x∈ds,SS j x:=h;have e1:qB .tuple .list (.tuple ds)=some 'j':=rfl;have e2:gE .tuple (.tuple ds)=some 'j':=rfl;have en:decide ((ds.length:Int)≠(ds.length:Int))=false:=by simp
   dsimp? [e1,e2,en];refine xW (j:=ds.length) (δ1:=_) (λk δ=>∃o,δ=[some (.tuple ds),some (.tuple ds),some 'j',o]) (d9 (by dsimp? [])) l1 ⟨none,rfl⟩ ?_ ?_
   .rintro k δ hk ⟨o,rfl⟩
    refine⟨_,rfl,?_⟩;have es:=wV (l2 _ (ý hk));dsimp? [Ϯ hk,es];exact⟨_,rfl⟩
   .rintro δ ⟨o,rfl⟩
    dsimp? []
  |_=>exact absurd h (λz=>z)
def MW:List Mv->ZI->Prop
 |[],L=>L=[]
 |m::ms,L=>∃x L',L=.tuple [eA m.1,x]::L'/\MW ms L'
def MW.add :∀{ms:List Mv}{L:ZI},MW ms L->MW (ms++[m]) (L++[.tuple [eA m.1,x]])
 |[],_,h=>by rw[show _=[]from h];exact⟨x,[],rfl,rfl⟩
 |_::ms,_,⟨y,L',e,h⟩=>by rw[e];exact⟨y,_,rfl,MW.add h⟩
def MW.len:∀{ms:List Mv}{L:ZI},MW ms L->L.length=ms.length
 |[],_,h=>by rw[show _=[]from h];rfl
 |_::ms,_,⟨y,L',e,h⟩=>by rw[e,Û,Û,MW.len h]
abbrev FX:=Str×List Ld
abbrev cD(c:FX):D:=iP c.1 c.2
def Ī(cs:List 'n')(c:FX):ZG:=((FT cs c.1 c.2).filter ŧ).map λt=>t.z
def mX(cs:List 'n')(c:FX)(G:ZI):D:=.tuple [.str "done",.list ((eU cs c.1 c.2).map aM),.list G,.list ((Ī cs c).map PyData.str)]
def ł(n t:D):D:=.tuple [.str "refused",n,t]
section
def J9(S:Ę own b ss ts as)(lc:cs.length=ss.length)(g:bU cs m)(gp:bJ c.1)(h:AW c.1=true)(nd:(cH cs.flatten).Nodup)(hl:cs.flatten.length<=300)(ll:m+c.2.length<=30)(A:∀x∈c.2,S4 x.1)(hb:∀x∈c.2,TL x.1/\0<=x.2/\x.2<(cs.length:Int))(hc:Ċ ss.length (cH cs.flatten) c.2=none):∃r,tY [pJ own b ss ts as,.list (cs.map aM),cD c]=.ok r []/\((∃G,MW (jP cs c.1 c.2) G/\r=mX cs c G)\/∃n t,r=ł n t):=by
 have hz:sizeLine=2^24:=rfl;have ls:=S.ls;have i0:fM (cD c) (.int 0)=some (.str c.1):=rfl;have i1:fM (cD c) (.int 1)=some (.list (c.2.map AL)):=rfl;have eL:kL [pJ own b ss ts as,.list (cs.map aM),.list (c.2.map AL)]=.ok .none []:=Z5 (st:=ss.map pH) rfl nd hl ∅ A (by rw[Å];exact hc);have gC:wC cs 50:=λc hc=>⟨by have:=(g c hc).1;lia,λx hx=>((g c hc).2 x hx).1⟩
 have em:mN [.list (cs.map aM),cD c]=.ok (.list ((jP cs c.1 c.2).map F9)) []:=J3 (ld:=c.2) gC gp ∅ ∅;have ev:=ZT (ld:=c.2) gC gp ∅ ∅;have ev:rO [.list (cs.map aM),cD c]=.ok (.list ((Ī cs c).map PyData.str)) []:=by
  unfold Ī;rw[à];exact ev
 have lm:=AM (p:=c.1) (ld:=c.2) gC ∅ ∅;have ei:=FV (wU h);rw[h]at ei;have ec:=vQ (cs:=cs) ∅;have rn:=(C2 (p:=c.1) g ll hb).1;have es:=λ(cs':List 'n')(l':cs'.length=ss.length)(g':bU cs' 30)=>BK (as:=as) S l' λc hc=>⟨(g' c hc).1,λx hx=>(g' c hc).2 x hx⟩;have dn:∀G,mX cs c G=.tuple [.str "done",.list ((eU cs c.1 c.2).map aM),.list G,.list ((Ī cs c).map PyData.str)]:=λ_=>rfl;generalize eU cs c.1 c.2=csE at *;generalize Ī cs c=mv at *;generalize cD c=cl at *;generalize pJ own b ss ts as=sh at *;generalize jP cs c.1 c.2=ms at *;refine k6 ?_;rfl';unfold zR;dsimp? [i0,ei,Bool.not_true,Bool.false_eq_true,i1,eL,ec];refine cN (ds:=ms.map F9) (δ1:=_) (λk δ=>∃(cs':List 'n')(L:ZI)(o5 o6 o7:ZL),MW (ms.take k) L/\cs'.length=cs.length/\bU cs' 30/\lM (ms.drop k) cs' csE/\δ=[some sh,some 'd',some cl,some (.list (cs'.map aM)),some (.list L),o5,o6,o7]) (bT (by dsimp? [em])) ⟨cs,[],none,none,none,rfl,rfl,g.mono ∅,by rw[List.drop_zero];exact rn,rfl⟩ ?_ ?_
 .rintro k d δ hk ⟨cs',L,o5,o6,o7,lL,l',g',r',rfl⟩
  have k1:k<ms.length:=by have:=(Î.mp hk).1;rwa [Å]at this
  rw[Ò,Ê k1]at hk;cases hk;rw[ñ k1]at r';rw[List.take_succ_eq_append_getElem k1];have hL:=lL.len;rw[ê]at hL;let⟨cs2,s2,g2,r2⟩:=r';generalize ms[k]=m at *;let⟨e1,l2⟩:=Z7 s2 g' ∅;let⟨r,er,hr⟩:=es cs2 ∅ g2;refine⟨[some sh,some 'd',some cl,some (.list (cs'.map aM)),some (.list L),some (eA m.1),some m.2,o7],rfl,?_⟩;rcases hr with ⟨x,y,rfl⟩|⟨kd,x,hk,rfl⟩
  .have x0:fM (.tuple [.str "fill",x,y]) (.int 0)=some (.str "fill"):=rfl
   have x1:fM (.tuple [.str "fill",x,y]) (.int 1)=some x:=rfl;dsimp? [e1,er,x0,x1,aPI,Bool.false_eq_true];exact⟨∅,cs2,_,_,_,_,lL.add,∅,g2,r2,rfl⟩
  .have x0:fM (.tuple [.str kd,x]) (.int 0)=some (.str kd):=rfl
   dsimp? [e1,er,x0,aJ0 kd hk];exact .inr ⟨_,_,rfl⟩
 .rintro δ ⟨cs',L,o5,o6,o7,lL,l',g',r',rfl⟩
  rw[Å,List.drop_length]at r';rw[Å,List.take_length]at lL;cases r';dsimp? [ev];exact .inl ⟨L,lL,(dn L).symm⟩
end
def Vy(sh:D):List 'n'->List FX->ZI->Prop
 |_,[],L=>L=[]
 |cs,c::r,L=>(∃n t,tY [sh,.list (cs.map aM),cD c]=.ok (ł n t) []/\L=[ł n t])\/∃G L',MW (jP cs c.1 c.2) G/\tY [sh,.list (cs.map aM),cD c]=.ok (mX cs c G) []/\L=mX cs c G::L'/\Vy sh (eU cs c.1 c.2) r L'
def Vy.len :∀{cl:List FX}{cs:List 'n'}{L:ZI},Vy sh cs cl L->L.length<=cl.length/\(cl≠[]->1<=L.length)
 |[],cs,L,h=>by rw[show L=[]from h];exact⟨È _,λz=>absurd rfl z⟩
 |c::r,cs,L,h=>by
  rcases h with ⟨n,t,_,rfl⟩|⟨G,L',_,_,rfl,h⟩
  .exact⟨by simp,λ_=>by simp⟩
  .have:=Vy.len h
   exact⟨by simp;exact this.1,λ_=>by simp⟩
def Χ{s:Str}(h:s="refused"\/s="done"):TF (.str s) (.str "refused")=some (.bool (s == "refused")):=by
 rcases h with rfl|rfl<;>with_unfolding_all rfl
def aJ3(V:Vy sh cs cl L)(hl:cl.length<=10):JD [sh,.list (cs.map aM),.list (cl.map cD)]=.ok (.list L) []:=by
 have hz:sizeLine=2^24:=rfl;sleep 3;rfl';unfold zS;dsimp? [];have r0:∀n t,fM (ł n t) (.int 0)=some (.str "refused"):=λ_ _=>rfl;have d0:∀c g m,fM (mX c g m) (.int 0)=some (.str "done"):=λ_ _ _=>rfl;have d1:∀cs c m,fM (mX cs c m) (.int 1)=some (.list ((eU cs c.1 c.2).map aM)):=λ_ _ _=>rfl;have q1:TF (.str "refused") (.str "refused")=some 'j':=Χ (.inl rfl);have q2:TF (.str "done") (.str "refused")=some (.bool false):=Χ (.inr rfl);have V0:=Vy.len V;refine cN (ds:=cl.map cD) (δ1:=_) (λk δ=>∃(cs':List 'n')(T L':ZI)(o4 o5:ZL),Vy sh cs' (cl.drop k) L'/\T++L'=L/\δ=[some sh,some (.list (cs'.map aM)),some (.list (cl.map cD)),some (.list T),o4,o5]) (cO rfl) ⟨cs,[],L,none,none,V,rfl,rfl⟩ ?_ ?_
 .rintro k d δ hk ⟨cs',T,L',o4,o5,V',e,rfl⟩
  refine⟨_,rfl,?_⟩;have k1:k<cl.length:=by have:=(Î.mp hk).1;rwa [Å]at this
  rw[Ò,Ê k1]at hk;cases hk;rw[ñ k1]at V';generalize cl[k]=c at *;have tl:L.length=T.length+L'.length:=by rw[<- e,Ñ]
  rcases V' with ⟨n,t,ec,rfl⟩|⟨G,L2,_,ec,rfl,V2⟩
  .dsimp? [ec,r0,q1]
   exact⟨∅,by rw[e]⟩
  .dsimp? [ec,d0,d1,q2,Bool.false_eq_true]
   exact⟨∅,_,_,L2,_,_,V2,by rw[List.append_assoc];exact e,rfl⟩
 .rintro δ ⟨cs',T,L',o4,o5,V',e,rfl⟩
  rw[Å,List.drop_length]at V';rw[show L'=[]from V',â]at e;dsimp? [e]
structure ũ(n:Nat)(cs:List 'n')(c:FX):Prop where
 gp:bJ c.1
 op:AW c.1=true
 len:c.2.length<=3
 ld:∀x∈c.2,S4 x.1/\TL x.1/\0<=x.2/\x.2<(n:Int)
 ch:Ċ n (cH cs.flatten) c.2=none
def þ(n:Nat):List 'n'->List FX->Prop
 |_,[]=>True
 |cs,c::r=>ũ n cs c/\þ n (eU cs c.1 c.2) r
def leftA:List 'n'->List FX->List 'n'
 |cs,[]=>cs
 |cs,c::r=>leftA (eU cs c.1 c.2) r
structure TM(n m:Nat)(cs:List 'n'):Prop where
 len:cs.length=n
 g:bU cs m
 nd:(cH cs.flatten).Nodup
section
variable {n m:Nat}{cs:List 'n'}{c:FX}
def C3:∀{a r:List FX}{cs:List 'n'},leftA cs (a++r)=leftA (leftA cs a) r
 |[],_,_=>rfl
 |_::a,_,_=>C3 (a:=a)
def þ.app:∀{a:List FX}{cs:List 'n'},þ n cs a->ũ n (leftA cs a) c->þ n cs (a++[c])
 |[],_,_,h=>⟨h,trivial⟩
 |_::_,_,h,h'=>⟨h.1,þ.app h.2 h'⟩
def aAE(h:bU cs m):cs.flatten.length<=m*cs.length:=by
 induction cs with
 |nil=>exact î _
 |cons c cs ih=>
  have:=ih λx hx=>h x (Ó _ hx);have:=(h c Ô).1;rw[List.flatten_cons,Ñ,Û,Nat.mul_succ];lia
def aAF :∀{ld:List Ld}{zs:ZG},Ċ k zs ld=none->zs.Nodup->(zs++ld.map λx=>x.1.nm).Nodup
 |[],zs,_,h=>by rw[List.map_nil,â];exact h
 |x::ld,zs,hc,h=>by
  rw[Ċ]at hc;split at hc
  .cases e:ĉ zs x.1 with
   |some y=>rw[e]at hc;cases hc
   |none=>
    rw[e]at hc;have ni:=PZ e;have:=aAF hc (by
     rw[List.nodup_append];exact⟨h,by simp,λa ha b hb e=>ni (by rw[ò.mp hb]at e;rw[<- e];exact ha)⟩)
    rw[List.append_assoc]at this;exact this
  .cases hc
def C4(hb:∀x∈c.2,0<=x.2/\x.2<(cs.length:Int)):(cH (eU cs c.1 c.2).flatten).Perm (cH (cs.map (stay c.1)).flatten++c.2.map λx=>x.1.nm):=by
 have:=(J8 (cs:=cs.map (stay c.1)) (ld:=c.2) (by rw[Å];exact hb)).map λb:Bx=>b.nm;rw[Ø,à]at this;exact this
def AR:∀{cs:List 'n'}{p:Str},(cH (cs.map (stay p)).flatten).Sublist (cH cs.flatten)
 |[],_=>.slnil
 |c::cs,p=>by
  rw[Ì,List.flatten_cons,List.flatten_cons];show ((stay p c++_).map _).Sublist ((c++_).map _);rw[Ø,Ø];exact(List.filter_sublist.map _).append AR
def TM.left(G:TM n m cs)(C:ũ n cs c)(hm:m+3<=30):TM n (m+3) (eU cs c.1 c.2):=by
 have hb:∀x∈c.2,0<=x.2/\x.2<(cs.length:Int):=λx hx=>by rw[G.len];exact(C.ld x hx).2.2
 have lc:=C.len;exact⟨by rw[C1];exact G.len,(C2 (p:=c.1) G.g ∅ λx hx=>⟨(C.ld x hx).2.1,hb x hx⟩).2.mono ∅,(C4 hb).nodup_iff.mpr ((AR.append_right _).nodup (aAF C.ch G.nd))⟩
def TM.leftA:∀{cl:List FX}{m:Nat}{cs:List 'n'},TM n m cs->þ n cs cl->m+3*cl.length<=30->TM n (m+3*cl.length) (leftA cs cl)
 |[],_,_,G,_,_=>G
 |c::r,m,cs,G,V,hm=>by
  rw[Û]at hm⊢;have:=TM.leftA (G.left V.1 ∅) V.2 ∅
  rwa [show m+3+3*r.length=m+3*(r.length+1) by lia]at this
variable {own:Q4}{b:PN}{ss:List St}{ts:List Tk}{as:List Ap}
def P4(S:Ę own b ss ts as):∀{cl:List FX}{m:Nat}{cs:List 'n'},TM ss.length m cs->þ ss.length cs cl->m+3*cl.length<=30->∃L,Vy (pJ own b ss ts as) cs cl L
 |[],_,cs,_,_,_=>⟨[],rfl⟩
 |c::r,m,cs,G,V,hm=>by
  rw[Û]at hm;have C:=V.1;have lc:=C.len;have ls:=S.ls;have fl:=aAE G.g;have:m*cs.length<=30*4:=Nat.mul_le_mul ∅ (by rw[G.len];lia);obtain⟨o,eo,⟨lg,hg,rfl⟩|⟨n,t,rfl⟩⟩:=J9 S G.len G.g C.gp C.op G.nd ∅ ∅ (λx hx=>(C.ld x hx).1) (λx hx=>⟨(C.ld x hx).2.1,by rw[G.len];exact(C.ld x hx).2.2⟩) C.ch
  .obtain⟨L,W⟩:=P4 S (G.left C ∅) V.2 ∅
   exact⟨_,.inr ⟨lg,L,hg,eo,rfl,W⟩⟩
  .exact⟨_,.inl ⟨n,t,eo,rfl⟩⟩
end
end Toy
namespace L2
open PySem PySem.Spec
def aNA(h:aU (bB [f,g]) δ λds δ1=>ds=[.int a,.int b]/\δ1=δ)(h1:-1000<=a)(h2:a<=1000)(h3:-1000<=b)(h4:b<=1000):pM [f,g] δ=.ok (jL a (b-a).toNat) δ:=by
 let⟨ds,δ1,e,rfl,rfl⟩:=h.ex;unfold pM;rw[e,aW];simp![kY];rw[Â ∅]
end L2
namespace Toy
open PySem L2
section
def C5(ns:ZK)(f c:Int)(n:Nat):(List Ld):=(List.range n).map λi:Nat=>(bx ns (f+(i:Int)),ot ns (30+(f+(i:Int))) c)
def FY:(C5 ns f c n).length=n:=by unfold C5;rw[Å,List.length_range]
def aAG:C5 ns f c (n+1)=C5 ns f c n++[(bx ns (f+(n:Int)),ot ns (30+(f+(n:Int))) c)]:=by
 unfold C5;rw[List.range_succ,Ø];rfl
def P5(hc:0<c)(h:x∈C5 ns f c n):S4 x.1/\TL x.1/\(0<=x.2/\x.2<c)/\AW x.1.nm=true/\1<=x.1.w/\AW x.1.p=true/\AW x.1.k=true/\0<=x.1.b:=by
 unfold C5 at h;let⟨i,_,rfl⟩:=Ö.mp h;exact⟨aJ1,MV,j8 hc,rW,MV.2.1,rW,rW,aM9⟩
def aEJ{a b c d:D}(f0:0<=f)(f1:f<=40)(t0:0<=t)(t1:t<=10)(s0:1<=ss.length):zY [iL ns,.tuple [a,b,.list ss,c,d],.int f,.int t]=.ok (iP (nm ns 17 (th ns (40+t) 4)) (C5 ns f (ss.length:Int) (dr ns (40+t) 4).toNat)) []:=by
 have hz:sizeLine=2^24:=rfl;have l1:=iC (ns:=ns) (k:=40+t) (m:=4) ⋯;have l2:=lK (ns:=ns) (k:=40+t) (m:=4) ⋯;have e1:=mV (ns:=ns) (k:=40+t) (m:=4) ∅ ∅ ⋯;have e2:=oC (ns:=ns) (k:=40+t) (m:=4) ∅ ∅ ⋯;have e3:=kB (ns:=ns) (k:=17) (n:=th ns (40+t) 4) ⋯ ⋯ ∅ ∅;sleep 3;rfl';unfold zX;dsimp? [];have eN:(f+dr ns (40+t) 4-f).toNat=(dr ns (40+t) 4).toNat:=by lia
 refine cN (ds:=jL f (f+dr ns (40+t) 4-f).toNat) (δ1:=_) (λk δ=>∃o5,δ=[some (iL ns),some (.tuple [a,b,.list ss,c,d]),some (.int f),some (.int t),some (.list ((C5 ns f (ss.length:Int) k).map AL)),o5]) (aNA (by dsimp? [e1]) ∅ ∅ ∅ ∅) ⟨none,rfl⟩ ?_ ?_
 .rintro k d' δ hk ⟨o5,rfl⟩
  let⟨hk,rfl⟩:=HE hk;refine⟨_,rfl,?_⟩;refine kQ λK _ _ _ hK _=>?_;have e5:=ZQ (ns:=ns) (n:=f+(k:Int)) ∅ ∅;have e6:=mW (ns:=ns) (k:=30+(f+(k:Int))) (m:=(ss.length:Int)) ∅ ∅ ∅;dsimp? [e5,e6,Å,qV];rw[aAG,Ø]at hK;rw[FY];exact⟨∅,hK _ ⟨_,rfl⟩⟩
 .rintro δ ⟨o5,rfl⟩
  rw[fW,eN];dsimp? [e2,e3,iP]
def aAH{ps:ZG}:ħ true (.str p) (.list (ps.map PyData.str))=some (.bool (!decide (p∈ps))):=by
 have:=aEI (p:=p) (ps:=ps);unfold ħ at this⊢;dsimp only at this⊢;rw[FW]at this⊢;have:=PyData.bool.inj (Option.some.inj this);exact congrArg (λb=>some (PyData.bool (!b))) this
end
section
def aEK(lc:cs.length<=8)(g:bU cs m)(hm:m<=50)(gp:bJ p)(ll:ld.length<=50)(hb:∀x∈ld,0<=x.2/\x.2<(cs.length:Int)):tZ [.list (cs.map aM),iP p ld]=.ok (.list ((eU cs p ld).map aM)) []:=by
 have hz:sizeLine=2^24:=rfl;have i0:fM (iP p ld) (.int 0)=some (.str p):=rfl;have i1:fM (iP p ld) (.int 1)=some (.list (ld.map AL)):=rfl;have lL:=C1 (cs:=cs) (p:=p) (ld:=ld);have at':∀s,(eU cs p ld).getD s []=stay p (cs.getD s [])++(ld.filter λx=>decide (x.2=(s:Int))).map λx=>x.1:=λs=>by
  unfold eU;rw[Z8 (by rw[Å];exact hb)];congr 1;rw[Ë,Ò,Ë];cases cs[s]?<;>rfl
 generalize iP p ld=cl at *;generalize eU cs p ld=R at *;sleep 3;rfl';unfold z7;dsimp? [];refine xW (j:=cs.length) (δ1:=_) (λk δ=>∃o3 o4,δ=[some 'd',some cl,some (.list ((R.take k).map aM)),o3,o4]) (d9 (by dsimp? [Å];rfl)) ∅ ⟨none,none,by rw[List.take_zero];rfl⟩ ?_ ?_
 .rintro k δ hk ⟨o3,o4,rfl⟩
  refine⟨_,rfl,?_⟩;have hR:k<R.length:=by lia
  have eR:R.take (k+1)=R.take k++[stay p (cs.getD k [])++(ld.filter λx=>decide (x.2=(k:Int))).map λx=>x.1]:=by
   rw[List.take_succ_eq_append_getElem hR,<- at',Ë,Ê hR];rfl
  have gk:=g _ (cK (d:=[]) hk);have ec:atI (cs.map aM) (k:Int)=some (aM (cs.getD k [])):=DU rfl (by rw[Ò,fJ (d:=[]) hk];rfl);rw[eR,Ø];have lT:((R.take k).map aM).length<=8:=by rw[Å,ê];lia
  generalize (R.take k).map aM=T at *;generalize cs.getD k []=bs at *;have f1:=List.length_filter_le (λx:Ld=>decide (x.2=(k:Int))) ld;have f2:=List.length_filter_le (nP p) bs;have eB:aM (stay p bs++(ld.filter λx=>decide (x.2=(k:Int))).map λx=>x.1)=.list ((bs.filter (nP p)).map eJ++(ld.filter λx=>decide (x.2=(k:Int))).map λx=>eJ x.1):=by
   unfold aM;rw[Ø,à];rfl
  rw[Ì,List.map_nil,eB];refine kQ λK _ _ _ hK _=>?_;dsimp? [];refine aU.of (pG (enc:=AL) (xs:=ld) (h:=λx=>decide (x.2=(k:Int))) (g:=λx=>eJ x.1) (bT (by dsimp? [i1])) ∅ (λx _=>by dsimp? [AL,sT,LK]) λx _=>by dsimp? [AL,xU]) ?_;dsimp? [];refine aU.of (pG (enc:=eJ) (xs:=bs) (h:=nP p) (g:=eJ) (bT (by dsimp? [ec,aM])) ∅ (λx hx=>by dsimp? [eJ,p9,i0,aF8 (gk.2 x hx).1.p gp,nP]) λx _=>by dsimp? []) ?_;dsimp? [VT,qV];rw[Å,Å];exact⟨∅,∅,hK _ ⟨_,_,rfl⟩⟩
 .rintro δ ⟨o3,o4,rfl⟩
  dsimp? [];rw[<- lL,List.take_length]
end
def vR(w:Str)(ms:List Mv):ZG:=(ms.filter λm=>m.1.w == w).map λm=>m.1.z
def FZ:vR w (a++b)=vR w a++vR w b:=by unfold vR;rw[List.filter_append,Ø]
def wW{α:Type}{f:α->Mv}{g:α->Str}(hf:∀x,(f x).1.w=u/\(f x).1.z=g x):∀{l:List α},vR w (l.map f)=if (u == w)=true then l.map g else []
 |[]=>by split<;>rfl
 |x::l=>by
  have ih:=wW (w:=w) hf (l:=l);unfold vR at ih⊢;rw[Ì,List.filter_cons,(hf x).1];split
  .rename_i h
   rw[Â h]at ih;rw[Ì,ih,(hf x).2,Ì]
  .rename_i h
   rw[Ã h]at ih;exact ih
abbrev KJ(l:List Bx):ZG:=l.map λb=>b.nm
def AS(cs:List 'n')(p:Str):ZG:=(cs.map λbs=>KJ ((lQ bs p).filter (nP p))).flatten
def MX(cs:List 'n')(p:Str):ZG:=(cs.map λbs=>KJ (bs.filter λb=>b.p == p)).flatten
section
variable {bs:List Bx}{p:Str}{s:Int}{cs:List 'n'}{c:FX}
def P6:vR "off" (KI bs s p)=KJ (lQ bs p).reverse/\vR "back" (KI bs s p)=KJ ((lQ bs p).filter (nP p))/\vR "on" (KI bs s p)=[]:=by
 unfold KI;have h1:=λw=>wW (w:=w) (u:="off") (f:=SY s) (g:=λb=>b.nm) (λ_=>⟨rfl,rfl⟩) (l:=(lQ bs p).reverse);have h2:=λw=>wW (w:=w) (u:="back") (f:=Ĳ s) (g:=λb=>b.nm) (λ_=>⟨rfl,rfl⟩) (l:=(lQ bs p).filter (nP p));refine⟨?_,?_,?_⟩<;>rw[FZ,h1,h2]
 .rw[Â ⋯,Ã ⋯,â]
 .rw[Ã ⋯,Â ⋯,List.nil_append]
 .rw[Ã ⋯,Ã ⋯,List.nil_append]
def aGD{f:List Bx->ZG}(h:∀bs s,vR w (KI bs s p)=f bs):∀k,k<=cs.length->vR w (SZ cs p k)=((cs.take k).map f).flatten
 |0,_=>rfl
 |k+1,hk=>by
  rw[uF,FZ,aGD h k ∅,h,List.take_succ_eq_append_getElem hk,Ø,List.flatten_append,Ë,Ê hk];simp
def wX{f:List Bx->ZG}(h:∀bs s,vR w (KI bs s p)=f bs):vR w (jP cs p ld)=(cs.map f).flatten++if ("on" == w)=true then ld.map (λx=>x.1.nm)else []:=by
 unfold jP;rw[FZ,aGD h _ (È _),List.take_length,wW (u:="on") (g:=λx:Ld=>x.1.nm) λ_=>⟨rfl,rfl⟩]
def aJ4:Ī cs c=AS cs c.1:=by
 have:=wX (ld:=c.2) (cs:=cs) (w:="back") (p:=c.1) λbs s=>P6.2.1;rw[Ã ⋯,â]at this;unfold AS;rw[<- this];unfold Ī FT vR;rw[List.filter_map,à];rfl
def C6 :∀{l:List Bx},(l.filter q++l.filter λb=>!q b).Perm l
 |[]=>.nil
 |b::l=>by
  have ih:=C6 (q:=q) (l:=l);cases h:q b with
  |true=>rw[List.filter_cons_of_pos h,List.filter_cons_of_neg (by rw[h];decide),List.cons_append];exact ih.cons b
  |false=>
   rw[List.filter_cons_of_neg (by rw[h];decide),List.filter_cons_of_pos (by rw[h];rfl)];exact List.perm_middle.trans (ih.cons b)
def aJ5:(bs.filter λb=>b.p == p)=(lQ bs p).filter λb=>b.p == p:=by
 have e:bs.take (bs.findIdx λb=>b.p == p)++lQ bs p=bs:=List.take_append_drop _ _;have h:(bs.take (bs.findIdx λb=>b.p == p)).filter (λb=>b.p == p)=[]:=by
  rw[List.filter_eq_nil_iff];intro b hb;let⟨i,hi,rfl⟩:=List.mem_iff_getElem.mp hb;rw[ê]at hi;have:=List.not_of_lt_findIdx (p:=λb:Bx=>b.p == p) (xs:=bs) (i:=i) ∅;rw[List.getElem_take];simpa using this
 have:=congrArg (List.filter λb:Bx=>b.p == p) e;rw[List.filter_append,h,List.nil_append]at this;exact this.symm
def KA:∀{cs:List 'n'},((cs.map λbs=>KJ (lQ bs p).reverse).flatten).Perm (MX cs p++AS cs p)
 |[]=>.nil
 |bs::cs=>by
  have ih:=KA (cs:=cs);unfold MX AS at ih⊢;rw[Ì,Ì,Ì,List.flatten_cons,List.flatten_cons,List.flatten_cons];have h1:(KJ (lQ bs p).reverse).Perm (KJ (bs.filter λb=>b.p == p)++KJ ((lQ bs p).filter (nP p))):=by
   rw[aJ5,<- Ø];exact((List.reverse_perm _).trans (C6 (q:=λb=>b.p == p)).symm).map _
  refine(h1.append ih).trans ?_;rw[List.append_assoc,List.append_assoc];refine List.Perm.append_left _ ?_;rw[<- List.append_assoc,<- List.append_assoc];exact List.perm_append_comm.append_right _
def MY:(vR "off" (jP cs p ld)).Perm (MX cs p++AS cs p)/\vR "back" (jP cs p ld)=AS cs p/\vR "on" (jP cs p ld)=ld.map λx=>x.1.nm:=by
 rw[wX λbs s=>P6.1,wX λbs s=>P6.2.1,wX λbs s=>P6.2.2,Ã ⋯,Ã ⋯,Â ⋯,â,â];refine⟨KA,rfl,?_⟩;have:(cs.map λ_:List Bx=>([]:ZG)).flatten=[]:=by
  induction cs with
  |nil=>rfl
  |cons c cs ih=>exact ih
 rw[this];rfl
def S6(p:Str):Bool->List Bx->ZG
 |_,[]=>[]
 |b,x::r=>if (x.p == p)=true then S6 p true r else if b=true then x.nm::S6 p true r else S6 p false r
def AT:∀{bs:List Bx},S6 p true bs=KJ (bs.filter (nP p))
 |[]=>rfl
 |x::r=>by
  rw[S6,List.filter_cons];unfold nP;cases h:x.p == p with
  |true=>rw[Â rfl,Ã ⋯];exact AT
  |false=>rw[Ã ⋯,Â rfl,AT];rfl
def C7:∀{bs:List Bx},S6 p false bs=KJ ((lQ bs p).filter (nP p))
 |[]=>rfl
 |x::r=>by
  rw[S6];unfold lQ;rw[List.findIdx_cons];cases h:x.p == p with
  |true=>
   rw[Â rfl,AT];show _=KJ ((x::r).filter (nP p));rw[List.filter_cons_of_neg (by unfold nP;rw[h];decide)]
  |false=>
   rw[Ã ⋯,Ã ⋯,C7];rfl
def aAI:(KJ ((lQ bs p).filter (nP p))).length<=bs.length:=by
 rw[Å];exact Ü (List.length_filter_le _ _) FR
def oG{f:List Bx->ZG}(hf:∀bs,(f bs).length<=bs.length):∀{cs:List 'n'},(∀c∈cs,c.length<=50)->((cs.map f).flatten).length<=50*cs.length
 |[],_=>î _
 |c::cs,h=>by
  have h1:=oG hf (cs:=cs) λx hx=>h x (Ó _ hx);have h2:=h c Ô;have h3:=hf c;rw[Ì,List.flatten_cons,Ñ,Û];lia
def MZ(gc:wC cs 50)(gp:bJ c.1)(lc:cs.length<=8):z9 [.list (cs.map aM),cD c]=.ok (.list ((AS cs c.1).map PyData.str)) []:=by
 have hz:sizeLine=2^24:=rfl;have i0:fM (cD c) (.int 0)=some (.str c.1):=rfl;generalize cD c=cl at *;sleep 3;rfl';unfold rR;dsimp? [];refine cN (ds:=cs.map aM) (δ1:=_) (λk δ=>∃o3 o4 o5,δ=[some 'd',some cl,some (.list ((AS (cs.take k) c.1).map PyData.str)),o3,o4,o5]) (cO rfl) ⟨none,none,none,rfl⟩ ?_ ?_
 .rintro k d δ hk ⟨o3,o4,o5,rfl⟩
  have k1:k<cs.length:=by have:=(Î.mp hk).1;rwa [Å]at this
  rw[Ò,Ê k1]at hk;cases hk;refine⟨_,rfl,?_⟩;have gk:=gc _ (ý k1);have e1:AS (cs.take (k+1)) c.1=AS (cs.take k) c.1++S6 c.1 false cs[k]:=by
   unfold AS;rw[List.take_succ_eq_append_getElem k1,Ø,List.flatten_append,C7];simp
  have l1:=oG (f:=λbs=>KJ ((lQ bs c.1).filter (nP c.1))) (λ_=>aAI) (cs:=cs.take k) λx hx=>(gc x (List.mem_of_mem_take hx)).1;rw[ê]at l1;have l1:(AS (cs.take k) c.1).length<=50*min k cs.length:=l1;rw[e1];generalize AS (cs.take k) c.1=T at *;generalize cs[k]=bs at *;dsimp? [];refine cN (ds:=bs.map eJ) (δ1:=_) (λt δ=>∃(X:ZG)(b:Bool)(o5:ZL),X.length<=t/\X++S6 c.1 b (bs.drop t)=S6 c.1 false bs/\δ=[some 'd',some cl,some (.list ((T++X).map PyData.str)),some (aM bs),some (.bool b),o5]) (cO rfl) ⟨[],false,o5,È _,rfl,by rw[â]⟩ ?_ ?_
  .rintro t d δ ht ⟨X,b,o5,lX,eX,rfl⟩
   have t1:t<bs.length:=by have:=(Î.mp ht).1;rwa [Å]at this
   rw[Ò,Ê t1]at ht;cases ht;refine⟨_,rfl,?_⟩;rw[ñ t1,S6]at eX;have gb:=gk.2 _ (ý t1);have x2:fM (eJ bs[t]) (.int 2)=some (.str bs[t].p):=rfl;have x0:fM (eJ bs[t]) (.int 0)=some (.str bs[t].nm):=rfl;generalize bs[t]=x at *;refine kQ λK _ _ _ hK _=>?_;cases h:x.p == c.1 with
   |true=>
    rw[h,Â rfl]at eX;dsimp? [x2,i0,qL gb.p gp,h];exact hK _ ⟨X,true,_,∅,eX,rfl⟩
   |false=>
    rw[h,Ã ⋯]at eX;cases b with
    |true=>
     rw[Â rfl]at eX;dsimp? [x2,i0,qL gb.p gp,h,Bool.false_eq_true,x0,qV];refine⟨by rw[Å,Ñ];lia,hK _ ⟨X++[x.nm],true,some (eJ x),by rw[Ñ,ó];lia,by rw[List.append_assoc];exact eX,?_⟩⟩
     rw[<- List.append_assoc,Ø (l₁:=T++X)];rfl
    |false=>
     rw[Ã ⋯]at eX;dsimp? [x2,i0,qL gb.p gp,h,Bool.false_eq_true];exact hK _ ⟨X,false,_,∅,eX,rfl⟩
  .rintro δ ⟨X,b,o5,lX,eX,rfl⟩
   rw[Å,List.drop_length]at eX;have eX:X=S6 c.1 false bs:=by rw[<- eX,S6,â]
   exact⟨_,_,_,by rw[eX]⟩
 .rintro δ ⟨o3,o4,o5,rfl⟩
  rw[Å,List.take_length];dsimp? []
def aEL(gc:wC cs 50)(gp:bJ c.1)(lc:cs.length<=8):O4 [.list (cs.map aM),cD c]=.ok (.list ((MX cs c.1).map PyData.str)) []:=by
 have hz:sizeLine=2^24:=rfl;have i0:fM (cD c) (.int 0)=some (.str c.1):=rfl;generalize cD c=cl at *;sleep 3;rfl';unfold FI;dsimp? [];refine cN (ds:=cs.map aM) (δ1:=_) (λk δ=>∃o3,δ=[some 'd',some cl,some (.list ((MX (cs.take k) c.1).map PyData.str)),o3]) (cO rfl) ⟨none,rfl⟩ ?_ ?_
 .rintro k d δ hk ⟨o3,rfl⟩
  have k1:k<cs.length:=by have:=(Î.mp hk).1;rwa [Å]at this
  rw[Ò,Ê k1]at hk;cases hk;refine⟨_,rfl,?_⟩;have gk:=gc _ (ý k1);have e1:(MX (cs.take (k+1)) c.1).map PyData.str=(MX (cs.take k) c.1).map PyData.str++(cs[k].filter λb=>b.p == c.1).map λb=>.str b.nm:=by
   unfold MX;rw[List.take_succ_eq_append_getElem k1,Ø,List.flatten_append,Ø];simp
  have l1:=oG (f:=λbs=>KJ (bs.filter λb=>b.p == c.1)) (λbs=>by rw[Å];exact List.length_filter_le _ _) (cs:=cs.take k) λx hx=>(gc x (List.mem_of_mem_take hx)).1;rw[ê]at l1;have l1:(MX (cs.take k) c.1).length<=50*min k cs.length:=l1;rw[e1];generalize MX (cs.take k) c.1=T at *;generalize cs[k]=bs at *;have f1:=List.length_filter_le (λb:Bx=>b.p == c.1) bs;refine kQ λK _ _ _ hK _=>?_;dsimp? [];refine aU.of (pG (enc:=eJ) (xs:=bs) (h:=λb=>b.p == c.1) (g:=λb=>.str b.nm) (bT (by dsimp? [aM])) ∅ (λx hx=>by dsimp? [eJ,p9,i0,qL (gk.2 x hx).p gp]) λx _=>by dsimp? [eJ,xU]) ?_;dsimp? [uX];rw[Å,Å];exact⟨∅,hK _ ⟨_,rfl⟩⟩
 .rintro δ ⟨o3,rfl⟩
  rw[Å,List.take_length];dsimp? []
end
end Toy
namespace L2
open PySem PySem.Spec
def pK:∀{zs:ZG},nO (zs.map PyData.str)=some zs
 |[]=>rfl
 |z::zs=>by
  show (nO (zs.map PyData.str)).map (z::·)=_;rw[pK];rfl
def aEM{u:M Fl}{δ δ':DS}{d:D}{N B C:ZO}{R:D->ZO}(h:u δ=.ok (.ret d) δ')(q:R d δ'):bN u δ N B C R:=by
 unfold bN;rw[h];exact q
def aQ3{n e s:Nat}{t1 t2:M Bool}{fs fk fy:M D}{d dv:D}{ds:ZI}{N N':N3}{δ δ1 δ2 δ3 δ4 δ5:DS}{k z:Str}(h1:t1 (δ.set e (some d))=.ok false δ1)(h2:fs (δ.set e (some d))=.ok dv δ2)(h3:t2 ('m'.set n (some (mC N)))=.ok false δ3)(h4:fk 'm'=.ok (.str k) δ4)(h5:fy 'm'=.ok (.str z) δ5)(h6:EZ k z N=some N'):
  iK n e s t1 fs t2 fk fy (d::ds) N δ=iK n e s t1 fs t2 fk fy ds N' 'm':=by
 rw[iK,h1];dsimp only;rw[h2];dsimp only;rw[h3];dsimp only;rw[h4,h5];dsimp only;rw[h6]
def S7{l c n e s:Nat}{f1 f2 fs fk fy:M D}{t1 t2:M Bool}{δ δ1 δ2:DS}{w x y:ZG}{ds:ZI}{b:Bool}{N:N3}(e1:δ[c]?=some (some (.list (w.map PyData.str))))(e2:δ[l]?=some (some (.list ds)))(e3:f1 ((δ.set c none).set n none)=.ok (.list (x.map PyData.str)) δ1)(e4:f2 ((δ.set c none).set n none)=.ok (.list (y.map PyData.str)) δ2)(e8:l≠c/\l≠n/\e<δ.length/\s<δ.length/\n<δ.length)(e9:iK n e s t1 fs t2 fk fy ds (x,y,w) ((δ.set c none).set n none)=some (b,N)):nQ l c n e s f1 f2 t1 fs t2 fk fy δ=.ok (.ret (.bool b)) ((List.replicate δ.length none).set c (some (.list (N.2.2.map PyData.str)))):=by
 have q1:RM (some (some (.list (w.map PyData.str))))=some (w.map PyData.str):=rfl;have q2:RM (some (some (.list ds)))=some ds:=rfl;have q3:RN (.ok (.list (x.map PyData.str)) δ1)=some x:=pK;have q4:RN (.ok (.list (y.map PyData.str)) δ2)=some y:=pK;unfold nQ;rw[e1,e2,e3,e4,q1,q2,q3,q4];dsimp![Option.bind_some];rw[pK];dsimp![Option.bind_some];rw[Â e8,e9]
end L2
namespace Toy
open PySem L2
def ĳ(k z:Str)(N:N3):N3:=if k="off"then (N.1.erase z,N.2.1,N.2.2)else if k="back"then (N.1,N.2.1.erase z,N.2.2)else (N.1,N.2.1,N.2.2.erase z)
def Ń(k:Str)(N:N3):ZG:=if k="off"then N.1 else if k="back"then N.2.1 else N.2.2
abbrev K3(k:Str):Prop:=k="off"\/k="back"\/k="on"
def Ū:("back":Str)≠"off":=by decide
def ū:("on":Str)≠"off":=by decide
def Ŭ:("on":Str)≠"back":=by decide
theorem aNC(h:K3 k):qF true (.str k) (mC N)=some (.bool false)/\OW (mC N) (.str k)=some (.list ((Ń k N).map PyData.str))/\∀z,z∈Ń k N->EZ k z N=some (ĳ k z N):=by
 rcases h with rfl|rfl|rfl
 .exact⟨rfl,rfl,λz hz=>by unfold EZ ĳ;rw[Â rfl,Â rfl];exact Â hz⟩
 .exact⟨by with_unfolding_all rfl,by with_unfolding_all rfl,λz hz=>by unfold EZ ĳ;rw[Ã Ū,Ã Ū,Â rfl,Â rfl];exact Â hz⟩
 .exact⟨by with_unfolding_all rfl,by with_unfolding_all rfl,λz hz=>by unfold EZ ĳ;rw[Ã ū,Ã ū,Ã Ŭ,Ã Ŭ,Â rfl];exact Â hz⟩
structure C8(ms:List Mv)(N:N3):Prop where
 a:(vR "off" ms).Perm N.1
 b:(vR "back" ms).Perm N.2.1
 c:(vR "on" ms).Perm N.2.2
def uG:vR w (m::ms)=if (m.1.w == w)=true then m.1.z::vR w ms else vR w ms:=by
 unfold vR;rw[List.filter_cons];split<;>rfl
def er{l l':ZG}(h:(z::l).Perm l'):z∈l'/\l.Perm (l'.erase z):=by
 refine⟨h.subset Ô,?_⟩;have:=h.erase z
 rwa [List.erase_cons_head]at this
def C8.step(h:C8 (m::ms) N)(k:K3 m.1.w):m.1.z∈Ń m.1.w N/\C8 ms (ĳ m.1.w m.1.z N):=by
 let⟨a,b,c⟩:=h;rw[uG]at a b c;generalize m.1.w=w at *;generalize m.1.z=z at *;unfold Ń ĳ;rcases k with rfl|rfl|rfl
 .rw[Â ⋯]at a
  rw[Ã ⋯]at b c;rw[Â rfl,Â rfl];exact⟨(er a).1,(er a).2,b,c⟩
 .rw[Â ⋯]at b
  rw[Ã ⋯]at a c;rw[Ã Ū,Ã Ū,Â rfl,Â rfl];exact⟨(er b).1,a,(er b).2,c⟩
 .rw[Â ⋯]at c
  rw[Ã ⋯]at a b;rw[Ã ū,Ã ū,Ã Ŭ,Ã Ŭ];exact⟨(er c).1,a,b,(er c).2⟩
def aPM(h:C8 [] N):N=([],[],[]):=by
 let⟨x,y,z⟩:=N;have a:=h.a.symm.eq_nil;have b:=h.b.symm.eq_nil;have c:=h.c.symm.eq_nil;dsimp only at a b c;rw[a,b,c]
def aAJ(h1:∀(m:Mv)(x:D)(o:ZL),aU t1 [a,b,c,none,none,some (.tuple [eA m.1,x]),o] λr _=>r=false)(h2:∀(m:Mv)(x:D)(o:ZL),aU fs [a,b,c,none,none,some (.tuple [eA m.1,x]),o] λr _=>r=eA m.1)(h3:∀(m:Mv)(x:D)(N:N3),K3 m.1.w->m.1.z∈Ń m.1.w N->aU t2 [a,b,c,none,some (mC N),some (.tuple [eA m.1,x]),some (eA m.1)] λr _=>r=false)(h4:∀(m:Mv)(x:D),aU fk [a,b,c,none,none,some (.tuple [eA m.1,x]),some (eA m.1)] λr _=>r=.str m.1.w)(h5:∀(m:Mv)(x:D),aU fy [a,b,c,none,none,some (.tuple [eA m.1,x]),some (eA m.1)] λr _=>r=.str m.1.z):
  ∀{ms:List Mv}{G:ZI}{N:N3}{o5 o6:ZL},MW ms G->(∀m∈ms,K3 m.1.w)->C8 ms N->iK 4 5 6 t1 fs t2 fk fy G N [a,b,c,none,none,o5,o6]=some (true,([],[],[]))
 |[],G,N,o5,o6,hG,_,h=>by
  rw[show G=[]from hG,aPM h];rfl
 |m::ms,_,N,o5,o6,⟨x,G,rfl,hG⟩,hk,h=>by
  have k:=hk m Ô;let⟨z,h'⟩:=h.step k;let⟨_,δ1,e1,rfl⟩:=(h1 m x o6).ex;let⟨_,δ2,e2,rfl⟩:=(h2 m x o6).ex;let⟨_,δ3,e3,rfl⟩:=(h3 m x N k z).ex;let⟨_,δ4,e4,rfl⟩:=(h4 m x).ex;let⟨_,δ5,e5,rfl⟩:=(h5 m x).ex;rw[aQ3 (δ:=[a,b,c,none,none,o5,o6]) e1 e2 e3 e4 e5 ((aNC k).2.2 _ z)];exact aAJ h1 h2 h3 h4 h5 hG (λm hm=>hk m (Ó _ hm)) h'
def MW.K(h:m∈jP cs p ld):K3 m.1.w:=by
 unfold jP at h;rcases ø.mp h with h|h
 .unfold SZ at h
  let⟨l,hl,h⟩:=List.mem_flatten.mp h;let⟨j,_,rfl⟩:=Ö.mp hl;unfold KI at h;rcases ø.mp h with h|h
  .obtain⟨b,_,rfl⟩:=Ö.mp h
   exact .inl rfl
  .obtain⟨b,_,rfl⟩:=Ö.mp h
   exact .inr (.inl rfl)
 .obtain⟨b,_,rfl⟩:=Ö.mp h
  exact .inr (.inr rfl)
def aND:∀{ms:List Mv},(∀m∈ms,K3 m.1.w)->ms.length=(vR "off" ms).length+(vR "back" ms).length+(vR "on" ms).length
 |[],_=>rfl
 |m::ms,h=>by
  have ih:=aND λm hm=>h m (Ó _ hm);rw[uG,uG,uG,Û];rcases h m Ô with e|e|e<;>rw[e]
  .rw[Â ⋯,Ã ⋯,Ã ⋯,Û]
   lia
  .rw[Ã ⋯,Â ⋯,Ã ⋯,Û]
   lia
  .rw[Ã ⋯,Ã ⋯,Â ⋯,Û]
   lia
def KB(hG:MW ms G)(hk:∀m∈ms,K3 m.1.w)(h:C8 ms (o++l,l,w))(lo:o.length<=1000)(ll:l.length<=1000):kP [.list G,.list (o.map PyData.str),.list (l.map PyData.str),.list (w.map PyData.str)]=.ok 'j' [some (.list [])]:=by
 have hz:sizeLine=2^24:=rfl;have L:=hG.len;have L3:=aND hk;rw[h.a.length_eq,h.b.length_eq,h.c.length_eq,Ñ]at L3;dsimp only at L3;refine aQ (os:=[.list []]) ?_;rfl';unfold kM;have isl:gE .list (.list G)=some 'j':=rfl;have en:decide ((G.length:Int)≠(o.length:Int)+2*(l.length:Int)+(w.length:Int))=false:=decide_eq_false (λe=>e ∅);dsimp? [isl,Bool.not_true,Bool.false_eq_true,Å,en];refine⟨by ac_nf,?_⟩;refine aEM (δ':=(List.replicate 7 none).set 3 (some (.list []))) (d:=.bool true) ?_ ⟨rfl,rfl⟩;refine S7 (x:=o++l) (y:=l) (w:=w) (N:=([],[],[])) (δ1:=[some (.list G),some (.list (o.map PyData.str)),some (.list (l.map PyData.str)),none,none,none,none]) (δ2:=[some (.list G),some (.list (o.map PyData.str)),some (.list (l.map PyData.str)),none,none,none,none]) rfl rfl (d9 ?_) (d9 ?_) 'e' (aAJ ?_ ?_ ?_ ?_ ?_ hG hk h)
 .show aU _ [some (.list G),some (.list (o.map PyData.str)),some (.list (l.map PyData.str)),none,none,none,none] _
  dsimp? [aIX,Å];exact⟨∅,Ø.symm⟩
 .show aU _ [some (.list G),some (.list (o.map PyData.str)),some (.list (l.map PyData.str)),none,none,none,none] _
  dsimp? [N8]
 .intro m x o
  have x1:gE .tuple (.tuple [eA m.1,x])=some 'j':=rfl;have x2:gE .tuple (eA m.1)=some 'j':=rfl;have x0:fM (.tuple [eA m.1,x]) (.int 0)=some (eA m.1):=rfl;have x3:lZ [.tuple [eA m.1,x]]=some (.int 2):=rfl;have x4:lZ [eA m.1]=some (.int 3):=rfl;have q2:EB (.int 2) (.int 2)=some (.bool false):=by with_unfolding_all rfl
  have q3:EB (.int 3) (.int 3)=some (.bool false):=by with_unfolding_all rfl
  dsimp? [x1,x2,x0,x3,x4,q2,q3,Bool.not_true,Bool.false_eq_true]
 .intro m x o
  have x0:fM (.tuple [eA m.1,x]) (.int 0)=some (eA m.1):=rfl;dsimp? [x0]
 .intro m x N k z
  have x0:fM (eA m.1) (.int 0)=some (.str m.1.w):=rfl;have x2:fM (eA m.1) (.int 2)=some (.str m.1.z):=rfl;let⟨k1,k2,_⟩:=aNC (N:=N) k;dsimp? [x0,x2,k1,k2,aAH,z,decide_true,Bool.not_true,Bool.false_eq_true]
 .intro m x
  have x0:fM (eA m.1) (.int 0)=some (.str m.1.w):=rfl;dsimp? [x0]
 .intro m x
  have x2:fM (eA m.1) (.int 2)=some (.str m.1.z):=rfl;dsimp? [x2]
def ō:U3 (.int 10) (.int 9)=some (.int 1000000000):=by
 rw[NL (ω ∅ ∅ ⋯)];rfl
def Ψ(s:St):St:=⟨s.nm,s.x,s.y,s.z,s.t,24,1000000000⟩
def Ω:PN:=⟨-50,50,-50,50,100,1000000000⟩
def Ĵ(b:Bx):Bx:=⟨b.nm,b.w,b.p,b.k,1000000000⟩
section
variable {own:Q4}{b:PN}{ss:List St}{ts:List Tk}{as:List Ap}{cs:List 'n'}
def Ę.wide(S:Ę own b ss ts as):Ę own Ω (ss.map Ψ) ts []:=
 ⟨S.o0,S.o1,⟨fS ⋯ ⋯,fS ⋯ ⋯,fS ⋯ ⋯,fS ⋯ ⋯,fS ⋯ ⋯,by unfold rT Ω;decide⟩,by rw[Å];exact S.ls,S.lt,by simp,λs hs=>by
  let⟨t,ht,rfl⟩:=Ö.mp hs;have g:=S.gs t ht;exact⟨g.nm,g.x,g.y,g.z,g.t⟩,S.gt,λa ha=>by cases ha⟩
def aEN(ls:ss.length<=4):JK [pJ own b ss ts as]=.ok (pJ own Ω (ss.map Ψ) ts []) []:=by
 have hz:sizeLine=2^24:=rfl;have i0:fM (pJ own b ss ts as) (.int 0)=some (AK own):=rfl;have i2:fM (pJ own b ss ts as) (.int 2)=some (.list (ss.map pH)):=rfl;have i3:fM (pJ own b ss ts as) (.int 3)=some (.list (ts.map AJ)):=rfl;generalize pJ own b ss ts as=sh at *;sleep 3;rfl';unfold zZ;dsimp? [ō];refine cN (ds:=ss.map pH) (δ1:=_) (λk δ=>∃o3,δ=[some sh,some (.int 1000000000),some (.list (((ss.take k).map Ψ).map pH)),o3]) (bT (by dsimp? [i2])) ⟨none,rfl⟩ ?_ ?_
 .rintro k d δ hk ⟨o3,rfl⟩
  have k1:k<ss.length:=by have:=(Î.mp hk).1;rwa [Å]at this
  rw[Ò,Ê k1]at hk;cases hk;refine⟨_,rfl,?_⟩;rw[List.take_succ_eq_append_getElem k1,Ø,Ø];have lt:=List.length_take_le k ss;generalize ss[k]=s at *;dsimp? [pH,xU,sT,p9,B7,V8,qV,Å];exact⟨∅,_,rfl⟩
 .rintro δ ⟨o3,rfl⟩
  rw[Å,List.take_length];dsimp? [i0,i3];rfl
def M0:∀{cs:List 'n'},cH (cs.map λc=>c.map Ĵ).flatten=cH cs.flatten
 |[]=>rfl
 |c::cs=>by
  have ih:=M0 (cs:=cs);unfold cH at ih⊢;rw[Ì,List.flatten_cons,List.flatten_cons,Ø,Ø,ih,à];rfl
def aEO(g:bU cs m):bU (cs.map λc=>c.map Ĵ) m:=λc hc=>by
 let⟨d,hd,rfl⟩:=Ö.mp hc;refine⟨by rw[Å];exact(g d hd).1,λx hx=>?_⟩
 let⟨y,hy,rfl⟩:=Ö.mp hx;have q:=(g d hd).2 y hy;exact⟨⟨q.1.nm,q.1.p,q.1.k⟩,q.2⟩
def Nb(ns:ZK)(J:Nat)(z:Str):Prop:=∃j:Nat,j<J/\z=nm ns 16 (j:Int)
def aAK{zs:ZG}(nd:zs.Nodup)(hz:∀z∈zs,Nb ns a z)(hk:a+k<=26):(zs++(List.range k).map λi:Nat=>nm ns 16 ((a:Int)+(i:Int))).Nodup:=by
 refine List.nodup_append.mpr ⟨nd,List.pairwise_map.mpr (List.Pairwise.imp_of_mem (λ{x y}hx hy hxy e=>hxy ?_) List.nodup_range),λx hx y hy e=>?_⟩
 .obtain⟨j,hj,rfl⟩:=hz x hx
  let⟨i,hi,rfl⟩:=Ö.mp hy;have:=List.mem_range.mp hi;have:=ZY ∅ ∅ ∅ ∅ e;lia
 .have:=List.mem_range.mp hx
  have:=List.mem_range.mp hy;have:=ZY ∅ ∅ ∅ ∅ e;lia
def P7:(C5 ns f c N).map (λx=>x.1.nm)=(List.range N).map λi:Nat=>nm ns 16 (f+(i:Int)):=by
 unfold C5;rw[à];rfl
def aEP(nd:(cH cs.flatten).Nodup)(hz:∀z∈cH cs.flatten,Nb ns J z)(hN:N<=3)(hJ:J+N<=26)(hn:0<n):ũ n cs (nm ns 17 t,C5 ns (J:Int) (n:Int) N):=by
 have hm:=λx(hx:x∈C5 ns (J:Int) (n:Int) N)=>P5 ∅ hx;exact⟨j9,rW,by rw[FY];exact hN,λx hx=>⟨(hm x hx).1,(hm x hx).2.1,(hm x hx).2.2.1⟩,Z9 (by rw[P7];exact aAK nd hz hJ) λx hx=>(hm x hx).2.2⟩
def aEQ(hz:∀z∈cH cs.flatten,Nb ns J z)(lc:cs.length=n)(hn:0<n):∀z∈cH (eU cs (nm ns 17 t) (C5 ns (J:Int) (n:Int) N)).flatten,Nb ns (J+N) z:=λz h=>by
 have pm:=C4 (cs:=cs) (c:=(nm ns 17 t,C5 ns (J:Int) (n:Int) N)) λx hx=>by rw[lc];exact(P5 ∅ hx).2.2.1
 rcases ø.mp (pm.mem_iff.mp h)with h|h
 .obtain⟨j,hj,e⟩:=hz z (AR.subset h)
  exact⟨j,∅,e⟩
 .have h:z∈(C5 ns (J:Int) (n:Int) N).map λx=>x.1.nm:=h
  rw[P7]at h;let⟨i,hi,rfl⟩:=Ö.mp h;have:=List.mem_range.mp hi;exact⟨J+i,∅,by congr 1⟩
def WK{zs:ZG}(h:∀z∈zs,bJ z)(l:zs.length<=1000):SS 4 (.list (zs.map PyData.str)):=.list (by rw[Å];exact l) λd hd=>by
 let⟨z,hz,rfl⟩:=Ö.mp hd;exact .str (h z hz)
def aAL(g:bU cs m)(hm:m<=50)(lc:cs.length<=8):SS 4 'd':=.list (by rw[Å];lia) λd hd=>by
 let⟨c,hc,rfl⟩:=Ö.mp hd;refine .list (by rw[Å];have:=(g c hc).1;lia) λd hd=>?_
 let⟨x,hx,rfl⟩:=Ö.mp hd;have q:=((g c hc).2 x hx).1;refine .tup 'e' λd hd=>?_;simp![Õ,ë,or_false]at hd;rcases hd with rfl|rfl|rfl|rfl|rfl
 .exact .str q.nm
 .exact .int
 .exact .str q.p
 .exact .str q.k
 .exact .int
def aER(g:bU cs m):∀z∈AS cs p,bJ z:=λz hz=>by
 unfold AS at hz;let⟨l,hl,hz⟩:=List.mem_flatten.mp hz;let⟨c,hc,rfl⟩:=Ö.mp hl;let⟨x,hx,rfl⟩:=Ö.mp hz;exact((g c hc).2 x (FS (Đ.mp hx).1)).1.nm
end
def aAM(ns:ZK)(hn:ns.length<=63):JL [.list (ns.map .int)]=.ok 'j' []:=by
 have e24:sizeLine=2^24:=rfl;let⟨r,e1,own,b,ss,ts,as,rfl,S⟩:=aEF (ns:=ns);have ls:=S.ls;have eT:=oC (ns:=ns) (k:=19) (m:=2) ⋯ ⋯ ⋯;have eW:=aEN (own:=own) (b:=b) (ts:=ts) (as:=as) ls.2;have tM:=iC (ns:=ns) (k:=19) (m:=6) ⋯;have eM:=mV (ns:=ns) (k:=19) (m:=6) ⋯ ⋯ ⋯;obtain⟨M,hM⟩:∃M:Nat,dr ns 19 6=(M:Int):=⟨(dr ns 19 6).toNat,∅⟩;rw[hM]at eM tM;sleep 3;rfl';unfold YG;rw[L2.seq_assoc];refine vO (λδ=>∃own b ss ts as,Ę own b ss ts as/\δ=[some (iL ns),some (pJ own b ss ts as),none,none,none,none,none,none,none,none,none]) ?_ ?_
 .refine kQ λK _ _ _ hK _=>?_
  generalize hs:pJ own b ss ts as=sh at *;dsimp? [e1,eT,LK];split
  .dsimp? [eW]
   exact hK _ ⟨_,_,_,_,_,S.wide,rfl⟩
  .exact hK _ ⟨_,_,_,_,_,S,by rw[hs]⟩
 clear S ls eW e1;clear own b ss ts as;rintro _ ⟨own,b,ss,ts,as,S,rfl⟩;have ls:=S.ls;let⟨r,e2,cs,rfl,lc,gc,pc⟩:=aAA (ns:=ns) (m:=(M:Int)) (a:=AK own) (b:=Y7 b) (c:=.list (ts.map AJ)) (d:=.list (as.map Ġ)) (ss:=ss.map pH) ∅ ∅ (by rw[Å];lia) (by rw[Å];lia);rw[ü]at pc;have e2:vM [iL ns,pJ own b ss ts as,.int (M:Int)]=.ok 'd' []:=e2;rw[Å]at lc;have pn:(cH cs.flatten).Perm ((List.range M).map λi:Nat=>nm ns 16 (i:Int)):=by
  have:=pc.map λb=>b.nm;rw[à]at this;exact this
 have hz:∀z∈cH cs.flatten,Nb ns M z:=λz h=>by
  let⟨i,hi,rfl⟩:=Ö.mp (pn.mem_iff.mp h);exact⟨i,List.mem_range.mp hi,rfl⟩
 have nd:(cH cs.flatten).Nodup:=by
  have:=aAK (ns:=ns) (a:=0) (k:=M) (zs:=[]) 'e' 'e' ∅;rw[List.nil_append]at this;refine pn.nodup_iff.mpr ?_;simpa using this
 have G:TM ss.length 10 cs:=⟨lc,gc,nd⟩;have ec:=λ(f t:Int)(f0:0<=f)(f1:f<=40)(t0:0<=t)(t1:t<=10)=>aEJ (ns:=ns) (f:=f) (t:=t) (a:=AK own) (b:=Y7 b) (c:=.list (ts.map AJ)) (d:=.list (as.map Ġ)) (ss:=ss.map pH) f0 f1 t0 t1 (by rw[Å];lia);rw[Å]at ec;have ec:∀(f t:Int),0<=f->f<=40->0<=t->t<=10->zY [iL ns,pJ own b ss ts as,.int f,.int t]=.ok (cD (nm ns 17 (th ns (40+t) 4),C5 ns f (ss.length:Int) (dr ns (40+t) 4).toNat)) []:=ec;have i15:∃b5,fM (pJ own b ss ts as) (.int 1)=some (Y7 b)/\fM (Y7 b) (.int 5)=some (.int b5):=⟨_,rfl,rfl⟩;let⟨b5,i1,i5⟩:=i15;have ev:=λ(cs:List 'n')(cl:List FX)(G:TM ss.length 10 cs)(V:þ ss.length cs cl)(hl:10+3*cl.length<=30)=>P4 S G V hl;generalize pJ own b ss ts as=sh at *;generalize ss.length=n at *;rw[L2.seq_assoc,L2.seq_assoc];refine vO (λδ=>∃cs,TM n 10 cs/\(∀z∈cH cs.flatten,Nb ns M z)/\δ=[some (iL ns),some sh,some (.int (M:Int)),some 'd',none,none,none,none,none,none,none]) ?_ ?_
 .refine kQ λK _ _ _ hK _=>?_
  dsimp? [eM,e2,i1,i5,ō,LK];split
  .refine aU.of (cS (enc:=aM) (xs:=cs) (g:=λc=>aM (c.map Ĵ)) (cO rfl) ∅ λx hx=>?_) ?_
   .have:=(gc x hx).1
    refine aU.of (cS (enc:=eJ) (xs:=x) (g:=λb=>eJ (Ĵ b)) (cO rfl) ∅ λy _=>by dsimp? [eJ,xU,sT,p9,B7,ō,Ĵ]) ?_;unfold aM;rw[à];exact⟨rfl,rfl⟩
   .dsimp? []
    exact hK _ ⟨cs.map λc=>c.map Ĵ,⟨by rw[Å];exact lc,aEO gc,by rw[M0];exact nd⟩,by rw[M0];exact hz,by rw[à];rfl⟩
  .exact hK _ ⟨cs,G,hz,rfl⟩
 rintro _ ⟨cs,G,hz,rfl⟩;have lo:=j8 (ns:=ns) (k:=19) (m:=3) ⋯;have eo:=mW (ns:=ns) (k:=19) (m:=3) ⋯ ⋯ ⋯;rw[L2.seq_assoc];refine vO (λδ=>∃(cl:List FX)(o2 o5:ZL),1<=cl.length/\cl.length<=3/\þ n cs cl/\δ=[some (iL ns),some sh,o2,some 'd',some (.list (cl.map cD)),o5,none,none,none,none,none]) ?_ ?_
 .dsimp? []
  refine wI (j:=1+ot ns 19 3) (δ1:=_) (λk δ=>∃(cl:List FX)(J:Nat)(o5:ZL),cl.length=k/\þ n cs cl/\J<=5+3*k/\(∀z∈cH (leftA cs cl).flatten,Nb ns J z)/\δ=[some (iL ns),some sh,some (.int (J:Int)),some 'd',some (.list (cl.map cD)),o5,none,none,none,none,none]) (d9 (by dsimp? [eo];rfl)) ∅ ∅ ⟨[],M,none,rfl,trivial,∅,hz,rfl⟩ ?_ ?_
  .rintro k δ hk ⟨cl,J,o5,lk,V,hJ,hzk,rfl⟩
   refine⟨_,rfl,?_⟩;refine kQ λK _ _ _ hK _=>?_;have e3:=ec (J:Int) (k:Int) ∅ ∅ ∅ ∅;have l4:=iC (ns:=ns) (k:=40+(k:Int)) (m:=4) ⋯;obtain⟨N,hN⟩:∃N:Nat,(dr ns (40+(k:Int)) 4).toNat=N:=⟨_,rfl⟩;rw[hN]at e3;have GA:=G.leftA V ∅;have C:=aEP (n:=n) (t:=th ns (40+(k:Int)) 4) GA.nd hzk (N:=N) ∅ ∅ ∅;have hz2:=aEQ (N:=N) (t:=th ns (40+(k:Int)) 4) hzk GA.len ∅;have lN:=FY (ns:=ns) (f:=(J:Int)) (c:=(n:Int)) (n:=N);have a1:atI (cl.map cD++[cD (nm ns 17 (th ns (40+(k:Int)) 4),C5 ns (J:Int) (n:Int) N)]) (k:Int)=some (cD (nm ns 17 (th ns (40+(k:Int)) 4),C5 ns (J:Int) (n:Int) N)):=DU rfl (by rw[ã (by rw[Å];lia),Å,lk,û];rfl);generalize hc:(nm ns 17 (th ns (40+(k:Int)) 4),C5 ns (J:Int) (n:Int) N)=c at *;have l2:c.2.length=N:=by rw[<- hc];exact lN
   have hz2:∀z∈cH (eU (leftA cs cl) c.1 c.2).flatten,Nb ns (J+N) z:=by rw[<- hc];exact hz2
   have c1:fM (cD c) (.int 1)=some (.list (c.2.map AL)):=rfl;dsimp? [e3,Å,qV,a1,c1,l2];refine⟨∅,hK _ ⟨cl++[c],J+N,some (.int (k:Int)),by rw[Ñ,lk];rfl,V.app C,∅,by rw[C3];exact hz2,?_⟩⟩
   rw[Ø];rfl
  .rintro δ ⟨cl,J,o5,lk,V,hJ,hzk,rfl⟩
   exact⟨cl,_,_,∅,∅,V,rfl⟩
 rintro _ ⟨cl,o2,o5,c0,c1,V,rfl⟩;let⟨L,W⟩:=ev cs cl G V ∅;have eV:=aJ3 W ∅;have wl:=Vy.len W;have w1:=wl.2 λe=>by rw[e]at c0;cases c0
 have isl:gE .list (.list L)=some 'j':=rfl;have g1:decide ((L.length:Int)<1)=false:=decide_eq_false ∅;have g2:decide ((cl.length:Int)<(L.length:Int))=false:=decide_eq_false ∅;dsimp? [eV,isl,Bool.not_true,Bool.false_eq_true,g1,Å,g2];have nd2:EB (.str "done") (.str "done")=some (.bool false):=by with_unfolding_all rfl
 have nr:EB (.str "refused") (.str "done")=some 'j':=by with_unfolding_all rfl
 have q1:TF (.str "refused") (.str "refused")=some 'j':=Χ (.inl rfl);refine xW (j:=L.length) (δ1:=_) (λk δ=>∃(cs':List 'n')(T L':ZI)(o8 o9 o10:ZL),TM n (10+3*k) cs'/\þ n cs' (cl.drop k)/\Vy sh cs' (cl.drop k) L'/\T++L'=L/\T.length=k/\δ=[some (iL ns),some sh,o2,some 'd',some (.list (cl.map cD)),o5,some (.list L),some (.list (cs'.map aM)),o8,o9,o10]) (d9 (by dsimp? [])) ∅ ⟨cs,[],L,none,none,none,G,V,W,rfl,rfl,rfl⟩ ?_ ?_
 .rintro k δ hk ⟨cs',T,L',o8,o9,o10,G',V',W',e,lT,rfl⟩
  refine⟨_,rfl,?_⟩;have tl:L.length=T.length+L'.length:=by rw[<- e,Ñ]
  have k1:k<cl.length:=by
   by_cases h:k<cl.length
   .exact h
   .rw[List.drop_eq_nil_of_le ∅]at W'
    rw[show L'=[]from W']at tl;rw[List.length_nil]at tl;lia
  have ac:atI (cl.map cD) (k:Int)=some (cD cl[k]):=DU rfl (by rw[Ò,Ê k1];rfl);rw[ñ k1]at V' W';have C:=V'.1;have aL:∀d L2,L'=d::L2->atI L (k:Int)=some d:=λd L2 h=>DU rfl (by rw[<- e,h,ã ∅,lT,û];rfl);generalize cl[k]=c at *;refine kQ λK _ _ S hK hS=>?_;rcases W' with ⟨n',t',_,rfl⟩|⟨Gg,L2,hG,_,rfl,W2⟩
  .have x0:fM (ł n' t') (.int 0)=some (.str "refused"):=rfl
   have ek:decide ((k:Int)=(L.length:Int)-1)=true:=decide_eq_true (by rw[ó]at tl;lia);dsimp? [aL _ _ rfl,x0,nr,LK,ek,q1];exact hS _ _ ⟨rfl,rfl⟩
  .have G2:=G'.left C ∅
   have lc':=G'.len;have gC:wC cs' 50:=λc hc=>⟨by have:=(G'.g c hc).1;lia,λx hx=>((G'.g c hc).2 x hx).1⟩
   have hb:∀x∈c.2,0<=x.2/\x.2<(cs'.length:Int):=λx hx=>by rw[lc'];exact(C.ld x hx).2.2
   have cl3:=C.len;have x0:fM (mX cs' c Gg) (.int 0)=some (.str "done"):=rfl;have x1:fM (mX cs' c Gg) (.int 1)=some (.list ((eU cs' c.1 c.2).map aM)):=rfl;have x2:fM (mX cs' c Gg) (.int 2)=some (.list Gg):=rfl;have x3:fM (mX cs' c Gg) (.int 3)=some (.list ((AS cs' c.1).map PyData.str)):=by rw[<- aJ4];rfl
   have eI:=MZ gC C.gp ∅;have eO:=aEL gC C.gp ∅;have eF:tZ [.list (cs'.map aM),cD c]=.ok (.list ((eU cs' c.1 c.2).map aM)) []:=aEK ∅ G'.g ∅ C.gp ∅ hb;have c1:fM (cD c) (.int 1)=some (.list (c.2.map AL)):=rfl;have l1:=oG (f:=λbs=>KJ ((lQ bs c.1).filter (nP c.1))) (λ_=>aAI) (cs:=cs') λx hx=>(gC x hx).1;have l2:=oG (f:=λbs=>KJ (bs.filter λb=>b.p == c.1)) (λbs=>by rw[Å];exact List.length_filter_le _ _) (cs:=cs') λx hx=>(gC x hx).1;have s1:=wV (WK (aER (p:=c.1) G'.g) (show (AS cs' c.1).length<=1000 by have:(AS cs' c.1).length<=_:=l1;lia));have s2:=wV (aAL G2.g ∅ (by rw[G2.len];lia));have sp:=MY (cs:=cs') (p:=c.1) (ld:=c.2);have eS:=KB hG (λm hm=>MW.K hm) (o:=MX cs' c.1) (l:=AS cs' c.1) (w:=c.2.map λx=>x.1.nm) ⟨sp.1,by rw[sp.2.1],by rw[sp.2.2]⟩ (show (MX cs' c.1).length<=1000 by have:(MX cs' c.1).length<=_:=l2;lia) (show (AS cs' c.1).length<=1000 by have:(AS cs' c.1).length<=_:=l1;lia);rw[à]at eS;have eS:kP [.list Gg,.list ((MX cs' c.1).map PyData.str),.list ((AS cs' c.1).map PyData.str),.list (c.2.map λx=>.str x.1.nm)]=.ok 'j' [some (.list [])]:=eS;have hK':∀o9 o10,K [some (iL ns),some sh,o2,some 'd',some (.list (cl.map cD)),o5,some (.list L),some (.list ((eU cs' c.1 c.2).map aM)),some (.int (k:Int)),o9,o10]:=λo9 o10=>hK _ ⟨_,T++[mX cs' c Gg],L2,_,o9,o10,by rw[Nat.mul_succ,<- Nat.add_assoc];exact G2,V'.2,W2,by rw[List.append_assoc];exact e,by rw[Ñ,lT];rfl,rfl⟩
   generalize eU cs' c.1 c.2=cs2 at *;generalize AS cs' c.1=li at *;generalize MX cs' c.1=ou at *;have aL:=aL _ _ rfl;generalize mX cs' c Gg=dn at *;generalize hcc:cD c=cc at *;dsimp? [aL,x0,nd2,Bool.false_eq_true,ac,eI,c1];refine aU.of (cS (enc:=AL) (xs:=c.2) (g:=λx=>.str x.1.nm) (bT (by dsimp? [ac,c1])) ∅ λx _=>by dsimp? [AL,eJ,xU]) ?_;dsimp? [aL,x0,x1,x2,x3,s1,s2,eF,ac,eO,eS,Bool.not_true,Bool.false_eq_true];exact hK' _ _
 .rintro δ ⟨cs',T,L',o8,o9,o10,G',V',W',e,lT,rfl⟩
  have tl:L.length=T.length+L'.length:=by rw[<- e,Ñ]
  have:L.length=cl.length:=by
   by_cases h:L.length<cl.length
   .rw[ñ h]at W'
    have:=(Vy.len W').2 (List.cons_ne_nil _ _);lia
   .lia
  dsimp? [Å,this,LK,decide_true]
theorem all_mk{l:W.OpenLaw}(T:Txt K mg)(lnt:W.noTabs K=true)(hfa:mg "law"=some (.ref fa)):
  (W.noTabs K=true/\∃c P pos,jR K=some (c,P,pos))/\∃fd:FuncData,(∀(s:Shared)(v:Value),BindsTo s fd ⟨[v],[]⟩ [("_law_script",v)])/\∀base:Heap,K.In base->base.Ns mainGlobals mg->tF K mg base->qO l.prog w K mg base (A0 l.prog w K) 10 fa fd ["_law_script"] (TD K ["_law_script"] [] [0,0,0,0,0,0,0,0,0,0,0] 0 JL):=by
 have e:=hfa.symm.trans T.x60.m;cases e;exact⟨⟨lnt,_,_,_,T.lamE⟩,T.x60.fd,λs v=>by
  let⟨_,_,_,_,_,_,_,_,_,e,_⟩:=T.x60.F.ex;rw[e];exact .of_eq rfl,λbase _ _ B=>aJO T B⟩
def walk{l:W.OpenLaw}{q:Program}{loose:ZG}{XP:(ZD)->Heap->Prop}{YP:World->Heap->Prop}{d:DefRec}{K:Params->ZC}(hn:l.most=some 63)(hdf:d.params.defaults=[])(hY:∀(w:World)(h:Heap),YP w h->(K w.params).In h)(hrec:∃dl,(PyProof.Rows.recsOf q).find? (λe=>e.name == m9)=some dl)(F:∀(w:World)(mg:ZD)(fa:Addr)(h:Heap),(K w.params).In h->h.Ns mainGlobals mg->mg d.name=some (.ref fa) ->
   (W.noTabs (K w.params)=true/\∃c P pos,jR (K w.params)=some (c,P,pos))/\∃fd:FuncData,(∀(s:Shared)(u:Value),BindsTo s fd ⟨[u],[]⟩ [("_law_script",u)])/\∀base:Heap,(K w.params).In base->base.Ns mainGlobals mg->tF (K w.params) mg base->qO l.prog w (K w.params) mg base (A0 l.prog w (K w.params)) 10 fa fd ["_law_script"] (TD (K w.params) ["_law_script"] [] [0,0,0,0,0,0,0,0,0,0,0] 0 JL)):
  W.WalkO q loose XP YP l.row.toRowW d [] (λf vs=>PySem.call f vs):=
 let ⟨_,hrec⟩:=hrec
 L2.walk_ofL (n:=63) (k:=10) (x:="_law_script") (CX:=λw=>A0 l.prog w (K w.params)) (sp:=λw=>TD (K w.params) ["_law_script"] [] [0,0,0,0,0,0,0,0,0,0,0] 0 JL) hn ⋯ hdf ⟨rfl,⋯,⋯⟩ hY hrec F (λ_ _ a ns hl hL hS=>LR hS (aAM ns hl) hL) λ_ _ _ _ _ z=>QU z
@[inline]def aP9{α:Type _}{β:Type _}(a:α)(_:β):α:=a
@[inline]def pv:Program:={PySem.Challenge.pw_keel_k65_whole_out_at_their_port with main:={PySem.Challenge.pw_keel_k65_whole_out_at_their_port.main with body:=[top 0,top 1,top 2,top 3,top 4,top 5,top 6,top 7,top 8,top 9,top 10,top 11,top 12,top 13,aP9 (top 14) (PySem.Stmt.FunctionDef (aP9 ("":Str) PySem.Expr.Lambda)),top 15,top 16,top 17,top 18,top 19,top 20,top 21,top 22,top 23,top 24,top 25,top 26,top 27,top 28,top 29,top 30,top 31,top 32,top 33,top 34,top 35,top 36,top 37,top 38,top 39,top 40,top 41,top 42,top 43,top 44,top 45,top 46,top 47,top 48,top 49,top 50,top 51,top 52,top 53,top 54,top 55,top 56,top 57,top 58,top 59,top 60,top 61,top 62,top 63,top 64,top 65,top 66,top 67,top 68,top 69,top 70,top 71,top 72,top 73,top 74,top 75,top 76,top 77,top 78]}}
@[inline]def rv:W.OpenLaw:={PySem.Challenge.rw_keel_k65_whole_out_at_their_port with prog:=pv}
def aQ4:PySem.Challenge.rw_keel_k65_whole_out_at_their_port=rv:=by kernel_rfl
theorem tv(h:rv.Holds):PySem.Challenge.rw_keel_k65_whole_out_at_their_port.Holds:=by rw[aQ4];exact h
end Toy
namespace PySem.W.Fast
local macro_rules|`(seal $xs*)=>do return Lean.mkNullNode (<- xs.mapM λx=>`(command|theorem $(Lean.mkIdent (.mkSimple s!"tw{x.getId.toString.foldl (λa c=>let n:=c.toNat;a*62+(if n<58 then n+4 else if n<91 then n-65 else n-71)) 0}")):ident:True:=trivial))
seal T8y0jgY2Ni3 IrgrB8Ptt69 OWlrkJT0Ip8 I8PGtjWrUPT FQhick7KY9Q DrIn17lI3K2 FtFtANhdirs OoZq8QqDUO1 Tm8wSC7GW8F AqRPNP2BJFL S25Oj0mc6Oy GrfQxekv9Qo QpsWP8ltIme ArT7d76EoJv Ohx9XEkaaxZ H2OX6iaYMae MVrpq59YjOF T0Y6hM18Dza RHf1vVIHfOJ K79BBKMNJzJ SfV7kkjNRfY AW1ht8oAxhu Ptsq6IqIOrb SGIdDmSeujq TxbFKMKaO3p Sx3E1zyixNy HvikYFsfJiW D7zjOJkX2KH C6YLSi1qc7l Kjk5kzsMOwn V4DvTdZ7Bet VP9xQBCrPGP O5mUi6eBS8A Clr1T51Abio EBgHAfGnYhR Keq3wKXLW1r NSE9oLZJ9KS Tq4SUPxUeaD I2rucjSnck0 ANnZ4j970OR MOtYRTTCWTu U2vmDKAUfki Qz7iqpmA2SC CWzmqf7gN3f TdefHFkOoIC DX7ZNkW9sto A0jeZJl6cCr PqTa2ZoB4Ir KY3jeyeRp3o Tb0yeDOLjMU PNEDRcq8ozq KYq5HPupxHK Gzm0IMUiOmo Ci08KfOAZ3a L21ANwEiNrZ SD4wn7Xd0d7 DlPBpmE1eRS IkzMPRAX56u J1tNHLpDYv7 SVM47qwJ1V1 JeB1716M81T JXnOarrDBX4 D2A4yD7DC1R UQ54Cm5FQ5B Tx0a3aq510c KJbBkZffMem K5nXxcAdAw2 EIW45Oxri0F DlJH9vrAFoe JpMQJ9xdSb5 EDIU7dZdrU5 ROqPqoNMJ0Y FwKZWSfQPU7 FETc8hYoWZO KOgMFl4EyXg QfzDHFm3w5O QiRZ5APFOkz O8dRYcVd4Ko BGiFilLYf8G Dp8iopKQ4wp Ke5mKXLL5ke RVGxbspLGU6 Emx5xWw6UYZ VtiFNkoElWF CmvPmaHIMaU KNfYCdMaVGh D2EVh9PDSd6 F4y1NwEqrLP M3QRRU55fVf BXMfQnZdcad S0L1ftfGnAr K7LjwBI8qIB CWYWsfr10Uz S9Kr0BfzFFu Kyt1XRV4idg Um8xDjQDNnv M6nNr4pLvMT GPza9RwU4kn A8S1K0F3Ret OUxN7NzhmcX ERBjoI6SLfe JsfZ8kzJiKx BYO7F19qeQQ Ibl5wGcH6Tb QIVY7Er1jCB F6jGq9lKtgE NTlRkJg2Ywl JBQgfANvLwD I57ubTmv7zN MyuE6cGmA7E RX6W1tGBYsl TmBMrFCseWa VraWpd5Tc2C SKABv6yyyz0 QMocgRlVMMr M91YcZcrwf6 VOoWOfXFgNQ VKDZt4bPNdX JaKZ1cFpa18 DR20N8K6mzr TwnQavBtSHc IyQyy4GxLWc LtJOr9NIvot TamSzLzcO25 VHNjDxwZoHN Ew011lc7AyQ SSYqeWAQh93 ROce4vumFSJ Jky6P18Bjw8 LBglnHZa8ut Kcdbr93AyZC EShuJECnpN7 KMkBhFRDRLL JGmatCTtHIR Kh9QRTbqXw0 EAWxhrp5lYe VCw8WhXxNUt IoJF4ODdHO7 PAs4kTgqJqE BwaToRmWRe4 JzFf3vypCvD PNE1seOnMDN GSwyYrqqlcn DPXfVhI67bS HvyU9vBXD2j QxSoOvReNRW SWGbXVcRBz3 NL4sV3rNenp AU8feHUrHvx OnKdNj6Cine QX1TMn9DMRB DcodtbcYczN FZTXf0z7adG DXepsAujW4Q BGfb3PAeCyQ FOhej4j13W1 DHkHS2s3N4M R2yVX0CBN8F IneYzlckX9w KscZ9XNsXWp DQsR846WUgu QmQbmvlVOu3 C7qxAUYLv77 Isi6oMPA4iJ PTM7mmuLS8u QIL6NXlSnS2 OfJjCs03Uic RLQS8KNVUti VEuGt3MDbcF DA8RVDO5tXg LV6JfK49PI9 OxEetbOpA0O FDyi5wbkbxJ M1sEMF6DJwA ObwqqJwlG8p H4EDYe130Wg IHzOF4BCOXq LUKZJ6YgOBa J22t9V6v74c J1yCmoFGHNT KSrymqiqZ1k Kxc8MnT3X04 TBe8uuKnkHv Vjf6bICyQbV J5WAW95tej5 AL5mSFYGHl9 KTGnifQvrMI J08g7rdEsJ1 IZlZcp2Fscc STwpmk2pzah TOwro94SNq1 HVswTOuO3c8 DwO7Z6CjMuZ A2G4jwfVbZB POko5ircuJN UYliVe6NyGn KQkI0yOXkyE N0NGLTu3HA4 FC8fugC0Rwq MnmjeO8LYQw PbmaTDFJ6X6 A71KWsQtYQg R899yp82n0u G3BPKpHdTNM AHaoHZl1uYZ KjTgJMlhdNd CdLlHhIULw6 GCD6CCYlyLm G8oyNJwWeeX TJiCZlhNHd3 P39dskjGZc5 SVML3oXDfnU AkQzYrQFJtc ApFCgepFbqu VEvWvxrMRXo TKn45Sg41s5 TnzYZP3DJiN AcifkSZOwXB CSICh1GJeln I1HmOJd7qnQ JAkmJwplfIp BLzwUAyHnWO Bp63MoVvavu KL64bIjHq1g Uu0ivUmmw1B K3DehDGjqVw FlC2cZqkNUX Ohi7ibtKcwV EhjPJ29BIzc IAhHsnZiccS AcdqAlWNpNO FC2BIB7oud7 EqFLpXOaBcQ QXonE4gCgL1 CBBvknBOaQW N3wZ13psogZ OUqgrm3G5GX VJbmCRCZuPj BwFOLpJ9A5w CSvYcfrOMGo IAZ5j6R8yiJ GMDEhgxW6l7 JHv07mbFKkh IuFa3KgMZwR C71CE3iBzvq SIsHtI5CJtw EfrsPy5OmQt S9hm3sf9FZO SuZ0wy6g8Ce MqO2Q3WwN0C AQtrLTk0psf QNYt2Kgtm6B LZgsovmvEly QfLqtUdEcq3 ICKBJ4S68dk VMU32c0QE1v JxEHe5QyC6E PVSWIn6tfXs JRgP30nUx9G HFh5nAt4Utc SAetxmprbgu Sl8sYY7uSAD GJzkfXSa6MJ I0a88iCirdf P4SIYm09pVD VVcq2SUg4rf Qd5eEtifw1J NPMSqj7Unjq GI48uEsTioQ ToW1ynb8wGE QfS5AUJOnGa MUl9nCOkdce ACtAQykUftp Ai8l29DzyWK VMePp6rEnob FjLFQEegis9 S2ymfPdFKxj UDVnCn6cUo5 Orq28IGEjyZ Mj6QKYTtVSN NNsNXOTVIxA QkVHQ6Sefs0 D47AMDC3OTW E5eFOJAXfCN JF3kDe5BAkX HrqQG58qHxD RKXgWrq2oho KYNKQ7jR1XC BTEqQ7w1d7P U6FQk0bQFkq R943z7KCliL MLfbxc6OAQQ J5UrmtJIhLs MotQ0grfYyF Jmf2h5yghux D4H1yqbnXMX LStKhdVtk7J IoU6yzzNr4h GnW8pVXTiQw NmgsyVAphEl RmsIsqIBMnF PeOEkIf88X8 RVHxx8J3pvV Gt02Diynek1 NbIxUuIrZWZ KDc1OLII5cK Ot5VqucgXC2 LE75BRwxZgM MVEAcmTSK0X GXIXHl4rArf DMlRNF1twBi ECdAFWifJue VxgGdYfSkwT SNBVoMZWjEv CNalHnj23gL UOEpoArEZhA PFwZNvpdh2q Ao7nSPSoCjG E3ksKM6W3Nu Ng8WS1ILRU4 DyIXnpZJ3LN JGgzGGhonnW VJkac1CJQcX OmXMBNVcyUk E1jMjXgmIKO SzHhoejuhbm MZyDtGcU0Nu F51hLVOO3eo FOc8U3YG6km B1lbSisGV6W CKoiNlSSh8D HGUBgsCtxt8 T31fUIn0kYf O3BsX2EVSHV UBI9pT8FeTY EIpDtDjBdst EmryPYaTifS CfqTcNoCjtw PavAyYc3Utl Uz85Jqu214C VBqg3wsmpbx JrbHERE53JI K06qDCkmoTs KWohvCZKuIc Oto4JB9MmII KhdwVZuWMnQ Ks8nEaaLiyF LzaQzz77pzw Bt8FppjDkBC NoCLpQLdvYx Hvi67pECgq3 T1SULnpUcxG SxMz0PcPY7n QSAy2P6ABtr JOXbS7vzigY CTRiT4u4Gmg F2Tz7g1aWPY Bf1x9wBCehv DTDiniI9pNB M1cFs94xwGk Gkvwqt3vMiZ KanUWk5yUgA CxtmbcaE5Pd MBLebnSVemB Gr2fDrJ2gze Pm7VicDK8JS E7oJ68VOg0q DGkXdXlJPhQ B3FKFytiUUR EPM1Y5uI6MO TkbPCE8xfzK RoZ3OAzZ0SJ BPrM51dYqAt LJdyvoMsMlj NQMeie8nXpY U0rHWKQRBbY VBj0znYV7SL RfmxPRtcWML GIjRH94PzbQ BEhBxgsQ0iG GZj24JbcBTs Qqf11hSFul1 LgamOvDyzRR EEMdY9U2AgY L97ZFN2m93h FejZq3YjSl3 IvJRxlkUvPW A6jFUn3cczJ IxsCSWejRZL PYINjmGWIqj GKIPMrNDwnx REVG8M4nw2n SOUHNn1kXKh N4zqtTmnqLS U4OXYpz8Py8 A2hu2mSokoR C7yrVNVCMuQ MnQk0gMhNFC QvRE3ZCtqmQ Oo5LeLO5kZN Qbbd9Z5TWoH VqNSF90hfo0 QkUM6FaVnLz C791TemjNur NKEI6n9QH3y CDZYVrim00Z HzpbBIQiTVz NDrKOMvsIvE NACuUTM0yIO Voe2nnt9jlr TFL4qKqj0Ft ANNEP1km8dI S7HMEz7ZXLR EFNqAzzGYoA JEec1BQUQOU PPNPd5CBar7 N8AhvQYhvnL PT8VS5Mcyyj RhWwEdxYeK1 JIVAb6JD8rm JziC8ZGpFbr LCi4p0hgtKv VTqxsQf8Dm4 R8NvlCItLUM UtQFkRVXLBc
end PySem.W.Fast
open PySem PySem.W PyProof.Rows L2
set_option maxRecDepth 100000 in
set_option maxHeartbeats 0 in
theorem PySem.Challenge.cw_keel_k65_whole_out_at_their_port_holds : PySem.Challenge.rw_keel_k65_whole_out_at_their_port.Holds := by
 refine Toy.tv ?_
 w_on;o_law;k_head;(case hw=>w_witness2)
 k_fill
 refine Toy.walk (l:=Toy.rv) rfl rfl (λw h Y=>PySem.W.km_in_of Y) ?R ?F
 case R=>exact⟨_,rfl⟩
 case F=>
  intro w mg fa h KX G hmg;refine' Toy.all_mk (Toy.Txt.mk ?_ ?_ ?_ ?_ ?_ ⟨⟨?f6,_,?F6,TB.binds ?F6 ?b6⟩,PySem.W.mg_of KX G ?a6⟩ ?_ ?_ ?_ ?_ ?_ ?_ ⟨?f13,_,?F13,TB.binds ?F13 ?b13⟩ ⟨?f14,_,?F14,TB.binds ?F14 ?b14⟩ ?_ ?_ ?_ ?_ ?_ ?_ ?_ ?_ ?_ ?_ ?_ ?_ ?_ ?_ ?_ ?_ ?_ ?_ ?_ ?_ ?_ ?_ ?_ ?_ ?_ ?_ ?_ ?_ ?_ ?_ ?_ ?_ ?_ ?_ ?_ ?_ ?_ ?_ ?_ ?_ ?_ ?_ ?_ ?_ ?_ ?_ ?_ ?cc_Table ?nn_Table (PySem.W.mg_of KX G ?nn_Table) ⟨?pg_Table,?hd_Table,?po_Table,?sa_Table⟩ (yK ?nn_Table ⟨?pg_Table,?hd_Table,?po_Table,?sa_Table⟩ ?at_Table_free) (yK ?nn_Table ⟨?pg_Table,?hd_Table,?po_Table,?sa_Table⟩ ?at_Table_goal) (yK ?nn_Table ⟨?pg_Table,?hd_Table,?po_Table,?sa_Table⟩ ?at_Table_held) (yK ?nn_Table ⟨?pg_Table,?hd_Table,?po_Table,?sa_Table⟩ ?at_Table_lines) (yK ?nn_Table ⟨?pg_Table,?hd_Table,?po_Table,?sa_Table⟩ ?at_Table_scale) ⟨?km_Table,?a13,?i13,?kk_Table⟩ ⟨?a14,?i14,?k14⟩ ?lc ?lp (XF ?a6 ?F6 ?lcd ?lk ?lv rfl) ?lcd (aSW KX G ?_) (aSW KX G ?_) (aSW KX G ?_) (aSW KX G ?_) (aSW KX G ?_) (aSW KX G ?_) (aSW KX G ?_) (aSW KX G ?_) (aSW KX G ?_) (aSW KX G ?_) (aSW KX G ?_) (aSW KX G ?_) (aSW KX G ?_) (aSW KX G ?_) (aSW KX G ?_) (aSW KX G ?_) (OT KX G ?_) (OT KX G ?_) (OT KX G ?_) (OT KX G ?_)) ?lnt hmg
  any_goals (refine' aMG KX G ?a ?l ?c ?k ?b;(case a=>k_is);(case l=>k_is);(case c=>k_is);(case k=>k_is);(case b=>(intro _ _ _ _ _ _ us hl;first|exact aP0 hl λ_=>rfl|exact aP1 hl λ_ _=>rfl|exact aP2 hl λ_ _ _=>rfl|exact aP3 hl λ_ _ _ _=>rfl)))
  all_goals try k_is
  all_goals try (unfold lR;k_is)
  all_goals try k_is
  all_goals try (refine' K6 ?l ?c ?k;(case l=>k_is);(case c=>k_is);(case k=>k_is))
  all_goals try (intro _ _ _ _ _ _ us hl;first|exact aP0 hl λ_=>rfl|exact aP1 hl λ_ _=>rfl|exact aP2 hl λ_ _ _=>rfl|exact aP3 hl λ_ _ _ _=>rfl)
  all_goals try (dsimp only;k_is)
  (case lnt=>first|kernel_rfl|k_is)
  (case lcd=>exact rfl);(case lk=>k_is);(case lv=>exact rfl)
