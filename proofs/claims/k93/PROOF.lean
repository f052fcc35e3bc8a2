import PyProof.Rows.All
import Wide.All
import OpenK.AllK
import Wide.FinOn
import Lean
import PyProof.EqAt
import PyProof.EqKinds
import PyProof.TupleCall
import KE.KTryMore
import PyProof.NsDelKeeps
import PyProof.ExcArgsOwn
import PyProof.ExcAttrAll.ValueError
import PyProof.ExcBaseAll.ValueError
import PyProof.CollectIter
import PyProof.ZipIter
import PyProof.EnumMake
import PyProof.EnumFor
import PyProof.Rows.FactsT2
import PyProof.Rows.EnumRows
import PyProof.ConsumeWalk
import PyProof.ListMulRoad
import PyProof.AutoListH
import PyProof.MinMaxWalk
import PyProof.WalkInts
import PyProof.Rows.CallKwBuiltin
import PyProof.Rows.Range3
import PyProof.P3In
import PyProof.FactsAll.list_3
import PyProof.EqAt
import PyProof.StrOps2
import KE.KRevIter
import PyProof.StrBlockI
import KE.KNest
import KE.KLam
import PyProof.ListRange
import PyProof.Rows.FStr
import PyProof.Rows.SortRev
import PySem.Challenge.RW_keel_k93_whole_wider_bounds_ask_no_more

set_option autoImplicit true
set_option bootstrap.genMatcherCode false
set_option genSizeOf false
set_option Elab.async false
set_option linter.all false
set_option maxRecDepth 100000
theorem Ê:type_of% @List.getD_eq_getElem?_getD:=@List.getD_eq_getElem?_getD
theorem É:type_of% @List.getElem?_eq_getElem:=@List.getElem?_eq_getElem
theorem Ä:type_of% @List.length_map:=@List.length_map
theorem È:type_of% @Nat.le_of_lt:=@Nat.le_of_lt
theorem Ö:type_of% @Nat.lt_of_lt_of_le:=@Nat.lt_of_lt_of_le
theorem Ç:type_of% @Nat.le_refl:=@Nat.le_refl
theorem Ð:type_of% @List.getElem?_eq_some_iff:=@List.getElem?_eq_some_iff
theorem Ò:type_of% @List.mem_cons_of_mem:=@List.mem_cons_of_mem
theorem Î:type_of% @List.getElem?_map:=@List.getElem?_map
theorem Ý:type_of% @List.mem_append_right:=@List.mem_append_right
theorem á:type_of% @List.getElem?_append_right:=@List.getElem?_append_right
theorem Í:type_of% @Nat.ne_of_lt:=@Nat.ne_of_lt
theorem ú:type_of% @Nat.lt_of_lt_of_eq:=@Nat.lt_of_lt_of_eq
theorem Ì:type_of% @List.length_append:=@List.length_append
theorem Ø:type_of% @Nat.le_trans:=@Nat.le_trans
theorem Þ:type_of% @List.getElem?_set_ne:=@List.getElem?_set_ne
theorem ä:type_of% @List.getElem?_eq_none:=@List.getElem?_eq_none
theorem ð:type_of% @List.size_toArray:=@List.size_toArray
theorem ñ:type_of% @List.getElem?_append_left:=@List.getElem?_append_left
theorem Ú:type_of% @List.length_set:=@List.length_set
theorem õ:type_of% @List.length_replicate:=@List.length_replicate
theorem ß:type_of% @Nat.ne_of_gt:=@Nat.ne_of_gt
theorem û:type_of% @List.mem_of_getElem?:=@List.mem_of_getElem?
theorem é:type_of% @List.length_zip:=@List.length_zip
theorem à:type_of% @Int.le_of_lt:=@Int.le_of_lt
theorem Ą:type_of% @Int.mul_le_mul_of_nonneg_right:=@Int.mul_le_mul_of_nonneg_right
theorem í:type_of% @List.mem_singleton:=@List.mem_singleton
theorem Ô:type_of% @List.mem_map:=@List.mem_map
theorem ü:type_of% @List.mem_append:=@List.mem_append
theorem ÿ:type_of% @List.getElem?_range:=@List.getElem?_range
theorem ą:type_of% @List.getElem?_replicate:=@List.getElem?_replicate
theorem å:type_of% @Nat.not_lt:=@Nat.not_lt
theorem Ā:type_of% @Nat.lt_of_le_of_lt:=@Nat.lt_of_le_of_lt
theorem ý:type_of% @Nat.le_of_eq:=@Nat.le_of_eq
theorem ě:type_of% @List.getElem?_zip_eq_some:=@List.getElem?_zip_eq_some
theorem ø:type_of% @Nat.lt_irrefl:=@Nat.lt_irrefl
theorem Ć:type_of% @List.getElem?_set:=@List.getElem?_set
theorem ù:type_of% @List.length_take:=@List.length_take
theorem ā:type_of% @Int.toNat_natCast:=@Int.toNat_natCast
theorem ê:type_of% @Int.mul_nonneg:=@Int.mul_nonneg
theorem đ:type_of% @List.map_snd_zip:=@List.map_snd_zip
theorem Ē:type_of% @List.map_fst_zip:=@List.map_fst_zip
theorem Č:type_of% @List.getElem_mem:=@List.getElem_mem
theorem ē:type_of% @Nat.add_sub_cancel:=@Nat.add_sub_cancel
theorem Ù:type_of% @List.map_append:=@List.map_append
theorem Ĝ:type_of% @List.mem_append_left:=@List.mem_append_left
theorem Ă:type_of% @Int.ne_of_gt:=@Int.ne_of_gt
theorem ç:type_of% @List.all_eq_true:=@List.all_eq_true
theorem Ë:type_of% @List.mem_cons:=@List.mem_cons
theorem Ï:type_of% @List.map_cons:=@List.map_cons
theorem Õ:type_of% @List.mem_cons_self:=@List.mem_cons_self
theorem Û:type_of% @List.not_mem_nil:=@List.not_mem_nil
theorem Ó:type_of% @List.length_cons:=@List.length_cons
theorem â:type_of% @List.zip_cons_cons:=@List.zip_cons_cons
theorem Ü:type_of% @Bool.false_ne_true:=@Bool.false_ne_true
theorem î:type_of% @Nat.lt_succ_self:=@Nat.lt_succ_self
theorem æ:type_of% @List.lookup_cons:=@List.lookup_cons
theorem Ñ:type_of% @Ne.symm:=@Ne.symm
theorem ë:type_of% @List.getElem?_set_self:=@List.getElem?_set_self
theorem ć:type_of% @Classical.byContradiction:=@Classical.byContradiction
theorem aRX:type_of% @PySem.W.mg_none_of:=@PySem.W.mg_none_of
theorem Ĉ:type_of% @PySem.mem_of_lookup:=@PySem.mem_of_lookup
theorem ã:type_of% @Bool.and_eq_true:=@Bool.and_eq_true
theorem è:type_of% @List.map_map:=@List.map_map
theorem ò:type_of% @List.append_nil:=@List.append_nil
theorem ĉ:type_of% @List.find?_cons:=@List.find?_cons
theorem ö:type_of% @List.drop_eq_getElem_cons:=@List.drop_eq_getElem_cons
theorem ì:type_of% @List.length_singleton:=@List.length_singleton
theorem ă:type_of% @Option.map_some:=@Option.map_some
theorem ó:type_of% @Nat.zero_le:=@Nat.zero_le
theorem Ĕ:type_of% @List.length_drop:=@List.length_drop
theorem þ:type_of% @Nat.sub_self:=@Nat.sub_self
theorem Ċ:type_of% @Nat.zero_lt_succ:=@Nat.zero_lt_succ
theorem ċ:type_of% @List.mem_filter:=@List.mem_filter
theorem ô:type_of% @List.length_nil:=@List.length_nil
theorem Â:type_of% @if_pos:=@if_pos
theorem Ã:type_of% @if_neg:=@if_neg
theorem Æ:type_of% @And.intro:=@And.intro
set_option compiler.extract_closed false
noncomputable section
abbrev Zdb(x:PySem.Str):Prop:=(x == ("__debug__":PySem.Str))=false
abbrev Zcd(x:PySem.Str):Prop:=(x == ("__classdict__":PySem.Str))=false
abbrev Zse(a:PySem.Expr)(l:List PySem.Expr)(v:PySem.Env):Prop:=PySem.starEach (a::l) v=(false,PySem.eval a v)::PySem.starEach l v
abbrev Zbt(p:PySem.Pos)(l:List PySem.Expr)(v:PySem.Env):Prop:=(PySem.backTo p (PySem.starEach l v)).any (·.1)=false
abbrev Zfi(e:PySem.Expr)(v:PySem.Env):Prop:=∀x,PySem.foldedSetIterable e v x=pure x
set_option hygiene false
local macro_rules|`(tactic|sleep 1)=>`(tactic|(rw[e]at h;exact h.elim))
local macro_rules|`(tactic|sleep 2)=>`(tactic|(intro X hP hw hK hc i U s σ H E I hf st hg;subst hP hw hK))
local macro_rules|`(tactic|sleep 3)=>`(tactic|(refine aK (os:=[]) ?_))
local macro_rules|`(tactic|sleep 4)=>`(tactic|(refine⟨F,δ,R,?_⟩))
local macro_rules|`(tactic|sleep 5)=>`(tactic|(exact q.elim))
local macro_rules|`(tactic|sleep 6)=>`(tactic|(intro U s σ H x y v u Q I rx ry h))
local macro_rules|`(tactic|sleep 7)=>`(tactic|(refine⟨_,rfl,?_⟩))
local macro_rules|`(tactic|sleep 8)=>`(tactic|(simp![Res.bind]at h))
set_option hygiene true
set_option hygiene false
local macro_rules|`('a')=>`((by exact È ‹_›))
local macro_rules|`('b')=>`((model X.prog X.w))
local macro_rules|`('c')=>`((.list (cs.map aP)))
local macro_rules|`('d')=>`((T4 (own::jF ss cs ss.length)))
local macro_rules|`('e')=>`((by simp))
local macro_rules|`('f')=>`((W.kla_obj "<lambda>" kF params body scope clos ((X.mg "__name__").getD .none) c' ctv))
local macro_rules|`('g')=>`((.Name x p))
local macro_rules|`('h')=>`((aT X xs scope C fp s H))
local macro_rules|`('i')=>`((.bool true))
local macro_rules|`('j')=>`((List.replicate m 0))
local macro_rules|`('k')=>`((by grind))
local macro_rules|`('l')=>`((List.replicate xs.length 0++ow))
local macro_rules|`('m')=>`((cs.map aP))
local macro_rules|`('n')=>`((List.replicate k 0++ow))
local macro_rules|`('o')=>`((.ListComp elt [⟨tg,iter,ifs,0⟩] scope pos))
local macro_rules|`('p')=>`((aI.refl _))
local macro_rules|`('q')=>`((List Bx))
local macro_rules|`('r')=>`((aC (fX aG PySem.F.excBase_ValueError rfl T.n_NoName T.q_NoName T.e_NoName rfl rv)))
local macro_rules|`('s')=>`((by assumption))
local macro_rules|`('t')=>`((X.N[i]?=some x))
local macro_rules|`('u')=>`((model prog w))
local macro_rules|`('v')=>`((aM.2 T B))
local macro_rules|`('w')=>`((some (.list ds)))
local macro_rules|`('x')=>`((some (A x)::some (B x)::δ))
local macro_rules|`('y')=>`((Heap.lt_size e))
local macro_rules|`('z')=>`((s.heap.objs.size+1))
local macro_rules|`('A')=>`((cs.getD k []))
local macro_rules|`('B')=>`((c6 aG rfl T.x62 rx))
local macro_rules|`('C')=>`((by exact å.mp ‹_›))
local macro_rules|`('D')=>`((swap T p d))
set_option hygiene true
local macro_rules(kind:=Lean.Parser.Tactic.tacticLet__)|s=>do
 let d:=s.getArgs.back![0]
 unless d.isOfKind ``Lean.Parser.Term.letPatDecl do Lean.Macro.throwUnsupported
 let k:=Lean.Syntax.node .none
 let o:=k `null
 let m:=fun y=>k ``Lean.Parser.Tactic.rcasesPatMed #[o #[y]]
 `(tactic|obtain $(⟨m (d[0].rewriteBottomUp fun x=>
  if x.isIdent then k ``Lean.Parser.Tactic.rcasesPat.one #[x] else
  if x.isOfKind ``Lean.Parser.Term.hole then k ``Lean.Parser.Tactic.rcasesPat.ignore #[x[0]] else
  if x.isOfKind ``Lean.Parser.Term.anonymousCtor then k ``Lean.Parser.Tactic.rcasesPat.tuple #[x[0],o (x[1].getArgs.map fun y=>if y.isAtom then y else k ``Lean.Parser.Tactic.rcasesPatLo #[m y,o #[]]),x[2]] else x)⟩):rcasesPatMed:=$(⟨d[4]⟩))
local macro_rules(kind:=Lean.Parser.Command.declaration)|s=>do
 let d:=s[1];let y:=d[2][1][0][1]
 if d.isOfKind ``Lean.Parser.Command.definition&&s[0][1].isNone&&!d[2][1].isNone&&!(y.getNumArgs<2||y.isOfKind ``Lean.Parser.Term.arrow||y.isOfKind ``Lean.Parser.Term.paren||y[0].getId==`M) then
  return s.setArg 1 (Lean.mkNode ``Lean.Parser.Command.theorem #[Lean.mkAtom "theorem",d[1],Lean.mkNode ``Lean.Parser.Command.declSig #[d[2][0],d[2][1][0]],d[3]])
 if (s[1].isOfKind ``Lean.Parser.Command.definition||s[1].isOfKind ``Lean.Parser.Command.abbrev)&&s[0][4].isNone&&s[0][1].isNone then
  return s.setArg 0 (s[0].setArg 4 (Lean.mkNullNode #[Lean.mkNode ``Lean.Parser.Command.noncomputable #[Lean.mkAtom "noncomputable"]]))
 Lean.Macro.throwUnsupported
local macro_rules|`(⋯)=>`(by decide)
local macro_rules|`(∅)=>`(by lia)
local macro_rules|`(tactic|simp! [$as,*]$[$l:location]?)=>`(tactic|simp only[$as,*]$[$l]?)
local macro_rules|`(tactic|dsimp! [$as,*]$[$l:location]?)=>`(tactic|dsimp only[$as,*]$[$l]?)
local macro_rules| `(tactic|obtain $p:rcasesPatMed:=$e:term)=>`(tactic|first|(refine Classical.byContradiction λhn=>?_;rcases $e:term with $p:rcasesPatMed<;>refine hn ?_<;>clear hn)|rcases $e:term with $p:rcasesPatMed)
local macro_rules| `(tactic|rintro⟨$ps,*⟩)=>`(tactic|(intro x;obtain⟨$ps,*⟩:=x))
local macro_rules| `(tactic|rintro $p $q $ps*)=>`(tactic|(rintro $p;rintro $q $ps*))
local macro_rules| `(tactic|ac_nf0)=>`(tactic|first|exact Or.inl rfl|exact Or.inr rfl|exact Or.inr (Or.inl rfl)|exact Or.inr (Or.inr rfl))
theorem Zrf(h:True:=by rfl):True:=h
local macro_rules|`(↥$x)=>`(autoParam $x Zrf._auto_1)
theorem Zrd(h:True:=by decide):True:=h
local macro_rules|`(⇑$x)=>`(autoParam $x Zrd._auto_1)
theorem Zro(h:True:=by ac_nf0):True:=h
local macro_rules|`(#v[$x])=>`(autoParam $x Zro._auto_1)
theorem Zri(h:True:=by intro _;rfl):True:=h
local macro_rules|`(~~~$x)=>`(autoParam $x Zri._auto_1)
abbrev ZA:=PySem.Value->PySem.Shared->Prop
abbrev ZB:=List (PySem.Addr×PySem.Obj)
abbrev ZC:=PySem.W.Frag
abbrev ZD:=PySem.Str->Option PySem.Value
abbrev ZE:=List (List Int×Int)
abbrev ZF:=List (Int×Int)
abbrev ZG:=List PySem.Str
abbrev ZH:=List Nat
abbrev ZI:=List PySem.PyData
abbrev ZJ:=List PySem.Value
abbrev ZK:=List Int
abbrev ZL:=Option PySem.PyData
abbrev ZM:=List PySem.Addr
abbrev ZN:=Option PySem.Value
abbrev ZO:=List (Option PySem.PyData)->Prop
namespace L2
open PySem PySem.Spec PyProof.Rows
abbrev dN:=Sum Int Str
def AI:dN->Value->Bool
 |.inl k,v=>Value.isInt k v
 |.inr x,v=>Value.isStrOf x v
def aMJ(w:World):dN->Int
 |.inl k=>hashInt k
 |.inr x=>hashStr w x
def cU:∀{k:dN}{v:Value},AI k v=true->(∃i t,k=Sum.inl i/\v=Value.int i t)\/(∃x t,k=Sum.inr x/\v=Value.str x t)
 |.inl i,v,h=>by
  let⟨t,e⟩:=Value.isInt_shape (k:=i) (v:=v) h;exact .inl ⟨i,t,rfl,e⟩
 |.inr x,v,h=>by
  let⟨t,e⟩:=Value.isStrOf_shape (x:=x) (v:=v) h;exact .inr ⟨x,t,rfl,e⟩
def N0(i:Int)(t:Tok):AI (.inl i) (.int i t)=true:=by simp[AI,Value.isInt]
def N1(x:Str)(t:Tok):AI (.inr x) (.str x t)=true:=by simp[AI,Value.isStrOf]
def aD6(a b:Int):decide ((Sum.inl a:dN)=Sum.inl b)=(a == b):=by
 grind
def aD7(a b:Str):decide ((Sum.inr a:dN)=Sum.inr b)=decide (a=b):=by
 grind
def aD8(a:Int)(b:Str):decide ((Sum.inl a:dN)=Sum.inr b)=false:=decide_eq_false (λq=>nomatch q)
def aD9(a:Str)(b:Int):decide ((Sum.inr a:dN)=Sum.inl b)=false:=decide_eq_false (λq=>nomatch q)
def c9(prog:Program)(w:World):(PySem.KeyKind prog w dN) where
 is:=AI
 hash:=aMJ w
 inj:=λv a b ha hb=>by
  rcases cU ha with ⟨i,t,rfl,rfl⟩|⟨x,t,rfl,rfl⟩
  .rcases cU hb with ⟨j,u,rfl,e⟩|⟨y,u,rfl,e⟩
   all_goals grind
  .rcases cU hb with ⟨j,u,rfl,e⟩|⟨y,u,rfl,e⟩
   all_goals grind
 byValue:=λk v h=>by
  rcases cU h with ⟨i,t,rfl,rfl⟩|⟨x,t,rfl,rfl⟩<;>rfl
 pyHash:=λhv h=>by
  rcases cU hv with ⟨i,t,rfl,rfl⟩|⟨x,t,rfl,rfl⟩
  .exact wpAny_pyHash_int h
  .exact wpAny_pyHash_str h
 eqBool:=λhu hv h=>by
  rcases cU hu with ⟨i,t,rfl,rfl⟩|⟨x,t,rfl,rfl⟩
  .rcases cU hv with ⟨j,u,rfl,rfl⟩|⟨y,u,rfl,rfl⟩
   .rw[aD6]at h;exact wpAny_eqBool_int h
   .rw[aD8]at h;exact SeqAt.EqAt.int_str i t y u _ _ _ _ h
  .rcases cU hv with ⟨j,u,rfl,rfl⟩|⟨y,u,rfl,rfl⟩
   .rw[aD9]at h;exact SeqAt.EqAt.str_int x t j u _ _ _ _ h
   .rw[aD7]at h;exact wpAny_eqBool_str h
 «strs»:=λk x t v h=>by
  rcases cU h with ⟨i,u,rfl,e⟩|⟨y,u,rfl,e⟩
  .exact nomatch e
  .injection e with e1 _
   subst e1;cases v<;>rfl
def ES(prog:Program)(w:World)(i:Int)(t:Tok):(c9 prog w).is (.inl i) (.int i t)=true:=N0 i t
def ET(prog:Program)(w:World)(x:Str)(t:Tok):(c9 prog w).is (.inr x) (.str x t)=true:=N1 x t
inductive V where
 |non|bl (b:Bool)|int (i:Int)|str (x:Str)|byt (b:Array UInt8)|flt (b:UInt64)|ref (a:Addr)|ty (n:String)
 deriving DecidableEq
def bH:V->Value->Prop
 |.non,u=>u=Value.none
 |.bl b,u=>u=Value.bool b
 |.int i,u=>∃t,u=Value.int i t
 |.str x,u=>∃t,u=Value.str x t
 |.byt b,u=>∃t,u=Value.bytes b t
 |.flt b,u=>∃t,u=Value.float b t
 |.ref a,u=>u=Value.ref a
 |.ty n,u=>u=Value.type n
abbrev bI:List V->ZJ->Prop:=Paired bH
def bI.length(r:bI xs us):xs.length=us.length:=Paired.length r
def bI.get:∀{xs:List V}{us:ZJ}{i:Nat}{x:V},bI xs us->xs[i]?=some x->∃u,us[i]?=some u/\bH x u
 |_,_,_,_,.nil,e=>by simp at e
 |_,_,0,_,.cons r _,e=>by simp at e;subst e;exact⟨_,rfl,r⟩
 |_,_,i+1,x,.cons _ t,e=>by
  let⟨u,h1,h2⟩:=bI.get (i:=i) (x:=x) t (by simpa using e);exact⟨u,by simpa using h1,h2⟩
def bI.set(r:bH x u):∀{xs:List V}{us:ZJ}(i:Nat),bI xs us->bI (xs.set i x) (us.set i u)
 |_,_,_,.nil=>.nil
 |_,_,0,.cons _ t=>.cons r t
 |_,_,i+1,.cons q t=>.cons q (bI.set r i t)
def bI.append:∀{xs ys:List V}{us ws:ZJ},bI xs us->bI ys ws->bI (xs++ys) (us++ws)
 |_,_,_,_,.nil,s=>s
 |_,_,_,_,.cons r t,s=>.cons r (bI.append t s)
def bI.take:∀{xs:List V}{us:ZJ}(n:Nat),bI xs us->bI (xs.take n) (us.take n)
 |_,_,0,_=>.nil
 |_,_,_+1,.nil=>.nil
 |_,_,n+1,.cons r t=>.cons r (bI.take n t)
def bI.drop:∀{xs:List V}{us:ZJ}(n:Nat),bI xs us->bI (xs.drop n) (us.drop n)
 |_,_,0,r=>r
 |_,_,_+1,.nil=>.nil
 |_,_,n+1,.cons _ t=>bI.drop n t
def oW:Option V->ZN->Prop
 |some v,some u=>bH v u
 |none,none=>True
 |_,_=>False
def KV{κ:Type}:List (κ×V)->List (κ×Value)->Prop:=Paired λ(p:κ×V)(q:κ×Value)=>p.1=q.1/\bH p.2 q.2
def kV:dN->V
 |.inl i=>.int i
 |.inr x=>.str x
inductive HO where
  |lst (xs:List V)
  |tup (xs:List V)
  |dK (À:List (dN×V))|dT (À:List (List dN×V))
  |set (S:Int->Bool) (n:Nat)
  |ins (C dx:Addr) (fs:List (Str×V))
  |own (x:Addr)
  |xd (fs:List (Str×V))
  |met (f x:Addr)
  |rng (lo hi:Int)
  |frz (o:Obj) (u:HO)
  |tbl (ps:Array Value)
 |lam (t u:Value) (q:Str)
  |ext (φ:Heap->Prop)
abbrev Hp:=Addr->Option HO
def bA(H:Hp)(a:Addr)(o:HO):Hp:=λb=>if b=a then some o else H b
def aJ:bA H a o a=some o:=by unfold bA;rw[Â rfl]
def aF(h:b≠a):bA H a o b=H b:=by unfold bA;rw[Ã h]
def BV:bA (bA H a o) a u=bA H a u:=by
 funext b;unfold bA;split<;>rfl
def aIR{H:Hp}{a b:Addr}{o u:HO}(h:H a=some o)(h':H b=some u)(d:o≠u):a≠b:=by
 grind
def bK{H:Hp}{a b:Addr}{o:HO}(h:H a=some o)(h':H b=none):a≠b:=by
 grind
section
variable (P:Program)(w:World)
def dO(H:Hp)(h:Heap)(a:Addr):HO->Prop
 |.lst xs=>xs.length<=sizeLine/\∃(its:ZJ)(n:Nat),bI xs its/\h.get? a=some {cls:=.type "list",data:=.seq its.toArray n}
 |.tup xs=>xs.length<=sizeLine/\∃its:ZJ,bI xs its/\IsTup h a its.toArray
 |.dK À=>À.length<=sizeLine/\(a == sysModules)=false/\∃vs,KV À vs/\h.DictOf (c9 P w) a vs
 |.dT À=>À.length<=sizeLine/\(a == sysModules)=false/\∃xs:List (List dN×Addr×Value),
   Paired (λ(p:List dN×V)(q:List dN×Addr×Value)=>p.1=q.1/\H q.2.1=some (.tup (p.1.map kV))/\bH p.2 q.2.2) À xs /\
   ∃o es ep,h.get? a=some o/\o.ExactDict/\o.data=.dict es ep/\es.toList=xs.map (entryOfKey (tupleKind (c9 P w)))/\(xs.map (·.1)).Nodup
 |.set S n=>h.SetOf (intKind P w) a S n
 |.ins C dx fs=>H dx=some (.own a)/\fs.length<=1000/\dx≠a/\h.get? a=some (W.instObj C dx) /\
   ∃mA,h.Ns1 dx mA/\(∀f,oW (fs.lookup f) (mA f))/\PySem.Within mA (fs.map (·.1))
 |.own _=>∃o,h.get? a=some o
 |.xd fs=>∃mA,h.Ns1 a mA/\∀f,oW (fs.lookup f) (mA f)
 |.rng lo hi=>∃t u v,h.get? a=some {cls:=.type "range",data:=.fields #[.int lo t,.int hi u,.int 1 v]}
 |.frz o u=>h.get? a=some o/\dO H h a u
 |.tbl ps=>h.get? a=some {cls:=.none,data:=.fields ps}
 |.lam t u q=>∃ps:Array Value,h.get? a=some {cls:=.none,data:=.fields ps}/\(ps=#[]\/∃c,ps=#[t,u,.ref c]/\H c=some (.own a)/\c≠a/\h.CodeRec (.ref c) q)
 |.met f x=>h.get? a=some (W.methodObj (.ref f) (.ref x))
 |.ext φ=>φ h/\(∃o,h.get? a=some o)/\∀h1 h2:Heap,φ h1->(∀o,h1.get? a=some o->h2.get? a=some o)->φ h2
def mM(H:Hp)(h:Heap):Prop:=∀a o,H a=some o->dO P w H h a o
end
section
variable {a:Addr}
def dO.lt(x:dO P w H h a o):a<h.objs.size:=by
 cases o with
 |lst xs=>let⟨_,_,_,_,e⟩:=x;exact Heap.lt_size e
 |tup xs=>let⟨_,_,_,p⟩:=x;exact p.lt
 |dK À=>let⟨_,_,_,_,o,_,_,e,_⟩:=x;exact Heap.lt_size e
 |dT À=>let⟨_,_,_,_,o,_,_,e,_⟩:=x;exact Heap.lt_size e
 |set S n=>let⟨o,_,_,_,e,_⟩:=x;exact Heap.lt_size e
 |ins C dx fs=>let⟨_,_,_,e,_⟩:=x;exact Heap.lt_size e
 |own y=>let⟨_,e⟩:=x;exact Heap.lt_size e
 |xd fs=>let⟨_,⟨_,_,_,e,_⟩,_⟩:=x;exact Heap.lt_size e
 |rng lo hi=>let⟨_,_,_,e⟩:=x;exact Heap.lt_size e
 |frz ob u=>let⟨e,_⟩:=x;exact Heap.lt_size e
 |tbl ps=>exact Heap.lt_size (show h.get? a=some _ from x)
 |lam t u q=>let⟨_,e,_⟩:=x;exact Heap.lt_size e
 |met f y=>exact Heap.lt_size (show h.get? a=some _ from x)
 |ext φ=>let⟨_,⟨_,e⟩,_⟩:=x;exact Heap.lt_size e
def Paired.mapP :∀{l₁:List α}{l₂:List β},Paired F l₁ l₂->(∀a b,F a b->G a b)->Paired G l₁ l₂
 |_,_,.nil,_=>.nil
 |_,_,.cons r t,f=>.cons (f _ _ r) (Paired.mapP t f)
def dO.stay(x:dO P w H h a o)(k:∀b u,(b=a\/H b=some (.own a))->h.get? b=some u->h'.get? b=some u)(ho:∀b,H b=some (.own a)->H' b=some (.own a))(ht:∀b xs,H b=some (.tup xs)->H' b=some (.tup xs)):dO P w H' h' a o:=by
 induction o with
 |lst xs=>let⟨z,its,n,r,e⟩:=x;exact⟨z,its,n,r,k _ _ (.inl rfl) e⟩
 |tup xs=>let⟨z,its,r,ob,e,c⟩:=x;exact⟨z,its,r,ob,k _ _ (.inl rfl) e,c⟩
 |dK À=>let⟨z,y,vs,r,ob,es,ep,e,c⟩:=x;exact⟨z,y,vs,r,ob,es,ep,k _ _ (.inl rfl) e,c⟩
 |dT À=>
  let⟨z,y,xs,r,ob,es,ep,e,c⟩:=x;exact⟨z,y,xs,Paired.mapP r λp q z=>⟨z.1,ht _ _ z.2.1,z.2.2⟩,ob,es,ep,k _ _ (.inl rfl) e,c⟩
 |set S n=>let⟨ob,es,ep,t,e,c⟩:=x;exact⟨ob,es,ep,t,k _ _ (.inl rfl) e,c⟩
 |ins C dx fs=>
  let⟨d,z,ne,e,mA,⟨od,es,ep,e2,c⟩,r⟩:=x;exact⟨ho _ d,z,ne,k _ _ (.inl rfl) e,mA,⟨od,es,ep,k _ _ (.inr d) e2,c⟩,r⟩
 |own y=>let⟨ob,e⟩:=x;exact⟨ob,k _ _ (.inl rfl) e⟩
 |xd fs=>let⟨mA,⟨od,es,ep,e,c⟩,r⟩:=x;exact⟨mA,⟨od,es,ep,k _ _ (.inl rfl) e,c⟩,r⟩
 |rng lo hi=>let⟨t,u,v,e⟩:=x;exact⟨t,u,v,k _ _ (.inl rfl) e⟩
 |frz ob u ih=>let⟨e,q⟩:=x;exact⟨k _ _ (.inl rfl) e,ih q⟩
 |tbl ps=>
  have e:h.get? a=some {cls:=.none,data:=.fields ps}:=x;show h'.get? a=some {cls:=.none,data:=.fields ps};exact k a _ (.inl rfl) e
 |lam t u q=>
  let⟨ps,e,r⟩:=x;refine⟨ps,k _ _ (.inl rfl) e,?_⟩;rcases r with r|⟨c,r1,r2,r3,b,ob,vs,tq,e1,e2,e3,e4⟩
  .exact .inl r
  .cases e1
   exact .inr ⟨c,r1,ho _ r2,r3,c,ob,vs,tq,rfl,k _ _ (.inr r2) e2,e3,e4⟩
 |met f y=>
  have e:h.get? a=some (W.methodObj (.ref f) (.ref y)):=x;show h'.get? a=some (W.methodObj (.ref f) (.ref y));exact k a _ (.inl rfl) e
 |ext φ=>let⟨p,⟨o,e⟩,st⟩:=x;exact⟨st _ _ p λo q=>k _ _ (.inl rfl) q,⟨o,k _ _ (.inl rfl) e⟩,st⟩
def mM.lt(x:mM P w H h)(e:H a=some o):a<h.objs.size:=(x a o e).lt
def mM.fresh(x:mM P w H h)(e:h.objs.size<=a):H a=none:=by
 cases q:H a with
 |none=>rfl
 |some u=>exact absurd (Ö (x.lt q) e) (ø _)
def mM.kept(x:mM P w H h)(k:∀b u,h.get? b=some u->h'.get? b=some u):mM P w H h':=λa o e=>
 (x a o e).stay (λb u _ q=>k b u q) (λ_ q=>q) λ_ _ q=>q
def mM.laid(x:mM P w H h)(k:∀b u,h.get? b=some u->h'.get? b=some u)(hp:h.objs.size<=a)(new:dO P w (bA H a o) h' a o):mM P w (bA H a o) h':=λb u e=>by
 have hn:=x.fresh hp;by_cases hb:b=a
 .subst hb;rw[aJ]at e;cases e;exact new
 .rw[aF hb]at e
  exact(x b u e).stay (λc v _ q=>k c v q) (λc q=>by rw[aF (bK q hn)];exact q) λc xs q=>by rw[aF (bK q hn)];exact q
end
def Rd(H:Hp)(a:Addr)(u:HO):Prop:=H a=some u\/∃o,H a=some (.frz o u)
def Rd.ok(r:Rd H a u)(x:mM P w H h):dO P w H h a u:=by
 rcases r with r|⟨o,r⟩
 .exact x a u r
 .obtain⟨_,q⟩:=x a _ r
  exact q
def ĭ:Option HO->Prop
 |some (.lst _)=>True
 |some (.dK _)=>True
 |some (.dT _)=>True
 |some (.set _ _)=>True
 |some (.ins _ _ _)=>True
 |some (.ext _)=>True
 |_=>False
section
def mM.write(ok:mM P w H h)(mu:ĭ (H x))(he:e=x\/H e=some (.own x))(k:∀b u,b≠e->h.get? b=some u->h'.get? b=some u)(heo:∃u,h'.get? e=some u)(new:dO P w (bA H x o') h' x o'):mM P w (bA H x o') h':=λb u q=>by
 have nown:∀c y,H c=some (.own y)->c≠x:=λc y r z=>by subst z;rw[r]at mu;exact mu
 have ntup:∀c xs,H c=some (.tup xs)->c≠x:=λc xs r z=>by subst z;rw[r]at mu;exact mu
 by_cases hb:b=x
 .subst hb;rw[aJ]at q;cases q;exact new
 .rw[aF hb]at q
  by_cases hbe:b=e
  .have q':H b=some (.own x):=by
    rcases he with z|z
    .grind
    .rw[hbe];exact z
   rw[q]at q';cases q';let⟨v,hv⟩:=heo;exact⟨v,by rw[hbe];exact hv⟩
  .refine(ok b u q).stay (λc v hc r=>k c v ?_ r) (λc r=>by rw[aF (nown c b r)];exact r) λc xs r=>by rw[aF (ntup c xs r)];exact r
   grind
end
structure Un(fs ex:ZM)(H H':Hp)(h h':Heap):Prop where
 keep:∀b o,h.get? b=some o->H b=none->b∉fs->b∉ex->h'.get? b=some o
 slot:∀b o,h.get? b=some o->H b=none->b∈fs->b∉ex->∃sl,h'.get? b=some {o with slots:=sl}
 free:∀b o,h.get? b=some o->H b=none->b∉ex->H' b=none
 there:∀b o,h.get? b=some o->b∉ex->∃o',h'.get? b=some o'
 tups:∀b xs,H b=some (.tup xs)->H' b=some (.tup xs)
 frzs:∀b o u,H b=some (.frz o u)->H' b=some (.frz o u)
 tbls:∀b ps,H b=some (.tbl ps)->∃more,H' b=some (.tbl (ps++more))
section
variable {fs ex:ZM}{H:Hp}{h h':Heap}{a:Addr}{o:HO}
def Un.any(u:Un fs ex H H1 h h1)(q:h.get? b=some ob)(n:H b=none)(hx:b∉ex):∃sl,h1.get? b=some {ob with slots:=sl}:=by
 by_cases hb:b∈fs
 .exact u.slot b ob q n hb hx
 .exact⟨ob.slots,u.keep b ob q n hb hx⟩
def Un.kept(k:∀b u,h.get? b=some u->h'.get? b=some u):Un fs ex H H h h':=
 ⟨λb ob q _ _ _=>k b ob q,λb ob q _ _ _=>⟨ob.slots,k b ob q⟩,λ_ _ _ n _=>n,λb ob q _=>⟨ob,k b ob q⟩,λ_ _ q=>q,λ_ _ _ q=>q,λ_ ps q=>⟨#[],by rw[q];simp⟩⟩
def Un.refl:Un fs ex H H h h:=Un.kept λ_ _ q=>q
def Un.laid(k:∀b u,h.get? b=some u->h'.get? b=some u)(hp:h.objs.size<=a)(hn:H a=none):Un fs ex H (bA H a o) h h' where
 keep:=λb u q _ _ _=>k b u q
 slot:=λb u q _ _ _=>⟨u.slots,k b u q⟩
 free:=λb u q n _=>by rw[aF (Í (Ö (Heap.lt_size q) hp))];exact n
 there:=λb u q _=>⟨u,k b u q⟩
 tups:=λb xs q=>by rw[aF (bK q hn)];exact q
 frzs:=λb u xs q=>by rw[aF (bK q hn)];exact q
 tbls:=λb ps q=>⟨#[],by rw[aF (bK q hn),q];simp⟩
def Un.write(mu:ĭ (H x))(he:e=x\/H e=some (.own x))(k:∀b u,b≠e->h.get? b=some u->h'.get? b=some u)(heo:∃u,h'.get? e=some u):Un fs ex H (bA H x o) h h':=by
 have hx:∀b,H b=none->b≠x:=λb n z=>by subst z;rw[n]at mu;exact mu
 have hb:∀b,H b=none->b≠e:=λb n z=>by
  grind
 have hm:∀b u,H b=some u->¬ĭ (some u)->b≠x:=λb u q nm z=>by grind
 refine⟨λb u q n _ _=>k b u (hb b n) q,λb u q n _ _=>⟨u.slots,k b u (hb b n) q⟩,λb u q n _=>by rw[aF (hx b n)];exact n,λb u q _=>?_,
  λb xs q=>by rw[aF (hm b _ q λz=>z)];exact q,λb u xs q=>by rw[aF (hm b _ q λz=>z)];exact q,λb ps q=>⟨#[],by rw[aF (hm b _ q λz=>z),q];simp⟩⟩
 grind
end
def ļ(h:Heap)(H:Hp):ZM:=(List.range h.objs.size).filter λa=>(H a).isSome
def zO(h:Heap)(H:Hp):Heap:=W.hideAll h (ļ h H)
def N2(h:Heap)(H:Hp):(zO h H).objs.size=h.objs.size:=W.hideAll_size _ _
def QT{h:Heap}{H:Hp}{b:Addr}{o:Obj}(e:h.get? b=some o)(n:H b=none):(zO h H).get? b=some o:=
 W.hideAll_get _ e λhm=>by
  have q:(H b).isSome=true:=(ċ.mp hm).2;rw[n]at q;simp at q
def X2(e:(zO h H).get? b=some o):h.get? b=some o/\H b=none:=by
 have e':h.get? b=some o:=W.of_hideAll (ļ h H) e;refine⟨e',?_⟩;cases q:H b with
 |none=>rfl
 |some x=>
  have hm:b∈ļ h H:=ċ.mpr ⟨List.mem_range.mpr (Heap.lt_size e'),by simp[q]⟩;have z:(zO h H).get? b=none:=W.hideAll_none (ļ h H) hm;rw[z]at e;cases e
def X3(g h:Heap)(L:Addr):ZB:=(List.range h.objs.size).filterMap λa=>if a=L\/(g.get? a).isSome=true then none else (h.get? a).map λo=>(a,o)
def rest(g h:Heap)(L d:Addr):ZB:=(X3 g h L).filter λp=>decide (p.1≠d)
structure Mod(K:ZC)(mg:ZD)(base:Heap):Prop where
 kin:K.In base
 glob:base.Ns mainGlobals mg
 blt:∃mb,base.Ns builtinsNs mb/\∀x:Str,x≠"__name__"->mb x=bootBuiltins x
 nolimit:base.NoLimit
structure Cx where
 prog:Program
 w:World
 K:ZC
 mg:ZD
 base:Heap
 A:Around
 N:ZG
 s₀:Shared
 H₀:Hp
 env:Env
 outer:List Env
 stack:List Env
 ex:ZM
 fn:Str->Bool
 calm:Bool
 pn:ZB
 xe:ZA
def iJ(l:List Env):ZM:=l.filterMap (·.frame)
abbrev Cx.fs(X:Cx):ZM:=iJ X.outer
def AJ(sc:Scope)(x:Str):Prop:=sc.names.lookup x=some .local\/sc.names.lookup x=some .cell\/sc.names.lookup x=some .free
def ĕ(sc:Scope)(x:Str):Prop:=sc.names.lookup x=some .local\/sc.names.lookup x=some .cell
def aMK(env:Env)(h:Heap)(m:ZD)(x:Str)(u:Value):Prop:=
 (env.kindOf x=some .local/\m x=some u)\/((env.kindOf x=some .cell\/env.kindOf x=some .free)/\∃c,env.cells.lookup x=some c/\h.IsCell c (some u))
structure Cx.Ok(X:Cx):Prop where
 mod:Mod X.K X.mg X.base
 kind:X.env.scope.kind=.function
 glob:X.env.globals=mainGlobals
 blt:X.env.builtins=builtinsNs
 above:X.s₀.heap.objs.size<=X.env.locals
 inj:∀x y c,X.env.cells.lookup x=some c->X.env.cells.lookup y=some c->x=y
 has:∀x,(X.env.kindOf x=some .cell\/X.env.kindOf x=some .free)->∃c,X.env.cells.lookup x=some c
 cab:∀x c,X.fn x=true->X.env.cells.lookup x=some c->X.s₀.heap.objs.size<=c
 hd:X.calm=true->X.A.handled=none
 frames:X.A.frames=some X.stack
 stk:X.stack=X.outer\/(X.stack=X.env::X.outer/\X.env.frame=some X.env.locals)
 exf:∀b∈X.ex,b≠X.env.locals/\∀x c,X.env.cells.lookup x=some c->c≠b
 bs:∀b o,X.base.get? b=some o->X.s₀.heap.get? b=some o/\X.H₀ b=none
 bsz:X.base.objs.size<=X.s₀.heap.objs.size
 noex:∀b o,X.base.get? b=some o->b∉X.ex
 exfs:∀b∈X.ex,b∉X.fs
 funs:X.s₀.heap.FunFrames X.base X.outer
 frf:∀b∈X.fs,X.H₀ b=none
structure Inv(X:Cx)(U:ZB)(σ:List (Option V))(H:Hp)(s:Shared):Prop where
 ok:X.Ok
 os:s.os=X.s₀.os
 bare:AllBare s.gens
 base:Un X.fs X.ex X.H₀ H X.s₀.heap s.heap
 loc:∃m,s.heap.Ns X.env.locals m/\∀(i:Nat)(x:Str)(v:V),X.N[i]?=some x->σ[i]?=some (some v)->AJ X.env.scope x->∃u,bH v u/\aMK X.env s.heap m x u
 cell:∀x c,X.env.cells.lookup x=some c->∃v,s.heap.IsCell c v
 free:H X.env.locals=none
 freeC:∀x c,X.env.cells.lookup x=some c->H c=none
 pin:∀p∈X.pn++U,s.heap.get? p.1=some p.2/\H p.1=none/\p.1≠X.env.locals/\p.1∉X.fs/\∀v,p.2.data≠.cell v
 hok:mM X.prog X.w H s.heap
 len:σ.length=X.N.length
section
variable {X:Cx}
def Cx.Ok.nofr(ok:X.Ok)(e:X.base.get? b=some o):b∉X.fs:=λhb=>by
 have:=(ok.funs.mem hb).1;rw[e]at this;cases this
def Inv.bs(I:Inv X U σ H s):∀b o,X.base.get? b=some o->s.heap.get? b=some o/\H b=none:=λb o e=>
 ⟨I.base.keep b o (I.ok.bs b o e).1 (I.ok.bs b o e).2 (I.ok.nofr e) (I.ok.noex b o e),I.base.free b o (I.ok.bs b o e).1 (I.ok.bs b o e).2 (I.ok.noex b o e)⟩
def Inv.bk(I:Inv X U σ H s):∀b o,X.base.get? b=some o->s.heap.get? b=some o:=λb o e=>(I.bs b o e).1
def Inv.mod(I:Inv X U σ H s):Mod X.K X.mg X.base:=I.ok.mod
def Inv.kIn(I:Inv X U σ H s):X.K.In s.heap:=I.ok.mod.kin.keeps I.bk
theorem Inv.nolimit(I:Inv X U σ H s):s.heap.NoLimit:=I.ok.mod.nolimit.keeps I.bk
def Inv.lt(I:Inv X U σ H s):X.env.locals<s.heap.objs.size:=let ⟨_,hn,_⟩:=I.loc;hn.lt
def Inv.sz(I:Inv X U σ H s):X.s₀.heap.objs.size<=s.heap.objs.size:=Ø I.ok.above (È I.lt)
def Inv.nofs(I:Inv X U σ H s){a:Addr}(h:s.heap.objs.size<=a):a∉X.fs:=λhb=>by
 let⟨_,o,ho,_⟩:=I.ok.funs.mem hb;exact absurd (Ö (Heap.lt_size ho) (Ø I.sz h)) (ø _)
def Inv.cne(I:Inv X U σ H s):∀x c,X.env.cells.lookup x=some c->c≠X.env.locals:=λx c e z=>by
 let⟨v,o,ho,hd⟩:=I.cell x c e;let⟨m,⟨o',es,ep,ho',hd',_⟩,_⟩:=I.loc
 grind
def Inv.funs(I:Inv X U σ H s):s.heap.FunFrames X.base X.outer:=by
 have all:∀(l:List Env),(∀b∈iJ l,b∈X.fs)->X.s₀.heap.FunFrames X.base l->s.heap.FunFrames X.base l:=by
  intro l
  induction l with
  |nil=>intro _ _;trivial
  |cons env r ih=>
   intro hs hl;let⟨hk,⟨L,o,hf,hn,ho,hd⟩,hr⟩:=hl;have hL:L∈X.fs:=hs L (by unfold iJ;rw[List.filterMap_cons,hf];exact Õ)
   let⟨sl,e⟩:=I.base.slot L o ho (I.ok.frf L hL) hL λz=>I.ok.exfs L z hL;exact⟨hk,⟨L,_,hf,hn,e,hd⟩,ih (λb hb=>hs b (by unfold iJ;rw[List.filterMap_cons,hf];exact Ò _ hb)) hr⟩
 exact all X.outer (λ_ hb=>hb) I.ok.funs
def Inv.stack(I:Inv X U σ H s):s.heap.FunFrames X.base X.stack:=by
 rcases I.ok.stk with e|⟨e,hf⟩
 .rw[e];exact I.funs
 .rw[e]
  let⟨m,hn,_⟩:=I.loc;refine .cons (by rw[I.ok.kind];decide) hf hn ?_ I.funs;exact Heap.get?_none_of_le (Ø I.ok.bsz I.ok.above)
def Inv.stkSub(I:Inv X U σ H s):∀b∈iJ X.stack,b∈X.env.locals::X.fs:=λb hb=>by
 rcases I.ok.stk with e|⟨e,hf⟩
 .grind
 .rw[e]at hb
  unfold iJ at hb;rw[List.filterMap_cons,hf]at hb;exact hb
def Inv.stkFree(I:Inv X U σ H s):∀b∈iJ X.stack,H b=none:=λb hb=>by
 rcases Ë.mp (I.stkSub b hb)with e|hb
 .rw[e];exact I.free
 .obtain⟨_,o,ho,_⟩:=I.ok.funs.mem hb
  exact I.base.free b o ho (I.ok.frf b hb) λz=>I.ok.exfs b z hb
def Inv.step{ch:ZM}(I:Inv X U σ H s)(hch:∀b∈ch,(b∈X.ex\/X.s₀.heap.objs.size<=b)/\b≠X.env.locals/\(∀x c,X.env.cells.lookup x=some c->c≠b)/\∀p∈X.pn++U,p.1≠b)(keep:∀b o,b≠X.env.locals->b∉X.fs->b∉ch->s.heap.get? b=some o->H b=none->h'.get? b=some o)(slot:∀b o,b≠X.env.locals->b∈X.fs->b∉ch->s.heap.get? b=some o->H b=none->∃sl,h'.get? b=some {o with slots:=sl})(free:∀b o,b∉ch->s.heap.get? b=some o->H b=none->H' b=none)(there:∀b o,b∉ch->s.heap.get? b=some o->∃o',h'.get? b=some o')(tups:∀b xs,H b=some (.tup xs)->H' b=some (.tup xs))(frzs:∀b o u,H b=some (.frz o u)->H' b=some (.frz o u))(tbls:∀b ps,H b=some (.tbl ps)->∃more,H' b=some (.tbl (ps++more)))(ns:∀m,s.heap.Ns X.env.locals m->h'.Ns X.env.locals m)(hok:mM X.prog X.w H' h')(hg:AllBare g'):
  Inv X U σ H' {s with heap:=h',gens:=g',drawn:=d',toks:=t'}:=by
 have ŗ:∀b o,X.s₀.heap.get? b=some o->b≠X.env.locals:=λb o e=>Í (Ö 'y' I.ok.above);have neC:∀b o,X.s₀.heap.get? b=some o->b∉X.ex->b∉ch:=λb o e hx hb=>by
  rcases(hch b hb).1 with z|z
  .exact hx z
  .exact absurd (Ö 'y' z) (ø _)
 have cellK:∀x c,X.env.cells.lookup x=some c->∀v,s.heap.IsCell c v->h'.IsCell c v:=λx c e v⟨o,ho,hd⟩=>by
  have nch:c∉ch:=λz=>(hch c z).2.2.1 x c e rfl;by_cases hc:c∈X.fs
  .obtain⟨sl,q⟩:=slot c o (I.cne x c e) hc nch ho (I.freeC x c e)
   exact⟨_,q,hd⟩
  .exact⟨o,keep c o (I.cne x c e) hc nch ho (I.freeC x c e),hd⟩
 refine⟨I.ok,I.os,hg,⟨λb o e n hb hx=>?_,λb o e n hb hx=>?_,λb o e n hx=>?_,λb o e hx=>?_,λb xs e=>tups b xs (I.base.tups b xs e),λb o xs e=>frzs b o xs (I.base.frzs b o xs e),λb ps e=>?_⟩,?_,λx c e=>?_,?_,λx c e=>?_,λp hp=>?_,hok,I.len⟩
 .exact keep b o (ŗ b o e) hb (neC b o e hx) (I.base.keep b o e n hb hx) (I.base.free b o e n hx)
 .obtain⟨sl,e1⟩:=I.base.slot b o e n hb hx
  let⟨sl',e2⟩:=slot b _ (ŗ b o e) hb (neC b o e hx) e1 (I.base.free b o e n hx);exact⟨sl',e2⟩
 .obtain⟨o',e1⟩:=I.base.there b o e hx
  exact free b o' (neC b o e hx) e1 (I.base.free b o e n hx)
 .obtain⟨o',e1⟩:=I.base.there b o e hx
  exact there b o' (neC b o e hx) e1
 .obtain⟨m1,e1⟩:=I.base.tbls b ps e
  let⟨m2,e2⟩:=tbls b _ e1;exact⟨m1++m2,by rw[e2,Array.append_assoc]⟩
 .obtain⟨m,hn,hl⟩:=I.loc
  refine⟨m,ns m hn,λi x v e1 e2 e3=>?_⟩;let⟨u,r,l⟩:=hl i x v e1 e2 e3;refine⟨u,r,?_⟩;rcases l with l|⟨k,c,e,z⟩
  .exact .inl l
  .exact .inr ⟨k,c,e,cellK x c e _ z⟩
 .obtain⟨v,z⟩:=I.cell x c e
  exact⟨v,cellK x c e v z⟩
 .obtain⟨m,⟨o,_,_,ho,_⟩,_⟩:=I.loc
  exact free _ o (λz=>(hch _ z).2.1 rfl) ho I.free
 .obtain⟨v,o,ho,hd⟩:=I.cell x c e
  exact free c o (λz=>(hch c z).2.2.1 x c e rfl) ho (I.freeC x c e)
 .obtain⟨e,n,ne,nf,d⟩:=I.pin p hp
  have nch:p.1∉ch:=λz=>(hch p.1 z).2.2.2 p hp rfl;exact⟨keep p.1 p.2 ne nf nch e n,free p.1 p.2 nch e n,ne,nf,d⟩
def Inv.un(I:Inv X U σ H s)(u:Un X.fs [] H H' s.heap h')(hok:mM X.prog X.w H' h'):Inv X U σ H' {s with heap:=h',toks:=t'}:=by
 let⟨m,⟨o,es,ep,ho,r⟩,_⟩:=id I.loc;let⟨sl,hL⟩:=u.any ho I.free 'e';exact I.step (g':=s.gens) (d':=s.drawn) (ch:=[]) (λ_ z=>nomatch z) (λb o _ hb _ e n=>u.keep b o e n hb 'e') (λb o _ hb _ e n=>u.slot b o e n hb 'e') (λb o _ e n=>u.free b o e n 'e') (λb o _ e=>u.there b o e 'e') u.tups u.frzs u.tbls (λm' hm=>by
  let⟨o',es',ep',ho',r'⟩:=hm;rw[ho]at ho';cases ho';exact⟨_,es',ep',hL,r'⟩) hok I.bare
def Inv.call(I:Inv X U σ H s)(u:Un (iJ X.stack) ch H H' s.heap h')(hok:mM X.prog X.w H' h')(hg:AllBare g')(hch:∀b∈ch,(b∈X.ex\/X.s₀.heap.objs.size<=b)/\b≠X.env.locals/\(∀x c,X.env.cells.lookup x=some c->c≠b)/\∀p∈X.pn++U,p.1≠b):
  Inv X U σ H' {s with heap:=h',gens:=g',drawn:=d',toks:=t'}:=by
 let⟨m,⟨o,es,ep,ho,r⟩,_⟩:=id I.loc;let⟨sl,hL⟩:=u.any ho I.free λz=>(hch _ z).2.1 rfl;exact I.step (ch:=ch) hch (λb o hL hb hc e n=>u.keep b o e n (λz=>(Ë.mp (I.stkSub b z)).elim hL hb) hc) (λb o _ _ hc e n=>u.any e n hc) (λb o hc e n=>u.free b o e n hc) (λb o hc e=>u.there b o e hc) u.tups u.frzs u.tbls (λm' hm=>by
  let⟨o',es',ep',ho',r'⟩:=hm;rw[ho]at ho';cases ho';exact⟨_,es',ep',hL,r'⟩) hok hg
def Inv.turned(I:Inv X U σ H s)(k:∀b o,b≠it->s.heap.get? b=some o->h'.get? b=some o)(hn:H it=none)(hL:it≠X.env.locals)(h1:it∈X.ex\/X.s₀.heap.objs.size<=it)(h2:∀x c,X.env.cells.lookup x=some c->c≠it)(h3:∀p∈X.pn++U,p.1≠it):Inv X U σ H {s with heap:=h',toks:=t'}:=by
 have nit:∀b u,H b=some u->b≠it:=λb u e z=>by rw[z,hn]at e;cases e
 refine I.step (g':=s.gens) (d':=s.drawn) (ch:=[it]) (λb hb=>?_) (λb o _ _ hc e _=>k b o (λz=>hc (by simp[z])) e) (λb o _ _ hc e _=>⟨o.slots,k b o (λz=>hc (by simp[z])) e⟩) (λ_ _ _ _ n=>n)
  (λb o hc e=>⟨o,k b o (λz=>hc (by simp[z])) e⟩) (λ_ _ e=>e) (λ_ _ _ e=>e) (λb ps e=>⟨#[],by rw[e];simp⟩) (λm hm=>?_) (λb u e=>?_) I.bare
 .have e:b=it:=by simpa using hb
  subst e;exact⟨h1,hL,h2,h3⟩
 .obtain⟨o,es,ep,ho,r⟩:=hm
  exact⟨o,es,ep,k _ o (Ñ hL) ho,r⟩
 .refine(I.hok b u e).stay (λc v hc q=>k c v ?_ q) (λ_ q=>q) λ_ _ q=>q
  rcases hc with z|z
  .rw[z];exact nit b u e
  .exact nit c _ z
def Inv.tok(I:Inv X U σ H s)(t:Nat):Inv X U σ H {s with toks:=t}:=I.un (h':=s.heap) (t':=t) Un.refl I.hok
def Inv.kept(I:Inv X U σ H s)(k:∀b u,s.heap.get? b=some u->h'.get? b=some u):Inv X U σ H {s with heap:=h',toks:=t'}:=I.un (Un.kept k) (I.hok.kept k)
def Inv.laid(I:Inv X U σ H s)(k:∀b u,s.heap.get? b=some u->h'.get? b=some u)(hp:s.heap.objs.size<=a)(new:dO X.prog X.w (bA H a o) h' a o):
  Inv X U σ (bA H a o) {s with heap:=h',toks:=t'}:=I.un (Un.laid k hp (I.hok.fresh hp)) (I.hok.laid k hp new)
def Inv.write(I:Inv X U σ H s)(mu:ĭ (H x))(he:e=x\/H e=some (.own x))(k:∀b u,b≠e->s.heap.get? b=some u->h'.get? b=some u)(heo:∃u,h'.get? e=some u)(new:dO X.prog X.w (bA H x o) h' x o):Inv X U σ (bA H x o) {s with heap:=h',toks:=t'}:=I.un (Un.write mu he k heo) (I.hok.write mu he k heo new)
def Inv.pins_of(I:Inv X U σ H s)(h:∀p∈pins',s.heap.get? p.1=some p.2/\H p.1=none/\p.1≠X.env.locals/\p.1∉X.fs/\∀v,p.2.data≠.cell v):Inv X pins' σ H s:=
 ⟨I.ok,I.os,I.bare,I.base,I.loc,I.cell,I.free,I.freeC,λp hp=>(ü.mp hp).elim (λz=>I.pin p (Ĝ _ z)) (h p),I.hok,I.len⟩
def EU{N:ZG}(hN:N.Nodup){i j:Nat}(a:N[i]?=some x)(b:N[j]?=some x):i=j:=by
 let⟨h1,e1⟩:=Ð.mp a;let⟨h2,e2⟩:=Ð.mp b;exact(List.getElem_inj hN).mp (e1.trans e2.symm)
def AK{M:Model}{A:Around}{E:ZA}{i:Nat}{x:Str}{v:V}{u:Value}{Q:Unit->Shared->Prop}(I:Inv X U σ H s)(hN:X.N.Nodup)(hi:X.N[i]?=some x)(hx:ĕ X.env.scope x)(r:bH v u)(h:∀s',Inv X U (σ.set i (some v)) H s'->(∃a,Heap.SameBut a s.heap s'.heap/\(a=X.env.locals\/X.env.cells.lookup x=some a))->Q () s')(hf:X.fn x=true\/X.env.scope.names.lookup x=some .local:=by first|exact .inl rfl|exact .inr rfl|assumption):wpAny M A (storeName X.env x u) Q E s:=by
 let⟨m,hn,hl⟩:=id I.loc;have hcls:(X.env.scope.kind == .class || (X.env.scope.kind == .module && X.env.locals != X.env.globals))=false:=by rw[I.ok.kind];rfl
 have hiσ:i<σ.length:=by rw[I.len];exact(Ð.mp hi).1
 have cne:=I.cne;have tracked:∀{a:Addr}{h':Heap},(∃o,s.heap.get? a=some o/\H a=none)->Heap.SameBut a s.heap h'->mM X.prog X.w H h':=λ{a h'}ha hs b ob e=>by
  let⟨_,_,hfree⟩:=ha;refine(I.hok b ob e).stay (λc w' hc q=>(hs.2 c ?_).trans q) (λ_ q=>q) λ_ _ q=>q
  grind
 rcases hx with hk|hk
 .refine wpAny_storeName_local hk hn (λh' hn' hs=>?_) hcls
  let⟨oL,_,_,hoL,_⟩:=id hn;refine h _ ⟨I.ok,I.os,I.bare,⟨λb o e n hb hx=>?_,λb o e n hb hx=>?_,I.base.free,λb o e hx=>?_,I.base.tups,I.base.frzs,I.base.tbls⟩,⟨_,hn',λj y v' e1 e2 e3=>?_⟩,λy c e=>?_,I.free,I.freeC,λp hp=>?_,tracked ⟨oL,hoL,I.free⟩ hs,by simpa using I.len⟩ ⟨_,hs,.inl rfl⟩
  .exact(hs.2 b (Í (Ö 'y' I.ok.above))).trans (I.base.keep b o e n hb hx)
  .obtain⟨sl,e1⟩:=I.base.slot b o e n hb hx
   exact⟨sl,(hs.2 b (Í (Ö 'y' I.ok.above))).trans e1⟩
  .obtain⟨o',e1⟩:=I.base.there b o e hx
   exact⟨o',(hs.2 b (Í (Ö 'y' I.ok.above))).trans e1⟩
  .by_cases hj:j=i
   .subst hj
    rw[hi]at e1;cases e1;rw[ë hiσ]at e2;cases e2;exact⟨u,r,.inl ⟨hk,by simp⟩⟩
   .rw[Þ (Ñ hj)]at e2
    let⟨u',r',q⟩:=hl j y v' e1 e2 e3;refine⟨u',r',?_⟩;rcases q with ⟨k,e⟩|⟨k,c,e,z⟩
    .refine .inl ⟨k,?_⟩
     have:y≠x:=λe=>hj (EU hN e1 (e▸hi));simp[this,e]
    .exact .inr ⟨k,c,e,z.sameBut hs (cne y c e)⟩
  .obtain⟨w',z⟩:=I.cell y c e
   exact⟨w',z.sameBut hs (cne y c e)⟩
  .obtain⟨e,n,ne,nf,d⟩:=I.pin p hp
   exact⟨(hs.2 p.1 ne).trans e,n,ne,nf,d⟩
 .have hfn:X.fn x=true:=by
   rcases hf with z|z
   .exact z
   .rw[z]at hk;cases hk
  let⟨c,hc⟩:=I.ok.has x (.inl hk);let⟨w',z⟩:=I.cell x c hc;refine wpAny_storeName_cell I.ok.kind hk hc z (λh' hc' hs=>?_);let⟨oc,hoc,hocd⟩:=id z;refine h {s with heap:=h'} ⟨I.ok,I.os,I.bare,⟨λb o e n hb hx=>?_,λb o e n hb hx=>?_,I.base.free,λb o e hx=>?_,I.base.tups,I.base.frzs,I.base.tbls⟩,⟨m,hn.sameBut hs (Ñ (cne x c hc)),λj y v' e1 e2 e3=>?_⟩,λy c' e=>?_,I.free,I.freeC,λp hp=>?_,tracked ⟨oc,hoc,I.freeC x c hc⟩ hs,by simpa using I.len⟩ ⟨c,hs,.inr hc⟩
  .exact(hs.2 b (Í (Ö 'y' (I.ok.cab x c hfn hc)))).trans (I.base.keep b o e n hb hx)
  .obtain⟨sl,e1⟩:=I.base.slot b o e n hb hx
   exact⟨sl,(hs.2 b (Í (Ö 'y' (I.ok.cab x c hfn hc)))).trans e1⟩
  .obtain⟨o',e1⟩:=I.base.there b o e hx
   exact⟨o',(hs.2 b (Í (Ö 'y' (I.ok.cab x c hfn hc)))).trans e1⟩
  .by_cases hj:j=i
   .subst hj
    rw[hi]at e1;cases e1;rw[ë hiσ]at e2;cases e2;exact⟨u,r,.inr ⟨.inl hk,c,hc,hc'⟩⟩
   .rw[Þ (Ñ hj)]at e2
    let⟨u',r',q⟩:=hl j y v' e1 e2 e3;refine⟨u',r',?_⟩;rcases q with q|⟨k,c',e,z'⟩
    .exact .inl q
    .refine .inr ⟨k,c',e,z'.sameBut hs ?_⟩
     rintro rfl;exact hj (EU hN e1 (I.ok.inj _ _ _ e hc▸hi))
  .by_cases hcc:c'=c
   .grind
   .obtain⟨w2,z2⟩:=I.cell y c' e
    exact⟨w2,z2.sameBut hs hcc⟩
  .obtain⟨e,n,ne,nf,d⟩:=I.pin p hp
   refine⟨(hs.2 p.1 ?_).trans e,n,ne,nf,d⟩
   grind
def EV{M:Model}{A:Around}{E:ZA}{i:Nat}{x:Str}{v:V}{u:Value}{Q:Unit->Shared->Prop}(I:Inv X U σ H s)(hN:X.N.Nodup)(hi:X.N[i]?=some x)(hx:ĕ X.env.scope x)(r:bH v u)(h:∀s',Inv X U (σ.set i (some v)) H s'->Q () s')(hf:X.fn x=true\/X.env.scope.names.lookup x=some .local:=by first|exact .inl rfl|exact .inr rfl|assumption):wpAny M A (storeName X.env x u) Q E s:=
 AK I hN hi hx r (λs' I' _=>h s' I') hf
def Inv.call'(I:Inv X U σ H s)(ho:s'.os=s.os)(u:Un (iJ X.stack) ch H H' s.heap s'.heap)(hok:mM X.prog X.w H' s'.heap)(hg:AllBare s'.gens)(hch:∀b∈ch,(b∈X.ex\/X.s₀.heap.objs.size<=b)/\b≠X.env.locals/\(∀x c,X.env.cells.lookup x=some c->c≠b)/\∀p∈X.pn++U,p.1≠b):Inv X U σ H' s':=by
 let⟨h',g',d',t',o'⟩:=s';have e:o'=s.os:=ho;subst e;exact I.call (g':=g') (t':=t') (d':=d') u hok hg hch
end
abbrev XK:=Value->Option Addr->Hp->Prop
abbrev St:=List (Option V)
abbrev VK:=V->Hp->Prop
abbrev TE:=St->Hp->VK->Prop
abbrev TT:=St->Hp->(Bool->Hp->Prop)->Prop
abbrev TA:=St->Hp->(List V->Hp->Prop)->Prop
structure EW where
 nx:St->Hp->Prop
 rt:VK
 bk:St->Hp->Prop:=λ_ _=>False
 ct:St->Hp->Prop:=λ_ _=>False
abbrev TS:=EW->St->Hp->Prop
def EP(X:Cx)(U:ZB)(σ:St)(Q:VK)(u:Value)(s':Shared):Prop:=∃v H',Inv X U σ H' s'/\bH v u/\Q v H'
def TP(X:Cx)(U:ZB)(σ:St)(Q:Bool->Hp->Prop)(b:Bool)(s':Shared):Prop:=∃H',Inv X U σ H' s'/\Q b H'
def AP(X:Cx)(U:ZB)(σ:St)(Q:List V->Hp->Prop)(us:ZJ)(s':Shared):Prop:=∃vs H',Inv X U σ H' s'/\bI vs us/\Q vs H'
def SP(X:Cx)(U:ZB)(D:EW)(f:Flow)(s':Shared):Prop:=
 match f with
 |.next=>∃σ' H',Inv X U σ' H' s'/\D.nx σ' H'
 |.brk=>∃σ' H',Inv X U σ' H' s'/\D.bk σ' H'
 |.cont=>∃σ' H',Inv X U σ' H' s'/\D.ct σ' H'
 |.ret u=>∃v σ' H',Inv X U σ' H' s'/\bH v u/\D.rt v H'
def PE(X:Cx)(e:Expr)(t:TE):Prop:=
 ∀(U:ZB)(s:Shared)(σ:St)(H:Hp)(Q:VK),Inv X U σ H s->t σ H Q->wpAny 'b' X.A (eval e X.env) (EP X U σ Q) X.xe s
def PT(X:Cx)(e:Expr)(t:TT):Prop:=
 ∀(U:ZB)(s:Shared)(σ:St)(H:Hp)(Q:Bool->Hp->Prop),Inv X U σ H s->t σ H Q->wpAny 'b' X.A (isTrue e X.env (eval e X.env)) (TP X U σ Q) X.xe s
def PW(X:Cx)(e:Expr)(t:TT):Prop:=
 ∀(whole:Sem Value)(U:ZB)(s:Shared)(σ:St)(H:Hp)(Q:Bool->Hp->Prop),Inv X U σ H s->t σ H Q->wpAny 'b' X.A (isTrue e X.env whole) (TP X U σ Q) X.xe s
def PW.pt(h:PW X e t):PT X e t:=h _
def PA(X:Cx)(es:List Expr)(t:TA):Prop:=
 ∀(pos:Pos)(U:ZB)(s:Shared)(σ:St)(H:Hp)(Q:List V->Hp->Prop),Inv X U σ H s->t σ H Q->wpAny 'b' X.A (spliced (backTo pos (starEach es X.env))) (AP X U σ Q) X.xe s
def PS(X:Cx)(st:Stmt)(t:TS):Prop:=
 ∀(U:ZB)(s:Shared)(σ:St)(H:Hp)(D:EW),Inv X U σ H s->t D σ H->wpAny 'b' X.A (exec st X.env) (SP X U D) X.xe s
def EQ(X:Cx)(st:List Stmt)(t:TS):Prop:=
 ∀(U:ZB)(s:Shared)(σ:St)(H:Hp)(D:EW),Inv X U σ H s->t D σ H->wpAny 'b' X.A (execs st X.env) (SP X U D) X.xe s
def cM{Q Q':α->Shared->Prop}(h:wpAny M A t Q E s)(hQ:∀a s,Q a s->Q' a s):wpAny M A t Q' E s:=wpAny_mono h hQ λ_ _ x=>x
section
variable {X:Cx}
def aP4(ha:PE X a ta)(hb:PE X b tb){R:V->V->Hp->Prop}(I:Inv X U σ H s)(h:ta σ H λx H1=>tb σ H1 λy H2=>R x y H2){f:Value->Value->Sem α}(hf:∀v u s2 x y H2,Inv X U σ H2 s2->bH x v->bH y u->R x y H2->wpAny 'b' X.A (f v u) Q X.xe s2):
  wpAny 'b' X.A (eval a X.env) (λv s₁=>wpAny 'b' X.A (eval b X.env) (λu s₂=>wpAny 'b' X.A (f v u) Q X.xe s₂) X.xe s₁) X.xe s:=by
 refine cM (ha U s σ H _ I h) λv s1 zQ=>?_;let⟨x,H1,I1,r1,q1⟩:=zQ;refine cM (hb U s1 σ H1 _ I1 q1) λu s2 zQ=>?_;let⟨y,H2,I2,r2,q2⟩:=zQ;exact hf v u s2 x y H2 I2 r1 r2 q2
def N3(i:Nat):TE:=λσ H Q=>∃v,σ[i]?=some (some v)/\Q v H
def tC(v:V):TE:=λ_ H Q=>Q v H
def dQ{pos:Pos}(hN:X.N[i]?=some x)(hv:AJ X.env.scope x)(hd:⇑(Zdb x))(hcd:⇑(Zcd x)):PE X (.Name x pos) (N3 i):=by
 intro U s σ H Q I h;let⟨v,e,h⟩:=h;let⟨m,hn,hl⟩:=I.loc;let⟨u,r,l⟩:=hl i x v hN e hv;have fin:EP X U σ Q u s:=⟨v,H,I,r,h⟩;rcases l with ⟨hk,hm⟩|⟨hk,c,hc,hcell⟩
 .exact wpAny_Name (wpAny_loadName_local I.ok.kind hk hn hm fin) hd
 .rcases hk with hk|hk
  .exact wpAny_Name (wpAny_loadName_cell I.ok.kind hk hc hcell fin) hd
  .exact wpAny_Name (wpAny_loadName_free I.ok.kind hk hc hcell fin hcd) hd
def aEA:PE X (.Constant (.int i) j pos) (tC (.int i)):=λ_ _ _ H _ I h=>wpAny_Constant_int ⟨.int i,H,I.tok _,⟨_,rfl⟩,h⟩
def aIT:PE X (.Constant (.bool b) j pos) (tC (.bl b)):=λ_ _ _ H _ I h=>Constant_bool ⟨.bl b,H,I,rfl,h⟩
def aEB:PE X (.Constant .none j pos) (tC .non):=λ_ _ _ H _ I h=>Constant_none ⟨.non,H,I,rfl,h⟩
def aEC:PE X (.Constant (.str x) j pos) (tC (.str x)):=λ_ _ _ H _ I h=>Calls.Constant_str ⟨.str x,H,I.tok _,⟨_,rfl⟩,h⟩
def Gl(X:Cx)(x:Str):Prop:=X.env.kindOf x=some .globalImplicit
def vQ{E:ZA}{U:ZB}{s:Shared}{σ:St}{H:Hp}{x:Str}{u:Value}{pos:Pos}{Q:ZA}(I:Inv X U σ H s)(hg:Gl X x)(hm:X.mg x=some u)(h:Q u s)(hd:⇑(Zdb x)):wpAny 'b' X.A (eval (.Name x pos) X.env) Q E s:=
 Calls.Name_function_global I.ok.kind hg (Calls.loadGlobal_global (by rw[I.ok.glob];exact I.mod.glob.keeps I.bk) hm h) hd
def iK{E:ZA}{U:ZB}{s:Shared}{σ:St}{H:Hp}{x:Str}{u:Value}{pos:Pos}{Q:ZA}(I:Inv X U σ H s)(hg:Gl X x)(hm:X.mg x=none)(hv:bootBuiltins x=some u)(h:Q u s)(hn:⇑(x≠"__name__"))(hd:⇑(Zdb x)):wpAny 'b' X.A (eval (.Name x pos) X.env) Q E s:=by
 let⟨mb,h1,h2⟩:=I.mod.blt;exact Calls.Name_function_global I.ok.kind hg (Calls.loadGlobal_builtin (by rw[I.ok.glob];exact I.mod.glob.keeps I.bk) hm (by rw[I.ok.blt];exact h1.keeps I.bk) ((h2 x hn).trans hv) h) hd
def K2(hg:Gl X x)(hm:X.mg x=some u)(r:bH v u)(hd:⇑(Zdb x)):PE X (.Name x pos) (tC v):=
 λ_ _ _ H _ I h=>vQ I hg hm ⟨v,H,I,r,h⟩ hd
def X4{pos:Pos}(hg:Gl X x)(hm:X.mg x=none)(hv:bootBuiltins x=some u)(r:bH v u)(hn:⇑(x≠"__name__"))(hd:⇑(Zdb x)):PE X (.Name x pos) (tC v):=
 λ_ _ _ H _ I h=>iK I hg hm hv ⟨v,H,I,r,h⟩ hn hd
variable {a b:Expr}{ta tb:TE}{pos:Pos}
def PC(X:Cx)(op:CmpOp)(a b:Expr)(t:TE):Prop:=
 ∀(U:ZB)(s:Shared)(σ:St)(H:Hp)(Q:VK),Inv X U σ H s->t σ H Q ->
  wpAny 'b' X.A (eval a X.env) (λv s₁=>wpAny 'b' X.A (eval b X.env) (λu s₂=>wpAny 'b' X.A (compareOp op v u) (EP X U σ Q) X.xe s₂) X.xe s₁) X.xe s
def EY(b:Expr)(h:op≠.In)(h2:op≠.NotIn):behindInMarks op b=false:=by
 have e1:(op == CmpOp.In)=false:=by cases op<;>first|rfl|exact absurd rfl h
 have e2:(op == CmpOp.NotIn)=false:=by cases op<;>first|rfl|exact absurd rfl h2
 cases b<;>simp[behindInMarks,e1,e2]
def tB(t:TE):TT:=λσ H Q=>t σ H λx H1=>∃c,x=.bl c/\Q c H1
def aED(h:PC X op a b t)(h1:behindInMarks op b=false:=by first|exact EY _ ⋯ ⋯|rfl):PE X (.Compare a [op] [b] pos) t:=λU s σ H Q I hw=>wpAny_Compare1 (h U s σ H Q I hw) h1
def aEE(h:PC X op a b t)(h1:behindInMarks op b=false:=by first|exact EY _ ⋯ ⋯|rfl):PT X (.Compare a [op] [b] pos) (tB t):=by
 intro U s σ H Q I hw;refine wpAny_isTrue_Compare1 (cM (h U s σ H _ I hw) λv s1 h1=>cM h1 λu s2 h2=>cM h2 λc s3 zQ=>?_) h1;let⟨x,H1,I1,r1,q1⟩:=zQ;let⟨d,rfl,q⟩:=q1;cases r1;exact wpAny_truthy_bool ⟨H1,I1,q⟩
def aEF(h:PE X e t)(he: ~~~(∀whole,isTrue e X.env whole=(do let v <- whole;standAt e.pos;holding [v] (truthy v)))):PT X e (tB t):=by
 intro U s σ H Q I hw;refine isTrue_plain (cM (h U s σ H _ I hw) λv s1 zQ=>?_) (he _);let⟨x,H1,I1,r1,q1⟩:=zQ;let⟨d,rfl,q⟩:=q1;cases r1;exact wpAny_truthy_bool ⟨H1,I1,q⟩
variable {tA tB':TT}{rest:List Expr}
def aMM(t u:TT):TT:=λσ H Q=>t σ H λc H1=>if c=true then u σ H1 Q else Q false H1
def aO7(t u:TT):TT:=λσ H Q=>t σ H λc H1=>if c=true then Q true H1 else u σ H1 Q
def aMN(t:TT):TT:=λσ H Q=>t σ H λc H1=>Q (!c) H1
def X5(ha:PT X a tA):PW X (.BoolOp .And [a] pos) tA:=by
 intro wh U s σ H Q I h;refine isTrue_and (cM (ha U s σ H Q I h) λc s1 e=>?_);cases c with
 |true=>exact isTrue_and_nil e
 |false=>exact e
def aEG(ha:PT X a tA):PW X (.BoolOp .Or [a] pos) tA:=by
 intro wh U s σ H Q I h;refine isTrue_or (cM (ha U s σ H Q I h) λc s1 e=>?_);cases c with
 |false=>exact isTrue_or_nil e
 |true=>exact e
def aEH(ha:PT X a tA)(hb:PW X (.BoolOp .And (b::rest) pos) tB'):PW X (.BoolOp .And (a::b::rest) pos) (aMM tA tB'):=by
 intro wh U s σ H Q I h;refine isTrue_and (cM (ha U s σ H _ I h) λc s1 zQ=>?_);let⟨H1,I1,q1⟩:=zQ;cases c with
 |true=>exact hb wh U s1 σ H1 Q I1 q1
 |false=>exact⟨H1,I1,q1⟩
def aIU(ha:PT X a tA)(hb:PW X (.BoolOp .Or (b::rest) pos) tB'):PW X (.BoolOp .Or (a::b::rest) pos) (aO7 tA tB'):=by
 intro wh U s σ H Q I h;refine isTrue_or (cM (ha U s σ H _ I h) λc s1 zQ=>?_);let⟨H1,I1,q1⟩:=zQ;cases c with
 |true=>exact⟨H1,I1,q1⟩
 |false=>exact hb wh U s1 σ H1 Q I1 q1
def aEI(ha:PT X a tA):PT X (.UnaryOp .Not a pos) (aMN tA):=by
 intro U s σ H Q I h;exact isTrue_not (ha U s σ H (λc H1=>Q (!c) H1) I h)
def aIV(ta tb:TE):TE:=λσ H Q=>ta σ H λx H1=>∃c,x=.bl c/\if c=true then tb σ H1 Q else Q (.bl false) H1
def aMO(ta tb:TE):TE:=λσ H Q=>ta σ H λx H1=>∃c,x=.bl c/\if c=true then Q (.bl true) H1 else tb σ H1 Q
def aEJ(h:PE X a t):PE X (.BoolOp op [a] pos) t:=λU s σ H Q I hw=>BoolOp_one (h U s σ H Q I hw)
def aEK(ha:PE X a ta)(hb:PE X (.BoolOp .And (b::rest) pos) tb):PE X (.BoolOp .And (a::b::rest) pos) (aIV ta tb):=by
 intro U s σ H Q I h;refine BoolOp_and (cM (ha U s σ H _ I h) λv s1 zQ=>?_);let⟨x,H1,I1,r1,q1⟩:=zQ;let⟨c,rfl,q1⟩:=q1;cases r1;refine wpAny_truthy_bool ?_;cases c with
 |true=>exact hb U s1 σ H1 Q I1 q1
 |false=>exact⟨.bl false,H1,I1,rfl,q1⟩
def aIW(ha:PE X a ta)(hb:PE X (.BoolOp .Or (b::rest) pos) tb):PE X (.BoolOp .Or (a::b::rest) pos) (aMO ta tb):=by
 intro U s σ H Q I h;refine BoolOp_or (cM (ha U s σ H _ I h) λv s1 zQ=>?_);let⟨x,H1,I1,r1,q1⟩:=zQ;let⟨c,rfl,q1⟩:=q1;cases r1;refine wpAny_truthy_bool ?_;cases c with
 |false=>exact hb U s1 σ H1 Q I1 q1
 |true=>exact⟨.bl true,H1,I1,rfl,q1⟩
end
def eE(K:ZC)(H:Hp)(a:Addr)(xs:List V):Prop:=
 Rd H a (.lst xs) \/
  ∃(o:Obj)(its:Array Value)(n:Nat),K.lookup a=some o/\o.cls=.type "list"/\o.dict=none/\o.data=.seq its n/\its.size<=sizeLine/\bI xs its.toList
def rB(K:ZC)(H:Hp)(a:Addr)(xs:List V):Prop:=
 Rd H a (.tup xs) \/
  ∃(o:Obj)(its:Array Value)(n:Nat),K.lookup a=some o/\o.cls=.type "tuple"/\o.data=.seq its n/\its.size<=sizeLine/\bI xs its.toList
def aMP:Value->Option V
 |.none=>some .non
 |.bool b=>some (.bl b)
 |.int i _=>some (.int i)
 |.str x _=>some (.str x)
 |.bytes b _=>some (.byt b)
 |.float b _=>some (.flt b)
 |.ref a=>some (.ref a)
 |.type n=>some (.ty n)
 |_=>none
def bH.abs(r:bH x u):aMP u=some x:=by
 cases x with
 |non=>cases r;rfl
 |bl _=>cases r;rfl
 |int _=>let⟨t,rfl⟩:=r;rfl
 |str _=>let⟨t,rfl⟩:=r;rfl
 |byt _=>let⟨t,rfl⟩:=r;rfl
 |flt _=>let⟨t,rfl⟩:=r;rfl
 |ref _=>cases r;rfl
 |ty _=>cases r;rfl
def bH.inj(r:bH x u)(q:bH y u):x=y:=Option.some.inj (r.abs.symm.trans q.abs)
def bI.inj:∀{xs ys:List V}{us:ZJ},bI xs us->bI ys us->xs=ys
 |_,_,_,.nil,.nil=>rfl
 |_,_,_,.cons r t,.cons r' t'=>by rw[r.inj r',bI.inj t t']
section
variable {X:Cx}{U:ZB}{σ:St}{H:Hp}{s:Shared}{a:Addr}{xs ys:List V}
def eE.of{K:ZC}(h:H a=some (.lst xs)):eE K H a xs:=.inl (.inl h)
def rB.of{K:ZC}(h:H a=some (.tup xs)):rB K H a xs:=.inl (.inl h)
def Inv.list(I:Inv X U σ H s)(h:eE X.K H a xs):∃its:ZJ,bI xs its/\PlainL s.heap a its.toArray/\xs.length<=sizeLine:=by
 rcases h with h|⟨o,its,n,hk,hc,hd,hs,hz,r⟩
 .obtain⟨z,its,n,r,e⟩:=h.ok I.hok
  exact⟨its,r,⟨_,n,e,rfl,rfl,rfl⟩,z⟩
 .refine⟨its.toList,r,⟨o,n,I.kIn a o hk,hc,hd,by simpa using hs⟩,?_⟩
  have e:=r.length
  grind
def Inv.tuple(I:Inv X U σ H s)(h:rB X.K H a xs):∃its:ZJ,bI xs its/\IsTup s.heap a its.toArray/\xs.length<=sizeLine:=by
 rcases h with h|⟨o,its,n,hk,hc,hs,hz,r⟩
 .obtain⟨z,its,r,p⟩:=h.ok I.hok
  exact⟨its,r,p,z⟩
 .refine⟨its.toList,r,⟨o,I.kIn a o hk,hc,n,by simpa using hs⟩,?_⟩
  have e:=r.length
  grind
def Inv.list_inj(I:Inv X U σ H s)(h:eE X.K H a xs)(h':eE X.K H a ys):xs=ys:=by
 let⟨its,r,⟨o,n,e,_,_,d⟩,_⟩:=I.list h;let⟨its',r',⟨o',n',e',_,_,d'⟩,_⟩:=I.list h';rw[e]at e';cases e';rw[d]at d';injection d' with d1 _;have:its=its':=by simpa using congrArg Array.toList d1
 subst this;exact r.inj r'
def Inv.tuple_inj(I:Inv X U σ H s)(h:rB X.K H a xs)(h':rB X.K H a ys):xs=ys:=by
 let⟨its,r,⟨o,e,_,n,d⟩,_⟩:=I.tuple h;let⟨its',r',⟨o',e',_,n',d'⟩,_⟩:=I.tuple h';rw[e]at e';cases e';rw[d]at d';injection d' with d1 _;have:its=its':=by simpa using congrArg Array.toList d1
 subst this;exact r.inj r'
end
section
end
section
variable {X:Cx}{st:Stmt}{rest:List Stmt}{t u:TS}
def aIX:TS:=λD σ H=>D.nx σ H
def aMQ(t u:TS):TS:=λD σ H=>t {D with nx:=u D} σ H
def X6:EQ X [] aIX:=λ_ _ σ H _ I h=>wpAny_execs_nil ⟨σ,H,I,h⟩
def QU(h1:PS X st t)(h2:EQ X rest u):EQ X (st::rest) (aMQ t u):=by
 intro U s σ H D I h;refine wpAny_execs_cons (cM (h1 U s σ H {D with nx:=u D} I h) λf s1 q=>?_);cases f with
 |next=>
  let⟨σ',H',I',q⟩:=q;exact h2 U s1 σ' H' D I' q
 |ret v=>exact q
 |brk=>exact q
 |cont=>exact q
def X7(h1:PS X st t):EQ X [st] t:=by
 intro U s σ H D I h;refine wpAny_execs_cons (cM (h1 U s σ H D I h) λf s1 q=>?_);cases f with
 |next=>exact wpAny_execs_nil q
 |ret v=>exact q
 |brk=>exact q
 |cont=>exact q
def Inv.quiet(I:Inv X U σ H s):interactive X.env=false:=by simp[interactive,I.ok.kind]
def aIY(te:TE):TS:=λD σ H=>te σ H λ_ H1=>D.nx σ H1
def X8(he:PE X e te)(hs:↥(swapsWith e none pos.line X.env=pure false)):PS X (.Expr e pos) (aIY te):=by
 intro U s σ H D I h;exact wpAny_Expr_any (cM (he U s σ H _ I h) λv s1 zQ=>by let⟨x,H1,I1,r1,q1⟩:=zQ;exact ⟨σ,H1,I1,q1⟩) I.quiet hs
def aMR(te:TE):TS:=λD σ H=>te σ H D.rt
def aEL(he:PE X e te):PS X (.Return (some e) pos) (aMR te):=by
 intro U s σ H D I h;exact wpAny_Return_some (cM (he U s σ H _ I h) λv s1 zQ=>by let⟨x,H1,I1,r1,q1⟩:=zQ;exact ⟨x,σ,H1,I1,r1,q1⟩)
def aMS(c:TT)(t u:TS):TS:=λD σ H=>c σ H λb H1=>if b=true then t D σ H1 else u D σ H1
def aIZ(hc:PT X c tc)(ha:EQ X a t)(hb:EQ X b u):PS X (.If c a b pos) (aMS tc t u):=by
 intro U s σ H D I h;refine wpAny_If (cM (hc U s σ H _ I h) λd s1 zQ=>?_);let⟨H1,I1,q1⟩:=zQ;cases d with
 |true=>exact ha U s1 σ H1 D I1 q1
 |false=>exact hb U s1 σ H1 D I1 q1
end
abbrev TG:=V->St->Hp->(St->Hp->Prop)->Prop
abbrev QV:=List V->St->Hp->(St->Hp->Prop)->Prop
def PG(X:Cx)(target:Expr)(t:TG):Prop:=
 ∀(U:ZB)(s:Shared)(σ:St)(H:Hp)(v:V)(u:Value)(Q:St->Hp->Prop),Inv X U σ H s->bH v u->t v σ H Q ->
  wpAny 'b' X.A (assign target X.env u) (λ_ s'=>∃σ' H',Inv X U σ' H' s'/\Q σ' H') X.xe s
def Į(X:Cx)(ts:List Expr)(t:QV):Prop:=
 ∀(U:ZB)(s:Shared)(σ:St)(H:Hp)(vs:List V)(us:ZJ)(Q:St->Hp->Prop),Inv X U σ H s->bI vs us->t vs σ H Q ->
  wpAny 'b' X.A (assignInOrder ((assignEach ts X.env).map (·.2)) us) (λ_ s'=>∃σ' H',Inv X U σ' H' s'/\Q σ' H') X.xe s
abbrev Ζ:=V->V->V->Hp->(Hp->Prop)->Prop
def Η(X:Cx)(t:Ζ):Prop:=
 ∀(U:ZB)(s:Shared)(σ:St)(H:Hp)(o i v:V)(ov iv u:Value)(Q:Hp->Prop),Inv X U σ H s->bH o ov->bH i iv->bH v u->t o i v H Q ->
  wpAny 'b' X.A (setItem ov iv u) (λ_ s'=>∃H',Inv X U σ H' s'/\Q H') X.xe s
section
variable {X:Cx}{pos:Pos}
def pA(i:Nat):TG:=λv σ H Q=>Q (σ.set i (some v)) H
def cW(hN:X.N.Nodup)(hi:X.N[i]?=some x)(hx:ĕ X.env.scope x)(hf:X.fn x=true\/X.env.scope.names.lookup x=some .local:=by first|exact .inl rfl|exact .inr rfl|assumption):PG X (.Name x pos) (pA i):=by
 intro U s σ H v u Q I r h;exact wpAny_assign_Name (EV I hN hi hx r (λs' I'=>⟨_,H,I',h⟩) hf)
def QW:QV:=λvs σ H Q=>vs=[]/\Q σ H
def EZ(t:TG)(u:QV):QV:=λvs σ H Q=>∃v r,vs=v::r/\t v σ H λσ' H'=>u r σ' H' Q
def nZ:Į X [] QW:=by
 intro U s σ H vs us Q I r h;let⟨e,h⟩:=h;subst e;cases r;exact assignInOrder_nil ⟨σ,H,I,h⟩
def dX(h1:PG X e t)(h2:Į X es u)(hs:↥((assignEach (e::es) X.env).map (·.2)=assign e X.env::(assignEach es X.env).map (·.2))):Į X (e::es) (EZ t u):=by
 intro U s σ H vs us Q I r h;let⟨v,vr,e1,h⟩:=h;subst e1;cases r with
 |cons r rr=>
  rw[hs];refine assignInOrder_cons (cM (h1 U s σ H _ _ _ I r h) λ_ s1 zQ=>?_);let⟨σ1,H1,I1,q1⟩:=zQ;exact h2 U s1 σ1 H1 _ _ Q I1 rr q1
def Ř(K:ZC)(n:Nat)(t:QV):TG:=λv σ H Q=>∃a xs,v=.ref a/\rB K H a xs/\xs.length=n/\t xs σ H Q
def tH{k:Nat}(hc:X.calm=true)(h:Į X es t)(hn:↥((assignEach es X.env).length=n))(hst:↥((assignEach es X.env).findIdx? (·.1)=none)):PG X (.Tuple es k pos) (Ř X.K n t):=by
 intro U s σ H v u Q I r hw;let⟨a,xs,e1,hq,hl,hw⟩:=hw;subst e1;cases r;let⟨its,rv,ht,hz⟩:=I.tuple hq;refine assign_Tuple_tuple (I.ok.hd hc) ht (by simp[hn,<- hl,rv.length]) hst λh' hx=>?_;have I1:Inv X U σ H {s with heap:=h'}:=I.kept (t':=s.toks) λb o e=>hx b o (Í 'y') e;exact h U _ σ H xs _ Q I1 (by simpa using rv) hw
def aMT(to ti:TE)(t:Ζ):TG:=λv σ H Q=>to σ H λo H1=>ti σ H1 λi H2=>t o i v H2 λH3=>Q σ H3
def QX(ho:PE X o to)(hi:PE X i ti)(hs:Η X t)(ha: ~~~(∀v,assign (.Subscript o i pos) X.env v=(do
   let ov <- holding [v] (eval o X.env);let iv <- holding [v,ov] (eval i X.env)
   standAt pos
   holding [v,ov,iv] (setItem ov iv v)
   release [v,ov,iv] []))):PG X (.Subscript o i pos) (aMT to ti t):=by
 intro U s σ H v u Q I r h;rw[ha];refine wpAny_bind (wpAny_holding (cM (ho U s σ H _ I h) λov s1 zQ=>?_));let⟨x,H1,I1,r1,q1⟩:=zQ;refine wpAny_bind (wpAny_holding (cM (hi U s1 σ H1 _ I1 q1) λiv s2 zQ=>?_));let⟨y,H2,I2,r2,q2⟩:=zQ;refine wpAny_bind (wpAny_standAt (wpAny_bind (wpAny_holding (cM (hs U s2 σ H2 x y v ov iv u _ I2 r1 r2 r q2) λ_ s3 zQ=>?_))));let⟨H3,I3,q3⟩:=zQ;exact wpAny_release ⟨σ,H3,I3,q3⟩
def X9(te:TE)(g:TG):TS:=λD σ H=>te σ H λx H1=>g x σ H1 D.nx
def QY(he:PE X e te)(hg:PG X tg g)(hs:↥(swapsWithSole [tg] e pos.line X.env=pure false))(hw:↥(swappedStores [tg] e X.env=pure none))(h1:↥((assignEach [tg] X.env).map (·.2)=[assign tg X.env])):PS X (.Assign [tg] e pos) (X9 te g):=by
 intro U s σ H D I h;refine wpAny_Assign_stores (cM (he U s σ H _ I h) λv s1 zQ=>?_) hs hw;let⟨x,H1,I1,r1,q1⟩:=zQ;rw[h1];exact cM (hg U s1 σ H1 x v _ I1 r1 q1) λ_ s2 q=>q
def aEO(hN:X.N.Nodup)(hi:X.N[i]?=some x)(hx:ĕ X.env.scope x)(he:PE X e te)(hs:↥(swapsWith e (some (.Name x pos')) pos.line X.env=pure false))(hf:X.fn x=true\/X.env.scope.names.lookup x=some .local:=by first|exact .inl rfl|exact .inr rfl|assumption):
  PS X (.Assign [.Name x pos'] e pos) (X9 te (pA i)):=by
 intro U s σ H D I h;refine wpAny_Assign_Name (cM (he U s σ H _ I h) λv s1 zQ=>?_) hs;let⟨y,H1,I1,r1,q1⟩:=zQ;exact EV I1 hN hi hx r1 (λs2 I2=>⟨_,H1,I2,q1⟩) hf
end
section
def aEP(c:TT)(tb:TS):TS:=λD σ H=>∃W:Nat->St->Hp->Prop,(∃m,W m σ H)/\∀m σ H,W m σ H ->
 c σ H λb H1=>if b=true then ∃N:St->Hp->Prop,(∀σ' H',N σ' H'->∃m',m'<m/\W m' σ' H')/\tb {D with nx:=N,ct:=N,bk:=D.nx} σ H1 else D.nx σ H1
def QZ(hp:PassesOwn 'b' X.A X.env X.xe)(hc:PT X c tc)(hb:EQ X body tb):PS X (.While c body [] pos) (aEP tc tb):=by
 intro U s σ H D I h;let⟨W,⟨m0,w0⟩,turn⟩:=h;refine wpAny_While (codeAny_whileLoop (λn s'=>∃σ' H',Inv X U σ' H' s'/\W n σ' H') ?_ m0 ⟨σ,H,I,w0⟩);rintro n s1 ⟨σ1,H1,I1,w1⟩;refine wpAny_passesOwn hp (cM (hc U s1 σ1 H1 _ I1 (turn n σ1 H1 w1)) λb s2 zQ=>?_);let⟨H2,I2,q2⟩:=zQ;cases b with
 |true=>
  let⟨N,hN,q2⟩:=q2;rw[Â rfl];refine wpAny_passesOwn hp (cM (hb U s2 σ1 H2 _ I2 q2) λf s3 q3=>?_);cases f with
  |next=>
   let⟨σ3,H3,I3,n3⟩:=q3;let⟨m',hm,w3⟩:=hN σ3 H3 n3;exact⟨m',hm,σ3,H3,I3,w3⟩
  |cont=>
   let⟨σ3,H3,I3,n3⟩:=q3;let⟨m',hm,w3⟩:=hN σ3 H3 n3;exact⟨m',hm,σ3,H3,I3,w3⟩
  |brk=>exact q3
  |ret v=>exact q3
 |false=>
  rw[Ã Ü];exact wpAny_execs_nil ⟨σ1,H2,I2,q2⟩
end
structure It where
 go:Nat->Hp->Prop
 yld:Nat->Hp->V->Hp->Prop
 stop:Nat->Hp->Prop
def vH(X:Cx)(U:ZB)(H:Hp)(b:Addr):Prop:=
 H b=none/\b≠X.env.locals/\b∉X.fs/\(b∈X.ex\/X.s₀.heap.objs.size<=b)/\(∀x c,X.env.cells.lookup x=some c->c≠b)/\∀p∈X.pn++U,p.1≠b
def Inv.fpOk{X:Cx}{U:ZB}{σ:St}{H H':Hp}{s:Shared}{b:Addr}(I:Inv X U σ H s)(hb:s.heap.objs.size<=b)(hn:H' b=none):vH X U H' b:=by
 refine⟨hn,ß (Ö I.lt hb),I.nofs hb,.inr (Ø I.sz hb),λx c e z=>?_,λp hp z=>?_⟩
 .obtain⟨v,q⟩:=I.cell x c e
  exact absurd (Ö q.lt (by rw[z];exact hb)) (ø _)
 .exact absurd (Ö (Heap.lt_size (I.pin p hp).1) (by rw[z];exact hb)) (ø _)
structure E0(P:Program)(w:World)(K:ZC)(tg:Expr)(J:It)(fp:ZM)(it:Addr)(tn:Nat->Heap->Prop):Prop where
 mem:it∈fp
 obj:∀i h,tn i h->∀b∈fp,∃o,h.get? b=some o/\∀v,o.data≠.cell v
 keep:∀i h h',tn i h->(∀b∈fp,∀o,h.get? b=some o->h'.get? b=some o)->tn i h'
 item:∀(X:Cx),X.prog=P->X.w=w->X.K=K->X.calm=true->∀(i:Nat)(U:ZB)(s:Shared)(σ:St)(H:Hp)(E:ZA),Inv X U σ H s->(∀b∈fp,vH X U H b)->tn i s.heap->J.go i H ->
  wpAny (model P w) X.A (pyNext (.ref it)) (λr s1=>∃u,r=some u /\
   wpAny (model P w) X.A (letOwnedTupleGo tg (.ref it) u) (λ_ s2=>∃x H',Inv X U σ H' s2/\bH x u/\J.yld i H x H'/\tn (i+1) s2.heap/\∀b∈fp,H' b=none) E s1) E s
 done:∀(X:Cx),X.prog=P->X.w=w->X.K=K->X.calm=true->∀(i:Nat)(U:ZB)(s:Shared)(σ:St)(H:Hp)(E:ZA),Inv X U σ H s->(∀b∈fp,vH X U H b)->tn i s.heap->J.stop i H ->
  wpAny (model P w) X.A (pyNext (.ref it)) (λr s1=>r=none/\Inv X U σ H s1) E s
 self:∀(A:Around)(i:Nat)(s:Shared)(Q:ZA)(E:ZA),tn i s.heap->Q (.ref it) s->wpAny (model P w) A (pyIter (.ref it)) Q E s
abbrev TI:=St->Hp->(It->Hp->Prop)->Prop
def ř(X:Cx)(U:ZB)(σ:St)(tg:Expr)(R:It->Hp->Prop)(itv:Value)(s2:Shared):Prop:=
 ∃(it:Addr)(fp:ZM)(tn:Nat->Heap->Prop)(J:It)(H':Hp),itv=.ref it/\Inv X U σ H' s2/\E0 X.prog X.w X.K tg J fp it tn/\tn 0 s2.heap/\(∀b∈fp,vH X U H' b)/\R J H'
def PI(X:Cx)(tg iter:Expr)(wi:TI):Prop:=
 ∀(U:ZB)(s:Shared)(σ:St)(H:Hp)(R:It->Hp->Prop),Inv X U σ H s->wi σ H R ->
  wpAny 'b' X.A (eval iter X.env) (λv s1=>wpAny 'b' X.A (pyIter v) (ř X U σ tg R) X.xe s1) X.xe s
def E1{M:Model}{A:Around}{E:ZA}{s:Shared}{tg:Expr}{it:Addr}{u:Value}{o:Obj}{n:String}{vs:Array Value}{Q:Unit->Shared->Prop}(ho:s.heap.get? it=some o)(hc:o.cls=.type n)(hd:o.data=.fields vs)(hn:["enumerate","zip","dict_itemiterator","dict_reverseitemiterator","odict_iterator","itertools.zip_longest","itertools.pairwise"].contains n=false)(hQ:Q () s):wpAny M A (letOwnedTupleGo tg (.ref it) u) Q E s:=by
 unfold letOwnedTupleGo;cases tg<;>first
  |exact wpAny_pure hQ
  | (cases u<;>first
    |exact wpAny_pure hQ
    | (refine wpAny_bind (wpAny_load ho ?_)
       rw[hc,hd];show wpAny M A (if (["enumerate","zip","dict_itemiterator","dict_reverseitemiterator","odict_iterator","itertools.zip_longest","itertools.pairwise"].contains n && vs[0]? == some (rawInt _))=true then _ else _) Q E s;rw[Ã 'k'];exact wpAny_pure hQ))
def Ś(K:ZC)(a:Addr):It:=
 ⟨λi H=>∃xs x,eE K H a xs/\xs[i]?=some x,λi H x H'=>H'=H/\∀xs,eE K H a xs->xs[i]?=some x,λi H=>∃xs,eE K H a xs/\xs.length<=i⟩
def ś(K:ZC)(a:Addr):It:=
 ⟨λi H=>∃xs x,rB K H a xs/\xs[i]?=some x,λi H x H'=>H'=H/\∀xs,rB K H a xs->xs[i]?=some x,λi H=>∃xs,rB K H a xs/\xs.length<=i⟩
def Ľ(lo:Int)(n:Nat):It:=⟨λi _=>i<n,λi H x H'=>H'=H/\x=.int (lo+i),λi _=>n<=i⟩
def N4{P:Program}{w:World}{K:ZC}{tg:Expr}(a it:Addr):E0 P w K tg (Ś K a) [it] it (λi h=>h.IsListIter it a i) where
 mem:=by simp
 obj:=λi h st b hb=>by
  have e:b=it:=by simpa using hb
  subst e;let⟨o,e,c,d⟩:=st;exact⟨o,e,λv z=>by rw[d]at z;cases z⟩
 keep:=λi h h' st k=>st.at λo e=>k it 'e' o e
 item:=by
  sleep 2;let⟨xs,x,hq,hx⟩:=hg;let⟨its,rv,p,hz⟩:=I.list hq;let⟨u,hu,ru⟩:=rv.get hx;let⟨f0,f1,f2,f3,f4,f5⟩:=hf it 'e';refine wpAny_pyNext_list_item st p.isList (x:=u) (by simpa using hu) λh' st' sb=>?_;have I1:Inv X U σ H {s with heap:=h'}:=I.turned (t':=s.toks) (λb o hb e=>(sb.2 b hb).trans e) f0 f1 f3 f4 f5;let⟨o,e,c,d⟩:=id st';exact⟨u,rfl,E1 (s:={s with heap:=h'}) e c d ⋯ ⟨x,H,I1,ru,⟨rfl,λys hy=>by rw[I.list_inj hy hq];exact hx⟩,st',λb hb=>(hf b hb).1⟩⟩
 done:=by
  sleep 2;let⟨xs,hq,hx⟩:=hg;let⟨its,rv,p,hz⟩:=I.list hq;let⟨f0,f1,f2,f3,f4,f5⟩:=hf it 'e';have hl:=rv.length;exact wpAny_pyNext_list_end (I.ok.hd hc) st p.isList (by simp;lia) λh' eb=>⟨rfl,I.turned (t':=s.toks) (λb o hb e=>eb b o hb e) f0 f1 f3 f4 f5⟩
 self:=λ_ _ _ _ _ st h=>wpAny_pyIter_listiter st h
def IL{P:Program}{w:World}{K:ZC}{tg:Expr}(a it:Addr):E0 P w K tg (ś K a) [it] it (λi h=>h.IsTupleIter it a i) where
 mem:=by simp
 obj:=λi h st b hb=>by
  have e:b=it:=by simpa using hb
  subst e;let⟨o,e,c,d⟩:=st
  grind
 keep:=λi h h' st k=>st.at λo e=>k it 'e' o e
 item:=by
  sleep 2;let⟨xs,x,hq,hx⟩:=hg;let⟨its,rv,p,hz⟩:=I.tuple hq;let⟨u,hu,ru⟩:=rv.get hx;let⟨f0,f1,f2,f3,f4,f5⟩:=hf it 'e';refine wpAny_pyNext_tuple_item st (show s.heap.IsTuple a its.toArray from p) (x:=u) (by simpa using hu) λh' st' sb=>?_;have I1:Inv X U σ H {s with heap:=h'}:=I.turned (t':=s.toks) (λb o hb e=>(sb.2 b hb).trans e) f0 f1 f3 f4 f5;let⟨o,e,c,d⟩:=id st';exact⟨u,rfl,E1 (s:={s with heap:=h'}) e c d ⋯ ⟨x,H,I1,ru,⟨rfl,λys hy=>by rw[I.tuple_inj hy hq];exact hx⟩,st',λb hb=>(hf b hb).1⟩⟩
 done:=by
  sleep 2;let⟨xs,hq,hx⟩:=hg;let⟨its,rv,p,hz⟩:=I.tuple hq;let⟨f0,f1,f2,f3,f4,f5⟩:=hf it 'e';have hl:=rv.length;exact wpAny_pyNext_tuple_end (I.ok.hd hc) st (show s.heap.IsTuple a its.toArray from p) (by simp;lia) λh' eb=>⟨rfl,I.turned (t':=s.toks) (λb o hb e=>eb b o hb e) f0 f1 f3 f4 f5⟩
 self:=λ_ _ _ _ _ st h=>wpAny_pyIter_tupleiter st h
def IN{P:Program}{w:World}{K:ZC}{tg:Expr}(it:Addr)(lo:Int)(n:Nat):E0 P w K tg (Ľ lo n) [it] it (λi h=>IsRangeIter h it (lo+(i:Nat)*1) ((n:Int)-(i:Nat)) 1) where
 mem:=by simp
 obj:=λi h st b hb=>by
  grind
 keep:=λi h h' st k=>k it 'e' _ st
 item:=by
  sleep 2;let⟨f0,f1,f2,f3,f4,f5⟩:=hf it 'e';have W:=Walks.range (prog:=X.prog) (w:=X.w) (I.ok.hd hc) it lo 1 n;refine W.item i s _ _ hg st λv h' tk hv st' kk=>?_;let⟨t,rfl⟩:=hv;have I1:Inv X U σ H {s with heap:=h',toks:=tk}:=I.turned (λb o hb e=>kk b o (by simpa using hb) e) f0 f1 f3 f4 f5;refine⟨_,rfl,E1 (s:={s with heap:=h',toks:=tk}) (n:="range_iterator") st' rfl rfl ⋯ ⟨.int (lo+i),H,I1,⟨t,?_⟩,⟨rfl,rfl⟩,st',λb hb=>(hf b hb).1⟩⟩;rw[Int.mul_one]
 done:=by
  sleep 2;let⟨f0,f1,f2,f3,f4,f5⟩:=hf it 'e';exact wpAny_pyNext_range_end (I.ok.hd hc) st (by have:n<=i:=hg;lia) λh' eb=>⟨rfl,I.turned (t':=s.toks) (λb o hb e=>eb b o hb e) f0 f1 f3 f4 f5⟩
 self:=λ_ _ _ _ _ st h=>wpAny_pyIter_rangeiter st h
section
def Q0{U:ZB}{σ:St}{H:Hp}{s:Shared}{R:It->Hp->Prop}{E:ZA}{lo hi:Int}{t u v:Tok}{tk:Nat}(I:Inv X U σ H s)(h1:-(2^62)<=lo)(h2:lo<2^62)(h3:-(2^62)<=hi)(h4:hi<2^62)(q:R (Ľ lo (hi-lo).toNat) H):wpAny 'b' X.A (pyIter (.ref s.heap.objs.size)) (ř X U σ tg R) E {s with heap:=s.heap.push {cls:=.type "range",data:=.fields #[.int lo t,.int hi u,.int 1 v]},toks:=tk}:=by
 refine wpAny_pyIter_range (IsRange.new ..) (small_one h1 h2 h3 h4) ?_;have I1:Inv X U σ H {s with heap:=s.heap.push {cls:=.type "range",data:=.fields #[.int lo t,.int hi u,.int 1 v]},toks:=tk}:=I.kept λb o e=>Heap.get?_push_of_some _ e;refine⟨(s.heap.push {cls:=.type "range",data:=.fields #[.int lo t,.int hi u,.int 1 v]}).objs.size,[(s.heap.push {cls:=.type "range",data:=.fields #[.int lo t,.int hi u,.int 1 v]}).objs.size],_,_,H,rfl,
  I1.kept (t':=tk) λb o e=>Heap.get?_push_of_some _ e,IN _ lo (hi-lo).toNat,?_,λb hb=>?_,q⟩
 .have e1:lo+((0:Nat):Int)*1=lo:=by simp
  have e2:(((hi-lo).toNat:Nat):Int)-((0:Nat):Int)=Builtin.Range.rangeSize lo hi 1:=by rw[rangeSize_one];split<;>lia
  show IsRangeIter _ _ (lo+((0:Nat):Int)*1) ((((hi-lo).toNat:Nat):Int)-((0:Nat):Int)) 1;rw[e1,e2];exact Heap.get?_push_size _ rfl
 .have e:b=(s.heap.push {cls:=.type "range",data:=.fields #[.int lo t,.int hi u,.int 1 v]}).objs.size:=by simpa using hb
  subst e;exact I1.fpOk (Ç _) (I1.hok.fresh (Ç _))
def aI2(ta:TA):TI:=λσ H R=>ta σ H λvs H1=>∃j:Int,vs=[.int j]/\-(2^62)<=j/\j<2^62/\R (Ľ 0 j.toNat) H1
def N5(hg:Gl X "range")(hm:X.mg "range"=none)(ha:PA X [a] ta)(hs:↥(starEach [a] X.env=[(false,eval a X.env)])):PI X tg (.Call (.Name "range" p) [a] [] pos) (aI2 ta):=by
 intro U s σ H R I h;refine Call_ (iK I hg hm boot_range (PyProof.Rows.callWith_type1 (cM (ha pos U s σ H _ I h) λus s1 zQ=>?_) hs rfl));let⟨vs,H1,I1,r1,q1⟩:=zQ;let⟨j,e,q1,q2,q⟩:=q1;subst e;cases r1 with
 |cons r rr=>
  cases rr;let⟨t,rfl⟩:=r;exact call_range_1 (Q0 I1 ⋯ ⋯ q1 q2 (by simpa using q))
def aMX(wi:TI)(g:TG)(tb:TS):TS:=λD σ H=>wi σ H λJ H1=>∃W:Nat->Nat->St->Hp->Prop,(∃m,W 0 m σ H1)/\∀i m σ H,W i m σ H ->
 (J.stop i H/\D.nx σ H)\/(J.go i H/\∃N:St->Hp->Prop,(∀σ' H',N σ' H'->∃m',m'<m/\W (i+1) m' σ' H')/\∀x H',J.yld i H x H'->g x σ H' λσ2 H2=>tb {D with nx:=N,ct:=N,bk:=D.nx} σ2 H2)
def wE(fp:ZM)(h:Heap):ZB:=fp.filterMap λb=>(h.get? b).map λo=>(b,o)
def pZ(hb:b∈fp)(e:h.get? b=some o):(b,o)∈wE fp h:=List.mem_filterMap.mpr ⟨b,hb,by rw[e];rfl⟩
def N6(hp:p∈wE fp h):p.1∈fp/\h.get? p.1=some p.2:=by
 let⟨b,hb,e⟩:=List.mem_filterMap.mp hp;cases q:h.get? b with
 |none=>rw[q]at e;cases e
 |some o=>
  grind
def Inv.pinned(I:Inv X U σ H s)(hf:∀b∈fp,vH X U H b)(ho:∀b∈fp,∃o,s.heap.get? b=some o/\∀v,o.data≠.cell v):Inv X (U++wE fp s.heap) σ H s:=
 I.pins_of λp hp=>(ü.mp hp).elim (λz=>I.pin p (Ý _ z)) λz=>by
  let⟨hb,e⟩:=N6 z;let⟨f0,f1,f2,_⟩:=hf p.1 hb
  grind
def Inv.unpinned(I:Inv X (U++pl) σ H s):Inv X U σ H s:=I.pins_of λp hp=>I.pin p (Ý _ (Ĝ _ hp))
def aEQ(hp:PassesOwn 'b' X.A X.env X.xe)(hc:X.calm=true)(hi:PI X tg iter wi)(hg:PG X tg g)(hb:EQ X body tb)(hs: ~~~(Zfi iter X.env)):PS X (.For tg iter body [] pos) (aMX wi g tb):=by
 intro U s σ H D I h;refine wpAny_For (cM (hi U s σ H _ I h) λv s1 h1=>cM h1 λitv s2 h2=>?_) hs;let⟨it,fp,tn,J,H2,e,I2,T,st2,f2,W,⟨m0,w0⟩,turn⟩:=h2;subst e
 -- what stays true of the iterator's objects through the loop
 have stat:∀{H':Hp},(∀b∈fp,H' b=none)->∀b∈fp,vH X U H' b:=λhn b hb=>⟨hn b hb,(f2 b hb).2⟩;refine codeAny_forLoop_any (λn s'=>∃i σ' H',Inv X U σ' H' s'/\tn i s'.heap/\(∀b∈fp,H' b=none)/\W i n σ' H') ?_ m0 ⟨0,σ,H2,I2,st2,λb hb=>(f2 b hb).1,w0⟩;rintro n s3 ⟨i,σ3,H3,I3,st3,fr3,w3⟩;rcases turn i n σ3 H3 w3 with ⟨stop,qn⟩|⟨go,N,hN,step⟩
 .refine wpAny_passesOwn hp (cM (T.done X rfl rfl rfl hc i U s3 σ3 H3 X.xe I3 (stat fr3) st3 stop) λr s4 zQ=>?_);let⟨hr,I4⟩:=zQ
  subst hr;exact wpAny_execs_nil ⟨σ3,H3,I4,qn⟩
 .refine wpAny_passesOwn hp (cM (T.item X rfl rfl rfl hc i U s3 σ3 H3 X.xe I3 (stat fr3) st3 go) λr s4 zQ=>?_);let⟨u,hr,h4⟩:=zQ
  subst hr;refine wpAny_passesOwn hp (cM h4 λ_ s5 zQ=>?_);let⟨x,H5,I5,r5,y5,st5,fr5⟩:=zQ;have I5':=I5.pinned (stat fr5) (T.obj _ _ st5);refine wpAny_passesOwn hp (cM (hg _ s5 σ3 H5 x u _ I5' r5 (step x H5 y5)) λ_ s6 zQ=>?_);let⟨σ6,H6,I6,q6⟩:=zQ;refine wpAny_passesOwn hp (cM (hb _ s6 σ6 H6 _ I6 q6) λf s7 q7=>?_);have again:∀{σ7:St}{H7:Hp},Inv X (U++wE fp s5.heap) σ7 H7 s7->N σ7 H7->∃m,m<n/\∃i σ' H',Inv X U σ' H' s7/\tn i s7.heap/\(∀b∈fp,H' b=none)/\W i m σ' H':=λ{σ7 H7}I7 n7=>by
   let⟨m',hm,w7⟩:=hN σ7 H7 n7;refine⟨m',hm,i+1,σ7,H7,I7.unpinned,T.keep _ _ _ st5 λb hb o e=>(I7.pin (b,o) (Ý _ (Ý _ (pZ hb e)))).1,λb hb=>?_,w7⟩;let⟨o,e,d⟩:=T.obj _ _ st5 b hb;exact(I7.pin (b,o) (Ý _ (Ý _ (pZ hb e)))).2.1
  cases f with
  |next=>let⟨σ7,H7,I7,n7⟩:=q7;exact again I7 n7
  |cont=>let⟨σ7,H7,I7,n7⟩:=q7;exact again I7 n7
  |brk=>let⟨σ7,H7,I7,q7⟩:=q7;exact⟨σ7,H7,I7.unpinned,q7⟩
  |ret v=>let⟨x7,σ7,H7,I7,r7,q7⟩:=q7;exact⟨x7,σ7,H7,I7.unpinned,r7,q7⟩
end
abbrev R2:=V->V->Hp->VK->Prop
def jS(X:Cx)(f:Value->Value->Sem Value)(r:R2):Prop:=
 ∀(U:ZB)(s:Shared)(σ:St)(H:Hp)(x y:V)(v u:Value)(Q:VK),Inv X U σ H s->bH x v->bH y u->r x y H Q ->
  wpAny 'b' X.A (f v u) (EP X U σ Q) X.xe s
def Ŝ(X:Cx)(f:Value->Sem Value)(r:V->Hp->VK->Prop):Prop:=
 ∀(U:ZB)(s:Shared)(σ:St)(H:Hp)(x:V)(v:Value)(Q:VK),Inv X U σ H s->bH x v->r x H Q ->
  wpAny 'b' X.A (f v) (EP X U σ Q) X.xe s
def g7(X:Cx)(f:Value)(r:List V->Hp->VK->Prop):Prop:=
 ∀(U:ZB)(s:Shared)(σ:St)(H:Hp)(xs:List V)(us:ZJ)(Q:VK),Inv X U σ H s->bI xs us->r xs H Q ->
  wpAny 'b' X.A (call f us) (EP X U σ Q) X.xe s
def aMZ(X:Cx)(r:V->Hp->(Bool->Hp->Prop)->Prop):Prop:=
 ∀(U:ZB)(s:Shared)(σ:St)(H:Hp)(x:V)(v:Value)(Q:Bool->Hp->Prop),Inv X U σ H s->bH x v->r x H Q ->
  wpAny 'b' X.A (truthy v) (TP X U σ Q) X.xe s
def į(r:R2)(ta tb:TE):TE:=λσ H Q=>ta σ H λx H1=>tb σ H1 λy H2=>r x y H2 Q
def aO8(r:V->Hp->VK->Prop)(ta:TE):TE:=λσ H Q=>ta σ H λx H1=>r x H1 Q
def rI(C:Int->Int->Prop)(g:Int->Int->V):R2:=λx y H Q=>∃i j,x=.int i/\y=.int j/\C i j/\Q (g i j) H
def N7(g:Int->Int->V):R2:=λx y H Q=>∃i j,x=.int i/\y=.int j/\Q (g i j) H
def rU(g:Int->V):V->Hp->VK->Prop:=λx H Q=>∃i,x=.int i/\Q (g i) H
section
def ŝ(ha:PE X a ta)(hb:PE X b tb){R:V->V->Hp->Prop}(I:Inv X U σ H s)(h:ta σ H λx H1=>tb σ H1 λy H2=>R x y H2){f:Value->Value->Sem Value}(hf:∀v u s2 x y H2,Inv X U σ H2 s2->bH x v->bH y u->R x y H2->wpAny 'b' X.A (f v u) Q X.xe s2):
  wpAny 'b' X.A (eval a X.env) (λv s₁=>wpAny 'b' X.A (eval b X.env) (λu s₂=>wpAny 'b' X.A (f v u) Q X.xe s₂) X.xe s₁) X.xe s:=by
 refine cM (ha U s σ H _ I h) λv s1 zQ=>?_;let⟨x,H1,I1,r1,q1⟩:=zQ;refine cM (hb U s1 σ H1 _ I1 q1) λu s2 zQ=>?_;let⟨y,H2,I2,r2,q2⟩:=zQ;exact hf v u s2 x y H2 I2 r1 r2 q2
def aI4(ho:jS X (binaryOp op) r)(ha:PE X a ta)(hb:PE X b tb):PE X (.BinOp a op b pos) (į r ta tb):=by
 intro U s σ H Q I h;exact wpAny_BinOp (ŝ ha hb I h λv u s2 x y H2 I2 rx ry q=>ho U s2 σ H2 x y v u Q I2 rx ry q)
def aI5(ho:Ŝ X (unaryOp op) r)(ha:PE X a ta):PE X (.UnaryOp op a pos) (aO8 r ta):=by
 intro U s σ H Q I h;exact UnaryOp_ (cM (ha U s σ H _ I h) λv s1 zQ=>by let⟨x,H1,I1,r1,q1⟩:=zQ;exact ho U s1 σ H1 x v Q I1 r1 q1)
def ľ{f:Value->Value->Sem Value}{C:Int->Int->Prop}{g:Int->Int->Int}(rule:∀(i j:Int)(t u:Tok)(s:Shared)(Q:ZA)(E:ZA),C i j->Q (.int (g i j) s.toks) {s with toks:=s.toks+1}->wpAny 'b' X.A (f (.int i t) (.int j u)) Q E s):
  jS X f (rI C λi j=>.int (g i j)):=by
 sleep 6;let⟨i,j,rfl,rfl,hc,q⟩:=h;let⟨t,rfl⟩:=rx;let⟨t',rfl⟩:=ry;exact rule i j t t' s _ _ hc ⟨.int (g i j),H,I.tok _,⟨_,rfl⟩,q⟩
def Θ{f:Value->Value->Sem Value}{g:Int->Int->Int}(rule:∀(i j:Int)(t u:Tok)(s:Shared)(Q:ZA)(E:ZA),Q (.int (g i j) s.toks) {s with toks:=s.toks+1}->wpAny 'b' X.A (f (.int i t) (.int j u)) Q E s):
  jS X f (N7 λi j=>.int (g i j)):=by
 sleep 6;let⟨i,j,rfl,rfl,q⟩:=h;let⟨t,rfl⟩:=rx;let⟨t',rfl⟩:=ry;exact rule i j t t' s _ _ ⟨.int (g i j),H,I.tok _,⟨_,rfl⟩,q⟩
def YA{f:Value->Value->Sem Value}{g:Int->Int->Bool}(rule:∀(i j:Int)(t u:Tok)(s:Shared)(Q:ZA)(E:ZA),Q (.bool (g i j)) s->wpAny 'b' X.A (f (.int i t) (.int j u)) Q E s):
  jS X f (N7 λi j=>.bl (g i j)):=by
 sleep 6;let⟨i,j,rfl,rfl,q⟩:=h;let⟨t,rfl⟩:=rx;let⟨t',rfl⟩:=ry;exact rule i j t t' s _ _ ⟨.bl (g i j),H,I,rfl,q⟩
def YB(i j:Int):Prop:=0<=j/\j<=1000000/\i.natAbs<2^64
def aES:jS X (binaryOp .Add) (N7 λi j=>.int (i+j)):=Θ λ_ _ _ _ _ _ _ q=>add_int q
def aET:jS X (binaryOp .Sub) (N7 λi j=>.int (i-j)):=Θ λ_ _ _ _ _ _ _ q=>sub_int q
def YC:jS X (binaryOp .Mod) (rI (λ_ j=>j≠0) λi j=>.int (i.fmod j)):=ľ λ_ _ _ _ _ _ _ hc q=>mod_int' hc q
def aEU:jS X (binaryOp .Pow) (rI YB λi j=>.int (i^j.toNat)):=ľ λ_ _ _ _ _ _ _ hc q=>pow_int_small hc.1 hc.2.1 hc.2.2 q
def aO9{f:Value->Sem Value}{g:Int->Int}(rule:∀(i:Int)(t:Tok)(s:Shared)(Q:ZA)(E:ZA),Q (.int (g i) s.toks) {s with toks:=s.toks+1}->wpAny 'b' X.A (f (.int i t)) Q E s):
  Ŝ X f (rU λi=>.int (g i)):=by
 intro U s σ H x v Q I rx h;let⟨i,rfl,q⟩:=h;let⟨t,rfl⟩:=rx;exact rule i t s _ _ ⟨.int (g i),H,I.tok _,⟨_,rfl⟩,q⟩
def aEV:Ŝ X (unaryOp .USub) (rU λi=>.int (-i)):=aO9 λ_ _ _ _ _ q=>neg_int q
end
section
def mU{U:ZB}{σ:St}{H:Hp}{s:Shared}{Q:VK}{k k':Bool}(I:Inv X U σ H s)(q:Q (.bl k) H)(e:k=k'):EP X U σ Q (.bool k') s:=by
 subst e;exact⟨.bl k,H,I,rfl,q⟩
def pC:jS X (compareOp .Lt) (N7 λi j=>.bl (decide (i<j))):=YA λ_ _ _ _ _ _ _ q=>lt_int q
def K3:jS X (compareOp .LtE) (N7 λi j=>.bl (decide (i<=j))):=YA λ_ _ _ _ _ _ _ q=>le_int q
def E2:jS X (compareOp .Gt) (N7 λi j=>.bl (decide (j<i))):=YA λ_ _ _ _ _ _ _ q=>gt_int q
def aI7:jS X (compareOp .GtE) (N7 λi j=>.bl (decide (j<=i))):=YA λ_ _ _ _ _ _ _ q=>ge_int q
def IP:jS X (compareOp .Is) (λx y H Q=>y=.non/\Q (.bl (decide (x=.non))) H):=by
 sleep 6;let⟨rfl,q⟩:=h;cases ry;refine is_none_gen (mU I q ?_);cases x<;>first
  |(cases rx;rfl)
  |(let⟨t,rfl⟩:=rx;rfl)
def YD:jS X (compareOp .IsNot) (λx y H Q=>y=.non/\Q (.bl (!decide (x=.non))) H):=by
 sleep 6;let⟨rfl,q⟩:=h;cases ry;refine isnot_none_gen (mU I q ?_);cases x<;>first
  |(cases rx;rfl)
  |(let⟨t,rfl⟩:=rx;rfl)
def jS.or(h:jS X f r)(h':jS X f r'):jS X f (λx y H Q=>r x y H Q\/r' x y H Q):=by
 intro U s σ H x y v u Q I rx ry q;rcases q with q|q
 .exact h U s σ H x y v u Q I rx ry q
 .exact h' U s σ H x y v u Q I rx ry q
def bB(b:Expr)(h:⇑(op≠.In))(h2:⇑(op≠.NotIn)):behindInMarks op b=false:=by
 have e1:(op == CmpOp.In)=false:=by cases op<;>first|rfl|exact absurd rfl h
 have e2:(op == CmpOp.NotIn)=false:=by cases op<;>first|rfl|exact absurd rfl h2
 cases b<;>simp[behindInMarks,e1,e2]
def YE(ho:jS X (compareOp op) r)(ha:PE X a ta)(hb:PE X b tb)(hm:behindInMarks op b=false):PE X (.Compare a [op] [b] pos) (į r ta tb):=by
 intro U s σ H Q I h;exact wpAny_Compare1 (ŝ ha hb I h λv u s2 x y H2 I2 rx ry q=>ho U s2 σ H2 x y v u Q I2 rx ry q) hm
def Ι(t:TE):TT:=λσ H Q=>t σ H λx H'=>∃k,x=.bl k/\Q k H'
def YF(ho:jS X (compareOp op) r)(ha:PE X a ta)(hb:PE X b tb)(hm:behindInMarks op b=false):PT X (.Compare a [op] [b] pos) (Ι (į r ta tb)):=by
 intro U s σ H Q I h;refine wpAny_isTrue_Compare1 (cM (ha U s σ H _ I h) λv s1⟨x,H1,I1,r1,q1⟩=>cM (hb U s1 σ H1 _ I1 q1) λu s2⟨y,H2,I2,r2,q2⟩=>
  cM (ho U s2 σ H2 x y v u _ I2 r1 r2 q2) λc s3⟨z,H3,I3,r3,k,e,q3⟩=>?_) hm
 subst e;cases r3;exact wpAny_truthy_bool ⟨H3,I3,q3⟩
def IQ(r r':R2)(ta tb tc:TE):TE:=λσ H Q=>ta σ H λx H1=>tb σ H1 λy H2=>r x y H2 λz H3=>∃k,z=.bl k /\
 (if k=true then tc σ H3 λw' H4=>r' y w' H4 Q else Q (.bl false) H3)
def Q1(ho:jS X (compareOp op) r)(ho':jS X (compareOp op') r')(ha:PE X a ta)(hb:PE X b tb)(hc:PE X c tc)(hm:lastMarks [op,op'] [b,c]=false:=by with_unfolding_all rfl):PE X (.Compare a [op,op'] [b,c] pos) (IQ r r' ta tb tc):=by
 intro U s σ H Q I h;refine Compare_chain (cM (ha U s σ H _ I h) λv s1⟨x,H1,I1,r1,q1⟩=>chain_link (cM (hb U s1 σ H1 _ I1 q1) λu s2⟨y,H2,I2,r2,q2⟩=>
  cM (ho U s2 σ H2 x y v u _ I2 r1 r2 q2) λd s3⟨z,H3,I3,r3,k,e,q3⟩=>?_)) hm
 subst e;cases r3;refine wpAny_truthy_bool ?_;cases k with
 |false=>exact ite_ff ⟨.bl false,H3,I3,rfl,q3⟩
 |true=>exact ite_tt (chain_last (cM (hc U s3 σ H3 _ I3 q3) λw' s4 zQ=>by let⟨z',H4,I4,r4,q4⟩:=zQ;exact ho' U s4 σ H4 y z' u w' Q I4 r2 r4 q4))
def Q2(ho:jS X (compareOp op) r)(ho':jS X (compareOp op') r')(ha:PE X a ta)(hb:PE X b tb)(hc:PE X c tc)(hm:lastMarks [op,op'] [b,c]=false:=by with_unfolding_all rfl):PT X (.Compare a [op,op'] [b,c] pos) (Ι (IQ r r' ta tb tc)):=by
 intro U s σ H Q I h;refine isTrue_chain (cM (ha U s σ H _ I h) λv s1⟨x,H1,I1,r1,q1⟩=>test_link (cM (hb U s1 σ H1 _ I1 q1) λu s2⟨y,H2,I2,r2,q2⟩=>
  cM (ho U s2 σ H2 x y v u _ I2 r1 r2 q2) λd s3⟨z,H3,I3,r3,k,e,q3⟩=>?_)) hm
 subst e;cases r3;refine wpAny_truthy_bool ?_;cases k with
 |false=>
  let⟨k',e',q'⟩:=q3;cases e';exact ite_ff ⟨H3,I3,q'⟩
 |true=>
  refine ite_tt (test_last (cM (hc U s3 σ H3 _ I3 q3) λw' s4⟨z',H4,I4,r4,q4⟩=>cM (ho' U s4 σ H4 y z' u w' _ I4 r2 r4 q4) λd' s5 zQ=>?_));let⟨z2,H5,I5,r5,k2,e2,q5⟩:=zQ;subst e2;cases r5;exact wpAny_truthy_bool ⟨H5,I5,q5⟩
def Κ(K:ZC)(x:V)(H:Hp)(k:Bool):Prop:=
 match x with
 |.non=>k=false
 |.bl b=>k=b
 |.int i=>k=(i != 0)
 |.str y=>y.length<=sizeLine/\k=((y.length:Int) != 0)
 |.byt y=>y.size<=sizeLine/\k=((y.size:Int) != 0)
 |.ref p=>(∃xs,eE K H p xs/\k=!xs.isEmpty)\/(∃xs,rB K H p xs/\k=!xs.isEmpty)\/∃À,H p=some (.dK À)/\k=!À.isEmpty
 |_=>False
def IR{vs:List (κ×Value)}(r:KV À vs):(!vs.isEmpty)=!À.isEmpty:=by
 cases r<;>rfl
def wF(r:bI xs its):(!its.toArray.isEmpty)=!xs.isEmpty:=by
 cases r<;>simp
def p6:(sizeLine:Nat)<2^63:=by rw[sizeLine_eq];decide
def aEW:aMZ X (λx H Q=>∃k,Κ X.K x H k/\Q k H):=by
 intro U s σ H x v Q I rx h;let⟨k,e,q⟩:=h;have hl:=p6;have hs:sizeLine=16777216:=sizeLine_eq;cases x with
 |non=>
  cases rx;have e':k=false:=e;subst e';exact truthy_none ⟨H,I,q⟩
 |bl b=>
  cases rx;have e':k=b:=e;subst e';exact wpAny_truthy_bool ⟨H,I,q⟩
 |int i=>
  let⟨t,rfl⟩:=rx;have e':k=(i != 0):=e;subst e';exact PySem.P.truthy_int ⟨H,I,q⟩
 |str y=>
  let⟨t,rfl⟩:=rx;obtain⟨hy,e'⟩:y.length<=sizeLine/\k=((y.length:Int) != 0):=e;subst e';exact PySem.P.truthy_str ∅ ⟨H,I.tok _,q⟩
 |byt y=>
  let⟨t,rfl⟩:=rx;obtain⟨hy,e'⟩:y.size<=sizeLine/\k=((y.size:Int) != 0):=e;subst e';exact W.truthy_bytes ∅ ⟨H,I.tok _,q⟩
 |ref p=>
  cases rx;have e':(∃xs,eE X.K H p xs/\k=!xs.isEmpty)\/(∃xs,rB X.K H p xs/\k=!xs.isEmpty)\/∃À,H p=some (.dK À)/\k=!À.isEmpty:=e;rcases e' with ⟨xs,hx,e'⟩|⟨xs,hx,e'⟩|⟨À,hx,e'⟩
  .subst e'
   let⟨its,r,pl,hz⟩:=I.list hx;have hlen:=r.length;exact wpAny_truthy_list pl.isList 'k' ⟨H,I.tok _,by rw[wF r];exact q⟩
  .subst e'
   let⟨its,r,pl,hz⟩:=I.tuple hx;have hlen:=r.length;exact truthy_tuple pl 'k' ⟨H,I.tok _,by rw[wF r];exact q⟩
  .subst e'
   obtain⟨hz,hS,vs,r,m⟩:À.length<=sizeLine/\(p == sysModules)=false/\∃vs,KV À vs/\s.heap.DictOf (c9 X.prog X.w) p vs:=I.hok p _ hx;have hlen:À.length=vs.length:=Paired.length r;exact wpAny_truthy_dict hS m ∅ ⟨H,I.tok _,by rw[IR r];exact q⟩
 |_=>exact(show False from e).elim
def Q3(ha:PE X a ta)(he:∀whole,isTrue a X.env whole=(do let v <- whole;standAt a.pos;holding [v] (truthy v))):
  PT X a (λσ H Q=>ta σ H λx H'=>∃k,Κ X.K x H' k/\Q k H'):=by
 intro U s σ H Q I h;exact isTrue_plain (cM (ha U s σ H _ I h) λv s1 zQ=>by let⟨x,H1,I1,r1,q1⟩:=zQ;exact aEW U s1 σ H1 x v Q I1 r1 q1) (he _)
def IS:jS X (binaryOp .Add) (λx y H Q=>∃i j,x=.str i/\y=.str j/\i.length+j.length<=sizeLine/\Q (.str (i++j)) H):=by
 sleep 6;let⟨i,j,rfl,rfl,hz,q⟩:=h;let⟨t,rfl⟩:=rx;let⟨t',rfl⟩:=ry;exact add_str (λt' tk=>⟨.str (i++j),H,I.tok _,⟨_,rfl⟩,q⟩) hz
def mO(r:bI [x] us):∃u,us=[u]/\bH x u:=by
 cases r with
 |cons r1 r2=>cases r2;exact⟨_,rfl,r1⟩
def aI9(r:bI [x,y] us):∃u w',us=[u,w']/\bH x u/\bH y w':=by
 cases r with
 |cons r1 r2=>
  cases r2 with
  |cons r3 r4=>cases r4;exact⟨_,_,rfl,r1,r3⟩
def rC:g7 X (.builtin "abs") (λxs H Q=>∃i,xs=[.int i]/\Q (.int (if i<0 then -i else i)) H):=by
 intro U s σ H xs us Q I r h;let⟨i,rfl,q⟩:=h;let⟨u,rfl,t,rfl⟩:=mO r;exact call_abs_int λu tk=>⟨.int (if i<0 then -i else i),H,I.tok _,⟨_,rfl⟩,q⟩
def N8:g7 X (.type "int") (λxs H Q=>(∃i,xs=[.int i]/\Q (.int i) H)\/∃k,xs=[.bl k]/\Q (.int (if k then 1 else 0)) H):=by
 intro U s σ H xs us Q I r h;rcases h with ⟨i,rfl,q⟩|⟨k,rfl,q⟩
 .obtain⟨u,rfl,t,rfl⟩:=mO r
  exact call_int_int ⟨.int i,H,I,⟨_,rfl⟩,q⟩
 .obtain⟨u,rfl,r1⟩:=mO r
  cases r1;exact call_int_bool ⟨.int (if k then 1 else 0),H,I.tok _,⟨_,rfl⟩,q⟩
end
structure IT(h:Heap)(x dx C:Addr)(mA:ZD):Prop where
 obj:h.get? x=some (W.instObj C dx)
 ns:h.Ns1 dx mA
 ne:dx≠x
def N9{h:Heap}(n:h.Ns1 dx mA):∃od,h.get? dx=some od/\∀name,W.lookIn name od=some (mA name):=by
 let⟨o,es,ep,ho,hd,hk,_,hm⟩:=n;refine⟨o,ho,λname=>?_⟩;have e:=hm name;unfold nsFind findBy at e;rw[<- Array.find?_toList]at e;unfold W.lookIn;rw[hd];dsimp only;split
 .grind
 .rename_i q
  rw[q]at e;have a:es.toList.any (·.refKey)=false:=by
   rw[List.any_eq_false];intro y hy;let⟨z,t,hkey⟩:=hk y (Array.mem_toList_iff.mp hy);simp[DictEntry.refKey,hkey]
  grind
def IT.look(I:IT h x dx C mA):∃od,W.InstAt h x (W.instObj C dx) C (some od)/\∀name,W.lookIn name od=some (mA name):=
 let ⟨od,ho,hl⟩:=N9 I.ns
 ⟨od,⟨I.obj,rfl,rfl,ho⟩,hl⟩
section
variable {prog:Program}{w:World}{A:Around}{E:ZA}{s:Shared}{K:ZC}{x dx C f:Addr}{mA:ZD}{name:Str}{v:Value}
def YG{expr:Bool}{Q:ZA}(X:K.In s.heap)(I:IT s.heap x dx C mA)(hg:W.plainGet K C name=true)(hh:W.hasDictIn K C=true)(ha:W.findIn K (.ref C) name=some none)(hv:mA name=some v)(hv':W.handedIn v=true)(h:Q v {s with toks:=s.toks+1}):
  wpAny 'u' A (getAttr (.ref x) name expr) Q E s:=by
 let⟨od,J,hl⟩:=I.look;exact W.get_value X J (W.plainGet_of hg).1 (W.findObj_own hh ha rfl (by rw[hl,hv])) hv' h
def Q5{pl:Sem Bool}{Q:Value×ZJ->Shared->Prop}(X:K.In s.heap)(I:IT s.heap x dx C mA)(hg:W.plainGet K C name=true)(hf:W.findIn K (.ref C) name=some (some (.ref f)))(ht:W.isFn K (.ref f)=true)(hv:mA name=none)(h:Q (.ref f,[.ref x]) s):
  wpAny 'u' A (getMethod (.ref x) name pl) Q E s:=by
 let⟨od,J,hl⟩:=I.look;exact W.method_fn X J (W.plainGet_of hg).1 (W.plainGet_of hg).2 hf (beq_iff_eq.mp ht) (by show (W.lookIn name od).map (·.isSome)=some false;rw[hl,hv];rfl) h
def YH{ns:ZG}{Q:Unit->Shared->Prop}(X:K.In s.heap)(I:IT s.heap x dx C mA)(hs:W.findIn K (.ref C) "__setattr__"=some (some (.builtin "object.__setattr__")))(hp:W.plainOver K C=true)(ht:W.takerIn K C name=some none)(hh:W.hasDictIn K C=true)(hw:PySem.Within mA ns)(hsz:ns.length<=sizeLine)(h:∀h',IT h' x dx C (λy=>if y=name then some v else mA y)->Heap.SameBut dx s.heap h'->Q () {s with heap:=h',toks:=s.toks+2}):
  wpAny 'u' A (setAttr (.ref x) name v) Q E s:=by
 let⟨od,J,hl⟩:=I.look;refine W.set_plain X J hs (W.osa_open (s:={s with toks:=s.toks+1}) (r:=none) X J hp ht λb=>?_);let⟨cd,hc,hd'⟩:=W.any_some hh;have hx:s.heap.get? x=some ⟨.ref C,some dx,.plain,#[]⟩:=I.obj;refine wpAny_bind (wpAny_pure (wpAny_bind (wpAny_bind (wpAny_loadPart hx (wpAny_bind (W.Looks.here (s:={s with toks:=s.toks+1}) (W.looks_clsIn X hc) ?_))))));rw[hd'];refine wpAny_pure (a:=some dx) (wpAny_bind (wpAny_pure (wpAny_bind ?_)));refine wpAny_nsSet1 (s:={s with toks:=s.toks+1}) I.ns λh' hn2 hs2=>?_;let⟨oD,esD,epD,hoD,hdD,hcD⟩:=hn2.count (PySem.Within.cons name v hw);refine wpAny_bind (wpAny_lookBehind hoD (by rw[hdD];exact pastItsLine_dict (Ø hcD 'k')) ?_)
 exact wpAny_pure (h _ ⟨(hs2.2 _ (Ñ I.ne)).trans I.obj,hn2,I.ne⟩ hs2)
def Q6(X:K.In s.heap)(hm:W.makesIn K C=true)(hi:W.findIn K (.ref C) "__init__"=some (some (.ref f)))(hf:W.typeIn K (.ref f)=some (.type "function"))(h:codeAny 'u' (A.under (.builtin "type.__call__" ⟨.ref C::vs,kw⟩)) (.call (.ref f) ⟨.ref 'z'::vs,kw⟩) (W.InitBack 'z' R)
   {s with heap:=(s.heap.push W.emptyDict).push (W.instObj C s.heap.objs.size)}):
  codeAny 'u' A (.call (.ref C) ⟨vs,kw⟩) R s:=by
 let⟨hh,g,d,t,os⟩:=s;exact W.make_core (W.makes_of X hm) (W.looks_findIn X hi) (λself=>W.bind_fn X self hf) (.inl rfl) h
end
def kB(f:Str)(v:V):List (Str×V)->List (Str×V)
 |[]=>[(f,v)]
 |(g,x)::r=>if g=f then (g,v)::r else (g,x)::kB f v r
def uQ(f g:Str)(v:V):∀fs:List (Str×V),(kB f v fs).lookup g=if g=f then some v else fs.lookup g
 |[]=>by
  show List.lookup g [(f,v)]=_
  grind
 |(k,x)::r=>by
  have ih:=uQ f g v r;rw[show kB f v ((k,x)::r)=(if k=f then (k,v)::r else (k,x)::kB f v r)from rfl]
  grind
def tJ(f:Str)(v:V):∀fs:List (Str×V),f∈(kB f v fs).map (·.1)/\∀g,g∈fs.map (·.1)->g∈(kB f v fs).map (·.1)
 |[]=>⟨by simp[kB],λg h=>by simp at h⟩
 |(k,x)::r=>by
  let⟨i1,i2⟩:=tJ f v r;rw[show kB f v ((k,x)::r)=(if k=f then (k,v)::r else (k,x)::kB f v r)from rfl]
  grind
def uR(f:Str)(v:V):∀fs:List (Str×V),(kB f v fs).length<=fs.length+1
 |[]=>by simp[kB]
 |(k,x)::r=>by
  have ih:=uR f v r;rw[show kB f v ((k,x)::r)=(if k=f then (k,v)::r else (k,x)::kB f v r)from rfl]
  grind
def oW.some_of(r:oW (some v) o):∃u,o=some u/\bH v u:=by
 cases o with
 |none=>exact(show False from r).elim
 |some u=>exact⟨u,rfl,r⟩
def oW.none_of(r:oW none o):o=none:=by
 cases o with
 |none=>rfl
 |some u=>exact(show False from r).elim
def OA(r:bH v u):W.handedIn u=true:=by
 cases v with
 |non=>cases (show u=Value.none from r);rfl
 |bl b=>cases (show u=Value.bool b from r);rfl
 |int i=>let⟨t,e⟩:=(show ∃t,u=Value.int i t from r);cases e;rfl
 |str x=>let⟨t,e⟩:=(show ∃t,u=Value.str x t from r);cases e;rfl
 |byt b=>let⟨t,e⟩:=(show ∃t,u=Value.bytes b t from r);cases e;rfl
 |flt b=>let⟨t,e⟩:=(show ∃t,u=Value.float b t from r);cases e;rfl
 |ref a=>cases (show u=Value.ref a from r);rfl
 |ty n=>cases (show u=Value.type n from r);rfl
section
def BW(hok:mM P w H h)(e:H a=some (.ins C dx fs)):∃mA,IT h a dx C mA/\(∀f,oW (fs.lookup f) (mA f))/\PySem.Within mA (fs.map (·.1))/\fs.length<=1000/\H dx=some (.own a):=by
 let⟨d,z,ne,ob,mA,n,r,q⟩:=(show dO P w H h a (.ins C dx fs)from hok a _ e);exact⟨mA,⟨ob,n,ne⟩,r,q,z,d⟩
end
structure QJ(K:ZC)(C:Addr):Prop where
 pg:W.plainGet K C Str.empty=true
 hd:W.hasDictIn K C=true
 po:W.plainOver K C=true
 sa:W.findIn K (.ref C) "__setattr__"=some (some (.builtin "object.__setattr__"))
def QJ.get{K:ZC}(c:QJ K C)(f:Str):W.plainGet K C f=true:=c.pg
def lI(K:ZC)(C:Addr)(f:Str):Prop:=W.findIn K (.ref C) f=some none
def lI.taker{K:ZC}(n:lI K C f):W.takerIn K C f=some none:=by
 unfold W.takerIn;rw[show W.findIn K (.ref C) f=some none from n];rfl
structure YI(K:ZC)(C:Addr)(m:Str)(f:Addr):Prop where
 at_:W.findIn K (.ref C) m=some (some (.ref f))
 fn:W.isFn K (.ref f)=true
 kp:W.keepIn K (.ref f)=true
section
variable {X:Cx}{U:ZB}{σ:St}{H:Hp}{s:Shared}{a C dx:Addr}{fs:List (Str×V)}{f:Str}{v:V}{A:Around}{E:ZA}
def IU(I:Inv X U σ H s)(e:H a=some (.ins C dx fs))(c:QJ X.K C)(n:lI X.K C f)(l:fs.lookup f=some v)(h:∀u s',Inv X U σ H s'->bH v u->Q u s'):wpAny 'b' A (getAttr (.ref a) f b) Q E s:=by
 let⟨mA,O,r,_,_,_⟩:=BW I.hok e;let⟨u,hu,ru⟩:=oW.some_of (v:=v) (o:=mA f) (by rw[<- l];exact r f);exact YG I.kIn O (c.get f) c.hd n hu (OA ru) (h u _ (I.tok _) ru)
def IV{m:Str}{g:Addr}{pl:Sem Bool}{Q:Value×ZJ->Shared->Prop}(I:Inv X U σ H s)(e:H a=some (.ins C dx fs))(c:QJ X.K C)(k:YI X.K C m g)(l:fs.lookup m=none)(h:Q (.ref g,[.ref a]) s):wpAny 'b' A (getMethod (.ref a) m pl) Q E s:=by
 let⟨mA,O,r,_,_,_⟩:=BW I.hok e;have hn:mA m=none:=oW.none_of (by rw[<- l];exact r m);exact Q5 I.kIn O (c.get m) k.at_ k.fn hn h
def IW{y:V}{u:Value}{Q:Unit->Shared->Prop}(I:Inv X U σ H s)(e:H a=some (.ins C dx fs))(c:QJ X.K C)(n:lI X.K C f)(hl:fs.length<1000)(ry:bH y u)(h:∀s',Inv X U σ (bA H a (.ins C dx (kB f y fs))) s'->Q () s'):wpAny 'b' A (setAttr (.ref a) f u) Q E s:=by
 let⟨mA,O,r,wi,_,ho⟩:=BW I.hok e;have hz:(fs.map (·.1)).length<=sizeLine:=by rw[Ä,sizeLine_eq];lia
 refine YH I.kIn O c.sa c.po n.taker c.hd wi hz λh' O' sb=>h _ ?_;have hd:∃o,h'.get? dx=some o:=let ⟨o,_,_,e',_⟩:=O'.ns;⟨o,e'⟩
 refine I.write (x:=a) (e:=dx) (by rw[e];exact True.intro) (.inr ho) (λb q hb z=>(sb.2 b hb).trans z) hd ?_;refine⟨by rw[aF O.ne];exact ho,?_,O.ne,O'.obj,_,O'.ns,λg=>?_,λg hg=>?_⟩
 .have:=uR f y fs;exact Ø ‹_› ‹_›
 .show oW ((kB f y fs).lookup g) (if g=f then some u else mA g)
  rw[uQ];by_cases q:g=f
  .rw[Â q,Â q];exact ry
  grind
 .by_cases q:g=f
  .rw[q];exact(tJ f y fs).1
  .refine(tJ f y fs).2 g (wi g λz=>hg ?_)
   grind
def Inv.made(I:Inv X U σ H s):Inv X U σ (bA (bA H s.heap.objs.size (.own 'z')) 'z' (.ins C s.heap.objs.size []))
  {s with heap:=(s.heap.push W.emptyDict).push (W.instObj C s.heap.objs.size)}:=by
 have e1:(s.heap.push W.emptyDict).get? s.heap.objs.size=some W.emptyDict:=Heap.get?_push_size s.heap rfl;have e2:((s.heap.push W.emptyDict).push (W.instObj C s.heap.objs.size)).get? 'z'=some (W.instObj C s.heap.objs.size):=by
  have:=Heap.get?_push_size (s.heap.push W.emptyDict) (o:=W.instObj C s.heap.objs.size) rfl
  rwa [Heap.size_push]at this
 have e3:(s.heap.push W.emptyDict).Ns s.heap.objs.size (λ_=>none):=⟨W.emptyDict,#[],_,e1,rfl,(λe he=>absurd he 'e'),λ_=>rfl⟩;have I1:=I.laid (a:=s.heap.objs.size) (o:=.own 'z') (h':=s.heap.push W.emptyDict) (t':=s.toks) (λb u q=>Heap.get?_push_of_some _ q) (Ç _) ⟨_,e1⟩;refine I1.laid (a:=s.heap.objs.size+1) (o:=.ins C s.heap.objs.size []) (t':=s.toks) (λb u q=>Heap.get?_push_of_some _ q) (ý (Heap.size_push _ _)) ?_;have ne:s.heap.objs.size≠s.heap.objs.size+1:=Í (î _);refine⟨by rw[aF ne,aJ],ó _,ne,e2,λ_=>none,(Heap.Ns1.of_empty e3).at λo q=>Heap.get?_push_of_some _ q,λ_=>True.intro,λy hy=>absurd rfl hy⟩
def YJ(hb:attributeBase e f env (eval e env)=eval e env)(h:wpAny 'u' A (eval e env) (λo s₁=>wpAny 'u' A (getAttr o f true) Q E s₁) E s):wpAny 'u' A (eval (.Attribute e f pos) env) Q E s:=
 Attribute_any_ h (by rw[arm_eval_Attribute,hb])
end
def aM0(K:ZC)(ta:TE)(f:Str):TE:=λσ H Q=>ta σ H λx H1=>∃a C dx fs v,x=.ref a/\H1 a=some (.ins C dx fs)/\QJ K C/\lI K C f/\fs.lookup f=some v/\Q v H1
def aM1(K:ZC)(ta tv:TE)(f:Str):TS:=λD σ H=>tv σ H λy H1=>ta σ H1 λx H2=>∃a C dx fs,x=.ref a/\H2 a=some (.ins C dx fs)/\QJ K C/\lI K C f/\fs.length<1000 /\
 D.nx σ (bA H2 a (.ins C dx (kB f y fs)))
section
def BX(he:PE X e ta)(hb:attributeBase e f X.env (eval e X.env)=eval e X.env):PE X (.Attribute e f pos) (aM0 X.K ta f):=by
 intro U s σ H Q I h;refine YJ hb (cM (he U s σ H _ I h) λu s1 zQ=>?_);let⟨x,H1,I1,rx,a,C,dx,fs,v,ex,ea,c,n,l,q⟩:=zQ;subst ex;obtain rfl:u=Value.ref a:=rx;exact IU I1 ea c n l λu' s2 I2 ru=>⟨v,H1,I2,ru,q⟩
def aEX(ha:PE X o ta)(hv:PE X value tv)(hs:swapsWith value (some (.Attribute o f pos')) pos.line X.env=pure false):PS X (.Assign [.Attribute o f pos'] value pos) (aM1 X.K ta tv f):=by
 intro U s σ H D I h;refine plainObj_wpAny_Assign_Attribute (cM (hv U s σ H _ I h) λu s1⟨y,H1,I1,ry,q⟩=>cM (ha U s1 σ H1 _ I1 q) λov s2 zQ=>?_) hs;let⟨x,H2,I2,rx,a,C,dx,fs,ex,ea,c,n,l,q2⟩:=zQ;subst ex;obtain rfl:ov=Value.ref a:=rx;exact IW I2 ea c n l ry λs3 I3=>⟨σ,_,I3,q2⟩
end
section
end
structure eY(k:Nat)(A:Around):Prop where
 hd:A.handled=none
 dp:A.depth+3*k+5<recursionLimit
 un:A.units+16*k+200<cLine
def eY.mono(r:eY k A)(h:j<=k):eY j A:=⟨r.hd,by have:=r.dp;lia,by have:=r.un;lia⟩
def eY.deeper(r:eY (k+1) A)(env:Env):eY k (A.deeper env):=
 ⟨r.hd,by have:=r.dp;show A.depth+1+3*k+5<_;lia,by have:=r.un;show A.units+3+16*k+200<_;lia⟩
def IX{A:Around}:(A.under (.builtin "type.__call__" ⟨.ref C::us,kw⟩)).depth=A.depth+1:=by
 first|rfl|simp[Around.under,Code.weight,Code.isCreation,Code.isGuard,Code.isCaller,Code.frames,Code.isFrame,guardIds]
def IY{A:Around}:(A.under (.builtin "type.__call__" ⟨.ref C::us,kw⟩)).units=A.units+1:=by
 first|rfl|simp[Around.under,Code.cUnits,Code.frames,Code.isFrame]
def eY.make(r:eY (k+1) A)(C:Addr)(us:ZJ)(kw:List (Str×Value)):eY k (A.under (.builtin "type.__call__" ⟨.ref C::us,kw⟩)):=
 ⟨r.hd,by have:=r.dp;rw[IX];lia,by have:=r.un;rw[IY];lia⟩
def eY.depth(r:eY k A):A.depth<recursionLimit:=by have:=r.dp;lia
def eY.units(r:eY k A):A.units+64<cLine:=by have:=r.un;lia
def Ş:TA:=λ_ H Q=>Q [] H
def Q7(ta:TE)(tr:TA):TA:=λσ H Q=>ta σ H λx H1=>tr σ H1 λxs H2=>Q (x::xs) H2
section
def mV:PA X [] Ş:=λ_ _ _ _ H Q I h=>Calls.spliced_nil ⟨[],H,I,.nil,h⟩
def gS(ha:PE X e te)(hr:PA X es t)(hs:↥(Zse e es X.env)):PA X (e::es) (Q7 te t):=by
 intro pos U s σ H Q I h;rw[hs];show wpAny _ _ (spliced ((false,eval e X.env)::backTo pos (starEach es X.env))) _ _ s;refine Calls.spliced_cons (cM (ha U s σ H _ I h) λu s1 zQ=>?_);let⟨x,H1,I1,r1,q1⟩:=zQ;exact cM (hr pos U s1 σ H1 _ I1 q1) λus s2 zQ=>by let⟨xs,H2,I2,r2,q2⟩:=zQ;exact ⟨x::xs,H2,I2,.cons r1 r2,q2⟩
def aM2(t:TA):TE:=λσ H Q=>t σ H λxs H1=>xs.length<=sizeLine/\∀p,H1 p=none->Q (.ref p) (bA H1 p (.tup xs))
def aM3(t:TA):TE:=λσ H Q=>t σ H λxs H1=>xs.length<=sizeLine/\∀p,H1 p=none->Q (.ref p) (bA H1 p (.lst xs))
def aEZ(h:PA X es t):PE X (.Tuple es x1 pos) (aM2 t):=by
 intro U s σ H Q I hq;refine wpAny_Tuple_spliced (cM (h pos U s σ H _ I hq) λus s1⟨xs,H1,I1,r,z,q⟩=>⟨by rw[<- r.length];exact z,?_⟩);have hf:H1 s1.heap.objs.size=none:=I1.hok.fresh (Ç _);refine⟨.ref s1.heap.objs.size,bA H1 s1.heap.objs.size (.tup xs),I1.laid (t':=s1.toks) (λb u e=>Heap.get?_push_of_some _ e) (Ç _) ?_,rfl,q _ hf⟩;exact⟨z,us,r,⟨_,Heap.get?_push_size _ rfl,rfl,_,rfl⟩⟩
def aE0(h:PA X es t):PE X (.List es pos) (aM3 t):=by
 intro U s σ H Q I hq;refine wpAny_List_spliced (cM (h pos U s σ H _ I hq) λus s1⟨xs,H1,I1,r,z,q⟩=>⟨by rw[<- r.length];exact z,?_⟩);have hf:H1 s1.heap.objs.size=none:=I1.hok.fresh (Ç _);refine⟨.ref s1.heap.objs.size,bA H1 s1.heap.objs.size (.lst xs),I1.laid (t':=s1.toks) (λb u e=>Heap.get?_push_of_some _ e) (Ç _) ?_,rfl,q _ hf⟩;exact⟨z,us,0,r,Heap.get?_push_size _ rfl⟩
end
abbrev Sp:=List V->Hp->VK->XK->Prop
abbrev Q8:=List Env->Hp->Shared->XK->ZA
structure IZ(P:Program)(w:World)(K:ZC)(mg:ZD)(base:Heap)(A:Around)(outer:List Env)(s:Shared)(H:Hp):Prop where
 frames:A.frames=some outer
 mod:Mod K mg base
 bs:∀b o,base.get? b=some o->s.heap.get? b=some o/\H b=none
 bsz:base.objs.size<=s.heap.objs.size
 funs:s.heap.FunFrames base outer
 frf:∀b∈iJ outer,H b=none
 hok:mM P w H s.heap
 bare:AllBare s.gens
def CE(outer:List Env)(P:Program)(w:World)(H:Hp)(s:Shared)(Q:VK)(u:Value)(s':Shared):Prop:=
 ∃v H',s'.os=s.os/\AllBare s'.gens/\Un (iJ outer) [] H H' s.heap s'.heap/\mM P w H' s'.heap/\bH v u/\Q v H'
def CR(CX:Q8)(outer:List Env)(P:Program)(w:World)(H:Hp)(s:Shared)(Q:VK)(E:XK)(r:Result)(s':Shared):Prop:=
 match r with
 |.ok (.ret u)=>CE outer P w H s Q u s'
 |.ok _=>False
 |.error e=>CX outer H s E e s'
structure rD(P:Program)(w:World)(K:ZC)(mg:ZD)(base:Heap)(CX:Q8)(k:Nat)(f:Addr)(fd:FuncData)(ps:ZG)(sp:Sp):Prop where
 len:∀vs H Q E,sp vs H Q E->vs.length=ps.length
 run:∀(A:Around)(outer:List Env)(s:Shared)(H:Hp)(args:Args)(us:ZJ)(vs:List V)(Q:VK)(E:XK),eY k A->IZ P w K mg base A outer s H->BindsTo s fd args (ps.zip us)->bI vs us->sp vs H Q E ->
  codeAny (model P w) A (.call (.ref f) args) (CR CX outer P w H s Q E) s
def IZ.make{K:ZC}(e:IZ P w K mg base A outer s H)(C:Addr)(us:ZJ)(kw:List (Str×Value)):
  IZ P w K mg base (A.under (.builtin "type.__call__" ⟨.ref C::us,kw⟩)) outer s H:=⟨by first|exact e.frames|(simpa[Around.under,Code.envs,Code.isFrame,pushEnvs]using e.frames),e.mod,e.bs,e.bsz,e.funs,e.frf,e.hok,e.bare⟩
section
variable {X:Cx}{U:ZB}{σ:St}{H:Hp}{s s':Shared}
def Inv.env0(I:Inv X U σ H s):IZ X.prog X.w X.K X.mg X.base X.A X.stack s H:=
 ⟨I.ok.frames,I.ok.mod,I.bs,Ø I.ok.bsz I.sz,I.stack,I.stkFree,I.hok,I.bare⟩
def Inv.after(I:Inv X U σ H s)(h:CE X.stack X.prog X.w H s Q u s'):EP X U σ Q u s':=by
 let⟨v,H',os,bare,un,hok,r,q⟩:=h;let⟨hh,g,d,t,os'⟩:=s';obtain rfl:os'=s.os:=os;exact⟨v,H',I.call (h':=hh) (g':=g) (d':=d) (t':=t) (ch:=[]) un hok bare (λb z=>absurd z 'e'),r,q⟩
end
def pE(K:ZC)(fd:FuncData)(ps:ZG)(ds:ZJ):Prop:=
 ∀(s:Shared)(us:ZJ),K.In s.heap->(us++ds).length=ps.length->BindsTo s fd ⟨us,[]⟩ (ps.zip (us++ds))
def pE.all{K:ZC}(h:∀us:ZJ,us.length=ps.length->bindArgs fd ⟨us,[]⟩=pure (ps.zip us)):pE K fd ps []:=λs us _ hl=>by
 rw[ò]at hl⊢;exact .of_eq (h us hl)
section
structure Mk(K:ZC)(C f:Addr):Prop where
 makes:W.makesIn K C=true
 init:W.findIn K (.ref C) "__init__"=some (some (.ref f))
 fn:W.isFn K (.ref f)=true
 kp:W.keepIn K (.ref C)=true
end
section
end
structure lJ(N P:ZG)(sc:Scope):Prop where
 kind:sc.kind=.function
 co:sc.isCoroutine=false
 gen:sc.isGenerator=false
 nd:N.Nodup
 pre:N.take P.length=P
 par:∀x∈P,sc.names.lookup x=some .local\/sc.names.lookup x=some .cell
 nofree:∀y∈sc.names,y.2≠.free
def AL{kindOf:Str->Option NameKind}:∀{binds:List (Str×Value)}{m:ZD},(∀v,(x,v)∉binds)->bindL kindOf binds m x=m x
 |[],_,_=>rfl
 |(n,v)::r,m,h=>by
  unfold bindL;rw[AL λw hw=>h w (Ò _ hw)];split
  all_goals grind
def AM{kindOf:Str->Option NameKind}:∀{binds:List (Str×Value)}{m:ZD},(∀v,(x,v)∉binds)->bindC kindOf binds m x=m x
 |[],_,_=>rfl
 |(n,v)::r,m,h=>by
  unfold bindC;rw[AM λw hw=>h w (Ò _ hw)];split
  all_goals grind
def AN{kindOf:Str->Option NameKind}{x:Str}{v:Value}:∀{P:ZG}{vs:ZJ}{i:Nat}{m:ZD},P.Nodup->P[i]?=some x->vs[i]?=some v->kindOf x=some .local ->
  bindL kindOf (P.zip vs) m x=some v
 |[],_,_,_,_,h,_,_=>by simp at h
 |_::_,[],_,_,_,_,h,_=>by simp at h
 |p::P,w::vs,0,m,nd,h1,h2,hk=>by
  simp at h1 h2;subst h1;subst h2;show bindL kindOf ((p,w)::P.zip vs) m p=_;unfold bindL;rw[AL λv hv=>(List.nodup_cons.mp nd).1 (List.of_mem_zip hv).1,Â hk];simp
 |p::P,w::vs,i+1,m,nd,h1,h2,hk=>by
  show bindL kindOf ((p,w)::P.zip vs) m x=_;unfold bindL;exact AN (i:=i) (List.nodup_cons.mp nd).2 (by simpa using h1) (by simpa using h2) hk
def AO{kindOf:Str->Option NameKind}{x:Str}{v:Value}:∀{P:ZG}{vs:ZJ}{i:Nat}{m:ZD},P.Nodup->P[i]?=some x->vs[i]?=some v->kindOf x≠some .local ->
  bindC kindOf (P.zip vs) m x=some v
 |[],_,_,_,_,h,_,_=>by simp at h
 |_::_,[],_,_,_,_,h,_=>by simp at h
 |p::P,w::vs,0,m,nd,h1,h2,hk=>by
  simp at h1 h2;subst h1;subst h2;show bindC kindOf ((p,w)::P.zip vs) m p=_;unfold bindC;rw[AM λv hv=>(List.nodup_cons.mp nd).1 (List.of_mem_zip hv).1,Ã hk];simp
 |p::P,w::vs,i+1,m,nd,h1,h2,hk=>by
  show bindC kindOf ((p,w)::P.zip vs) m x=_;unfold bindC;exact AO (i:=i) (List.nodup_cons.mp nd).2 (by simpa using h1) (by simpa using h2) hk
def start(N:ZG)(vs:List V):St:=vs.map some++List.replicate (N.length-vs.length) none
def p7(CX:Q8)(P:Program)(w:World)(K:ZC)(mg:ZD)(base:Heap)(N:ZG)(qual:Str)(scope:Scope)(f:Addr)(cd:Value)(A:Around)(outer:List Env)(s:Shared)(H:Hp)(E:XK):Cx where
 prog:=P
 w:=w
 K:=K
 mg:=mg
 base:=base
 A:=A.deeper (envOfC qual scope s.heap.objs.size f cd)
 N:=N
 s₀:=s
 H₀:=H
 env:=envOfC qual scope s.heap.objs.size f cd
 outer:=outer
 stack:=envOfC qual scope s.heap.objs.size f cd::outer
 ex:=[]
 calm:=true
 fn:=λ_=>true
 pn:=[]
 xe:=λe s'=>wpAny (model P w) (A.deeper (envOfC qual scope s.heap.objs.size f cd)) (leaving (envOfC qual scope s.heap.objs.size f cd) e) (λ_ s''=>CX outer H s E e s'') (λe' s''=>CX outer H s E e' s'') s'
def E3{sc:Scope}(h:sc.names.lookup x=some .cell):∃c,(cellsFrom n sc.names []).lookup x=some c:=by
 have q:=W.cellsFrom_some sc.names n [] (.inl h);exact Option.isSome_iff_exists.mp q
def OB{K:ZC}{outer:List Env}{s s1:Shared}{H:Hp}{E:XK}{us:ZJ}{vs:List V}(S:lJ N ps scope)(hd:A.handled=none)(e0:IZ P w K mg base A outer s H)(hl:vs.length=ps.length)(r:bI vs us)(x:InCallC s s.heap.objs.size (bindL (envOfC qual scope s.heap.objs.size f cd).kindOf (ps.zip us) λ_=>none) (cellsFrom 'z' scope.names []) (bindC (envOfC qual scope s.heap.objs.size f cd).kindOf (ps.zip us) λ_=>none) s1):
  Inv (p7 CX P w K mg base N qual scope f cd A outer s H E) [] (start N vs) H s1:=by
 have hpl:ps.length<=N.length:=by have:=congrArg List.length S.pre;rw[ù]at this;lia
 let⟨h1,tk,rfl,hk⟩:=x.done;have noA:∀b:Addr,b∉(p7 CX P w K mg base N qual scope f cd A outer s H E).ex:=λb z=>absurd (show b∈([]:ZM)from z) 'e';refine⟨⟨e0.mod,S.kind,rfl,rfl,Ç _,λy z c h1 h2=>?_,λy hy=>?_,λy c _ h=>?_,λ_=>hd,Around.frames_deeper e0.frames,.inr ⟨rfl,rfl⟩,λb z=>absurd z (noA b),e0.bs,e0.bsz,λb _ _=>noA b,λb z=>absurd z (noA b),e0.funs,e0.frf⟩,
  rfl,e0.bare,Un.kept hk,⟨_,x.toInCall.ns,λi y v h1 h2 h3=>?_⟩,λy c h=>⟨_,x.cell y c h⟩,e0.hok.fresh (Ç _),λy c h=>?_,λp hp=>absurd (show p∈([]:ZB)from hp) 'e',e0.hok.kept hk,?_⟩
 .exact name_of_addr x.apart (Ĉ h1) (Ĉ h2)
 .have hy:scope.names.lookup y=some .cell\/scope.names.lookup y=some .free:=hy
  rcases hy with hy|hy
  .exact E3 hy
  .exact absurd rfl (S.nofree _ (Ĉ hy))
 .exact È (x.above y c (Ĉ h))
 .have hi:i<vs.length:=by
   unfold start at h2;by_cases hi:i<vs.length
   .exact hi
   .rw[á (by simpa using hi)]at h2
    rw[ą]at h2;split at h2<;>cases h2
  have ha:vs[i]?=some v:=by
   unfold start at h2;rw[ñ (by simpa using hi),Î]at h2;cases e:vs[i]? with
   |none=>rw[e]at h2;cases h2
   |some a=>rw[e]at h2;cases h2;rfl
  let⟨u,hu,rv⟩:=r.get ha;have hp:ps[i]?=some y:=by
   rw[<- S.pre,List.getElem?_take_of_lt (by exact ú ‹_› ‹_›)];exact h1
  have ndP:ps.Nodup:=by rw[<- S.pre];exact S.nd.sublist (List.take_sublist _ _)
  refine⟨u,rv,?_⟩;rcases S.par y (û hp)with k|k
  .exact .inl ⟨k,AN ndP hp hu k⟩
  .obtain⟨c,e⟩:=E3 (n:=s.heap.objs.size+1) k
   refine .inr ⟨.inl k,c,e,?_⟩;have q:=x.cell y c e;rw[AO ndP hp hu (by show scope.names.lookup y≠_;rw[k];decide)]at q
   exact q
 .exact e0.hok.fresh (È (x.above y c (Ĉ h)))
 .unfold start
  show _=N.length;rw[Ì,Ä,õ];lia
def aJA{K:ZC}{dV kV doc pm cdv ct oc:Value}{an od:Option Addr}{osl:Array (ZN)}{N ps:ZG}{sp:Sp}(lk:K.lookup f=some ⟨oc,od,.func (W.fnOf name qual params body scope dV kV doc pm an cdv ct),osl⟩)(hcd:W.codeIn K cdv qual=true)(S:lJ N ps scope)(len:∀vs H Q E,sp vs H Q E->vs.length=ps.length)(hbody:∀(A:Around)(outer:List Env)(s:Shared)(H:Hp)(vs:List V)(Q:VK)(E:XK),eY k (A.deeper (envOfC qual scope s.heap.objs.size f cdv))->sp vs H Q E ->
   ∃t,EQ (p7 CX P w K mg base N qual scope f cdv A outer s H E) body t/\t {nx:=λ_ H'=>Q .non H',rt:=Q} (start N vs) H):
  rD P w K mg base CX (k+1) f (W.fnOf name qual params body scope dV kV doc pm an cdv ct) ps sp:=by
 refine⟨len,λA outer s H args us vs Q E hr e0 hb r hsp=>?_⟩;have hl:=len _ _ _ _ hsp;have KX:K.In s.heap:=e0.mod.kin.keeps λb o e=>(e0.bs b o e).1;have lim:s.heap.NoLimit:=e0.mod.nolimit.keeps λb o e=>(e0.bs b o e).1;have hkind:∀y∈ps.zip us,scope.names.lookup y.1=some .local\/(scope.names.lookup y.1=some .cell/\((cellsFrom 'z' scope.names []).lookup y.1).isSome=true):=λ⟨n,v⟩hy=>by
  rcases S.par n (List.of_mem_zip hy).1 with q|q
  .exact .inl q
  .exact .inr ⟨q,W.cellsFrom_some _ _ _ (.inl q)⟩
 refine codeAny_call_function hr.depth (KX _ _ lk) rfl S.co S.gen rfl (W.codeRec_of KX hcd) (hb _ _ _ _ ?_);refine wpAny_newFunctionEnv_cells S.kind hkind λenv he s1 x=>?_;subst he;refine⟨lim.keeps x.toInCall.keep,codeAny_func ?_⟩;let⟨t,ht,hq⟩:=hbody A outer s H vs Q E (hr.deeper _) hsp;have I:Inv (p7 CX P w K mg base N qual scope f cdv A outer s H E) [] (start N vs) H s1:=OB S hr.hd e0 hl r x;refine wpAny_mono (ht [] s1 (start N vs) H _ I hq) (λfl s' hs=>?_) λe s' hs=>hs;have fin:∀{σ':St}{H':Hp}{v:V}{u:Value},Inv (p7 CX P w K mg base N qual scope f cdv A outer s H E) [] σ' H' s'->bH v u->Q v H'->CE outer P w H s Q u s':=
  λ{σ' H' v u}J rv q=>⟨v,H',J.os,J.bare,J.base,J.hok,rv,q⟩
 cases fl with
 |ret u=>
  let⟨v,σ',H',J,rv,q⟩:=hs;exact fin J rv q
 |next=>
  let⟨σ',H',J,q⟩:=hs;exact fin (v:=V.non) (u:=Value.none) J rfl q
 |brk=>
  let⟨_,_,_,q⟩:=hs;exact False.elim q
 |cont=>
  let⟨_,_,_,q⟩:=hs;exact False.elim q
section
variable {X:Cx}{x:Str}{p pos:Pos}{e:Expr}{es:List Expr}{t:TA}{id T:String}{r:List V->Hp->VK->Prop}
def ş(r:List V->Hp->VK->Prop)(t:TA):TE:=λσ H Q=>t σ H λvs H1=>r vs H1 Q
def wG(hc:g7 X (.builtin id) r)(hg:Gl X x)(hm:X.mg x=none)(hv:bootBuiltins x=some (.builtin id))(ha:PA X (e::es) t)(hn:⇑(x≠"__name__"))(hdb:⇑(Zdb x))(he:↥(Zse e es X.env))(hpl:↥(Zbt pos es X.env)):PE X (.Call 'g' (e::es) [] pos) (ş r t):=by
 intro U s σ H Q I h;refine wpAny_Call_Name_kw (iK I hg hm hv ?_ hn hdb);exact PyProof.Rows.callWith_builtin1 (cM (ha pos U s σ H _ I h) λus s1 zQ=>by let⟨vs,H1,I1,r1,q1⟩:=zQ;exact hc U s1 σ H1 vs us Q I1 r1 q1) he hpl
def tK(hc:g7 X (.type T) r)(hg:Gl X x)(hm:X.mg x=none)(hv:bootBuiltins x=some (.type T))(ha:PA X (e::es) t)(hn:⇑(x≠"__name__"))(hdb:⇑(Zdb x))(he:↥(Zse e es X.env))(hpl:↥(Zbt pos es X.env)):PE X (.Call 'g' (e::es) [] pos) (ş r t):=by
 intro U s σ H Q I h;refine wpAny_Call_Name_kw (iK I hg hm hv ?_ hn hdb);exact PyProof.Rows.callWith_type1 (cM (ha pos U s σ H _ I h) λus s1 zQ=>by let⟨vs,H1,I1,r1,q1⟩:=zQ;exact hc U s1 σ H1 vs us Q I1 r1 q1) he hpl
end
end L2
namespace HT
open PySem PyProof.Rows
section
open PySem.SeqAt
open PySem.AutoSeq1 (wpAny_loadPart')
open PySem.MeetsSeq PySem.MeetsSeq2 PySem.MeetsSeq3
end
section
variable {prog:Program}{w:World}{A:Around}{E:ZA}{s:Shared}
def cat_tup{t b:Addr}{vs ws:ZJ}{Q:ZA}(ht:IsTup s.heap t vs.toArray)(hb:IsTup s.heap b ws.toArray)(hv:vs≠[])(h1:ws=[]->Q (.ref t) s)(h2:ws≠[]->Q (.ref s.heap.objs.size) {s with heap:=s.heap.push {cls:=.type "tuple",data:=.seq (vs++ws).toArray}})(hsz:vs.length+ws.length<=sizeLine):wpAny 'u' A (binaryOp .Add (.ref t) (.ref b)) Q E s:=by
 let⟨⟨cls,dd,data,sl⟩,ho,hc,n,hd⟩:=id ht;let⟨⟨cls2,dd2,data2,sl2⟩,ho2,hc2,n2,hd2⟩:=id hb;simp only at hc hd hc2 hd2;subst hc hd hc2 hd2;have e:vs.toArray++ws.toArray=(vs++ws).toArray:=by simp
 by_cases hw:ws=[]
 .exact concat_meets ⟨_,ho,rfl⟩ ⟨_,ho2,rfl⟩ noFill_tuple_add seq_tuple_add PySem.F.slot_tuple_add PySem.F.entry_tuple_add (PySem.F.args_tuple_add_2 _ _)
   (tuple_addW1 t b vs.toArray ws.toArray n n2 dd dd2 sl sl2 (by simpa using hv) (by simp[hw])) ⟨ho,ho2,h1 hw⟩
 .refine concat_meets ⟨_,ho,rfl⟩ ⟨_,ho2,rfl⟩ noFill_tuple_add seq_tuple_add PySem.F.slot_tuple_add PySem.F.entry_tuple_add (PySem.F.args_tuple_add_2 _ _)
   (tuple_addW2 t b vs.toArray ws.toArray n n2 dd dd2 sl sl2 (by simpa using hv) (by simpa using hw) 'k') ⟨ho,ho2,?_⟩
  rw[e];exact h2 hw
def sIx(n d:Nat):Option Int->Nat
 |none=>d
 |some v=>if v<0 then (v+(n:Int)).toNat else min v.toNat n
def sIx_none(n d:Nat):sIx n d none=d:=rfl
def sIx_nat(n d k:Nat):sIx n d (some (k:Int))=min k n:=by
 show (if (k:Int)<0 then ((k:Int)+(n:Int)).toNat else min (k:Int).toNat n)=min k n;rw[Ã ∅,ā]
def aE1(n d:Nat)(hd:d<=n)(o:Option Int):sIx n d o<=n:=by
 cases o with
 |none=>exact hd
 |some v=>
  show (if v<0 then (v+(n:Int)).toNat else min v.toNat n)<=n;by_cases hv:v<0
  .rw[Â hv];lia
  .rw[Ã hv];exact Nat.min_le_right _ _
def K4(v:Int)(n d:Nat):(if v<0 then max (v+(n:Int)) 0 else min v (n:Int))=((sIx n d (some v):Nat):Int):=by
 show (if v<0 then max (v+(n:Int)) 0 else min v (n:Int))=(((if v<0 then (v+(n:Int)).toNat else min v.toNat n):Nat):Int)
 grind
def I8(lo hi:Option Int)(n:Nat):Builtin.Slice.sliceAdjust lo hi 1 (n:Int)=(((sIx n 0 lo:Nat):Int),((sIx n n hi:Nat):Int)):=by
 have h1:¬((1:Int)<0):=by decide
 unfold Builtin.Slice.sliceAdjust;simp![h1,if_false];refine Prod.ext ?_ ?_
 .cases lo with
  |none=>rfl
  |some v=>exact K4 v n 0
 .cases hi with
  |none=>rfl
  |some v=>exact K4 v n n
def I9(i j:Nat):Builtin.Slice.slicePlaces (i:Int) (j:Int) 1=j-i:=by
 unfold Builtin.Slice.slicePlaces;have h1:(1:Int)>0:=by decide
 simp![h1,if_true,Int.ediv_one];split<;>lia
def wH{v:Value}{o:Option Int}{Q:Option Int->Shared->Prop}(p:IsPart v o)(h:Q o s):wpAny 'u' A (Builtin.Slice.slicePartIndex v) Q E s:=by
 cases p with
 |none=>exact slicePart_none h
 |int i t=>exact slicePart_int h
def tL{sl:Addr}{vl vu:Value}{lo hi:Option Int}{n:Nat}{Q:Int×Int×Nat->Shared->Prop}(hs:s.heap.IsSliceOf sl vl vu .none)(pl:IsPart vl lo)(pu:IsPart vu hi)(h:Q (((sIx n 0 lo:Nat):Int),1,sIx n n hi-sIx n 0 lo) s):wpAny 'u' A (Builtin.Slice.sliceApplied (.ref sl) (pure (n:Int))) Q E s:=by
 let⟨os,hos,hcs,hds⟩:=id hs;unfold Builtin.Slice.sliceApplied Builtin.Slice.sliceFields;refine wpAny_bind (wpAny_bind (wpAny_field hos hds (x:=vl) rfl (wpAny_bind (wpAny_field hos hds (x:=vu) rfl (wpAny_bind (wpAny_field hos hds (x:=.none) rfl (wpAny_pure ?_)))))));refine wpAny_bind (slicePart_none ?_);show wpAny _ _ (if ((1:Int) == 0)=true then _ else _) _ _ s;rw[Ã ⋯];refine wpAny_bind (wH pl (wpAny_bind (wH pu (wpAny_bind (wpAny_pure ?_)))));show wpAny _ _ (match Builtin.Slice.sliceAdjust lo hi 1 (n:Int)with|(lo,hi)=>pure (lo,(1:Int),Builtin.Slice.slicePlaces lo hi 1)) _ _ s;rw[I8 lo hi n];show wpAny _ _ (pure (((sIx n 0 lo:Nat):Int),(1:Int),Builtin.Slice.slicePlaces ((sIx n 0 lo:Nat):Int) ((sIx n n hi:Nat):Int) 1)) _ _ s;rw[I9];exact wpAny_pure h
def Q9(xs:Array Value)(i k:Nat):((List.range k).filterMap λ(m:Nat)=>xs[((i:Int)+(m:Int)*1).toNat]?).toArray=((xs.toList.drop i).take k).toArray:=by
 have e:(λ(m:Nat)=>xs[((i:Int)+(m:Int)*1).toNat]?)=λm=>xs[i+m]?:=by
  funext m;have:((i:Int)+(m:Int)*1).toNat=i+m:=by lia
  rw[this]
 rw[e];have:=pick_run xs i k;rw[List.filterMap_map]at this;have e2:((λx=>xs[x]?)∘λx=>i+x)=λm=>xs[i+m]?:=rfl;rw[e2]at this;rw[this]
def getItem_tuple_cut{t sl:Addr}{items:Array Value}{vl vu:Value}{lo hi:Option Int}{Q:ZA}(ht:IsTup s.heap t items)(hs:s.heap.IsSliceOf sl vl vu .none)(pl:IsPart vl lo)(pu:IsPart vu hi)(hw:¬(sIx items.size 0 lo=0/\sIx items.size items.size hi=items.size))(h:Q (.ref s.heap.objs.size) {s with heap:=s.heap.push {cls:=.type "tuple",data:=.seq ((items.toList.drop (sIx items.size 0 lo)).take (sIx items.size items.size hi-sIx items.size 0 lo)).toArray}})(hsz:items.size<=sizeLine):wpAny 'u' A (getItem (.ref t) (.ref sl)) Q E s:=by
 have htake:sizeOk (.seq ((items.toList.drop (sIx items.size 0 lo)).take (sIx items.size items.size hi-sIx items.size 0 lo)).toArray):=by
  show ((items.toList.drop (sIx items.size 0 lo)).take (sIx items.size items.size hi-sIx items.size 0 lo)).toArray.size<=sizeLine;rw[ð,ù,Ĕ,Array.length_toList];lia
 have hj:sIx items.size items.size hi<=items.size:=aE1 _ _ (Ç _) hi;let⟨os,hos,hcs,hds⟩:=id hs;have hTs:s.TypeIs (.ref sl) "slice":=⟨os,hos,hcs⟩;unfold getItem
 try with_reducible refine wpAny_holding ?_
 first|refine wpAny_bind (wpAny_pure ?_)|skip
 refine wpAny_bind (wpAny_sequenceKey ht.typeIs ⋯ ?_);refine wpAny_bind (wpAny_callSpecial?_slot (name:=Str.ofString "__getitem__") ht.typeIs PyProof.Rows.slot_tuple_getitem
  (wpAny_call_entry PyProof.Rows.slot_tuple_getitem ht.typeIs entry_tuple_getitem ?_ (args_tuple_getitem _ _)))
 show wpAny _ _ (Builtin.Tuple.tupleItemsOf (.ref t) >>= _) _ _ s;refine wpAny_bind (tupleItemsOf_ ht ?_);refine wpAny_bind (wpAny_typeOf hTs ?_);rw[Â ⋯];refine wpAny_bind (tL hs pl pu ?_);have hno:¬((((sIx items.size 0 lo:Nat):Int) == 0 && (1:Int) == 1 && (sIx items.size items.size hi-sIx items.size 0 lo) == items.size)=true):=by
  intro q;rw[ã,ã]at q;have q1:((sIx items.size 0 lo:Nat):Int)=0:=eq_of_beq q.1.1;have q2:sIx items.size items.size hi-sIx items.size 0 lo=items.size:=eq_of_beq q.2;exact hw ⟨∅,∅⟩
 show wpAny _ _ (if (((sIx items.size 0 lo:Nat):Int) == 0 && (1:Int) == 1 && (sIx items.size items.size hi-sIx items.size 0 lo) == items.size)=true then _ else _) _ _ s;rw[Ã hno,Q9]
 first
  |exact wpAny_bind (m:=Builtin.Tuple.tupleExact _) (wpAny_newObj_type (wpAny_pure ⟨_,rfl,wpAny_pure h⟩) htake)
  |exact wpAny_bind (m:=Builtin.Tuple.tupleExact _) (wpAny_newObj_type (wpAny_bind (wpAny_pure (wpAny_pure ⟨_,rfl,wpAny_pure h⟩))) htake)
  |exact wpAny_bind (wpAny_bind (m:=Builtin.Tuple.tupleExact _) (wpAny_newObj_type (wpAny_pure (wpAny_pure ⟨_,rfl,wpAny_pure h⟩)) htake))
  |exact wpAny_bind (wpAny_bind (m:=Builtin.Tuple.tupleExact _) (wpAny_newObj_type (wpAny_pure ⟨_,rfl,wpAny_pure h⟩) htake))
end
end HT
namespace L2
open PySem PySem.Spec PyProof.Rows
abbrev TO:=St->Hp->(Option Int->Hp->Prop)->Prop
def PO(X:Cx)(e:Option Expr)(t:TO):Prop:=
 ∀(U:ZB)(s:Shared)(σ:St)(H:Hp)(Q:Option Int->Hp->Prop),Inv X U σ H s->t σ H Q ->
  wpAny 'b' X.A (evalPart e X.env) (λu s'=>∃o H',Inv X U σ H' s'/\IsPart u o/\Q o H') X.xe s
def YK:TO:=λ_ H Q=>Q none H
def aJB(t:TE):TO:=λσ H Q=>t σ H λx H1=>∃i,x=.int i/\Q (some i) H1
section
variable {X:Cx}{e:Expr}{te:TE}{lo hi:Option Expr}{tl th:TO}{pos p2:Pos}
def YL:PO X none YK:=by
 intro U s σ H Q I h;rw[evalPart_none];exact wpAny_pure ⟨none,H,I,.none,h⟩
def YM(h:PE X e te):PO X (some e) (aJB te):=by
 intro U s σ H Q I hw;rw[evalPart_some];refine cM (h U s σ H _ I hw) λu s1 zQ=>?_;let⟨x,H1,I1,r1,q1⟩:=zQ;let⟨i,rfl,q⟩:=q1;let⟨t,rfl⟩:=r1;exact⟨some i,H1,I1,.int i t,q⟩
def Ŀ(X:Cx)(r:V->Option Int->Option Int->Hp->VK->Prop):Prop:=
 ∀(U:ZB)(s:Shared)(σ:St)(H:Hp)(x:V)(v vl vu:Value)(lo hi:Option Int)(sl:Addr)(Q:VK),Inv X U σ H s->bH x v->s.heap.IsSliceOf sl vl vu .none->IsPart vl lo->IsPart vu hi->r x lo hi H Q ->
  ∃T id,typeLookup (.type T) "__getitem__"=pure (some (.builtin id))/\s.TypeIs v T/\wpAny 'b' X.A (getItem v (.ref sl)) (EP X U σ Q) X.xe s
def aPA(r:V->Option Int->Option Int->Hp->VK->Prop)(te:TE)(tl th:TO):TE:=λσ H Q=>te σ H λx H1=>tl σ H1 λl H2=>th σ H2 λu H3=>r x l u H3 Q
def E4(hr:Ŀ X r)(he:PE X e te)(hl:PO X lo tl)(hu:PO X hi th):PE X (.Subscript e (.Slice lo hi none p2) pos) (aPA r te tl th):=by
 intro U s σ H Q I h;refine Subscript_ (cM (he U s σ H _ I h) λv s1 zQ=>?_);let⟨x,H1,I1,r1,q1⟩:=zQ;refine wpAny_Slice (cM (hl U s1 σ H1 _ I1 q1) λvl s2⟨l,H2,I2,pl,q2⟩=>cM (hu U s2 σ H2 _ I2 q2) λvu s3 zQ=>?_);let⟨u,H3,I3,pu,q3⟩:=zQ;rw[evalPart_none];refine wpAny_pure ?_;have I4:Inv X U σ H3 {s3 with heap:=s3.heap.push {cls:=.type "slice",data:=.fields #[vl,vu,.none]}}:=I3.kept (t':=s3.toks) λb ob q=>Heap.get?_push_of_some _ q;let⟨T,id,hT,ht,hg⟩:=hr U {s3 with heap:=s3.heap.push {cls:=.type "slice",data:=.fields #[vl,vu,.none]}} σ H3 x v vl vu l u s3.heap.objs.size Q I4 r1 (Heap.IsSliceOf.new ..) pl pu q3;show wpAny 'b' X.A (subscriptTail e (.Slice lo hi none p2) v (.ref s3.heap.objs.size)) (EP X U σ Q) X.xe {s3 with heap:=s3.heap.push {cls:=.type "slice",data:=.fields #[vl,vu,.none]}};exact tail_any (ops:=[.ref s3.heap.objs.size,v]) ht hT hg (by with_unfolding_all rfl)
def BY(xs:List V)(lo hi:Option Int):(List V):=(xs.drop (HT.sIx xs.length 0 lo)).take (HT.sIx xs.length xs.length hi-HT.sIx xs.length 0 lo)
def uS(xs:List V)(lo hi:Option Int):(BY xs lo hi).length<=xs.length:=by
 unfold BY;rw[ù,Ĕ];lia
def Λ(K:ZC):V->Option Int->Option Int->Hp->VK->Prop:=λx lo hi H Q=>∃a xs,x=.ref a/\rB K H a xs /\
 ¬(HT.sIx xs.length 0 lo=0/\HT.sIx xs.length xs.length hi=xs.length)/\∀p,H p=none->Q (.ref p) (bA H p (.tup (BY xs lo hi)))
def JA:Ŀ X (Λ X.K):=by
 intro U s σ H x v vl vu lo hi sl Q I rx hs pl pu h;let⟨a,xs,rfl,hx,hw,q⟩:=h;cases rx;let⟨its,r,ht,hz⟩:=I.tuple hx;have hlen:its.toArray.size=xs.length:=by rw[ð];exact r.length.symm
 refine⟨"tuple",_,PyProof.Rows.slot_tuple_getitem.lookup,ht.typeIs,?_⟩;refine HT.getItem_tuple_cut ht hs pl pu (by rw[hlen];exact hw) ?_ (by rw[hlen];exact hz);rw[hlen];refine⟨.ref s.heap.objs.size,_,I.laid (t':=s.toks) (o:=.tup (BY xs lo hi)) (λb ob q=>Heap.get?_push_of_some _ q) (Ç _) ?_,rfl,q _ (I.hok.fresh (Ç _))⟩;exact⟨Ø (uS xs lo hi) hz,_,(r.drop (HT.sIx xs.length 0 lo)).take (HT.sIx xs.length xs.length hi-HT.sIx xs.length 0 lo),IsTup.new _ _⟩
def Μ(K:ZC):R2:=λx y H Q=>∃a b xs ys,x=.ref a/\y=.ref b/\rB K H a xs/\rB K H b ys/\xs≠[]/\xs.length+ys.length<=sizeLine /\
 (ys=[]->Q (.ref a) H)/\(ys≠[]->∀p,H p=none->Q (.ref p) (bA H p (.tup (xs++ys))))
def bI.nil_iff(r:bI xs us):us=[]↔xs=[]:=by
 cases r with
 |nil=>simp
 |cons _ _=>simp
def YN:jS X (binaryOp .Add) (Μ X.K):=by
 sleep 6;let⟨a,b,xs,ys,rfl,rfl,ha,hb,hx,hz,q1,q2⟩:=h;cases rx;cases ry;let⟨its,r1,p1,_⟩:=I.tuple ha;let⟨its2,r2,p2,_⟩:=I.tuple hb;refine HT.cat_tup p1 p2 (λz=>hx (r1.nil_iff.mp z)) (λz=>⟨.ref a,H,I,rfl,q1 (r2.nil_iff.mp z)⟩) (λz=>?_) (by rw[<- r1.length,<- r2.length];exact hz);refine⟨.ref s.heap.objs.size,_,I.laid (t':=s.toks) (o:=.tup (xs++ys)) (λb ob q=>Heap.get?_push_of_some _ q) (Ç _) ?_,rfl,q2 (λw=>z (r2.nil_iff.mpr w)) _ (I.hok.fresh (Ç _))⟩;exact⟨by rw[Ì];exact hz,_,r1.append r2,IsTup.new _ _⟩
end
def lK(n:Nat)(i:Int):(Option Nat):=if 0<=i then (if i<n then some i.toNat else none)else if -(n:Int)<=i then some (i+n).toNat else none
def atI{α:Type}(xs:List α)(i:Int):(Option α):=(lK xs.length i).bind λj=>xs[j]?
def K5(h:lK n i=some j):seqIndex? i n=some j/\j<n/\-(n:Int)<=i/\i<n:=by
 unfold lK at h;by_cases h0:0<=i
 .rw[Â h0]at h
  by_cases h1:i<n
  .rw[Â h1]at h
   have e:i.toNat=j:=Option.some.inj h;exact⟨by rw[seqIndex_of h0 h1,e],∅,∅,h1⟩
  grind
 .rw[Ã h0]at h
  by_cases h1:-(n:Int)<=i
  .rw[Â h1]at h
   have e:(i+n).toNat=j:=Option.some.inj h;exact⟨by rw[seqIndex_neg (by exact Int.not_le.mp ‹_›) h1,e],∅,h1,∅⟩
  grind
def BZ{v:α}(h:atI xs i=some v):∃j,seqIndex? i xs.length=some j/\xs[j]?=some v/\j<xs.length/\-(xs.length:Int)<=i/\i<xs.length:=by
 unfold atI at h;cases e:lK xs.length i with
 |none=>rw[e]at h;cases h
 |some j=>
  rw[e]at h;let⟨h1,h2,h3,h4⟩:=K5 e;exact⟨j,h1,h,h2,h3,h4⟩
def eJ{j:Nat}{v:α}(h:xs[j]?=some v):atI xs (j:Int)=some v:=by
 have hj:j<xs.length:=(Ð.mp h).1;have e:lK xs.length (j:Int)=some j:=by
  unfold lK;rw[Â ∅,Â ∅];simp
 unfold atI;rw[e];exact h
def lM(b:Expr):Prop:=∀o i,subscripted b false o i=operate [o,i] (getItem o i)
def YO(X:Cx)(r:R2):Prop:=
 ∀(value slice:Expr)(U:ZB)(s:Shared)(σ:St)(H:Hp)(x y:V)(v u:Value)(Q:VK),Inv X U σ H s->bH x v->bH y u->r x y H Q ->
  subscripted slice false v u=operate [v,u] (getItem v u)->wpAny 'b' X.A (subscriptTail value slice v u) (EP X U σ Q) X.xe s
def ģ(X:Cx)(id:String)(r:V->List V->Hp->VK->Prop):Prop:=
 ∀(U:ZB)(s:Shared)(σ:St)(H:Hp)(x:V)(xs:List V)(v:Value)(us:ZJ)(Q:VK),Inv X U σ H s->bH x v->bI xs us->r x xs H Q ->
  wpAny 'b' X.A (call (.builtin id) (v::us)) (EP X U σ Q) X.xe s
section
variable {X:Cx}
def YO.or(h:YO X r)(h':YO X r'):YO X (λx y H Q=>r x y H Q\/r' x y H Q):=by
 intro value slice U s σ H x y v u Q I rx ry q hs;rcases q with q|q
 .exact h value slice U s σ H x y v u Q I rx ry q hs
 .exact h' value slice U s σ H x y v u Q I rx ry q hs
def AQ(hr:YO X r)(ha:PE X a ta)(hb:PE X b tb)(hs:lM b):PE X (.Subscript a b pos) (į r ta tb):=by
 intro U s σ H Q I h;exact Subscript_ (ŝ ha hb I h λv u s2 x y H2 I2 rx ry q=>hr a b U s2 σ H2 x y v u Q I2 rx ry q (hs _ _))
def YQ(K:ZC):R2:=λx y H Q=>∃p xs i v,x=.ref p/\y=.int i/\eE K H p xs/\atI xs i=some v/\Q v H
def Ν(K:ZC):R2:=λx y H Q=>∃p xs i v,x=.ref p/\y=.int i/\rB K H p xs/\atI xs i=some v/\Q v H
def Ξ:R2:=λx y H Q=>∃z i c,x=.str z/\y=.int i/\z.length<=sizeLine/\atI z.cps.toList i=some c/\Q (.str ⟨#[c]⟩) H
def n5:YO X (YQ X.K):=by
 intro value slice U s σ H x y v u Q I rx ry h hs;let⟨p,xs,i,z,rfl,rfl,hq,he,q⟩:=h;cases rx;let⟨t,rfl⟩:=ry;let⟨its,r,pl,hz⟩:=I.list hq;let⟨j,h1,h2,h3,h4,h5⟩:=BZ he;let⟨w,ew,rw'⟩:=r.get h2;have hl:=r.length;have hn:=p6;have fin:EP X U σ Q w s:=⟨z,H,I,rw',q⟩;by_cases h0:0<=i
 .have hj:i.toNat=j:=by
   rw[seqIndex_of h0 h5]at h1;exact Option.some.inj h1
  exact item_listR pl.isList h0 ∅ (by rw[hj];simpa using ew) fin hs
 .have hj:(i+(its.toArray.size:Int)).toNat=j:=by
   rw[seqIndex_neg (by exact Int.not_le.mp ‹_›) h4]at h1;rw[ð,<- hl];exact Option.some.inj h1
  exact subscriptTail_builtinR (x:=w) pl.isList.typeIs slot_list_getitem.lookup
   (wpAny_getItem_list_neg (Q:=λr s'=>r=w/\EP X U σ Q r s') pl.isList (by exact Int.not_le.mp ‹_›) 'k' ∅ (by rw[hj];simpa using ew) ⟨rfl,fin⟩) hs
def aE2:YO X (Ν X.K):=by
 intro value slice U s σ H x y v u Q I rx ry h hs;let⟨p,xs,i,z,rfl,rfl,hq,he,q⟩:=h;cases rx;let⟨t,rfl⟩:=ry;let⟨its,r,pl,hz⟩:=I.tuple hq;let⟨j,h1,h2,h3,h4,h5⟩:=BZ he;let⟨w,ew,rw'⟩:=r.get h2;have hl:=r.length;have hn:=p6;have fin:EP X U σ Q w s:=⟨z,H,I,rw',q⟩;exact subscriptTail_builtinR (x:=w) pl.typeIs slot_tuple_getitem.lookup
  (getItem_tuple (j:=j) (Q:=λr s'=>r=w/\EP X U σ Q r s') pl ∅ ∅ 'k' (by simpa using ew) ⟨rfl,fin⟩) hs
def aE3:YO X Ξ:=by
 intro value slice U s σ H x y v u Q I rx ry h hs;let⟨z,i,c,rfl,rfl,hz,he,q⟩:=h;let⟨t,rfl⟩:=rx;let⟨t',rfl⟩:=ry;let⟨j,h1,h2,h3,h4,h5⟩:=BZ he;have hl:z.cps.toList.length=z.length:=by simp[Str.length]
 rw[hl]at h1 h4 h5;have hn:=p6;exact tail_any (typeIs_str s z t) slot_str_getitem.lookup (getItem_str (c:=c) (by
  grind) (by rw[h1];simpa using h2) ⟨.str ⟨#[c]⟩,H,I.tok _,⟨_,rfl⟩,q⟩) hs
def Ο(K:ZC):R2:=λx y H Q=>YQ K x y H Q\/Ν K x y H Q\/Ξ x y H Q
def aE4:YO X (Ο X.K):=n5.or (aE2.or aE3)
def JB(its:ZJ)(n j:Nat)(u:Value):Obj.mapSeq (·.setIfInBounds j u) {cls:=.type "list",data:=.seq its.toArray n}={cls:=.type "list",data:=.seq (its.set j u).toArray n}:=by
 simp[Obj.mapSeq]
def Inv.lst(I:Inv X U σ H s)(h:H p=some (.lst xs)):
  ∃(its:ZJ)(n:Nat),bI xs its/\s.heap.get? p=some {cls:=.type "list",data:=.seq its.toArray n}/\xs.length<=sizeLine:=by
 let⟨z,its,n,r,e⟩:=I.hok p _ h;exact⟨its,n,r,e,z⟩
def Inv.lstUpd{U:ZB}{σ:St}{H:Hp}{s:Shared}{p:Addr}{xs ys:List V}{its its':ZJ}{n n':Nat}{f:Obj->Obj}(I:Inv X U σ H s)(h:H p=some (.lst xs))(ho:s.heap.get? p=some {cls:=.type "list",data:=.seq its.toArray n})(hf:f {cls:=.type "list",data:=.seq its.toArray n}={cls:=.type "list",data:=.seq its'.toArray n'})(r:bI ys its')(hz:ys.length<=sizeLine)(t:Nat):
  Inv X U σ (bA H p (.lst ys)) {s with heap:=s.heap.update p f,toks:=t}:=by
 have e:(s.heap.update p f).get? p=some {cls:=.type "list",data:=.seq its'.toArray n'}:=by
  rw[Heap.get?_update_self f ho (by rw[hf]<;>rfl),hf]
 refine I.write (x:=p) (e:=p) (by rw[h];trivial) (.inl rfl) (λb u hb q=>(Heap.get?_update_other _ _ (Ñ hb)).trans q) ⟨_,e⟩ ?_;exact⟨hz,its',n',r,e⟩
def aJF:V->V->V->Hp->(Hp->Prop)->Prop:=λo i v H Q=>∃p xs k j,o=.ref p/\i=.int k/\H p=some (.lst xs)/\lK xs.length k=some j/\Q (bA H p (.lst (xs.set j v)))
def E5:Η X aJF:=by
 intro U s σ H o i v ov iv u Q I ro ri rv h;let⟨p,xs,k,j,rfl,rfl,hp,hj,q⟩:=h;cases ro;let⟨t,rfl⟩:=ri;let⟨its,n,r,ho,hz⟩:=I.lst hp;let⟨h1,h2,h3,h4⟩:=K5 hj;have hl:=r.length;have hn:=p6;have I':Inv X U σ (bA H p (.lst (xs.set j v))) {s with heap:=s.heap.update p (Obj.mapSeq (·.setIfInBounds j u))}:=
  I.lstUpd hp ho (JB its n j u) (r.set rv j) (by rw[Ú];exact hz) s.toks
 by_cases h0:0<=k
 .have hk:k.toNat=j:=by
   rw[seqIndex_of h0 h4]at h1;exact Option.some.inj h1
  exact W.ki_setAt ho h0 ∅ (by rw[ð,<- hl];exact h4) (by rw[hk];exact⟨_,I',q⟩)
 .have hk:(k+(its.toArray.size:Int)).toNat=j:=by
   rw[seqIndex_neg (by exact Int.not_le.mp ‹_›) h3]at h1;rw[ð,<- hl];exact Option.some.inj h1
  exact W.ki_setBack ho (by exact Int.not_le.mp ‹_›) (by rw[ð,<- hl];exact h3) ∅ (by rw[hk];exact⟨_,I',q⟩)
def B0(lo hi:Option Int)(n:Nat):(sliceBounds lo hi none n).1=((HT.sIx n 0 lo:Nat):Int)/\(sliceBounds lo hi none n).2.1=((HT.sIx n n hi:Nat):Int)/\(sliceBounds lo hi none n).2.2=1:=by
 refine⟨?_,?_,rfl⟩
 .cases lo with
  |none=>simp[sliceBounds,HT.sIx]
  |some i=>
   simp![sliceBounds,HT.sIx,Option.getD_none,show (1:Int)>0 by decide,if_true]
   grind
 .cases hi with
  |none=>simp[sliceBounds,HT.sIx]
  |some i=>
   simp![sliceBounds,HT.sIx,Option.getD_none,show (1:Int)>0 by decide,if_true]
   grind
def zP(its:ZJ)(lo hi:Option Int):slicePick its.toArray lo hi none=((its.drop (HT.sIx its.length 0 lo)).take (HT.sIx its.length its.length hi-HT.sIx its.length 0 lo)).toArray:=by
 let⟨h1,h2,h3⟩:=B0 lo hi its.toArray.size;unfold slicePick;rw[h1,h2,h3];simp![sliceRange_one,pick_run,ð]<;>rfl
def Ρ(K:ZC):V->Option Int->Option Int->Hp->VK->Prop:=λx lo hi H Q=>∃a xs,x=.ref a/\eE K H a xs/\∀p,H p=none->Q (.ref p) (bA H p (.lst (BY xs lo hi)))
def rF:Ŀ X (Ρ X.K):=by
 intro U s σ H x v vl vu lo hi sl Q I rx hs pl pu h;let⟨a,xs,rfl,hx,q⟩:=h;cases rx;let⟨its,r,ht,hz⟩:=I.list hx;have hlen:=r.length;refine⟨"list",_,slot_list_getitem.lookup,ht.isList.typeIs,?_⟩;refine wpAny_getItem_list_slice ht.isList hs pl pu .none 'e' ?_ 'k';rw[zP,<- hlen];refine⟨.ref s.heap.objs.size,_,I.laid (t':=s.toks) (o:=.lst (BY xs lo hi)) (λb ob q=>Heap.get?_push_of_some _ q) (Ç _) ?_,rfl,q _ (I.hok.fresh (Ç _))⟩;exact⟨Ø (uS xs lo hi) hz,_,0,(r.drop (HT.sIx xs.length 0 lo)).take (HT.sIx xs.length xs.length hi-HT.sIx xs.length 0 lo),Heap.get?_push_size _ rfl⟩
def pF:V->Bool
 |.non=>true
 |.bl _=>true
 |.int _=>true
 |.str _=>true
 |_=>false
def Ė:V->V->Bool
 |.non,.non=>true
 |.bl a,.bl b=>a == b
 |.bl a,.int b=>(if a then 1 else 0) == b
 |.int a,.bl b=>a == (if b then 1 else 0)
 |.int a,.int b=>a == b
 |.str a,.str b=>a == b
 |_,_=>false
def aE5(ry:bH y u)(rx:bH x v)(fy:pF y=true)(fx:pF x=true):SeqAt.EqAt A s u v (Ė y x):=by
 cases y with
 |non=>
  cases ry;cases x with
  |non=>cases rx;exact SeqAt.EqAt.same _
  |bl b=>cases rx;exact SeqAt.EqAt.none_bool b
  |int b=>let⟨t,rfl⟩:=rx;exact SeqAt.EqAt.none_int b t
  |str b=>let⟨t,rfl⟩:=rx;exact SeqAt.EqAt.none_str b t
  |_=>exact absurd (show false=true from fx) Ü
 |bl a=>
  cases ry;cases x with
  |non=>cases rx;exact SeqAt.EqAt.bool_none a
  |bl b=>cases rx;exact SeqAt.EqAt.bool_bool a b
  |int b=>let⟨t,rfl⟩:=rx;exact SeqAt.EqAt.bool_int a b t
  |str b=>let⟨t,rfl⟩:=rx;exact SeqAt.EqAt.bool_str a b t
  |_=>exact absurd (show false=true from fx) Ü
 |int a=>
  let⟨t',rfl⟩:=ry;cases x with
  |non=>cases rx;exact SeqAt.EqAt.int_none a t'
  |bl b=>cases rx;exact SeqAt.EqAt.int_bool a t' b
  |int b=>let⟨t,rfl⟩:=rx;exact SeqAt.EqAt.int_int a t' b t
  |str b=>let⟨t,rfl⟩:=rx;exact SeqAt.EqAt.int_str a t' b t
  |_=>exact absurd (show false=true from fx) Ü
 |str a=>
  let⟨t',rfl⟩:=ry;cases x with
  |non=>cases rx;exact SeqAt.EqAt.str_none a t'
  |bl b=>cases rx;exact SeqAt.EqAt.str_bool a t' b
  |int b=>let⟨t,rfl⟩:=rx;exact SeqAt.EqAt.str_int a t' b t
  |str b=>let⟨t,rfl⟩:=rx;exact SeqAt.EqAt.str_str a t' b t
  |_=>exact absurd (show false=true from fx) Ü
 |_=>exact absurd (show false=true from fy) Ü
def YR(x:V)(u:Value):Bool:=match u with
 |.none=>Ė .non x
 |.bool b=>Ė (.bl b) x
 |.int i _=>Ė (.int i) x
 |.str z _=>Ė (.str z) x
 |_=>false
def RA(r:bH y u)(f:pF y=true):YR x u=Ė y x:=by
 cases y with
 |non=>cases r;rfl
 |bl b=>cases r;rfl
 |int i=>let⟨t,rfl⟩:=r;rfl
 |str z=>let⟨t,rfl⟩:=r;rfl
 |_=>exact absurd (show false=true from f) Ü
def B1 :∀{xs:List V}{us:ZJ},bI xs us->xs.all pF=true->us.any (YR x)=xs.any λy=>Ė y x
 |_,_,.nil,_=>rfl
 |y::xs,u::us,.cons r t,f=>by
  rw[List.all_cons,ã]at f;rw[List.any_cons,List.any_cons,RA r f.1,B1 t f.2]
def wI(rx:bH x v)(fx:pF x=true):∀{xs:List V}{us:ZJ},bI xs us->xs.all pF=true->∀u∈us,SeqAt.EqAt A s u v (YR x u)
 |_,_,.nil,_=>λu hu=>by cases hu
 |y::xs,u::us,.cons r t,f=>λu' hu=>by
  rw[List.all_cons,ã]at f;rcases Ë.mp hu with rfl|hu
  .rw[RA r f.1];exact aE5 r rx f.1 fx
  .exact wI rx fx t f.2 u' hu
def Ĥ(x:V)(xs:List V):Bool:=xs.any λy=>Ė y x
def Τ(K:ZC)(neg:Bool):R2:=λx y H Q=>∃p xs,y=.ref p/\(eE K H p xs\/rB K H p xs)/\pF x=true/\xs.all pF=true/\Q (.bl (if neg then !Ĥ x xs else Ĥ x xs)) H
def B2:jS X (compareOp .NotIn) (Τ X.K true):=by
 sleep 6;let⟨p,xs,rfl,hq,fx,fs,q⟩:=h;cases ry;rcases hq with hq|hq
 .obtain⟨its,r,pl,hz⟩:=I.list hq
  refine SeqAt.notIn_listAt (YR x) pl.isList (λw hw=>wI rx fx r fs w (by simpa using hw)) ⟨.bl _,H,I,rfl,?_⟩;rw[show its.toArray.any (YR x)=its.any (YR x) by simp,B1 r fs];exact q
 .obtain⟨its,r,pl,hz⟩:=I.tuple hq
  refine SeqAt.notIn_tupleAt (YR x) pl (λw hw=>wI rx fx r fs w (by simpa using hw)) ⟨.bl _,H,I,rfl,?_⟩;rw[show its.toArray.any (YR x)=its.any (YR x) by simp,B1 r fs];exact q
def rG:g7 X (.builtin "len") (λxs H Q=>∃p ys,xs=[.ref p]/\(eE X.K H p ys\/rB X.K H p ys)/\Q (.int ys.length) H):=by
 intro U s σ H xs us Q I r h;let⟨p,ys,rfl,hq,q⟩:=h;let⟨u,rfl,rx⟩:=mO r;cases rx;have hn:=p6;rcases hq with hq|hq
 .obtain⟨its,r',pl,hz⟩:=I.list hq
  have hlen:=r'.length;exact Calls.call_len_list pl.isList 'k' ⟨.int ys.length,H,I.tok _,⟨s.toks+1,by grind⟩,q⟩
 .obtain⟨its,r',pl,hz⟩:=I.tuple hq
  have hlen:=r'.length;exact len_tuple pl 'k' ⟨.int ys.length,H,I.tok _,⟨s.toks+1,by grind⟩,q⟩
def B3:g7 X (.builtin "len") (λxs H Q=>∃z,xs=[.str z]/\z.length<=sizeLine/\Q (.int z.length) H):=by
 intro U s σ H xs us Q I r h;let⟨z,rfl,hz,q⟩:=h;let⟨u,rfl,t,rfl⟩:=mO r;have hn:=p6;exact len_str ∅ ⟨.int z.length,H,I.tok _,⟨_,rfl⟩,q⟩
def g7.or(h:g7 X f r)(h':g7 X f r'):g7 X f (λxs H Q=>r xs H Q\/r' xs H Q):=by
 intro U s σ H xs us Q I rs q;rcases q with q|q
 .exact h U s σ H xs us Q I rs q
 .exact h' U s σ H xs us Q I rs q
def fR:g7 X (.type "list") (λxs H Q=>∃p ys,xs=[.ref p]/\(eE X.K H p ys\/rB X.K H p ys)/\∀l,H l=none->Q (.ref l) (bA H l (.lst ys))):=by
 intro U s σ H xs us Q I r h;let⟨p,ys,rfl,hq,q⟩:=h;let⟨u,rfl,rx⟩:=mO r;cases rx;have fin:∀(its:ZJ),bI ys its->ys.length<=sizeLine->∀(h':Heap)(c':Nat),(∀b o',s.heap.get? b=some o'->h'.get? b=some o') ->
   h'.get? s.heap.objs.size=some {cls:=.type "list",dict:=none,data:=.seq its.toArray c',slots:=#[]}->EP X U σ Q (.ref s.heap.objs.size) {s with heap:=h'}:=λits r' hz h' c' kp e=>
  ⟨.ref s.heap.objs.size,_,I.laid (t':=s.toks) kp (Ç _) (show dO X.prog X.w _ h' _ (.lst ys)from⟨hz,its,c',r',e⟩),rfl,q _ (I.hok.fresh (Ç _))⟩
 rcases hq with hq|hq
 .obtain⟨its,r',pl,hz⟩:=I.list hq
  have hlen:=r'.length;let⟨o,ho,hc,n,hd⟩:=pl.isList;exact call_list_seq p (.inl rfl) ho hc hd (λh' c' kp e=>fin its r' hz h' c' kp e) 'k'
 .obtain⟨its,r',pl,hz⟩:=I.tuple hq
  have hlen:=r'.length;let⟨o,ho,hc,n,hd⟩:=pl;exact call_list_seq p (.inr rfl) ho hc hd (λh' c' kp e=>fin its r' hz h' c' kp e) 'k'
def İ(K:ZC)(T:String)(x:V)(H:Hp):Prop:=match x with
 |.str _=>T="str"
 |.int _=>T="int"
 |.ref p=>(T="list"/\∃xs,eE K H p xs)\/(T="tuple"/\∃o,K.lookup p=some o/\o.cls=.type "tuple"/\o.dict=none) \/
   (T="dict"/\((∃À,H p=some (.dK À))\/∃À,H p=some (.dT À)))\/(T="set"/\∃S n,H p=some (.set S n))
 |_=>False
theorem RB(I:Inv X U σ H s)(r:bH x v)(ty:İ X.K T x H):
  s.TypeIs v T/\∀a,v=.ref a->∃ob,s.heap.get? a=some ob/\ob.dict=none:=by
 cases x with
 |str z=>
  let⟨t,rfl⟩:=r;cases (show T="str"from ty);exact⟨typeIs_str s z t,λ_ e=>nomatch e⟩
 |int i=>
  let⟨t,rfl⟩:=r;cases (show T="int"from ty);exact⟨typeIs_int s i t,λ_ e=>nomatch e⟩
 |ref p=>
  cases r;rcases ty with ⟨rfl,xs,hq⟩|⟨rfl,o,hk,hc,hd⟩|⟨rfl,hk⟩|⟨rfl,S,n,hk⟩
  .obtain⟨its,_,pl,_⟩:=I.list hq
   refine⟨pl.isList.typeIs,λa e=>?_⟩;cases e;let⟨o,n,e,c,hd,_⟩:=pl;exact⟨o,e,hd⟩
  .refine⟨⟨o,I.kIn p o hk,hc⟩,λa e=>?_⟩
   cases e;exact⟨o,I.kIn _ o hk,hd⟩
  .have z:∃o,s.heap.get? p=some o/\o.ExactDict:=by
    rcases hk with ⟨À,hk⟩|⟨À,hk⟩
    .obtain⟨_,_,_,_,o,_,_,e,ex,_⟩:=I.hok p _ hk
     exact⟨o,e,ex⟩
    .obtain⟨_,_,_,_,o,_,_,e,ex,_⟩:=I.hok p _ hk
     exact⟨o,e,ex⟩
   let⟨o,e,ex⟩:=z;refine⟨⟨o,e,ex.1⟩,λa e2=>?_⟩;cases e2;exact⟨o,e,ex.2.1⟩
  .obtain⟨o,_,_,_,e,ex,_⟩:=I.hok p _ hk
   refine⟨⟨o,e,ex.1⟩,λa e2=>?_⟩;cases e2;exact⟨o,e,ex.2.1⟩
 |_=>exact False.elim ty
def aM5(K:ZC)(T:String)(r:V->List V->Hp->VK->Prop)(to:TE):TE:=λσ H Q=>to σ H λx H1=>İ K T x H1/\r x [] H1 Q
def Υ(K:ZC)(T:String)(r:V->List V->Hp->VK->Prop)(to:TE)(t:TA):TE:=λσ H Q=>to σ H λx H1=>İ K T x H1/\t σ H1 λxs H2=>r x xs H2 Q
variable {o e:Expr}{es:List Expr}{to:TE}{t:TA}{name:Str}{apos cpos:Pos}{T id:String}{r:V->List V->Hp->VK->Prop}
def aE6(pa:PlainAttrs T)(slot:Slot T name id)(hty:typeOf (.builtin id)=pure (.type "method_descriptor"))(hm:ģ X id r)(ho:PE X o to)(hbase:↥(attributeBase o name X.env (eval o X.env)=eval o X.env))(hline:↥((apos.endLine == cpos.line)=true)):PE X (.Call (.Attribute o name apos) [] [] cpos) (aM5 X.K T r to):=by
 intro U s σ H Q I h;refine wpAny_Call_method0_late hbase hline (cM (ho U s σ H _ I h) λv s1 zQ=>?_);let⟨x,H1,I1,r1,ty,q1⟩:=zQ;let⟨h1,h2⟩:=RB I1 r1 ty;exact⟨T,id,pa,slot,hty,h1,h2,Calls.callWith_builtin rfl (PySem.evalArgs_none (hm U s1 σ H1 x [] v [] Q I1 r1 .nil q1))⟩
def RC(pa:PlainAttrs T)(slot:Slot T name id)(hty:typeOf (.builtin id)=pure (.type "method_descriptor"))(hm:ģ X id r)(ho:PE X o to)(ha:PA X (e::es) t)(hbase:↥(attributeBase o name X.env (eval o X.env)=eval o X.env))(hfew:↥(((backTo cpos (starEach (e::es) X.env)).all (λx=>!x.1) && (backToKw cpos (keywordEach [] X.env)).all (λx=>x.1.isSome)
   && decide ((e::es).length+([]:List Keyword).length+(if ([]:List Keyword).isEmpty then 0 else 1)<30))=true))(hline:↥((apos.endLine == cpos.line)=true))(hs:↥(Zse e es X.env))(hplain:↥(Zbt cpos es X.env)):
  PE X (.Call (.Attribute o name apos) (e::es) [] cpos) (Υ X.K T r to t):=by
 intro U s σ H Q I h;refine wpAny_Call_method_late hbase hfew hline rfl (cM (ho U s σ H _ I h) λv s1 zQ=>?_);let⟨x,H1,I1,r1,ty,q1⟩:=zQ;let⟨h1,h2⟩:=RB I1 r1 ty;refine⟨T,id,pa,slot,hty,h1,h2,?_⟩;have hA:=ha cpos U s1 σ H1 _ I1 q1;rw[hs]at hA⊢;refine Calls.callWith_builtin (by show (false || (backTo cpos (starEach es X.env)).any (·.1))=false;rw[hplain]<;>rfl) (Calls.evalArgs_plain ?_)
 exact cM hA λus s2 zQ=>by let⟨vs,H2,I2,r2,q2⟩:=zQ;exact hm U s2 σ H2 x vs v us Q I2 r1 r2 q2
end
def Š(X:Cx)(id:String)(r:V->List V->Hp->VK->Prop):Prop:=
 ∀(U:ZB)(s:Shared)(σ:St)(H:Hp)(x:V)(xs:List V)(v:Value)(us:ZJ)(Q:VK),Inv X U σ H s->bH x v->bI xs us->r x xs H Q ->
  wpAny 'b' X.A (call (.builtin id) (v::us)) (EP X U σ Q) X.xe s
def bI.one:∀{x:V}{us:ZJ},bI [x] us->∃u,us=[u]/\bH x u:=λh=>mO h
def bI.zero:∀{us:ZJ},bI [] us->us=[]
 |_,.nil=>rfl
def bI.dropLast(h:bI xs us):bI xs.dropLast us.dropLast:=by
 induction h with
 |nil=>exact .nil
 |cons r t ih=>
  cases t with
  |nil=>exact .nil
  |cons q t'=>exact .cons r ih
def JC{α:Type}(l:List α):l.eraseIdx (l.length-1)=l.dropLast:=by
 grind
section
variable {X:Cx}{U:ZB}{σ:St}{H:Hp}{s:Shared}{l:Addr}{xs ys:List V}
def Inv.lset{its its':ZJ}{n:Nat}{f:Array Value->Array Value}{t':Nat}(I:Inv X U σ H s)(hH:H l=some (.lst xs))(e:s.heap.get? l=some {cls:=.type "list",data:=.seq its.toArray n})(hf:f its.toArray=its'.toArray)(hv:bI ys its')(hz:ys.length<=sizeLine):
  Inv X U σ (bA H l (.lst ys)) {s with heap:=s.heap.update l (Obj.mapSeq f),toks:=t'}:=by
 have q:=PySem.IsL.update e f;rw[hf]at q;refine I.write (x:=l) (e:=l) (by rw[hH];exact trivial) (.inl rfl) (λb' u hb hu=>(Heap.get?_update_other s.heap (Obj.mapSeq f) (Ñ hb)).trans hu) ⟨_,q⟩ ?_;exact⟨hz,its',_,hv,q⟩
def Inv.lnew(I:Inv X U σ H s)(hv:bI ys its)(hz:ys.length<=sizeLine):
  Inv X U σ (bA H s.heap.objs.size (.lst ys)) {s with heap:=s.heap.push {cls:=.type "list",data:=.seq its.toArray},toks:=t'}:=
 I.laid (λ_ _ q=>Heap.get?_push_of_some _ q) (Ç _) ⟨hz,its,0,hv,Heap.get?_push_size _ rfl⟩
def Inv.fresh(I:Inv X U σ H s):H s.heap.objs.size=none:=I.hok.fresh (Ç _)
def Inv.lstM(I:Inv X U σ H s)(hH:H l=some (.lst xs)):xs.length<=sizeLine/\∃(its:ZJ)(n:Nat),bI xs its/\xs.length=its.length/\s.heap.get? l=some {cls:=.type "list",data:=.seq its.toArray n}:=by
 let⟨z,its,n,r,e⟩:=I.hok l _ hH;exact⟨z,its,n,r,r.length,e⟩
def RD(h:n<=sizeLine):Builtin.List.listTooLong n=false:=by
 unfold Builtin.List.listTooLong
 grind
end
section
def K6:V->List V->Hp->VK->Prop:=λx vs H Q=>∃l xs y,x=.ref l/\vs=[y]/\H l=some (.lst xs)/\xs.length<sizeLine/\Q .non (bA H l (.lst (xs++[y])))
def tM:Š X "list.append" K6:=by
 intro U s σ H x vs v us Q I rx rv h;let⟨l,xs,y,rfl,rfl,hH,hz,q⟩:=h;cases rx;let⟨u,rfl,ru⟩:=rv.one;let⟨z,its,n,r,hl,e⟩:=I.lstM hH;refine call_meets F.slot_list_append ⟨_,e,rfl⟩ F.entry_list_append (F.args_list_append_2 _ _) (PySem.list_append l its.toArray n u (by rw[ð];lia)) ⟨e,?_⟩;refine⟨.non,_,I.lset (its':=its++[u]) hH e 'e' (r.append (.cons ru .nil)) ?_,rfl,q⟩;rw[Ì,ì];assumption
def Φ:V->List V->Hp->VK->Prop:=λx vs H Q=>∃l xs y,x=.ref l/\vs=[]/\H l=some (.lst xs)/\xs[xs.length-1]?=some y/\Q y (bA H l (.lst xs.dropLast))
def aE7:Š X "list.pop" Φ:=by
 intro U s σ H x vs v us Q I rx rv h;let⟨l,xs,y,rfl,rfl,hH,hy,q⟩:=h;cases rx;have hus:=rv.zero;subst hus;let⟨z,its,n,r,hl,e⟩:=I.lstM hH;let⟨u,hu,ru⟩:=r.get hy;have hy':its.toArray[its.toArray.size-1]?=some u:=by
  show its.toArray[its.length-1]?=some u;rw[<- Array.getElem?_toList,<- hl];exact hu
 refine call_meets F.slot_list_pop ⟨_,e,rfl⟩ F.entry_list_pop (F.args_list_pop_1 _) (MeetsSeq.list_pop_last l its.toArray n u hy' (by rw[ð];lia)) ⟨e,?_⟩;refine⟨y,_,I.lset (its':=its.dropLast) hH e ?_ r.dropLast ?_,ru,q⟩
 .show its.toArray.eraseIdxIfInBounds (its.toArray.size-1)=its.dropLast.toArray
  rw[ð,List.eraseIdxIfInBounds_toArray,JC]
 .rw[List.length_dropLast]
  lia
end
section
end
section
end
end L2
namespace Att
open PySem PySem.W PySem.Calls PyProof.Rows
def vI :∀(ns:ZK)(vs:ZJ),WellAll P h vs (ns.map WData.int)->IntsAre vs ns:=by
 intro ns
 induction ns with
 |nil=>
  intro vs w;rw[List.map_nil]at w;cases w;exact .nil
 |cons n ns ih=>
  intro vs w;rw[Ï]at w;cases w with
  |cons a b=>
   cases a;exact .cons _ _ (ih _ b)
def OC{l:OpenLaw}(hn:l.most=some n){vals:ZJ}(hpre:l.row.toRowW.claim.pre args=true)(hwl:WellAll P h vals args):
  ∃a vs ns,vals=[Value.ref a]/\args=[WData.list (ns.map WData.int)]/\h.get? a=some {cls:=.type "list",data:=.seq vs.toArray}/\IntsAre vs ns/\ns.length<=n:=by
 have hsh:WShape.hasAll [] args [.list .int]=true:=(pre_splitW hpre).1;have hc:l.pre.holds [] {args:=args}=true:=(pre_splitW hpre).2;let⟨d,r,rfl,h1,h2⟩:=hasAllW_cons hsh;obtain rfl:=hasAllW_nil h2;let⟨xs,rfl,h3⟩:=hasW_list h1;let⟨ns,rfl⟩:=items_int h3;have hlen:ns.length<=n:=by
  unfold OpenLaw.pre at hc;have h4:(WTm.not (.lt (.lit (.int (n:Int))) (.len (.arg 0)))).holds [] {args:=[.list (ns.map .int)]}=true:=by
   have h4:=(holds_andW hc).1;rw[hn]at h4;exact h4
  have h5:=condW_of h4 (w_not (w_lt w_lit (w_len_list (w_arg rfl))));rw[Ä]at h5;refine Nat.le_of_not_lt λq=>?_;have q':(n:Int)<((ns.length:Nat):Int):=by lia
  first
   |grind
   |(simp at h5;lia)
 cases hwl with
 |cons w1 w2=>
  cases w2;cases w1 with
  |list ho hall=>exact⟨_,_,ns,rfl,rfl,ho,vI ns _ hall,hlen⟩
def OD(l:OpenLaw)(args:List WData):l.row.toRowW.claim.post args 'i' args=true:=
 postW_of (r:=l.row.toRowW) (X:=(true == true))
  (show WShape.has [] 'i' .bool=true by first|rfl|decide|simp[WShape.has,WShape.arms,WShape.armsAll])
  (show (WTm.eq .res (.lit 'i')).value [] {args:=args,res:=some 'i',after:=args}=some (.bool (true == true))from w_eq_bool (w_res rfl) w_lit) rfl
def attach_call{l:OpenLaw}{n:Nat}{q:Program}{loose:ZG}{XP:(ZD)->Heap->Prop}{YP:World->Heap->Prop}{d:DefRec}(hn:l.most=some n)(hdf:d.params.defaults=[])(call:∀(w:World)(s₀ s₁:Shared)(mg mb:ZD)(fa:Addr)(o:Obj)(pm cd doc:Value)(a:Addr)(vs:ZJ)(ns:ZK),
   Ground q loose [] XP w s₀ mg mb s₁.heap->YP w s₁.heap ->
   s₁.heap.get? fa=some o->o.data=.func (docDef d.name d.params d.body d.scope pm cd doc)->s₁.heap.CodeRec cd d.name->mg d.name=some (.ref fa) ->
   s₁.heap.get? a=some {cls:=.type "list",data:=.seq vs.toArray}->IntsAre vs ns->ns.length<=n->s₁.gens=#[] ->
   codeAny (model l.prog w) callerA (.call (.ref fa) ⟨[.ref a],[]⟩) (λr s'=>r=.ok (.ret 'i')/\OldK s₁.heap s'.heap/\s'.os=s₁.os/\AllBare s'.gens) s₁):
  WalkO q loose XP YP l.row.toRowW d [] (λf vs=>PySem.call f vs):=by
 intro w s₀ s₁ mg mb G Y fa o pm cd doc dV kV ho hd hcd hD hmg hg args vals as hpre hlay hrd hwl hlo;obtain rfl:dV=.none:=Dflts.none hD hdf;obtain rfl:kV=.none:=Dflts.noKw hD;let⟨a,vs,ns,rfl,rfl,hobj,hints,hlen⟩:=OC hn hpre hwl;refine enter_call (codeAny_mono (call w s₀ s₁ mg mb fa o pm cd doc a vs ns G Y ho (fd_plain hd) hcd hmg hobj hints hlen hg) λr s' hq=>?_);let⟨rfl,h2,h3,h4⟩:=hq;exact⟨.inl ⟨.bool true,.bool true,[],rfl,λ_=>rfl,.bool true,OD l _,λ_=>⟨List.Pairwise.nil,λ_ hm=>(nomatch hm)⟩⟩,h2,h3,h4⟩
section
end
end Att
namespace L2
open PySem PySem.Spec PyProof.Rows
def AR:∀{vs:ZJ}{ns:ZK},IntsAre vs ns->bI (ns.map V.int) vs
 |_,_,.nil=>.nil
 |_,_,.cons n t h=>.cons ⟨t,rfl⟩ (AR h)
def n6(s:Stmt):Arguments:=match s with
 |.FunctionDef _ a _ _ _ _ _ _ _ _=>a
 |_=>{posonlyargs:=[],args:=[],vararg:=none,kwonlyargs:=[],kw_defaults:=[],kwarg:=none,defaults:=[]}
def dR(s:Stmt):(List Stmt):=match s with
 |.FunctionDef _ _ b _ _ _ _ _ _ _=>b
 |_=>[]
def bF(s:Stmt):Scope:=match s with
 |.FunctionDef _ _ _ _ _ _ sc _ _ _=>sc
 |_=>{kind:=.function,names:=[],isGenerator:=false,isCoroutine:=false}
structure QK(K:ZC)(x qual:Str)(st:Stmt)(f:Addr)(fd:FuncData):Prop where
 ex:∃(oc:Value)(od:Option Addr)(kV doc pm:Value)(an:Option Addr)(cdv ct:Value)(osl:Array (ZN)),
  fd=W.fnOf x qual (n6 st) (dR st) (bF st) .none kV doc pm an cdv ct/\K.lookup f=some ⟨oc,od,.func fd,osl⟩/\W.codeIn K cdv qual=true
 kp:W.keepIn K (.ref f)=true
section
variable {K:ZC}
def QK.binds{st:Stmt}(F:QK K x qual st f fd)(h:∀(kV doc pm:Value)(an:Option Addr)(cdv ct:Value)(us:ZJ),us.length=ps.length->bindArgs (W.fnOf x qual (n6 st) (dR st) (bF st) .none kV doc pm an cdv ct) ⟨us,[]⟩=pure (ps.zip us)):pE K fd ps []:=by
 let⟨oc,od,kV,doc,pm,an,cdv,ct,osl,rfl,lk,hcd⟩:=F.ex;exact .all (h kV doc pm an cdv ct)
def JD{st:Stmt}{kV doc pm cdv ct:Value}(l:K.lookup f=some ⟨oc,od,.func (W.fnOf x qual (n6 st) (dR st) (bF st) .none kV doc pm an cdv ct),osl⟩)(c:W.codeIn K cdv qual=true)(k:W.keepIn K (.ref f)=true):QK K x qual st f (W.fnOf x qual (n6 st) (dR st) (bF st) .none kV doc pm an cdv ct):=⟨⟨oc,od,kV,doc,pm,an,cdv,ct,osl,rfl,l,c⟩,k⟩
end
section
variable {X:Cx}
def pv(i:Nat){pos:Pos}(hN:↥'t')(hv:#v[AJ X.env.scope x])(hd:⇑(Zdb x))(hcd:⇑(Zcd x)):PE X (.Name x pos) (N3 i):=dQ hN hv hd hcd
end
def aI(H H':Hp):Prop:=∀b o,H b=some o->H' b=some o
def aI.refl(H:Hp):aI H H:=λ_ _ h=>h
def aI.seq{K:ZC}(e:aI H H')(h:eE K H a xs):eE K H' a xs:=by
 rcases h with (h|⟨o,h⟩)|h
 .exact .inl (.inl (e _ _ h))
 .exact .inl (.inr ⟨o,e _ _ h⟩)
 .exact .inr h
def RE:bootBuiltins "len"=some (.builtin "len"):=by decide +kernel
def B4:bootBuiltins "abs"=some (.builtin "abs"):=by decide +kernel
def zQ:bootBuiltins "isinstance"=some (.builtin "isinstance"):=by decide +kernel
def aE8:bootBuiltins "all"=some (.builtin "all"):=by decide +kernel
def lN:bootBuiltins "list"=some (.type "list"):=by decide +kernel
def E6:bootBuiltins "tuple"=some (.type "tuple"):=by decide +kernel
def aE9:bootBuiltins "str"=some (.type "str"):=by decide +kernel
def aFA:bootBuiltins "int"=some (.type "int"):=by decide +kernel
def bP(n:Nat)(x:Int):Prop:=x.natAbs<2^n
def bP.le(h:bP n y)(e:x.natAbs<=y.natAbs):bP n x:=Ā e h
def bP.mono(h:bP m x)(e:m<=n):bP n x:=Ö h (Nat.pow_le_pow_right ⋯ e)
def bP.neg(h:bP n x):bP n (-x):=h.le ∅
def bP.add(h:bP m x)(g:bP n y)(e:max m n+1<=k):bP k (x+y):=by
 have a:bP (max m n) x:=h.mono (Nat.le_max_left ..);have b:bP (max m n) y:=g.mono (Nat.le_max_right ..);have c:2^(max m n+1)=2^max m n+2^max m n:=by rw[Nat.pow_succ];lia
 have d:(x+y).natAbs<2^(max m n+1):=by
  rw[c];have:=Int.natAbs_add_le x y;unfold bP at a b;lia
 exact bP.mono (m:=max m n+1) d e
def bP.sub(h:bP m x)(g:bP n y)(e:max m n+1<=k):bP k (x-y):=by
 rw[Int.sub_eq_add_neg];exact h.add g.neg e
def bP.mul(h:bP m x)(g:bP n y)(e:m+n<=k):bP k (x*y):=by
 have d:(x*y).natAbs<2^(m+n):=by
  rw[Int.natAbs_mul,Nat.pow_add];exact Nat.mul_lt_mul'' h g
 exact bP.mono (m:=m+n) d e
def bP.div(h:bP n x):bP n (x/y):=h.le (Int.natAbs_ediv_le_natAbs x y)
def bP.fdiv(h:bP n x):bP n (x.fdiv y):=intBits_le_iff.mp (intBits_fdiv_le (intBits_le_iff.mpr h))
def bP.mulOk(h:bP m x)(g:bP n y)(e:⇑(m+n<=134217728)):IntMulOk x y:=.of_le (intBits_le_iff.mpr h) (intBits_le_iff.mpr g) e
def bP.log2(h:bP n x)(e:⇑(n<=9000)):x.natAbs.log2<9000:=by
 by_cases h0:x.natAbs=0
 .rw[h0];decide
 .exact Ö ((Nat.log2_lt h0).mpr h) e
def aJJ(h1:-(2^64)<i)(h2:i<2^64):IntMulOk i j:=.of_left (intBits_le_64 h1 h2)
def aJK(h1:-(2^64)<j)(h2:j<2^64):IntMulOk i j:=.of_right (intBits_le_64 h1 h2)
section
def YS:jS X (binaryOp .Mult) (rI IntMulOk λi j=>.int (i*j)):=ľ λ_ _ _ _ _ _ _ hc q=>mul_int q hc
def Χ(_ j:Int):Prop:=j≠0/\j.natAbs.log2<9000
def RF:jS X (binaryOp .FloorDiv) (rI Χ λi j=>.int (i.fdiv j)):=ľ λ_ _ _ _ _ _ _ hc q=>floordiv_int hc.1 q (.inl (PyProof.noPylong_of_log2 hc.2))
def JE:jS X (compareOp .Is) (λx y H Q=>∃c d,x=.bl c/\y=.bl d/\Q (.bl (c == d)) H):=by
 sleep 6;let⟨c,d,rfl,rfl,q⟩:=h;cases rx;cases ry;exact is_bool (mU I q rfl)
def YT:jS X (compareOp .IsNot) (λx y H Q=>∃c d,x=.bl c/\y=.bl d/\Q (.bl (c != d)) H):=by
 sleep 6;let⟨c,d,rfl,rfl,q⟩:=h;cases rx;cases ry;exact isnot_bool (mU I q rfl)
def aJL{pos:Pos}(hg:Gl X x)(hm:X.mg x=none)(hv:bootBuiltins x=some (.type n))(hn:⇑(x≠"__name__"))(hd:⇑(Zdb x)):PE X (.Name x pos) (tC (.ty n)):=X4 (v:=.ty n) hg hm hv rfl hn hd
end
def ER:dN->PyData
 |.inl i=>.int i
 |.inr x=>.str x
def aJM(K:ZC)(H:Hp)(a:Addr)(ks:List PyData)(xs:List V):Prop:=
 ∃(nm:Str)(fs:ZG)(C dx:Addr)(vs:List V),xs=.str nm::vs/\ks=.none::fs.map PyData.str/\fs.length=vs.length/\H a=some (.ins C dx (fs.zip vs))/\H dx=some (.own a)/\W.nsIn K mainGlobals nm=some (some (.ref C))
def aJN(H:Hp)(a:Addr)(ks:List PyData)(xs:List V):Prop:=∃(ms:List dN),ks=ms.map ER/\ms.length=xs.length/\H a=some (.dK (ms.zip xs))
mutual
def bG(K:ZC)(H:Hp):PyData->V->Prop
 |.none,v=>v=.non
 |.bool b,v=>v=.bl b
 |.int i,v=>v=.int i
 |.str x,v=>v=.str x
 |.list ds,v=>∃(a:Addr)(xs:List V),v=.ref a/\eE K H a xs/\aD K H ds xs
 |.tuple ds,v=>∃(a:Addr)(xs:List V),v=.ref a/\rB K H a xs/\aD K H ds xs
 |.dict À,v=>∃(a:Addr)(xs:List V),v=.ref a/\(aJM K H a (À.map Prod.fst) xs\/aJN H a (À.map Prod.fst) xs)/\hZ K H À xs
def aD(K:ZC)(H:Hp):List PyData->List V->Prop
 |[],xs=>xs=[]
 |d::ds,xs=>∃(x:V)(r:List V),xs=x::r/\bG K H d x/\aD K H ds r
def hZ(K:ZC)(H:Hp):List (PyData×PyData)->List V->Prop
 |[],xs=>xs=[]
 |(_,d)::ds,xs=>∃(x:V)(r:List V),xs=x::r/\bG K H d x/\hZ K H ds r
end
section
mutual
def bG.reads(I:Inv X U σ H s):∀(d:PyData)(v:V)(u:Value),d.canLay0=true->bG X.K H d v->bH v u->∃as,Reads s.heap u d as
 |.none,v,u,_,h,r=>by
  unfold bG at h;subst h;cases (show u=Value.none from r);exact⟨_,.none⟩
 |.bool b,v,u,_,h,r=>by
  unfold bG at h;subst h;cases (show u=Value.bool b from r);exact⟨_,.bool b⟩
 |.int i,v,u,_,h,r=>by
  unfold bG at h;subst h;let⟨t,rfl⟩:=(show ∃t,u=Value.int i t from r);exact⟨_,.int i t⟩
 |.str x,v,u,_,h,r=>by
  unfold bG at h;subst h;let⟨t,rfl⟩:=(show ∃t,u=Value.str x t from r);exact⟨_,.str x t⟩
 |.list ds,v,u,l,h,r=>by
  unfold bG at h;let⟨a,xs,rfl,hs,ha⟩:=h;cases (show u=Value.ref a from r);let⟨its,rv,p,_⟩:=I.list hs;let⟨as,q⟩:=aD.reads I ds xs its (by simpa[PyData.canLay0]using l) ha rv;let⟨o,ho,hc,n,hd⟩:=p.isList;exact⟨_,.list ho hc hd (by simpa using q)⟩
 |.tuple ds,v,u,l,h,r=>by
  unfold bG at h;let⟨a,xs,rfl,hs,ha⟩:=h;cases (show u=Value.ref a from r);let⟨its,rv,p,_⟩:=I.tuple hs;let⟨as,q⟩:=aD.reads I ds xs its (by simpa[PyData.canLay0]using l) ha rv;let⟨o,ho,hc,n,hd⟩:=p;exact⟨_,.tuple ho hc hd (by simpa using q)⟩
 |.dict _,v,u,l,h,r=>by
  simp[PyData.canLay0]at l
def aD.reads(I:Inv X U σ H s):∀(ds:List PyData)(xs:List V)(us:ZJ),PyData.canLayAll0 ds=true->aD X.K H ds xs->bI xs us->∃as,ReadsAll s.heap us ds as
 |[],xs,us,_,h,r=>by
  unfold aD at h;subst h;cases r;exact⟨_,.nil⟩
 |d::ds,xs,us,l,h,r=>by
  unfold aD at h;let⟨x,t,rfl,hx,ht⟩:=h;simp![PyData.canLayAll0,ã]at l;cases r with
  |cons rx rt=>
   let⟨as,p⟩:=bG.reads I d x _ l.1 hx rx;let⟨bs,q⟩:=aD.reads I ds t _ l.2 ht rt;exact⟨_,.cons p q⟩
end
end
def gF(h:SeqAt.shaped d=true):d.canLay0=true:=by
 unfold SeqAt.shaped at h;rw[ã]at h;exact h.1
section
def eC(hu:X.A.units+64<cLine):jS X (compareOp .Eq) (λx y H Q=>∃d e,bG X.K H d x/\bG X.K H e y/\SeqAt.shaped d=true/\SeqAt.shaped e=true/\Q (.bl (PyData.eqv d e)) H):=by
 sleep 6;let⟨d,e,hd,he,sd,se,q⟩:=h;let⟨as,ra⟩:=bG.reads I d x v (gF sd) hd rx;let⟨bs,rb⟩:=bG.reads I e y u (gF se) he ry;exact SeqAt.compareEq_shaped ra rb sd se hu (mU I q rfl)
def mW(hu:X.A.units+64<cLine):jS X (compareOp .NotEq) (λx y H Q=>∃d e,bG X.K H d x/\bG X.K H e y/\SeqAt.shaped d=true/\SeqAt.shaped e=true/\Q (.bl (!PyData.eqv d e)) H):=by
 sleep 6;let⟨d,e,hd,he,sd,se,q⟩:=h;let⟨as,ra⟩:=bG.reads I d x v (gF sd) hd rx;let⟨bs,rb⟩:=bG.reads I e y u (gF se) he ry;exact SeqAt.compareNe_reads ra rb (SeqAt.canLay_of_shaped sd) (SeqAt.canLay_of_shaped se) (SeqAt.room_of_shaped sd hu) (mU I q rfl)
end
def cI{H:Hp}{p:Addr}(h:H p=none)(o:HO):aI H (bA H p o):=λb u q=>by rw[aF (bK q h)];exact q
def aI.seqT{K:ZC}(e:aI H H')(h:rB K H a xs):rB K H' a xs:=by
 rcases h with (h|⟨o,h⟩)|h
 .exact .inl (.inl (e _ _ h))
 .exact .inl (.inr ⟨o,e _ _ h⟩)
 .exact .inr h
mutual
def aI.rep{K:ZC}{H H':Hp}(e:aI H H'):∀(d:PyData)(v:V),bG K H d v->bG K H' d v
 |.none,v,h=>by unfold bG at h⊢;exact h
 |.bool b,v,h=>by unfold bG at h⊢;exact h
 |.int i,v,h=>by unfold bG at h⊢;exact h
 |.str x,v,h=>by unfold bG at h⊢;exact h
 |.list ds,v,h=>by
  unfold bG at h⊢;let⟨a,xs,rfl,hs,ha⟩:=h;exact⟨a,xs,rfl,e.seq hs,aI.repAll e ds xs ha⟩
 |.tuple ds,v,h=>by
  unfold bG at h⊢;let⟨a,xs,rfl,hs,ha⟩:=h;exact⟨a,xs,rfl,e.seqT hs,aI.repAll e ds xs ha⟩
 |.dict À,v,h=>by
  unfold bG at h⊢;let⟨a,xs,rfl,hs,ha⟩:=h;refine⟨a,xs,rfl,?_,aI.repKV e À xs ha⟩;rcases hs with ⟨nm,fs,C,dx,vs,h1,h2,h3,h4,h5,h6⟩|⟨ms,h1,h2,h3⟩
  .exact .inl ⟨nm,fs,C,dx,vs,h1,h2,h3,e _ _ h4,e _ _ h5,h6⟩
  .exact .inr ⟨ms,h1,h2,e _ _ h3⟩
def aI.repAll{K:ZC}{H H':Hp}(e:aI H H'):∀(ds:List PyData)(xs:List V),aD K H ds xs->aD K H' ds xs
 |[],xs,h=>by unfold aD at h⊢;exact h
 |d::ds,xs,h=>by
  unfold aD at h⊢;let⟨x,t,rfl,hx,ht⟩:=h;exact⟨x,t,rfl,aI.rep e d x hx,aI.repAll e ds t ht⟩
def aI.repKV{K:ZC}{H H':Hp}(e:aI H H'):∀(ds:List (PyData×PyData))(xs:List V),hZ K H ds xs->hZ K H' ds xs
 |[],xs,h=>by unfold hZ at h⊢;exact h
 |(_,d)::ds,xs,h=>by
  unfold hZ at h⊢;let⟨x,t,rfl,hx,ht⟩:=h;exact⟨x,t,rfl,aI.rep e d x hx,aI.repKV e ds t ht⟩
end
def wJ{K:ZC}:∀{ks ds:List PyData}{xs:List V},ks.length=ds.length->aD K H ds xs->hZ K H (ks.zip ds) xs
 |[],[],xs,_,h=>by unfold aD at h;unfold List.zip List.zipWith hZ;exact h
 |k::ks,d::ds,xs,l,h=>by
  unfold aD at h;let⟨x,t,rfl,hx,ht⟩:=h;rw[â];unfold hZ;exact⟨x,t,rfl,hx,wJ (by simpa using l) ht⟩
def hZ.all{K:ZC}:∀{À:List (PyData×PyData)}{xs:List V},hZ K H À xs->aD K H (À.map Prod.snd) xs
 |[],xs,h=>by unfold hZ at h;unfold List.map aD;exact h
 |(_,d)::ds,xs,h=>by
  unfold hZ at h;let⟨x,t,rfl,hx,ht⟩:=h;rw[Ï];unfold aD;exact⟨x,t,rfl,hx,hZ.all ht⟩
def aPB(h:0<=j)(h1:j<=1000000)(h2:i.natAbs<2^64):YB i j:=⟨h,h1,h2⟩
def IE(t b x:Int):Int:=if b<0 then -(x/(Int.gcd t b:Int))else x/(Int.gcd t b:Int)
def E7:Int.gcd b (a % b)=Int.gcd a b:=by
 rw[Int.emod_def,Int.gcd_sub_mul_left_right,Int.gcd_comm]
def kC(d:(Int.gcd t b:Int)∣x):x.fdiv (if b<0 then -(Int.gcd t b:Int)else (Int.gcd t b:Int))=IE t b x:=by
 unfold IE;split
 .rw[Int.fdiv_eq_ediv_of_dvd ((Int.neg_dvd).mpr d),Int.ediv_neg]
 .rw[Int.fdiv_eq_ediv_of_dvd d]
def K7(h:b≠0):0<IE t b b:=by
 unfold IE;split
 .have:=Int.ediv_pos_of_pos_of_dvd (a:=-b) (b:=(Int.gcd t b:Int)) ∅ (Int.natCast_nonneg _) (Int.dvd_neg.mpr (Int.gcd_dvd_right t b))
  rw[Int.neg_ediv_of_dvd (Int.gcd_dvd_right t b)]at this;exact this
 .exact Int.ediv_pos_of_pos_of_dvd ∅ (Int.natCast_nonneg _) (Int.gcd_dvd_right t b)
def aJO{g t b:Int}(h1:g∣t)(h2:g∣b):t/g*b=t*(b/g):=by
 conv=>lhs;rw[<- Int.ediv_mul_cancel h2,Int.mul_comm (b/g) g,<- Int.mul_assoc,Int.ediv_mul_cancel h1]
def AS(t b:Int):IE t b t*b=t*IE t b b:=by
 have c:=aJO (Int.gcd_dvd_left t b) (Int.gcd_dvd_right t b);unfold IE
 grind
def K8(h:b≠0):Int.gcd (IE t b t) (IE t b b)=1:=by
 have g:=Int.gcd_ediv_gcd_ediv_gcd_of_ne_zero_right (n:=t) h;unfold IE;split
 all_goals simp_all
end L2
set_option maxRecDepth 100000
set_option maxHeartbeats 4000000
namespace L2
open PySem PySem.Spec PyProof.Rows
def f9(cells:List (Str×Addr)):List (Str×NameKind)->List (Str×Addr)->List (Str×Addr)
 |[],acc=>acc
 |(n,k)::r,acc=>if k == .free then (match cells.lookup n with|some a=>f9 cells r ((n,a)::acc)|none=>f9 cells r acc)else f9 cells r acc
def freeIn(cells:List (Str×Addr))(names:List (Str×NameKind)):Prop:=∀n,(n,NameKind.free)∈names->∃c,cells.lookup n=some c
def tN :∀(names:List (Str×NameKind))(acc:List (Str×Addr)),freeIn env.cells names ->
  (forIn names acc λ(x:Str×NameKind)(cs:List (Str×Addr))=>(if x.2 == .free then do let c <- cellOf env x.1;pure (ForInStep.yield ((x.1,c)::cs))else pure (ForInStep.yield cs):Sem (ForInStep (List (Str×Addr)))))=pure (f9 env.cells names acc)
 |[],acc,_=>by rfl
 |(n,k)::r,acc,h=>by
  have hr:freeIn env.cells r:=λm hm=>h m (Ò _ hm);rw[List.forIn_cons];unfold f9;cases hk:k == NameKind.free with
  |false=>
   rw[Ã (by simp[hk]),Ã 'e'];exact tN r acc hr
  |true=>
   rw[Â (by simp[hk]),Â rfl];have e:k=.free:=by cases k<;>first|rfl|exact absurd hk ⋯
   let⟨c,hc⟩:=h n (by rw[e];exact Õ);rw[hc];have e2:cellOf env n=pure c:=by unfold cellOf;rw[hc]
   rw[show cellOf env (n,k).1=pure c from e2];exact tN r ((n,c)::acc) hr
def K9(h:freeIn env.cells scope.names):closureFor scope env=pure (f9 env.cells scope.names []):=by
 have e:=tN (env:=env) scope.names [] h;unfold closureFor;exact(congrArg (λm=>m >>= λcs=>(pure cs:Sem (List (Str×Addr)))) e).trans rfl
def n8 :∀(names:List (Str×NameKind))(acc:List (Str×Addr)),(∀n c,(n,c)∈acc->cells.lookup n=some c)->(n,c)∈f9 cells names acc->cells.lookup n=some c
 |[],acc,ha,h=>ha _ _ h
 |(m,k)::r,acc,ha,h=>by
  unfold f9 at h;split at h
  .split at h
   .rename_i a hm
    refine n8 r _ (λn' c' hn=>?_) h;rcases Ë.mp hn with e|hn
    .cases e;exact hm
    .exact ha _ _ hn
   .exact n8 r _ ha h
  .exact n8 r _ ha h
def rH{scope:Scope}(h:(f9 cells scope.names []).lookup n=some c):cells.lookup n=some c:=
 n8 scope.names [] (λ_ _ h=>absurd h 'e') (Ĉ h)
def n9 :∀(names:List (Str×NameKind))(acc:List (Str×Addr)),(n,c)∈acc->(n,c)∈f9 cells names acc
 |[],_,h=>h
 |(m,k)::r,acc,h=>by
  unfold f9;split
  .split
   .exact n9 r _ (Ò _ h)
   .exact n9 r _ h
  .exact n9 r _ h
def rJ(hc:cells.lookup n=some c):∀(names:List (Str×NameKind))(acc:List (Str×Addr)),(n,NameKind.free)∈names->(n,c)∈f9 cells names acc
 |(m,k)::r,acc,h=>by
  unfold f9;rcases Ë.mp h with e|h
  .cases e
   rw[Â ⋯,hc];exact n9 r _ Õ
  .split
   .split
    .exact rJ hc r _ h
    .exact rJ hc r _ h
   .exact rJ hc r _ h
def pG{α:Type}{c:α}:∀{l:List (Str×α)},(n,c)∈l->∃d,l.lookup n=some d
 |(m,d)::r,h=>by
  rw[æ];cases e:n == m with
  |true=>exact⟨d,rfl⟩
  |false=>
   rcases Ë.mp h with q|q
   .cases q;simp at e
   .exact pG q
def wK{scope:Scope}(h:scope.names.lookup n=some .free)(hc:cells.lookup n=some c):(f9 cells scope.names []).lookup n=some c:=by
 let⟨d,hd⟩:=pG (rJ hc scope.names [] (Ĉ h));have:=rH hd;rw[hc]at this;cases this;exact hd
def lO:(relabel scope env).names.lookup x=(scope.names.lookup x).map λk=>if (k == .free && env.scope.kind == .function && env.kindOf x == some .cell)then .cell else k:=by
 unfold relabel;show List.lookup x (scope.names.map _)=_
 induction scope.names with
 |nil=>rfl
 |cons p r ih=>
  let⟨n,k⟩:=p;show List.lookup x ((if (k == NameKind.free && env.scope.kind == .function && env.kindOf n == some .cell)=true then (n,NameKind.cell)else (n,k))::_)=_;cases hx:x == n with
  |true=>
   have e:x=n:=by simpa using hx
   subst e;cases hc:(k == NameKind.free && env.scope.kind == .function && env.kindOf x == some .cell)with
   |true=>rw[Â rfl,æ,æ];simp![beq_self_eq_true,ă,hc,if_true]
   |false=>rw[Ã 'e',æ,æ];simp![beq_self_eq_true,ă,hc];rfl
  |false=>
   have e:∀k',List.lookup x ((n,k')::(r.map λ(n,k)=>if (k == NameKind.free && env.scope.kind == .function && env.kindOf n == some .cell)=true then (n,NameKind.cell)else (n,k)))=List.lookup x (r.map λ(n,k)=>if (k == NameKind.free && env.scope.kind == .function && env.kindOf n == some .cell)=true then (n,NameKind.cell)else (n,k)):=λk'=>by rw[æ,hx]
   have e2:List.lookup x ((n,k)::r)=List.lookup x r:=by rw[æ,hx]
   rw[e2,<- ih];split<;>exact e _
def mX(xs N:ZG):ZG:=N.map λn=>if xs.contains n then (".":Str)++n else n
def dS(N xs:ZG)(names onames:List (Str×NameKind)):Bool:=
 (names.all λp=>p.2 != .cell) && (names.all λp=>p.2 != .local || names.lookup p.1 == some .local) && (names.all λp=>p.2 != .free || (onames.lookup p.1 == some .cell || onames.lookup p.1 == some .free)) &&
  xs.all (λx=>names.lookup x == some .local) && ((mX xs N).zip N).all λp=>names.lookup p.1 == none || names.lookup p.1 == some .globalImplicit || (names.lookup p.1 == some .free && p.1 == p.2)
abbrev aT(X:Cx)(xs:ZG)(scope:Scope)(C:Addr)(fp:ZM)(s:Shared)(H:Hp):Cx:=
 {X with N:=xs++mX xs X.N,s₀:=s,H₀:=H,env:=compEnvC scope (f9 X.env.cells scope.names []) C X.env,outer:=X.stack,ex:=fp,fn:=λ_=>false,pn:=[],xe:=λ_ _=>False}
section
variable {X:Cx}{U:ZB}{σ:St}{H H':Hp}{s s':Shared}{a:Addr}{o:HO}
def mM.adopt(x:mM P w H h)(hn:H a=none)(new:dO P w (bA H a o) h a o):mM P w (bA H a o) h:=λb u e=>by
 by_cases hb:b=a
 .subst hb;rw[aJ]at e;cases e;exact new
 .rw[aF hb]at e
  exact(x b u e).stay (λ_ _ _ q=>q) (λc q=>by rw[aF (bK q hn)];exact q) λc xs q=>by rw[aF (bK q hn)];exact q
def Inv.adopt(I:Inv X U σ H s)(hn:H a=none)(ha:X.s₀.heap.objs.size<=a)(hL:a≠X.env.locals)(hc:∀x c,X.env.cells.lookup x=some c->c≠a)(hp:∀p∈X.pn++U,p.1≠a)(new:dO X.prog X.w (bA H a o) s.heap a o):Inv X U σ (bA H a o) s:=by
 refine⟨I.ok,I.os,I.bare,⟨I.base.keep,I.base.slot,λb u e n hx=>?_,I.base.there,λb xs e=>?_,λb u v e=>?_,λb ps e=>?_⟩,I.loc,I.cell,?_,λx c e=>?_,λp h=>?_,I.hok.adopt hn new,I.len⟩
 .rw[aF (Í (Ö 'y' ha))];exact I.base.free b u e n hx
 .have q:=I.base.tups b xs e;rw[aF (bK q hn)];exact q
 .have q:=I.base.frzs b u v e;rw[aF (bK q hn)];exact q
 .obtain⟨more,q⟩:=I.base.tbls b ps e;exact⟨more,by rw[aF (bK q hn)];exact q⟩
 .rw[aF (Ñ hL)];exact I.free
 .rw[aF (hc x c e)];exact I.freeC x c e
 .obtain⟨e,n,ne,nf,d⟩:=I.pin p h
  exact⟨e,by rw[aF (hp p h)];exact n,ne,nf,d⟩
def uT(h:dS N xs names on=true):∀y∈names,y.2≠.cell:=λy hy e=>by
 unfold dS at h;simp![ã,ç]at h;have:=h.1.1.1.1 y hy;rw[e]at this;exact absurd this ⋯
def rK(h:dS N xs names on=true):∀y∈names,y.2=.local->names.lookup y.1=some .local:=λy hy e=>by
 unfold dS at h;simp![ã,ç]at h;have:=h.1.1.1.2 y hy;rw[e]at this;simpa using this
def uU(h:dS N xs names on=true):∀n,(n,NameKind.free)∈names->on.lookup n=some .cell\/on.lookup n=some .free:=λn hn=>by
 unfold dS at h;simp![ã,ç]at h;have:=h.1.1.2 _ hn;simpa using this
def E8(h:dS N xs names on=true){i:Nat}(e:(mX xs N)[i]?=some y):(names.lookup y=some .free/\N[i]?=some y)\/names.lookup y=none\/names.lookup y=some .globalImplicit:=by
 unfold dS at h;simp![ã]at h;have hl:(mX xs N).length=N.length:=by unfold mX;rw[Ä]
 let⟨hi,ei⟩:=Ð.mp e;have hz:((mX xs N).zip N)[i]?=some (y,N[i]):=by
  rw[ě];exact⟨e,É (by exact ú ‹_› ‹_›)⟩
 have q:=ç.mp h.2 _ (û hz);simp![Bool.or_eq_true,ã,beq_iff_eq]at q;rcases q with (q|q)|⟨q,q2⟩
 .exact .inr (.inl q)
 .exact .inr (.inr q)
 .exact .inl ⟨q,by rw[É (by exact ú ‹_› ‹_›),<- q2]⟩
def Inv.freeIn{scope:Scope}(I:Inv X U σ H s)(hok:dS X.N xs scope.names X.env.scope.names=true):freeIn X.env.cells scope.names:=λn hn=>I.ok.has n (uU hok n hn)
def E9(h:(relabel scope env).names.lookup x=some .cell\/(relabel scope env).names.lookup x=some .free)(hc:∀y∈scope.names,y.2≠.cell):scope.names.lookup x=some .free:=by
 rw[lO]at h;cases e:scope.names.lookup x with
 |none=>rw[e]at h;simp at h
 |some k=>
  rw[e]at h;cases k with
  |free=>rfl
  |cell=>exact absurd rfl (hc _ (Ĉ e))
  |_=>simp at h
def Inv.block(I:Inv X U σ H s)(hok:dS X.N xs scope.names X.env.scope.names=true)(hk:scope.kind=.function)(hfp:∀b∈fp,vH X U H b)(hobj:∀b∈fp,∃o,s.heap.get? b=some o)(hC:s.heap.objs.size<=C)(hns:s'.heap.Ns C m)(keep:∀b o,s.heap.get? b=some o->s'.heap.get? b=some o)(hos:s'.os=s.os)(hg:AllBare s'.gens):
  Inv 'h' [] (List.replicate xs.length none++σ) H s':=by
 have hcell:=uT hok;have hno:∀x c,(f9 X.env.cells scope.names []).lookup x=some c->X.env.cells.lookup x=some c:=λx c h=>rH h;have ltf:∀b∈fp,b<s.heap.objs.size:=λb hb=>let ⟨_,e⟩:=hobj b hb;Heap.lt_size e
 refine⟨⟨I.ok.mod,hk,I.ok.glob,I.ok.blt,hC,λx y c h1 h2=>I.ok.inj x y c (hno _ _ h1) (hno _ _ h2),λx hx=>?_,λx c h _=>absurd h 'e',I.ok.hd,I.ok.frames,.inl rfl,λb hb=>⟨?_,λx c h=>(hfp b hb).2.2.2.2.1 x c (hno _ _ h)⟩,I.bs,Ø I.ok.bsz I.sz,λb u e hb=>?_,λb hb hf=>?_,I.stack,I.stkFree⟩,
  hos,hg,Un.kept keep,⟨m,hns,λi x v e1 e2 e3=>?_⟩,λx c h=>?_,I.hok.fresh hC,λx c h=>I.freeC x c (hno _ _ h),λp hp=>absurd (show p∈([]:ZB)from hp) 'e',I.hok.kept keep,?_⟩
 .have hf:=E9 (show (relabel scope X.env).names.lookup x=some .cell\/(relabel scope X.env).names.lookup x=some .free from hx) hcell
  let⟨c,hc⟩:=I.freeIn hok x (Ĉ hf);exact⟨c,wK hf hc⟩
 .exact Í (Ö (ltf b hb) hC)
 .rcases(hfp b hb).2.2.2.1 with z|z
  .exact I.ok.noex b u e z
  .exact absurd (Ö 'y' (Ø I.ok.bsz z)) (ø _)
 .rcases Ë.mp (I.stkSub b hf)with z|z
  .exact(hfp b hb).2.1 z
  .exact(hfp b hb).2.2.1 z
 .have e1:(xs++mX xs X.N)[i]?=some x:=e1
  by_cases hi:i<xs.length
  .rw[ñ (by simpa using hi),ą,Â hi]at e2
   cases e2
  .rw[á 'C']at e1
   rw[á (by rw[õ];exact å.mp ‹_›),õ]at e2;rcases E8 hok e1 with ⟨q1,q2⟩|q|q
   .have kd:=uU hok x (Ĉ q1)
    let⟨m0,_,hl⟩:=I.loc;let⟨u,ru,lk⟩:=hl _ x v q2 e2 (by rcases kd with z|z;exact .inr (.inl z);exact .inr (.inr z))
    refine⟨u,ru,.inr ⟨?_,?_⟩⟩
    .show (relabel scope X.env).names.lookup x=some .cell\/(relabel scope X.env).names.lookup x=some .free
     rw[lO,q1];by_cases hc:(NameKind.free == NameKind.free && X.env.scope.kind == .function && X.env.kindOf x == some .cell)=true
     .left;rw[ă,Â hc]
     .right;rw[ă,Ã hc]
    .rcases lk with ⟨z,_⟩|⟨_,c,hc,hcell⟩
     .have z:X.env.scope.names.lookup x=some .local:=z
      rw[z]at kd;rcases kd with kd|kd<;>cases kd
     .refine⟨c,wK q1 hc,?_⟩
      let⟨oc,hoc,hd⟩:=hcell;exact⟨oc,keep _ _ hoc,hd⟩
   all_goals
    have e3:(relabel scope X.env).names.lookup x=some .local\/(relabel scope X.env).names.lookup x=some .cell\/(relabel scope X.env).names.lookup x=some .free:=e3;rw[lO,q]at e3;simp at e3
 .obtain⟨v,oc,hoc,hd⟩:=I.cell x c (hno _ _ h)
  exact⟨v,oc,keep _ _ hoc,hd⟩
 .show (List.replicate xs.length none++σ).length=(xs++mX xs X.N).length
  rw[Ì,Ì,õ,I.len];unfold mX;rw[Ä]
def Inv.unblock(I:Inv X U σ H s)(hfp:∀b∈fp,vH X U H b)(J:Inv 'h' pins' σ' H' s'):Inv X U σ H' s':=
 I.call' (ch:=fp) J.os J.base J.hok J.bare λb hb=>⟨(hfp b hb).2.2.2.1,(hfp b hb).2.1,(hfp b hb).2.2.2.2.1,(hfp b hb).2.2.2.2.2⟩
end
def mY{prog:Program}{w:World}{A:Around}{R:Result->Shared->Prop}{s:Shared}{elt target iter:Expr}{ifs:List Expr}{scope:Scope}{pos:Pos}{it acc:Value}{env:Env}(I:Nat->Shared->Prop)(turn:∀n s,I n s->wpAny 'u' A (pyNext it) (λr s₁=>match r with
   |none=>R (.ok .next) s₁
   |some v=>wpAny 'u' A (letOwnedTupleGo target it v) (λ_ s₁'=>wpAny 'u' A (assign target env v) (λ_ s₂=>
     wpAny 'u' A (forIn ifs true λc r=>if r=true then do let ok <- isTrue c env (eval c env);pure (ForInStep.yield ok)else pure (ForInStep.yield r)) (λok s₃=>
      if ok=true then wpAny 'u' A (eval elt env) (λx s₄=>
       wpAny 'u' A (call (.builtin "list.append") [acc,x]) (λ_ s₅=>∃m,m<n/\I m s₅) (λ_ _=>False) s₄) (λ_ _=>False) s₃
      else ∃m,m<n/\I m s₃) (λ_ _=>False) s₂) (λ_ _=>False) s₁') (λ_ _=>False) s₁) (λ_ _=>False) s)(n:Nat)(h:I n s):codeAny 'u' A (.compLoop (.ListComp elt [⟨target,iter,ifs,0⟩] scope pos) 0 it acc env) R s:=by
 refine codeAny_loop rfl I (λn s hI=>?_) n h;show wpAny _ A ((compTurn (.ListComp elt [⟨target,iter,ifs,0⟩] scope pos) 0 it acc env).onRaise (λx=>do noteFrame x env;theTreesLotGoes x)) _ _ s;refine wpAny_noted ?_;rw[compTurn_list];refine wpAny_bind (wpAny_standAt (wpAny_bind (wpAny_mono (turn n s hI) (λr s₁ h₁=>?_) λ_ _ h'=>h'.elim)));cases r with
 |none=>exact wpAny_pure h₁
 |some v=>
  refine wpAny_bind (wpAny_mono h₁ (λ_ s₁' h₁'=>?_) λ_ _ h'=>h'.elim);refine wpAny_bind (wpAny_mono h₁' (λ_ s₂ h₂=>wpAny_bind (wpAny_mono h₂ (λok s₃ h₃=>?_) λ_ _ h'=>h'.elim)) λ_ _ h'=>h'.elim);cases ok with
  |false=>exact wpAny_pure ⟨rfl,h₃⟩
  |true=>
   exact wpAny_bind (wpAny_bind (wpAny_mono h₃ (λx s₄ h₄=>wpAny_bind (wpAny_mono h₄ (λ_ s₅ h₅=>wpAny_pure (wpAny_pure ⟨rfl,h₅⟩)) λ_ _ h'=>h'.elim)) λ_ _ h'=>h'.elim))
def QL(X:Cx)(ifs:List Expr)(t:TT):Prop:=
 ∀(U:ZB)(s:Shared)(σ:St)(H:Hp)(Q:Bool->Hp->Prop),Inv X U σ H s->t σ H Q ->
  wpAny 'b' X.A (forIn ifs true λc r=>if r=true then do let ok <- isTrue c X.env (eval c X.env);pure (ForInStep.yield ok)else pure (ForInStep.yield r)) (TP X U σ Q) X.xe s
def B5:QL X [] (λ_ H Q=>Q true H):=λ_ _ _ H _ I h=>wpAny_tests_nil ⟨H,I,h⟩
def YU(h:PT X c t):QL X [c] t:=λU s σ H Q I hq=>wpAny_tests_one (h U s σ H Q I hq)
def LA(k:Nat)(wi:TI)(g:TG)(ti:TT)(te:TE):TE:=λσ H Q=>wi σ H λJ H1=>∃W:Nat->Nat->List V->St->Hp->Prop,(∃m,W 0 m [] (List.replicate k none++σ) H1)/\∀i m ys σ' H',W i m ys σ' H' ->
 (J.stop i H'/\∀p,H' p=none->Q (.ref p) (bA H' p (.lst ys))) \/
 (J.go i H'/\ys.length<sizeLine/\∃N:List V->St->Hp->Prop,(∀zs σ'' H'',N zs σ'' H''->∃m',m'<m/\W (i+1) m' zs σ'' H'') /\
  ∀x H2,J.yld i H' x H2->g x σ' H2 λσ2 H3=>ti σ2 H3 λb H4=>if b=true then te σ2 H4 λy H5=>N (ys++[y]) σ2 H5 else N ys σ2 H4)
section
variable {X:Cx}{pos:Pos}{tg elt iter:Expr}{ifs:List Expr}{scope:Scope}{xs:ZG}{wi:TI}{g:TG}{ti:TT}{te:TE}
def wL{U:ZB}{σ:St}{s:Shared}{Q:VK}{itv:Value}{E:ZA}{R:Value->Addr->Result->Shared->Prop}(hc:X.calm=true)(hk:scope.kind=.function)(hok:dS X.N xs scope.names X.env.scope.names=true)(hg:∀C fp s H,PG 'h' tg g)(hif:∀C fp s H,QL 'h' ifs ti)(he:∀C fp s H,PE 'h' elt te)(h:ř X U σ tg (λJ H1=>∃W:Nat->Nat->List V->St->Hp->Prop,(∃m,W 0 m [] (List.replicate xs.length none++σ) H1)/\∀i m ys σ' H',W i m ys σ' H' ->
   (J.stop i H'/\∀p,H' p=none->Q (.ref p) (bA H' p (.lst ys))) \/
   (J.go i H'/\ys.length<sizeLine/\∃N:List V->St->Hp->Prop,(∀zs σ'' H'',N zs σ'' H''->∃m',m'<m/\W (i+1) m' zs σ'' H'') /\
    ∀x H2,J.yld i H' x H2->g x σ' H2 λσ2 H3=>ti σ2 H3 λb H4=>if b=true then te σ2 H4 λy H5=>N (ys++[y]) σ2 H5 else N ys σ2 H4)) itv s)(hR:∀D C H' m s',Inv X U σ H' s'->Q (.ref D) H'->s'.heap.Ns C m->H' C=none->X.s₀.heap.objs.size<=C->C≠X.env.locals->(∀x c,X.env.cells.lookup x=some c->c≠C)->(∀p∈X.pn++U,p.1≠C)->R (.ref D) C (.ok .next) s'):
  wpAny 'b' X.A (newList []) (λacc s₃=>wpAny 'b' X.A (newFunctionEnv scope X.env.globals (f9 X.env.cells scope.names []) [] X.env.qual none .none (some X.env)) (λcenv s₄=>
   codeAny 'b' X.A (.compStart 'o' 0 itv acc {cenv with scope:=relabel scope X.env}) (R acc cenv.locals) s₄) E s₃) E s:=by
 let⟨it,fp,tn,J,H1,rfl,I,T,st0,hfp,W,⟨m0,w0⟩,turn⟩:=h;have hcell:=uT hok;refine wpAny_newObj_type (wpAny_newFunctionEnv hcell (by intro y hy;simp at hy) (λh₁ hns₁ hsb₁=>?_) hk);dsimp only at hns₁ hsb₁⊢;generalize hH2:s.heap.push {cls:=.type "list",dict:=none,data:=.seq ([]:ZJ).toArray}=G2 at hns₁ hsb₁⊢;have hC:G2.objs.size=s.heap.objs.size+1:=by rw[<- hH2,Heap.size_push]
 have hDC:s.heap.objs.size≠G2.objs.size:=by rw[hC];exact Í (î _)
 have hCle:s.heap.objs.size<=G2.objs.size:=by rw[hC];exact Nat.le_succ _
 have old:∀b o,s.heap.get? b=some o->h₁.get? b=some o:=λb o e=>hsb₁.extBut b o (Í (Ö 'y' hCle)) (Heap.get?_push_of_some _ (hH2▸Heap.get?_push_of_some _ e));have hacc:h₁.get? s.heap.objs.size=some {cls:=.type "list",data:=.seq ([]:ZJ).toArray 0}:=hsb₁.extBut _ _ hDC (Heap.get?_push_of_some _ (hH2▸Heap.get?_push_size _ rfl));have objs:∀b∈fp,∃o,s.heap.get? b=some o:=λb hb=>let ⟨o,e,_⟩:=T.obj 0 _ st0 b hb;⟨o,e⟩
 have ltf:∀b∈fp,b<s.heap.objs.size:=λb hb=>let ⟨_,e⟩:=objs b hb;Heap.lt_size e
 generalize hD:s.heap.objs.size=D at hC hDC hCle hacc ltf⊢;generalize hCC:G2.objs.size=C at hC hDC hCle hns₁ hsb₁⊢;have J0:Inv (aT X xs scope C fp s H1) [] (List.replicate xs.length none++σ) H1 {s with heap:=h₁,toks:=s.toks+([]:List (Str×Value)).length}:=
  I.block hok hk hfp objs (by rw[hD];exact hCle) hns₁ old rfl I.bare
 have cD:∀x c,X.env.cells.lookup x=some c->c≠D/\c≠C:=λx c h=>by
  let⟨v,q⟩:=I.cell x c h;have:=q.lt;rw[hD]at this;exact⟨Í this,Í (Ö this hCle)⟩
 have pD:∀p∈X.pn++U,p.1≠D/\p.1≠C:=λp hp=>by
  have:=Heap.lt_size (I.pin p hp).1;rw[hD]at this;exact⟨Í this,Í (Ö this hCle)⟩
 have lL:=I.lt;have lS:=I.sz;rw[hD]at lL lS;have lSC:X.s₀.heap.objs.size<=C:=Ø lS hCle;have lLD:D≠X.env.locals:=ß lL;have lLC:C≠X.env.locals:=ß (Ö lL hCle);have Dfs:D∉iJ X.stack:=λz=>by
  let⟨_,o,ho,_⟩:=(I.stack).mem z;have:=Heap.lt_size ho;rw[hD]at this;exact ø _ this
 have fpb:∀{H':Hp}{ob:Obj},(∀b∈fp,H' b=none)->∀b∈fp,vH (aT X xs scope C fp s H1) [(D,ob)] H' b:=λ{H' ob}hn b hb=>
  ⟨hn b hb,Í (Ö (ltf b hb) hCle),λz=>by
   rcases Ë.mp (I.stkSub b z)with z|z
   .exact(hfp b hb).2.1 z
   .exact(hfp b hb).2.2.1 z,.inl hb,λx c h=>(hfp b hb).2.2.2.2.1 x c (rH h),λp hp=>by
    have e:p=(D,ob):=by simpa using hp
    rw[e];exact ß (ltf b hb)⟩
 have loop:∀s₃:Shared,s₃={s with heap:=h₁,toks:=s.toks+([]:List (Str×Value)).length} ->
   codeAny 'b' X.A (.compLoop 'o' 0 (.ref it) (.ref D) (compEnvC scope (f9 X.env.cells scope.names []) C X.env)) (R (.ref D) C) s₃:=by
  rintro s₃ rfl;refine mY (λn s'=>∃i σ' H' ys its k,Inv (aT X xs scope C fp s H1) [] σ' H' s'/\tn i s'.heap/\(∀b∈fp,H' b=none)/\W i n ys σ' H'/\bI ys its/\ys.length<=sizeLine /\
   s'.heap.get? D=some {cls:=.type "list",data:=.seq its.toArray k}/\H' D=none) ?_ m0 ⟨0,_,H1,[],[],0,J0,T.keep _ _ _ st0 λb hb o e=>old b o e,λb hb=>(hfp b hb).1,w0,.nil,ó _,hacc,I.hok.fresh (by rw[hD];exact Ç _)⟩
  rintro n s1 ⟨i,σ1,K1,ys,its,k,I1,st1,fr1,w1,rv,hz,hd,nd⟩;have lys:=rv.length;generalize hob:({cls:=.type "list",data:=.seq its.toArray k}:Obj)=ob at hd;have I1':Inv (aT X xs scope C fp s H1) [(D,ob)] σ1 K1 s1:=I1.pins_of λp hp=>by
   have e:p=(D,ob):=by simpa using hp
   rw[e];exact⟨hd,nd,hDC,Dfs,λv=>by rw[<- hob];exact λz=>by cases z⟩
  rcases turn i n ys σ1 K1 w1 with ⟨stop,qn⟩|⟨go,hlt,N,hN,step⟩
  .refine cM (T.done (aT X xs scope C fp s H1) rfl rfl rfl hc i [(D,ob)] s1 σ1 K1 (λ_ _=>False) I1' (fpb fr1) st1 stop) λr s2 zQ=>?_;let⟨hr,I2⟩:=zQ
   subst hr;have un:=I.unblock hfp I2;have hd2:=(I2.pin (D,ob) 'e').1;let⟨m2,hn2,_⟩:=I2.loc;refine hR D C (bA K1 D (.lst ys)) m2 s2 (un.adopt nd lS lLD (λx c h=>(cD x c h).1) (λp hp=>(pD p hp).1) ⟨hz,its,k,rv,by rw[hob];exact hd2⟩) (qn D nd) hn2 ?_ lSC lLC (λx c h=>(cD x c h).2) λp hp=>(pD p hp).2;rw[aF (Ñ hDC)];exact I2.free
  .refine cM (T.item (aT X xs scope C fp s H1) rfl rfl rfl hc i [(D,ob)] s1 σ1 K1 (λ_ _=>False) I1' (fpb fr1) st1 go) λr s2 zQ=>?_;let⟨u,hr,h2⟩:=zQ
   subst hr;refine cM h2 λ_ s3 zQ=>?_;let⟨x,H3,I3,r3,y3,st3,fr3⟩:=zQ;have I3':=I3.pinned (fpb fr3) (T.obj _ _ st3);have again:∀{σ7:St}{H7:Hp}{s7:Shared},Inv (aT X xs scope C fp s H1) ([(D,ob)]++wE fp s3.heap) σ7 H7 s7->Inv (aT X xs scope C fp s H1) [] σ7 H7 s7/\tn (i+1) s7.heap/\(∀b∈fp,H7 b=none)/\s7.heap.get? D=some ob/\H7 D=none:=λ{σ7 H7 s7}I7=>by
    have pi:∀b∈fp,∀o,s3.heap.get? b=some o->s7.heap.get? b=some o/\H7 b=none:=λb hb o e=>by
     have q:=I7.pin (b,o) (Ý _ (Ý _ (pZ hb e)));exact⟨q.1,q.2.1⟩
    have pd:=I7.pin (D,ob) (Ý _ (Ĝ _ 'e'));refine⟨I7.pins_of λp hp=>absurd hp 'e',T.keep _ _ _ st3 λb hb o e=>(pi b hb o e).1,λb hb=>?_,pd.1,pd.2.1⟩;let⟨o,e,_⟩:=T.obj _ _ st3 b hb;exact(pi b hb o e).2
   refine cM (hg C fp s H1 _ s3 σ1 H3 x u _ I3' r3 (step x H3 y3)) λ_ s4 zQ=>?_;let⟨σ4,H4,I4,q4⟩:=zQ;refine cM (hif C fp s H1 _ s4 σ4 H4 _ I4 q4) λb s5 zQ=>?_;let⟨H5,I5,q5⟩:=zQ;cases b with
   |false=>
    rw[Ã Ü]at q5⊢;let⟨m',hm,w5⟩:=hN _ _ _ q5;let⟨a1,a2,a3,a4,a5⟩:=again I5;exact⟨m',hm,i+1,σ4,H5,ys,its,k,a1,a2,a3,w5,rv,hz,by rw[hob];exact a4,a5⟩
   |true=>
    rw[Â rfl]at q5⊢;refine cM (he C fp s H1 _ s5 σ4 H5 _ I5 q5) λy s6 zQ=>?_;let⟨yv,H6,I6,r6,q6⟩:=zQ;let⟨m',hm,w6⟩:=hN _ _ _ q6;let⟨a1,a2,a3,a4,a5⟩:=again I6;rw[<- hob]at a4;refine call_meets F.slot_list_append ⟨_,a4,rfl⟩ F.entry_list_append (F.args_list_append_2 _ _) (PySem.list_append D its.toArray k y (by rw[ð];lia)) ⟨a4,?_⟩;have qd:∃k',(s6.heap.update D (Obj.mapSeq λz=>z.push y)).get? D=some {cls:=.type "list",data:=.seq (its++[y]).toArray k'}:=by
     have e:(its++[y]).toArray=its.toArray.push y:=by simp
     rw[e];exact⟨_,PySem.IsL.update a4 λz=>z.push y⟩
    let⟨k',qd⟩:=qd;refine⟨m',hm,i+1,σ4,H6,ys++[yv],its++[y],k',a1.turned (it:=D) (t':=s6.toks) (λb o hb e=>(Heap.get?_update_other s6.heap _ (Ñ hb)).trans e) a5 hDC (.inr (ý hD)) (λx c h=>(cD x c (rH h)).1) (λp hp=>absurd (show p∈([]:ZB)from hp) 'e'),?_,a3,w6,rv.append (.cons r6 .nil),by rw[Ì];exact hlt,qd,a5⟩;exact T.keep _ _ _ a2 λb hb o e=>(Heap.get?_update_other s6.heap _ (λz=>by rw[<- z]at hb;exact absurd (ltf D hb) (ø _))).trans e
 exact codeAny_compStart_list (loop _ rfl) (T.self _ 0 _ _ _ (T.keep _ _ _ st0 λb hb o e=>old b o e) (loop _ rfl))
def FA(hc:X.calm=true)(hi:PI X tg iter wi)(hg:∀C fp s H,PG 'h' tg g)(hif:∀C fp s H,QL 'h' ifs ti)(he:∀C fp s H,PE 'h' elt te)(hk:↥(scope.kind=.function))(hok:↥(dS X.N xs scope.names X.env.scope.names=true))(hs: ~~~(Zfi iter X.env)):
  PE X 'o' (LA xs.length wi g ti te):=by
 intro U s σ H Q I h;rw[eval_ListComp];refine wpAny_comprehension_free (use:=none) rfl hs (K9 (I.freeIn hok)) hk (rK hok) (cM (hi U s σ H _ I h) λv s1 h1=>cM h1 λitv s2 h2=>?_);refine wL (Q:=Q) hc hk hok hg hif he h2 λD C H' m s' I' q hn c1 c2 c3 c4 c5=>?_;exact⟨m,hn,λh' sb=>⟨.ref D,H',I'.turned (it:=C) (t':=s'.toks) (λb o hb e=>(sb.2 b hb).trans e) c1 c3 (.inr c2) c4 c5,rfl,q⟩⟩
def rM{pos' spos:Pos}(hc:X.calm=true)(hN:X.N.Nodup)(hx:X.N[i]?=some x)(hl:X.env.scope.names.lookup x=some .local)(hi:PI X tg iter wi)(hg:∀C fp s H,PG 'h' tg g)(hif:∀C fp s H,QL 'h' ifs ti)(he:∀C fp s H,PE 'h' elt te)(hsw:↥(swapsWith 'o' (some (.Name x pos')) spos.line X.env=pure true))(hk:↥(scope.kind=.function))(hok:↥(dS X.N xs scope.names X.env.scope.names=true))(hs: ~~~(Zfi iter X.env)):
  PS X (.Assign [.Name x pos'] 'o' spos) (X9 (LA xs.length wi g ti te) (pA i)):=by
 intro U s σ H D I h;rw[exec_Assign_Name_used _ _ _ _ hsw];refine wpAny_bind (wpAny_standAt (wpAny_bind ?_));show wpAny _ X.A (do let _ <- comprehension 'o' scope X.env _ (newList []) false (eval iter X.env) (some (assign (.Name x pos') X.env))) _ _ s;refine wpAny_bind (wpAny_mono (wpAny_comprehension_free (use:=some (assign (.Name x pos') X.env)) (Q:=λ_ s'=>SP X U D .next s') rfl hs (K9 (I.freeIn hok)) hk (rK hok)
  (cM (hi U s σ H _ I h) λv s1 h1=>cM h1 λitv s2 h2=>?_)) (λ_ s' hq=>wpAny_pure (wpAny_pure hq)) λ_ _ e=>e)
 refine wL (Q:=λv H'=>D.nx (σ.set i (some v)) H') hc hk hok hg hif he h2 λD' C H' m s' I' q hn c1 c2 c3 c4 c5=>?_;show wpAny _ X.A (assign (.Name x pos') X.env (.ref D')) _ _ _;refine wpAny_assign_Name (AK I' hN hx (.inl hl) (v:=.ref D') rfl (λs'' I'' zQ=>?_) (.inr hl));let⟨a,sb,ha⟩:=zQ;have hCa:C≠a:=by
  rcases ha with e|e
  .rw[e];exact c3
  .exact Ñ (c4 _ _ e)
 exact⟨m,hn.sameBut sb hCa,λh' sb'=>⟨_,H',I''.turned (it:=C) (t':=s''.toks) (λb o hb e=>(sb'.2 b hb).trans e) c1 c3 (.inr c2) c4 c5,q⟩⟩
end
def mP(h:Heap)(e:Addr)(cls:Value)(ch:ZM):Prop:=
 ∃oe vs,h.get? e=some oe/\(oe.cls=cls/\oe.dict=none)/\oe.data=.fields vs/\1<vs.size /\
  ((vs[1]?=some .none/\ch=[e])\/∃T oT ts fl,vs[1]?=some (.ref T)/\ch=[e,T]/\T≠e/\h.get? T=some oT/\oT.data=.fields ts/\ts[3]?=some fl)
def wM(o:Obj)(f:Array Value->Array Value):(o.mapFields f).dict=o.dict:=by
 unfold Obj.mapFields;split<;>rfl
structure XT(fs ch:ZM)(h h':Heap):Prop where
 keep:∀b o,b∉ch->b∉fs->h.get? b=some o->h'.get? b=some o
 slot:∀b o,b∉ch->h.get? b=some o->∃sl,h'.get? b=some {o with slots:=sl}
 there:∀b o,h.get? b=some o->∃o',h'.get? b=some o'
def XT.refl:XT fs ch h h:=⟨λ_ _ _ _ e=>e,λ_ o _ e=>⟨o.slots,e⟩,λ_ o e=>⟨o,e⟩⟩
def XT.trans{fs ch ch':ZM}{h h1 h2:Heap}(a:XT fs ch h h1)(b:XT fs ch' h1 h2)(hc:∀x∈ch',x∈ch\/h.get? x=none):XT fs ch h h2 where
 keep:=λx o n1 n2 e=>b.keep x o (λm=>(hc x m).elim n1 λz=>by rw[z]at e;cases e) n2 (a.keep x o n1 n2 e)
 slot:=λx o n1 e=>by
  let⟨sl,e1⟩:=a.slot x o n1 e;let⟨sl2,e2⟩:=b.slot x _ (λm=>(hc x m).elim n1 λz=>by rw[z]at e;cases e) e1;exact⟨sl2,e2⟩
 there:=λx o e=>by
  let⟨o1,e1⟩:=a.there x o e;exact b.there x o1 e1
section
variable {M:Model}{A:Around}{E:ZA}{s:Shared}{base:Heap}{env:Env}{outer:List Env}{L e:Addr}{cls:Value}{ch:ZM}{Q:Unit->Shared->Prop}
def FunFrames.noFields{h:Heap}(hl:h.FunFrames base l)(he:h.get? e=some o)(hd:o.data=.fields vs):e∉iJ l:=λhm=>by
 let⟨_,o',ho,hnf⟩:=hl.mem hm
 grind
def LB{oe:Obj}{vs:Array Value}{head:Value}{hadNext:Bool}(hfr:A.frames=some (env::outer))(hl:s.heap.FunFrames base (env::outer))(hf:env.frame=some L)(he:s.heap.get? e=some oe)(hd:oe.data=.fields vs)(hsz:1<vs.size)(h:∀h',XT (iJ (env::outer)) [e] s.heap h'->(∃oe' vs' T oT ts,h'.get? e=some oe'/\(oe'.cls=oe.cls/\oe'.dict=oe.dict)/\oe'.data=.fields vs'/\1<vs'.size/\vs'[1]?=some (.ref T)/\T≠e/\s.heap.get? T=none/\s.heap.objs.size<=T/\h'.get? T=some oT/\oT.data=.fields ts/\ts[3]?=some (rawInt L))->Q () {s with heap:=h'}):
  wpAny M A (do let a <- frameOf env;let pl <- entryPlaceOf L hadNext;let b <- EntryCells.newEntry head a .none (rawInt L) .none pl;setField (.ref e) 1 b) Q E s:=by
 have hene:=FunFrames.noFields hl he hd;refine wpAny_bind (wpAny_frameOf_fun hfr hl hf λh₁ hs₁=>?_);refine wpAny_bind (wpAny_entryPlaceOf λpl hpl=>?_);unfold EntryCells.newEntry newFields;refine wpAny_bind (wpAny_newObj_type ?_ (hpl.sizeOk5 _ _ _ _ _));have he₁:h₁.get? e=some oe:=(hs₁.2.1 e hene).trans he;have he₂:=Heap.get?_push_of_some (h:=h₁) {cls:=.type "traceback",dict:=none,data:=.fields ([head,.ref L,.none,rawInt L,.none]++(if pl.isEmpty then List.replicate 6 Value.none else pl)).toArray} he₁;refine wpAny_setField he₂ hd hsz (h _ ?_ ?_)
 all_goals have hTe:h₁.objs.size≠e:=ß (Heap.lt_size he₁)
 all_goals have hd₃:=Obj.data_mapFields hd (·.setIfInBounds 1 (Value.ref h₁.objs.size))
 all_goals have he₃:=Heap.get?_update_self (Obj.mapFields (·.setIfInBounds 1 (Value.ref h₁.objs.size))) he₂ (Obj.isFreed_of_fields hd₃)
 .have keep:∀b o,b≠e->h₁.get? b=some o ->
   ((h₁.push {cls:=.type "traceback",dict:=none,data:=.fields ([head,.ref L,.none,rawInt L,.none]++(if pl.isEmpty then List.replicate 6 Value.none else pl)).toArray}).update e (Obj.mapFields (·.setIfInBounds 1 (Value.ref h₁.objs.size)))).get? b=some o:=
   λb o hbe hb=>by
    rw[Heap.get?_update_other _ _ (Ñ hbe)];exact Heap.get?_push_of_some _ hb
  refine⟨λb o n1 n2 q=>keep b o (by simpa using n1) ((hs₁.2.1 b n2).trans q),λb o n1 q=>?_,λb o q=>?_⟩
  .obtain⟨sl,q1⟩:=hs₁.2.2 b o q
   exact⟨sl,keep b _ (by simpa using n1) q1⟩
  .by_cases hb:b=e
   .subst hb;exact⟨_,he₃⟩
   .obtain⟨sl,q1⟩:=hs₁.2.2 b o q
    exact⟨_,keep b _ hb q1⟩
 .have hT₃:=(Heap.get?_update_other (h₁.push {cls:=.type "traceback",dict:=none,data:=.fields ([head,.ref L,.none,rawInt L,.none]++(if pl.isEmpty then List.replicate 6 Value.none else pl)).toArray})
   (Obj.mapFields (·.setIfInBounds 1 (Value.ref h₁.objs.size))) (Ñ hTe)).trans (Heap.get?_push_size h₁ rfl)
  have hsz1:s.heap.objs.size<=h₁.objs.size:=ý hs₁.1.symm;refine⟨_,_,h₁.objs.size,_,_,he₃,⟨Obj.cls_mapFields _ _,wM _ _⟩,hd₃,by simpa using hsz,by simp[hsz],hTe,?_,hsz1,hT₃,rfl,by first|(simp;done)|(rcases hpl with rfl|⟨_,_,_,_,_,_,_,rfl⟩<;>simp)⟩;cases q:s.heap.get? h₁.objs.size with
  |none=>rfl
  |some o=>exact absurd (Heap.lt_size q) (Nat.not_lt_of_le hsz1)
def wN(h0 h:Heap)(e:Addr)(cls:Value)(ch ch':ZM)(fl:Value):Prop:=
 ∃oe vs T oT ts,h.get? e=some oe/\(oe.cls=cls/\oe.dict=none)/\oe.data=.fields vs/\1<vs.size/\vs[1]?=some (.ref T)/\ch'=[e,T]/\T≠e/\h.get? T=some oT/\oT.data=.fields ts/\ts[3]?=some fl/\(T∈ch\/(h0.get? T=none/\h0.objs.size<=T))
def wN.exc(x:wN h0 h e cls ch ch' fl):mP h e cls ch':=by
 let⟨oe,vs,T,oT,ts,h1,h2,h3,h4,h5,h6,h7,h8,h9,h10,_⟩:=x;exact⟨oe,vs,h1,h2,h3,h4,.inr ⟨T,oT,ts,fl,h5,h6,h7,h8,h9,h10⟩⟩
def wN.new(x:wN h0 h e cls ch ch' fl)(he:e∈ch):∀b∈ch',b∈ch\/(h0.get? b=none/\h0.objs.size<=b):=by
 let⟨oe,vs,T,oT,ts,h1,h2,h3,h4,h5,h6,h7,h8,h9,h10,h11⟩:=x;subst h6;intro b hb;simp![Ë,Û,or_false]at hb;rcases hb with rfl|rfl
 .exact .inl he
 .exact h11
def mP.mem(x:mP h e cls ch):e∈ch:=by
 obtain⟨_,_,_,_,_,_,⟨_,rfl⟩|⟨_,_,_,_,_,rfl,_⟩⟩:=x<;>simp
def FunFrames.xt(hl:h.FunFrames base l)(hx:XT (iJ l) ch h h')(hc:∀b∈ch,∃o vs,h.get? b=some o/\o.data=.fields vs):h'.FunFrames base l:=
 hl.of_keeps λb o ho hn=>by
  let⟨sl,q⟩:=hx.slot b o (λm=>by grind) ho;exact⟨_,q,rfl⟩
def mP.recs(x:mP h e cls ch):∀b∈ch,∃o vs,h.get? b=some o/\o.data=.fields vs:=by
 obtain⟨oe,vs,h1,h2,h3,h4,⟨h5,rfl⟩|⟨T,oT,ts,fl,h5,rfl,h6,h7,h8,h9⟩⟩:=x
 all_goals grind
def aFB(hfr:A.frames=some (env::outer))(hl:s.heap.FunFrames base (env::outer))(hf:env.frame=some L)(x:mP s.heap e cls ch)(h:∀h' ch',XT (iJ (env::outer)) ch s.heap h'->wN s.heap h' e cls ch ch' (rawInt L)->Q () {s with heap:=h'}):wpAny M A (noteFrame (.ref e) env) Q E s:=by
 have hrec:=x.recs;obtain⟨oe,vs,he,⟨rfl,hdi⟩,hd,hsz,⟨h1,rfl⟩|⟨T,oT,ts,fl,h1,rfl,hTe,hT,hdT,h3⟩⟩:=x
 .unfold noteFrame
  simp![hf];refine wpAny_bind (wpAny_field he hd h1 ?_);rw[Ã ⋯];refine LB hfr hl hf he hd hsz λh' xt m=>?_;let⟨oe',vs',T,oT,ts,q1,q2,q3,q4,q5,q6,q7,q8,q9,q10,q11⟩:=m;exact h h' [e,T] xt ⟨oe',vs',T,oT,ts,q1,⟨q2.1,q2.2.trans hdi⟩,q3,q4,q5,rfl,q6,q9,q10,q11,.inr ⟨q7,q8⟩⟩
 .unfold noteFrame
  simp![hf];refine wpAny_bind (wpAny_field he hd h1 ?_);rw[Â (show (Value.ref T != Value.none)=true from by simp)];refine wpAny_bind (wpAny_field hT hdT h3 ?_);by_cases hfl:fl=rawInt L
  .subst hfl
   rw[Â (show (rawInt L == rawInt L)=true from by simp)];exact wpAny_pure (h s.heap [e,T] XT.refl ⟨oe,vs,T,oT,ts,he,⟨rfl,hdi⟩,hd,hsz,h1,rfl,hTe,hT,hdT,h3,.inl 'e'⟩)
  .rw[Ã (show ¬((fl == rawInt L)=true)from λz=>hfl (beq_iff_eq.mp z))]
   refine wpAny_bind (wpAny_setField hT hdT (Array.getElem?_eq_some_iff.mp h3).1 ?_);have other:∀b,b≠T->(s.heap.update T (Obj.mapFields (·.setIfInBounds 3 Value.none))).get? b=s.heap.get? b:=λb hb=>Heap.get?_update_other _ _ (Ñ hb);have hself:=Heap.get?_update_self (Obj.mapFields (·.setIfInBounds 3 Value.none)) hT (Obj.isFreed_of_fields (Obj.data_mapFields hdT _));have xt1:XT (iJ (env::outer)) [e,T] s.heap (s.heap.update T (Obj.mapFields (·.setIfInBounds 3 Value.none))):=by
    refine⟨λb o n1 n2 q=>(other b (by simp at n1;exact n1.2)).trans q,λb o n1 q=>⟨o.slots,(other b (by simp at n1;exact n1.2)).trans q⟩,λb o q=>?_⟩;by_cases hb:b=T
    .grind
    .grind
   refine LB hfr (FunFrames.xt hl xt1 hrec) hf ((other e (Ñ hTe)).trans he) hd hsz λh' xt m=>?_;let⟨oe',vs',T',oT',ts',q1,q2,q3,q4,q5,q6,q7,q8,q9,q10,q11⟩:=m;have hn:s.heap.get? T'=none:=by
    cases z:s.heap.get? T' with
    |none=>rfl
    |some o=>
     grind
   have hs':s.heap.objs.size<=T':=by
    have q8:(s.heap.update T (Obj.mapFields (·.setIfInBounds 3 Value.none))).objs.size<=T':=q8
    rwa [Heap.size_after_update]at q8
   exact h h' [e,T'] (xt1.trans xt λb hb=>by grind) ⟨oe',vs',T',oT',ts',q1,⟨q2.1,q2.2.trans hdi⟩,q3,q4,q5,rfl,q6,q9,q10,q11,.inr ⟨hn,hs'⟩⟩
def RH{fs:ZM}(x:mP s.heap e cls ch)(h:∀h',XT fs ch s.heap h'->mP h' e cls ch->Q () {s with heap:=h'}):wpAny M A (setFlight (.ref e) none) Q E s:=by
 obtain⟨oe,vs,he,⟨rfl,hdi⟩,hd,hsz,⟨h1,rfl⟩|⟨T,oT,ts,fl,h1,rfl,hTe,hT,hdT,h3⟩⟩:=x
 .unfold setFlight
  refine wpAny_bind (wpAny_field he hd h1 ?_);rw[Ã ⋯];exact wpAny_pure (h s.heap XT.refl ⟨oe,vs,he,⟨rfl,hdi⟩,hd,hsz,.inl ⟨h1,rfl⟩⟩)
 .unfold setFlight
  refine wpAny_bind (wpAny_field he hd h1 ?_);rw[Â (show (Value.ref T != Value.none)=true from by simp)];have hsz3:=(Array.getElem?_eq_some_iff.mp h3).1;have other:∀b,b≠T->(s.heap.update T (Obj.mapFields (·.setIfInBounds 3 ((none:Option Addr).elim Value.none λf=>rawInt f)))).get? b=s.heap.get? b:=λb hb=>Heap.get?_update_other _ _ (Ñ hb);have hself:=Heap.get?_update_self (Obj.mapFields (·.setIfInBounds 3 ((none:Option Addr).elim Value.none λf=>rawInt f))) hT (Obj.isFreed_of_fields (Obj.data_mapFields hdT _));refine wpAny_setField hT hdT hsz3 (h _ ?_ ?_)
  .refine⟨λb o n1 n2 q=>(other b (by simp at n1;exact n1.2)).trans q,λb o n1 q=>⟨o.slots,(other b (by simp at n1;exact n1.2)).trans q⟩,λb o q=>?_⟩
   grind
  .exact⟨oe,vs,(other e (Ñ hTe)).trans he,⟨rfl,hdi⟩,hd,hsz,.inr ⟨T,_,_,_,h1,rfl,hTe,hself,Obj.data_mapFields hdT _,by simp[hsz3];rfl⟩⟩
def YV(hfr:A.frames=some (env::outer))(hl:s.heap.FunFrames base (env::outer))(hf:env.frame=some L)(x:mP s.heap e cls ch)(h:∀h' ch',XT (iJ (env::outer)) ch s.heap h'->mP h' e cls ch'->(∀b∈ch',b∈ch\/(s.heap.get? b=none/\s.heap.objs.size<=b))->Q () {s with heap:=h'}):wpAny M A (leaving env (.ref e)) Q E s:=by
 have hm:=x.mem;unfold leaving;refine wpAny_bind (aFB hfr hl hf x λh1 ch1 xt1 m1=>?_);have hn:=m1.new hm;refine RH (fs:=iJ (env::outer)) m1.exc λh2 xt2 e2=>?_;exact h h2 ch1 (xt1.trans xt2 λb hb=>(hn b hb).imp id (·.1)) e2 hn
end
section
variable {X:Cx}{U:ZB}{σ:St}{H H':Hp}{s:Shared}{h':Heap}{ch:ZM}{b:Addr}
structure uV(X:Cx)(U:ZB)(H:Hp)(b:Addr):Prop where
 un:H b=none
 new:b∈X.ex\/X.s₀.heap.get? b=none
 fr:b≠X.env.locals
 cell:∀x c,X.env.cells.lookup x=some c->c≠b
 pin:∀p∈X.pn++U,p.1≠b
def dO.there(x:dO P w H h a o):∃ob,h.get? a=some ob:=by
 cases o with
 |lst xs=>let⟨_,_,_,_,e⟩:=x;exact⟨_,e⟩
 |tup xs=>let⟨_,_,_,_,e,_⟩:=x;exact⟨_,e⟩
 |dK À=>let⟨_,_,_,_,o,_,_,e,_⟩:=x;exact⟨_,e⟩
 |dT À=>let⟨_,_,_,_,o,_,_,e,_⟩:=x;exact⟨_,e⟩
 |set S n=>let⟨o,_,_,_,e,_⟩:=x;exact⟨_,e⟩
 |ins C dx fs=>let⟨_,_,_,e,_⟩:=x;exact⟨_,e⟩
 |own y=>let⟨_,e⟩:=x;exact⟨_,e⟩
 |xd fs=>let⟨_,⟨_,_,_,e,_⟩,_⟩:=x;exact⟨_,e⟩
 |rng lo hi=>let⟨_,_,_,e⟩:=x;exact⟨_,e⟩
 |frz o u=>exact⟨_,x.1⟩
 |tbl ps=>exact⟨_,x⟩
 |lam t u q=>let⟨_,e,_⟩:=x;exact⟨_,e⟩
 |met f y=>exact⟨_,x⟩
 |ext φ=>exact x.2.1
def mM.none(x:mM P w H h)(e:h.get? a=Option.none):H a=Option.none:=by
 cases q:H a with
 |none=>rfl
 |some u=>
  let⟨o,z⟩:=(x a u q).there;rw[e]at z;cases z
def uV.of(I:Inv X U σ H s)(hn:H' b=none)(h:s.heap.get? b=none):uV X U H' b:=by
 refine⟨hn,?_,λe=>?_,λx c e z=>?_,λp hp z=>?_⟩
 .by_cases hx:b∈X.ex
  .exact .inl hx
  .refine .inr ?_
   cases q:X.s₀.heap.get? b with
   |none=>rfl
   |some o=>
    let⟨o',e⟩:=I.base.there b o q hx;rw[h]at e;cases e
 .obtain⟨m,⟨o,es,ep,ho,_⟩,_⟩:=I.loc
  grind
 .obtain⟨v,o,ho,_⟩:=I.cell x c e
  rw[z,h]at ho;cases ho
 .have:=(I.pin p hp).1
  grind
def XT.hok(I:Inv X U σ H s)(x:XT (iJ X.stack) ch s.heap h')(hc:∀b∈ch,H b=none):mM X.prog X.w H h':=λa o e=>
 (I.hok a o e).stay (λb u hb q=>x.keep b u (λm=>by
  grind) (λm=>by
  have:=I.stkFree b m
  grind) q) (λ_ q=>q) λ_ _ q=>q
def Inv.xt(I:Inv X U σ H s)(x:XT (iJ X.stack) ch s.heap h')(hc:∀b∈ch,uV X U H b):Inv X U σ H {s with heap:=h'}:=by
 have nl:∀b o,X.s₀.heap.get? b=some o->b≠X.env.locals:=λb o q e=>ø _ (Ö (Heap.lt_size q) (by rw[e];exact I.ok.above));have nc:∀b o,X.s₀.heap.get? b=some o->b∉X.ex->b∉ch:=λb o q hx m=>by rw[(hc b m).new.resolve_left hx]at q;cases q
 have cells:∀c v,(∃y,X.env.cells.lookup y=some c)->s.heap.IsCell c v->h'.IsCell c v:=λc v⟨y,e⟩⟨o,ho,hd⟩=>by
  let⟨sl,q⟩:=x.slot c o (λm=>(hc c m).cell y c e rfl) ho;exact⟨_,q,hd⟩
 refine⟨I.ok,I.os,I.bare,⟨λb o q n hf hx=>x.keep b o (nc b o q hx) (λz=>(Ë.mp (I.stkSub b z)).elim (nl b o q) hf) (I.base.keep b o q n hf hx),λb o q n hf hx=>?_,I.base.free,λb o q hx=>?_,I.base.tups,I.base.frzs,I.base.tbls⟩,?_,λy c e=>?_,I.free,I.freeC,λp hp=>?_,x.hok I λb hb=>(hc b hb).un,I.len⟩
 .obtain⟨sl,e⟩:=I.base.slot b o q n hf hx
  let⟨sl2,e2⟩:=x.slot b _ (nc b o q hx) e;exact⟨sl2,e2⟩
 .obtain⟨o1,e1⟩:=I.base.there b o q hx
  exact x.there b o1 e1
 .obtain⟨m,⟨o,es,ep,ho,r⟩,hl⟩:=I.loc
  let⟨sl,q⟩:=x.slot X.env.locals o (λmm=>(hc _ mm).fr rfl) ho;refine⟨m,⟨_,es,ep,q,r⟩,λi y v e1 e2 e3=>?_⟩;let⟨u,r1,lk⟩:=hl i y v e1 e2 e3;refine⟨u,r1,?_⟩;rcases lk with lk|⟨lk,c,c1,c2⟩
  .exact .inl lk
  .exact .inr ⟨lk,c,c1,cells c _ ⟨y,c1⟩ c2⟩
 .obtain⟨v,q⟩:=I.cell y c e
  exact⟨v,cells c v ⟨y,e⟩ q⟩
 .obtain⟨e,n,ne,nf,d⟩:=I.pin p hp
  exact⟨x.keep p.1 p.2 (λm=>(hc p.1 m).pin p hp rfl) (λz=>(Ë.mp (I.stkSub p.1 z)).elim ne nf) e,n,ne,nf,d⟩
def š(X:Cx)(U:ZB)(H:Hp)(s:Shared)(nm:Str)(e:Value):Prop:=
 ∃a cls ch,e=.ref a/\W.nsIn X.K mainGlobals nm=some (some cls)/\mP s.heap a cls ch/\∀b∈ch,uV X U H b
end
abbrev D:=PyData
abbrev DS:=List (ZL)
inductive Res(α:Type) where
 |ok (a:α) (δ:DS)
 |err (x:D) (δ:DS)
 |stuck
def Res.bind{α β:Type}:Res α->(α->DS->Res β)->Res β
 |.ok a δ,k=>k a δ
 |.err x δ,_=>.err x δ
 |.stuck,_=>.stuck
abbrev M(α:Type):=DS->Res α
structure bT where
 F0:Hp
 H0:Hp
 g0:Addr->Option (Nat×ZH)
 ps:ZH
 σ0:St
 owp:ZH
 wf:∀a i q,g0 a=some (i,q)->i∈ps
abbrev Ţ:=Nat×ZH
abbrev ZP:=Addr->Option Ţ
def kd:Nat->Nat
 |20=>2
 |30=>3
 |_=>0
def ch:Nat->Nat->Nat
 |20,1=>1
 |20,2=>1
 |20,_=>0
 |30,_=>0
 |n,_=>n-1
def dD(nm:Str)(fs:ZG)(ds:ZI):D:=.dict ((.none,.str nm)::(fs.map PyData.str).zip ds)
def kE(ms:List dN)(ds:ZI):D:=.dict ((ms.map ER).zip ds)
abbrev RI:=Addr×ZH×HO
def Nd(K:ZC)(k:Nat)(d:D)(ds:ZI)(v:V)(vs:List V)(cs:List RI):Prop:=match k with
 |0=>∃a,d=.list ds/\v=.ref a/\cs=[(a,[],.lst vs)]
 |1=>∃a,d=.tuple ds/\v=.ref a/\cs=[(a,[],.tup vs)]
 |2=>∃a nm fs C dx,d=dD nm fs ds/\v=.ref a/\fs.length=ds.length/\W.nsIn K mainGlobals nm=some (some (.ref C))/\cs=[(a,[],.ins C dx (fs.zip vs)),(dx,[1000],.own a)]
 |_=>∃a ms,d=kE ms ds/\v=.ref a/\ms.length=ds.length/\cs=[(a,[],.dK (ms.zip vs))]
def iC(K:ZC)(F H:Hp)(g:ZP)(i:Nat):Nat->Nat->ZH->D->V->Prop
 |_,0,_,d,v=>bG K F d v
 |0,_+1,_,_,_=>False
 |f+1,c+1,p,d,v=>∃(ds:ZI)(vs:List V)(cs:List RI),Nd K (kd (c+1)) d ds v vs cs/\(∀x∈cs,g x.1=some (i,p++x.2.1)/\H x.1=some x.2.2/\F x.1=none)/\ds.length=vs.length /\
   ∀(k:Nat)(d':D)(v':V),ds[k]?=some d'->vs[k]?=some v'->iC K F H g i f (ch (c+1) k) (p++[k]) d' v'
def bC(K:ZC)(F H:Hp)(g:ZP)(i:Nat)(n:Nat)(p:ZH)(d:D)(v:V):Prop:=iC K F H g i n n p d v
def mZ:Str:="place_below"
def kF:Str:="place_below.<locals>.<lambda>"
def B6:List Stmt->Option Pos
 |[_,.Return (some (.Call _ _ (⟨_,.Lambda _ _ _ pos,_⟩::_) _)) _]=>some pos
 |_=>none
def jI(K:ZC):(Option (Addr×Addr×Pos)):=match W.nsIn K mainGlobals mZ with
 |some (some (.ref f))=>(match K.lookup f with
  |some ⟨_,_,.func fd,_⟩=>(match fd.body,W.tabIn K mZ with
   |.stmts b,some (c,P)=>(match B6 b with
    |some pos=>some (c,P,pos)
    |none=>none)
   |_,_=>none)
  |_=>none)
 |_=>none
def XU(K:ZC)(F:Hp):Prop:=∀c P pos,jI K=some (c,P,pos)->F P=some (.lam (rawInt pos.line) (rawInt pos.col) kF)
def XU.mono{K:ZC}(h:XU K F)(s:aI F F'):XU K F':=λc P pos e=>s _ _ (h c P pos e)
def AT(K:ZC)(F0 F:Hp):Prop:=XU K F0/\aI F0 F
def AT.trans'{K:ZC}(a:AT K H H1)(b:aI H1 H2):AT K H H2:=⟨a.1,λc o h=>b c o (a.2 c o h)⟩
def AT.lm{K:ZC}(a:AT K H H1):XU K H1:=a.1.mono a.2
structure bU(K:ZC)(Z:bT)(ow:ZH)(g:ZP)(F H:Hp)(σ:St)(δ:DS):Prop where
 sub:aI F H
 f0:AT K Z.F0 F
 kept:∀b o,Z.g0 b=none->Z.H0 b=some o->H b=some o
 new:∀a,Z.F0 a=none->Z.H0 a≠none->F a=none
 there:∀b,Z.H0 b≠none->H b≠none
 lab:∀a i p,g a=some (i,p)->Z.H0 a=none\/∃q,Z.g0 a=some (i,q)
 len:δ.length=σ.length
 par:∀i∈Z.ps,σ[i]?=Z.σ0[i]?/\ow.getD i 0=Z.owp.getD i 0
 slot:∀(i:Nat)(d:D),δ[i]?=some (some d)->∃v,σ[i]?=some (some v)/\bC K F H g i (ow.getD i 0) [] d v
def cN(K:ZC)(Z:bT)(ow:ZH)(F H:Hp)(σ:St)(δ:DS):Prop:=∃g,bU K Z ow g F H σ δ
def f8(K:ZC)(Z:bT)(ow:ZH)(n:Nat)(d:D)(v:V)(F H:Hp)(σ:St)(δ:DS):Prop:=∃g,bU K Z ow g F H σ δ/\bC K F H g 1000 n [] d v
def aI.trans'(a:aI H H1)(b:aI H1 H2):aI H H2:=λc o h=>b c o (a c o h)
def aD.len{K:ZC}:∀{ds:ZI}{vs:List V},aD K F ds vs->ds.length=vs.length
 |[],vs,h=>by unfold aD at h;rw[h];rfl
 |d::ds,vs,h=>by
  unfold aD at h;let⟨x,r,rfl,_,h⟩:=h;rw[Ó,Ó,aD.len h]
def aD.get{K:ZC}:∀{ds:ZI}{vs:List V}{i:Nat}{d:D},aD K F ds vs->ds[i]?=some d->∃v,vs[i]?=some v/\bG K F d v
 |d::ds,vs,0,d',h,e=>by
  unfold aD at h
  grind
 |d::ds,vs,i+1,d',h,e=>by
  unfold aD at h;let⟨x,r,rfl,hx,h⟩:=h;exact aD.get (i:=i) h e
def aD.of{K:ZC}{ds:ZI}(hl:ds.length=vs.length)(h:∀(k:Nat)(d:D)(v:V),ds[k]?=some d->vs[k]?=some v->bG K F d v):aD K F ds vs:=by
 induction ds generalizing vs with
 |nil=>
  cases vs with
  |nil=>unfold aD;rfl
  |cons v vs=>cases hl
 |cons d ds ih=>
  cases vs with
  |nil=>cases hl
  |cons v vs=>
   unfold aD;exact⟨v,vs,rfl,h 0 d v rfl rfl,ih (Nat.succ.inj hl) λk d' v' e1 e2=>h (k+1) d' v' e1 e2⟩
def aD.both{K:ZC}{ds:ZI}(h:aD K F ds vs)(k:Nat)(d:D)(v:V)(e1:ds[k]?=some d)(e2:vs[k]?=some v):bG K F d v:=by
 let⟨v',e,r⟩:=h.get e1
 grind
def lQ{K:ZC}:aD K F [] []:=by unfold aD;rfl
def lR{K:ZC}(h:bG K F d v)(t:aD K F ds vs):aD K F (d::ds) (v::vs):=by unfold aD;exact⟨v,vs,rfl,h,t⟩
def aD.app{K:ZC}:∀{ds es:ZI}{vs ws:List V},aD K F ds vs->aD K F es ws->aD K F (ds++es) (vs++ws)
 |[],es,vs,ws,h,t=>by unfold aD at h;rw[h];exact t
 |d::ds,es,vs,ws,h,t=>by
  unfold aD at h;let⟨x,r,rfl,hx,h⟩:=h;exact lR hx (aD.app h t)
def aD.take{K:ZC}(n:Nat)(h:aD K F ds vs):aD K F (ds.take n) (vs.take n):=
 aD.of (by rw[ù,ù,h.len]) λk d v e1 e2=>by
  rw[List.getElem?_take]at e1 e2;split at e1
  .rw[Â 's']at e2;exact h.both k d v e1 e2
  .cases e1
def aD.drop{K:ZC}(n:Nat)(h:aD K F ds vs):aD K F (ds.drop n) (vs.drop n):=
 aD.of (by rw[Ĕ,Ĕ,h.len]) λk d v e1 e2=>by
  rw[List.getElem?_drop]at e1 e2;exact h.both _ d v e1 e2
def LC:∀{c k:Nat},ch (c+1) k<=c:=by
 intro c k;unfold ch;split<;>lia
def iC.trans{K:ZC}{g g':ZP}(hF:aI F F')(h:∀a p o,g a=some (i,p)->H a=some o->F a=none->g' a=some (j,q++p)/\H' a=some o/\F' a=none)(r:iC K F H g i f c p d v):iC K F' H' g' j f c (q++p) d v:=by
 induction f generalizing c p d v with
 |zero=>
  cases c with
  |zero=>exact hF.rep d v r
  |succ c=>exact r.elim
 |succ f ih=>
  cases c with
  |zero=>exact hF.rep d v r
  |succ c=>
   let⟨ds,vs,cs,nd,hc,hl,r⟩:=r;refine⟨ds,vs,cs,nd,λx hx=>?_,hl,λk d' v' q1 q2=>?_⟩
   .obtain⟨a1,a2,a3⟩:=hc x hx
    rw[List.append_assoc];exact h _ _ _ a1 a2 a3
   .rw[List.append_assoc]
    exact ih (r k d' v' q1 q2)
def iC.fuel{K:ZC}(h1:c<=f)(h2:c<=f')(r:iC K F H g i f c p d v):iC K F H g i f' c p d v:=by
 induction f generalizing c f' p d v with
 |zero=>
  cases c with
  |zero=>unfold iC at r⊢;exact r
  |succ c=>exact r.elim
 |succ f ih=>
  cases c with
  |zero=>unfold iC at r⊢;exact r
  |succ c=>
   cases f' with
   |zero=>exact absurd h2 (Nat.not_succ_le_zero _)
   |succ f'=>
    let⟨ds,vs,cs,nd,hc,hl,r⟩:=r;exact⟨ds,vs,cs,nd,hc,hl,λk d' v' q1 q2=>ih (Ø LC (Nat.le_of_succ_le_succ h1)) (Ø LC (Nat.le_of_succ_le_succ h2)) (r k d' v' q1 q2)⟩
def bC.open{K:ZC}(h:bC K F H g i (c+1) p d v):
  ∃(ds:ZI)(vs:List V)(cs:List RI),Nd K (kd (c+1)) d ds v vs cs/\(∀x∈cs,g x.1=some (i,p++x.2.1)/\H x.1=some x.2.2/\F x.1=none)/\ds.length=vs.length /\
   ∀(k:Nat)(d':D)(v':V),ds[k]?=some d'->vs[k]?=some v'->bC K F H g i (ch (c+1) k) (p++[k]) d' v':=by
 let⟨ds,vs,cs,nd,hc,hl,r⟩:=h;exact⟨ds,vs,cs,nd,hc,hl,λk d' v' q1 q2=>iC.fuel LC (Ç _) (r k d' v' q1 q2)⟩
def bC.shut{K:ZC}{F H:Hp}{g:ZP}{i c:Nat}{p:ZH}{d:D}{v:V}{ds:ZI}{vs:List V}{cs:List RI}(nd:Nd K (kd (c+1)) d ds v vs cs)(hc:∀x∈cs,g x.1=some (i,p++x.2.1)/\H x.1=some x.2.2/\F x.1=none)(hl:ds.length=vs.length)(r:∀(k:Nat)(d':D)(v':V),ds[k]?=some d'->vs[k]?=some v'->bC K F H g i (ch (c+1) k) (p++[k]) d' v'):bC K F H g i (c+1) p d v:=
 ⟨ds,vs,cs,nd,hc,hl,λk d' v' q1 q2=>iC.fuel (Ç _) LC (r k d' v' q1 q2)⟩
def bC.lst{K:ZC}{i c m:Nat}(h:bC K F H g i (c+1) p d v)(hk:↥(kd (c+1)=0))(hm:∀k,ch (c+1) k=m:=by intro k;rfl):
  ∃(a:Addr)(ds:ZI)(vs:List V),d=.list ds/\v=.ref a/\g a=some (i,p)/\H a=some (.lst vs)/\F a=none/\ds.length=vs.length /\
   ∀(k:Nat)(d':D)(v':V),ds[k]?=some d'->vs[k]?=some v'->bC K F H g i m (p++[k]) d' v':=by
 let⟨ds,vs,cs,nd,hc,hl,r⟩:=h.open;rw[hk]at nd;let⟨a,rfl,rfl,rfl⟩:=nd;let⟨a1,a2,a3⟩:=hc _ (í.mpr rfl);exact⟨a,ds,vs,rfl,rfl,by simpa using a1,a2,a3,hl,λk d' v' q1 q2=>by rw[<- hm k];exact r k d' v' q1 q2⟩
def bC.mkL{K:ZC}{g:ZP}(h:∃(a:Addr)(ds:ZI)(vs:List V),d=.list ds/\v=.ref a/\g a=some (i,p)/\H a=some (.lst vs)/\F a=none/\ds.length=vs.length /\
   ∀(k:Nat)(d':D)(v':V),ds[k]?=some d'->vs[k]?=some v'->bC K F H g i m (p++[k]) d' v')(hk:↥(kd (c+1)=0))(hm:∀k,ch (c+1) k=m:=by intro k;rfl):bC K F H g i (c+1) p d v:=by
 let⟨a,ds,vs,e1,e2,e3,e4,e5,e6,h⟩:=h;refine bC.shut (ds:=ds) (vs:=vs) (cs:=[(a,[],.lst vs)]) (by rw[hk];exact⟨a,e1,e2,rfl⟩) (λx hx=>?_) e6 λk d' v' q1 q2=>by rw[hm k];exact h k d' v' q1 q2
 rw[í.mp hx];exact⟨by simpa using e3,e4,e5⟩
def bC.keepJ{K:ZC}{g g':ZP}(hF:aI F F')(h:∀a p o,g a=some (i,p)->H a=some o->F a=none->g' a=some (j,p)/\H' a=some o/\F' a=none)(r:bC K F H g i n p d v):bC K F' H' g' j n p d v:=
 iC.trans (q:=[]) hF h r
def bC.mono{K:ZC}(hF:aI F F')(hg:∀a l,l.1=i->g a=some l->g' a=some l)(hn:∀a l,l.1=i->g a=some l->F a=none->F' a=none)(hH:∀a l o,l.1=i->g a=some l->H a=some o->H' a=some o)(r:bC K F H g i n p d v):bC K F' H' g' i n p d v:=r.keepJ hF λa p o e1 e2 e3=>⟨hg a _ rfl e1,hH a _ _ rfl e1 e2,hn a _ rfl e1 e3⟩
def bC.relab{K:ZC}{g g':ZP}(hg:∀a p,g a=some (i,p)->g' a=some (j,p))(r:bC K F H g i n p d v):bC K F H g' j n p d v:=
 r.keepJ (λ_ _ z=>z) λa p o e1 e2 e3=>⟨hg a p e1,e2,e3⟩
def Nd.rep{K:ZC}{F:Hp}{k:Nat}{d:D}{ds:ZI}{v:V}{vs:List V}{cs:List RI}(nd:Nd K k d ds v vs cs)(hc:∀x∈cs,F x.1=some x.2.2)(hl:ds.length=vs.length)(r:aD K F ds vs):bG K F d v:=by
 unfold Nd at nd;split at nd
 .obtain⟨a,rfl,rfl,rfl⟩:=nd
  unfold bG;exact⟨a,vs,rfl,eE.of (hc _ (í.mpr rfl)),r⟩
 .obtain⟨a,rfl,rfl,rfl⟩:=nd
  unfold bG;exact⟨a,vs,rfl,rB.of (hc _ (í.mpr rfl)),r⟩
 .obtain⟨a,nm,fs,C,dx,rfl,rfl,hfl,hC,rfl⟩:=nd
  have h1:=hc _ (Õ);have h2:=hc _ (Ò _ (í.mpr rfl));unfold dD bG;refine⟨a,.str nm::vs,rfl,.inl ⟨nm,fs,C,dx,vs,rfl,?_,by grind,h1,h2,hC⟩,?_⟩
  .rw[Ï,Ē 'k']
  .unfold hZ
   exact⟨_,_,rfl,by unfold bG;rfl,wJ 'k' r⟩
 .obtain⟨a,ms,rfl,rfl,hm,rfl⟩:=nd
  unfold kE bG;refine⟨a,vs,rfl,.inr ⟨ms,?_,by grind,hc _ (í.mpr rfl)⟩,wJ 'k' r⟩;rw[Ē 'k']
def iC.froze{K:ZC}{g:ZP}(hF:aI F F')(h:∀a p o,g a=some (i,p)->H a=some o->F a=none->F' a=some o):
  ∀{f c:Nat}{p:ZH}{d:D}{v:V},iC K F H g i f c p d v->bG K F' d v
 |0,0,_,d,v,r=>hF.rep d v r
 |_+1,0,_,d,v,r=>hF.rep d v r
 |_+1,_+1,p,d,v,⟨ds,vs,cs,nd,hc,hl,r⟩=>nd.rep (λx hx=>by
   let⟨a1,a2,a3⟩:=hc x hx;exact h _ _ _ a1 a2 a3) hl (aD.of hl λk d' v' q1 q2=>iC.froze hF h (r k d' v' q1 q2))
def XV(g:ZP)(i:Nat)(F H:Hp):Hp:=λb=>open Classical in if ∃p,g b=some (i,p)then (if F b=none then H b else F b)else F b
def aFC{g:ZP}{i:Nat}{F H:Hp}{b:Addr}{p:ZH}(h:g b=some (i,p))(hn:F b=none):XV g i F H b=H b:=by
 unfold XV;rw[Â ⟨p,h⟩,Â hn]
def LD{g:ZP}{i:Nat}{F H:Hp}{b:Addr}(h:∀p,g b≠some (i,p)):XV g i F H b=F b:=by
 unfold XV;rw[Ã λzQ=>by let⟨p,e⟩:=zQ;exact h p e]
def m4:aI F (XV g i F H):=λb o e=>by
 unfold XV
 simp_all
def YW(hs:aI F H):aI (XV g i F H) H:=λb o e=>by
 unfold XV at e;split at e
 .split at e
  .exact e
  .exact hs b o e
 .exact hs b o e
def bC.freeze{K:ZC}(r:bC K F H g i n p d v):bG K (XV g i F H) d v:=
 iC.froze m4 (λa p o e1 e2 e3=>by rw[aFC e1 e3];exact e2) r
section
variable {K:ZC}{Z:bT}{ow:ZH}{g:ZP}{F H:Hp}{σ:St}{δ:DS}
def ė(g:ZP)(i:Nat):ZP:=λb=>open Classical in if ∃p,g b=some (i,p)then none else g b
def B7{g:ZP}{i:Nat}{a:Addr}{l:Ţ}(h:l.1≠i)(e:g a=some l):ė g i a=some l:=by
 unfold ė
 grind
def B8(e:ė g i a=some l):g a=some l/\l.1≠i:=by
 unfold ė at e;split at e
 all_goals grind
def bU.freeze(R:bU K Z ow g F H σ δ)(i:Nat)(hP:i∉Z.ps):bU K Z (ow.set i 0) (ė g i) (XV g i F H) H σ δ:=by
 refine⟨YW R.sub,R.f0.trans' m4,R.kept,λa h1 h2=>?_,R.there,λa j p e=>R.lab a j p (B8 e).1,R.len,λj hj=>⟨(R.par j hj).1,?_⟩,λj d e=>?_⟩
 .have q:∀p,g a≠some (i,p):=λp e=>(R.lab a i p e).elim h2 λ⟨q,z⟩=>hP (Z.wf a i q z)
  rw[LD q];exact R.new a h1 h2
 .have:j≠i:=λe=>hP (by rw[<- e];exact hj)
  rw[Ê,Þ (Ñ this),<- Ê];exact(R.par j hj).2
 .obtain⟨v,e1,o⟩:=R.slot j d e
  refine⟨v,e1,?_⟩;by_cases hj:j=i
  .subst hj
   have:(ow.set j 0).getD j 0=0:=by
    rw[Ê,Ć];split
    .split<;>rfl
    .grind
   rw[this];exact o.freeze
  .have:(ow.set i 0).getD j 0=ow.getD j 0:=by rw[Ê,Ê,Þ (Ñ hj)]
   rw[this];exact o.mono m4 (λa l hl e=>B7 (by rw[hl];exact hj) e) (λa l hl e hn=>by rw[LD (λp q=>by grind)];exact hn) λ_ _ _ _ _ h=>h
structure aQ(Z:bT)(ow:ZH):Prop where
 ow:ow.length<=1000
 ps:1000∉Z.ps
def f8.freeze(S:aQ Z ow)(R:f8 K Z ow n d v F H σ δ):∃F',aI F F'/\f8 K Z ow 0 d v F' H σ δ:=by
 let⟨g,R,o⟩:=R;have R':=R.freeze 1000 S.ps;rw[List.set_eq_of_length_le S.ow]at R';exact⟨_,m4,_,R',o.freeze⟩
def f8.rel(R:f8 K Z ow n d v F H σ δ):cN K Z ow F H σ δ:=let ⟨g,R,_⟩:=R;⟨g,R⟩
def f8.rep(R:f8 K Z ow 0 d v F H σ δ):bG K F d v:=let ⟨_,_,o⟩:=R;o
def cN.x(R:cN K Z ow F H σ δ)(h:bG K F d v):f8 K Z ow 0 d v F H σ δ:=let ⟨g,R⟩:=R;⟨g,R,h⟩
def cN.sub(R:cN K Z ow F H σ δ):aI F H:=let ⟨_,R⟩:=R;R.sub
def bU.laid(R:bU K Z ow g F H σ δ)(hp:H p=none):bU K Z ow g (bA F p o) (bA H p o) σ δ:=by
 have fp:F p=none:=by
  cases e:F p with
  |none=>rfl
  |some u=>rw[R.sub p u e]at hp;cases hp
 have z:Z.H0 p=none:=by
  cases e:Z.H0 p with
  |none=>rfl
  |some u=>exact absurd hp (R.there p (by rw[e];simp))
 refine⟨λb u e=>?_,R.f0.trans' (cI fp o),λb u n e=>?_,λa h1 h2=>?_,λb h=>?_,R.lab,R.len,R.par,λi d e=>?_⟩
 .by_cases hb:b=p
  .subst hb;rw[aJ]at e⊢;exact e
  .rw[aF hb]at e⊢;exact R.sub b u e
 .have:b≠p:=λq=>by rw[q,z]at e;cases e
  rw[aF this];exact R.kept b u n e
 .have:a≠p:=λq=>h2 (by rw[q,z])
  rw[aF this];exact R.new a h1 h2
 .have:b≠p:=λq=>h (by rw[q,z])
  rw[aF this];exact R.there b h
 .obtain⟨v,e1,ho⟩:=R.slot i d e
  refine⟨v,e1,?_⟩;refine ho.keepJ (cI fp o) λa q u e1 e2 e3=>?_;have:a≠p:=λz=>by rw[z,hp]at e2;cases e2
  exact⟨e1,by rw[aF this];exact e2,by rw[aF this];exact e3⟩
def cN.laid(R:cN K Z ow F H σ δ)(hp:H p=none):cN K Z ow (bA F p o) (bA H p o) σ δ:=let ⟨g,R⟩:=R;⟨g,R.laid hp⟩
def cN.fnone(R:cN K Z ow F H σ δ)(hp:H p=none):F p=none:=by
 cases e:F p with
 |none=>rfl
 |some u=>rw[R.sub p u e]at hp;cases hp
def cN.newList(S:aQ Z ow)(R:cN K Z ow F H σ δ)(hp:H p=none)(h:aD K F ds vs):f8 K Z ow 1 (.list ds) (.ref p) F (bA H p (.lst vs)) σ δ:=by
 have fp:=R.fnone hp;let⟨g,R⟩:=R;have z:Z.H0 p=none:=by
  cases e:Z.H0 p with
  |none=>rfl
  |some u=>exact absurd hp (R.there p (by rw[e];simp))
 refine⟨λb=>if b=p then some (1000,[])else ė g 1000 b,⟨R.sub.trans' (cI hp _),R.f0,λb u n e=>?_,R.new,λb h=>?_,λa i q e=>?_,R.len,R.par,λi d e=>?_⟩,?_⟩
 .have:b≠p:=λq=>by rw[q,z]at e;cases e
  rw[aF this];exact R.kept b u n e
 .have:b≠p:=λq=>h (by rw[q,z])
  rw[aF this];exact R.there b h
 .split at e
  .rename_i q;rw[q];exact .inl z
  .exact R.lab a i q (B8 e).1
 .obtain⟨v,e1,o⟩:=R.slot i d e
  refine⟨v,e1,?_⟩;by_cases hi:ow.getD i 0=0
  .rw[hi]at o⊢;exact o
  .have hi':i<1000:=by
    by_cases hl:i<ow.length
    .exact Ö hl S.ow
    .exact absurd (by rw[Ê,ä 'C'];rfl) hi
   refine o.keepJ (λ_ _ z=>z) λa q u e1 e2 e3=>?_;have:a≠p:=λz=>by rw[z,hp]at e2;cases e2
   exact⟨by rw[Ã this];exact B7 (by show i≠1000;exact Í ‹_›) e1,by rw[aF this];exact e2,e3⟩
 .refine bC.mkL (m:=0) ?_
  exact⟨p,ds,vs,rfl,rfl,by rw[Â rfl],aJ,fp,h.len,λk d' v' q1 q2=>h.both k d' v' q1 q2⟩
end
def PE.mono(h:PE X e t)(hm:∀σ H Q,t' σ H Q->t σ H Q):PE X e t':=λU s σ H Q I q=>h U s σ H Q I (hm σ H Q q)
def PT.mono(h:PT X e t)(hm:∀σ H Q,t' σ H Q->t σ H Q):PT X e t':=λU s σ H Q I q=>h U s σ H Q I (hm σ H Q q)
def PA.mono(h:PA X es t)(hm:∀σ H Q,t' σ H Q->t σ H Q):PA X es t':=λpos U s σ H Q I q=>h pos U s σ H Q I (hm σ H Q q)
def PS.mono{st:Stmt}(h:PS X st t)(hm:∀D σ H,t' D σ H->t D σ H):PS X st t':=λU s σ H D I q=>h U s σ H D I (hm D σ H q)
def EQ.mono{st:List Stmt}(h:EQ X st t)(hm:∀D σ H,t' D σ H->t D σ H):EQ X st t':=λU s σ H D I q=>h U s σ H D I (hm D σ H q)
def XP(X:Cx)(Z:bT)(U:ZB)(F:Hp)(x:D)(δ:DS)(e:Value)(s:Shared):Prop:=
 ∃nm H F' σ,x=.str nm/\Inv X U σ H s/\cN X.K Z Z.owp F' H σ δ/\aI F F'/\š X U H s nm e
structure iM(X:Cx)(Z:bT)(ow:ZH)(F:Hp)(x:D)(δ:DS):Prop where
 out:∀U e s,XP X Z U F x δ e s->X.xe e s
def iM.mono(h:iM X Z ow F x δ)(s:aI F F'):iM X Z ow F' x δ:=⟨λU e st z=>by
 let⟨nm,H,F1,σ,h1,h2,h3,h4,h5⟩:=z;exact h.out U e st ⟨nm,H,F1,σ,h1,h2,h3,s.trans' h4,h5⟩⟩
def iM.cast(h:iM X Z ox F x δ):iM X Z ow F x δ:=⟨h.out⟩
def XW(Z:bT):Bool:=(List.range Z.owp.length).all λi=>Z.ps.contains i || Z.owp.getD i 0 == 0
def aFD(h:XW Z=true)(hi:i∉Z.ps):Z.owp.getD i 0=0:=by
 by_cases hl:i<Z.owp.length
 .have:=ç.mp h i (List.mem_range.mpr hl)
  grind
 grind
section
variable {K:ZC}{Z:bT}{ow:ZH}{g:ZP}{F H:Hp}{σ:St}{δ:DS}
def YX(ps:ZH)(g:ZP)(F H:Hp):Hp:=λb=>open Classical in if ∃i p,g b=some (i,p)/\i∉ps then (if F b=none then H b else F b)else F b
def IF(ps:ZH)(g:ZP):ZP:=λb=>open Classical in if ∃i p,g b=some (i,p)/\i∉ps then none else g b
def rN:aI F (YX ps g F H):=λb o e=>by
 unfold YX
 simp_all
def YY(hs:aI F H):aI (YX ps g F H) H:=λb o e=>by
 unfold YX at e;split at e
 .split at e
  .exact e
  .exact hs b o e
 .exact hs b o e
def bC.freezeN(hi:i∉ps)(r:bC K F H g i n p d v):bG K (YX ps g F H) d v:=
 iC.froze rN (λa p o e1 e2 e3=>by unfold YX;rw[Â ⟨i,p,e1,hi⟩,Â e3];exact e2) r
def cN.toP(hz:XW Z=true)(R:cN K Z ow F H σ δ):∃F',aI F F'/\cN K Z Z.owp F' H σ δ:=by
 let⟨g,R⟩:=R;refine⟨YX Z.ps g F H,rN,IF Z.ps g,YY R.sub,R.f0.trans' rN,R.kept,λa h1 h2=>?_,R.there,λa i p e=>?_,R.len,λi hi=>⟨(R.par i hi).1,rfl⟩,λi d e=>?_⟩
 .unfold YX
  rw[Ã]
  .exact R.new a h1 h2
  .rintro⟨i,p,e,hi⟩
   rcases R.lab a i p e with z|⟨q,z⟩
   .exact h2 z
   .exact hi (Z.wf a i q z)
 .unfold IF at e
  split at e
  .cases e
  .exact R.lab a i p e
 .obtain⟨v,e1,o⟩:=R.slot i d e
  refine⟨v,e1,?_⟩;by_cases hi:i∈Z.ps
  .rw[<- (R.par i hi).2]
   refine o.mono rN (λa l hl e=>?_) (λa l hl e hn=>?_) λ_ _ _ _ _ h=>h
   .unfold IF
    grind
   .unfold YX
    grind
  .rw[aFD hz hi]
   exact o.freezeN hi
end
def kD(X:Cx)(Z:bT)(ow:ZH)(n:Nat)(r:Res D)(F:Hp)(σ:St)(Q:VK):Prop:=match r with
 |.ok d δ=>∀v H' F',f8 X.K Z ow n d v F' H' σ δ->aI F F'->Q v H'
 |.err x δ=>iM X Z ow F x δ
 |.stuck=>False
def tD(X:Cx)(Z:bT)(ow:ZH)(n:Nat)(f:M D):TE:=λσ H Q=>∃F δ,cN X.K Z ow F H σ δ/\kD X Z ow n (f δ) F σ Q
def DE(X:Cx)(Z:bT)(ow:ZH)(n:Nat)(e:Expr)(f:M D):Prop:=PE X e (tD X Z ow n f)
def kT(X:Cx)(Z:bT)(ow:ZH)(r:Res Bool)(F:Hp)(σ:St)(Q:Bool->Hp->Prop):Prop:=match r with
 |.ok b δ=>∀H' F',cN X.K Z ow F' H' σ δ->aI F F'->Q b H'
 |.err x δ=>iM X Z ow F x δ
 |.stuck=>False
def tT(X:Cx)(Z:bT)(ow:ZH)(f:M Bool):TT:=λσ H Q=>∃F δ,cN X.K Z ow F H σ δ/\kT X Z ow (f δ) F σ Q
def DT(X:Cx)(Z:bT)(ow:ZH)(e:Expr)(f:M Bool):Prop:=PT X e (tT X Z ow f)
inductive Arg where
 |own (i:Nat)
 |val (f:M D)
def rO(K:ZC)(F:Hp)(σ:St):List Arg->List (ZL)->List V->Prop
 |[],[],[]=>True
 |.own i::as,none::ds,v::vs=>σ[i]?=some (some v)/\rO K F σ as ds vs
 |.val _::as,some d::ds,v::vs=>bG K F d v/\rO K F σ as ds vs
 |_,_,_=>False
def cP:List Arg->M (List (ZL))
 |[]=>λδ=>.ok [] δ
 |.own i::as=>λδ=>match δ[i]? with
  |some (some _)=>(cP as δ).bind λds δ'=>.ok (none::ds) δ'
  |_=>.stuck
 |.val f::as=>λδ=>(f δ).bind λd δ1=>(cP as δ1).bind λds δ2=>.ok (some d::ds) δ2
def kA(X:Cx)(Z:bT)(ow:ZH)(as:List Arg)(r:Res (List (ZL)))(F:Hp)(σ:St)(Q:List V->Hp->Prop):Prop:=match r with
 |.ok ds δ=>∀vs H' F',cN X.K Z ow F' H' σ δ->aI F F'->rO X.K F' σ as ds vs->Q vs H'
 |.err x δ=>iM X Z ow F x δ
 |.stuck=>False
def ŀ(X:Cx)(Z:bT)(ow:ZH)(as:List Arg):TA:=λσ H Q=>∃F δ,cN X.K Z ow F H σ δ/\kA X Z ow as (cP as δ) F σ Q
def DA(X:Cx)(Z:bT)(ow:ZH)(es:List Expr)(as:List Arg):Prop:=PA X es (ŀ X Z ow as)
section
variable {X:Cx}{Z:bT}{ow:ZH}{pos:Pos}
def kD.mono(h:kD X Z ow n r F σ Q)(s:aI F F1)(q:∀v H',Q v H'->Q' v H'):kD X Z ow n r F1 σ Q':=by
 cases r with
 |ok d δ=>exact λv H' F' R s'=>q v H' (h v H' F' R (s.trans' s'))
 |err x δ=>exact iM.mono h s
 |stuck=>exact h
def kT.mono{Q Q':Bool->Hp->Prop}(h:kT X Z ow r F σ Q)(s:aI F F1)(q:∀v H',Q v H'->Q' v H'):kT X Z ow r F1 σ Q':=by
 cases r with
 |ok d δ=>exact λH' F' R s'=>q _ H' (h H' F' R (s.trans' s'))
 |err x δ=>exact iM.mono h s
 |stuck=>exact h
def bQ(i:Nat):M D:=λδ=>match δ[i]? with
 |some (some d)=>.ok d δ
 |_=>.stuck
def dC(d:D):M D:=λδ=>.ok d δ
def aFE(i:Nat){x:Str}(ho:↥(ow.getD i 0=0))(hN:↥'t')(hv:#v[AJ X.env.scope x])(hd:⇑(Zdb x))(hcd:⇑(Zcd x)):DE X Z ow 0 (.Name x pos) (bQ i):=
 (dQ hN hv hd hcd).mono λσ H Q h=>by
  let⟨F,δ,R,h⟩:=h;unfold bQ at h;cases e:δ[i]? with
  |none=>sleep 1
  |some o=>
   cases o with
   |none=>sleep 1
   |some d=>
    rw[e]at h;let⟨g,R⟩:=R;let⟨v,e1,o⟩:=R.slot i d e;rw[ho]at o;exact⟨v,e1,h v H F ⟨g,R,o⟩ λ_ _ z=>z⟩
def kG(h:PE X e (tC v))(hr:∀F,bG X.K F d v):DE X Z ow 0 e (dC d):=h.mono λσ H Q h=>by
 let⟨F,δ,⟨g,R⟩,h⟩:=h;exact h v H F ⟨g,R,hr F⟩ λ_ _ z=>z
def aN:DE X Z ow 0 (.Constant (.int i) j pos) (dC (.int i)):=kG aEA λF=>by unfold bG;rfl
def mQ{b:Bool}:DE X Z ow 0 (.Constant (.bool b) j pos) (dC (.bool b)):=kG aIT λF=>by unfold bG;rfl
def wO:DE X Z ow 0 (.Constant .none j pos) (dC .none):=kG aEB λF=>by unfold bG;rfl
def cR:DE X Z ow 0 (.Constant (.str x) j pos) (dC (.str x)):=kG aEC λF=>by unfold bG;rfl
def j9(op:D->D->ZL)(f g:M D):M D:=λδ=>(f δ).bind λx δ1=>(g δ1).bind λy δ2=>match op x y with
 |some z=>.ok z δ2
 |none=>.stuck
def oA(X:Cx)(r:R2)(n:Nat)(op:D->D->ZL):Prop:=∀(Z:bT)(ow:ZH)(F H:Hp)(σ:St)(δ:DS)(a b:D)(x y:V)(d:D)(Q:VK),aQ Z ow->cN X.K Z ow F H σ δ->bG X.K F a x->bG X.K F b y->op a b=some d ->
 (∀v H' F',f8 X.K Z ow n d v F' H' σ δ->aI F F'->Q v H')->r x y H Q
def B9(S:aQ Z ow)(os:oA X r n op)(h:tD X Z ow n (j9 op f g) σ H Q):į r (tD X Z ow 0 f) (tD X Z ow 0 g) σ H Q:=by
 let⟨F,δ,R,h⟩:=h;unfold j9 at h;sleep 4;cases e:f δ with
 |stuck=>sleep 1
 |err x δ1=>rw[e]at h;exact h
 |ok d1 δ1=>
  rw[e]at h;intro x H1 F1 R1 s1;refine⟨F1,δ1,R1.rel,?_⟩;sleep 8;cases e2:g δ1 with
  |stuck=>rw[e2]at h;exact h.elim
  |err x δ2=>rw[e2]at h;exact iM.mono h s1
  |ok d2 δ2=>
   rw[e2]at h;sleep 8;intro y H2 F2 R2 s2;cases e3:op d1 d2 with
   |none=>rw[e3]at h;exact h.elim
   |some d=>
    rw[e3]at h;exact os Z ow F2 H2 σ δ2 d1 d2 x y d Q S R2.rel (s2.rep _ _ R1.rep) R2.rep e3 λv H' F' R' s'=>h v H' F' R' (s1.trans' (s2.trans' s'))
def wP(S:aQ Z ow)(ho:jS X (binaryOp o) r)(os:oA X r n op)(ha:DE X Z ow 0 a f)(hb:DE X Z ow 0 b g):DE X Z ow n (.BinOp a o b pos) (j9 op f g):=
 (aI4 ho ha hb).mono λ_ _ _ h=>B9 S os h
def gG(S:aQ Z ow)(ho:jS X (compareOp o) r)(os:oA X r 0 op)(ha:DE X Z ow 0 a f)(hb:DE X Z ow 0 b g)(hm:behindInMarks o b=false):DE X Z ow 0 (.Compare a [o] [b] pos) (j9 op f g):=
 (YE ho ha hb hm).mono λ_ _ _ h=>B9 S os h
def dB(f:M D):M Bool:=λδ=>(f δ).bind λd δ1=>match d with
 |.bool b=>.ok b δ1
 |_=>.stuck
def LF{Q:Bool->Hp->Prop}(h:tT X Z ow (dB f) σ H Q):tD X Z ow 0 f σ H (λx H'=>∃k,x=.bl k/\Q k H'):=by
 let⟨F,δ,R,h⟩:=h;unfold dB at h;sleep 4;cases e:f δ with
 |stuck=>sleep 1
 |err x δ1=>rw[e]at h;exact h
 |ok d1 δ1=>
  rw[e]at h;intro x H1 F1 R1 s1;sleep 8;cases d1 with
  |bool k=>
   have q:=R1.rep;unfold bG at q;exact⟨k,q,h H1 F1 R1.rel s1⟩
  |_=>exact h.elim
def bL(S:aQ Z ow)(ho:jS X (compareOp o) r)(os:oA X r 0 op)(ha:DE X Z ow 0 a f)(hb:DE X Z ow 0 b g)(hm:behindInMarks o b=false):DT X Z ow (.Compare a [o] [b] pos) (dB (j9 op f g)):=
 (YF ho ha hb hm).mono λ_ _ _ h=>B9 S os (LF h)
def gH(h:DE X Z ow 0 e f)(he: ~~~(∀whole,isTrue e X.env whole=(do let v <- whole;standAt e.pos;holding [v] (truthy v)))):DT X Z ow e (dB f):=(aEF h he).mono λ_ _ _ h=>LF h
def pH(f:M Bool):M Bool:=λδ=>(f δ).bind λb δ1=>.ok (!b) δ1
def jT{f:M Bool}(h:DT X Z ow e f):DT X Z ow (.UnaryOp .Not e pos) (pH f):=(aEI h).mono λσ H Q h=>by
 let⟨F,δ,R,h⟩:=h;unfold pH at h;sleep 4;cases e:f δ with
 |stuck=>sleep 1
 |err x δ1=>rw[e]at h;exact h
 |ok b δ1=>rw[e]at h;exact h
def FC(f g:M Bool):M Bool:=λδ=>(f δ).bind λb δ1=>if b=true then g δ1 else .ok false δ1
def RJ(f g:M Bool):M Bool:=λδ=>(f δ).bind λb δ1=>if b=true then .ok true δ1 else g δ1
def PW.mono(h:PW X e t)(hm:∀σ H Q,t' σ H Q->t σ H Q):PW X e t':=λwh U s σ H Q I q=>h wh U s σ H Q I (hm σ H Q q)
def aFF{f g:M Bool}{rest:List Expr}(ha:DT X Z ow a f)(hb:PW X (.BoolOp .And (b::rest) pos) (tT X Z ow g)):PW X (.BoolOp .And (a::b::rest) pos) (tT X Z ow (FC f g)):=(aEH ha hb).mono λσ H Q h=>by
 let⟨F,δ,R,h⟩:=h;unfold FC at h;sleep 4;cases e:f δ with
 |stuck=>sleep 1
 |err x δ1=>rw[e]at h;exact h
 |ok k δ1=>
  rw[e]at h;sleep 8;intro H1 F1 R1 s1;cases k with
  |true=>rw[Â rfl]at h⊢;exact⟨F1,δ1,R1,h.mono s1 λ_ _ z=>z⟩
  |false=>rw[Ã Ü]at h⊢;exact h H1 F1 R1 s1
def uW{f g:M Bool}{rest:List Expr}(ha:DT X Z ow a f)(hb:PW X (.BoolOp .Or (b::rest) pos) (tT X Z ow g)):PW X (.BoolOp .Or (a::b::rest) pos) (tT X Z ow (RJ f g)):=(aIU ha hb).mono λσ H Q h=>by
 let⟨F,δ,R,h⟩:=h;unfold RJ at h;sleep 4;cases e:f δ with
 |stuck=>sleep 1
 |err x δ1=>rw[e]at h;exact h
 |ok k δ1=>
  rw[e]at h;sleep 8;intro H1 F1 R1 s1;cases k with
  |true=>rw[Â rfl]at h⊢;exact h H1 F1 R1 s1
  |false=>rw[Ã Ü]at h⊢;exact⟨F1,δ1,R1,h.mono s1 λ_ _ z=>z⟩
def ţ(c:M Bool)(f g:M D):M D:=λδ=>(c δ).bind λb δ1=>if b=true then f δ1 else g δ1
def bS(S:aQ Z ow)(h:DE X Z ow n e f):DE X Z ow 0 e f:=PE.mono h λσ H Q h=>by
 let⟨F,δ,R,h⟩:=h;sleep 4;cases e:f δ with
 |stuck=>sleep 1
 |err x δ1=>rw[e]at h;exact h
 |ok d δ1=>
  rw[e]at h;intro v H1 F1 R1 s1;let⟨F2,s2,R2⟩:=R1.freeze S;exact h v H1 F2 R2 (s1.trans' s2)
end
def aZ:List (M D)->M (ZI)
 |[]=>λδ=>.ok [] δ
 |f::fs=>λδ=>(f δ).bind λd δ1=>(aZ fs δ1).bind λds δ2=>.ok (d::ds) δ2
def kV'(X:Cx)(Z:bT)(ow:ZH)(r:Res (ZI))(F:Hp)(σ:St)(Q:List V->Hp->Prop):Prop:=match r with
 |.ok ds δ=>∀vs H' F',cN X.K Z ow F' H' σ δ->aI F F'->aD X.K F' ds vs->Q vs H'
 |.err x δ=>iM X Z ow F x δ
 |.stuck=>False
def tV(X:Cx)(Z:bT)(ow:ZH)(fs:List (M D)):TA:=λσ H Q=>∃F δ,cN X.K Z ow F H σ δ/\kV' X Z ow (aZ fs δ) F σ Q
def DV(X:Cx)(Z:bT)(ow:ZH)(es:List Expr)(fs:List (M D)):Prop:=PA X es (tV X Z ow fs)
section
variable {X:Cx}{Z:bT}{ow:ZH}{n:Nat}{pos:Pos}{e:Expr}{es:List Expr}{fs:List (M D)}
def aV:DV X Z ow [] []:=mV.mono λσ H Q h=>by
 let⟨F,δ,R,h⟩:=h;exact h [] H F R 'p' lQ
def aE(he:DE X Z ow 0 e f)(hs:DV X Z ow es fs)(hst:↥(Zse e es X.env)):DV X Z ow (e::es) (f::fs):=(gS he hs hst).mono λσ H Q h=>by
 let⟨F,δ,R,h⟩:=h;unfold aZ at h;sleep 4;cases e1:f δ with
 |stuck=>rw[e1]at h;exact h.elim
 |err x δ1=>rw[e1]at h;exact h
 |ok d δ1=>
  rw[e1]at h;sleep 8;intro x H1 F1 R1 s1;refine⟨F1,δ1,R1.rel,?_⟩;cases e2:aZ fs δ1 with
  |stuck=>rw[e2]at h;exact h.elim
  |err x δ2=>rw[e2]at h;exact iM.mono h s1
  |ok ds δ2=>
   rw[e2]at h;intro vs H2 F2 R2 s2 z;exact h (x::vs) H2 F2 R2 (s1.trans' s2) (lR (s2.rep _ _ R1.rep) z)
def dW:DA X Z ow [] []:=mV.mono λσ H Q h=>by
 let⟨F,δ,R,h⟩:=h;exact h [] H F R 'p' trivial
def aS(he:DE X Z ow 0 e f)(hs:DA X Z ow es as)(hst:↥(Zse e es X.env)):DA X Z ow (e::es) (.val f::as):=(gS he hs hst).mono λσ H Q h=>by
 let⟨F,δ,R,h⟩:=h;unfold cP at h;sleep 4;cases e1:f δ with
 |stuck=>rw[e1]at h;exact h.elim
 |err x δ1=>rw[e1]at h;exact h
 |ok d δ1=>
  rw[e1]at h;sleep 8;intro x H1 F1 R1 s1;refine⟨F1,δ1,R1.rel,?_⟩;cases e2:cP as δ1 with
  |stuck=>rw[e2]at h;exact h.elim
  |err x δ2=>rw[e2]at h;exact iM.mono h s1
  |ok ds δ2=>
   rw[e2]at h;intro vs H2 F2 R2 s2 z;exact h (x::vs) H2 F2 R2 (s1.trans' s2) ⟨s2.rep _ _ R1.rep,z⟩
def aX(i:Nat)(hs:DA X Z ow es as)(hst:↥(starEach (.Name x p::es) X.env=(false,eval 'g' X.env)::starEach es X.env))(hN:↥'t')(hv:#v[AJ X.env.scope x])(hd:⇑(Zdb x))(hcd:⇑(Zcd x)):DA X Z ow (.Name x p::es) (.own i::as):=
 (gS (dQ hN hv hd hcd) hs hst).mono λσ H Q h=>by
  let⟨F,δ,R,h⟩:=h;unfold cP at h;cases e:δ[i]? with
  |none=>sleep 1
  |some o=>
   cases o with
   |none=>sleep 1
   |some d=>
    rw[e]at h;let⟨g,R'⟩:=id R;let⟨v,e1,_⟩:=R'.slot i d e;refine⟨v,e1,F,δ,R,?_⟩;cases e2:cP as δ with
    |stuck=>simp![e2]at h;exact h.elim
    |err x δ2=>simp![e2]at h;exact h
    |ok ds δ2=>
     simp![e2]at h;intro vs H2 F2 R2 s2 z;exact h (v::vs) H2 F2 R2 s2 ⟨e1,z⟩
def OE(fs:List (M D)):M D:=λδ=>(aZ fs δ).bind λds δ1=>if ds.length<=sizeLine then .ok (.tuple ds) δ1 else .stuck
def JF(fs:List (M D)):M D:=λδ=>(aZ fs δ).bind λds δ1=>if ds.length<=sizeLine then .ok (.list ds) δ1 else .stuck
def p8{K:ZC}{F:Hp}{p:Addr}{ds:ZI}{vs:List V}(hp:F p=none)(h:aD K F ds vs):bG K (bA F p (.tup vs)) (.tuple ds) (.ref p):=by
 unfold bG;exact⟨p,vs,rfl,rB.of aJ,(cI hp _).repAll ds vs h⟩
def cK(h:DV X Z ow es fs):DE X Z ow 0 (.Tuple es x1 pos) (OE fs):=(aEZ h).mono λσ H Q h=>by
 let⟨F,δ,R,h⟩:=h;unfold OE at h;sleep 4;cases e:aZ fs δ with
 |stuck=>sleep 1
 |err x δ1=>rw[e]at h;exact h
 |ok ds δ1=>
  rw[e]at h;sleep 8;intro vs H1 F1 R1 s1 z;split at h
  .rename_i hl
   refine⟨by rw[<- z.len];exact hl,λp hp=>?_⟩;have fp:=R1.fnone hp;exact h _ _ (bA F1 p (.tup vs)) ((R1.laid hp).x (p8 fp z)) (s1.trans' (cI fp _))
  .exact h.elim
def cG(S:aQ Z ow)(h:DV X Z ow es fs):DE X Z ow 1 (.List es pos) (JF fs):=(aE0 h).mono λσ H Q h=>by
 let⟨F,δ,R,h⟩:=h;unfold JF at h;sleep 4;cases e:aZ fs δ with
 |stuck=>sleep 1
 |err x δ1=>rw[e]at h;exact h
 |ok ds δ1=>
  rw[e]at h;sleep 8;intro vs H1 F1 R1 s1 z;split at h
  .rename_i hl
   exact⟨by rw[<- z.len];exact hl,λp hp=>h _ _ F1 (R1.newList S hp z) s1⟩
  .exact h.elim
def OF(op:ZI->ZL)(fs:List (M D)):M D:=λδ=>(aZ fs δ).bind λds δ1=>match op ds with
 |some d=>.ok d δ1
 |none=>.stuck
def YZ(X:Cx)(r:List V->Hp->VK->Prop)(n:Nat)(op:ZI->ZL):Prop:=∀(Z:bT)(ow:ZH)(F H:Hp)(σ:St)(δ:DS)(ds:ZI)(vs:List V)(d:D)(Q:VK),aQ Z ow->cN X.K Z ow F H σ δ->aD X.K F ds vs->op ds=some d ->
 (∀v H' F',f8 X.K Z ow n d v F' H' σ δ->aI F F'->Q v H')->r vs H Q
def RK(S:aQ Z ow)(os:YZ X r n op)(h:tD X Z ow n (OF op fs) σ H Q):ş r (tV X Z ow fs) σ H Q:=by
 let⟨F,δ,R,h⟩:=h;unfold OF at h;sleep 4;cases e:aZ fs δ with
 |stuck=>sleep 1
 |err x δ1=>rw[e]at h;exact h
 |ok ds δ1=>
  rw[e]at h;sleep 8;intro vs H1 F1 R1 s1 z;cases e3:op ds with
  |none=>rw[e3]at h;exact h.elim
  |some d=>
   rw[e3]at h;exact os Z ow F1 H1 σ δ1 ds vs d Q S R1 z e3 λv H' F' R' s'=>h v H' F' R' (s1.trans' s')
def iN{id:String}{p:Pos}(S:aQ Z ow)(hc:g7 X (.builtin id) r)(os:YZ X r n op)(hg:Gl X x)(hm:X.mg x=none)(hv:bootBuiltins x=some (.builtin id))(ha:DV X Z ow (e::es) fs)(hn:⇑(x≠"__name__"))(hdb:⇑(Zdb x))(he:↥(Zse e es X.env))(hpl:↥(Zbt pos es X.env)):
  DE X Z ow n (.Call 'g' (e::es) [] pos) (OF op fs):=PE.mono (wG hc hg hm hv ha hn hdb he hpl) λ_ _ _ h=>RK S os h
def iH{p:Pos}(S:aQ Z ow)(hc:g7 X (.type T) r)(os:YZ X r n op)(hg:Gl X x)(hm:X.mg x=none)(hv:bootBuiltins x=some (.type T))(ha:DV X Z ow (e::es) fs)(hn:⇑(x≠"__name__"))(hdb:⇑(Zdb x))(he:↥(Zse e es X.env))(hpl:↥(Zbt pos es X.env)):
  DE X Z ow n (.Call 'g' (e::es) [] pos) (OF op fs):=PE.mono (tK hc hg hm hv ha hn hdb he hpl) λ_ _ _ h=>RK S os h
end
inductive Fl where
 |next|brk|cont
 |ret (d:D)
def kS(X:Cx)(Z:bT)(ow' ol ox:ZH)(rm:Nat)(r:Res Fl)(F:Hp)(Dn:EW):Prop:=match r with
 |.ok .next δ=>∀σ' H' F',cN X.K Z ow' F' H' σ' δ->aI F F'->Dn.nx σ' H'
 |.ok .brk δ=>∀σ' H' F',cN X.K Z ol F' H' σ' δ->aI F F'->Dn.bk σ' H'
 |.ok .cont δ=>∀σ' H' F',cN X.K Z ol F' H' σ' δ->aI F F'->Dn.ct σ' H'
 |.ok (.ret d) δ=>∀v σ' H' F' owr,f8 X.K Z owr rm d v F' H' σ' δ->aI F F'->Dn.rt v H'
 |.err x δ=>iM X Z ox F x δ
 |.stuck=>False
def tS(X:Cx)(Z:bT)(ow ow' ol ox:ZH)(rm:Nat)(f:M Fl):TS:=λDn σ H=>∃F δ,cN X.K Z ow F H σ δ/\kS X Z ow' ol ox rm (f δ) F Dn
def CC(X:Cx)(Z:bT)(ow ow' ol ox:ZH)(rm:Nat)(st:Stmt)(f:M Fl):Prop:=PS X st (tS X Z ow ow' ol ox rm f)
def CD(X:Cx)(Z:bT)(ow ow' ol ox:ZH)(rm:Nat)(st:List Stmt)(f:M Fl):Prop:=EQ X st (tS X Z ow ow' ol ox rm f)
section
variable {X:Cx}{Z:bT}{ow ow' ow1 ol ox:ZH}{n rm:Nat}{pos:Pos}{e:Expr}{f:M D}{st:Stmt}{sts:List Stmt}{u v:M Fl}{F:Hp}
def kS.mono(h:kS X Z ow' ol ox rm r F Dn)(s:aI F F1):kS X Z ow' ol ox rm r F1 Dn:=by
 cases r with
 |ok fl δ=>
  cases fl with
  |next=>exact λσ' H' F' R s'=>h σ' H' F' R (s.trans' s')
  |brk=>exact λσ' H' F' R s'=>h σ' H' F' R (s.trans' s')
  |cont=>exact λσ' H' F' R s'=>h σ' H' F' R (s.trans' s')
  |ret d=>exact λv σ' H' F' owr R s'=>h v σ' H' F' owr R (s.trans' s')
 |err x δ=>exact iM.mono h s
 |stuck=>exact h
def AU:M Fl:=λδ=>.ok .next δ
def bD:CD X Z ow ow ol ox rm [] AU:=EQ.mono X6 λDn σ H h=>by
 let⟨F,δ,R,h⟩:=h;exact h σ H F R 'p'
def eK(u v:M Fl):M Fl:=λδ=>(u δ).bind λfl δ1=>match fl with
 |.next=>v δ1
 |fl=>.ok fl δ1
def aA(h1:CC X Z ow ow1 ol ox rm st u)(h2:CD X Z ow1 ow' ol ox rm sts v):CD X Z ow ow' ol ox rm (st::sts) (eK u v):=EQ.mono (QU h1 h2) λDn σ H h=>by
 let⟨F,δ,R,h⟩:=h;unfold eK at h;sleep 4;cases e:u δ with
 |stuck=>sleep 1
 |err x δ1=>rw[e]at h;exact h
 |ok fl δ1=>
  rw[e]at h;sleep 8;cases fl with
  |next=>exact λσ' H' F' R' s'=>⟨F',δ1,R',h.mono s'⟩
  |brk=>exact h
  |cont=>exact h
  |ret d=>exact h
def aC(h1:CC X Z ow ow' ol ox rm st u):CD X Z ow ow' ol ox rm [st] u:=EQ.mono (X7 h1) λDn σ H h=>h
def wQ(f:M D):M Fl:=λδ=>(f δ).bind λd δ1=>.ok (.ret d) δ1
def aO(h:DE X Z ow rm e f):CC X Z ow ow' ol ox rm (.Return (some e) pos) (wQ f):=PS.mono (aEL h) λDn σ H h=>by
 let⟨F,δ,R,h⟩:=h;unfold wQ at h;sleep 4;cases e:f δ with
 |stuck=>sleep 1
 |err x δ1=>rw[e]at h;exact iM.cast h
 |ok d δ1=>
  rw[e]at h;exact λv H' F' R' s'=>h v σ H' F' ow R' s'
def uX(f:M D):M Fl:=λδ=>(f δ).bind λ_ δ1=>.ok .next δ1
def bW(h:DE X Z ow n e f)(hs:↥(swapsWith e none pos.line X.env=pure false)):CC X Z ow ow ol ox rm (.Expr e pos) (uX f):=PS.mono (X8 h hs) λDn σ H h=>by
 let⟨F,δ,R,h⟩:=h;unfold uX at h;sleep 4;cases e:f δ with
 |stuck=>sleep 1
 |err x δ1=>rw[e]at h;exact iM.cast h
 |ok d δ1=>
  rw[e]at h;exact λv H' F' R' s'=>h σ H' F' R'.rel s'
def m5(c:M Bool)(u v:M Fl):M Fl:=λδ=>(c δ).bind λb δ1=>if b=true then u δ1 else v δ1
def b8(hc:DT X Z ow c k)(ha:CD X Z ow ow' ol ox rm sa u)(hb:CD X Z ow ow' ol ox rm sb v):CC X Z ow ow' ol ox rm (.If c sa sb pos) (m5 k u v):=PS.mono (aIZ hc ha hb) λDn σ H h=>by
 let⟨F,δ,R,h⟩:=h;unfold m5 at h;sleep 4;cases e:k δ with
 |stuck=>sleep 1
 |err x δ1=>rw[e]at h;exact iM.cast h
 |ok d δ1=>
  rw[e]at h;sleep 8;intro H1 F1 R1 s1;cases d with
  |true=>rw[Â rfl]at h⊢;exact⟨F1,δ1,R1,h.mono s1⟩
  |false=>rw[Ã Ü]at h⊢;exact⟨F1,δ1,R1,h.mono s1⟩
def cN.freeze(i:Nat)(R:cN X.K Z ow F H σ δ)(hi:i∉Z.ps):∃F',aI F F'/\cN X.K Z (ow.set i 0) F' H σ δ:=let ⟨_,R⟩:=R;⟨_,m4,_,R.freeze i hi⟩
def dE{l:ZH}(h:l.contains i=false):i∉l:=λm=>by rw[List.contains_iff_mem.mpr m]at h;cases h
def cH(i:Nat)(h:CD X Z (ow.set i 0) ow' ol ox rm sts u)(hi:↥(Z.ps.contains i=false)):CD X Z ow ow' ol ox rm sts u:=EQ.mono h λDn σ H h=>by
 let⟨F,δ,R,h⟩:=h;let⟨F',s,R'⟩:=R.freeze i (dE hi);exact⟨F',δ,R',h.mono s⟩
def f8.store{v:V}(S:aQ Z ow)(R:f8 X.K Z ow n d v F H σ δ)(hi:i<δ.length)(hps:i∉Z.ps)(hl:i<ow.length):cN X.K Z (ow.set i n) F H (σ.set i (some v)) (δ.set i (some d)):=by
 let⟨g,R,o⟩:=R;have i1:i<1000:=Ö hl S.ow;have hg:∀(a:Addr)(l:Ţ),l.1≠i->l.1≠1000->g a=some l->(λb=>match g b with|some (j,p)=>if j=1000 then some (i,p)else if j=i then none else some (j,p)|none=>none:ZP) a=some l:=λa l h1 h2 e=>by
  let⟨j,p⟩:=l;dsimp only;rw[e];dsimp only;rw[Ã h2,Ã h1]
 refine⟨λb=>match g b with|some (j,p)=>if j=1000 then some (i,p)else if j=i then none else some (j,p)|none=>none,R.sub,R.f0,R.kept,R.new,R.there,λa j p e=>?_,by rw[Ú,Ú];exact R.len,λj hj=>?_,λj d' e=>?_⟩
 .cases q:g a with
  |none=>rw[q]at e;cases e
  |some l=>
   let⟨j',p'⟩:=l;rw[q]at e;have e:(if j'=1000 then some (i,p')else if j'=i then none else some (j',p'))=some (j,p):=e;split at e
   .rename_i z
    refine .inl ((R.lab a j' p' q).elim id λzQ=>by let⟨q',w⟩:=zQ;exact absurd (Z.wf a j' q' w) (by rw[z];exact S.ps))
   .split at e
    .cases e
    .cases e;exact R.lab a j p q
 .have ne:j≠i:=λz=>hps (by rw[<- z];exact hj)
  rw[Þ (Ñ ne),Ê,Þ (Ñ ne),<- Ê];exact R.par j hj
 .by_cases hj:j=i
  .subst hj
   rw[ë hi]at e;cases e;refine⟨v,ë (by rw[<- R.len];exact hi),?_⟩;have:(ow.set j n).getD j 0=n:=by rw[Ê,ë hl];rfl
   rw[this];exact o.relab λa p e=>by rw[e];exact Â rfl
  .rw[Þ (Ñ hj)]at e
   let⟨w,e1,o1⟩:=R.slot j d' e;refine⟨w,by rw[Þ (Ñ hj)];exact e1,?_⟩;have:(ow.set i n).getD j 0=ow.getD j 0:=by rw[Ê,Ê,Þ (Ñ hj)]
   rw[this];by_cases hz:ow.getD j 0=0
   .rw[hz]at o1⊢;exact o1
   .have j1:j<1000:=by
     by_cases hl:j<ow.length
     .exact Ö hl S.ow
     .exact absurd (by rw[Ê,ä 'C'];rfl) hz
    exact o1.mono 'p' (λa l hl e=>hg a l (by rw[hl];exact hj) (by rw[hl];exact Í ‹_›) e) (λ_ _ _ _ h=>h) λ_ _ _ _ _ h=>h
def jU(i:Nat)(f:M D):M Fl:=λδ=>(f δ).bind λd δ1=>if i<δ1.length then .ok .next (δ1.set i (some d))else .stuck
def CF(S:aQ Z ow)(hps:i∉Z.ps)(hl:i<ow.length)(h:tS X Z ow (ow.set i n) ol ox rm (jU i f) Dn σ H):X9 (tD X Z ow n f) (pA i) Dn σ H:=by
 let⟨F,δ,R,h⟩:=h;unfold jU at h;sleep 4;cases e:f δ with
 |stuck=>sleep 1
 |err x δ1=>rw[e]at h;exact iM.cast h
 |ok d δ1=>
  rw[e]at h;sleep 8;intro v H1 F1 R1 s1;split at h
  .rename_i hi
   exact h _ H1 F1 (R1.store S hi hps hl) s1
  .exact h.elim
def aH(i:Nat){pos':Pos}(S:aQ Z ow)(h:DE X Z ow n e f)(hN:X.N.Nodup)(hi:↥'t')(hx:#v[ĕ X.env.scope x])(hps:↥(Z.ps.contains i=false))(hl:⇑(i<ow.length))(hs:↥(swapsWith e (some (.Name x pos')) pos.line X.env=pure false))(hf:X.fn x=true\/X.env.scope.names.lookup x=some .local:=by first|exact .inl rfl|exact .inr rfl|assumption):
  CC X Z ow (ow.set i n) ol ox rm (.Assign [.Name x pos'] e pos) (jU i f):=PS.mono (aEO hN hi hx h hs hf) λDn σ H h=>CF S (dE hps) hl h
end
def fL(set:D->DS->Option DS)(body:M Fl):ZI->M Fl
 |[]=>λδ=>.ok .next δ
 |d::ds=>λδ=>match set d δ with
  |none=>.stuck
  |some δ1=>(body δ1).bind λfl δ2=>match fl with
   |.next=>fL set body ds δ2
   |.cont=>fL set body ds δ2
   |.brk=>.ok .next δ2
   |.ret d=>.ok (.ret d) δ2
def ı(X:Cx)(Z:bT)(ow:ZH)(g:TG)(set:D->DS->Option DS):Prop:=∀(F H:Hp)(σ:St)(δ δ':DS)(d:D)(v:V)(Q:St->Hp->Prop),cN X.K Z ow F H σ δ->bG X.K F d v->set d δ=some δ'->(∀σ',cN X.K Z ow F H σ' δ'->Q σ' H)->g v σ H Q
def dY(i:Nat):D->DS->Option DS:=λd δ=>if i<δ.length then some (δ.set i (some d))else none
def tO(is:ZH):D->DS->Option DS:=λd δ=>match d with
 |.tuple ds=>if ds.length=is.length then (is.zip ds).foldl (λ(o:Option DS)(p:Nat×D)=>o.bind λδ=>dY p.1 p.2 δ) (some δ)else none
 |_=>none
section
variable {X:Cx}{Z:bT}{ow:ZH}{n:Nat}{u:M Fl}{set:D->DS->Option DS}
def Ψ(h:ow.getD i 0=0):ow.set i 0=ow:=by
 by_cases hi:i<ow.length
 .apply List.ext_getElem?
  intro j;by_cases hj:j=i
  .subst hj
   rw[ë hi];rw[Ê,É hi]at h;rw[É hi];exact congrArg some h.symm
  .rw[Þ (Ñ hj)]
 .exact List.set_eq_of_length_le 'C'
def LG(S:aQ Z ow)(hps:i∉Z.ps)(hl:i<ow.length)(h0:ow.getD i 0=0):ı X Z ow (pA i) (dY i):=λF H σ δ δ' d v Q R r e q=>by
 unfold dY at e;split at e
 .rename_i hi
  cases e;have:=(R.x r).store S hi hps hl;rw[Ψ h0]at this;exact q _ this
 .cases e
def AV(S:aQ Z ow):∀(is:ZH)(t:QV),(∀i∈is,i∉Z.ps/\i<ow.length/\ow.getD i 0=0)->t=is.foldr (λi u=>EZ (pA i) u) QW ->
  ∀(F H:Hp)(σ:St)(δ δ':DS)(ds:ZI)(vs:List V)(Q:St->Hp->Prop),cN X.K Z ow F H σ δ->aD X.K F ds vs->ds.length=is.length->(is.zip ds).foldl (λ(o:Option DS)(p:Nat×D)=>o.bind λδ=>dY p.1 p.2 δ) (some δ)=some δ' ->
   (∀σ',cN X.K Z ow F H σ' δ'->Q σ' H)->t vs σ H Q
 |[],t,_,ht,F,H,σ,δ,δ',ds,vs,Q,R,r,hl,e,q=>by
  cases ds with
  |cons _ _=>cases hl
  |nil=>
   unfold aD at r;subst ht r;cases e;exact⟨rfl,q σ R⟩
 |i::is,t,hi,ht,F,H,σ,δ,δ',ds,vs,Q,R,r,hl,e,q=>by
  cases ds with
  |nil=>cases hl
  |cons d ds=>
   unfold aD at r;let⟨x,rest,rfl,rx,r⟩:=r;subst ht;rw[â,List.foldl_cons]at e;have no:∀(l:List (Nat×D)),l.foldl (λ(o:Option DS)(p:Nat×D)=>o.bind λδ=>dY p.1 p.2 δ) none=none:=λl=>by
    induction l with
    |nil=>rfl
    |cons p l ih=>rw[List.foldl_cons];exact ih
   cases e1:dY i d δ with
   |none=>
    rw[show ((some δ:Option DS).bind λδ=>dY (i,d).1 (i,d).2 δ)=none from e1,no]at e;cases e
   |some δ1=>
    rw[show ((some δ:Option DS).bind λδ=>dY (i,d).1 (i,d).2 δ)=some δ1 from e1]at e;let⟨h1,h2,h3⟩:=hi i Õ;refine⟨x,rest,rfl,LG S h1 h2 h3 F H σ δ δ1 d x _ R rx e1 λσ' R'=>?_⟩;exact AV S is _ (λj hj=>hi j (Ò _ hj)) rfl F H σ' δ1 δ' ds rest Q R' r (by simpa using hl) e q
def aFG(S:aQ Z ow)(hi:∀i∈is,i∉Z.ps/\i<ow.length/\ow.getD i 0=0)(ht:t=is.foldr (λi u=>EZ (pA i) u) QW):ı X Z ow (Ř X.K is.length t) (tO is):=λF H σ δ δ' d v Q R r e q=>by
 unfold tO at e;cases d with
 |tuple ds=>
  dsimp only at e;split at e
  .rename_i hl
   unfold bG at r;let⟨a,xs,rfl,hq,ra⟩:=r;exact⟨a,xs,rfl,R.sub.seqT hq,by rw[<- ra.len];exact hl,AV S is t hi ht F H σ δ δ' ds xs Q R ra hl e q⟩
  .cases e
 |_=>cases e
def Y0{ds:ZI}{d:D}(hg:ı X Z ow g set)(R:cN X.K Z ow F H σ δ)(s1:aI F1 F)(hk:kS X Z ow ol ox rm (fL set u (ds.drop k) δ) F Dn)(hd:ds[k]?=some d)(rx:bG X.K F d x)(Pv:Nat->St->Hp->Prop)(hP:∀k σ H F δ,cN X.K Z ow F H σ δ->aI F1 F->kS X Z ow ol ox rm (fL set u (ds.drop k) δ) F Dn->Pv k σ H):
  g x σ H λσ2 H2=>tS X Z ow ow ow ox rm u {Dn with nx:=Pv (k+1),ct:=Pv (k+1),bk:=Dn.nx} σ2 H2:=by
 have e:ds.drop k=d::ds.drop (k+1):=by
  let⟨hlt,rfl⟩:=Ð.mp hd;exact ö hlt
 rw[e]at hk;unfold fL at hk;cases e1:set d δ with
 |none=>simp![e1]at hk;exact hk.elim
 |some δ1=>
  simp![e1]at hk;refine hg F H σ δ δ1 d x _ R rx e1 λσ' R'=>⟨F,δ1,R',?_⟩;cases e2:u δ1 with
  |stuck=>rw[e2]at hk;exact hk.elim
  |err y δ2=>rw[e2]at hk;exact hk
  |ok fl δ2=>
   rw[e2]at hk;simp![Res.bind]at hk;cases fl with
   |next=>exact λσ2 H2 F2 R2 s2=>hP _ σ2 H2 F2 δ2 R2 (s1.trans' s2) (hk.mono s2)
   |cont=>exact λσ2 H2 F2 R2 s2=>hP _ σ2 H2 F2 δ2 R2 (s1.trans' s2) (hk.mono s2)
   |brk=>exact hk
   |ret d=>exact hk
def aM9(K:ZC)(tl:TE):TI:=λσ H R=>tl σ H λx H1=>(∃a,x=.ref a/\(∃xs,eE K H1 a xs)/\R (Ś K a) H1)\/(∃a,x=.ref a/\(∃xs,rB K H1 a xs)/\R (ś K a) H1)
def aFH(hl:PE X l tl):PI X tg l (aM9 X.K tl):=by
 intro U s σ H R I h;refine cM (hl U s σ H _ I h) λv s1 zQ=>?_;let⟨x,H1,I1,r1,q1⟩:=zQ;rcases q1 with ⟨a,e,⟨xs,hq⟩,q⟩|⟨a,e,⟨xs,hq⟩,q⟩
 .subst e
  cases r1;let⟨its,rv,p,hz⟩:=I1.list hq;refine wpAny_pyIter_list p.isList ?_;refine⟨s1.heap.objs.size,[s1.heap.objs.size],_,_,H1,rfl,I1.kept (t':=s1.toks) λb o e=>Heap.get?_push_of_some _ e,N4 a _,⟨_,Heap.get?_push_size _ rfl,rfl,rfl⟩,λb hb=>?_,q⟩;have e:b=s1.heap.objs.size:=by simpa using hb
  subst e;exact I1.fpOk (Ç _) (I1.hok.fresh (Ç _))
 .subst e
  cases r1;let⟨its,rv,p,hz⟩:=I1.tuple hq;refine wpAny_pyIter_tuple (show s1.heap.IsTuple a its.toArray from p) ?_;refine⟨s1.heap.objs.size,[s1.heap.objs.size],_,_,H1,rfl,I1.kept (t':=s1.toks) λb o e=>Heap.get?_push_of_some _ e,IL a _,⟨_,Heap.get?_push_size _ rfl,rfl,rfl⟩,λb hb=>?_,q⟩;have e:b=s1.heap.objs.size:=by simpa using hb
  subst e;exact I1.fpOk (Ç _) (I1.hok.fresh (Ç _))
def iO(lo:Int)(n:Nat):ZI:=(List.range n).map λ(k:Nat)=>PyData.int (lo+(k:Int))
def CG{lo:Int}(h:k<n):(iO lo n)[k]?=some (.int (lo+(k:Int))):=by
 unfold iO;rw[Î,ÿ h];rfl
def dZ{lo:Int}:(iO lo n).length=n:=by unfold iO;rw[Ä,List.length_range]
def lT:ZI->Option (Int×Nat)
 |[.int j]=>if -(2^62)<=j/\j<2^62 then some (0,j.toNat)else none
 |[.int i,.int j]=>if -(2^62)<=i/\i<2^62/\-(2^62)<=j/\j<2^62 then some (i,(j-i).toNat)else none
 |_=>none
def oB:∀{fs:List (M D)}{δ δ1:DS}{ds:ZI},aZ fs δ=.ok ds δ1->ds.length=fs.length
 |[],δ,δ1,ds,h=>by cases h;rfl
 |f::fs,δ,δ1,ds,h=>by
  unfold aZ at h;cases e:f δ with
  |stuck=>rw[e]at h;cases h
  |err x δ2=>rw[e]at h;cases h
  |ok d δ2=>
   rw[e]at h;sleep 8;cases e2:aZ fs δ2 with
   |stuck=>rw[e2]at h;cases h
   |err x δ3=>rw[e2]at h;cases h
   |ok ds' δ3=>
    rw[e2]at h;cases h;rw[Ó,Ó,oB e2]
def FD{lo:Int}(h:lT ds=some (lo,n))(hl:ds.length=1):∃j:Int,ds=[.int j]/\-(2^62)<=j/\j<2^62/\lo=0/\n=j.toNat:=by
 rcases ds with _|⟨d,_|⟨_,_⟩⟩<;>try cases hl
 cases d<;>try cases h
 unfold lT at h;dsimp only at h;split at h
 .rename_i hj;cases h;exact⟨_,rfl,hj.1,hj.2,rfl,rfl⟩
 .cases h
def RL{lo:Int}(h:lT ds=some (lo,n))(hl:ds.length=2):∃i j:Int,ds=[.int i,.int j]/\(-(2^62)<=i/\i<2^62/\-(2^62)<=j/\j<2^62)/\lo=i/\n=(j-i).toNat:=by
 rcases ds with _|⟨a,_|⟨b,_|⟨_,_⟩⟩⟩<;>try cases hl
 cases a<;>try cases h
 cases b<;>try cases h
 unfold lT at h;dsimp only at h;split at h
 .rename_i hj;cases h;exact⟨_,_,rfl,hj,rfl,rfl⟩
 .cases h
def wR{K:ZC}(h:aD K F [.int j] vs):vs=[.int j]:=by
 unfold aD at h;let⟨x,r,rfl,rx,h⟩:=h;unfold aD at h;unfold bG at rx;rw[h,rx]
def RM{K:ZC}(h:aD K F [.int i,.int j] vs):vs=[.int i,.int j]:=by
 unfold aD at h;let⟨x,r,rfl,rx,h⟩:=h;unfold bG at rx;rw[rx,wR h]
def uY(c:M Bool)(u:M Fl):Nat->M Fl
 |0=>λ_=>.stuck
 |n+1=>λδ=>(c δ).bind λb δ1=>if b=true then (u δ1).bind λfl δ2=>(match fl with
   |.next=>uY c u n δ2
   |.cont=>uY c u n δ2
   |.brk=>.ok .next δ2
   |.ret d=>.ok (.ret d) δ2)else .ok .next δ1
def eZ(c:M Bool)(u:M Fl):M Fl:=λδ=>open Classical in if h:∃n,uY c u n δ≠.stuck then uY c u h.choose δ else .stuck
def wS :∀{n:Nat}{δ:DS},uY c u n δ≠.stuck->uY c u (n+1) δ=uY c u n δ
 |0,δ,h=>absurd rfl h
 |n+1,δ,h=>by
  have e:∀m,uY c u (m+1) δ=(c δ).bind λb δ1=>if b=true then (u δ1).bind λfl δ2=>(match fl with
   |.next=>uY c u m δ2
   |.cont=>uY c u m δ2
   |.brk=>.ok .next δ2
   |.ret d=>.ok (.ret d) δ2)else .ok .next δ1:=λm=>rfl
  rw[e n]at h;rw[e (n+1),e n];cases e1:c δ with
  |stuck=>rfl
  |err x δ1=>rfl
  |ok b δ1=>
   rw[e1]at h;simp![Res.bind]at h⊢;cases b with
   |false=>rfl
   |true=>
    rw[Â rfl]at h⊢;rw[Â rfl];cases e2:u δ1 with
    |stuck=>rfl
    |err x δ2=>rfl
    |ok fl δ2=>
     rw[e2]at h;simp only at h⊢;cases fl with
     |next=>exact wS h
     |cont=>exact wS h
     |brk=>rfl
     |ret d=>rfl
def RN(h:uY c u n δ≠.stuck)(l:n<=m):uY c u m δ=uY c u n δ:=by
 induction l with
 |refl=>rfl
 |step l ih=>rw[wS (by rw[ih];exact h),ih]
def oC(n:Nat)(h:uY c u n δ≠.stuck):eZ c u δ=uY c u n δ:=by
 have ex:∃n,uY c u n δ≠.stuck:=⟨n,h⟩;unfold eZ;rw[dif_pos ex];rcases Nat.le_total n ex.choose with l|l
 .exact RN h l
 .exact(RN ex.choose_spec l).symm
def eG:eZ c u δ=(c δ).bind λb δ1=>if b=true then (u δ1).bind λfl δ2=>(match fl with
   |.next=>eZ c u δ2
   |.cont=>eZ c u δ2
   |.brk=>.ok .next δ2
   |.ret d=>.ok (.ret d) δ2)else .ok .next δ1:=by
 have e:∀m,uY c u (m+1) δ=(c δ).bind λb δ1=>if b=true then (u δ1).bind λfl δ2=>(match fl with
   |.next=>uY c u m δ2
   |.cont=>uY c u m δ2
   |.brk=>.ok .next δ2
   |.ret d=>.ok (.ret d) δ2)else .ok .next δ1:=λm=>rfl
 have go:∀(δ2:DS),(∀m,uY c u m δ2=.stuck)->eZ c u δ2=.stuck:=λδ2 h=>by
  unfold eZ;rw[dif_neg λzQ=>by let⟨n,q⟩:=zQ;exact q (h n)]
 by_cases ex:∃n,uY c u n δ≠.stuck
 .obtain⟨n,h⟩:=ex
  cases n with
  |zero=>exact absurd rfl h
  |succ n=>
   rw[oC (n+1) h,e n];rw[e n]at h;cases e1:c δ with
   |stuck=>rfl
   |err x δ1=>rfl
   |ok b δ1=>
    rw[e1]at h;simp![Res.bind]at h⊢;cases b with
    |false=>rfl
    |true=>
     rw[Â rfl]at h⊢;rw[Â rfl];cases e2:u δ1 with
     |stuck=>rfl
     |err x δ2=>rfl
     |ok fl δ2=>
      rw[e2]at h;simp only at h⊢;cases fl with
      |next=>exact(oC n h).symm
      |cont=>exact(oC n h).symm
      |brk=>rfl
      |ret d=>rfl
 .have all:∀n,uY c u n δ=.stuck:=λn=>ć λq=>ex ⟨n,q⟩
  rw[go δ all];have a1:=λm=>(e m).symm.trans (all (m+1));cases e1:c δ with
  |stuck=>rfl
  |err x δ1=>have:=a1 0;rw[e1]at this;cases this
  |ok b δ1=>
   simp![Res.bind];cases b with
   |false=>have:=a1 0;rw[e1]at this;simp![Res.bind]at this;cases this
   |true=>
    rw[Â rfl];cases e2:u δ1 with
    |stuck=>rfl
    |err x δ2=>have:=a1 0;rw[e1]at this;simp![Res.bind,if_true,e2]at this;cases this
    |ok fl δ2=>
     cases fl with
     |next=>exact(go δ2 λm=>by have:=a1 m;rw[e1]at this;simp![Res.bind,if_true,e2]at this;exact this).symm
     |cont=>exact(go δ2 λm=>by have:=a1 m;rw[e1]at this;simp![Res.bind,if_true,e2]at this;exact this).symm
     |brk=>have:=a1 0;rw[e1]at this;simp![Res.bind,if_true,e2]at this;cases this
     |ret d=>have:=a1 0;rw[e1]at this;simp![Res.bind,if_true,e2]at this;cases this
def FE(hp:PassesOwn 'b' X.A X.env X.xe)(hc:DT X Z ow e k)(hb:CD X Z ow ow ow ox rm sts u):CC X Z ow ow ol ox rm (.While e sts [] pos) (eZ k u):=PS.mono (QZ hp hc hb) λDn σ H h=>by
 let⟨F,δ,R,h⟩:=h;have ex:∃n,uY k u n δ≠.stuck:=ć λq=>by
  unfold eZ at h;rw[dif_neg q]at h;exact h
 let⟨n0,hn⟩:=ex;rw[oC n0 hn]at h;refine⟨λm σ H=>∃F2 δ2,cN X.K Z ow F2 H σ δ2/\kS X Z ow ol ox rm (uY k u m δ2) F2 Dn,⟨n0,F,δ,R,h⟩,?_⟩;rintro m σ1 H1 ⟨F1,δ1,R1,k1⟩;cases m with
 |zero=>exact k1.elim
 |succ m=>
  unfold uY at k1;refine⟨F1,δ1,R1,?_⟩;cases e1:k δ1 with
  |stuck=>rw[e1]at k1;exact k1.elim
  |err x δ2=>rw[e1]at k1;exact iM.cast k1
  |ok b δ2=>
   rw[e1]at k1;simp![Res.bind]at k1;intro H2 F2 R2 s2;cases b with
   |false=>rw[Ã Ü]at k1⊢;exact k1 σ1 H2 F2 R2 s2
   |true=>
    rw[Â rfl]at k1⊢;refine⟨λσ3 H3=>∃F3 δ3,cN X.K Z ow F3 H3 σ3 δ3/\kS X Z ow ol ox rm (uY k u m δ3) F3 Dn,λσ' H'⟨F3,δ3,R3,k3⟩=>⟨m,î _,F3,δ3,R3,k3⟩,F2,δ2,R2,?_⟩;cases e2:u δ2 with
    |stuck=>rw[e2]at k1;exact k1.elim
    |err x δ3=>rw[e2]at k1;exact iM.mono k1 s2
    |ok fl δ3=>
     rw[e2]at k1;simp only at k1;cases fl with
     |next=>exact λσ3 H3 F3 R3 s3=>⟨F3,δ3,R3,k1.mono (s2.trans' s3)⟩
     |cont=>exact λσ3 H3 F3 R3 s3=>⟨F3,δ3,R3,k1.mono (s2.trans' s3)⟩
     |brk=>exact kS.mono (r:=.ok .next δ3) k1 s2
     |ret d=>exact kS.mono (r:=.ok (.ret d) δ3) k1 s2
end
structure Y1(K:ZC)(ps owp:ZH)(rm:Nat)(F H:Hp)(g:ZP)(vs:List V)(F' H':Hp)(g':ZP)(outs:ZI)(d:D)(v:V):Prop where
 s:aI F F'
 sub:aI F' H'
 kept:∀b o,g b=none->H b=some o->H' b=some o
 new:∀a,F a=none->H a≠none->F' a=none
 there:∀b,H b≠none->H' b≠none
 lab:∀a i p,g' a=some (i,p)->H a=none\/∃q,g a=some (i,q)
 ret:bC K F' H' g' 1000 rm [] d v
 olen:outs.length=ps.length
 out:∀(k i:Nat)(d':D),ps[k]?=some i->outs[k]?=some d'->∃v',vs[i]?=some v'/\bC K F' H' g' i (owp.getD i 0) [] d' v'
def aNA(K:ZC)(ps owp:ZH)(rm:Nat)(F H:Hp)(g:ZP)(vs:List V)(Q:VK)(E:XK):Res D->Prop
 |.ok d outs=>∀v H' F' g',Y1 K ps owp rm F H g vs F' H' g' (outs.filterMap id) d v->Q v H'
 |.err x outs=>∀nm,x=.str nm->∀H' F' g',Y1 K ps owp 0 F H g vs F' H' g' (outs.filterMap id) .none .non->E (.str nm 0) none H'
 |.stuck=>False
def Ť(K:ZC)(ps owp:ZH)(rm:Nat)(f:ZI->Res D):Sp:=λvs H Q E=>∃F g ds,XU K F/\aI F H/\ds.length=vs.length/\(∀a i p,g a=some (i,p)->i∈ps) /\
 (∀(i:Nat)(d:D)(v:V),ds[i]?=some d->vs[i]?=some v->bC K F H g i (owp.getD i 0) [] d v)/\aNA K ps owp rm F H g vs Q E (f ds)
def zR(P:Program)(w:World)(K:ZC):Q8:=λouter H s E e s'=>∃nm a cls ch H',e=.ref a/\W.nsIn K mainGlobals nm=some (some cls)/\s'.os=s.os/\AllBare s'.gens/\Un (iJ outer) [] H H' s.heap s'.heap/\mM P w H' s'.heap /\
 mP s'.heap a cls ch/\(∀b∈ch,H' b=none/\s.heap.get? b=none)/\E (.str nm 0) none H'
def fF(δ:DS):ZH->Option (ZI)
 |[]=>some []
 |i::is=>match δ[i]?,fF δ is with
  |some (some d),some ds=>some (d::ds)
  |_,_=>none
def AW :∀{is:ZH}{ds:ZI},fF δ is=some ds->ds.length=is.length/\∀(k i:Nat)(d:D),is[k]?=some i->ds[k]?=some d->δ[i]?=some (some d)
 |[],ds,h=>by cases h;exact⟨rfl,λk i d e=>by simp at e⟩
 |i::is,ds,h=>by
  unfold fF at h;split at h
  .rename_i d ds' e1 e2
   cases h;let⟨h1,h2⟩:=AW e2;refine⟨by simp[h1],λk j d' q1 q2=>?_⟩;cases k with
   |zero=>cases q1;cases q2;exact e1
   |succ k=>exact h2 k j d' (by simpa using q1) (by simpa using q2)
  .cases h
def aR(m:Nat)(ps:ZH)(rm:Nat)(body:M Fl):ZI->Res D:=λds=>match body (ds.map some++List.replicate (m-ds.length) none)with
 |.ok (.ret d) δ=>(match fF δ ps with
  |some outs=>.ok d (outs.map some)
  |none=>.stuck)
 |.ok .next δ=>if rm=0 then (match fF δ ps with
  |some outs=>.ok .none (outs.map some)
  |none=>.stuck)else .stuck
 |.ok _ _=>.stuck
 |.err x δ=>(match fF δ ps with
  |some outs=>.err x (outs.map some)
  |none=>.stuck)
 |.stuck=>.stuck
section
variable {P:Program}{w:World}{K:ZC}{mg:ZD}{base:Heap}
def QK.okG{st:Stmt}(F:QK K x qual st f fd)(S:lJ N ps (bF st))(len:∀vs H Q E,sp vs H Q E->vs.length=ps.length)(hbody:∀(cdv:Value)(_:fd.code=cdv)(A:Around)(outer:List Env)(s:Shared)(H:Hp)(vs:List V)(Q:VK)(E:XK),eY k (A.deeper (envOfC qual (bF st) s.heap.objs.size f cdv))->sp vs H Q E ->
   ∃t,EQ (p7 CX P w K mg base N qual (bF st) f cdv A outer s H E) (dR st) t/\t {nx:=λ_ H'=>Q .non H',rt:=Q} (start N vs) H):rD P w K mg base CX (k+1) f fd ps sp:=by
 let⟨oc,od,kV,doc,pm,an,cdv,ct,osl,rfl,lk,hcd⟩:=F.ex;exact aJA lk hcd S len λA outer s H vs Q E hr hsp=>hbody cdv rfl A outer s H vs Q E hr hsp
def RO 
  (I:Inv (p7 (zR P w K) P w K mg base N qual sc f cdv A outer s H E) U σ H1 s1) (fl:š (p7 (zR P w K) P w K mg base N qual sc f cdv A outer s H E) U H1 s1 nm e) (q:E (.str nm 0) none H1):
  (p7 (zR P w K) P w K mg base N qual sc f cdv A outer s H E).xe e s1:=by
 let⟨a,cls,ch,rfl,hn,x,hc⟩:=fl;refine YV (base:=base) (outer:=outer) (L:=s.heap.objs.size) I.ok.frames I.stack rfl x λh' ch' xt x' new=>?_;have I2:=I.xt xt hc;refine⟨nm,a,cls,ch',H1,rfl,hn,I2.os,I2.bare,I2.base,I2.hok,x',λb hb=>?_,q⟩;rcases new b hb with m|⟨m0,m⟩
 .exact⟨(hc b m).un,(hc b m).new.resolve_left λz=>by cases z⟩
 .refine⟨I.hok.fresh m,?_⟩
  show s.heap.get? b=none;cases q:s.heap.get? b with
  |none=>rfl
  |some o=>
   let⟨o',e'⟩:=I.base.there b o q (λz=>by cases z);rw[m0]at e';cases e'
def QK.okD{st:Stmt}(Fn:QK K x qual st f fd)(S:lJ N pn (bF st))(hN:owp.length=N.length)(hb:∀(cdv:Value)(_:fd.code=cdv)(A:Around)(outer:List Env)(s:Shared)(H:Hp)(E:XK)(F0:Hp)(g0:ZP)(σ0:St)(wf:∀a i q,g0 a=some (i,q)->i∈ps),eY k (A.deeper (envOfC qual (bF st) s.heap.objs.size f cdv)) ->
   ∃ow',CD (p7 (zR P w K) P w K mg base N qual (bF st) f cdv A outer s H E) ⟨F0,H,g0,ps,σ0,owp,wf⟩ owp ow' ow' ow' rm (dR st) body):rD P w K mg base (zR P w K) (k+1) f fd pn (λvs H Q E=>vs.length=pn.length/\Ť K ps owp rm (aR N.length ps rm body) vs H Q E):=by
 refine Fn.okG S (λvs H Q E h=>h.1) λcdv ec A outer s H vs Q E hr h=>?_;let⟨hl,F,g,ds,hL,hs,hd,hg,hv,q⟩:=h;let Z:bT:=⟨F,H,g,ps,start N vs,owp,hg⟩;let⟨ow',hB⟩:=hb cdv ec A outer s H E F g (start N vs) hg hr;refine⟨_,hB,F,ds.map some++List.replicate (N.length-ds.length) none,⟨g,hs,⟨hL,aI.refl _⟩,λ_ _ _ e=>e,λ_ h _=>h,λ_ h=>h,λa i p e=>.inr ⟨p,e⟩,?_,λi _=>⟨rfl,rfl⟩,λi d' e=>?_⟩,?_⟩
 .have hpl:pn.length<=N.length:=by have:=congrArg List.length S.pre;rw[ù]at this;lia
  unfold start;simp![Ì,Ä,õ,hd]
 .have hi:i<ds.length:=by
   by_cases hi:i<ds.length
   .exact hi
   .rw[á (by simpa using hi),ą]at e
    split at e<;>cases e
  rw[ñ (by simpa using hi),Î,É hi]at e;have ed:ds[i]?=some d':=by
   rw[É hi];simpa using e
  have hi':i<vs.length:=by exact ú ‹_› ‹_›
  refine⟨vs[i],?_,hv i d' _ ed (É hi')⟩;unfold start;rw[ñ (by simpa using hi'),Î,É hi'];rfl
 .have fin:∀{rm:Nat}{d0:D}{δ:DS}{v:V}{σ':St}{H' F':Hp}{owr:ZH}{os:ZI},f8 K Z owr rm d0 v F' H' σ' δ->fF δ ps=some os->∃g',Y1 K ps owp rm F H g vs F' H' g' ((os.map some).filterMap id) d0 v:=λ{rm d0 δ v σ' H' F' owr os}R ho=>by
   have eo:(os.map some).filterMap id=os:=by rw[List.filterMap_map];exact List.filterMap_some
   rw[eo];let⟨g',R,o⟩:=R;let⟨ol,oa⟩:=AW ho;refine⟨g',R.f0.2,R.sub,R.kept,R.new,R.there,R.lab,o,ol,λk i d' h1 h2=>?_⟩;let⟨v',e1,o1⟩:=R.slot i d' (oa k i d' h1 h2);let⟨p1,p2⟩:=R.par i (û h1);rw[show Z.owp=owp from rfl]at p2;rw[p2]at o1;refine⟨v',?_,o1⟩;rw[p1]at e1;have e1:(start N vs)[i]?=some (some v'):=e1;unfold start at e1;by_cases hi:i<vs.length
   .rw[ñ (by simpa using hi),Î,É hi]at e1
    rw[É hi];simpa using e1
   .rw[á (by simpa using hi),ą]at e1
    split at e1<;>cases e1
  unfold aR at q;cases e:body (ds.map some++List.replicate (N.length-ds.length) none)with
  |stuck=>rw[e]at q;sleep 5
  |err y δ=>
   rw[e]at q;dsimp only at q;cases ho:fF δ ps with
   |none=>rw[ho]at q;sleep 5
   |some os=>
    rw[ho]at q;refine⟨λU e1 s1 xp=>?_⟩;let⟨nm,H1,F1,σ1,rfl,I,R,_,fl⟩:=xp;let⟨g1,R⟩:=R;have RX:f8 K Z owp 0 .none .non F1 H1 σ1 δ:=⟨g1,R,by show bG K F1 .none .non;unfold bG;rfl⟩;let⟨g',T⟩:=fin RX ho;exact RO I fl (q nm rfl H1 F1 g' T)
  |ok fl δ=>
   rw[e]at q;cases fl with
   |brk=>sleep 5
   |cont=>sleep 5
   |ret d0=>
    dsimp only at q;intro v σ' H' F' owr R _;cases ho:fF δ ps with
    |none=>rw[ho]at q;sleep 5
    |some os=>
     rw[ho]at q;let⟨g',T⟩:=fin R ho;exact q v H' F' g' T
   |next=>
    dsimp only at q;intro σ' H' F' R _;by_cases hrm:rm=0
    .rw[Â hrm]at q
     cases ho:fF δ ps with
     |none=>rw[ho]at q;sleep 5
     |some os=>
      rw[ho]at q;let⟨g',R⟩:=R;have RX:f8 K Z ow' rm .none .non F' H' σ' δ:=⟨g',R,by rw[hrm];show bG K F' .none .non;unfold bG;rfl⟩;let⟨g2,T⟩:=fin RX ho;exact q .non H' F' g2 T
    .rw[Ã hrm]at q;sleep 5
end
def aW:List Arg->ZH
 |[]=>[]
 |.own i::as=>i::aW as
 |.val _::as=>aW as
def fS:Nat->List Arg->ZH
 |_,[]=>[]
 |k,.own _::as=>k::fS (k+1) as
 |k,.val _::as=>fS (k+1) as
def eD(δ:DS):List Arg->List (ZL)->Option (ZI)
 |[],[]=>some []
 |.own i::as,none::ds=>match δ[i]?,eD δ as ds with
  |some (some d),some r=>some (d::r)
  |_,_=>none
 |.val _::as,some d::ds=>(eD δ as ds).map (d::·)
 |_,_=>none
def cL:ZH->ZI->DS->DS
 |i::is,d::ds,δ=>cL is ds (δ.set i (some d))
 |_,_,δ=>δ
def fU(fn:ZI->Res D)(as:List Arg):M D:=λδ=>(cP as δ).bind λods δ1=>match eD δ1 as ods with
 |none=>.stuck
 |some ds=>match fn ds with
  |.ok d outs=>.ok d (cL (aW as) (outs.filterMap id) δ1)
  |.err x outs=>.err x (cL (aW as) (outs.filterMap id) δ1)
  |.stuck=>.stuck
def gA:Nat->List Arg->Nat->Option Nat
 |_,[],_=>none
 |k,.own i::as,j=>if i=j then some k else gA (k+1) as j
 |k,.val _::as,j=>gA (k+1) as j
def FF:∀{k:Nat}{as:List Arg}{j m:Nat},gA k as j=some m->k<=m
 |k,.own i::as,j,m,h=>by
  unfold gA at h;split at h
  .cases h;exact Ç _
  .exact Nat.le_of_succ_le (FF h)
 |k,.val _::as,j,m,h=>Nat.le_of_succ_le (FF (show gA (k+1) as j=some m from h))
def kH:∀{k:Nat}{as:List Arg}{i m:Nat},gA k as i=some m->∃q,as[q]?=some (.own i)/\m=k+q/\m∈fS k as
 |k,.own s::as,i,m,h=>by
  unfold gA at h;split at h
  .rename_i e;cases h;exact⟨0,by rw[e];rfl,rfl,Õ⟩
  .obtain⟨q,e1,e2,e3⟩:=kH h
   exact⟨q+1,e1,∅,Ò _ e3⟩
 |k,.val _::as,i,m,h=>by
  let⟨q,e1,e2,e3⟩:=kH (k:=k+1) (as:=as) h;exact⟨q+1,e1,∅,e3⟩
def tP:∀{k:Nat}{as:List Arg}{t m i:Nat},(fS k as)[t]?=some m->(aW as)[t]?=some i->as[m-k]?=some (.own i)/\k<=m
 |k,.own s::as,0,m,i,h1,h2=>by cases h1;cases h2;exact⟨by rw[þ];rfl,Ç _⟩
 |k,.own s::as,t+1,m,i,h1,h2=>by
  let⟨e1,e2⟩:=tP (k:=k+1) (as:=as) (t:=t) h1 h2;exact⟨by rw[show m-k=(m-(k+1))+1 by lia];exact e1,by exact È ‹_›⟩
 |k,.val _::as,t,m,i,h1,h2=>by
  let⟨e1,e2⟩:=tP (k:=k+1) (as:=as) (t:=t) h1 h2;exact⟨by rw[show m-k=(m-(k+1))+1 by lia];exact e1,by exact È ‹_›⟩
def rP:∀{as:List Arg}{q i:Nat},as[q]?=some (.own i)->i∈aW as
 |.own s::as,0,i,h=>by cases h;exact Õ
 |.own s::as,q+1,i,h=>Ò _ (rP (as:=as) (q:=q) h)
 |.val _::as,0,i,h=>by cases h
 |.val _::as,q+1,i,h=>rP (as:=as) (q:=q) h
def tQ:∀{k:Nat}{as:List Arg}{q i:Nat},(aW as).Nodup->as[q]?=some (.own i)->gA k as i=some (k+q)
 |k,.own s::as,0,i,_,h=>by cases h;unfold gA;rw[Â rfl];rfl
 |k,.own s::as,q+1,i,nd,h=>by
  have nd':=List.nodup_cons.mp (show (s::aW as).Nodup from nd);have h:as[q]?=some (.own i):=h;have hm:i∈aW as:=rP h;have ne:¬s=i:=λe=>nd'.1 (by rw[e];exact hm);unfold gA;rw[Ã ne,tQ nd'.2 h];congr 1;lia
 |k,.val _::as,0,i,_,h=>by cases h
 |k,.val _::as,q+1,i,nd,h=>by
  have e:gA (k+1) as i=some (k+1+q):=tQ (q:=q) nd h;show gA (k+1) as i=_;rw[e];congr 1;lia
def kJ{K:ZC}:∀{as:List Arg}{ods:List (ZL)}{ds:ZI}{vs:List V},eD δ as ods=some ds->rO K F σ as ods vs->ds.length=as.length/\vs.length=as.length /\
  ∀(q:Nat)(d:D)(v:V),ds[q]?=some d->vs[q]?=some v->(∃i,as[q]?=some (.own i)/\δ[i]?=some (some d)/\σ[i]?=some (some v))\/((∃f,as[q]?=some (.val f))/\bG K F d v)
 |[],[],ds,[],h,_=>by cases h;exact⟨rfl,rfl,λq d v e=>by simp at e⟩
 |.own i::as,none::ods,ds,v::vs,h,⟨z1,z2⟩=>by
  unfold eD at h;split at h
  .rename_i d r e1 e2
   cases h;let⟨h1,h2,h3⟩:=kJ e2 z2;refine⟨by simp[h1],by simp[h2],λq d' v' q1 q2=>?_⟩;cases q with
   |zero=>cases q1;cases q2;exact .inl ⟨i,rfl,e1,z1⟩
   |succ q=>exact h3 q d' v' q1 q2
  .cases h
 |.val f::as,some d::ods,ds,v::vs,h,⟨z1,z2⟩=>by
  unfold eD at h;cases e:eD δ as ods with
  |none=>rw[e]at h;cases h
  |some r=>
   rw[e]at h;cases h;let⟨h1,h2,h3⟩:=kJ e z2;refine⟨by simp[h1],by simp[h2],λq d' v' q1 q2=>?_⟩;cases q with
   |zero=>cases q1;cases q2;exact .inr ⟨⟨f,rfl⟩,z1⟩
   |succ q=>exact h3 q d' v' q1 q2
def uZ:∀{is:ZH}{ds:ZI}{δ:DS},(cL is ds δ).length=δ.length
 |[],_,_=>by unfold cL;rfl
 |_::_,[],_=>by unfold cL;rfl
 |i::is,d::ds,δ=>by
  unfold cL;rw[uZ,Ú]
def m6:∀{is:ZH}{ds:ZI}{δ:DS}{j:Nat},j∉is->(cL is ds δ)[j]?=δ[j]?
 |[],_,_,_,_=>by unfold cL;rfl
 |_::_,[],_,_,_=>by unfold cL;rfl
 |i::is,d::ds,δ,j,h=>by
  unfold cL;rw[m6 λm=>h (Ò _ m),Þ λe=>h (by rw[e];exact Õ)]
def wT:∀{is:ZH}{ds:ZI}{δ:DS}{j:Nat}{d:D},is.Nodup->is.length=ds.length->j∈is->(cL is ds δ)[j]?=some (some d)->∃t:Nat,is[t]?=some j/\ds[t]?=some d
 |i::is,d::ds,δ,j,d',nd,hl,hm,h=>by
  unfold cL at h;have nd:=List.nodup_cons.mp nd;by_cases e:j=i
  .subst e
   rw[m6 nd.1,Ć]at h;split at h
   .split at h
    .cases h;exact⟨0,rfl,rfl⟩
    .cases h
   .rename_i z;exact absurd rfl z
  .obtain⟨t,t1,t2⟩:=wT nd.2 (by simpa using hl) ((Ë.mp hm).resolve_left e) h
   exact⟨t+1,t1,t2⟩
section
variable {X:Cx}{Z:bT}{ow:ZH}{pos:Pos}{as:List Arg}{F H:Hp}{σ:St}{δ:DS}{g:ZP}
def CH(as:List Arg)(g:ZP):ZP:=λa=>match g a with
 |some (i,p)=>(gA 0 as i).map λj=>(j,p)
 |none=>none
def RP(as:List Arg)(g g':ZP):ZP:=λa=>match g' a with
 |some (j,p)=>if j=1000 then some (1000,p)else (match as[j]? with|some (.own i)=>some (i,p)|_=>none)
 |none=>match g a with
  |some (i,p)=>if i=1000\/(gA 0 as i).isSome=true then none else some (i,p)
  |none=>none
def aJR{a:Addr}{i j:Nat}{p:ZH}(h:g a=some (i,p))(e:gA 0 as i=some j):CH as g a=some (j,p):=by
 unfold CH;rw[h];dsimp only;rw[e];rfl
def LH(h:CH as g a=some (j,p)):∃i,g a=some (i,p)/\gA 0 as i=some j:=by
 unfold CH at h;cases e:g a with
 |none=>rw[e]at h;cases h
 |some l=>
  let⟨i,q⟩:=l;rw[e]at h;dsimp only at h;cases e2:gA 0 as i with
  |none=>rw[e2]at h;cases h
  |some m=>rw[e2]at h;cases h;exact⟨i,rfl,e2⟩
def FG(S:aQ Z ow)(R:bU X.K Z ow g F H σ δ)(hA:rO X.K F σ as ods vs)(hf:eD δ as ods=some ds)(hps:fS 0 as=ps)(nd:(aW as).Nodup)(hm:∀q i,as[q]?=some (.own i)->owp.getD q 0=ow.getD i 0)(hlt:as.length<=1000)(T:Y1 X.K ps owp rm F H (CH as g) vs F' H' g' outs d v):f8 X.K Z ow rm d v F' H' σ (cL (aW as) outs δ):=by
 let⟨l1,l2,hat⟩:=kJ hf hA;have keepOut:∀{a:Addr}{i:Nat}{p:ZH},g a=some (i,p)->i∉aW as->CH as g a=none:=λ{a i p}e hi=>by
  cases e1:CH as g a with
  |none=>rfl
  |some l=>
   let⟨j,r⟩:=l;let⟨i',e2,e3⟩:=LH e1;rw[e]at e2;cases e2;let⟨q,e4,_⟩:=kH e3;exact absurd (rP e4) hi
 have h0:∀a,H a=none->Z.H0 a=none:=λa e=>by
  cases e1:Z.H0 a with
  |none=>rfl
  |some o=>exact absurd e (R.there a (by rw[e1];simp))
 refine⟨RP as g g',⟨T.sub,R.f0.trans' T.s,λb o n e=>?_,λa z1 z2=>T.new a (R.new a z1 z2) (R.there a z2),λb z=>T.there b (R.there b z),λa i p e=>?_,by rw[uZ];exact R.len,R.par,λi d' e=>?_⟩,?_⟩
 .refine T.kept b o ?_ (R.kept b o n e)
  cases e1:CH as g b with
  |none=>rfl
  |some l=>
   let⟨j,r⟩:=l;let⟨i',e2,e3⟩:=LH e1;rcases R.lab b i' r e2 with z|⟨q',z⟩
   .rw[z]at e;cases e
   .rw[z]at n;cases n
 .unfold RP at e
  cases e1:g' a with
  |some l=>
   let⟨j,r⟩:=l;rw[e1]at e;dsimp only at e;rcases T.lab a j r e1 with z|⟨q',z⟩
   .exact .inl (h0 a z)
   .obtain⟨i',z1,z2⟩:=LH z
    let⟨q2,z3,z4,_⟩:=kH z2;have:j=q2:=by lia
    subst this;have hj:j≠1000:=λw=>by
     have:=(Ð.mp z3).1;lia
    rw[Ã hj,z3]at e;cases e;exact R.lab a i q' z1
  |none=>
   rw[e1]at e;dsimp only at e;cases e2:g a with
   |none=>rw[e2]at e;cases e
   |some l=>
    let⟨j,r⟩:=l;rw[e2]at e;dsimp only at e;split at e
    .cases e
    .cases e;exact R.lab a i p e2
 .by_cases hi:i∈aW as
  .have hl:(aW as).length=outs.length:=by
    rw[T.olen,<- hps];have:∀(k:Nat)(as:List Arg),(aW as).length=(fS k as).length:=by
     intro k as
     induction as generalizing k with
     |nil=>rfl
     |cons a as ih=>
      cases a with
      |own i=>exact congrArg Nat.succ (ih (k+1))
      |val f=>exact ih (k+1)
    exact this 0 as
   let⟨t,t1,t2⟩:=wT nd hl hi e;have hpos:∃m,ps[t]?=some m:=by
    have:t<ps.length:=by rw[<- T.olen];exact(Ð.mp t2).1
    exact⟨ps[t],É this⟩
   let⟨m,hm1⟩:=hpos;let⟨v',o1,o2⟩:=T.out t m d' hm1 t2;have e3:=(tP (k:=0) (by rw[hps];exact hm1) t1).1;rw[Nat.sub_zero]at e3;have hlm:m<ds.length:=by
    have:=(Ð.mp e3).1;exact ú ‹_› (Eq.symm ‹_›)
   rcases hat m ds[m] v' (É hlm) o1 with ⟨s,a1,a2,a3⟩|⟨⟨f,a1⟩,a2⟩
   .rw[e3]at a1;cases a1
    refine⟨v',a3,?_⟩;rw[hm m i e3]at o2;refine o2.relab λa p e4=>?_;unfold RP;rw[e4];dsimp only;have hj:m≠1000:=λw=>by
     have:=(Ð.mp e3).1;lia
    rw[Ã hj,e3]
   .rw[e3]at a1;cases a1
  .rw[m6 hi]at e
   let⟨w,w1,o⟩:=R.slot i d' e;refine⟨w,w1,?_⟩;by_cases hz:ow.getD i 0=0
   .rw[hz]at o⊢;exact T.s.rep _ _ o
   .have i1:i<1000:=by
     by_cases hl:i<ow.length
     .exact Ö hl S.ow
     .exact absurd (by rw[Ê,ä 'C'];rfl) hz
    refine bC.keepJ T.s (λa q u e3 e4 e5=>?_) o;have gn:=keepOut e3 hi;have g'n:g' a=none:=by
     cases e7:g' a with
     |none=>rfl
     |some l=>
      let⟨j,r⟩:=l;rcases T.lab a j r e7 with z|⟨q',z⟩
      .rw[e4]at z;cases z
      .rw[gn]at z;cases z
    refine⟨?_,T.kept a _ gn e4,T.new a e5 (by rw[e4];simp)⟩;unfold RP;rw[g'n,e3];dsimp only;rw[Ã];rintro(z|z)
    .lia
    .cases e8:gA 0 as i with
     |none=>rw[e8]at z;cases z
     |some m=>let⟨q,e9,_⟩:=kH e8;exact hi (rP e9)
 .refine T.ret.relab λa p e=>?_
  unfold RP;rw[e];exact Â rfl
def LI{fn:ZI->Res D}{ps owp:ZH}{rm:Nat}{ods:List (ZL)}{ds:ZI}{vs:List V}{Q:VK}{E:XK}(S:aQ Z ow)(R:cN X.K Z ow F H σ δ)(hA:rO X.K F σ as ods vs)(hf:eD δ as ods=some ds)(hps:fS 0 as=ps)(nd:(aW as).Nodup)(hm:∀q i,as[q]?=some (.own i)->owp.getD q 0=ow.getD i 0)(hv:∀q f,as[q]?=some (.val f)->owp.getD q 0=0)(hlt:as.length<=1000)(q:match fn ds with
   |.ok d outs=>∀v H' F',f8 X.K Z ow rm d v F' H' σ (cL (aW as) (outs.filterMap id) δ)->aI F F'->Q v H'
   |.err x outs=>∀nm,x=.str nm->∀H' F',cN X.K Z ow F' H' σ (cL (aW as) (outs.filterMap id) δ)->aI F F'->E (.str nm 0) none H'
   |.stuck=>False):Ť X.K ps owp rm fn vs H Q E:=by
 let⟨g,R⟩:=R;let⟨l1,l2,hat⟩:=kJ hf hA;refine⟨F,CH as g,ds,R.f0.lm,R.sub,∅,λa i p e=>?_,λi d' v' e1 e2=>?_,?_⟩
 .obtain⟨j,_,e2⟩:=LH e
  let⟨_,_,_,e3⟩:=kH e2;rw[<- hps];exact e3
 .rcases hat i d' v' e1 e2 with ⟨s,a1,a2,a3⟩|⟨⟨f,a1⟩,a2⟩
  .rw[hm i s a1]
   let⟨w,w1,o⟩:=R.slot s d' a2;rw[a3]at w1;cases w1;exact o.relab λa p e=>aJR e (by rw[tQ nd a1];simp)
  .rw[hv i f a1];exact a2
 .cases e:fn ds with
  |stuck=>rw[e]at q;exact q
  |ok d outs=>
   rw[e]at q;exact λv H' F' g' T=>q v H' F' (FG S R hA hf hps nd hm hlt T) T.s
  |err x outs=>
   rw[e]at q;exact λnm hx H' F' g' T=>q nm hx H' F' (FG S R hA hf hps nd hm hlt T).rel T.s
def fB(owp ow:ZH):Nat->List Arg->Bool
 |_,[]=>true
 |k,.own i::as=>(owp.getD k 0 == ow.getD i 0) && fB owp ow (k+1) as
 |k,.val _::as=>(owp.getD k 0 == 0) && fB owp ow (k+1) as
def lU :∀{k:Nat}{as:List Arg},fB owp ow k as=true->(∀q i,as[q]?=some (.own i)->owp.getD (k+q) 0=ow.getD i 0)/\(∀q f,as[q]?=some (.val f)->owp.getD (k+q) 0=0)
 |k,[],_=>⟨λq i e=>by simp at e,λq f e=>by simp at e⟩
 |k,.own s::as,h=>by
  unfold fB at h;rw[ã,beq_iff_eq]at h;let⟨h1,h2⟩:=lU h.2;refine⟨λq i e=>?_,λq f e=>?_⟩
  .cases q with
   |zero=>cases e;exact h.1
   |succ q=>have:=h1 q i e;rw[show k+(q+1)=k+1+q by lia];exact this
  .cases q with
   |zero=>cases e
   |succ q=>have:=h2 q f e;rw[show k+(q+1)=k+1+q by lia];exact this
 |k,.val _::as,h=>by
  unfold fB at h;rw[ã,beq_iff_eq]at h;let⟨h1,h2⟩:=lU h.2;refine⟨λq i e=>?_,λq f e=>?_⟩
  .cases q with
   |zero=>cases e
   |succ q=>have:=h1 q i e;rw[show k+(q+1)=k+1+q by lia];exact this
  .cases q with
   |zero=>exact h.1
   |succ q=>have:=h2 q f e;rw[show k+(q+1)=k+1+q by lia];exact this
abbrev RQ(K:ZC)(pn:ZG)(ps owp:ZH)(rm:Nat)(fn:ZI->Res D):Sp:=λvs H Q E=>vs.length=pn.length/\Ť K ps owp rm fn vs H Q E
def RR(sp:Sp)(E:St->XK)(t:TA):TE:=λσ H Q=>t σ H λvs H1=>sp vs H1 Q (E σ)
def EX(X:Cx)(σ:St):XK:=λv _ H'=>∀nm,v=.str nm 0->∀U e s',Inv X U σ H' s'->š X U H' s' nm e->X.xe e s'
def RS{p:Pos}(Fk:rD X.prog X.w X.K X.mg X.base (zR X.prog X.w X.K) k f fd pn sp)(hr:eY k X.A)(hg:Gl X x)(hmg:X.mg x=some (.ref f))(hk:W.keepIn X.K (.ref f)=true)(hb:pE X.K fd pn [])(ha:PA X (e::es) t)(hdb:⇑(Zdb x))(he:↥(Zse e es X.env))(hpl:↥(Zbt pos es X.env)):
  PE X (.Call 'g' (e::es) [] pos) (RR sp (EX X) t):=by
 intro U s σ H Q I h;refine wpAny_Call_Name_kw (vQ I hg hmg ?_ hdb);refine W.callWith_K (h₀:=X.base) I.ok.mod.kin hk (cM (ha pos U s σ H _ I h) λus s1⟨vs,H1,I1,r,q⟩=>⟨I1.kIn,?_⟩) he hpl;have hl:us.length=pn.length:=by rw[<- r.length];exact Fk.len _ _ _ _ q
 have hb':=hb s1 us I1.kIn (by rw[ò];exact hl);rw[ò]at hb';refine wpAny_call (codeAny_mono (Fk.run X.A X.stack s1 H1 ⟨us,[]⟩ us vs Q (EX X σ) hr I1.env0 hb' r q) λr s' hq=>?_);cases r with
 |error e=>
  let⟨nm,a,cls,ch,H',rfl,hn,os,bare,un,hok,x,new,q2⟩:=hq;have I2:Inv X U σ H' s':=I1.call' os un hok bare λb z=>absurd z 'e';exact q2 nm rfl U _ s' I2 ⟨a,cls,ch,rfl,hn,x,λb hb=>uV.of I1 (new b hb).1 (new b hb).2⟩
 |ok fl=>
  cases fl with
  |ret u=>exact I1.after hq
  |next=>exact False.elim hq
  |brk=>exact False.elim hq
  |cont=>exact False.elim hq
def FH(S:aQ Z ow)(hz:XW Z=true)(hl:as.length=pn.length)(hps:fS 0 as=ps)(nd:decide (aW as).Nodup=true)(hm:fB owp ow 0 as=true)(hlt:as.length<=1000)(h:tD X Z ow rm (fU fn as) σ H Q):RR (RQ X.K pn ps owp rm fn) (EX X) (ŀ X Z ow as) σ H Q:=by
 let⟨F,δ,R,h⟩:=h;unfold fU at h;sleep 4;let⟨m1,m2⟩:=lU hm;cases e:cP as δ with
 |stuck=>sleep 1
 |err x δ1=>rw[e]at h;exact h
 |ok ods δ1=>
  rw[e]at h;sleep 8;intro vs H1 F1 R1 s1 z;cases e2:eD δ1 as ods with
  |none=>rw[e2]at h;exact h.elim
  |some ds=>
   rw[e2]at h;dsimp only at h;have l2:=(kJ e2 z).2.1;refine⟨by exact Eq.trans ‹_› ‹_›,LI S R1 z e2 hps (of_decide_eq_true nd) (λq i e=>by have:=m1 q i e;rwa [Nat.zero_add]at this) (λq f e=>by have:=m2 q f e;rwa [Nat.zero_add]at this) hlt ?_⟩
   cases e3:fn ds with
   |stuck=>rw[e3]at h;exact h.elim
   |err x outs=>
    rw[e3]at h;dsimp only at h⊢;intro nm hx H' F' R' s' nm' hnm U e s2 I2 fl;injection hnm with hnm;subst hnm;let⟨F2,s3,R2⟩:=R'.toP hz;exact h.out U e s2 ⟨nm,H',F2,σ,hx,I2,R2,s1.trans' (s'.trans' s3),fl⟩
   |ok d outs=>
    rw[e3]at h;dsimp only at h⊢;exact λv H' F' R' s'=>h v H' F' R' (s1.trans' s')
def Y2{p:Pos}(S:aQ Z ow)(Fk:rD X.prog X.w X.K X.mg X.base (zR X.prog X.w X.K) k f fd pn (RQ X.K pn ps owp rm fn))(hr:eY k X.A)(hg:Gl X x)(hmg:X.mg x=some (.ref f))(hk:W.keepIn X.K (.ref f)=true)(hb:pE X.K fd pn [])(ha:DA X Z ow (e::es) as)(hz:↥(XW Z=true))(hl:↥(as.length=pn.length))(hps:↥(fS 0 as=ps))(nd:↥(decide (aW as).Nodup=true))(hm:↥(fB owp ow 0 as=true))(hlt:⇑(as.length<=1000))(hdb:⇑(Zdb x))(he:↥(Zse e es X.env))(hpl:↥(Zbt pos es X.env)):
  DE X Z ow rm (.Call 'g' (e::es) [] pos) (fU fn as):=PE.mono (RS Fk hr hg hmg hk hb ha hdb he hpl) λ_ _ _ h=>FH S hz hl hps nd hm hlt h
end
section
variable {X:Cx}{Z:bT}{ow ol ox:ZH}{n rm:Nat}{pos:Pos}{e a b:Expr}{f h:M D}{F H:Hp}{σ:St}{δ:DS}{g:ZP}{K:ZC}
def bC.relabP{g':ZP}(hg:∀a p,g a=some (i,p)->g' a=some (j,q++p))(r:bC K F H g i n p d v):bC K F H g' j n (q++p) d v:=
 iC.trans (λ_ _ z=>z) (λa p o e1 e2 e3=>⟨hg a p e1,e2,e3⟩) r
def cN.rewrite{a:Addr}(S:aQ Z ow)(R:cN K Z ow F H σ δ)(ho:ow.getD i 0=1)(hd:δ[i]?=some 'w')(hs:σ[i]?=some (some (.ref a)))(hr:aD K F ds' vs'):
  cN K Z ow F (bA H a (.lst vs')) σ (δ.set i (some (.list ds'))):=by
 let⟨g,R⟩:=R;let⟨v,e1,o⟩:=R.slot i _ hd;rw[hs]at e1;cases e1;rw[ho]at o;let⟨a',ds0,vs0,q1,q2,q3,q4,q5,q6,q7⟩:=o.lst (m:=0);cases q1;cases q2;have hi:i<δ.length:=(Ð.mp hd).1;refine⟨g,λb u e=>?_,R.f0,λb u n e=>?_,R.new,λb z=>?_,R.lab,by rw[Ú];exact R.len,R.par,λj d e=>?_⟩
 .have:b≠a:=λz=>by rw[z,q5]at e;cases e
  rw[aF this];exact R.sub b u e
 .have:b≠a:=λz=>by
   subst z;rcases R.lab b i [] q3 with w|⟨q,w⟩
   all_goals grind
  rw[aF this];exact R.kept b u n e
 .by_cases hb:b=a
  .subst hb;rw[aJ];simp
  .rw[aF hb];exact R.there b z
 .by_cases hj:j=i
  .subst hj
   rw[ë hi]at e;cases e;refine⟨_,hs,?_⟩;rw[ho];exact bC.mkL (m:=0) ⟨a,ds',vs',rfl,rfl,q3,aJ,q5,hr.len,λk d' v' z1 z2=>hr.both k d' v' z1 z2⟩
  .rw[Þ (Ñ hj)]at e
   let⟨v,e1,o⟩:=R.slot j d e;refine⟨v,e1,o.mono 'p' (λ_ _ _ e=>e) (λ_ _ _ _ h=>h) λa' l u hl e h=>?_⟩;have:a'≠a:=λz=>by grind
   rw[aF this];exact h
def cN.ownAt{d:D}(R:cN K Z ow F H σ δ)(ho:ow.getD i 0=1)(hd:δ[i]?=some (some d)):∃a ds vs,d=.list ds/\σ[i]?=some (some (.ref a))/\H a=some (.lst vs)/\aD K F ds vs:=by
 let⟨g,R⟩:=R;let⟨v,e1,o⟩:=R.slot i _ hd;rw[ho]at o;let⟨a,ds0,vs0,q1,q2,q3,q4,q5,q6,q7⟩:=o.lst (m:=0);exact⟨a,ds0,vs0,q1,by rw[e1,q2],q4,aD.of q6 q7⟩
def JG(i:Nat)(op:ZI->ZI->Option (D×ZI))(fs:List (M D)):M D:=λδ=>match δ[i]? with
 |some (some _)=>(aZ fs δ).bind λargs δ1=>(match δ1[i]? with
  |some 'w'=>(match op ds args with
   |some (ret,ds')=>.ok ret (δ1.set i (some (.list ds')))
   |none=>.stuck)
  |_=>.stuck)
 |_=>.stuck
def zT(X:Cx)(r:V->List V->Hp->VK->Prop)(op:ZI->ZI->Option (D×ZI)):Prop:=∀(F H:Hp)(l:Addr)(xs vs:List V)(ds args:ZI)(ret:D)(ds':ZI),H l=some (.lst xs)->aI F H->aD X.K F ds xs->aD X.K F args vs->op ds args=some (ret,ds') ->
 ∃xs' rv,aD X.K F ds' xs'/\bG X.K F ret rv/\∀Q:VK,Q rv (bA H l (.lst xs'))->r (.ref l) vs H Q
def Y3(S:aQ Z ow)(ho:ow.getD i 0=1)(hm:zT X r op)(h:tD X Z ow 0 (JG i op fs) σ H Q):Υ X.K "list" r (N3 i) (tV X Z ow fs) σ H Q:=by
 let⟨F,δ,R,h⟩:=h;unfold JG at h;cases e0:δ[i]? with
 |none=>rw[e0]at h;exact h.elim
 |some o=>
  cases o with
  |none=>rw[e0]at h;exact h.elim
  |some d0=>
   rw[e0]at h;dsimp only at h;let⟨a,ds0,vs0,q1,q2,q3,q4⟩:=R.ownAt ho e0;refine⟨_,q2,.inl ⟨rfl,vs0,eE.of q3⟩,F,δ,R,?_⟩;cases e:aZ fs δ with
   |stuck=>sleep 1
   |err x δ1=>rw[e]at h;exact h
   |ok args δ1=>
    rw[e]at h;sleep 8;intro vs H1 F1 R1 s1 z;cases e1:δ1[i]? with
    |none=>rw[e1]at h;exact h.elim
    |some o=>
     cases o with
     |none=>rw[e1]at h;exact h.elim
     |some d1=>
      rw[e1]at h;let⟨a',ds1,vs1,p1,p2,p3,p4⟩:=R1.ownAt ho e1;rw[q2]at p2;cases p2;subst p1;dsimp only at h;cases e2:op ds1 args with
      |none=>rw[e2]at h;exact h.elim
      |some rr=>
       let⟨ret,ds'⟩:=rr;rw[e2]at h;dsimp only at h;let⟨xs',rv,w1,w2,w3⟩:=hm F1 H1 a vs1 vs ds1 args ret ds' p3 R1.sub p4 z e2;exact w3 Q (h _ _ F1 ((R1.rewrite S ho e1 q2 w1).x w2) s1)
def tR(i:Nat){x:Str}{p q:Pos}{id:String}(S:aQ Z ow)(slot:Slot "list" name id)(hty:typeOf (.builtin id)=pure (.type "method_descriptor"))(hmr:ģ X id r)(hm:zT X r op)(ha:DV X Z ow (e::es) fs)(ho:↥(ow.getD i 0=1))(hN:↥'t')(hv:#v[AJ X.env.scope x])(hd:⇑(Zdb x))(hcd:⇑(Zcd x))(hbase:↥(attributeBase 'g' name X.env (eval 'g' X.env)=eval 'g' X.env))(hfew:↥(((backTo pos (starEach (e::es) X.env)).all (λx=>!x.1) && (backToKw pos (keywordEach [] X.env)).all (λx=>x.1.isSome)
   && decide ((e::es).length+([]:List Keyword).length+(if ([]:List Keyword).isEmpty then 0 else 1)<30))=true))(hline:↥((q.endLine == pos.line)=true))(hs:↥(Zse e es X.env))(hplain:↥(Zbt pos es X.env)):
  DE X Z ow 0 (.Call (.Attribute 'g' name q) (e::es) [] pos) (JG i op fs):=PE.mono (RC PySem.F.plainAttrs_list slot hty hmr (dQ hN hv hd hcd) ha hbase hfew hline hs hplain) λ_ _ _ h=>Y3 S ho hm h
def JH:ZI->ZI->Option (D×ZI)
 |ds,[d]=>if ds.length<sizeLine then some (.none,ds++[d])else none
 |_,_=>none
def CI:bG K F .none .non:=by unfold bG;rfl
def p9:zT X K6 JH:=λF H l xs vs ds args ret ds' hl hs h1 h2 e=>by
 unfold JH at e;split at e
 .rename_i d
  split at e
  .rename_i hlt
   cases e;unfold aD at h2;let⟨x,r,rfl,hx,h2⟩:=h2;unfold aD at h2;subst h2;exact⟨xs++[x],.non,h1.app (lR hx lQ),CI,λQ q=>⟨l,xs,x,rfl,rfl,hl,by rw[<- h1.len];exact hlt,q⟩⟩
  .cases e
 .cases e
def dG(i:Nat){x:Str}{p q:Pos}(S:aQ Z ow)(ha:DE X Z ow 0 e f)(ho:↥(ow.getD i 0=1))(hN:↥'t')(hv:#v[AJ X.env.scope x])(hd:⇑(Zdb x))(hcd:⇑(Zcd x))(hbase:↥(attributeBase 'g' "append" X.env (eval 'g' X.env)=eval 'g' X.env))(hfew:↥(((backTo pos (starEach [e] X.env)).all (λx=>!x.1) && (backToKw pos (keywordEach [] X.env)).all (λx=>x.1.isSome)
   && decide ([e].length+([]:List Keyword).length+(if ([]:List Keyword).isEmpty then 0 else 1)<30))=true))(hline:↥((q.endLine == pos.line)=true))(hs:↥(Zse e [] X.env))(hplain:↥(Zbt pos [] X.env)):
  DE X Z ow 0 (.Call (.Attribute 'g' "append" q) [e] [] pos) (JG i JH [f]):=tR i S PySem.F.slot_list_append PySem.F.type_list_append tM p9 (aE ha aV hs) ho hN hv hd hcd hbase hfew hline hs hplain
def RT(i:Nat)(fk fv:M D):M Fl:=λδ=>(fv δ).bind λv δ1=>match δ1[i]? with
 |some (some _)=>(fk δ1).bind λk δ2=>(match δ2[i]?,k with
  |some 'w',.int k=>(match lK ds.length k with
   |some j=>.ok .next (δ2.set i (some (.list (ds.set j v))))
   |none=>.stuck)
  |_,_=>.stuck)
 |_=>.stuck
def aD.set(h:aD K F ds vs)(j:Nat)(r:bG K F d v):aD K F (ds.set j d) (vs.set j v):=
 aD.of (by rw[Ú,Ú,h.len]) λk d' v' e1 e2=>by
  by_cases hk:j=k
  .grind
  .rw[Þ hk]at e1 e2
   exact h.both k d' v' e1 e2
def wU(i:Nat){x:Str}{p:Pos}{spos tpos:Pos}(S:aQ Z ow)(hv:DE X Z ow 0 ev fv)(hk:DE X Z ow 0 ek fk)(ho:↥(ow.getD i 0=1))(hN:↥'t')(hvi:#v[AJ X.env.scope x])(hd:⇑(Zdb x))(hcd:⇑(Zcd x))(ha: ~~~(∀v,assign (.Subscript 'g' ek tpos) X.env v=(do
   let ov <- holding [v] (eval 'g' X.env);let iv <- holding [v,ov] (eval ek X.env)
   standAt tpos
   holding [v,ov,iv] (setItem ov iv v)
   release [v,ov,iv] [])))(hs:↥(swapsWithSole [.Subscript 'g' ek tpos] ev spos.line X.env=pure false))(hw:↥(swappedStores [.Subscript 'g' ek tpos] ev X.env=pure none))(h1:↥((assignEach [.Subscript 'g' ek tpos] X.env).map (·.2)=[assign (.Subscript 'g' ek tpos) X.env])):
  CC X Z ow ow ol ox rm (.Assign [.Subscript 'g' ek tpos] ev spos) (RT i fk fv):=PS.mono (QY hv (QX (dQ hN hvi hd hcd) hk E5 ha) hs hw h1) λDn σ H h=>by
 let⟨F,δ,R,h⟩:=h;unfold RT at h;sleep 4;cases e:fv δ with
 |stuck=>sleep 1
 |err y δ1=>rw[e]at h;exact iM.cast h
 |ok dv δ1=>
  rw[e]at h;sleep 8;intro v H1 F1 R1 s1;cases e0:δ1[i]? with
  |none=>rw[e0]at h;exact h.elim
  |some o=>
   cases o with
   |none=>rw[e0]at h;exact h.elim
   |some d0=>
    rw[e0]at h;dsimp only at h;let⟨a,ds0,vs0,q1,q2,q3,q4⟩:=R1.rel.ownAt ho e0;refine⟨_,q2,F1,δ1,R1.rel,?_⟩;cases e1:fk δ1 with
    |stuck=>rw[e1]at h;exact h.elim
    |err y δ2=>rw[e1]at h;exact iM.cast (iM.mono h s1)
    |ok dk δ2=>
     rw[e1]at h;dsimp only at h;intro kv H2 F2 R2 s2;cases e2:δ2[i]? with
     |none=>rw[e2]at h;exact h.elim
     |some o=>
      cases o with
      |none=>rw[e2]at h;exact h.elim
      |some d1=>
       rw[e2]at h;let⟨a',ds1,vs1,p1,p2,p3,p4⟩:=R2.rel.ownAt ho e2;rw[q2]at p2;cases p2;subst p1;cases dk with
       |int k=>
        dsimp only at h;cases e3:lK ds1.length k with
        |none=>rw[e3]at h;exact h.elim
        |some j=>
         rw[e3]at h;have rk:=R2.rep;unfold bG at rk;subst rk;refine⟨a,vs1,k,j,rfl,rfl,p3,by rw[<- p4.len];exact e3,?_⟩;exact h σ _ F2 (R2.rel.rewrite S ho e2 q2 (p4.set j (s2.rep _ _ R1.rep))) (s1.trans' s2)
       |_=>exact h.elim
def fC(a b:D):ZL:=match b with
 |.int i=>(match a with
  |.list ds=>atI ds i
  |.tuple ds=>atI ds i
  |.str z=>if z.length<=sizeLine then (atI z.cps.toList i).map λc=>.str ⟨#[c]⟩else none
  |_=>none)
 |_=>none
def aD.atI{d:D}(h:aD K F ds vs)(e:L2.atI ds i=some d):∃v,L2.atI vs i=some v/\bG K F d v:=by
 unfold L2.atI at e⊢;rw[<- h.len];cases q:lK ds.length i with
 |none=>rw[q]at e;cases e
 |some j=>
  rw[q]at e;exact h.get e
def aJS:oA X (Ο X.K) 0 fC:=λZ ow F H σ δ a b x y d Q S R ra rb e q=>by
 unfold fC at e;split at e<;>try cases e
 split at e<;>try cases e
 .rename_i i _ ds
  unfold bG at ra rb;let⟨p,xs,rfl,hq,rs⟩:=ra;subst rb;let⟨v,e1,r⟩:=rs.atI e;exact .inl ⟨p,xs,i,v,rfl,rfl,R.sub.seq hq,e1,q v H F (R.x r) 'p'⟩
 .rename_i i _ ds
  unfold bG at ra rb;let⟨p,xs,rfl,hq,rs⟩:=ra;subst rb;let⟨v,e1,r⟩:=rs.atI e;exact .inr (.inl ⟨p,xs,i,v,rfl,rfl,R.sub.seqT hq,e1,q v H F (R.x r) 'p'⟩)
 .rename_i i _ z
  unfold bG at ra rb;subst ra rb;split at e
  .rename_i hz
   cases e1:atI z.cps.toList i with
   |none=>rw[e1]at e;cases e
   |some c=>
    rw[e1]at e;cases e;exact .inr (.inr ⟨z,i,c,rfl,rfl,hz,e1,q _ H F (R.x (by unfold bG;rfl)) 'p'⟩)
  .cases e
def fM(S:aQ Z ow)(ha:DE X Z ow 0 a f)(hb:DE X Z ow 0 b h)(hs:lM b:=by exact λ_ _=>rfl):DE X Z ow 0 (.Subscript a b pos) (j9 fC f h):=PE.mono (AQ aE4 ha hb hs) λ_ _ _ q=>B9 S aJS q
def RU(i:Nat)(fk:M D):M D:=λδ=>match δ[i]? with
 |some (some _)=>(fk δ).bind λk δ1=>(match δ1[i]? with
  |some (some d)=>(match fC d k with
   |some r=>.ok r δ1
   |none=>.stuck)
  |_=>.stuck)
 |_=>.stuck
def jV(i:Nat){x:Str}{p:Pos}(hb:DE X Z ow 0 b h)(ho:↥(ow.getD i 0=1))(hN:↥'t')(hv:#v[AJ X.env.scope x])(hd:⇑(Zdb x))(hcd:⇑(Zcd x))(hs:lM b:=by exact λ_ _=>rfl):
  DE X Z ow 0 (.Subscript 'g' b pos) (RU i h):=PE.mono (AQ n5 (dQ hN hv hd hcd) hb hs) λσ H Q q=>by
 let⟨F,δ,R,q⟩:=q;unfold RU at q;cases e0:δ[i]? with
 |none=>rw[e0]at q;sleep 5
 |some o=>
  cases o with
  |none=>rw[e0]at q;sleep 5
  |some d0=>
   rw[e0]at q;dsimp only at q;let⟨a,ds0,vs0,q1,q2,q3,q4⟩:=R.ownAt ho e0;refine⟨_,q2,F,δ,R,?_⟩;cases e1:h δ with
   |stuck=>rw[e1]at q;sleep 5
   |err y δ2=>rw[e1]at q;exact q
   |ok dk δ2=>
    rw[e1]at q;simp![Res.bind]at q;intro kv H2 F2 R2 s2;cases e2:δ2[i]? with
    |none=>rw[e2]at q;sleep 5
    |some o=>
     cases o with
     |none=>rw[e2]at q;sleep 5
     |some d1=>
      rw[e2]at q;let⟨a',ds1,vs1,p1,p2,p3,p4⟩:=R2.rel.ownAt ho e2;rw[q2]at p2;cases p2;subst p1;cases dk with
      |int k=>
       dsimp![fC]at q;cases e3:atI ds1 k with
       |none=>rw[e3]at q;sleep 5
       |some r=>
        rw[e3]at q;have rk:=R2.rep;unfold bG at rk;subst rk;let⟨v,w1,w2⟩:=p4.atI e3;exact⟨a,vs1,k,v,rfl,rfl,eE.of p3,w1,q v H2 F2 (R2.rel.x w2) s2⟩
      |_=>sleep 5
def qA:ZI->ZL
 |[d]=>(match d with
  |.list ds=>some (.int ds.length)
  |.tuple ds=>some (.int ds.length)
  |.str z=>if z.length<=sizeLine then some (.int z.length)else none
  |_=>none)
 |_=>none
def FI(i:Nat):M D:=λδ=>match δ[i]? with
 |some (some d)=>(match qA [d]with
  |some r=>.ok r δ
  |none=>.stuck)
 |_=>.stuck
def Y4(i:Nat){x:Str}{p p2:Pos}(hg:Gl X "len")(hm:X.mg "len"=none)(ho:↥(ow.getD i 0=1))(hN:↥'t')(hv:#v[AJ X.env.scope x])(hd:⇑(Zdb x))(hcd:⇑(Zcd x))(he:↥(starEach [.Name x p] X.env=(false,eval 'g' X.env)::starEach [] X.env))(hpl:↥(Zbt pos [] X.env)):DE X Z ow 0 (.Call (.Name "len" p2) [.Name x p] [] pos) (FI i):=
 PE.mono (wG rG hg hm RE (gS (dQ hN hv hd hcd) mV he) ⋯ ⋯ he hpl) λσ H Q q=>by
  let⟨F,δ,R,q⟩:=q;unfold FI at q;cases e0:δ[i]? with
  |none=>rw[e0]at q;sleep 5
  |some o=>
   cases o with
   |none=>rw[e0]at q;sleep 5
   |some d0=>
    rw[e0]at q;let⟨a,ds0,vs0,rfl,q2,q3,q4⟩:=R.ownAt ho e0;refine⟨_,q2,a,vs0,rfl,.inl (eE.of q3),?_⟩;dsimp![qA]at q;rw[q4.len]at q;exact q _ H F (R.x (by unfold bG;rfl)) 'p'
end
section
variable {a:Expr}{h:M D}{F:Hp}{K:ZC}
def hG(h:bG K F (.int i) v):v=.int i:=by unfold bG at h;exact h
def lV(h:bG K F (.str x) v):v=.str x:=by unfold bG at h;exact h
def kK(h:bG K F (.bool x) v):v=.bl x:=by unfold bG at h;exact h
def qB(h:bG K F .none v):v=.non:=by unfold bG at h;exact h
def kL(h:bG K F (.list ds) v):∃(a:Addr)(xs:List V),v=.ref a/\eE K F a xs/\aD K F ds xs:=by unfold bG at h;exact h
def CJ(h:bG K F (.tuple ds) v):∃(a:Addr)(xs:List V),v=.ref a/\rB K F a xs/\aD K F ds xs:=by unfold bG at h;exact h
def eU:bG K F (.int i) (.int i):=by unfold bG;rfl
def RV:bG K F (.str i) (.str i):=by unfold bG;rfl
def iP:bG K F (.bool i) (.bl i):=by unfold bG;rfl
def iD(C:Int->Int->Prop)(g:Int->Int->D):D->D->ZL
 |.int i,.int j=>open Classical in if C i j then some (g i j)else none
 |_,_=>none
def CK(hg:∀F i j,bG X.K F (g' i j) (g i j)):oA X (rI C g) 0 (iD C g'):=λZ ow F H σ δ a b x y d Q S R ra rb e q=>by
 unfold iD at e;split at e
 .rename_i i j
  split at e
  .rename_i hc
   cases e;exact⟨i,j,hG ra,hG rb,hc,q _ H F (R.x (hg F i j)) 'p'⟩
  .cases e
 .cases e
def XX(g:Int->Int->D):D->D->ZL
 |.int i,.int j=>some (g i j)
 |_,_=>none
def oE(hg:∀F i j,bG X.K F (g' i j) (g i j)):oA X (N7 g) 0 (XX g'):=λZ ow F H σ δ a b x y d Q S R ra rb e q=>by
 unfold XX at e;split at e
 .rename_i i j
  cases e;exact⟨i,j,hG ra,hG rb,q _ H F (R.x (hg F i j)) 'p'⟩
 .cases e
def oA.or(h:oA X r n o)(h':oA X r' n o'):oA X (λx y H Q=>r x y H Q\/r' x y H Q) n (λa b=>(o a b).or (o' a b)):=λZ ow F H σ δ a b x y d Q S R ra rb e q=>by
 dsimp only at e;cases e1:o a b with
 |some d'=>
  rw[e1,Option.some_or]at e;cases e;exact .inl (h Z ow F H σ δ a b x y d Q S R ra rb e1 q)
 |none=>
  rw[e1,Option.none_or]at e;exact .inr (h' Z ow F H σ δ a b x y d Q S R ra rb e q)
def JI:D->D->ZL
 |.str i,.str j=>if i.length+j.length<=sizeLine then some (.str (i++j))else none
 |_,_=>none
def JJ:D->D->ZL
 |.tuple i,.tuple j=>if i≠[]/\i.length+j.length<=sizeLine then some (.tuple (i++j))else none
 |_,_=>none
def FJ:D->D->ZL
 |.list i,.list j=>if i.length+j.length<=sizeLine then some (.list (i++j))else none
 |_,_=>none
instance{l:ZI}:Decidable (l≠[]):=match l with
 |[]=>.isFalse λh=>h rfl
 |_::_=>.isTrue λh=>by cases h
def aFI:oA X (λx y H Q=>∃i j,x=.str i/\y=.str j/\i.length+j.length<=sizeLine/\Q (.str (i++j)) H) 0 JI:=λZ ow F H σ δ a b x y d Q S R ra rb e q=>by
 unfold JI at e;split at e
 .rename_i i j
  split at e
  .rename_i hc
   cases e;exact⟨i,j,lV ra,lV rb,hc,q _ H F (R.x RV) 'p'⟩
  .cases e
 .cases e
def aFJ:oA X (Μ X.K) 0 JJ:=λZ ow F H σ δ a b x y d Q S R ra rb e q=>by
 unfold JJ at e;split at e
 .rename_i i j
  split at e
  .rename_i hc
   cases e;let⟨p,xs,rfl,hp,ha⟩:=CJ ra;let⟨p',ys,rfl,hp',hb⟩:=CJ rb;refine⟨p,p',xs,ys,rfl,rfl,R.sub.seqT hp,R.sub.seqT hp',λz=>?_,by rw[<- ha.len,<- hb.len];exact hc.2,λz=>?_,λz t ht=>?_⟩
   .have:=ha.len;rw[z]at this;exact hc.1 (List.length_eq_zero_iff.mp this)
   .have hj:j=[]:=by have:=hb.len;rw[z]at this;exact List.length_eq_zero_iff.mp this
    rw[hj,ò]at q;exact q _ H F (R.x ra) 'p'
   .have ft:=R.fnone ht
    exact q _ _ (bA F t (.tup (xs++ys))) ((R.laid ht).x (p8 ft (ha.app hb))) (cI ft _)
  .cases e
 .cases e
def OG(l:Addr)(items:Array Value)(n:Nat)(sl:Array (ZN))(b:Addr)(fG:Array Value)(n2:Nat)(sl2:Array (ZN))(hc0:items.size+fG.size<=sizeLine):
  Meets (Builtin.«list.__add__» ⟨[.ref l,.ref b],[]⟩) (λ_ R s=>s.heap.get? l=some ⟨.type "list",none,.seq items n,sl⟩/\s.heap.get? b=some ⟨.type "list",none,.seq fG n2,sl2⟩/\R (.ok (.ret (Value.ref s.heap.objs.size))) {s with heap:=s.heap.push {cls:=Value.type "list",data:=Data.seq (items++fG)},toks:=s.toks}):=
 .of_wp λprog w A R s h=>by
  let⟨hp,g,d,tk,os⟩:=s;let⟨hl,hb,h⟩:=h;have f1:=PySem.AutoSeq1.idx_int;have f2:=PySem.AutoSeq1.sub_tuple_tuple;have f3:=PySem.AutoSeq1.sub_list_list;have f4:=PySem.AutoSeq1.sub_tuple_list;have f5:=PySem.AutoSeq1.sub_list_tuple
  wp_walk using PySem.AutoSeq1.wpAny_loadPart' hl,PySem.AutoSeq1.wpAny_loadPart' hb
  exact⟨_,rfl,h⟩
def OH{prog:Program}{w:World}{A:Around}{E:ZA}{s:Shared}{l b:Addr}{items fG:Array Value}{n n2:Nat}{sl sl2:Array (ZN)}{Q:ZA}(hl:s.heap.get? l=some ⟨.type "list",none,.seq items n,sl⟩)(hb:s.heap.get? b=some ⟨.type "list",none,.seq fG n2,sl2⟩)(h:Q (.ref s.heap.objs.size) {s with heap:=s.heap.push {cls:=.type "list",data:=.seq (items++fG)}})(hsz:items.size+fG.size<=sizeLine):wpAny 'u' A (binaryOp .Add (.ref l) (.ref b)) Q E s:=
 concat_meets ⟨_,hl,rfl⟩ ⟨_,hb,rfl⟩ noFill_list_add seq_list_add F.slot_list_add F.entry_list_add (F.args_list_add_2 _ _) (OG l items n sl b fG n2 sl2 hsz) ⟨hl,hb,h⟩
def Ω(K:ZC):R2:=λx y H Q=>∃l b xs zs,x=.ref l/\y=.ref b/\eE K H l xs/\eE K H b zs/\xs.length+zs.length<=sizeLine/\∀p,H p=none->Q (.ref p) (bA H p (.lst (xs++zs)))
def LJ:jS X (binaryOp .Add) (Ω X.K):=by
 sleep 6;let⟨l,b,xs,zs,rfl,rfl,hH,hB,hz,q⟩:=h;cases rx;cases ry;let⟨its,r,⟨o,n,e,c,dn,dd⟩,z⟩:=I.list hH;let⟨its2,r2,⟨o2,n2,e2,c2,dn2,dd2⟩,z2⟩:=I.list hB;let⟨oc,od,oda,osl⟩:=o;let⟨oc2,od2,oda2,osl2⟩:=o2;cases c;cases c2;cases dn;cases dn2;cases dd;cases dd2;have hl:=r.length;have hl2:=r2.length;refine OH e e2 ?_ 'k';have ea:its.toArray++its2.toArray=(its++its2).toArray:=by simp
 rw[ea];exact⟨.ref _,_,I.lnew (t':=s.toks) (r.append r2) 'k',rfl,q _ I.fresh⟩
def LK:oA X (Ω X.K) 1 FJ:=λZ ow F H σ δ a b x y d Q S R ra rb e q=>by
 unfold FJ at e;split at e
 .rename_i i j
  split at e
  .rename_i hc
   cases e;let⟨p,xs,rfl,hp,ha⟩:=kL ra;let⟨p',ys,rfl,hp',hb⟩:=kL rb;exact⟨p,p',xs,ys,rfl,rfl,R.sub.seq hp,R.sub.seq hp',by rw[<- ha.len,<- hb.len];exact hc,λt ht=>q _ _ F (R.newList S ht (ha.app hb)) 'p'⟩
  .cases e
 .cases e
def oA.fz(h:oA X r n o):oA X r 0 o:=λZ ow F H σ δ a b x y d Q S R ra rb e q=>h Z ow F H σ δ a b x y d Q S R ra rb e λv H' F' R' s=>by
 let⟨F2,s2,R2⟩:=R'.freeze S;exact q v H' F2 R2 (s.trans' s2)
def OI:D->D->ZL:=λa b=>(XX (λi j=>.int (i+j)) a b).or ((JI a b).or ((JJ a b).or (FJ a b)))
def bM(S:aQ Z ow)(ha:DE X Z ow 0 a f)(hb:DE X Z ow 0 b h):DE X Z ow 0 (.BinOp a .Add b pos) (j9 OI f h):=
 wP S (aES.or (IS.or (YN.or LJ))) ((oE λ_ _ _=>eU).or (aFI.or (aFJ.or LK.fz))) ha hb
def JK(S:aQ Z ow)(ha:DE X Z ow 0 a f)(hb:DE X Z ow 0 b h):DE X Z ow 1 (.BinOp a .Add b pos) (j9 FJ f h):=wP S LJ LK ha hb
def ť:D->D->ZL:=XX λi j=>.int (i-j)
def iQ(S:aQ Z ow)(ha:DE X Z ow 0 a f)(hb:DE X Z ow 0 b h):DE X Z ow 0 (.BinOp a .Sub b pos) (j9 ť f h):=wP S aET (oE λ_ _ _=>eU) ha hb
def OJ:D->D->ZL:=iD IntMulOk λi j=>.int (i*j)
def fH(S:aQ Z ow)(ha:DE X Z ow 0 a f)(hb:DE X Z ow 0 b h):DE X Z ow 0 (.BinOp a .Mult b pos) (j9 OJ f h):=wP S YS (CK λ_ _ _=>eU) ha hb
def AX:D->D->ZL:=iD Χ λi j=>.int (i.fdiv j)
def vR(S:aQ Z ow)(ha:DE X Z ow 0 a f)(hb:DE X Z ow 0 b h):DE X Z ow 0 (.BinOp a .FloorDiv b pos) (j9 AX f h):=wP S RF (CK λ_ _ _=>eU) ha hb
def CL:D->D->ZL:=iD (λ_ j=>j≠0) λi j=>.int (i.fmod j)
def RW(S:aQ Z ow)(ha:DE X Z ow 0 a f)(hb:DE X Z ow 0 b h):DE X Z ow 0 (.BinOp a .Mod b pos) (j9 CL f h):=wP S YC (CK λ_ _ _=>eU) ha hb
def Y5:D->D->ZL:=iD YB λi j=>.int (i^j.toNat)
def aFL(S:aQ Z ow)(ha:DE X Z ow 0 a f)(hb:DE X Z ow 0 b h):DE X Z ow 0 (.BinOp a .Pow b pos) (j9 Y5 f h):=wP S aEU (CK λ_ _ _=>eU) ha hb
def CN(op:D->ZL)(f:M D):M D:=λδ=>(f δ).bind λd δ1=>match op d with
 |some r=>.ok r δ1
 |none=>.stuck
def Ŧ:D->ZL
 |.int i=>some (.int (-i))
 |_=>none
def jW(ha:DE X Z ow 0 a f):DE X Z ow 0 (.UnaryOp .USub a pos) (CN Ŧ f):=PE.mono (aI5 aEV ha) λσ H Q q=>by
 let⟨F,δ,R,q⟩:=q;unfold CN at q;sleep 4;cases e:f δ with
 |stuck=>rw[e]at q;sleep 5
 |err x δ1=>rw[e]at q;exact q
 |ok d δ1=>
  rw[e]at q;simp![Res.bind]at q;intro v H1 F1 R1 s1;cases d with
  |int i=>exact⟨i,hG R1.rep,q _ H1 F1 (R1.rel.x eU) s1⟩
  |_=>sleep 5
def RY(f:M D):M D:=λδ=>(f δ).bind λd δ1=>match d with
 |.bool b=>.ok (.bool (!b)) δ1
 |_=>.stuck
def rQ(f g:M D):M D:=λδ=>(f δ).bind λd δ1=>match d with
 |.bool b=>if b=true then g δ1 else .ok (.bool false) δ1
 |_=>.stuck
def RZ(f g:M D):M D:=λδ=>(f δ).bind λd δ1=>match d with
 |.bool b=>if b=true then .ok 'i' δ1 else g δ1
 |_=>.stuck
def tU(h:DE X Z ow 0 a f):DE X Z ow 0 (.BoolOp op [a] pos) f:=PE.mono (aEJ h) λ_ _ _ q=>q
def wV{rest:List Expr}(ha:DE X Z ow 0 a f)(hb:DE X Z ow 0 (.BoolOp .And (b::rest) pos) h):DE X Z ow 0 (.BoolOp .And (a::b::rest) pos) (rQ f h):=PE.mono (aEK ha hb) λσ H Q q=>by
 let⟨F,δ,R,q⟩:=q;unfold rQ at q;sleep 4;cases e:f δ with
 |stuck=>rw[e]at q;sleep 5
 |err x δ1=>rw[e]at q;exact q
 |ok d δ1=>
  rw[e]at q;simp![Res.bind]at q;intro v H1 F1 R1 s1;cases d with
  |bool i=>
   refine⟨i,kK R1.rep,?_⟩;dsimp only at q;cases i with
   |true=>rw[Â rfl]at q⊢;exact⟨F1,δ1,R1.rel,q.mono s1 λ_ _ z=>z⟩
   |false=>rw[Ã Ü]at q⊢;exact q _ H1 F1 (R1.rel.x iP) s1
  |_=>sleep 5
def γ{rest:List Expr}(ha:DE X Z ow 0 a f)(hb:DE X Z ow 0 (.BoolOp .Or (b::rest) pos) h):DE X Z ow 0 (.BoolOp .Or (a::b::rest) pos) (RZ f h):=PE.mono (aIW ha hb) λσ H Q q=>by
 let⟨F,δ,R,q⟩:=q;unfold RZ at q;sleep 4;cases e:f δ with
 |stuck=>rw[e]at q;sleep 5
 |err x δ1=>rw[e]at q;exact q
 |ok d δ1=>
  rw[e]at q;simp![Res.bind]at q;intro v H1 F1 R1 s1;cases d with
  |bool i=>
   refine⟨i,kK R1.rep,?_⟩;dsimp only at q;cases i with
   |true=>rw[Â rfl]at q⊢;exact q _ H1 F1 (R1.rel.x iP) s1
   |false=>rw[Ã Ü]at q⊢;exact⟨F1,δ1,R1.rel,q.mono s1 λ_ _ z=>z⟩
  |_=>sleep 5
def Y6{f:M Bool}(ha:DT X Z ow a f):PW X (.BoolOp .And [a] pos) (tT X Z ow f):=X5 ha
def tW{f:M Bool}(ha:DT X Z ow a f):PW X (.BoolOp .Or [a] pos) (tT X Z ow f):=aEG ha
def lW{f:M Bool}(h:PW X e (tT X Z ow f)):DT X Z ow e f:=h.pt
def JL:D->D->ZL:=λa b=>if SeqAt.shaped a=true/\SeqAt.shaped b=true then some (.bool (PyData.eqv a b))else none
def FK:D->D->ZL:=λa b=>if SeqAt.shaped a=true/\SeqAt.shaped b=true then some (.bool (!PyData.eqv a b))else none
def gB:oA X (λx y H Q=>∃d e,bG X.K H d x/\bG X.K H e y/\SeqAt.shaped d=true/\SeqAt.shaped e=true/\Q (.bl (PyData.eqv d e)) H) 0 JL:=λZ ow F H σ δ a b x y d Q S R ra rb e q=>by
 unfold JL at e;split at e
 .rename_i hc
  cases e;exact⟨a,b,R.sub.rep _ _ ra,R.sub.rep _ _ rb,hc.1,hc.2,q _ H F (R.x iP) 'p'⟩
 .cases e
def u0:oA X (λx y H Q=>∃d e,bG X.K H d x/\bG X.K H e y/\SeqAt.shaped d=true/\SeqAt.shaped e=true/\Q (.bl (!PyData.eqv d e)) H) 0 FK:=λZ ow F H σ δ a b x y d Q S R ra rb e q=>by
 unfold FK at e;split at e
 .rename_i hc
  cases e;exact⟨a,b,R.sub.rep _ _ ra,R.sub.rep _ _ rb,hc.1,hc.2,q _ H F (R.x iP) 'p'⟩
 .cases e
def ŧ:D->D->ZL:=XX λi j=>.bool (decide (i<j))
def Ĳ:D->D->ZL:=XX λi j=>.bool (decide (i<=j))
def ε:D->D->ZL:=XX λi j=>.bool (decide (j<i))
def ζ:D->D->ZL:=XX λi j=>.bool (decide (j<=i))
def pJ:oA X (N7 λi j=>.bl (decide (i<j))) 0 ŧ:=oE λ_ _ _=>iP
def LL:oA X (N7 λi j=>.bl (decide (i<=j))) 0 Ĳ:=oE λ_ _ _=>iP
def FL:oA X (N7 λi j=>.bl (decide (j<i))) 0 ε:=oE λ_ _ _=>iP
def aJU:oA X (N7 λi j=>.bl (decide (j<=i))) 0 ζ:=oE λ_ _ _=>iP
def ĥ(a b:D):ZL:=match b with
 |.none=>(match a with
  |.none=>some 'i'
  |.dict _=>none
  |_=>some (.bool false))
 |.bool d=>(match a with
  |.bool c=>some (.bool (c == d))
  |_=>none)
 |_=>none
def wW(a b:D):ZL:=match b with
 |.none=>(match a with
  |.none=>some (.bool false)
  |.dict _=>none
  |_=>some 'i')
 |.bool d=>(match a with
  |.bool c=>some (.bool (c != d))
  |_=>none)
 |_=>none
def η{d:D}(h:bG K F d v)(hd:d≠.none):v≠.non:=λz=>by
 subst z;cases d with
 |none=>exact hd rfl
 |bool b=>exact absurd (kK h) 'e'
 |int b=>exact absurd (hG h) 'e'
 |str b=>exact absurd (lV h) 'e'
 |list b=>let⟨_,_,z,_⟩:=kL h;cases z
 |tuple b=>let⟨_,_,z,_⟩:=CJ h;cases z
 |dict b=>unfold bG at h;let⟨_,_,z,_⟩:=h;cases z
def R8:oA X (λx y H Q=>(∃c d,x=.bl c/\y=.bl d/\Q (.bl (c == d)) H)\/(y=.non/\Q (.bl (decide (x=.non))) H)) 0 ĥ:=λZ ow F H σ δ a b x y d Q S R ra rb e q=>by
 unfold ĥ at e;split at e
 .split at e
  .cases e
   refine .inr ⟨qB rb,?_⟩;rw[decide_eq_true (qB ra)];exact q _ H F (R.x iP) 'p'
  .cases e
  .cases e
   refine .inr ⟨qB rb,?_⟩;rw[decide_eq_false (η ra ‹_›)];exact q _ H F (R.x iP) 'p'
 .split at e
  .cases e;exact .inl ⟨_,_,kK ra,kK rb,q _ H F (R.x iP) 'p'⟩
  .cases e
 .cases e
def R9:oA X (λx y H Q=>(∃c d,x=.bl c/\y=.bl d/\Q (.bl (c != d)) H)\/(y=.non/\Q (.bl (!decide (x=.non))) H)) 0 wW:=λZ ow F H σ δ a b x y d Q S R ra rb e q=>by
 unfold wW at e;split at e
 .split at e
  .cases e
   refine .inr ⟨qB rb,?_⟩;rw[decide_eq_true (qB ra)];exact q _ H F (R.x iP) 'p'
  .cases e
  .cases e
   refine .inr ⟨qB rb,?_⟩;rw[decide_eq_false (η ra ‹_›)];exact q _ H F (R.x iP) 'p'
 .split at e
  .cases e;exact .inl ⟨_,_,kK ra,kK rb,q _ H F (R.x iP) 'p'⟩
  .cases e
 .cases e
def hJ(o o':D->D->ZL)(f g k:M D):M D:=λδ=>(f δ).bind λx δ1=>(g δ1).bind λy δ2=>match o x y with
 |some 'i'=>(k δ2).bind λz δ3=>(match o' y z with
  |some r=>.ok r δ3
  |none=>.stuck)
 |some (.bool false)=>.ok (.bool false) δ2
 |_=>.stuck
def AY(S:aQ Z ow)(os:oA X r 0 o)(os':oA X r' 0 o')(q:tD X Z ow 0 (hJ o o' f h k) σ H Q):IQ r r' (tD X Z ow 0 f) (tD X Z ow 0 h) (tD X Z ow 0 k) σ H Q:=by
 let⟨F,δ,R,q⟩:=q;unfold hJ at q;sleep 4;cases e:f δ with
 |stuck=>rw[e]at q;sleep 5
 |err x δ1=>rw[e]at q;exact q
 |ok d1 δ1=>
  rw[e]at q;simp![Res.bind]at q;intro x H1 F1 R1 s1;refine⟨F1,δ1,R1.rel,?_⟩;cases e2:h δ1 with
  |stuck=>rw[e2]at q;sleep 5
  |err x δ2=>rw[e2]at q;exact iM.mono q s1
  |ok d2 δ2=>
   rw[e2]at q;dsimp only at q;intro y H2 F2 R2 s2;cases e3:o d1 d2 with
   |none=>rw[e3]at q;sleep 5
   |some d=>
    refine os Z ow F2 H2 σ δ2 d1 d2 x y d _ S R2.rel (s2.rep _ _ R1.rep) R2.rep e3 λv H3 F3 R3 s3=>?_;cases d with
    |bool bb=>
     refine⟨bb,kK R3.rep,?_⟩;cases bb with
     |false=>
      rw[e3]at q;rw[Ã Ü];exact q _ H3 F3 (R3.rel.x iP) (s1.trans' (s2.trans' s3))
     |true=>
      rw[e3]at q;rw[Â rfl];dsimp only at q;refine⟨F3,δ2,R3.rel,?_⟩;cases e4:k δ2 with
      |stuck=>rw[e4]at q;sleep 5
      |err x δ3=>rw[e4]at q;exact iM.mono q (s1.trans' (s2.trans' s3))
      |ok d3 δ3=>
       rw[e4]at q;dsimp only at q;intro z H4 F4 R4 s4;cases e5:o' d2 d3 with
       |none=>rw[e5]at q;sleep 5
       |some r0=>
        rw[e5]at q;exact os' Z ow F4 H4 σ δ3 d2 d3 y z r0 Q S R4.rel ((s3.trans' s4).rep _ _ R2.rep) R4.rep e5 λv' H' F' R' s'=>q v' H' F' R' (s1.trans' (s2.trans' (s3.trans' (s4.trans' s'))))
    |_=>rw[e3]at q;sleep 5
def FM(S:aQ Z ow)(ho:jS X (compareOp o1) r)(os:oA X r 0 o)(ho':jS X (compareOp o2) r')(os':oA X r' 0 o')(ha:DE X Z ow 0 a f)(hb:DE X Z ow 0 b h)(hc:DE X Z ow 0 c k)(hm:lastMarks [o1,o2] [b,c]=false:=by with_unfolding_all rfl):DE X Z ow 0 (.Compare a [o1,o2] [b,c] pos) (hJ o o' f h k):=PE.mono (Q1 ho ho' ha hb hc hm) λ_ _ _ q=>AY S os os' q
def SA(S:aQ Z ow)(ho:jS X (compareOp o1) r)(os:oA X r 0 o)(ho':jS X (compareOp o2) r')(os':oA X r' 0 o')(ha:DE X Z ow 0 a f)(hb:DE X Z ow 0 b h)(hc:DE X Z ow 0 c k)(hm:lastMarks [o1,o2] [b,c]=false:=by with_unfolding_all rfl):DT X Z ow (.Compare a [o1,o2] [b,c] pos) (dB (hJ o o' f h k)):=PT.mono (Q2 ho ho' ha hb hc hm) λ_ _ _ q=>AY S os os' (LF q)
end
structure QM(K:ZC)(F:Hp)(J:It)(ds:ZI):Prop where
 go:∀i H,aI F H->i<ds.length->J.go i H
 yld:∀i H x H' d,aI F H->J.yld i H x H'->ds[i]?=some d->(H'=H/\bG K F d x)\/∃p o,H p=none/\H'=bA H p o/\∀F2,aI F F2->F2 p=none->bG K (bA F2 p o) d x
 stop:∀H,aI F H->J.stop ds.length H
def kI(X:Cx)(Z:bT)(ow:ZH)(r:Res (ZI))(F:Hp)(σ:St)(R:It->Hp->Prop):Prop:=match r with
 |.ok ds δ=>∀J H' F',cN X.K Z ow F' H' σ δ->aI F F'->QM X.K F' J ds->R J H'
 |.err x δ=>iM X Z ow F x δ
 |.stuck=>False
def tI(X:Cx)(Z:bT)(ow:ZH)(f:M (ZI)):TI:=λσ H R=>∃F δ,cN X.K Z ow F H σ δ/\kI X Z ow (f δ) F σ R
def DI(X:Cx)(Z:bT)(ow:ZH)(tg e:Expr)(f:M (ZI)):Prop:=PI X tg e (tI X Z ow f)
def PI.mono(h:PI X tg e t)(hm:∀σ H R,t' σ H R->t σ H R):PI X tg e t':=λU s σ H R I q=>h U s σ H R I (hm σ H R q)
section
variable {X:Cx}{Z:bT}{ow ol ox:ZH}{n rm:Nat}{pos:Pos}{e tg a:Expr}{g:TG}{set:D->DS->Option DS}{K:ZC}{F H:Hp}{σ:St}{δ:DS}
def SB{a:Addr}{xs:List V}{ds:ZI}(h:eE K F a xs)(r:aD K F ds xs):QM K F (Ś K a) ds where
 go:=λi H s hi=>⟨xs,xs[i]'(by rw[<- r.len];exact hi),s.seq h,É _⟩
 yld:=λi H x H' d s y e=>.inl ⟨y.1,by
  let⟨v,e1,q⟩:=r.get e;have:=y.2 xs (s.seq h);rw[e1]at this;cases this;exact q⟩
 stop:=λH s=>⟨xs,s.seq h,by rw[<- r.len];exact Ç _⟩
def Y7{a:Addr}{xs:List V}{ds:ZI}(h:rB K F a xs)(r:aD K F ds xs):QM K F (ś K a) ds where
 go:=λi H s hi=>⟨xs,xs[i]'(by rw[<- r.len];exact hi),s.seqT h,É _⟩
 yld:=λi H x H' d s y e=>.inl ⟨y.1,by
  let⟨v,e1,q⟩:=r.get e;have:=y.2 xs (s.seqT h);rw[e1]at this;cases this;exact q⟩
 stop:=λH s=>⟨xs,s.seqT h,by rw[<- r.len];exact Ç _⟩
def Y8{lo:Int}{m:Nat}:QM K F (Ľ lo m) (iO lo m) where
 go:=λi H s hi=>by rw[dZ]at hi;exact hi
 yld:=λi H x H' d s y e=>.inl ⟨y.1,by
  have hi:i<m:=by have:=(Ð.mp e).1;rwa [dZ]at this
  rw[CG hi]at e;cases e;rw[y.2];exact eU⟩
 stop:=λH s=>by rw[dZ];exact Ç _
def hU(f:M D):M (ZI):=λδ=>(f δ).bind λd δ1=>match d with
 |.list ds=>.ok ds δ1
 |.tuple ds=>.ok ds δ1
 |_=>.stuck
def bZ(h:DE X Z ow 0 e f):DI X Z ow tg e (hU f):=(aFH h).mono λσ H R q=>by
 let⟨F,δ,Rl,q⟩:=q;unfold hU at q;refine⟨F,δ,Rl,?_⟩;cases e1:f δ with
 |stuck=>rw[e1]at q;sleep 5
 |err x δ1=>rw[e1]at q;exact q
 |ok d δ1=>
  rw[e1]at q;simp![Res.bind]at q;intro v H1 F1 R1 s1;have rp:=R1.rep;cases d with
  |list ds=>
   let⟨a,xs,rfl,hq,ra⟩:=kL rp;exact .inl ⟨a,rfl,⟨xs,R1.rel.sub.seq hq⟩,q _ H1 F1 R1.rel s1 (SB hq ra)⟩
  |tuple ds=>
   let⟨a,xs,rfl,hq,ra⟩:=CJ rp;exact .inr ⟨a,rfl,⟨xs,R1.rel.sub.seqT hq⟩,q _ H1 F1 R1.rel s1 (Y7 hq ra)⟩
  |_=>sleep 5
def vJ(fs:List (M D)):M (ZI):=λδ=>(aZ fs δ).bind λds δ1=>match lT ds with
 |some (lo,n)=>.ok (iO lo n) δ1
 |none=>.stuck
def eM(hgl:Gl X "range")(hm:X.mg "range"=none)(hi:DE X Z ow 0 b f)(hst:↥(Zse b [] X.env)):DI X Z ow tg (.Call (.Name "range" p2) [b] [] p3) (vJ [f]):=
 (N5 hgl hm (aE hi aV hst) hst).mono λσ H R q=>by
  let⟨F,δ,Rl,q⟩:=q;unfold vJ at q;refine⟨F,δ,Rl,?_⟩;cases e1:aZ [f] δ with
  |stuck=>rw[e1]at q;sleep 5
  |err x δ1=>rw[e1]at q;exact q
  |ok ds δ1=>
   rw[e1]at q;simp![Res.bind]at q;intro vs H1 F1 R1 s1 ra;cases e2:lT ds with
   |none=>rw[e2]at q;sleep 5
   |some p=>
    let⟨lo,m⟩:=p;rw[e2]at q;let⟨j,rfl,h1,h2,rfl,rfl⟩:=FD e2 (oB e1);exact⟨j,wR ra,h1,h2,q _ H1 F1 R1 s1 Y8⟩
def QM.turn{d:D}(T:QM X.K F1 J ds)(R:cN X.K Z ow F H σ δ)(s:aI F1 F)(y:J.yld i H x H')(e:ds[i]?=some d):∃F',aI F F'/\cN X.K Z ow F' H' σ δ/\bG X.K F' d x:=by
 rcases T.yld i H x H' d (s.trans' R.sub) y e with ⟨rfl,r⟩|⟨p,o,hp,rfl,r⟩
 .exact⟨F,aI.refl _,R,s.rep _ _ r⟩
 .have fp:=R.fnone hp
  exact⟨bA F p o,cI fp o,R.laid hp,r F s fp⟩
def mR(set:D->DS->Option DS)(f:M (ZI))(u:M Fl):M Fl:=λδ=>(f δ).bind λds δ1=>fL set u ds δ1
def LM{f:M (ZI)}(hp:PassesOwn 'b' X.A X.env X.xe)(hc:X.calm=true)(hi:DI X Z ow tg e f)(hg:PG X tg g)(hs:ı X Z ow g set)(hb:CD X Z ow ow ow ox rm sts u)(hf: ~~~(Zfi e X.env)):CC X Z ow ow ol ox rm (.For tg e sts [] pos) (mR set f u):=PS.mono (aEQ hp hc hi hg hb hf) λDn σ H h=>by
 let⟨F,δ,R,h⟩:=h;unfold mR at h;sleep 4;cases e1:f δ with
 |stuck=>rw[e1]at h;exact h.elim
 |err x δ1=>rw[e1]at h;exact iM.cast h
 |ok ds δ1=>
  rw[e1]at h;sleep 8;intro J H1 F1 R1 s1 T;refine⟨λi m σ H=>m=ds.length-i/\i<=ds.length/\∃F2 δ,cN X.K Z ow F2 H σ δ/\aI F1 F2/\kS X Z ow ol ox rm (fL set u (ds.drop i) δ) F2 Dn,⟨ds.length,rfl,ó _,F1,δ1,R1,aI.refl _,h.mono s1⟩,?_⟩;rintro i m σ2 H2 ⟨rfl,hi,F2,δ2,R2,s2,k2⟩;by_cases hlt:i<ds.length
  .refine .inr ⟨T.go i H2 (s2.trans' R2.sub) hlt,λσ' H'=>∃F3 δ,cN X.K Z ow F3 H' σ' δ/\aI F1 F3/\kS X Z ow ol ox rm (fL set u (ds.drop (i+1)) δ) F3 Dn,λσ' H' q=>⟨ds.length-(i+1),∅,rfl,hlt,q⟩,λx H' y=>?_⟩
   have ed:=É hlt;let⟨F3,s3,R3,r3⟩:=T.turn R2 s2 y ed;exact Y0 (Pv:=λj σ' H'=>∃F3 δ,cN X.K Z ow F3 H' σ' δ/\aI F1 F3/\kS X Z ow ol ox rm (fL set u (ds.drop j) δ) F3 Dn) hs R3 (s2.trans' s3) (k2.mono s3) ed r3 λk σ H F δ q1 q2 q3=>⟨F,δ,q1,q2,q3⟩
  .have e:i=ds.length:=by lia
   subst e;rw[List.drop_length]at k2;exact .inl ⟨T.stop H2 (s2.trans' R2.sub),k2 σ2 H2 F2 R2 'p'⟩
def SC(k:Nat)(g:ZP):ZP:=λa=>match g a with
 |some (i,p)=>if i=1000 then none else some (i+k,p)
 |none=>none
def JM{g:ZP}{a:Addr}(h:SC k g a=some (i,p)):∃j,g a=some (j,p)/\i=j+k/\j≠1000:=by
 unfold SC at h;cases e:g a with
 |none=>rw[e]at h;cases h
 |some l=>
  let⟨j,q⟩:=l;rw[e]at h;dsimp only at h;split at h
  .cases h
  .rename_i hj;cases h;exact⟨j,rfl,rfl,hj⟩
def JN{k:Nat}{g:ZP}{a:Addr}{j:Nat}{p:ZH}(h:g a=some (j,p))(hj:j≠1000):SC k g a=some (j+k,p):=by
 unfold SC;rw[h];exact Ã hj
def bT.sh(Z:bT)(k:Nat):bT:=⟨Z.F0,Z.H0,SC k Z.g0,Z.ps.map (·+k),List.replicate k none++Z.σ0,List.replicate k 0++Z.owp,λa i q h=>by
 let⟨j,e1,e2,_⟩:=JM h;rw[e2];exact Ô.mpr ⟨j,Z.wf a j q e1,rfl⟩⟩
def lX:'n'.getD (i+k) 0=ow.getD i 0:=by
 rw[Ê,Ê,á 'e',õ,ē]
def aQ.lt(S:aQ Z ow)(h:ow.getD i 0≠0):i<1000:=by
 by_cases hl:i<ow.length
 .exact Ö hl S.ow
 .exact absurd (by rw[Ê,ä 'C'];rfl) h
def bC.sh{g:ZP}(hi:n=0\/i≠1000)(h:bC K F H g i n p d v):bC K F H (SC k g) (i+k) n p d v:=by
 rcases hi with rfl|hi
 .exact h
 .exact h.relab λa p e=>JN e hi
def cN.sh(S:aQ Z ow)(R:cN K Z ow F H σ δ):cN K (Z.sh k) 'n' F H (List.replicate k none++σ) (List.replicate k none++δ):=by
 let⟨g,R⟩:=R;refine⟨SC k g,R.sub,R.f0,λb o n e=>R.kept b o ?_ e,R.new,R.there,λa i p e=>?_,by simp[R.len],λi hi=>?_,λi d e=>?_⟩
 .cases e1:Z.g0 b with
  |none=>rfl
  |some l=>
   let⟨j,q⟩:=l;have n:SC k Z.g0 b=none:=n;rw[JN e1 λz=>S.ps (by rw[<- z];exact Z.wf b j q e1)]at n;cases n
 .obtain⟨j,e1,e2,e3⟩:=JM e
  rcases R.lab a j p e1 with z|⟨q,z⟩
  .exact .inl z
  .exact .inr ⟨q,by rw[e2];exact JN z e3⟩
 .obtain⟨j,hj,rfl⟩:=Ô.mp (show i∈Z.ps.map (·+k)from hi)
  let⟨p1,p2⟩:=R.par j hj;refine⟨?_,?_⟩
  .show (List.replicate k none++σ)[j+k]?=(List.replicate k none++Z.σ0)[j+k]?
   rw[á 'e',á 'e',õ,ē];exact p1
  .show 'n'.getD (j+k) 0=(List.replicate k 0++Z.owp).getD (j+k) 0
   rw[lX,lX];exact p2
 .by_cases hi:i<k
  .rw[ñ (by simpa using hi),ą]at e
   split at e<;>cases e
  .rw[á (by simp;exact å.mp ‹_›),õ]at e
   let⟨v,e1,o⟩:=R.slot _ d e;obtain⟨j,rfl⟩:∃j,i=j+k:=⟨i-k,∅⟩;rw[ē]at e1 o;refine⟨v,by rw[á 'e',õ,ē];exact e1,?_⟩;rw[lX];refine o.sh ?_;by_cases hz:ow.getD j 0=0
   .exact .inl hz
   .exact .inr (Í (S.lt hz))
def cN.unsh(S:aQ Z ow)(hs:aQ (Z.sh k) 'n')(R:cN K (Z.sh k) 'n' F H σ' δ')(hσ:∀i,σ'[i+k]?=σ[i]?)(hl:σ'.length=σ.length+k)(hk:k<=δ'.length):cN K Z ow F H σ (δ'.drop k):=by
 let⟨g,R⟩:=R;have un:∀a i p,(λb=>match g b with|some (j,q)=>if j<k\/j-k=1000 then none else some (j-k,q)|none=>none:ZP) a=some (i,p)->g a=some (i+k,p):=λa i p e=>by
  dsimp only at e;cases e1:g a with
  |none=>rw[e1]at e;cases e
  |some l=>
   let⟨j,q⟩:=l;rw[e1]at e;dsimp only at e;split at e
   .cases e
   .rename_i hj
    cases e;have:j-k+k=j:=by lia
    rw[this]
 have ins:∀a i p,i≠1000->g a=some (i+k,p)->(λb=>match g b with|some (j,q)=>if j<k\/j-k=1000 then none else some (j-k,q)|none=>none:ZP) a=some (i,p):=λa i p hi e=>by
  dsimp only;rw[e];dsimp only;rw[Ã ∅,ē]
 refine⟨λb=>match g b with|some (j,q)=>if j<k\/j-k=1000 then none else some (j-k,q)|none=>none,R.sub,R.f0,λb o n e=>R.kept b o ?_ e,R.new,R.there,λa i p e=>?_,?_,λi hi=>?_,λi d e=>?_⟩
 .show SC k Z.g0 b=none
  unfold SC;rw[n]
 .rcases R.lab a (i+k) p (un a i p e)with z|⟨q,z⟩
  .exact .inl z
  .obtain⟨j,e1,e2,_⟩:=JM (show SC k Z.g0 a=some (i+k,q)from z)
   have:i=j:=by lia
   rw[this];exact .inr ⟨q,e1⟩
 .rw[Ĕ,R.len,hl];lia
 .obtain⟨p1,p2⟩:=R.par (i+k) (Ô.mpr ⟨i,hi,rfl⟩)
  have p1:σ'[i+k]?=(List.replicate k none++Z.σ0)[i+k]?:=p1;have p2:'n'.getD (i+k) 0=(List.replicate k 0++Z.owp).getD (i+k) 0:=p2;rw[hσ,á 'e',õ,ē]at p1;rw[lX,lX]at p2;exact⟨p1,p2⟩
 .rw[List.getElem?_drop,Nat.add_comm]at e
  let⟨v,e1,o⟩:=R.slot _ d e;rw[hσ]at e1;rw[lX]at o;refine⟨v,e1,?_⟩;by_cases hz:ow.getD i 0=0
  .rw[hz]at o⊢;exact o
  .exact o.relab λa p e=>ins a i p (Í (S.lt hz)) e
def Y9(X:Cx)(Z:bT)(ow:ZH)(k:Nat)(g:TG)(set:D->DS->Option DS):Prop:=∀(F H:Hp)(σ:St)(δ δ':DS)(d:D)(v:V)(Q:St->Hp->Prop),cN X.K Z ow F H σ δ->bG X.K F d v->set d δ=some δ'->(∀σ',cN X.K Z ow F H σ' δ'->σ'.length=σ.length->δ'.length=δ.length->(∀i,σ'[i+k]?=σ[i+k]?)->Q σ' H)->g v σ H Q
def m7(S:aQ Z ow)(hk:i<k)(hps:i∉Z.ps)(hl:i<ow.length)(h0:ow.getD i 0=0):Y9 X Z ow k (pA i) (dY i):=λF H σ δ δ' d v Q R r e q=>by
 unfold dY at e;split at e
 .rename_i hi
  cases e;have:=(R.x r).store S hi hps hl;rw[Ψ h0]at this;exact q _ this 'e' 'e' λj=>Þ ∅
 .cases e
def bN(set:D->DS->Option DS)(t:M Bool)(e:M D):ZI->ZI->DS->Res (ZI)
 |[],acc,δ=>.ok acc δ
 |d::ds,acc,δ=>match set d δ with
  |none=>.stuck
  |some δ1=>(t δ1).bind λb δ2=>if b=true then (e δ2).bind λy δ3=>(if acc.length<sizeLine then bN set t e ds (acc++[y]) δ3 else .stuck)else (if acc.length<sizeLine then bN set t e ds acc δ2 else .stuck)
def dP(k:Nat)(set:D->DS->Option DS)(f:M (ZI))(t:M Bool)(e:M D):M D:=λδ=>(f δ).bind λds δ1=>match bN set t e ds [] (List.replicate k none++δ1)with
 |.ok acc δ2=>if k<=δ2.length then .ok (.list acc) (δ2.drop k)else .stuck
 |_=>.stuck
def aPC(X:Cx)(Z:bT)(ow:ZH)(n:Nat)(r:Res D)(F:Hp)(σ:St)(Q:VK):Prop:=match r with
 |.ok d δ=>∀v H' F',f8 X.K Z ow n d v F' H' σ δ->aI F F'->Q v H'
 |_=>False
def ĝ(X:Cx)(Z:bT)(ow:ZH)(n:Nat)(f:M D):TE:=λσ H Q=>∃F δ,cN X.K Z ow F H σ δ/\aPC X Z ow n (f δ) F σ Q
def aPD(X:Cx)(Z:bT)(ow:ZH)(r:Res Bool)(F:Hp)(σ:St)(Q:Bool->Hp->Prop):Prop:=match r with
 |.ok b δ=>∀H' F',cN X.K Z ow F' H' σ δ->aI F F'->Q b H'
 |_=>False
def Ł(X:Cx)(Z:bT)(ow:ZH)(f:M Bool):TT:=λσ H Q=>∃F δ,cN X.K Z ow F H σ δ/\aPD X Z ow (f δ) F σ Q
def FN{k:Nat}{wi:TI}{fi:M (ZI)}{t:M Bool}{fe:M D}{Q:VK}(S:aQ Z ow)(Sk:aQ (Z.sh k) 'n')(hs:Y9 X (Z.sh k) 'n' k g set)(q:tD X Z ow 1 (dP k set fi t fe) σ H Q):LA k (tI X Z ow fi) g (Ł X (Z.sh k) 'n' t) (ĝ X (Z.sh k) 'n' 0 fe) σ H Q:=by
 let⟨F,δ,R,q⟩:=q;unfold dP at q;sleep 4;cases e1:fi δ with
 |stuck=>rw[e1]at q;sleep 5
 |err x δ1=>rw[e1]at q;exact q
 |ok ds δ1=>
  rw[e1]at q;simp![Res.bind]at q;intro J H1 F1 R1 s1 T;have hcase:∃acc δ2,bN set t fe ds [] (List.replicate k none++δ1)=.ok acc δ2/\k<=δ2.length/\kD X Z ow 1 (.ok (.list acc) (δ2.drop k)) F σ Q:=by
   cases e2:bN set t fe ds [] (List.replicate k none++δ1)with
   |stuck=>rw[e2]at q;sleep 5
   |err x δ2=>rw[e2]at q;sleep 5
   |ok acc δ2=>
    rw[e2]at q;dsimp only at q;split at q
    .rename_i hk;exact⟨acc,δ2,rfl,hk,q⟩
    .sleep 5
  let⟨acc,δ2,e2,hk2,q⟩:=hcase;refine⟨λi m ys σ' H'=>m=ds.length-i/\i<=ds.length/\σ'.length=σ.length+k/\(∀i,σ'[i+k]?=σ[i]?)/\∃F2 δ' acc',cN X.K (Z.sh k) 'n' F2 H' σ' δ'/\aI F1 F2/\aD X.K F2 acc' ys/\bN set t fe (ds.drop i) acc' δ'=.ok acc δ2,
   ⟨ds.length,rfl,ó _,by simp;exact Nat.add_comm _ _,λi=>by rw[á 'e',õ,ē],F1,_,[],R1.sh S,aI.refl _,lQ,e2⟩,?_⟩
  rintro i m ys σ2 H2 ⟨rfl,hi,hl2,hσ2,F2,δ',acc',R2,s2,ra,e3⟩;by_cases hlt:i<ds.length
  .have ed:=É hlt
   have ee:ds.drop i=ds[i]::ds.drop (i+1):=ö hlt;rw[ee]at e3;unfold bN at e3;cases e4:set ds[i] δ' with
   |none=>simp![e4]at e3;cases e3
   |some δ3=>
    simp![e4]at e3;have small:acc'.length<sizeLine:=by
     cases e5:t δ3 with
     |stuck=>rw[e5]at e3;cases e3
     |err x δ4=>rw[e5]at e3;cases e3
     |ok bb δ4=>
      rw[e5]at e3;simp![Res.bind]at e3;cases bb with
      |false=>
       rw[Ã Ü]at e3;split at e3
       .assumption
       .cases e3
      |true=>
       rw[Â rfl]at e3;cases e6:fe δ4 with
       |stuck=>rw[e6]at e3;cases e3
       |err x δ5=>rw[e6]at e3;cases e3
       |ok y δ5=>
        rw[e6]at e3;dsimp only at e3;split at e3
        .assumption
        .cases e3
    refine .inr ⟨T.go i H2 (s2.trans' R2.sub) hlt,by rw[<- ra.len];exact small,λzs σ'' H''=>σ''.length=σ.length+k/\(∀i,σ''[i+k]?=σ[i]?)/\∃F3 δ' acc',cN X.K (Z.sh k) 'n' F3 H'' σ'' δ'/\aI F1 F3/\aD X.K F3 acc' zs/\bN set t fe (ds.drop (i+1)) acc' δ'=.ok acc δ2,λzs σ'' H'' z=>⟨ds.length-(i+1),∅,rfl,hlt,z⟩,λx H3 y=>?_⟩
    let⟨F3,s3,R3,r3⟩:=T.turn R2 s2 y ed;refine hs F3 H3 σ2 δ' δ3 ds[i] x _ R3 r3 e4 λσ3 R4 l3 _ hσ3=>⟨F3,δ3,R4,?_⟩;have hl3:σ3.length=σ.length+k:=by exact Eq.trans ‹_› ‹_›
    have hσ4:∀i,σ3[i+k]?=σ[i]?:=λi=>(hσ3 i).trans (hσ2 i);cases e5:t δ3 with
    |stuck=>rw[e5]at e3;cases e3
    |err x δ4=>rw[e5]at e3;cases e3
    |ok bb δ4=>
     rw[e5]at e3;simp![Res.bind]at e3;intro H5 F5 R5 s5;cases bb with
     |false=>
      rw[Ã Ü,Â small]at e3;rw[Ã Ü];exact⟨hl3,hσ4,F5,δ4,acc',R5,s2.trans' (s3.trans' s5),(s3.trans' s5).repAll _ _ ra,e3⟩
     |true=>
      rw[Â rfl]at e3;rw[Â rfl];refine⟨F5,δ4,R5,?_⟩;cases e6:fe δ4 with
      |stuck=>rw[e6]at e3;cases e3
      |err x δ5=>rw[e6]at e3;cases e3
      |ok yd δ5=>
       rw[e6]at e3;dsimp only at e3;rw[Â small]at e3;intro yv H6 F6 R6 s6;exact⟨hl3,hσ4,F6,δ5,acc'++[yd],R6.rel,s2.trans' (s3.trans' (s5.trans' s6)),((s3.trans' (s5.trans' s6)).repAll _ _ ra).app (lR R6.rep lQ),e3⟩
  .have e:i=ds.length:=by lia
   subst e;rw[List.drop_length]at e3;unfold bN at e3;cases e3;refine .inl ⟨T.stop H2 (s2.trans' R2.sub),λp hp=>?_⟩;have R7:cN X.K Z ow F2 H2 σ (δ2.drop k):=R2.unsh S Sk hσ2 hl2 hk2;exact q _ _ F2 (R7.newList S hp ra) (s1.trans' s2)
def LN(hK:X'.K=X.K)(h:ĝ X Z ow n f σ H Q):tD X' Z ow n f σ H Q:=by
 let⟨F,δ,R,h⟩:=h;refine⟨F,δ,by rw[hK];exact R,?_⟩;cases e:f δ with
 |stuck=>rw[e]at h;exact h
 |err x δ1=>sleep 1
 |ok d δ1=>rw[e]at h;exact λv H' F' R' s=>h v H' F' (by rw[<- hK];exact R') s
def θ{f:M Bool}(hK:X'.K=X.K)(h:Ł X Z ow f σ H Q):tT X' Z ow f σ H Q:=by
 let⟨F,δ,R,h⟩:=h;refine⟨F,δ,by rw[hK];exact R,?_⟩;cases e:f δ with
 |stuck=>rw[e]at h;exact h
 |err x δ1=>sleep 1
 |ok d δ1=>rw[e]at h;exact λH' F' R' s=>h H' F' (by rw[<- hK];exact R') s
def dH:M Bool:=λδ=>.ok true δ
def b9:QL X [] (tT X Z ow dH):=λU s σ H Q I h=>by
 let⟨F,δ,R,h⟩:=h;exact B5 U s σ H Q I (h H F R 'p')
def vS(h:DT X Z ow c t):QL X [c] (tT X Z ow t):=YU h
def rR(S:aQ Z ow)(Sk:aQ (Z.sh xs.length) 'l')(hc:X.calm=true)(hi:DI X Z ow tg iter fi)(hg:∀C fp s H,PG 'h' tg g)(hs:Y9 X (Z.sh xs.length) 'l' xs.length g set)(hif:∀C fp s H,QL 'h' ifs (tT 'h' (Z.sh xs.length) 'l' t))(he:∀C fp s H,DE 'h' (Z.sh xs.length) 'l' 0 elt fe)(hk:↥(scope.kind=.function))(hok:↥(dS X.N xs scope.names X.env.scope.names=true))(hfs: ~~~(Zfi iter X.env)):
  DE X Z ow 1 'o' (dP xs.length set fi t fe):=
 PE.mono (FA (ti:=Ł X (Z.sh xs.length) 'l' t) (te:=ĝ X (Z.sh xs.length) 'l' 0 fe) hc hi hg (λC fp s H U s' σ H' Q I h=>hif C fp s H U s' σ H' Q I (θ (X:=X) (X':=aT X xs scope C fp s H) rfl h)) (λC fp s H=>PE.mono (he C fp s H) λ_ _ _ h=>LN (X:=X) (X':=aT X xs scope C fp s H) rfl h) hk hok hfs)
  λ_ _ _ q=>FN (wi:=tI X Z ow fi) S Sk hs q
def lY(i:Nat){pos' spos:Pos}(S:aQ Z ow)(Sk:aQ (Z.sh xs.length) 'l')(hc:X.calm=true)(hN:X.N.Nodup)(hi:DI X Z ow tg iter fi)(hg:∀C fp s H,PG 'h' tg g)(hs:Y9 X (Z.sh xs.length) 'l' xs.length g set)(hif:∀C fp s H,QL 'h' ifs (tT 'h' (Z.sh xs.length) 'l' t))(he:∀C fp s H,DE 'h' (Z.sh xs.length) 'l' 0 elt fe)(hx:↥'t')(hl:↥(X.env.scope.names.lookup x=some .local))(hps:↥(Z.ps.contains i=false))(hlo:⇑(i<ow.length))(hsw:↥(swapsWith 'o' (some (.Name x pos')) spos.line X.env=pure true))(hk:↥(scope.kind=.function))(hok:↥(dS X.N xs scope.names X.env.scope.names=true))(hfs: ~~~(Zfi iter X.env)):
  CC X Z ow (ow.set i 1) ol ox rm (.Assign [.Name x pos'] 'o' spos) (jU i (dP xs.length set fi t fe)):=
 PS.mono (rM (ti:=Ł X (Z.sh xs.length) 'l' t) (te:=ĝ X (Z.sh xs.length) 'l' 0 fe) hc hN hx hl hi hg (λC fp s H U s' σ H' Q I h=>hif C fp s H U s' σ H' Q I (θ (X:=X) (X':=aT X xs scope C fp s H) rfl h)) (λC fp s H=>PE.mono (he C fp s H) λ_ _ _ h=>LN (X:=X) (X':=aT X xs scope C fp s H) rfl h) hsw hk hok hfs)
  λDn σ H h=>FN (wi:=tI X Z ow fi) S Sk hs (CF S (dE hps) hlo h)
end
section
variable {X:Cx}{Z:bT}{ow:ZH}{pos:Pos}{e:Expr}{f h:M D}{F:Hp}{K:ZC}
def vK(h:aD K F [d] vs):∃v,vs=[v]/\bG K F d v:=by
 unfold aD at h;let⟨x,r,rfl,rx,h⟩:=h;unfold aD at h;exact⟨x,by rw[h],rx⟩
def aFO:YZ X (λxs H Q=>(∃p ys,xs=[.ref p]/\(eE X.K H p ys\/rB X.K H p ys)/\Q (.int ys.length) H)\/(∃z,xs=[.str z]/\z.length<=sizeLine/\Q (.int z.length) H)) 0 qA:=λZ ow F H σ δ ds vs d Q S R ra e q=>by
 unfold qA at e;split at e<;>try cases e
 split at e<;>try cases e
 .obtain⟨v,rfl,r⟩:=vK ra
  let⟨p,xs,rfl,hp,hr⟩:=kL r;rw[hr.len]at q;exact .inl ⟨p,xs,rfl,.inl (R.sub.seq hp),q _ H F (R.x eU) 'p'⟩
 .obtain⟨v,rfl,r⟩:=vK ra
  let⟨p,xs,rfl,hp,hr⟩:=CJ r;rw[hr.len]at q;exact .inl ⟨p,xs,rfl,.inr (R.sub.seqT hp),q _ H F (R.x eU) 'p'⟩
 .split at e
  .rename_i hz
   cases e;let⟨v,rfl,r⟩:=vK ra;obtain rfl:=lV r;exact .inr ⟨_,rfl,hz,q _ H F (R.x eU) 'p'⟩
  .cases e
def c6{p:Pos}(S:aQ Z ow)(hg:Gl X "len")(hm:X.mg "len"=none)(ha:DE X Z ow 0 e f)(hs:↥(Zse e [] X.env))(hpl:↥(Zbt pos [] X.env)):DE X Z ow 0 (.Call (.Name "len" p) [e] [] pos) (OF qA [f]):=
 iN S (rG.or B3) aFO hg hm RE (aE ha aV hs) ⋯ ⋯ hs hpl
def Ũ:ZI->ZL
 |[.int i]=>some (.int (if i<0 then -i else i))
 |_=>none
def CO:YZ X (λxs H Q=>∃i,xs=[.int i]/\Q (.int (if i<0 then -i else i)) H) 0 Ũ:=λZ ow F H σ δ ds vs d Q S R ra e q=>by
 unfold Ũ at e;split at e
 .cases e
  let⟨v,rfl,r⟩:=vK ra;exact⟨_,by rw[hG r],q _ H F (R.x eU) 'p'⟩
 .cases e
def FO:ZI->ZL
 |[.list ds]=>some (.list ds)
 |[.tuple ds]=>some (.list ds)
 |_=>none
def rS:YZ X (λxs H Q=>∃p ys,xs=[.ref p]/\(eE X.K H p ys\/rB X.K H p ys)/\∀l,H l=none->Q (.ref l) (bA H l (.lst ys))) 1 FO:=λZ ow F H σ δ ds vs d Q S R ra e q=>by
 unfold FO at e;split at e
 .cases e
  let⟨v,rfl,r⟩:=vK ra;let⟨p,xs,rfl,hp,hr⟩:=kL r;exact⟨p,xs,rfl,.inl (R.sub.seq hp),λl hl=>q _ _ F (R.newList S hl hr) 'p'⟩
 .cases e
  let⟨v,rfl,r⟩:=vK ra;let⟨p,xs,rfl,hp,hr⟩:=CJ r;exact⟨p,xs,rfl,.inr (R.sub.seqT hp),λl hl=>q _ _ F (R.newList S hl hr) 'p'⟩
 .cases e
def ũ:ZI->ZL
 |[.int i]=>some (.int i)
 |[.bool b]=>some (.int (if b then 1 else 0))
 |_=>none
def aFR:YZ X (λxs H Q=>(∃i,xs=[.int i]/\Q (.int i) H)\/∃k,xs=[.bl k]/\Q (.int (if k then 1 else 0)) H) 0 ũ:=λZ ow F H σ δ ds vs d Q S R ra e q=>by
 unfold ũ at e;split at e
 .cases e
  let⟨v,rfl,r⟩:=vK ra;exact .inl ⟨_,by rw[hG r],q _ H F (R.x eU) 'p'⟩
 .cases e
  let⟨v,rfl,r⟩:=vK ra;exact .inr ⟨_,by rw[kK r],q _ H F (R.x eU) 'p'⟩
 .cases e
inductive Ty where|int|bool|str|list|tuple
def Ty.name:Ty->String
 |.int=>"int"|.bool=>"bool"|.str=>"str"|.list=>"list"|.tuple=>"tuple"
def vL:Ty->D->ZL
 |.int,.int _=>some 'i'|.int,.bool _=>some 'i'|.bool,.bool _=>some 'i'|.str,.str _=>some 'i'|.list,.list _=>some 'i'|.tuple,.tuple _=>some 'i'
 |_,.dict _=>none
 |_,_=>some (.bool false)
def OK(T:Ty):g7 X (.builtin "isinstance") (λxs H Q=>∃(x:V)(d:D)(b:Bool),xs=[x,.ty T.name]/\bG X.K H d x/\vL T d=some (.bool b)/\Q (.bl b) H):=by
 intro U s σ H xs us Q I r h;let⟨x,d,b,rfl,rd,hb,q⟩:=h;let⟨u,v,rfl,rx,rc⟩:=aI9 r;obtain rfl:v=Value.type T.name:=rc;obtain⟨t,G,Z,p,⟨c,e2,e⟩,hx⟩:∃t G,W.KitX X.K u t G/\G s.heap/\(∃c,vL T d=some (.bool c)/\W.kitOne X.K t (.type T.name)=some c)/\u≠.builtin "__main__.__loader__#opaque":=by
  cases d with
  |none=>obtain rfl:=qB rd;cases (show u=Value.none from rx);exact⟨_,_,W.kitx_none,trivial,by cases T<;>exact⟨_,rfl,rfl⟩,nofun⟩
  |bool y=>obtain rfl:=kK rd;cases (show u=Value.bool y from rx);exact⟨_,_,W.kitx_bool,trivial,by cases T<;>exact⟨_,rfl,rfl⟩,nofun⟩
  |int i=>obtain rfl:=hG rd;let⟨t,q'⟩:=(show ∃t,u=Value.int i t from rx);cases q';exact⟨_,_,W.kitx_int,trivial,by cases T<;>exact⟨_,rfl,rfl⟩,nofun⟩
  |str i=>obtain rfl:=lV rd;let⟨t,q'⟩:=(show ∃t,u=Value.str i t from rx);cases q';exact⟨_,_,W.kitx_str,trivial,by cases T<;>exact⟨_,rfl,rfl⟩,nofun⟩
  |list ds=>
   let⟨a,xs,rfl,hp,_⟩:=kL rd;cases (show u=Value.ref a from rx);let⟨_,_,⟨o,_,h1,h2,_⟩,_⟩:=I.list hp;exact⟨_,_,W.kitx_list,⟨o,h1,h2⟩,by cases T<;>exact⟨_,rfl,rfl⟩,nofun⟩
  |tuple ds=>
   let⟨a,xs,rfl,hp,_⟩:=CJ rd;cases (show u=Value.ref a from rx);let⟨_,_,⟨o,h1,h2,_⟩,_⟩:=I.tuple hp;exact⟨_,_,W.kitx_tuple,⟨o,h1,h2⟩,by cases T<;>exact⟨_,rfl,rfl⟩,nofun⟩
  |dict _=>cases T<;>cases hb
 cases hb.symm.trans e2;exact W.kia_one Z I.kIn p e hx λtk=>⟨.bl b,H,I.tok tk,rfl,q⟩
def JO(T:Ty){x:Str}{p p2:Pos}(hx:x=T.name)(hg:Gl X "isinstance")(hm:X.mg "isinstance"=none)(Ę:Gl X x)(hmt:X.mg x=none)(hbt:bootBuiltins x=some (.type T.name))(ha:DE X Z ow 0 e f)(hn:⇑(x≠"__name__"))(hd:⇑(Zdb x))(hs:↥(starEach [e,.Name x p2] X.env=(false,eval e X.env)::starEach [.Name x p2] X.env))(hs2:↥(starEach [.Name x p2] X.env=(false,eval (.Name x p2) X.env)::starEach [] X.env))(hpl:↥((backTo pos (starEach [.Name x p2] X.env)).any (·.1)=false)):
  DE X Z ow 0 (.Call (.Name "isinstance" p) [e,.Name x p2] [] pos) (CN (vL T) f):=
 PE.mono (wG (OK T) hg hm zQ (gS ha (gS (aJL Ę hmt hbt hn hd) mV hs2) hs) ⋯ ⋯ hs hpl) λσ H Q q=>by
  let⟨F,δ,R,q⟩:=q;unfold CN at q;sleep 4;cases e:f δ with
  |stuck=>rw[e]at q;sleep 5
  |err x δ1=>rw[e]at q;exact q
  |ok d δ1=>
   rw[e]at q;simp![Res.bind]at q;intro v H1 F1 R1 s1;have hb:∀r,vL T d=some r->∃b,r=.bool b:=λr h=>by
    cases T<;>cases d<;>cases h<;>exact⟨_,rfl⟩
   cases e1:vL T d with
   |none=>rw[e1]at q;sleep 5
   |some r=>
    rw[e1]at q;let⟨b,rfl⟩:=hb r e1;exact⟨v,d,b,rfl,R1.rel.sub.rep _ _ R1.rep,e1,q _ H1 F1 (R1.rel.x iP) s1⟩
def zU(xs:ZI)(lo hi:Option Int):ZI:=(xs.drop (HT.sIx xs.length 0 lo)).take (HT.sIx xs.length xs.length hi-HT.sIx xs.length 0 lo)
def aD.cut(r:aD K F ds vs)(lo hi:Option Int):aD K F (zU ds lo hi) (BY vs lo hi):=by
 unfold zU BY;rw[r.len];exact(r.drop _).take _
def jX:Option (M D)->M (Option Int)
 |none=>λδ=>.ok none δ
 |some f=>λδ=>(f δ).bind λd δ1=>match d with
  |.int i=>.ok (some i) δ1
  |_=>.stuck
def kO(X:Cx)(Z:bT)(ow:ZH)(r:Res (Option Int))(F:Hp)(σ:St)(Q:Option Int->Hp->Prop):Prop:=match r with
 |.ok o δ=>∀H' F',cN X.K Z ow F' H' σ δ->aI F F'->Q o H'
 |.err x δ=>iM X Z ow F x δ
 |.stuck=>False
def aPE(X:Cx)(Z:bT)(ow:ZH)(f:Option (M D)):TO:=λσ H Q=>∃F δ,cN X.K Z ow F H σ δ/\kO X Z ow (jX f δ) F σ Q
def DO(X:Cx)(Z:bT)(ow:ZH)(e:Option Expr)(f:Option (M D)):Prop:=PO X e (aPE X Z ow f)
def PO.mono(h:PO X o t)(hm:∀σ H Q,t' σ H Q->t σ H Q):PO X o t':=λU s σ H Q I q=>h U s σ H Q I (hm σ H Q q)
def jJ:DO X Z ow none none:=PO.mono YL λσ H Q q=>by
 let⟨F,δ,R,q⟩:=q;exact q H F R 'p'
def gT(h:DE X Z ow 0 e f):DO X Z ow (some e) (some f):=PO.mono (YM h) λσ H Q q=>by
 let⟨F,δ,R,q⟩:=q;have q:kO X Z ow ((f δ).bind λd δ1=>match d with|.int i=>.ok (some i) δ1|_=>.stuck) F σ Q:=q;sleep 4;cases e:f δ with
 |stuck=>rw[e]at q;sleep 5
 |err x δ1=>rw[e]at q;exact q
 |ok d δ1=>
  rw[e]at q;simp![Res.bind]at q;intro v H1 F1 R1 s1;cases d with
  |int i=>exact⟨i,hG R1.rep,q H1 F1 R1.rel s1⟩
  |_=>sleep 5
def Ħ(op:D->Option Int->Option Int->ZL)(f:M D)(lo hi:Option (M D)):M D:=λδ=>(f δ).bind λd δ1=>(jX lo δ1).bind λl δ2=>(jX hi δ2).bind λu δ3=>match op d l u with
 |some r=>.ok r δ3
 |none=>.stuck
def Ū(X:Cx)(r:V->Option Int->Option Int->Hp->VK->Prop)(n:Nat)(op:D->Option Int->Option Int->ZL):Prop:=∀(Z:bT)(ow:ZH)(F H:Hp)(σ:St)(δ:DS)(a:D)(x:V)(l u:Option Int)(d:D)(Q:VK),aQ Z ow->cN X.K Z ow F H σ δ->bG X.K F a x->op a l u=some d ->
 (∀v H' F',f8 X.K Z ow n d v F' H' σ δ->aI F F'->Q v H')->r x l u H Q
def iR{lo hi:Option Expr}(S:aQ Z ow)(hr:Ŀ X r)(os:Ū X r n op)(he:DE X Z ow 0 e f)(hl:DO X Z ow lo fl)(hu:DO X Z ow hi fh):
  DE X Z ow n (.Subscript e (.Slice lo hi none p2) pos) (Ħ op f fl fh):=PE.mono (E4 hr he hl hu) λσ H Q q=>by
 let⟨F,δ,R,q⟩:=q;unfold Ħ at q;sleep 4;cases e1:f δ with
 |stuck=>rw[e1]at q;sleep 5
 |err x δ1=>rw[e1]at q;exact q
 |ok d δ1=>
  rw[e1]at q;simp![Res.bind]at q;intro v H1 F1 R1 s1;refine⟨F1,δ1,R1.rel,?_⟩;cases e2:jX fl δ1 with
  |stuck=>rw[e2]at q;sleep 5
  |err x δ2=>rw[e2]at q;exact iM.mono q s1
  |ok l δ2=>
   rw[e2]at q;dsimp only at q;intro H2 F2 R2 s2;refine⟨F2,δ2,R2,?_⟩;cases e3:jX fh δ2 with
   |stuck=>rw[e3]at q;sleep 5
   |err x δ3=>rw[e3]at q;exact iM.mono q (s1.trans' s2)
   |ok u δ3=>
    rw[e3]at q;dsimp only at q;intro H3 F3 R3 s3;cases e4:op d l u with
    |none=>rw[e4]at q;sleep 5
    |some r0=>
     rw[e4]at q;exact os Z ow F3 H3 σ δ3 d v l u r0 Q S R3 ((s2.trans' s3).rep _ _ R1.rep) e4 λv' H' F' R' s'=>q v' H' F' R' (s1.trans' (s2.trans' (s3.trans' s')))
def wX:D->Option Int->Option Int->ZL
 |.list ds,l,u=>some (.list (zU ds l u))
 |_,_,_=>none
def vT:Ū X (Ρ X.K) 1 wX:=λZ ow F H σ δ a x l u d Q S R ra e q=>by
 unfold wX at e;split at e
 .cases e
  let⟨p,xs,rfl,hp,hr⟩:=kL ra;exact⟨p,xs,rfl,R.sub.seq hp,λt ht=>q _ _ F (R.newList S ht (hr.cut l u)) 'p'⟩
 .cases e
def SD:D->Option Int->Option Int->ZL
 |.tuple ds,l,u=>if HT.sIx ds.length 0 l=0/\HT.sIx ds.length ds.length u=ds.length then none else some (.tuple (zU ds l u))
 |_,_,_=>none
def JP:Ū X (Λ X.K) 0 SD:=λZ ow F H σ δ a x l u d Q S R ra e q=>by
 unfold SD at e;split at e
 .split at e
  .cases e
  .rename_i hw
   cases e;let⟨p,xs,rfl,hp,hr⟩:=CJ ra;rw[hr.len]at hw;refine⟨p,xs,rfl,R.sub.seqT hp,hw,λt ht=>?_⟩;have ft:=R.fnone ht;exact q _ _ (bA F t (.tup (BY xs l u))) ((R.laid ht).x (p8 ft (hr.cut l u))) (cI ft _)
 .cases e
def aG(h1:↥(decide (ow.length<=1000)=true))(h2:↥(Z.ps.contains 1000=false)):aQ Z ow:=⟨of_decide_eq_true h1,dE h2⟩
end
def ū(x:Str):It:=⟨λi _=>i<x.cps.size,λi H v H'=>H'=H/\∃c,x.cps[i]?=some c/\v=.str ⟨#[c]⟩,λi _=>i=x.cps.size⟩
def SE{K:ZC}(x:Str)(t:Tok)(it:Addr):E0 P w K tg (ū x) [it] it (λi h=>h.IsStrIter it (strIterType x) x t i):=by
 have hty:strIterType x="str_ascii_iterator"\/strIterType x="str_iterator":=by
  unfold strIterType;split
  .exact .inl rfl
  .exact .inr rfl
 have W:∀A:Around,A.handled=none->Walks P w A it [it] [it] x.cps.size (SignAt x) (λi h=>h.IsStrIter it (strIterType x) x t i):=λA hh=>by
  rcases hty with e|e
  .rw[e];exact Walks.strAscii hh it x t
  .rw[e];exact Walks.strWide hh it x t
 refine⟨by simp,λi h st b hb=>?_,λi h h' st k=>let ⟨o,ho,r⟩:=st;⟨o,k it 'e' o ho,r⟩,?_,?_,λA i s Q E st h=>?_⟩
 .have e:b=it:=by simpa using hb
  subst e;let⟨o,e,c,d⟩:=st;exact⟨o,e,λv z=>by rw[d]at z;cases z⟩
 .intro X hP hw hK hc i U s σ H E I hf st hg
  subst hP hw hK;let⟨f0,f1,f2,f3,f4,f5⟩:=hf it 'e';refine(W X.A (I.ok.hd hc)).item i s _ E hg st λv h' tk hv st' k=>?_;have I1:Inv X U σ H {s with heap:=h',toks:=tk}:=I.turned (t':=tk) (λb o hb e=>k b o (by simpa using hb) e) f0 f1 f3 f4 f5;let⟨c,u,hx,rfl⟩:=hv;let⟨o,e,cl,d⟩:=id st';refine⟨_,rfl,E1 (s:={s with heap:=h',toks:=tk}) e cl d (by rcases hty with e|e<;>rw[e]<;>decide) ⟨.str ⟨#[c]⟩,H,I1,⟨u,rfl⟩,⟨rfl,c,hx,rfl⟩,st',λb hb=>(hf b hb).1⟩⟩
 .intro X hP hw hK hc i U s σ H E I hf st hg
  subst hP hw hK;let⟨f0,f1,f2,f3,f4,f5⟩:=hf it 'e';have hg:i=x.cps.size:=hg;subst hg;exact(W X.A (I.ok.hd hc)).done s _ E st λh' tk k=>⟨rfl,I.turned (t':=tk) (λb o hb e=>k b o (by simpa using hb) e) f0 f1 f3 f4 f5⟩
 .have st:s.heap.IsStrIter it (strIterType x) x t i:=st
  rcases hty with e|e
  .rw[e]at st;exact wpAny_pyIter_striter_ascii st h
  .rw[e]at st;exact wpAny_pyIter_striter_wide st h
section
variable {b:Expr}{F:Hp}{K:ZC}
def aNF(tl:TE):TI:=λσ H R=>tl σ H λx H1=>∃z,x=.str z/\R (ū z) H1
def aFS(hl:PE X l tl):PI X tg l (aNF tl):=by
 intro U s σ H R I h;refine cM (hl U s σ H _ I h) λv s1 zQ=>?_;let⟨x,H1,I1,r1,q1⟩:=zQ;let⟨z,rfl,q⟩:=q1;let⟨t,rfl⟩:=r1;refine wpAny_pyIter_strU ?_;refine⟨s1.heap.objs.size,[s1.heap.objs.size],_,_,H1,rfl,I1.kept (t':=s1.toks) λb o e=>Heap.get?_push_of_some _ e,SE z t _,⟨_,Heap.get?_push_size _ rfl,rfl,rfl⟩,λb hb=>?_,q⟩;have e:b=s1.heap.objs.size:=by simpa using hb
 subst e;exact I1.fpOk (Ç _) (I1.hok.fresh (Ç _))
def mT(z:Str):ZI:=z.cps.toList.map λc=>.str ⟨#[c]⟩
def ZQ{z:Str}:QM K F (ū z) (mT z) where
 go:=λi H s hi=>by
  have:(mT z).length=z.cps.size:=by unfold mT;simp
  rw[this]at hi;exact hi
 yld:=λi H x H' d s y e=>.inl ⟨y.1,by
  let⟨c,hc,rfl⟩:=y.2;unfold mT at e;rw[Î]at e;have:z.cps.toList[i]?=some c:=by simpa using hc
  rw[this]at e;cases e;exact RV⟩
 stop:=λH s=>by
  show (mT z).length=z.cps.size;unfold mT;simp
def wY(f:M D):M (ZI):=λδ=>(f δ).bind λd δ1=>match d with
 |.str z=>.ok (mT z) δ1
 |_=>.stuck
def aFT(h:DE X Z ow 0 e f):DI X Z ow tg e (wY f):=(aFS h).mono λσ H R q=>by
 let⟨F,δ,Rl,q⟩:=q;unfold wY at q;refine⟨F,δ,Rl,?_⟩;cases e1:f δ with
 |stuck=>rw[e1]at q;sleep 5
 |err x δ1=>rw[e1]at q;exact q
 |ok d δ1=>
  rw[e1]at q;simp![Res.bind]at q;intro v H1 F1 R1 s1;cases d with
  |str z=>exact⟨z,lV R1.rep,q _ H1 F1 R1.rel s1 ZQ⟩
  |_=>sleep 5
def AZ:jS X (compareOp .LtE) (λx y H Q=>∃i j,x=.str i/\y=.str j/\Q (.bl (!decide (j.cps.toList<i.cps.toList))) H):=by
 sleep 6;let⟨i,j,rfl,rfl,q⟩:=h;let⟨t,rfl⟩:=rx;let⟨t',rfl⟩:=ry;exact PySem.P.le_str ⟨.bl _,H,I,rfl,q⟩
def Ğ:D->D->ZL
 |.str i,.str j=>some (.bool (!decide (j.cps.toList<i.cps.toList)))
 |_,_=>none
def SF:oA X (λx y H Q=>∃i j,x=.str i/\y=.str j/\Q (.bl (!decide (j.cps.toList<i.cps.toList))) H) 0 Ğ:=λZ ow F H σ δ a b x y d Q S R ra rb e q=>by
 unfold Ğ at e;split at e
 .cases e;exact⟨_,_,lV ra,lV rb,q _ H F (R.x iP) 'p'⟩
 .cases e
def bI.bl_at:∀{bs:List Bool}{us:ZJ}{i:Nat}{u:Value},bI (bs.map V.bl) us->us[i]?=some u->∃b,bs[i]?=some b/\u=.bool b
 |[],us,i,u,r,e=>by cases r;simp at e
 |b::bs,_,0,u,.cons r _,e=>by cases e;exact⟨b,rfl,r⟩
 |b::bs,_,i+1,u,.cons _ r,e=>by
  let⟨b',e1,e2⟩:=bI.bl_at (i:=i) r (by simpa using e);exact⟨b',e1,e2⟩
def OL{bs:List Bool}:(List.range bs.length).all (λi=>bs.getD i true)=bs.all id:=by
 rw[Bool.eq_iff_iff,ç,ç];constructor
 .intro h b hb
  let⟨i,hi,e⟩:=List.mem_iff_getElem.mp hb;have:=h i (List.mem_range.mpr hi);rw[Ê,É hi]at this;rw[<- e];exact this
 .intro h i hi
  have hi:=List.mem_range.mp hi;rw[Ê,É hi];exact h _ (Č hi)
def FP(hc:X.calm=true):g7 X (.builtin "all") (λxs H Q=>∃(p:Addr)(bs:List Bool),xs=[.ref p]/\eE X.K H p (bs.map V.bl)/\Q (.bl (bs.all id)) H):=by
 intro U s σ H xs us Q I r h;let⟨p,bs,rfl,hq,q⟩:=h;let⟨u,rfl,rx⟩:=mO r;cases rx;let⟨its,rv,pl,hz⟩:=I.list hq;refine call_all_walk (wpAny_pyIter_list pl.isList ?_);have hlen:=rv.length;rw[Ä]at hlen;have hne:p≠s.heap.objs.size:=by
  let⟨o,n,e,_⟩:=pl;exact Í 'y'
 have ph:Inv X U σ H {s with heap:=s.heap.push {cls:=.type "list_iterator",data:=.fields #[.ref p,.int 0 0]}}:=I.kept (t':=s.toks) λb o e=>Heap.get?_push_of_some _ e;let⟨its',rv',pl',_⟩:=ph.list hq;have e1:its=its':=by
  let⟨o,n,e,c,dn,d⟩:=pl;let⟨o',n',e',c',dn',d'⟩:=pl';have e'':=Heap.get?_push_of_some {cls:=.type "list_iterator",data:=.fields #[.ref p,.int 0 0]} e;rw[e'']at e';cases e';rw[d]at d';injection d' with d1 _;simpa using congrArg Array.toList d1
 subst e1;refine⟨s.heap.objs.size,_,_,_,_,_,λi=>bs.getD i true,rfl,Walks.list (A:=X.A.in1) (show X.A.in1.handled=none from I.ok.hd hc) s.heap.objs.size p hne its.toArray,⟨⟨_,Heap.get?_push_size _ rfl,rfl,rfl⟩,pl'.isList⟩,λi v s' Q' E' hv hQ=>?_,λh' tk k=>?_⟩
 .have hv:its.toArray[i]?=some v:=hv
  let⟨b,hb,rfl⟩:=bI.bl_at (i:=i) rv (by simpa using hv);have hQ:Q' (bs.getD i true) s':=hQ;rw[Ê,hb]at hQ;exact wpAny_truthy_bool hQ
 .have sz:its.toArray.size=bs.length:=by simp;exact Eq.symm ‹_›
  rw[sz,OL];have I2:=ph.turned (it:=s.heap.objs.size) (h':=h') (t':=tk) (λb o hb e=>k b o (by simpa using hb) e) (I.hok.fresh (Ç _)) (ß I.lt) (.inr I.sz) (λx c e=>by
   let⟨v,q⟩:=I.cell x c e;exact Í q.lt) λp hp=>Í (Heap.lt_size (I.pin p hp).1)
  exact⟨.bl _,H,I2,rfl,q⟩
def rT:ZI->Option (List Bool)
 |[]=>some []
 |.bool b::r=>(rT r).map (b::·)
 |_=>none
def A0:∀{ds:ZI}{bs:List Bool}{vs:List V},rT ds=some bs->aD K F ds vs->vs=bs.map V.bl
 |[],bs,vs,h,r=>by
  cases h;unfold aD at r;rw[r];rfl
 |d::ds,bs,vs,h,r=>by
  unfold aD at r;let⟨x,rest,rfl,rx,r⟩:=r;cases d with
  |bool b=>
   have h:(rT ds).map (b::·)=some bs:=h;cases e:rT ds with
   |none=>rw[e]at h;cases h
   |some bs'=>
    rw[e]at h;cases h;rw[kK rx,A0 e r];rfl
  |_=>cases h
def Ŭ:ZI->ZL
 |[.list ds]=>(rT ds).map λbs=>.bool (bs.all id)
 |_=>none
def aFW:YZ X (λxs H Q=>∃(p:Addr)(bs:List Bool),xs=[.ref p]/\eE X.K H p (bs.map V.bl)/\Q (.bl (bs.all id)) H) 0 Ŭ:=λZ ow F H σ δ ds vs d Q S R ra e q=>by
 unfold Ŭ at e;split at e
 .rename_i ds'
  cases e1:rT ds' with
  |none=>rw[e1]at e;cases e
  |some bs=>
   rw[e1]at e;cases e;let⟨v,rfl,r⟩:=vK ra;let⟨p,xs,rfl,hp,hr⟩:=kL r;rw[A0 e1 hr]at hp;exact⟨p,bs,rfl,R.sub.seq hp,q _ H F (R.x iP) 'p'⟩
 .cases e
def oF(hg:Gl X x)(hm:∃t,X.mg x=some (.int i t))(hd:⇑(Zdb x)):DE X Z ow 0 (.Name x pos) (dC (.int i)):=by
 let⟨t,hm⟩:=hm;exact kG (K2 hg hm (v:=.int i) ⟨t,rfl⟩ hd) λF=>eU
end
theorem OM{K:ZC}(z:zR P w K outer H s (λ_ _ _=>False) e s'):False:=by
 let⟨_,_,_,_,_,_,_,_,_,_,_,_,_,q⟩:=z;exact q
end L2
namespace L2
open PySem PySem.Spec
def CP{C:Int->Int->Prop}{g:Int->Int->D}{i j:Int}(h:C i j):iD C g (.int i) (.int j)=some (g i j):=by
 unfold iD;exact Â h
def FQ(h:0<j):CL (.int i) (.int j)=some (.int (i % j)):=by
 rw[CL,CP (by show j≠0;exact Ă ‹_›),Int.fmod_eq_emod_of_nonneg i (by exact à ‹_›)]
def A1(h:0<j)(h2:j.natAbs.log2<9000):AX (.int i) (.int j)=some (.int (i/j)):=by
 rw[AX,CP ⟨by exact Ă ‹_›,h2⟩,Int.fdiv_eq_ediv_of_nonneg i (by exact à ‹_›)]
def ZR(h:IntMulOk i j):OJ (.int i) (.int j)=some (.int (i*j)):=by rw[OJ,CP h]
def ZS(h:YB i j):Y5 (.int i) (.int j)=some (.int (i^j.toNat)):=by rw[Y5,CP h]
def ZT:JL (.int i) (.int j)=some (.bool (i == j)):=rfl
def LO:FK (.int i) (.int j)=some (.bool (!(i == j))):=rfl
def SG:FK (.bool i) (.bool j)=some (.bool (!(i == j))):=rfl
def wZ{e:M D}{g:D->D}{δ:DS}:∀{ds acc:ZI}{o:ZL},(∀d∈ds,e (some d::δ)=.ok (g d) (some d::δ))->acc.length+ds.length<=sizeLine->∃o',bN (dY 0) dH e ds acc (o::δ)=.ok (acc++ds.map g) (o'::δ)
 |[],acc,o,_,_=>⟨o,by simp[bN]⟩
 |d::ds,acc,o,h,hl=>by
  have hd:=h d Õ;rw[Ó]at hl;let⟨o',ih⟩:=wZ (ds:=ds) (acc:=acc++[g d]) (o:=some d) (λx hx=>h x (Ò _ hx)) (by simp;lia);refine⟨o',?_⟩;unfold bN;have e1:dY 0 d (o::δ)=some (some d::δ):=by simp[dY]
  rw[e1];show Res.bind (dH (some d::δ)) _=_;simp![dH,Res.bind,if_true,hd];rw[Â ∅,ih];simp
def A5{f:M (ZI)}{e:M D}{g:D->D}{δ δ1:DS}{ds:ZI}(hf:f δ=.ok ds δ1)(he:∀d∈ds,e (some d::δ1)=.ok (g d) (some d::δ1))(hl:ds.length<=sizeLine):dP 1 (dY 0) f dH e δ=.ok (.list (ds.map g)) δ1:=by
 unfold dP;rw[hf];let⟨o',h⟩:=wZ (acc:=[]) (o:=none) he (by simpa using hl);simp![Res.bind];rw[show List.replicate 1 (none:ZL)++δ1=none::δ1 from rfl,h];simp
def aIL{set:D->DS->Option DS}{u:M Fl}(I:Nat->ZO){ds:ZI}(hs:∀(k:Nat)(d:D)(δ:DS),ds[k]?=some d->I k δ->∃δ1 δ2,set d δ=some δ1/\(u δ1=.ok .next δ2\/u δ1=.ok .cont δ2)/\I (k+1) δ2)(h0:I 0 δ):
  ∃δ',fL set u ds δ=.ok .next δ'/\I ds.length δ':=by
 have main:∀(n k:Nat)(δ:DS),k+n=ds.length->I k δ->∃δ',fL set u (ds.drop k) δ=.ok .next δ'/\I ds.length δ':=by
  intro n
  induction n with
  |zero=>
   intro k δ hk h;have:k=ds.length:=by assumption
   subst this;rw[List.drop_length];exact⟨δ,rfl,h⟩
  |succ n ih=>
   intro k δ hk h;have hlt:k<ds.length:=by lia
   let⟨δ1,δ2,e1,e2,h2⟩:=hs k ds[k] δ (É hlt) h;let⟨δ',e3,h3⟩:=ih (k+1) δ2 ∅ h2;refine⟨δ',?_,h3⟩;rw[ö hlt];unfold fL;rw[e1];rcases e2 with e2|e2
   .simp![e2,Res.bind];exact e3
   .simp![e2,Res.bind];exact e3
 have:=main ds.length 0 δ (by exact Nat.add_comm _ _) h0
 rwa [List.drop_zero]at this
def LP{u v:M Fl}{δ δ1:DS}(h:u δ=.ok .next δ1):eK u v δ=v δ1:=by unfold eK;rw[h];rfl
def SH{u v:M Fl}{δ δ1:DS}{d:D}(h:u δ=.ok (.ret d) δ1):eK u v δ=.ok (.ret d) δ1:=by unfold eK;rw[h];rfl
def w8{n k:Nat}{d:D}(h:(iO lo n)[k]?=some d):k<n/\d=.int (lo+(k:Int)):=by
 have hk:k<n:=by have:=(Ð.mp h).1;rwa [dZ]at this
 rw[CG hk]at h;cases h;exact⟨hk,rfl⟩
def SI(h:z.length=n)(hn:n<=sizeLine):qA [.str z]=some (.int n):=by
 show (if z.length<=sizeLine then some (PyData.int z.length)else none)=_;rw[Â (by rw[h];exact hn),h]
def aU{k:α->DS->Res β}:(Res.ok a δ).bind k=k a δ:=rfl
def jY{op:D->D->ZL}{f g:M D}{δ δ1 δ2:DS}{a b c:D}(hf:f δ=.ok a δ1)(hg:g δ1=.ok b δ2)(ho:op a b=some c):j9 op f g δ=.ok c δ2:=by
 unfold j9;rw[hf,aU,hg,aU,ho]
def CQ{op:ZI->ZL}{f:M D}{δ δ1:DS}{a c:D}(hf:f δ=.ok a δ1)(ho:op [a]=some c):OF op [f] δ=.ok c δ1:=by
 unfold OF;rw[show aZ [f] δ=.ok [a] δ1 by simp![aZ,hf,aU],aU,ho]
def aFX{op:D->ZL}{f:M D}{δ δ1:DS}{a c:D}(hf:f δ=.ok a δ1)(ho:op a=some c):CN op f δ=.ok c δ1:=by
 unfold CN;rw[hf,aU,ho]
def u1{f:M D}{δ δ1:DS}{b:Bool}(hf:f δ=.ok (.bool b) δ1):dB f δ=.ok b δ1:=by
 unfold dB;rw[hf,aU]
def LQ{f:M D}{δ δ1:DS}{d:D}(hf:f δ=.ok d δ1):wQ f δ=.ok (.ret d) δ1:=by
 unfold wQ;rw[hf,aU]
def aFY{c:M Bool}{u v:M Fl}{δ δ1:DS}(h:c δ=.ok true δ1):m5 c u v δ=u δ1:=by unfold m5;rw[h,aU,Â rfl]
def SJ{c:M Bool}{u v:M Fl}{δ δ1:DS}(h:c δ=.ok false δ1):m5 c u v δ=v δ1:=by unfold m5;rw[h,aU,Ã Ü]
def ZU{f g:M D}{δ δ1:DS}(h:f δ=.ok 'i' δ1):rQ f g δ=g δ1:=by unfold rQ;rw[h,aU];exact Â rfl
def ZV{f g:M D}{δ δ1:DS}(h:f δ=.ok (.bool false) δ1):rQ f g δ=.ok (.bool false) δ1:=by unfold rQ;rw[h,aU];exact Ã Ü
def w9{f:M Bool}{δ δ1:DS}{b:Bool}(h:f δ=.ok b δ1):pH f δ=.ok (!b) δ1:=by unfold pH;rw[h,aU]
def cE{i:Nat}{δ:DS}{d:D}(h:δ[i]?=some (some d)):bQ i δ=.ok d δ:=by unfold bQ;rw[h]
def iS:dC d δ=.ok d δ:=rfl
def ON{fn:ZI->Res D}{f:M D}{δ δ1:DS}{a c:D}{o:DS}(hf:f δ=.ok a δ1)(h:fn [a]=.ok c o):fU fn [.val f] δ=.ok c δ1:=by
 simp![fU,cP,hf,aU,eD,Option.map,h,aW,cL]
def SK(N B C:ZO)(R:D->ZO):Fl->ZO
 |.next,δ=>N δ
 |.brk,δ=>B δ
 |.cont,δ=>C δ
 |.ret d,δ=>R d δ
structure Wt{α:Type}(a:α):Type where
def bO(m:M Fl)(δ:DS)(N:ZO)(B C:ZO)(R:D->ZO)(_w:Wt (N,B,C,R):=⟨⟩):Prop:=match m δ with
 |.ok .next δ'=>N δ'
 |.ok .brk δ'=>B δ'
 |.ok .cont δ'=>C δ'
 |.ok (.ret d) δ'=>R d δ'
 |_=>False
def aY{α:Type}(f:M α)(δ:DS)(Q:α->ZO)(_w:Wt Q:=⟨⟩):Prop:=match f δ with
 |.ok a δ'=>Q a δ'
 |_=>False
section
variable {u:M Fl}{f k:M D}{δ δ1:DS}{N B C:ZO}{R:D->ZO}
def aY.of{f:M α}{a:α}{Q:α->ZO}(h:f δ=.ok a δ1)(q:Q a δ1):aY f δ Q:=by unfold aY;rw[h];exact q
def aY.ex{f:M α}{Q:α->ZO}(h:aY f δ Q):∃a δ1,f δ=.ok a δ1/\Q a δ1:=by
 unfold aY at h;cases e:f δ with
 |ok a δ1=>rw[e]at h;exact⟨a,δ1,rfl,h⟩
 |err x δ1=>sleep 1
 |stuck=>sleep 1
def bO.of{fl:Fl}(h:m δ=.ok fl δ1)(q:SK N B C R fl δ1):bO m δ N B C R:=by
 unfold bO;rw[h];cases fl<;>exact q
def bO.ex(h:bO m δ N B C R):∃fl δ1,m δ=.ok fl δ1/\SK N B C R fl δ1:=by
 unfold bO at h;cases e:m δ with
 |ok fl δ1=>rw[e]at h;exact⟨fl,δ1,rfl,by cases fl<;>exact h⟩
 |err x δ1=>sleep 1
 |stuck=>sleep 1
def SL(h:bO u δ (λδ1=>bO v δ1 N B C R) B C R):bO (eK u v) δ N B C R:=by
 let⟨fl,δ1,e,q⟩:=h.ex;cases fl with
 |next=>
  let⟨fl,δ2,e2,q⟩:=bO.ex q;exact .of ((LP e).trans e2) q
 |brk=>exact .of (fl:=.brk) (by unfold eK;rw[e];rfl) q
 |cont=>exact .of (fl:=.cont) (by unfold eK;rw[e];rfl) q
 |ret d=>exact .of (fl:=.ret d) (SH e) q
def aFZ(h:aY f δ R):bO (wQ f) δ N B C R:=by
 let⟨d,δ1,e,q⟩:=h.ex;exact .of (fl:=.ret d) (LQ e) q
def aJV(h:aY c δ λb δ1=>if b=true then bO u δ1 N B C R else bO v δ1 N B C R):bO (m5 c u v) δ N B C R:=by
 let⟨b,δ1,e,q⟩:=h.ex;cases b with
 |true=>
  rw[Â rfl]at q;let⟨fl,δ2,e2,q⟩:=q.ex;exact .of ((aFY e).trans e2) q
 |false=>
  rw[Ã Ü]at q;let⟨fl,δ2,e2,q⟩:=q.ex;exact .of ((SJ e).trans e2) q
def ZW{set:D->DS->Option DS}(I:Nat->ZO){ds:ZI}(hs:∀(k:Nat)(d:D)(δ:DS),ds[k]?=some d->I k δ->∃δ1,set d δ=some δ1/\bO u δ1 (I (k+1)) N (I (k+1)) R)(hN:∀δ,I ds.length δ->N δ)(h0:I 0 δ):bO (fL set u ds) δ N B C R:=by
 have main:∀(n k:Nat)(δ:DS),k+n=ds.length->I k δ->bO (fL set u (ds.drop k)) δ N B C R:=by
  intro n
  induction n with
  |zero=>
   intro k δ hk h;have:k=ds.length:=by assumption
   subst this;rw[List.drop_length];exact .of (fl:=.next) rfl (hN δ h)
  |succ n ih=>
   intro k δ hk h;have hlt:k<ds.length:=by lia
   let⟨δ1,e1,w⟩:=hs k ds[k] δ (É hlt) h;let⟨fl,δ2,e2,q⟩:=w.ex;rw[ö hlt];cases fl with
   |next=>
    let⟨fl,δ3,e3,q⟩:=(ih (k+1) δ2 ∅ q).ex;exact .of (by unfold fL;rw[e1];simp![e2,aU];exact e3) q
   |cont=>
    let⟨fl,δ3,e3,q⟩:=(ih (k+1) δ2 ∅ q).ex;exact .of (by unfold fL;rw[e1];simp![e2,aU];exact e3) q
   |brk=>exact .of (fl:=.next) (by unfold fL;rw[e1];simp![e2,aU]) q
   |ret d=>exact .of (fl:=.ret d) (by unfold fL;rw[e1];simp![e2,aU]) q
 have:=main ds.length 0 δ (by exact Nat.add_comm _ _) h0
 rwa [List.drop_zero]at this
def cS{set:D->DS->Option DS}{f:M (ZI)}(I:Nat->ZO){ds:ZI}(hf:f δ=.ok ds δ1)(h0:I 0 δ1)(hs:∀(k:Nat)(d:D)(δ:DS),ds[k]?=some d->I k δ->∃δ1,set d δ=some δ1/\bO u δ1 (I (k+1)) N (I (k+1)) R)(hN:∀δ,I ds.length δ->N δ):bO (mR set f u) δ N B C R:=by
 let⟨fl,δ2,e,q⟩:=(ZW (B:=B) (C:=C) I hs hN h0).ex;exact .of (by unfold mR;rw[hf,aU];exact e) q
def SM{set:D->DS->Option DS}{j:Int}(I:Nat->ZO)(hf:f δ=.ok (.int j) δ1)(hj:-(2^62)<=j)(hj2:j<2^62)(h0:I 0 δ1)(hs:∀(k:Nat)(δ:DS),(k:Int)<j->I k δ->∃δ1,set (.int k) δ=some δ1/\bO u δ1 (I (k+1)) N (I (k+1)) R)(hN:∀δ,I j.toNat δ->N δ):bO (mR set (vJ [f]) u) δ N B C R:=by
 refine cS (ds:=iO 0 j.toNat) (δ1:=δ1) I ?_ h0 (λk d δ hd hI=>?_) (λδ h=>hN δ (by rwa [dZ]at h))
 .simp![vJ,aZ,hf,aU,lT]
  rw[Â ⟨hj,hj2⟩]
 .obtain⟨hk,rfl⟩:=w8 hd
  rw[Int.zero_add];exact hs k δ ∅ hI
def aK{os:ZI}(h:bO body (ds.map some++List.replicate (m0-ds.length) none) (λ_=>False) (λ_=>False) (λ_=>False) λr δ=>r=d/\fF δ ps=some os):aR m0 ps rm body ds=.ok d (os.map some):=by
 let⟨fl,δ1,e,q⟩:=h.ex;cases fl with
 |ret r=>
  let⟨rfl,ho⟩:=q;unfold aR;rw[e];dsimp only;rw[ho]
 |next=>sleep 5
 |brk=>sleep 5
 |cont=>sleep 5
end
end L2
namespace L2
open PySem PySem.Spec PyProof.Rows
section
variable {X:Cx}{Z:bT}{ow:ZH}{k:M D}{F H:Hp}{σ:St}{δ:DS}{K:ZC}
def ŭ(set:D->DS->Option DS)(f:M D):M Fl:=λδ=>(f δ).bind λd δ1=>match set d δ1 with
 |some δ2=>.ok .next δ2
 |none=>.stuck
def bI.int_at:∀{ns:ZK}{us:ZJ}{i:Nat}{u:Value},bI (ns.map V.int) us->us[i]?=some u->∃m t,ns[i]?=some m/\u=.int m t
 |[],_,i,u,.nil,h=>by simp at h
 |m::ns,_,0,u,.cons r rr,h=>by
  let⟨t,rfl⟩:=r;cases h;exact⟨m,t,rfl,rfl⟩
 |m::ns,_,i+1,u,.cons r rr,h=>by
  let⟨m',t,h1,h2⟩:=bI.int_at (i:=i) rr (by simpa using h);exact⟨m',t,by simpa using h1,h2⟩
def u2{ns:ZK}:∀{j:Nat},j<=ns.length->preSum (λi=>ns.getD i 0) j=(ns.take j).sum
 |0,_=>rfl
 |j+1,h=>by
  show preSum (λi=>ns.getD i 0) j+ns.getD j 0=_;have e1:ns.getD j 0=ns[j]:=by rw[Ê,É 's'];rfl
  have e2:ns.take (j+1)=ns.take j++[ns[j]]:=by rw[List.take_add_one,É 's'];rfl
  rw[u2 (Nat.le_of_succ_le h),e1,e2,List.sum_append];simp![List.sum_cons,List.sum_nil,Int.add_zero]
def CS(hc:X.calm=true):g7 X (.builtin "sum") (λxs H Q=>∃(p:Addr)(ns:ZK),xs=[.ref p]/\eE X.K H p (ns.map V.int)/\Q (.int ns.sum) H):=by
 intro U s σ H xs us Q I r h;let⟨p,ns,rfl,hq,q⟩:=h;let⟨u,rfl,rx⟩:=mO r;cases rx;let⟨its,rv,pl,hz⟩:=I.list hq;refine call_sum_walkAnyS (wpAny_pyIter_list pl.isList ?_);have hlen:=rv.length;rw[Ä]at hlen;have hne:p≠s.heap.objs.size:=by
  let⟨o,n,e,_⟩:=pl;exact Í 'y'
 have ph:Inv X U σ H {s with heap:=s.heap.push {cls:=.type "list_iterator",data:=.fields #[.ref p,.int 0 0]}}:=I.kept (t':=s.toks) λb o e=>Heap.get?_push_of_some _ e;let⟨its',rv',pl',_⟩:=ph.list hq;have e1:its=its':=by
  let⟨o,n,e,c,dn,d⟩:=pl;let⟨o',n',e',c',dn',d'⟩:=pl';have e'':=Heap.get?_push_of_some {cls:=.type "list_iterator",data:=.fields #[.ref p,.int 0 0]} e;rw[e'']at e';cases e';rw[d]at d';injection d' with d1 _;simpa using congrArg Array.toList d1
 subst e1;refine⟨s.heap.objs.size,_,_,_,_,_,_,λi=>ns.getD i 0,rfl,(Walks.list (A:=X.A.in1) (show X.A.in1.handled=none from I.ok.hd hc) s.heap.objs.size p hne its.toArray).toS,⟨⟨_,Heap.get?_push_size _ rfl,rfl,rfl⟩,pl'.isList⟩,λb hb=>?_,λi v hv=>?_,λs' t' mv=>?_⟩
 .have hb:b∈[s.heap.objs.size,p]:=hb
  have z:(s.heap.push {cls:=.type "list_iterator",data:=.fields #[.ref p,.int 0 0]}).objs.size=s.heap.objs.size+1:=by simp[Heap.push]
  show b<(s.heap.push _).objs.size;rw[z];simp![Ë,Û,or_false]at hb;rcases hb with rfl|rfl
  .exact î _
  .obtain⟨o,n,e,_⟩:=pl
   exact Nat.lt_succ_of_lt 'y'
 .have hv:its.toArray[i]?=some v:=hv
  let⟨m,t,hb,rfl⟩:=bI.int_at (i:=i) rv (by simpa using hv);refine⟨t,?_⟩;show _=Value.int (ns.getD i 0) t;rw[Ê,hb];rfl
 .have sz:its.toArray.size=ns.length:=by simp;exact Eq.symm ‹_›
  rw[sz,u2 (Ç _),List.take_length];let⟨h',g',d',t2,o'⟩:=s';obtain rfl:g'=s.gens:=mv.gens;obtain rfl:d'=s.drawn:=mv.drawn;obtain rfl:o'=s.os:=mv.os;have I2:=ph.turned (it:=s.heap.objs.size) (h':=h') (t':=t2) (λb o hb e=>mv.heap b o (by simpa using hb) e) (I.hok.fresh (Ç _)) (ß I.lt) (.inr I.sz) (λx c e=>by
   let⟨v,q⟩:=I.cell x c e;exact Í q.lt) λp hp=>Í (Heap.lt_size (I.pin p hp).1)
  exact⟨.int _,H,I2,⟨t',rfl⟩,q⟩
def cO:ZI->Option (ZK)
 |[]=>some []
 |.int i::r=>(cO r).map (i::·)
 |_=>none
def iT:cO (l.map .int)=some l:=by
 induction l with
 |nil=>rfl
 |cons a l ih=>show (cO (l.map .int)).map (a::·)=_;rw[ih];rfl
def iU:∀{ds:ZI}{bs:ZK}{vs:List V},cO ds=some bs->aD K F ds vs->vs=bs.map V.int
 |[],bs,vs,h,r=>by
  cases h;unfold aD at r;rw[r];rfl
 |d::ds,bs,vs,h,r=>by
  unfold aD at r;let⟨x,rest,rfl,rx,r⟩:=r;cases d with
  |int b=>
   have h:(cO ds).map (b::·)=some bs:=h;cases e:cO ds with
   |none=>rw[e]at h;cases h
   |some bs'=>
    rw[e]at h;cases h;rw[hG rx,iU e r];rfl
  |_=>cases h
def ZX:ZI->ZL
 |[.list ds]=>(cO ds).map λbs=>.int bs.sum
 |_=>none
def aF1:YZ X (λxs H Q=>∃(p:Addr)(ns:ZK),xs=[.ref p]/\eE X.K H p (ns.map V.int)/\Q (.int ns.sum) H) 0 ZX:=λZ ow F H σ δ ds vs d Q S R ra e q=>by
 unfold ZX at e;split at e
 .rename_i ds'
  cases e1:cO ds' with
  |none=>rw[e1]at e;cases e
  |some bs=>
   rw[e1]at e;cases e;let⟨v,rfl,r⟩:=vK ra;let⟨p,xs,rfl,hp,hr⟩:=kL r;rw[iU e1 hr]at hp;exact⟨p,bs,rfl,R.sub.seq hp,q _ H F (R.x eU) 'p'⟩
 .cases e
def IG:D->Option V
 |.int i=>some (.int i)
 |.bool b=>some (.bl b)
 |.str z=>some (.str z)
 |.none=>some .non
 |_=>none
def SN:ZI->Option (List V)
 |[]=>some []
 |d::ds=>match IG d,SN ds with
  |some v,some vs=>some (v::vs)
  |_,_=>none
def vU(h:IG d=some v)(r:bG K F d x):x=v/\pF v=true:=by
 cases d with
 |int i=>cases h;exact⟨hG r,rfl⟩
 |bool b=>cases h;exact⟨kK r,rfl⟩
 |str z=>cases h;exact⟨lV r,rfl⟩
 |none=>cases h;unfold bG at r;exact⟨r,rfl⟩
 |_=>cases h
def xA:∀{ds:ZI}{vs xs:List V},SN ds=some vs->aD K F ds xs->xs=vs/\vs.all pF=true
 |[],vs,xs,h,r=>by
  cases h;unfold aD at r;exact⟨r,rfl⟩
 |d::ds,vs,xs,h,r=>by
  unfold aD at r;let⟨x,rest,rfl,rx,r⟩:=r;unfold SN at h;split at h
  .rename_i v vs' e1 e2
   cases h;let⟨rfl,f1⟩:=vU e1 rx;let⟨rfl,f2⟩:=xA e2 r;exact⟨rfl,by rw[List.all_cons,f1,f2];rfl⟩
  .cases h
def ĳ(neg:Bool):D->D->ZL
 |a,.list ds=>match IG a,SN ds with
  |some x,some xs=>some (.bool (if neg then !Ĥ x xs else Ĥ x xs))
  |_,_=>none
 |a,.tuple ds=>match IG a,SN ds with
  |some x,some xs=>some (.bool (if neg then !Ĥ x xs else Ĥ x xs))
  |_,_=>none
 |_,_=>none
def aF2:oA X (Τ X.K neg) 0 (ĳ neg):=λZ ow F H σ δ a b x y d Q S R ra rb e q=>by
 unfold ĳ at e;split at e
 .split at e
  .rename_i v vs e1 e2
   cases e;let⟨p,xs,rfl,hp,hr⟩:=kL rb;let⟨rfl,f1⟩:=vU e1 ra;let⟨rfl,f2⟩:=xA e2 hr;exact⟨p,_,rfl,.inl (R.sub.seq hp),f1,f2,q _ H F (R.x iP) 'p'⟩
  .cases e
 .split at e
  .rename_i v vs e1 e2
   cases e;let⟨p,xs,rfl,hp,hr⟩:=CJ rb;let⟨rfl,f1⟩:=vU e1 ra;let⟨rfl,f2⟩:=xA e2 hr;exact⟨p,_,rfl,.inr (R.sub.seqT hp),f1,f2,q _ H F (R.x iP) 'p'⟩
  .cases e
 .cases e
def xB{k:Nat}(S:aQ Z ow):∀(is:ZH)(t:QV),(∀i∈is,i<k/\i∉Z.ps/\i<ow.length/\ow.getD i 0=0)->t=is.foldr (λi u=>EZ (pA i) u) QW ->
  ∀(F H:Hp)(σ:St)(δ δ':DS)(ds:ZI)(vs:List V)(Q:St->Hp->Prop),cN X.K Z ow F H σ δ->aD X.K F ds vs->ds.length=is.length ->
   (is.zip ds).foldl (λ(o:Option DS)(p:Nat×D)=>o.bind λδ=>dY p.1 p.2 δ) (some δ)=some δ'->(∀σ',cN X.K Z ow F H σ' δ'->σ'.length=σ.length->δ'.length=δ.length->(∀i,σ'[i+k]?=σ[i+k]?)->Q σ' H)->t vs σ H Q
 |[],t,hi,ht,F,H,σ,δ,δ',ds,vs,Q,R,ra,hl,e,q=>by
  subst ht;cases ds with
  |cons _ _=>simp at hl
  |nil=>
   unfold aD at ra;cases e;exact⟨ra,q σ R rfl rfl λ_=>rfl⟩
 |i::is,t,hi,ht,F,H,σ,δ,δ',ds,vs,Q,R,ra,hl,e,q=>by
  subst ht;cases ds with
  |nil=>simp at hl
  |cons d ds=>
   unfold aD at ra;let⟨x,rest,rfl,rx,r⟩:=ra;rw[â,List.foldl_cons]at e;cases e1:dY i d δ with
   |none=>
    rw[show ((some δ:Option DS).bind λδ=>dY (i,d).1 (i,d).2 δ)=none from e1]at e;have:∀l:List (Nat×D),l.foldl (λ(o:Option DS)(p:Nat×D)=>o.bind λδ=>dY p.1 p.2 δ) none=none:=λl=>by induction l with|nil=>rfl|cons a l ih=>exact ih
    rw[this]at e;cases e
   |some δ1=>
    rw[show ((some δ:Option DS).bind λδ=>dY (i,d).1 (i,d).2 δ)=some δ1 from e1]at e;let⟨h0,h1,h2,h3⟩:=hi i Õ;refine⟨x,rest,rfl,m7 S h0 h1 h2 h3 F H σ δ δ1 d x _ R rx e1 λσ' R' l1 l2 l3=>?_⟩;exact xB S is _ (λj hj=>hi j (Ò _ hj)) rfl F H σ' δ1 δ' ds rest Q R' r (by simpa using hl) e λσ2 R2 m1 m2 m3=>q σ2 R2 (m1.trans l1) (m2.trans l2) λj=>(m3 j).trans (l3 j)
def rV{k:Nat}(S:aQ Z ow)(hi:∀i∈is,i<k/\i∉Z.ps/\i<ow.length/\ow.getD i 0=0)(ht:t=is.foldr (λi u=>EZ (pA i) u) QW):Y9 X Z ow k (Ř X.K is.length t) (tO is):=λF H σ δ δ' d v Q R r e q=>by
 unfold tO at e;cases d with
 |tuple ds=>
  dsimp only at e;split at e
  .rename_i hl
   unfold bG at r;let⟨a,xs,rfl,hq,ra⟩:=r;exact⟨a,xs,rfl,R.sub.seqT hq,by rw[<- ra.len];exact hl,xB S is t hi ht F H σ δ δ' ds xs Q R ra hl e q⟩
  .cases e
 |_=>cases e
end
section
def aPF:ZI->ZI->Option (D×ZI)
 |ds,[.int i,d]=>if 0<=i/\i<2^62/\ds.length<sizeLine then some (.none,ds.take i.toNat++[d]++ds.drop i.toNat)else none
 |_,_=>none
def CT(l:Addr)(items:Array Value)(n:Nat)(b:Addr)(fG:Array Value)(n2:Nat)(sl2:Array (ZN))(hc0:¬(!items.isEmpty && Builtin.List.listTooLong (items.size+fG.size))=true)(hc1:items.size<=sizeLine)(hs2:items.size+fG.size<=sizeLine+1):
  Meets (Builtin.«list.extend» ⟨[.ref l,.ref b],[]⟩) (λ_ R s=>s.heap.get? l=some {cls:=.type "list",dict:=none,data:=.seq items n,slots:=#[]}/\s.heap.get? b=some ⟨.type "list",none,.seq fG n2,sl2⟩/\R (.ok (.ret Value.none)) {s with heap:=s.heap.update l (Obj.mapSeq λx=>x++fG),toks:=s.toks}):=
 .of_wp λprog w A R s h=>by
  let⟨hp,g,d,tk,os⟩:=s;let⟨hl,hb,h⟩:=h;have f1:=PySem.AutoSeq1.idx_int;have f2:=PySem.AutoSeq1.sub_tuple_tuple;have f3:=PySem.AutoSeq1.sub_list_list;have f4:=PySem.AutoSeq1.sub_tuple_list;have f5:=PySem.AutoSeq1.sub_list_tuple;have hz':(items++fG).size<=sizeLine+1:=by rw[Array.size_append];exact hs2
  wp_walk using (wpAny_updateSeq hl rfl (hz:=hc1) (_hz':=hz')),PySem.AutoSeq1.wpAny_loadPart' hl,PySem.AutoSeq1.wpAny_loadPart' hb
  exact⟨_,rfl,h⟩
def ι(K:ZC):V->List V->Hp->VK->Prop:=λx vs H Q=>∃l b xs zs,x=.ref l/\vs=[.ref b]/\H l=some (.lst xs)/\eE K H b zs/\xs.length+zs.length<=sizeLine/\Q .non (bA H l (.lst (xs++zs)))
def rW:Š X "list.extend" (ι X.K):=by
 intro U s σ H x vs v us Q I rx rv h;let⟨l,b,xs,zs,rfl,rfl,hH,hB,hz,q⟩:=h;cases rx;let⟨u,rfl,ru⟩:=rv.one;cases ru;let⟨z,its,n,r,hl,e⟩:=I.lstM hH;let⟨its2,r2,⟨o2,n2,e2,c2,dn2,dd2⟩,z2⟩:=I.list hB;let⟨oc2,od2,oda2,osl2⟩:=o2;cases c2;cases dn2;cases dd2;have hl2:=r2.length;have hsz:its.toArray.size+its2.toArray.size<=sizeLine:=by rw[ð,ð];lia
 have hlong:¬(!its.toArray.isEmpty && Builtin.List.listTooLong (its.toArray.size+its2.toArray.size))=true:=by
  rw[RD hsz,Bool.and_false];exact Ü
 refine call_meets F.slot_list_extend ⟨_,e,rfl⟩ F.entry_list_extend (F.args_list_extend_2 _ _)
  (CT l its.toArray n b its2.toArray n2 osl2 hlong (by rw[ð];lia) (by exact Nat.le_succ_of_le ‹_›)) ⟨e,e2,?_⟩
 refine⟨.non,_,I.lset (its':=its++its2) hH e 'e' (r.append r2) ?_,rfl,q⟩;rw[Ì];assumption
def SO:ZI->ZI->Option (D×ZI)
 |ds,[.list zs]=>if ds.length+zs.length<=sizeLine then some (.none,ds++zs)else none
 |_,_=>none
def iV:zT X (ι X.K) SO:=λF H l xs vs ds args ret ds' hl hs h1 h2 e=>by
 unfold SO at e;split at e
 .rename_i zs
  split at e
  .rename_i hlt
   cases e;let⟨v,rfl,r⟩:=vK h2;let⟨p,ys,rfl,hp,hr⟩:=kL r;exact⟨xs++ys,.non,h1.app hr,CI,λQ q=>⟨l,p,xs,ys,rfl,rfl,hl,hs.seq hp,by rw[<- h1.len,<- hr.len];exact hlt,q⟩⟩
  .cases e
 .cases e
end
section
variable {X:Cx}{Z:bT}{ow ol ox:ZH}{rm:Nat}{pos pos' p1 p2:Pos}{e:Expr}{x y:Str}{f:M (ZI)}{u:M Fl}{sts:List Stmt}
def gW(i:Nat)(hN:X.N.Nodup)(hi:DI X Z ow (.Name x pos') e f)(hb:CD X Z ow ow ow ox rm sts u)(hp:PassesOwn 'b' X.A X.env X.xe:=by exact PassesOwn.leaving)(hc:↥(X.calm=true))(hx:↥'t')(hl:#v[ĕ X.env.scope x])(hfn:#v[X.fn x=true\/X.env.scope.names.lookup x=some .local])(ok:↥((decide (ow.length<=1000) && !Z.ps.contains 1000 && !Z.ps.contains i && decide (i<ow.length) && (ow.getD i 0 == 0))=true))(hf: ~~~(Zfi e X.env)):CC X Z ow ow ol ox rm (.For (.Name x pos') e sts [] pos) (mR (dY i) f u):=by
 simp![ã,Bool.not_eq_true',decide_eq_true_eq,beq_iff_eq]at ok;exact LM hp hc hi (cW hN hx hl hfn) (LG ⟨ok.1.1.1.1,dE ok.1.1.1.2⟩ (dE ok.1.1.2) ok.1.2 ok.2) hb hf
def cX(i j:Nat)(hN:X.N.Nodup)(hi:DI X Z ow (.Tuple [.Name x p1,.Name y p2] k pos') e f)(hb:CD X Z ow ow ow ox rm sts u)(hp:PassesOwn 'b' X.A X.env X.xe:=by exact PassesOwn.leaving)(hc:↥(X.calm=true))(hx:↥'t')(hy:↥(X.N[j]?=some y))(hl:#v[ĕ X.env.scope x])(hm:#v[ĕ X.env.scope y])(hfn:#v[X.fn x=true\/X.env.scope.names.lookup x=some .local])(hfm:#v[X.fn y=true\/X.env.scope.names.lookup y=some .local])(ok:↥((decide (ow.length<=1000) && !Z.ps.contains 1000 && [i,j].all λi=>!Z.ps.contains i && decide (i<ow.length) && (ow.getD i 0 == 0))=true))(hf: ~~~(Zfi e X.env)):CC X Z ow ow ol ox rm (.For (.Tuple [.Name x p1,.Name y p2] k pos') e sts [] pos) (mR (tO [i,j]) f u):=by
 simp![ã,Bool.not_eq_true',decide_eq_true_eq,beq_iff_eq,ç]at ok;exact LM hp hc hi (tH hc (dX (cW hN hx hl hfn) (dX (cW hN hy hm hfm) nZ))) (aFG (is:=[i,j]) ⟨ok.1.1,dE ok.1.2⟩ (λi hi=>⟨dE (ok.2 i hi).1.1,(ok.2 i hi).1.2,(ok.2 i hi).2⟩) rfl) hb hf
end
section
variable {X:Cx}{Z:bT}{ow ol ox:ZH}{rm:Nat}{pos p1:Pos}{elt iter:Expr}{ifs:List Expr}{scope:Scope}{x:Str}{fi:M (ZI)}{t:M Bool}{fe:M D}
abbrev ł(Z:bT)(ow:ZH)(n:Nat):Bool:=decide (ow.length<=1000) && !Z.ps.contains 1000 && decide ((List.replicate n 0++ow).length<=1000) && !(Z.sh n).ps.contains 1000 && (List.range n).all λi=>!(Z.sh n).ps.contains i
def gJ(x:Str)(hi:DI X Z ow (.Name x p1) iter fi)(hif:∀C fp s H,QL (aT X [x] scope C fp s H) ifs (tT (aT X [x] scope C fp s H) (Z.sh 1) (List.replicate 1 0++ow) t))(he:∀C fp s H,DE (aT X [x] scope C fp s H) (Z.sh 1) (List.replicate 1 0++ow) 0 elt fe)(nd:↥(decide ([x]++mX [x] X.N).Nodup=true))(hc:↥(X.calm=true))(ok:↥(ł Z ow 1=true))(hl:∀C fp s H,(aT X [x] scope C fp s H).env.scope.names.lookup x=some .local:=by intro _ _ _ _;rfl)(hk:↥(scope.kind=.function))(hok:↥(dS X.N [x] scope.names X.env.scope.names=true))(hfs: ~~~(Zfi iter X.env)):
  DE X Z ow 1 (.ListComp elt [⟨.Name x p1,iter,ifs,0⟩] scope pos) (dP 1 (dY 0) fi t fe):=by
 simp![ł,ã,Bool.not_eq_true',decide_eq_true_eq,ç,List.mem_range]at ok;exact rR (xs:=[x]) ⟨ok.1.1.1.1,dE ok.1.1.1.2⟩ ⟨ok.1.1.2,dE ok.1.2⟩ hc hi (λC fp s H=>cW (i:=0) (of_decide_eq_true nd) rfl (Or.inl (hl C fp s H)) (Or.inr (hl C fp s H))) (m7 ⟨ok.1.1.2,dE ok.1.2⟩ (Ċ _) (dE (ok.2 0 ⋯)) (Ċ _) rfl) hif he hk hok hfs
def fI(i:Nat)(x:Str){z:Str}{pos' spos:Pos}(hN:X.N.Nodup)(hi:DI X Z ow (.Name x p1) iter fi)(hif:∀C fp s H,QL (aT X [x] scope C fp s H) ifs (tT (aT X [x] scope C fp s H) (Z.sh 1) (List.replicate 1 0++ow) t))(he:∀C fp s H,DE (aT X [x] scope C fp s H) (Z.sh 1) (List.replicate 1 0++ow) 0 elt fe)(nd:↥(decide ([x]++mX [x] X.N).Nodup=true))(hc:↥(X.calm=true))(ok:↥(ł Z ow 1=true))(hl:∀C fp s H,(aT X [x] scope C fp s H).env.scope.names.lookup x=some .local:=by intro _ _ _ _;rfl)(hx:↥(X.N[i]?=some z))(hz:↥(X.env.scope.names.lookup z=some .local))(hps:↥(Z.ps.contains i=false))(hlo:⇑(i<ow.length))(hsw:↥(swapsWith (.ListComp elt [⟨.Name x p1,iter,ifs,0⟩] scope pos) (some (.Name z pos')) spos.line X.env=pure true))(hk:↥(scope.kind=.function))(hok:↥(dS X.N [x] scope.names X.env.scope.names=true))(hfs: ~~~(Zfi iter X.env)):
  CC X Z ow (ow.set i 1) ol ox rm (.Assign [.Name z pos'] (.ListComp elt [⟨.Name x p1,iter,ifs,0⟩] scope pos) spos) (jU i (dP 1 (dY 0) fi t fe)):=by
 simp![ł,ã,Bool.not_eq_true',decide_eq_true_eq,ç,List.mem_range]at ok;exact lY i (xs:=[x]) ⟨ok.1.1.1.1,dE ok.1.1.1.2⟩ ⟨ok.1.1.2,dE ok.1.2⟩ hc hN hi (λC fp s H=>cW (i:=0) (of_decide_eq_true nd) rfl (Or.inl (hl C fp s H)) (Or.inr (hl C fp s H))) (m7 ⟨ok.1.1.2,dE ok.1.2⟩ (Ċ _) (dE (ok.2 0 ⋯)) (Ċ _) rfl) hif he hx hz hps hlo hsw hk hok hfs
end
section
variable {K:ZC}{X:Cx}{Z:bT}{ow:ZH}{n:Nat}{pos:Pos}{F H H':Hp}{σ:St}{δ:DS}{g:ZP}
def IH(g:ZP)(F H:Hp):Hp:=λb=>open Classical in if ∃l,g b=some l then (if F b=none then H b else F b)else F b
def FR:aI F (IH g F H):=λb o e=>by
 unfold IH;split
 .rw[Ã (by rw[e];simp)];exact e
 .exact e
def ZY(hs:aI F H):aI (IH g F H) H:=λb o e=>by
 unfold IH at e;split at e
 .split at e
  .exact e
  .exact hs b o e
 .exact hs b o e
def bC.freezeA(r:bC K F H g i n p d v):bG K (IH g F H) d v:=
 iC.froze FR (λa p o e1 e2 e3=>by unfold IH;rw[Â ⟨_,e1⟩,Â e3];exact e2) r
def bU.grow(R:bU K Z ow g F H σ δ)(h:aI H H'):bU K Z ow g F H' σ δ:=
 ⟨R.sub.trans' h,R.f0,λb o n e=>h b o (R.kept b o n e),R.new,λb z=>by
  cases e:H b with
  |none=>exact absurd e (R.there b z)
  |some o=>rw[h b o e];simp,R.lab,R.len,R.par,λi d e=>by
  let⟨v,e1,o⟩:=R.slot i d e;exact⟨v,e1,o.mono (λ_ _ z=>z) (λ_ _ _ z=>z) (λ_ _ _ _ z=>z) λa l ob _ _ z=>h a ob z⟩⟩
def SQ(h:IG d=some x)(r:bG K F d v):bG K F' d v:=by
 let⟨rfl,_⟩:=vU h r;cases d with
 |int i=>cases h;exact eU
 |bool b=>cases h;exact iP
 |str z=>cases h;exact RV
 |none=>cases h;exact CI
 |_=>cases h
def fV(F H:Hp)(σ:St)(m:Nat):bT:=⟨F,H,λ_=>none,[],σ,List.replicate m 0,λ_ _ _ e=>by cases e⟩
def iW:'j'.getD i 0=0:=by
 rw[Ê,ą];split<;>rfl
def bU.bor(R:bU K Z ow g F H σ δ):cN K (fV (IH g F H) H σ m) 'j' (IH g F H) H σ δ:=
 ⟨λ_=>none,ZY R.sub,⟨R.f0.lm.mono FR,λ_ _ z=>z⟩,λ_ _ _ e=>e,λ_ h _=>h,λ_ h=>h,λ_ _ _ e=>(by cases e),R.len,λi hi=>(by cases hi),λi d e=>by
  let⟨v,e1,o⟩:=R.slot i d e;refine⟨v,e1,?_⟩;rw[iW];exact o.freezeA⟩
def OO(f:M D):M D:=λδ=>match f δ with
 |.ok d _=>(match IG d with|some _=>.ok d δ|none=>.stuck)
 |_=>.stuck
def LR(f:M Bool):M Bool:=λδ=>match f δ with
 |.ok b _=>.ok b δ
 |_=>.stuck
def m8(m:Nat)(h:∀F H σ,DE X (fV F H σ m) 'j' 0 e f):DE X Z ow 0 e (OO f):=λU s σ H Q I q=>by
 let⟨F,δ,⟨g,R⟩,q⟩:=q;unfold OO at q;refine h (IH g F H) H σ U s σ H Q I ⟨IH g F H,δ,R.bor,?_⟩;cases e1:f δ with
 |stuck=>rw[e1]at q;sleep 5
 |err x δ1=>rw[e1]at q;sleep 5
 |ok d δ1=>
  rw[e1]at q;dsimp only at q;cases e2:IG d with
  |none=>rw[e2]at q;sleep 5
  |some x=>
   rw[e2]at q;rintro v H' F' ⟨g',R',o⟩ s';exact q v H' F ⟨g,R.grow λb o e=>R'.kept b o rfl e,SQ e2 o⟩ λ_ _ z=>z
def aF3(m:Nat)(h:∀F H σ,DT X (fV F H σ m) 'j' e f):DT X Z ow e (LR f):=λU s σ H Q I q=>by
 let⟨F,δ,⟨g,R⟩,q⟩:=q;unfold LR at q;refine h (IH g F H) H σ U s σ H Q I ⟨IH g F H,δ,R.bor,?_⟩;cases e1:f δ with
 |stuck=>rw[e1]at q;sleep 5
 |err x δ1=>rw[e1]at q;sleep 5
 |ok d δ1=>
  rw[e1]at q;rintro H' F' ⟨g',R'⟩ s';exact q H' F ⟨g,R.grow λb o e=>R'.kept b o rfl e⟩ λ_ _ z=>z
def ZZ(i:Nat)(lo hi:Option (M D)):M D:=λδ=>match δ[i]? with
 |some (some _)=>(jX lo δ).bind λl δ1=>(jX hi δ1).bind λu δ2=>(match δ2[i]? with
  |some 'w'=>.ok (.list (zU ds l u)) δ2
  |_=>.stuck)
 |_=>.stuck
def SR(i:Nat){x:Str}{p p2:Pos}{lo hi:Option Expr}(S:aQ Z ow)(hl:DO X Z ow lo fl)(hu:DO X Z ow hi fh)(ho:↥(ow.getD i 0=1))(hN:↥'t')(hv:#v[AJ X.env.scope x])(hd:⇑(Zdb x))(hcd:⇑(Zcd x)):
  DE X Z ow 1 (.Subscript 'g' (.Slice lo hi none p2) pos) (ZZ i fl fh):=PE.mono (E4 rF (dQ hN hv hd hcd) hl hu) λσ H Q q=>by
 let⟨F,δ,R,q⟩:=q;unfold ZZ at q;cases e0:δ[i]? with
 |none=>rw[e0]at q;sleep 5
 |some o=>
  cases o with
  |none=>rw[e0]at q;sleep 5
  |some d0=>
   rw[e0]at q;dsimp only at q;let⟨a,ds0,vs0,q1,q2,q3,q4⟩:=R.ownAt ho e0;refine⟨_,q2,F,δ,R,?_⟩;cases e1:jX fl δ with
   |stuck=>rw[e1]at q;sleep 5
   |err y δ2=>rw[e1]at q;exact q
   |ok l δ1=>
    rw[e1]at q;simp![Res.bind]at q;intro H1 F1 R1 s1;refine⟨F1,δ1,R1,?_⟩;cases e2:jX fh δ1 with
    |stuck=>rw[e2]at q;sleep 5
    |err y δ2=>rw[e2]at q;exact iM.mono q s1
    |ok u δ2=>
     rw[e2]at q;simp![Res.bind]at q;intro H2 F2 R2 s2;cases e3:δ2[i]? with
     |none=>rw[e3]at q;sleep 5
     |some o=>
      cases o with
      |none=>rw[e3]at q;sleep 5
      |some d1=>
       rw[e3]at q;let⟨a',ds1,vs1,p1,p2,p3,p4⟩:=R2.ownAt ho e3;rw[q2]at p2;cases p2;subst p1;exact⟨a,vs1,rfl,eE.of p3,λt ht=>q _ _ F2 (R2.newList S ht (p4.cut l u)) (s1.trans' s2)⟩
end
theorem aJX(q:W.excIn.match_6 (λ_=>Bool) o f (λ_=>false)=true)(n:∀a c s,o=some ⟨.type "type",a,.cls c,s⟩->f a c s≠true):False:=by
 rcases o with _|⟨c,d,d1,s⟩
 .exact nomatch q
 cases c with
 |type m=>
  by_cases e:m="type"
  .subst e
   cases d1<;>try exact Ü q
   exact n _ _ _ rfl q
  .delta W.excIn.match_6 W.nsOkIn._sparseCasesOn_4 W.excIn._sparseCasesOn_6 at q
   dsimp only at q;rw[dif_neg e]at q;cases q
 |_=>exact Ü q
theorem aJY{l:ZJ}{k:List (ZN)}(q:W.excIn.match_1 (λ_ _=>Bool) l k f (λ_ _=>false)=true)(n:∀c m a b d e g i,l=.ref c::m->k=[a,b,d,e,some (.builtin g),i]->f c m a b d e g i≠true):False:=by
 rcases l with _|⟨v,l⟩
 .exact nomatch q
 cases v<;>try exact Ü q
 rcases k with _|⟨a,_|⟨b,_|⟨d,_|⟨e,_|⟨_|g,k⟩⟩⟩⟩⟩<;>try exact Ü q
 cases g<;>try exact Ü q
 rcases k with _|⟨i,_|⟨_,k⟩⟩<;>try exact Ü q
 exact n _ _ _ _ _ _ _ _ rfl rfl q
theorem OP{K:ZC}(X:K.In h)(q:W.excIn K C bmB newId=true){P:Prop}(w:∀bm N nm q bs hdct sn sub ab col dd k0 k1 k2 k3 k5 mN,h.get? C=some (excClassObj nm q C N bs bm hdct sn sub ab col dd k0 k1 k2 k3 k5 newId)->h.Ns N mN->mN "__init__"=none->OwnTail h bmB bm->P):P:=by
 refine ć λw1=>aJX q λdd cd sl ho q1=>aJY q1 λC' bm k0 k1 k2 k3 n k5 hm hs q=>w1 ?_;simp![ã,beq_iff_eq,Bool.not_eq_true']at q;let⟨⟨⟨⟨⟨rfl,rfl⟩,hdel⟩,ht⟩,hok⟩,hni⟩:=q;let⟨nm,bs,mro,ns,qn,hd,sn,sub,ab,col,del⟩:=cd;let⟨l⟩:=sl;cases hm;cases hs;cases hdel;exact w bm ns nm qn bs hd sn sub ab col dd k0 k1 k2 k3 k5 _ (X _ _ ho) (.of_isNs (W.isNs_of_in X hok)) (W.nsMap_none_of_in X hok hni) (W.tail_of_in X ht)
section
variable {X:Cx}{Z:bT}{ow ow' ol ox:ZH}{rm:Nat}{pos np cpos:Pos}{e:Expr}{es:List Expr}{x:Str}{C:Addr}{B newId initId:String}{bmB:ZJ}{fs:List (M D)}
def jZ(x:Str)(fs:List (M D)):M Fl:=λδ=>(aZ fs δ).bind λds δ1=>if ds.length<=1000 then .err (.str x) δ1 else .stuck
def fX(S:aQ Z ow)(FB:ExcBaseFacts B newId initId bmB)(hg:Gl X x)(hns:W.nsIn X.K mainGlobals x=some (some (.ref C)))(hmg:X.mg x=some (.ref C))(hC:W.excIn X.K C bmB newId=true)(hc:X.calm=true)(ha:DV X Z ow (e::es) fs)(hz:↥(XW Z=true))(hdb:⇑(Zdb x))(he:↥(Zse e es X.env))(hpl:↥(Zbt cpos es X.env)):
  CC X Z ow ow' ol ox rm (.Raise (some (.Call (.Name x np) (e::es) [] cpos)) none pos) (jZ x fs):=λU s σ H Dn I h=>by
 let⟨F,δ,R,h⟩:=h;unfold jZ at h;refine OP I.ok.mod.kin hC λtl N nm q bs hdct sn sub ab col dd k0 k1 k2 k3 k5 mN hC0 hN hni T=>?_;refine wpAny_Raise_call_subT (C:=C) (nm:=nm) (q:=q) (N:=N) (bs:=bs) (bm:=tl) (hdct:=hdct) (sn:=sn) (sub:=sub) (ab:=ab) (col:=col) (dd:=dd) (k0:=k0) (k1:=k1) (k2:=k2) (k3:=k3) (k5:=k5)
  FB (mN:=mN) (T.hasType FB.hasBase) (I.ok.hd hc) (by rw[he];show (false || (backTo cpos (starEach es X.env)).any (·.1))=false;rw[hpl];rfl) hni (vQ I hg hmg ⟨rfl,?_⟩ hdb)
 have hA:=ha cpos U s σ H (λvs H1=>vs.length<=1000/\∃F1 δ1,cN X.K Z ow F1 H1 σ δ1/\iM X Z ox F1 (.str x) δ1) I ⟨F,δ,R,?_⟩
 .rw[he]at hA⊢
  refine Calls.evalArgs_plain (wpAny_mono hA (λus s₂ h₂=>?_) λ_ _ y=>y);let⟨vs,H1,I1,r,hl,F1,δ1,R1,xo⟩:=h₂;refine⟨rfl,?_,I1.bk _ _ hC0,hN.keeps I1.bk,T.keeps I1.bk,λh' ea m=>?_⟩
  .show us.length<=sizeLine
   rw[<- r.length];exact Ø hl ⋯
  .obtain⟨t,q1,q2,q3⟩:=m.there
   have I2:Inv X U σ H1 {s₂ with heap:=h'}:=I1.kept (t':=s₂.toks) m.keeps;let⟨F2,s2,R2⟩:=R1.toP hz;refine xo.out U _ _ ⟨x,H1,F2,σ,rfl,I2,R2,s2,ea,.ref C,[ea],rfl,hns,⟨_,_,q1,⟨rfl,rfl⟩,rfl,(by show 1<6;decide),.inl ⟨rfl,rfl⟩⟩,λb hb=>?_⟩;simp![Ë,Û,or_false]at hb;subst hb;exact uV.of I1 (I1.hok.none m.new) m.new
 .cases e1:aZ fs δ with
  |stuck=>rw[e1]at h;exact h.elim
  |err y δ1=>rw[e1]at h;exact iM.cast h
  |ok ds δ1=>
   rw[e1]at h;sleep 8;intro vs H' F' R' s' ra;by_cases hl:ds.length<=1000
   .rw[Â hl]at h
    exact⟨by rw[<- ra.len];exact hl,F',δ1,R',iM.mono h s'⟩
   .rw[Ã hl]at h;exact h.elim
end
section
variable {K:ZC}{Z:bT}{ow ow':ZH}{g:ZP}{F H F1 H1:Hp}{σ σ1:St}{δ δ1:DS}
def bT.sub(ps:ZH)(g:ZP)(F H:Hp)(σ:St)(ow:ZH):bT:=
 ⟨F,H,IF ps g,ps,σ,ow,λa i q e=>by
  unfold IF at e
  simp_all⟩
def bU.enter(R:bU K Z ow g F H σ δ)(h:∀i,i∉ps->ow.getD i 0=0):bU K (bT.sub ps g F H σ ow) ow (IF ps g) F H σ δ:=by
 refine⟨R.sub,⟨R.f0.lm,λ_ _ z=>z⟩,λ_ _ _ z=>z,λ_ z _=>z,λ_ z=>z,λa i p e=>.inr ⟨p,e⟩,R.len,λi _=>⟨rfl,rfl⟩,λi d e=>?_⟩;let⟨v,e1,o⟩:=R.slot i d e;refine⟨v,e1,?_⟩;by_cases hi:i∈ps
 .refine o.mono (λ_ _ z=>z) (λa l hl e=>?_) (λ_ _ _ _ z=>z) λ_ _ _ _ _ z=>z
  unfold IF;rw[Ã]
  .exact e
  .rintro⟨j,p,e2,hj⟩
   rw[e]at e2;cases e2;exact hj (by rw[show j=i from hl];exact hi)
 .rw[h i hi]at o⊢
  exact o
def bU.leave(R:bU K Z ow g F H σ δ)(hps:∀i∈Z.ps,i∈ps)(R1:bU K (bT.sub ps g F H σ ow) ow' g1 F1 H1 σ1 δ1):bU K Z ow' g1 F1 H1 σ1 δ1:=by
 have gl:∀a i q,IF ps g a=some (i,q)->g a=some (i,q):=λa i q e=>by
  unfold IF at e
  simp_all
 refine⟨R1.sub,R.f0.trans' R1.f0.2,λb o n e=>R1.kept b o ?_ (R.kept b o n e),λa z1 z2=>R1.new a (R.new a z1 z2) (R.there a z2),λb z=>R1.there b (R.there b z),λa i p e=>?_,R1.len,λi hi=>?_,R1.slot⟩
 .show IF ps g b=none
  cases q:IF ps g b with
  |none=>rfl
  |some l=>
   let⟨i,p⟩:=l;rcases R.lab b i p (gl b i p q)with z|⟨q',z⟩
   all_goals grind
 .rcases R1.lab a i p e with z|⟨q,z⟩
  .refine .inl ?_
   cases q:Z.H0 a with
   |none=>rfl
   |some o=>exact absurd z (R.there a (by rw[q];simp))
  .exact R.lab a i q (gl a i q z)
 .obtain⟨p1,p2⟩:=R1.par i (hps i hi)
  let⟨p3,p4⟩:=R.par i hi;exact⟨p1.trans p3,p2.trans p4⟩
end
section
end
section
end
end L2
namespace L2
open PySem PySem.Spec PyProof.Rows PySem.W
structure Z0(K:Frag)(C:Addr):Prop where
 ga:findIn K (.ref C) "__getattribute__"=some (some (.builtin "BaseException.__getattribute__"))
 gn:findIn K (.ref C) "__getattr__"=some none
 ca:findIn K (.ref C) "__class__"=some (some (.builtin "object.__class__"))
 cl:(clsIn K C).isSome=true
 cg:specialIn K (.builtin "object.__class__") "__get__"=some (some (.builtin "getset_descriptor.__get__"))
 tk:takesIn K (.builtin "object.__class__")=some true
 ob:mroIn K C (.type "object")=some true
 be:mroIn K C (.type "BaseException")=some true
section
end
end L2
namespace L2
open PySem PySem.Spec PyProof.Rows
section
end
section
variable {X:Cx}{U:ZB}{σ:St}{H:Hp}{s:Shared}{h':Heap}
def Inv.turns{ch:ZM}(I:Inv X U σ H s)(k:∀b o,b∉ch->s.heap.get? b=some o->h'.get? b=some o)(hc:∀b∈ch,vH X U H b):
  Inv X U σ H {s with heap:=h',toks:=t'}:=by
 have off:∀b u,H b=some u->b∉ch:=λb u e z=>by have:=(hc b z).1;rw[this]at e;cases e
 refine I.step (g':=s.gens) (d':=s.drawn) (ch:=ch) (λb hb=>⟨(hc b hb).2.2.2.1,(hc b hb).2.1,(hc b hb).2.2.2.2.1,(hc b hb).2.2.2.2.2⟩) (λb o _ _ n e _=>k b o n e) (λb o _ _ n e _=>⟨o.slots,k b o n e⟩)
  (λb o n e z=>z) (λb o n e=>⟨o,k b o n e⟩) (λb ys e=>e) (λb o u e=>e) (λb ps e=>⟨#[],by rw[e];simp⟩) (λm hm=>?_) (λb u e=>?_) I.bare
 .obtain⟨o,es,ep,ho,q⟩:=hm
  exact⟨o,es,ep,k _ o (λz=>(hc _ z).2.1 rfl) ho,q⟩
 .refine(I.hok b u e).stay (λc v z q=>k c v ?_ q) (λc q=>q) λc ys q=>q
  grind
def Inv.pair{ch:ZM}(I:Inv X U σ H s)(k:∀b o,b∉ch->s.heap.get? b=some o->h'.get? b=some o)(hc:∀b∈ch,vH X U H b)(hT:s.heap.objs.size<=T)(hz:xs.length<=sizeLine)(r:bI xs us)(ht:IsTup h' T us.toArray):
  Inv X U σ (bA H T (.tup xs)) {s with heap:=h',toks:=t'}:=by
 have fT:H T=none:=I.hok.fresh hT;have off:∀b u,H b=some u->b∉ch:=λb u e z=>by have:=(hc b z).1;rw[this]at e;cases e
 have neT:∀b u,H b=some u->b≠T:=λb u e=>bK e fT;refine I.step (g':=s.gens) (d':=s.drawn) (ch:=ch) (λb hb=>⟨(hc b hb).2.2.2.1,(hc b hb).2.1,(hc b hb).2.2.2.2.1,(hc b hb).2.2.2.2.2⟩) (λb o _ _ n e _=>k b o n e) (λb o _ _ n e _=>⟨o.slots,k b o n e⟩)
  (λb o n e z=>?_) (λb o n e=>⟨o,k b o n e⟩) (λb ys e=>?_) (λb o u e=>?_) (λb ps e=>⟨#[],?_⟩) (λm hm=>?_) (λb u e=>?_) I.bare
 .rw[aF (Í (Ö 'y' hT))];exact z
 .rw[aF (neT b _ e)];exact e
 .rw[aF (neT b _ e)];exact e
 .rw[aF (neT b _ e),e];simp
 .obtain⟨o,es,ep,ho,q⟩:=hm
  exact⟨o,es,ep,k _ o (λz=>(hc _ z).2.1 rfl) ho,q⟩
 .by_cases hb:b=T
  .subst hb;rw[aJ]at e;cases e;exact⟨hz,us,r,ht⟩
  .rw[aF hb]at e
   refine(I.hok b u e).stay (λc v z q=>k c v ?_ q) (λc q=>by rw[aF (neT c _ q)];exact q) λc ys q=>by rw[aF (neT c _ q)];exact q
   grind
end
def Ů(K:ZC)(a b:Addr):It:=
 ⟨λi H=>∃xs ys x y,eE K H a xs/\eE K H b ys/\xs[i]?=some x/\ys[i]?=some y,
   λi H v H'=>∃p x y,H p=none/\H'=bA H p (.tup [x,y])/\v=.ref p/\(∀xs,eE K H a xs->xs[i]?=some x)/\∀ys,eE K H b ys->ys[i]?=some y,
   λi H=>∃xs ys,eE K H a xs/\eE K H b ys/\(xs.length<=i\/ys.length<=i)⟩
structure aJZ(z p q i1 i2 a b:Addr)(i:Nat)(h:Heap):Prop where
 z0:IsZip h z p q .none
 p0:IsPair h p (.ref i1) (.ref i2)
 q0:∃u v,IsPair h q u v
 a0:h.IsListIter i1 a i
 b0:h.IsListIter i2 b i
def SU{P:Program}{w:World}{K:ZC}{es:List Expr}{n:Nat}{tp:Pos}(z p q i1 i2 a b:Addr)(D:ZipApart z p q i1 i2 a b):E0 P w K (.Tuple es n tp) (Ů K a b) [z,p,q,i1,i2] z (aJZ z p q i1 i2 a b) where
 mem:=by simp
 obj:=λi h st c hc=>by
  simp![Ë,Û,or_false]at hc;rcases hc with rfl|rfl|rfl|rfl|rfl
  .exact⟨_,st.z0,λv e=>by cases e⟩
  .exact⟨_,st.p0,λv e=>by cases e⟩
  .obtain⟨u,v,e⟩:=st.q0
   grind
  .obtain⟨o,e,_,d⟩:=st.a0
   grind
  .obtain⟨o,e,_,d⟩:=st.b0
   grind
 keep:=λi h h' st k=>⟨k z 'e' _ st.z0,k p 'e' _ st.p0,by
  let⟨u,v,e⟩:=st.q0
  grind,st.a0.at λo e=>k i1 'e' o e,st.b0.at λo e=>k i2 'e' o e⟩
 item:=by
  sleep 2;let⟨xs,ys,x,y,hx,hy,ex,ey⟩:=hg;let⟨ia,ra,pa,_⟩:=I.list hx;let⟨ib,rb,pb,_⟩:=I.list hy;let⟨u,hu,ru⟩:=ra.get ex;let⟨v,hv,rv⟩:=rb.get ey;let⟨c1,c2,hq⟩:=st.q0;refine wpAny_pyNext_zip_item D st.z0 st.p0 hq st.a0 st.b0 pa.isList pb.isList (x:=u) (y:=v) (by simpa using hu) (by simpa using hv) λh1 e1 e2 e3 e4 e5 e6 k1=>⟨_,rfl,?_⟩;refine wpAny_letOwnedTupleGo_zip (s:={s with heap:=h1}) e1 λh2 f1 f2=>?_;have hT:s.heap.objs.size≠z:=ß (Heap.lt_size st.z0);have tup:IsTup h2 s.heap.objs.size #[u,v]:=⟨_,f2.extBut _ _ hT e5,rfl,_,rfl⟩;have kk:∀c o,c∉[z,q,i1,i2]->s.heap.get? c=some o->h2.get? c=some o:=λc o n e=>by
   simp![Ë,Û,or_false,not_or]at n;exact f2.extBut _ _ n.1 (k1 c o n.1 n.2.1 n.2.2.1 n.2.2.2 e)
  have fp:∀c∈[z,q,i1,i2],vH X U H c:=λc hc=>hf c (by
   grind)
  have I2:Inv X U σ (bA H s.heap.objs.size (.tup [x,y])) {s with heap:=h2,toks:=s.toks}:=I.pair (us:=[u,v]) kk fp (Ç _) (show 2<=sizeLine by decide) (.cons ru (.cons rv .nil)) tup;refine⟨.ref s.heap.objs.size,_,I2,rfl,⟨_,x,y,I.hok.fresh (Ç _),rfl,rfl,λxs' h=>by rw[I.list_inj h hx];exact ex,λys' h=>by rw[I.list_inj h hy];exact ey⟩,⟨f1,f2.extBut _ _ D.TIz (k1 _ _ D.TIz D.TITO D.TIi1 D.TIi2 st.p0),⟨_,_,f2.extBut _ _ D.TOz e2⟩,e3.extBut f2.extBut D.i1z,e4.extBut f2.extBut D.i2z⟩,λc hc=>?_⟩
  rw[aF]
  .exact(hf c hc).1
  .intro z0
   simp![Ë,Û,or_false]at hc;have lt:∀{c o},s.heap.get? c=some o->c≠s.heap.objs.size:=λe=>Í 'y';let⟨o1,g1,_⟩:=st.a0;let⟨o2,g2,_⟩:=st.b0;rcases hc with rfl|rfl|rfl|rfl|rfl
   .exact lt st.z0 z0
   .exact lt st.p0 z0
   all_goals grind
 done:=by
  sleep 2;let⟨xs,ys,hx,hy,hl⟩:=hg;let⟨ia,ra,pa,_⟩:=I.list hx;let⟨ib,rb,pb,_⟩:=I.list hy;let⟨c1,c2,hq⟩:=st.q0;have la:=ra.length;have lb:=rb.length;refine wpAny_pyNext_zip_end (I.ok.hd hc) D st.z0 st.p0 hq st.a0 st.b0 pa.isList pb.isList ?_ λh1 k1=>⟨rfl,I.turns (t':=s.toks) (ch:=[z,q,i1,i2]) (λc o n e=>?_) λc hc=>hf c ?_⟩
  all_goals grind
 self:=λ_ _ _ _ _ st h=>wpAny_pyIter_zip st.z0 h
section
def aNH(K:ZC)(ta:TA):TI:=λσ H R=>ta σ H λvs H1=>∃a b,vs=[.ref a,.ref b]/\(∃xs,eE K H1 a xs)/\(∃ys,eE K H1 b ys)/\R (Ů K a b) H1
def aF4{es:List Expr}{n:Nat}{tp p pos:Pos}(hg:Gl X "zip")(hm:X.mg "zip"=none)(ha:PA X [a,b] ta)(hs:↥(starEach [a,b] X.env=[(false,eval a X.env),(false,eval b X.env)]))(hs2:↥(starEach [b] X.env=[(false,eval b X.env)])):
  PI X (.Tuple es n tp) (.Call (.Name "zip" p) [a,b] [] pos) (aNH X.K ta):=by
 intro U s σ H R I h;refine Call_ (iK I hg hm boot_zip (callWith_type1 (cM (ha pos U s σ H _ I h) λus s1 zQ=>?_) (by rw[hs,hs2]) (by rw[hs2];rfl)));let⟨vs,H1,I1,r1,q1⟩:=zQ;let⟨l,m,e,⟨xs,hx⟩,⟨ys,hy⟩,q⟩:=q1;subst e;cases r1 with
 |cons r rr=>
  cases rr with
  |cons r' rr=>
   cases rr;cases r;cases r';let⟨ia,ra,pa,_⟩:=I1.list hx;let⟨ib,rb,pb,_⟩:=I1.list hy;refine call_zip_2 pa.isList pb.isList λh1 z1 z2 z3 z4 z5 sz kk=>wpAny_pyIter_zip (s:={s1 with heap:=h1}) z1 ?_;have la:l<s1.heap.objs.size:=by let⟨o,n,e,_⟩:=pa;exact Heap.lt_size e
   have lb:m<s1.heap.objs.size:=by let⟨o,n,e,_⟩:=pb;exact Heap.lt_size e
   have ge:∀c∈[s1.heap.objs.size+4,s1.heap.objs.size+2,s1.heap.objs.size+3,s1.heap.objs.size,s1.heap.objs.size+1],s1.heap.objs.size<=c:=λc hc=>by
    grind
   refine⟨_,_,_,_,H1,rfl,I1.kept (t':=s1.toks) kk,SU _ _ _ _ _ l m ?_,⟨z1,z2,⟨_,_,z3⟩,z4,z5⟩,λc hc=>I1.fpOk (ge c hc) (I1.hok.fresh (ge c hc)),q⟩;have la:@LT.lt Nat instLTNat l s1.heap.objs.size:=la;have lb:@LT.lt Nat instLTNat m s1.heap.objs.size:=lb;constructor<;>(grind)
end
def iE(as bs:ZI):ZI:=List.zipWith (λa b=>PyData.tuple [a,b]) as bs
def LS{K:ZC}{F:Hp}{p:Addr}{x y:V}{d e:D}(h:F p=some (.tup [x,y]))(rx:bG K F d x)(ry:bG K F e y):bG K F (.tuple [d,e]) (.ref p):=by
 unfold bG;refine⟨p,_,rfl,rB.of h,?_⟩;unfold aD;refine⟨_,_,rfl,rx,?_⟩;unfold aD;refine⟨_,_,rfl,ry,?_⟩;unfold aD;rfl
def Z1{K:ZC}{F:Hp}{a b:Addr}{xs ys:List V}{ds es:ZI}(hx:eE K F a xs)(hy:eE K F b ys)(rx:aD K F ds xs)(ry:aD K F es ys):QM K F (Ů K a b) (iE ds es) where
 go:=λi H s hi=>by
  have hi:i<min ds.length es.length:=by simpa[iE]using hi
  have l1:=rx.len;have l2:=ry.len;exact⟨xs,ys,xs[i]'∅,ys[i]'∅,s.seq hx,s.seq hy,É _,É _⟩
 yld:=λi H v H' d s y e=>by
  let⟨p,x,y,hp,rfl,rfl,q1,q2⟩:=y;have hi:=(Ð.mp e).1;have hi:i<min ds.length es.length:=by simpa[iE]using hi
  have e1:ds[i]?=some ds[i]:=É ∅;have e2:es[i]?=some es[i]:=É ∅;have ee:(iE ds es)[i]?=some (.tuple [ds[i],es[i]]):=by unfold iE;rw[List.getElem?_zipWith,e1,e2]
  rw[ee]at e;cases e;let⟨x',f1,g1⟩:=rx.get e1;let⟨y',f2,g2⟩:=ry.get e2;have:=q1 xs (s.seq hx);rw[f1]at this;cases this;have:=q2 ys (s.seq hy);rw[f2]at this;cases this;refine .inr ⟨p,_,hp,rfl,λF2 s2 n=>LS aJ ?_ ?_⟩
  .exact(s2.trans' (cI n _)).rep _ _ g1
  .exact(s2.trans' (cI n _)).rep _ _ g2
 stop:=λH s=>⟨xs,ys,s.seq hx,s.seq hy,by
  have l1:=rx.len;have l2:=ry.len;simp![iE,List.length_zipWith];lia⟩
def vM(f g:M D):M (ZI):=λδ=>(aZ [f,g] δ).bind λds δ1=>match ds with
 |[.list as,.list bs]=>.ok (iE as bs) δ1
 |_=>.stuck
section
def tX{es:List Expr}{n:Nat}{tp p2 p3:Pos}(hgl:Gl X "zip")(hm:X.mg "zip"=none)(ha:DE X Z ow 0 a f)(hb:DE X Z ow 0 b g)(hst:↥(starEach [a,b] X.env=(false,eval a X.env)::starEach [b] X.env))(hst2:↥(Zse b [] X.env)):
  DI X Z ow (.Tuple es n tp) (.Call (.Name "zip" p2) [a,b] [] p3) (vM f g):=
 (aF4 hgl hm (aE ha (aE hb aV hst2) hst) (hst.trans (by rw[hst2];rfl)) hst2).mono λσ H R q=>by
  let⟨F,δ,Rl,q⟩:=q;unfold vM at q;refine⟨F,δ,Rl,?_⟩;cases e1:aZ [f,g] δ with
  |stuck=>rw[e1]at q;sleep 5
  |err x δ1=>rw[e1]at q;exact q
  |ok ds δ1=>
   rw[e1]at q;simp![Res.bind]at q;intro vs H1 F1 R1 s1 ra;split at q
   .rename_i as bs
    unfold aD at ra;let⟨x,t,rfl,rx,ra⟩:=ra;unfold aD at ra;let⟨y,t,rfl,ry,ra⟩:=ra;unfold aD at ra;subst ra;let⟨l,xs,rfl,hx,rx⟩:=kL rx;let⟨m,ys,rfl,hy,ry⟩:=kL ry;exact⟨l,m,rfl,⟨xs,R1.sub.seq hx⟩,⟨ys,R1.sub.seq hy⟩,q _ H1 F1 R1 s1 (Z1 hx hy rx ry)⟩
   .sleep 5
end
def ů(K:ZC)(a:Addr):It:=
 ⟨λi H=>∃xs x,eE K H a xs/\xs[i]?=some x,
   λi H v H'=>∃p x,H p=none/\H'=bA H p (.tup [.int i,x])/\v=.ref p/\∀xs,eE K H a xs->xs[i]?=some x,
   λi H=>∃xs,eE K H a xs/\xs.length<=i⟩
structure aF5(e it a:Addr)(i:Nat)(h:Heap):Prop where
 e0:∃old,IsEnum h e it (i:Int) old
 a0:h.IsListIter it a i
def OQ{P:Program}{w:World}{K:ZC}{es:List Expr}{n:Nat}{tp:Pos}(e it a:Addr)(hne:e≠it):E0 P w K (.Tuple es n tp) (ů K a) [e,it] e (aF5 e it a) where
 mem:=by simp
 obj:=λi h st c hc=>by
  simp![Ë,Û,or_false]at hc;rcases hc with rfl|rfl
  .obtain⟨o,x⟩:=st.e0
   exact⟨_,x,λv e=>by cases e⟩
  .obtain⟨o,e,_,d⟩:=st.a0
   exact⟨o,e,λv x=>by rw[d]at x;cases x⟩
 keep:=λi h h' st k=>⟨by
  let⟨o,x⟩:=st.e0;exact⟨o,k e 'e' _ x⟩,st.a0.at λo x=>k it 'e' o x⟩
 item:=by
  sleep 2;let⟨xs,x,hx,ex⟩:=hg;let⟨ia,ra,pa,_⟩:=I.list hx;let⟨u,hu,ru⟩:=ra.get ex;let⟨old,he⟩:=st.e0;refine wpAny_pyNext_enum_item he st.a0 pa.isList (x:=u) (by simpa using hu) hne λh1 e1 e2 e3 e4 k1=>⟨_,rfl,?_⟩;refine wpAny_letOwnedTupleGo_enum (s:={s with heap:=h1,toks:=s.toks+1}) e1 λh2 f1 f2=>?_;have hT:s.heap.objs.size≠e:=ß (Heap.lt_size he);have tup:IsTup h2 s.heap.objs.size #[.int i s.toks,u]:=⟨_,f2.extBut _ _ hT e3,rfl,_,rfl⟩;have kk:∀c o,c∉[e,it]->s.heap.get? c=some o->h2.get? c=some o:=λc o n x=>by
   simp![Ë,Û,or_false,not_or]at n;exact f2.extBut _ _ n.1 (k1 c o n.1 n.2 x)
  have I2:Inv X U σ (bA H s.heap.objs.size (.tup [.int i,x])) {s with heap:=h2,toks:=s.toks+1}:=I.pair (us:=[.int i s.toks,u]) kk hf (Ç _) (show 2<=sizeLine by decide) (.cons ⟨_,rfl⟩ (.cons ru .nil)) tup;refine⟨.ref s.heap.objs.size,_,I2,rfl,⟨_,x,I.hok.fresh (Ç _),rfl,rfl,λxs' h=>by rw[I.list_inj h hx];exact ex⟩,⟨⟨_,by simpa using f1⟩,e2.extBut f2.extBut hne.symm⟩,λc hc=>?_⟩;rw[aF]
  .exact(hf c hc).1
  .intro z0
   simp![Ë,Û,or_false]at hc;have lt:∀{c o},s.heap.get? c=some o->c≠s.heap.objs.size:=λe=>Í 'y';let⟨o1,g1,_⟩:=st.a0;rcases hc with rfl|rfl
   .exact lt he z0
   .exact lt g1 z0
 done:=by
  sleep 2;let⟨xs,hx,hl⟩:=hg;let⟨ia,ra,pa,_⟩:=I.list hx;let⟨old,he⟩:=st.e0;have la:=ra.length;refine wpAny_pyNext_enum_end (I.ok.hd hc) he st.a0 pa.isList (Array.getElem?_eq_none (by simp;lia)) λh1 k1=>⟨rfl,I.turns (t':=s.toks) (ch:=[e,it]) (λc o n x=>?_) hf⟩;simp![Ë,Û,or_false,not_or]at n;exact k1 c o n.2 x
 self:=λ_ _ _ _ _ st h=>by
  let⟨old,he⟩:=st.e0;exact wpAny_pyIter_enum he h
section
def aJ0(K:ZC)(ta:TA):TI:=λσ H R=>ta σ H λvs H1=>∃a,vs=[.ref a]/\(∃xs,eE K H1 a xs)/\R (ů K a) H1
def Z2(hg:Gl X "enumerate")(hm:X.mg "enumerate"=none)(ha:PA X [a] ta)(hs:↥(starEach [a] X.env=[(false,eval a X.env)])):
  PI X (.Tuple es n tp) (.Call (.Name "enumerate" p) [a] [] pos) (aJ0 X.K ta):=by
 intro U s σ H R I h;refine Call_ (iK I hg hm boot_enumerate (callWith_type1 (cM (ha pos U s σ H _ I h) λus s1 zQ=>?_) hs rfl));let⟨vs,H1,I1,r1,q1⟩:=zQ;let⟨l,e,⟨xs,hx⟩,q⟩:=q1;subst e;cases r1 with
 |cons r rr=>
  cases rr;cases r;let⟨ia,ra,pa,_⟩:=I1.list hx;refine call_enumerate_list pa.isList λh1 z1 z2 sz kk=>wpAny_pyIter_enum (s:={s1 with heap:=h1}) z1 ?_;have ge:∀c∈[s1.heap.objs.size+1,s1.heap.objs.size],s1.heap.objs.size<=c:=λc hc=>by
   simp![Ë,Û,or_false]at hc;rcases hc with rfl|rfl<;>lia
  exact⟨_,_,_,_,H1,rfl,I1.kept (t':=s1.toks) kk,OQ _ _ l (show ¬(s1.heap.objs.size+1=s1.heap.objs.size) by lia),⟨⟨_,z1⟩,z2⟩,λc hc=>I1.fpOk (ge c hc) (I1.hok.fresh (ge c hc)),q⟩
end
def eV(ds:ZI):ZI:=ds.mapIdx λi d=>PyData.tuple [.int i,d]
def SV{K:ZC}{F:Hp}{a:Addr}{xs:List V}{ds:ZI}(hx:eE K F a xs)(rx:aD K F ds xs):QM K F (ů K a) (eV ds) where
 go:=λi H s hi=>by
  have hi:i<ds.length:=by simpa[eV]using hi
  have l1:=rx.len;exact⟨xs,xs[i]'(by exact ú ‹_› ‹_›),s.seq hx,É _⟩
 yld:=λi H v H' d s y e=>by
  let⟨p,x,hp,rfl,rfl,q1⟩:=y;have hi:=(Ð.mp e).1;have hi:i<ds.length:=by simpa[eV]using hi
  have e1:ds[i]?=some ds[i]:=É hi;have ee:(eV ds)[i]?=some (.tuple [.int i,ds[i]]):=by unfold eV;rw[List.getElem?_mapIdx,e1];rfl
  rw[ee]at e;cases e;let⟨x',f1,g1⟩:=rx.get e1;have:=q1 xs (s.seq hx);rw[f1]at this;cases this;exact .inr ⟨p,_,hp,rfl,λF2 s2 n=>LS aJ eU ((s2.trans' (cI n _)).rep _ _ g1)⟩
 stop:=λH s=>⟨xs,s.seq hx,by
  have l1:=rx.len;simp![eV,List.length_mapIdx];lia⟩
def xC(f:M D):M (ZI):=λδ=>(aZ [f] δ).bind λds δ1=>match ds with
 |[.list as]=>.ok (eV as) δ1
 |_=>.stuck
section
def gX(hgl:Gl X "enumerate")(hm:X.mg "enumerate"=none)(ha:DE X Z ow 0 a f)(hst:↥(Zse a [] X.env)):
  DI X Z ow (.Tuple es n tp) (.Call (.Name "enumerate" p2) [a] [] p3) (xC f):=
 (Z2 hgl hm (aE ha aV hst) hst).mono λσ H R q=>by
  let⟨F,δ,Rl,q⟩:=q;unfold xC at q;refine⟨F,δ,Rl,?_⟩;cases e1:aZ [f] δ with
  |stuck=>rw[e1]at q;sleep 5
  |err x δ1=>rw[e1]at q;exact q
  |ok ds δ1=>
   rw[e1]at q;simp![Res.bind]at q;intro vs H1 F1 R1 s1 ra;split at q
   .rename_i as
    unfold aD at ra;let⟨x,t,rfl,rx,ra⟩:=ra;unfold aD at ra;subst ra;let⟨l,xs,rfl,hx,rx⟩:=kL rx;exact⟨l,rfl,⟨xs,R1.sub.seq hx⟩,q _ H1 F1 R1 s1 (SV hx rx)⟩
   .sleep 5
def aF6:bootBuiltins "sum"=some (.builtin "sum"):=by decide +kernel
def FS(hg:Gl X x)(hm:∃a o t u n,X.mg x=some (.ref a)/\X.K.lookup a=some o/\o.cls=.type "tuple"/\o.data=.seq #[.int i t,.int j u] n)(hd:⇑(Zdb x)):DE X Z ow 0 (.Name x pos) (dC (.tuple [.int i,.int j])):=by
 let⟨a,o,t,u,n,hm,hk,hc,hs⟩:=hm;exact kG (K2 hg hm (v:=.ref a) rfl hd) λF=>by
  unfold bG;refine⟨a,[.int i,.int j],rfl,.inr ⟨o,_,n,hk,hc,hs,(show 2<=sizeLine by decide),.cons ⟨t,rfl⟩ (.cons ⟨u,rfl⟩ .nil)⟩,?_⟩;unfold aD;refine⟨_,_,rfl,eU,?_⟩;unfold aD;refine⟨_,_,rfl,eU,?_⟩;unfold aD;rfl
end
section
end
section
end
section
end
abbrev zA(h:Heap)(l1:Addr):Heap:=h.push {cls:=.type "list_iterator",data:=.fields #[.ref l1,.int 0 0]}
abbrev zB(h:Heap)(l1 l2:Addr):Heap:=(zA h l1).push {cls:=.type "tuple_iterator",data:=.fields #[.ref l2,.int 0 0]}
abbrev zC(h:Heap)(l1 l2:Addr):Heap:=(zB h l1 l2).push {cls:=.type "tuple",data:=.seq #[.ref h.objs.size,.ref (zA h l1).objs.size]}
section
end
section
end
section
end
end L2
namespace L2
open PySem PySem.Spec
def QN(o:ZL)(δ:DS)(Q:D->ZO)(_w:Wt Q:=⟨⟩):Prop:=∃r,o=some r/\Q r δ
def CU(o:Option (ZL))(δ:DS)(Q:D->ZO)(_w:Wt Q:=⟨⟩):Prop:=∃d,o=some (some d)/\Q d δ
def Ű(i:Nat)(d:D)(δ:DS)(N:ZO)(_w:Wt N:=⟨⟩):Prop:=i<δ.length/\N (δ.set i (some d))
def A6(d:D)(δ:DS)(Q:Bool->ZO)(_w:Wt Q:=⟨⟩):Prop:=∃b,d=.bool b/\Q b δ
def ű(o:Option DS)(N:ZO)(_w:Wt N:=⟨⟩):Prop:=∃δ,o=some δ/\N δ
def Z3(o:Option (D×ZI))(i:Nat)(δ:DS)(Q:D->ZO)(_w:Wt Q:=⟨⟩):Prop:=∃ret ds',o=some (ret,ds')/\Q ret (δ.set i (some (.list ds')))
def QO:Prop:=aY (λ_=>(.stuck:Res Unit)) [] λ_ _=>bO (λ_=>.stuck) [] (λ_=>False) (λ_=>False) (λ_=>False) λ_ _=>False
def Ę:QO=False:=rfl
def Z4:Nat->D->DS->Option DS
 |_,_,[]=>none
 |0,d,_::l=>some (some d::l)
 |n+1,d,a::l=>match Z4 n d l with
  |some l=>some (a::l)
  |none=>none
def u3(o:ZL)(δ:DS)(Q:D->ZO)(_w:Wt Q:=⟨⟩):Prop:=match o with
 |some r=>Q r δ
 |none=>QO
def gK(o:Option (ZL))(δ:DS)(Q:D->ZO)(_w:Wt Q:=⟨⟩):Prop:=match o with
 |some (some d)=>Q d δ
 |_=>QO
def CV(i:Nat)(d:D)(δ:DS)(N:ZO)(_w:Wt N:=⟨⟩):Prop:=match Z4 i d δ with
 |some l=>N l
 |none=>QO
def xD(d:D)(δ:DS)(Q:Bool->ZO)(_w:Wt Q:=⟨⟩):Prop:=match d with
 |.bool b=>Q b δ
 |_=>QO
def Z5(o:Option DS)(N:ZO)(_w:Wt N:=⟨⟩):Prop:=match o with
 |some δ=>N δ
 |none=>QO
def SW(r:Res D)(is:ZH)(δ:DS)(Q:D->ZO)(_w:Wt Q:=⟨⟩):Prop:=match r with
 |.ok d os=>Q d (cL is (os.filterMap id) δ)
 |_=>QO
def SX(o:Option (ZI))(fn:ZI->Res D)(is:ZH)(δ:DS)(Q:D->ZO)(_w:Wt Q:=⟨⟩):Prop:=match o with
 |some ds=>SW (fn ds) is δ Q
 |none=>QO
def CW(o:Option (D×ZI))(i:Nat)(δ:DS)(Q:D->ZO)(_w:Wt Q:=⟨⟩):Prop:=match o with
 |some (ret,ds)=>Q ret (δ.set i 'w')
 |none=>QO
def Ų(o:Option (ZL))(i:Nat)(op:ZI->ZI->Option (D×ZI))(args:ZI)(δ:DS)(Q:D->ZO)(_w:Wt Q:=⟨⟩):Prop:=match o with
 |some 'w'=>CW (op ds args) i δ Q
 |_=>QO
def Ń(o:Option Nat)(ds:ZI)(v:D)(i:Nat)(δ:DS)(N:ZO)(_w:Wt N:=⟨⟩):Prop:=match o with
 |some j=>N (δ.set i (some (.list (ds.set j v))))
 |none=>QO
def ų(o:Option (ZL))(k v:D)(i:Nat)(δ:DS)(N:ZO)(_w:Wt N:=⟨⟩):Prop:=match o,k with
 |some 'w',.int n=>Ń (lK ds.length n) ds v i δ N
 |_,_=>QO
def iX:@u3=@QN:=by funext o δ Q w;cases o<;>simp[u3,QN,Ę]
def lZ:@gK=@CU:=by funext o δ Q w;rcases o with _|_|d<;>simp[gK,CU,Ę]
def rX:@xD=@A6:=by funext d δ Q w;cases d<;>simp[xD,A6,Ę]
def Z6:@Z5=@ű:=by funext o N w;cases o<;>simp[Z5,ű,Ę]
def LU:@CW=@Z3:=by
 funext o i δ Q w;rcases o with _|⟨r,ds⟩
 .simp[CW,Z3,Ę]
 .simp![CW,Z3]
  exact propext ⟨λq=>⟨_,_,rfl,q⟩,λ⟨_,_,h,q⟩=>by cases h;exact q⟩
def LV:∀{δ:DS}{i:Nat}{d:D},Z4 i d δ=if i<δ.length then some (δ.set i (some d))else none
 |[],i,d=>by cases i<;>rfl
 |a::l,0,d=>rfl
 |a::l,i+1,d=>by
  rw[Z4,LV (δ:=l)];by_cases h:i<l.length
  .rw[Â h,Â (show i+1<(a::l).length from Nat.succ_lt_succ h)];rfl
  .rw[Ã h,Ã (show ¬i+1<(a::l).length from λz=>h (Nat.lt_of_succ_lt_succ z))]
def aGB:@CV=@Ű:=by
 funext i d δ N w;unfold CV Ű;rw[LV];by_cases h:i<δ.length
 .simp[h]
 .simp[h,Ę]
section
variable {δ:DS}{N:ZO}
def μ:u3 (some r) δ Q=Q r δ:=rfl
def aJ2:gK (some (some d)) δ Q=Q d δ:=rfl
def aGC{Q:Bool->ZO}:xD (.bool b) δ Q=Q b δ:=rfl
def k_set:Z5 (some δ) N=N δ:=rfl
def k_fill:SX (some ds) fn is δ Q=SW (fn ds) is δ Q:=rfl
def aGD{os:DS}:SW (.ok d os) [] δ Q=Q d δ:=rfl
def aGE:SW (.ok d [some e]) [i] δ Q=Q d (δ.set i (some e)):=rfl
def aJ3:Ų (some 'w') i op args δ Q=CW (op ds args) i δ Q:=rfl
def ν:CW (some (r,ds)) i δ Q=Q r (δ.set i 'w'):=rfl
def ξ:ų (some 'w') (.int n) v i δ N=Ń (lK ds.length n) ds v i δ N:=rfl
def ο:Ń (some j) ds v i δ N=N (δ.set i (some (.list (ds.set j v)))):=rfl
def π:u3 (OJ (.int i) (.int j)) δ Q=(IntMulOk i j/\Q (.int (i*j)) δ):=by
 rw[iX];refine propext ⟨λzQ=>?_,λzQ=>by let⟨h,p⟩:=zQ;exact ⟨_,ZR h,p⟩⟩;let⟨r,h,p⟩:=zQ;unfold OJ iD at h;dsimp only at h;split at h
 .rename_i hc;cases h;exact⟨hc,p⟩
 .cases h
def ς{d:D}:CW (JH ds [d]) i δ Q=(ds.length<sizeLine/\Q .none (δ.set i (some (.list (ds++[d]))))):=by
 rw[LU];refine propext ⟨λzQ=>?_,λzQ=>by let⟨h,p⟩:=zQ;exact ⟨_,_,Â h,p⟩⟩;let⟨r,d2,h,p⟩:=zQ;unfold JH at h;dsimp only at h;split at h
 .rename_i hc;cases h;exact⟨hc,p⟩
 .cases h
def τ{a b:ZI}:u3 (OI (.list a) (.list b)) δ Q=(a.length+b.length<=sizeLine/\Q (.list (a++b)) δ):=by
 have e:OI (.list a) (.list b)=if a.length+b.length<=sizeLine then some (.list (a++b))else none:=rfl;rw[e];rw[iX];unfold QN;split
 .rename_i h;simp[h]
 .rename_i h;simp[h]
def aGF:CV 0 d (a0::δ) N=N (some d::δ):=rfl
def aGG:CV 1 d (a0::a1::δ) N=N (a0::some d::δ):=rfl
def aGH:CV 2 d (a0::a1::a2::δ) N=N (a0::a1::some d::δ):=rfl
def aGI:CV 3 d (a0::a1::a2::a3::δ) N=N (a0::a1::a2::some d::δ):=rfl
def aGJ:CV 4 d (a0::a1::a2::a3::a4::δ) N=N (a0::a1::a2::a3::some d::δ):=rfl
def aGK:CV 5 d (a0::a1::a2::a3::a4::a5::δ) N=N (a0::a1::a2::a3::a4::some d::δ):=rfl
def aGL:CV 6 d (a0::a1::a2::a3::a4::a5::a6::δ) N=N (a0::a1::a2::a3::a4::a5::some d::δ):=rfl
def aGM:CV 7 d (a0::a1::a2::a3::a4::a5::a6::a7::δ) N=N (a0::a1::a2::a3::a4::a5::a6::some d::δ):=rfl
def aGN:CV 8 d (a0::a1::a2::a3::a4::a5::a6::a7::a8::δ) N=N (a0::a1::a2::a3::a4::a5::a6::a7::some d::δ):=rfl
def aGO:CV 9 d (a0::a1::a2::a3::a4::a5::a6::a7::a8::a9::δ) N=N (a0::a1::a2::a3::a4::a5::a6::a7::a8::some d::δ):=rfl
def Z7:CV 10 d (a0::a1::a2::a3::a4::a5::a6::a7::a8::a9::a10::δ) N=N (a0::a1::a2::a3::a4::a5::a6::a7::a8::a9::some d::δ):=rfl
def Z8:CV 11 d (a0::a1::a2::a3::a4::a5::a6::a7::a8::a9::a10::a11::δ) N=N (a0::a1::a2::a3::a4::a5::a6::a7::a8::a9::a10::some d::δ):=rfl
def LW:CV 12 d (a0::a1::a2::a3::a4::a5::a6::a7::a8::a9::a10::a11::a12::δ) N=N (a0::a1::a2::a3::a4::a5::a6::a7::a8::a9::a10::a11::some d::δ):=rfl
def LX:CV 13 d (a0::a1::a2::a3::a4::a5::a6::a7::a8::a9::a10::a11::a12::a13::δ) N=N (a0::a1::a2::a3::a4::a5::a6::a7::a8::a9::a10::a11::a12::some d::δ):=rfl
def LY:CV 14 d (a0::a1::a2::a3::a4::a5::a6::a7::a8::a9::a10::a11::a12::a13::a14::δ) N=N (a0::a1::a2::a3::a4::a5::a6::a7::a8::a9::a10::a11::a12::a13::some d::δ):=rfl
def LZ:CV 15 d (a0::a1::a2::a3::a4::a5::a6::a7::a8::a9::a10::a11::a12::a13::a14::a15::δ) N=N (a0::a1::a2::a3::a4::a5::a6::a7::a8::a9::a10::a11::a12::a13::a14::some d::δ):=rfl
end
section
def A7:bO (eK u v) δ N B C R=bO u δ (λδ1=>bO v δ1 N B C R) B C R:=by
 refine propext ⟨λh=>?_,SL⟩;unfold bO eK at *;cases e:u δ with
 |stuck=>rw[e]at h;exact h
 |err x d=>rw[e]at h;exact h
 |ok fl d=>rw[e]at h;cases fl<;>exact h
def SY:bO AU δ N B C R=N δ:=rfl
def υ:bO (λδ=>.ok .brk δ) δ N B C R=B δ:=rfl
def SZ:bO (λδ=>.ok .cont δ) δ N B C R=C δ:=rfl
def χ:bO (jU i f) δ N B C R=aY f δ λd δ1=>CV i d δ1 N:=by
 rw[aGB];unfold bO jU aY Ű;cases f δ with
 |ok a d=>
  dsimp![Res.bind];by_cases h:i<d.length
  .rw[Â h]
   exact propext ⟨λq=>⟨h,q⟩,And.right⟩
  .rw[Ã h]
   exact propext ⟨False.elim,λq=>h q.1⟩
 |_=>rfl
def ψ:bO (wQ f) δ N B C R=aY f δ R:=by
 unfold bO wQ aY;cases f δ<;>rfl
def S1:bO (uX f) δ N B C R=aY f δ λ_ δ1=>N δ1:=by
 unfold bO uX aY;cases f δ<;>rfl
def ω:bO (m5 c u v) δ N B C R=aY c δ λb δ1=>if b=true then bO u δ1 N B C R else bO v δ1 N B C R:=by
 refine propext ⟨λh=>?_,aJV⟩;unfold bO m5 at h;unfold aY;cases e:c δ with
 |stuck=>rw[e]at h;exact h
 |err x d=>rw[e]at h;exact h
 |ok b d=>
  rw[e]at h;cases b
  .exact h
  .exact h
def ϊ{set:D->DS->Option DS}:bO (ŭ set f) δ N B C R=aY f δ λd δ1=>Z5 (set d δ1) N:=by
 rw[Z6];unfold bO ŭ aY ű;cases f δ with
 |stuck=>rfl
 |err x d=>rfl
 |ok a d=>
  simp![Res.bind];cases set a d<;>simp
def ϋ:aY (bQ i) δ Q=gK δ[i]? δ Q:=by
 rw[lZ];unfold aY bQ CU;cases δ[i]? with
 |none=>simp
 |some o=>cases o<;>simp
def ό:aY (dC d) δ Q=Q d δ:=rfl
def ύ:aY (j9 op f g) δ Q=aY f δ λa δ1=>aY g δ1 λb δ2=>u3 (op a b) δ2 Q:=by
 rw[iX];unfold aY j9 QN;cases f δ with
 |stuck=>rfl
 |err x d=>rfl
 |ok a d=>
  simp![Res.bind];cases g d with
  |stuck=>rfl
  |err x d=>rfl
  |ok b d=>dsimp only;cases op a b<;>simp
def ώ:aY (CN op f) δ Q=aY f δ λa δ1=>u3 (op a) δ1 Q:=by
 rw[iX];unfold aY CN QN;cases f δ with
 |stuck=>rfl
 |err x d=>rfl
 |ok a d=>simp![Res.bind];cases op a<;>simp
def L0{Q:ZI->ZO}:aY (aZ []) δ Q=Q [] δ:=rfl
def S3{Q:ZI->ZO}:aY (aZ (f::fs)) δ Q=aY f δ λa δ1=>aY (aZ fs) δ1 λds δ2=>Q (a::ds) δ2:=by
 unfold aY;rw[aZ];dsimp only;cases f δ with
 |stuck=>rfl
 |err x d=>rfl
 |ok a d=>
  simp![Res.bind];cases aZ fs d<;>rfl
def Ϗ:aY (OF op fs) δ Q=aY (aZ fs) δ λds δ1=>u3 (op ds) δ1 Q:=by
 rw[iX];unfold aY OF QN;cases aZ fs δ with
 |stuck=>rfl
 |err x d=>rfl
 |ok a d=>simp![Res.bind];cases op a<;>simp
def ϐ:aY (OE fs) δ Q=aY (aZ fs) δ λds δ1=>ds.length<=sizeLine/\Q (.tuple ds) δ1:=by
 unfold aY OE;cases aZ fs δ with
 |stuck=>rfl
 |err x d=>rfl
 |ok a d=>
  simp![Res.bind];split
  .rename_i z;split at z
   .rename_i h;cases z;simp[h]
   .cases z
  .rename_i z
   split at z
   .rename_i h
    exact absurd rfl (z _ _)
   .rename_i h;simp[h]
def ϑ:aY (JF fs) δ Q=aY (aZ fs) δ λds δ1=>ds.length<=sizeLine/\Q (.list ds) δ1:=by
 unfold aY JF;cases aZ fs δ with
 |stuck=>rfl
 |err x d=>rfl
 |ok a d=>
  simp![Res.bind];split
  .rename_i z;split at z
   .rename_i h;cases z;simp[h]
   .cases z
  .rename_i z
   split at z
   .rename_i h
    exact absurd rfl (z _ _)
   .rename_i h;simp[h]
def ϒ{Q:Bool->ZO}:aY (dB f) δ Q=aY f δ λa δ1=>xD a δ1 Q:=by
 rw[rX];unfold aY dB A6;cases f δ with
 |stuck=>rfl
 |err x d=>rfl
 |ok a d=>cases a<;>simp[Res.bind]
def S4{Q:Bool->ZO}:aY (pH c) δ Q=aY c δ λb δ1=>Q (!b) δ1:=by
 unfold aY pH;cases c δ<;>rfl
def S5:aY (RY f) δ Q=aY f δ λa δ1=>xD a δ1 λb δ2=>Q (.bool (!b)) δ2:=by
 rw[rX];unfold aY RY A6;cases f δ with
 |stuck=>rfl
 |err x d=>rfl
 |ok a d=>cases a<;>simp[Res.bind]
def ϓ{Q:Bool->ZO}:aY (RJ c c') δ Q=aY c δ λb δ1=>if b=true then Q true δ1 else aY c' δ1 Q:=by
 unfold aY RJ;cases c δ with
 |stuck=>rfl
 |err x d=>rfl
 |ok b d=>cases b<;>rfl
def S7{Q:Bool->ZO}:aY (FC c c') δ Q=aY c δ λb δ1=>if b=true then aY c' δ1 Q else Q false δ1:=by
 unfold aY FC;cases c δ with
 |stuck=>rfl
 |err x d=>rfl
 |ok b d=>cases b<;>rfl
def S8:aY (rQ f g) δ Q=aY f δ λa δ1=>xD a δ1 λb δ1=>if b=true then aY g δ1 Q else Q (.bool false) δ1:=by
 rw[rX];unfold aY rQ A6;cases f δ with
 |stuck=>rfl
 |err x d=>rfl
 |ok a d=>
  cases a with
  |bool b=>cases b<;>simp[Res.bind]
  |_=>simp[Res.bind]
def ϔ:aY (RZ f g) δ Q=aY f δ λa δ1=>xD a δ1 λb δ1=>if b=true then Q 'i' δ1 else aY g δ1 Q:=by
 rw[rX];unfold aY RZ A6;cases f δ with
 |stuck=>rfl
 |err x d=>rfl
 |ok a d=>
  cases a with
  |bool b=>cases b<;>simp[Res.bind]
  |_=>simp[Res.bind]
def S9:aY (fU fn as) δ Q=aY (cP as) δ λods δ1=>SX (eD δ1 as ods) fn (aW as) δ1 Q:=by
 unfold aY fU SX SW;cases cP as δ with
 |ok ods d=>
  dsimp![Res.bind];cases eD d as ods with
  |none=>rfl
  |some ds=>
   dsimp only;cases fn ds<;>rfl
 |_=>rfl
def L3{Q:List (ZL)->ZO}:aY (cP []) δ Q=Q [] δ:=rfl
def L4{Q:List (ZL)->ZO}:aY (cP (.val f::as)) δ Q=aY f δ λa δ1=>aY (cP as) δ1 λds δ2=>Q (some a::ds) δ2:=by
 unfold aY;rw[cP];dsimp only;cases f δ with
 |stuck=>rfl
 |err x d=>rfl
 |ok a d=>simp![Res.bind];cases cP as d<;>rfl
def L5{Q:List (ZL)->ZO}:aY (cP (.own j::as)) δ Q=gK δ[j]? δ λ_ δ=>aY (cP as) δ λds δ2=>Q (none::ds) δ2:=by
 rw[lZ];unfold aY CU;rw[cP];dsimp only;cases δ[j]? with
 |none=>simp
 |some o=>
  cases o with
  |none=>simp
  |some d=>
   simp![Option.some.injEq,exists_eq_left'];cases cP as δ<;>rfl
def ϕ:aY (JG i op fs) δ Q=gK δ[i]? δ λ_ _=>aY (aZ fs) δ λargs δ1=>Ų δ1[i]? i op args δ1 Q:=by
 unfold aY JG gK Ų CW;cases δ[i]? with
 |none=>rfl
 |some o=>
  cases o with
  |none=>rfl
  |some d=>
   dsimp only;cases aZ fs δ with
   |ok args δ1=>
    dsimp![Res.bind];cases δ1[i]? with
    |none=>rfl
    |some o=>
     cases o with
     |none=>rfl
     |some d=>
      cases d with
      |list ds=>
       dsimp only;cases op ds args with
       |none=>rfl
       |some p=>rfl
      |_=>rfl
   |_=>rfl
def TB:aY (RU i fk) δ Q=gK δ[i]? δ λ_ _=>aY fk δ λk δ1=>gK δ1[i]? δ1 λd δ1=>u3 (fC d k) δ1 Q:=by
 unfold aY RU gK u3;cases δ[i]? with
 |none=>rfl
 |some o=>
  cases o with
  |none=>rfl
  |some d=>
   dsimp only;cases fk δ with
   |ok k δ1=>
    dsimp![Res.bind];cases δ1[i]? with
    |none=>rfl
    |some o=>
     cases o with
     |none=>rfl
     |some d=>
      dsimp only;cases fC d k<;>rfl
   |_=>rfl
def ϖ:bO (RT i fk fv) δ N B C R=aY fv δ λv δ1=>gK δ1[i]? δ1 λ_ δ1=>aY fk δ1 λk δ2=>ų δ2[i]? k v i δ2 N:=by
 unfold bO RT aY gK ų Ń;cases fv δ with
 |ok w δ1=>
  dsimp![Res.bind];cases δ1[i]? with
  |none=>rfl
  |some o=>
   cases o with
   |none=>rfl
   |some d=>
    dsimp only;cases fk δ1 with
    |ok k δ2=>
     dsimp only;cases δ2[i]? with
     |none=>rfl
     |some o=>
      cases o with
      |none=>rfl
      |some d=>
       cases d with
       |list ds=>
        cases k with
        |int n=>
         dsimp only;cases lK ds.length n<;>rfl
        |_=>rfl
       |_=>rfl
    |_=>rfl
 |_=>rfl
def TC:aY (FI i) δ Q=gK δ[i]? δ λd δ=>u3 (qA [d]) δ Q:=by
 rw[lZ,iX];unfold aY FI CU QN;cases δ[i]? with
 |none=>simp
 |some o=>
  cases o with
  |none=>simp
  |some d=>
   simp![Option.some.injEq,exists_eq_left'];cases e:qA [d]<;>simp
def ϗ:aY (ţ c f g) δ Q=aY c δ λb δ1=>if b=true then aY f δ1 Q else aY g δ1 Q:=by
 unfold aY ţ;cases c δ with
 |stuck=>rfl
 |err x d=>rfl
 |ok b d=>cases b<;>rfl
def aJ9{i j:Int}:OI (.int i) (.int j)=some (.int (i+j)):=rfl
def aKA{i j:Int}:ť (.int i) (.int j)=some (.int (i-j)):=rfl
def Ϙ{i:Int}:Ŧ (.int i)=some (.int (-i)):=rfl
def aNJ{i j:Int}:ŧ (.int i) (.int j)=some (.bool (decide (i<j))):=rfl
def aNK{i j:Int}:Ĳ (.int i) (.int j)=some (.bool (decide (i<=j))):=rfl
def aNL{i j:Int}:ε (.int i) (.int j)=some (.bool (decide (j<i))):=rfl
def aNM{i j:Int}:ζ (.int i) (.int j)=some (.bool (decide (j<=i))):=rfl
def zV{i j:Int}:JL (.int i) (.int j)=some (.bool (decide (i=j))):=by rw[ZT];congr 2
def ϙ{i j:Int}:FK (.int i) (.int j)=some (.bool (decide (i≠j))):=by
 rw[LO];congr 2;rw[Bool.eq_iff_iff];simp
def Ϛ{i j:Bool}:FK (.bool i) (.bool j)=some (.bool (decide (i≠j))):=by
 rw[SG];congr 2;cases i<;>cases j<;>rfl
def TD{i j:Int}(h:0<j):CL (.int i) (.int j)=some (.int (i % j)):=FQ h
def aGP{i j:Int}(h:0<j)(h2:j<4611686018427387904):AX (.int i) (.int j)=some (.int (i/j)):=by
 refine A1 h ?_;exact bP.log2 (n:=62) (by show j.natAbs<2^62;lia)
def Z9{i j:Int}(h:0<j)(h2:bP 9000 j):AX (.int i) (.int j)=some (.int (i/j)):=A1 h (bP.log2 h2)
def ϛ{i:Int}:Ũ [.int i]=some (.int (i.natAbs:Int)):=by
 show some (PyData.int (if i<0 then -i else i))=_;congr 2;split<;>lia
def CY:qA [.list ds]=some (.int ds.length):=rfl
def aGQ:qA [.tuple ds]=some (.int ds.length):=rfl
def aKC{i:Int}:fC (.list ds) (.int i)=atI ds i:=rfl
def aKD{i:Int}:fC (.tuple ds) (.int i)=atI ds i:=rfl
def Ϝ{as:List α}:atI (a::as) 0=some a:=eJ (j:=0) rfl
def A8{as:List α}:atI (a::b::as) 1=some b:=eJ (j:=1) rfl
def A9{a b c:α}:atI (a::b::c::as) 2=some c:=eJ (j:=2) rfl
def L6{a b c d:α}:atI (a::b::c::d::as) 3=some d:=eJ (j:=3) rfl
def ϝ{a b c d e:α}:atI (a::b::c::d::e::as) 4=some e:=eJ (j:=4) rfl
def Ϟ{a b c d e f:α}:atI (a::b::c::d::e::f::as) 5=some f:=eJ (j:=5) rfl
def ϟ{a b c d e f g:α}:atI (a::b::c::d::e::f::g::as) 6=some g:=eJ (j:=6) rfl
end
def L7(h:n<=1000):(n<=sizeLine)=True:=eq_true (Ø h ⋯)
def aNN:vL .bool (.bool b)=some 'i':=rfl
def dJ{d:D}(h:aY f δ λa δ1=>a=d/\δ1=δ):f δ=.ok d δ:=by
 let⟨a,δ1,e,rfl,rfl⟩:=h.ex;exact e
def FT{f e:M D}{δ:DS}{n:Int}{g:Nat->D}(hf:f δ=.ok (.int n) δ)(h0:0<=n)(h1:n<2^20)(he:∀k:Nat,(k:Int)<n->aY e (some (.int k)::δ) λa δ1=>a=g k/\δ1=some (.int k)::δ):dP 1 (dY 0) (vJ [f]) dH e δ=.ok (.list ((List.range n.toNat).map g)) δ:=by
 have hr:vJ [f] δ=.ok (iO 0 n.toNat) δ:=by
  simp![vJ,aZ,hf,aU,lT];rw[Â ⟨∅,∅⟩]
 have:=A5 (e:=e) (g:=λd=>match d with|.int i=>g i.toNat|_=>.none) hr (λd hd=>by
  let⟨k,hk,rfl⟩:=Ô.mp hd;have hk:=List.mem_range.mp hk;have:=dJ (he k ∅);rw[Int.zero_add];exact this) (by rw[dZ];show n.toNat<=2^24;lia)
 rw[this,iO];simp
def vV{set:D->DS->Option DS}{u:M Fl}{f:M D}{δ δ1:DS}{N B C:ZO}{R:D->ZO}{j:Int}(I:Nat->ZO)(hf:f δ=.ok (.int j) δ1)(hj:-1000<=j)(hj2:j<=1000)(h0:I 0 δ1)(hs:∀(k:Nat)(δ:DS),(k:Int)<j->I k δ->∃δ1,set (.int k) δ=some δ1/\bO u δ1 (I (k+1)) N (I (k+1)) R)(hN:∀δ,I j.toNat δ->N δ):bO (mR set (vJ [f]) u) δ N B C R:=
 SM I hf ∅ ∅ h0 hs hN
def TF{set:D->DS->Option DS}{u:M Fl}{f:M D}{δ δ1:DS}{N B C:ZO}{R:D->ZO}{j:Nat}(I:Nat->ZO)(hf:f δ=.ok (.int (j:Int)) δ1)(hj:j<=1000)(h0:I 0 δ1)(hs:∀(k:Nat)(δ:DS),k<j->I k δ->∃δ1,set (.int k) δ=some δ1/\bO u δ1 (I (k+1)) N (I (k+1)) R)(hN:∀δ,I j δ->N δ):bO (mR set (vJ [f]) u) δ N B C R:=
 vV I hf ∅ ∅ h0 (λk δ hk=>hs k δ ∅) λδ h=>hN δ (by rwa [ā]at h)
def CZ{P:D->ZI->Prop}(h:bO body (ds.map some++List.replicate (m0-ds.length) none) (λ_=>False) (λ_=>False) (λ_=>False) λr δ=>∃os,fF δ ps=some os/\P r os):∃r os,aR m0 ps rm body ds=.ok r (os.map some)/\P r os:=by
 let⟨fl,δ1,e,q⟩:=h.ex;cases fl with
 |ret r=>
  let⟨os,ho,p⟩:=q;exact⟨r,os,by unfold aR;rw[e];dsimp only;rw[ho],p⟩
 |next=>sleep 5
 |brk=>sleep 5
 |cont=>sleep 5
def u4{P:D->Prop}(h:bO body (ds.map some++List.replicate (m0-ds.length) none) (λ_=>False) (λ_=>False) (λ_=>False) λr _=>P r):∃r,aR m0 [] rm body ds=.ok r []/\P r:=by
 let⟨fl,δ1,e,q⟩:=h.ex;cases fl with
 |ret r=>exact⟨r,by unfold aR;rw[e];rfl,q⟩
 |next=>sleep 5
 |brk=>sleep 5
 |cont=>sleep 5
end L2
namespace L2
open PySem
def aKE{α β:Type}{f:α->β}{a:α}:(some a).map f=some (f a):=rfl
def aNO{α β:Type}{f:α->Option β}:List.filterMap f []=[]:=rfl
def aNP{α:Type}{a:α}{l:List α}:(a::l)[i+1]?=l[i]?:=rfl
def aNQ{α:Type}{a:α}{l:List α}:(a::l)[0]?=some a:=rfl
def Ϡ{α:Type}{a b:α}:(some a=some b)=(a=b):=by simp
def ϡ{α:Type}{p:α->Prop}{a:α}:(∃x,a=x/\p x)=p a:=by simp
def aNR{α:Type}{a:α}{l:List α}:(a::l).length=l.length+1:=rfl
def aNS{α:Type}:([]:List α).length=0:=rfl
def aNT{α:Type}{a x:α}{l:List α}:(a::l).set (i+1) x=a::l.set i x:=rfl
def aNU{α:Type}{a x:α}{l:List α}:(a::l).set 0 x=x::l:=rfl
def Ϣ{a b:Prop}:(if True then a else b)=a:=by simp
def ϣ{a b:Prop}:(if False then a else b)=b:=by simp
def aPG:type_of% (Æ @A7 <| Æ @SY <| Æ @υ <| Æ @SZ <| Æ @χ <| Æ @ψ <| Æ @S1 <| Æ @ω <| Æ @ϊ <| Æ @ϋ <| Æ @ό <| Æ @ύ <| Æ @ώ <| Æ @L0 <| Æ @S3 <| Æ @Ϗ <| Æ @ϐ <| Æ @ϑ <| Æ @ϒ <| Æ @S4 <| Æ @S5 <| Æ @ϓ <| Æ @S7 <| Æ @S8 <| Æ @ϔ <| Æ @S9 <| Æ @L3 <| Æ @L4 <| Æ @L5 <| Æ @ϕ <| Æ @TB <| Æ @ϖ <| Æ @TC <| Æ @ϗ <| Æ @Ϙ <| Æ @zV <| Æ @ϙ <| Æ @Ϛ <| Æ @ϛ <| Æ @Ϝ <| Æ @A8 <| Æ @A9 <| Æ @L6 <| Æ @ϝ <| Æ @Ϟ <| Æ @ϟ <| Æ @L7 <| Æ @ξ <| Æ @ο <| Æ @π <| Æ @ς <| Æ @τ <| Æ @LW <| Æ @LX <| Æ @LY <| Æ @LZ <| Æ @Ϡ <| Æ @ϡ <| Æ @Nat.zero_add <| Æ @true_and <| Æ @and_true <| Æ @Res.ok.injEq <| Æ @PySem.PyData.bool.injEq <| Æ @PySem.PyData.int.injEq <| Æ @PySem.PyData.list.injEq <| Æ @PySem.PyData.tuple.injEq <| Æ @Bool.not_true <| Æ @Bool.not_false <| Æ @Bool.false_eq_true <| Æ @Ϣ <| @ϣ):=
 Æ @A7 <| Æ @SY <| Æ @υ <| Æ @SZ <| Æ @χ <| Æ @ψ <| Æ @S1 <| Æ @ω <| Æ @ϊ <| Æ @ϋ <| Æ @ό <| Æ @ύ <| Æ @ώ <| Æ @L0 <| Æ @S3 <| Æ @Ϗ <| Æ @ϐ <| Æ @ϑ <| Æ @ϒ <| Æ @S4 <| Æ @S5 <| Æ @ϓ <| Æ @S7 <| Æ @S8 <| Æ @ϔ <| Æ @S9 <| Æ @L3 <| Æ @L4 <| Æ @L5 <| Æ @ϕ <| Æ @TB <| Æ @ϖ <| Æ @TC <| Æ @ϗ <| Æ @Ϙ <| Æ @zV <| Æ @ϙ <| Æ @Ϛ <| Æ @ϛ <| Æ @Ϝ <| Æ @A8 <| Æ @A9 <| Æ @L6 <| Æ @ϝ <| Æ @Ϟ <| Æ @ϟ <| Æ @L7 <| Æ @ξ <| Æ @ο <| Æ @π <| Æ @ς <| Æ @τ <| Æ @LW <| Æ @LX <| Æ @LY <| Æ @LZ <| Æ @Ϡ <| Æ @ϡ <| Æ @Nat.zero_add <| Æ @true_and <| Æ @and_true <| Æ @Res.ok.injEq <| Æ @PySem.PyData.bool.injEq <| Æ @PySem.PyData.int.injEq <| Æ @PySem.PyData.list.injEq <| Æ @PySem.PyData.tuple.injEq <| Æ @Bool.not_true <| Æ @Bool.not_false <| Æ @Bool.false_eq_true <| Æ @Ϣ <| @ϣ
end L2
namespace L2
open PySem PySem.Spec
structure Sh(k:Nat)(d:D):Prop where
 lay:d.canLay0=true
 dep:d.depth<=k
def JQ :∀{ds:ZI},(∀d∈ds,Sh k d)->PyData.canLayAll0 ds=true/\PyData.depthAll ds<=k
 |[],_=>⟨by simp[PyData.canLayAll0],by simp[PyData.depthAll]⟩
 |d::ds,h=>by
  let⟨h1,h2⟩:=JQ (ds:=ds) λx hx=>h x (Ò _ hx);have hd:=h d Õ;refine⟨by simp[PyData.canLayAll0,hd.lay,h1],?_⟩;have:=hd.dep;simp![PyData.depthAll];lia
def m9:Sh 1 (.int i):=⟨by simp[PyData.canLay0],by simp[PyData.depth]⟩
def vW{ds:ZI}(h:∀d∈ds,Sh k d):Sh (k+1) (.list ds):=by
 let⟨h1,h2⟩:=JQ h;exact⟨by simpa[PyData.canLay0]using h1,by simp![PyData.depth];exact Nat.lt_succ_of_le ‹_›⟩
def l0{ds:ZI}(h:∀d∈ds,Sh k d):Sh (k+1) (.tuple ds):=by
 let⟨h1,h2⟩:=JQ h;exact⟨by simpa[PyData.canLay0]using h1,by simp![PyData.depth];exact Nat.lt_succ_of_le ‹_›⟩
def Sh.mono(h:Sh k d)(e:k<=n):Sh n d:=⟨h.lay,Ø h.dep e⟩
def Sh.shaped(h:Sh k d)(e:k<=64):SeqAt.shaped d=true:=by
 unfold SeqAt.shaped;rw[h.lay,decide_eq_true (Ø h.dep e)];rfl
def C0:FO [.list ds]=some (.list ds):=rfl
def aKI{xs:ZK}:ZX [.list (xs.map PyData.int)]=some (.int xs.sum):=by
 show (cO (xs.map PyData.int)).map _=_;rw[iT];rfl
def rY{k:Nat}(h:k<=ds.length):wX (.list ds) (some (k:Int)) none=some (.list (ds.drop k)):=by
 show some (PyData.list (zU ds (some (k:Int)) none))=_;unfold zU;rw[HT.sIx_none,HT.sIx_nat,Nat.min_eq_left h,List.take_of_length_le 'e']
section
def JR:aY (Ħ op f lo hi) δ Q=aY f δ λd δ1=>aY (jX lo) δ1 λl δ2=>aY (jX hi) δ2 λu δ3=>u3 (op d l u) δ3 Q:=by
 rw[iX];unfold aY Ħ QN;cases f δ with
 |stuck=>rfl
 |err x d=>rfl
 |ok a d=>
  simp![Res.bind];cases jX lo d with
  |stuck=>rfl
  |err x d=>rfl
  |ok l d=>
   dsimp only;cases jX hi d with
   |stuck=>rfl
   |err x d=>rfl
   |ok u d=>dsimp only;cases op a l u<;>simp
def ń(d:D)(δ:DS)(Q:Option Int->ZO)(_w:Wt Q:=⟨⟩):Prop:=∃i,d=.int i/\Q (some i) δ
def u5{Q:Option Int->ZO}:ń (.int i) δ Q=Q (some i) δ:=by unfold ń;simp
def nA{Q:Option Int->ZO}:aY (jX none) δ Q=Q none δ:=rfl
def nB{Q:Option Int->ZO}:aY (jX (some f)) δ Q=aY f δ λd δ1=>ń d δ1 Q:=by
 unfold aY jX ń;dsimp only;cases f δ with
 |stuck=>rfl
 |err x d=>rfl
 |ok a d=>cases a<;>simp[Res.bind]
end
end L2
namespace L2
open PySem PySem.Spec PyProof.Rows
section
variable {X:Cx}{Z:bT}{ow:ZH}{pos:Pos}
def cN.give{K:ZC}{d:D}(S:aQ Z ow)(hps:i∉Z.ps)(R:cN K Z ow F H σ δ)(e:δ[i]?=some (some d)):∃v,σ[i]?=some (some v)/\f8 K Z ow (ow.getD i 0) d v F H σ (δ.set i none):=by
 let⟨g,R⟩:=R;let⟨v,e1,o⟩:=R.slot i d e;refine⟨v,e1,λb=>match g b with|some (j,p)=>if j=i then some (1000,p)else if j=1000 then none else some (j,p)|none=>none,⟨R.sub,R.f0,R.kept,R.new,R.there,λa j p e=>?_,by rw[Ú];exact R.len,R.par,λj d' e=>?_⟩,?_⟩
 .cases q:g a with
  |none=>rw[q]at e;cases e
  |some l=>
   let⟨j',p'⟩:=l;rw[q]at e;have e:(if j'=i then some (1000,p')else if j'=1000 then none else some (j',p'))=some (j,p):=e;split at e
   .rename_i z
    refine .inl ((R.lab a j' p' q).elim id λzQ=>by let⟨q',w⟩:=zQ;exact absurd (Z.wf a j' q' w) (by rw[z];exact hps))
   .split at e
    .cases e
    .cases e;exact R.lab a j p q
 .have hj:j≠i:=λz=>by
   subst z;by_cases hl:j<δ.length
   .rw[ë hl]at e;cases e
   .rw[ä (by rw[Ú];exact å.mp ‹_›)]at e;cases e
  rw[Þ (Ñ hj)]at e;let⟨w,e1,o1⟩:=R.slot j d' e;refine⟨w,e1,?_⟩;by_cases hz:ow.getD j 0=0
  .rw[hz]at o1⊢;exact o1
  .have j1:j<1000:=by
    by_cases hl:j<ow.length
    .exact Ö hl S.ow
    .exact absurd (by rw[Ê,ä 'C'];rfl) hz
   exact o1.relab λa p e=>by
    rw[e];dsimp only;rw[Ã hj,Ã (by exact Í ‹_›)]
 .exact o.relab λa p e=>by
   rw[e];exact Â rfl
def L8(i:Nat):M D:=λδ=>match δ[i]? with
 |some (some d)=>.ok d (δ.set i none)
 |_=>.stuck
def C1(i:Nat){x:Str}(S:aQ Z ow)(ho:↥(ow.getD i 0=n))(hps:↥(Z.ps.contains i=false))(hN:↥'t')(hv:#v[AJ X.env.scope x])(hd:⇑(Zdb x))(hcd:⇑(Zcd x)):DE X Z ow n (.Name x pos) (L8 i):=
 (dQ hN hv hd hcd).mono λσ H Q h=>by
  let⟨F,δ,R,h⟩:=h;unfold L8 at h;cases e:δ[i]? with
  |none=>sleep 1
  |some o=>
   cases o with
   |none=>sleep 1
   |some d=>
    rw[e]at h;let⟨v,e1,R'⟩:=R.give S (dE hps) e;rw[ho]at R';exact⟨v,e1,h v H F R' λ_ _ z=>z⟩
end
def fY:Option Int->ZK->Option Int
 |o,[]=>o
 |none,x::xs=>fY (some x) xs
 |some m,x::xs=>fY (some (if x>m then x else m)) xs
def Ϥ:ZN->Array Value
 |none=>#[]
 |some v=>#[v,v]
def aKJ(b:Option Int)(o:ZN):Prop:=match b,o with
 |none,none=>True
 |some m,some v=>∃t,v=.int m t
 |_,_=>False
section
variable {prog:Program}{w:World}{A:Around}{E:ZA}{s:Shared}
def FU(a d:Value):argsOk "max" ⟨[a],[("default",d)]⟩:=by unfold argsOk;kernel_rfl
def xE:∀o:ZN,(Ϥ o).size<=sizeLine
 |none=>by show 0<=sizeLine;decide
 |some _=>by show 2<=sizeLine;decide
def aAB{x m:Int}{t t':Tok}{Q:ZA}(h:Q (.bool (decide (x>m))) s):wpAny 'u' A (richCompare .Gt (.int x t) (.int m t')) Q E s:=CmpOf.ints_gt (P:=λi v=>∃t,v=.int (if i=0 then x else m) t) (λi=>if i=0 then x else m) (λ_ _ h=>h) 0 1 _ _ s Q E ⟨t,rfl⟩ ⟨t',rfl⟩ (by simpa using h)
def OS{R:Result->Shared->Prop}{I S:Addr}{fp wr:ZM}{n:Nat}{P:Nat->Value->Prop}{St:Nat->Heap->Prop}{dv:Value}{xs:ZK}(W:Walks prog w A.in1 I fp wr n P St)(hP:∀i v,P i v->∃x t,xs[i]?=some x/\v=.int x t)(hx:xs.length=n)(hSf:S∉fp):
  ∀(k i:Nat)(s:Shared)(b:Option Int)(o:ZN)(c:Nat),n-i=k->i<=n->St i s.heap->aKJ b o->s.heap.get? S=some {cls:=.type "list",dict:=none,data:=.seq (Ϥ o) c,slots:=#[]} ->
  (∀v h' tk,(match fY b (xs.drop i)with|none=>v=dv|some m=>∃t,v=.int m t)->(∀b o,b∉wr->b≠S->s.heap.get? b=some o->h'.get? b=some o)->R (.ok (.ret v)) {s with heap:=h',toks:=tk}) ->
  codeAny 'u' A (.builtin "max.loop" ⟨[.ref I,.none,.ref S],[("default",dv)]⟩) R s:=by
 have hSw:S∉wr:=λh=>hSf (W.sub _ h);have nm:(toString "max"++toString ".loop":String)="max.loop":=by decide
 intro k
 induction k with
 |zero=>
  intro i s b o c hk hi hst hb hS hR;obtain rfl:i=n:=by lia
  rw[List.drop_of_length_le (by exact ý ‹_›),show fY b []=b by cases b<;>rfl]at hR;refine codeAny_builtin F.entry_max_loop ?_;rw[Around.under_plainId F.plain_max_loop _];refine(show wpAny _ A.in1 (seqItems? (.ref S) >>= _) _ _ s from wpAny_bind (wpAny_seqItems hS rfl ?_));refine(show wpAny _ A.in1 (tryCatch (pyNext (.ref I)) _ >>= _) _ _ s from wpAny_bind (wpAny_tryCatch (W.done s _ _ hst λh' tk hk'=>?_)));cases o with
  |none=>
   cases b with
   |some m=>exact hb.elim
   |none=>exact wpAny_bind (wpAny_rule (wpAny_pure (hR dv h' tk rfl λb o h1 _ e=>hk' b o h1 e)))
  |some v=>
   cases b with
   |none=>exact hb.elim
   |some m=>
    refine(show wpAny _ A.in1 (updateSeq S (λ_=>#[]) >>= _) _ _ _ from wpAny_bind (wpAny_updateSeq (hk' S _ hSw hS) rfl (wpAny_bind (wpAny_letGo (wpAny_pure ?_))) (hz:=xE _) (_hz':=ó _)));exact hR v _ tk hb λb o h1 h2 e=>(Heap.get?_update_other _ _ (Ñ h2)).trans (hk' b o h1 e)
 |succ k ih=>
  intro i s b o c hk hi hst hb hS hR;have hlt:i<n:=by lia
  refine codeAny_builtin F.entry_max_loop ?_;rw[Around.under_plainId F.plain_max_loop _];refine(show wpAny _ A.in1 (seqItems? (.ref S) >>= _) _ _ s from wpAny_bind (wpAny_seqItems hS rfl ?_));refine(show wpAny _ A.in1 (tryCatch (pyNext (.ref I)) _ >>= _) _ _ s from wpAny_bind (wpAny_tryCatch (W.item i s _ _ hlt hst λv h' tk hp hst' hk'=>?_)));have hS':=hk' S _ hSw hS;let⟨x,t,ex,rfl⟩:=hP i v hp;have ed:xs.drop i=x::xs.drop (i+1):=by
   let⟨h1,h2⟩:=Ð.mp ex;rw[ö h1,h2]
  rw[ed]at hR;have new:(∀v h' tk,(match fY (some x) (xs.drop (i+1))with|none=>v=dv|some m=>∃t,v=.int m t)->(∀b o,b∉wr->b≠S->s.heap.get? b=some o->h'.get? b=some o)->R (.ok (.ret v)) {s with heap:=h',toks:=tk})->codeAny 'u' A (.builtin "max.loop" ⟨[.ref I,.none,.ref S],[("default",dv)]⟩) R {s with heap:=h'.update S (Obj.mapSeq λ_=>#[.int x t,.int x t]),toks:=tk}:=λhR=>ih (i+1) _ (some x) (some (.int x t)) _ ∅ hlt (W.frame _ _ _ hst' λb hbf o e=>(Heap.get?_update_other _ _ (λh:S=b=>hSf (by rw[h];exact hbf))).trans e) ⟨t,rfl⟩ (Heap.get?_update_self _ hS' rfl) λv h'' tk'' hv hk''=>hR v h'' tk'' hv λb o h1 h2 e=>hk'' b o h1 h2 ((Heap.get?_update_other _ _ (Ñ h2)).trans (hk' b o h1 e));cases o with
  |none=>
   cases b with
   |some m=>exact hb.elim
   |none=>
    refine(show wpAny _ A.in1 (updateSeq S (λ_=>#[.int x t,.int x t]) >>= _) _ _ _ from wpAny_bind (wpAny_updateSeq hS' rfl ?_ (hz:=xE _) (_hz':=(by show 2<=sizeLine+1;decide))));rw[nm];exact wpAny_pure ⟨plainId_quiet F.plain_max_loop _,new hR⟩
  |some vb=>
   cases b with
   |none=>exact hb.elim
   |some m=>
    let⟨t',rfl⟩:=hb;refine(show wpAny _ A.in1 (tryCatch (holding [.int x t,.int x t] (richCompare .Gt (.int x t) (.int m t') >>= _)) _ >>= _) _ _ _ from wpAny_bind (wpAny_tryCatch (wpAny_holding (wpAny_bind (aAB ?_)))));refine wpAny_bind (wpAny_holding (wpAny_truthy_bool (wpAny_bind (wpAny_letGo (wpAny_pure ?_)))));by_cases hg:x>m
    .rw[show fY (some m) (x::xs.drop (i+1))=fY (some x) (xs.drop (i+1)) by simp[fY,hg]]at hR
     simp![hg,decide_true,if_true];refine wpAny_bind (wpAny_updateSeq hS' rfl (wpAny_bind (wpAny_letGo ?_)) (hz:=xE _) (_hz':=(by show 2<=sizeLine+1;decide)));rw[nm];exact wpAny_pure ⟨plainId_quiet F.plain_max_loop _,new hR⟩
    .rw[show fY (some m) (x::xs.drop (i+1))=fY (some m) (xs.drop (i+1)) by simp[fY,hg]]at hR
     simp![hg,decide_false,Bool.false_eq_true,if_false];refine wpAny_bind (wpAny_letGo ?_);rw[nm];exact wpAny_pure ⟨plainId_quiet F.plain_max_loop _,ih (i+1) _ (some m) (some (.int m t')) c ∅ hlt hst' ⟨t',rfl⟩ hS' λv h'' tk'' hv hk''=>hR v h'' tk'' hv λb o h1 h2 e=>hk'' b o h1 h2 (hk' b o h1 e)⟩
def OT{x dv:Value}{xs:ZK}{Q:ZA}(h:wpAny 'u' A.in1 (pyIter x) (λit s₂=>∃I fp wr n P St,it=.ref I/\Walks prog w A.in1 I fp wr n P St/\St 0 s₂.heap/\(∀b∈fp,b<s₂.heap.objs.size)/\(∀i v,P i v->∃x t,xs[i]?=some x/\v=.int x t)/\xs.length=n /\
   ∀v h' tk,(match fY none xs with|none=>v=dv|some m=>∃t,v=.int m t)->(∀b o,b∉wr->s₂.heap.get? b=some o->h'.get? b=some o)->Q v {s₂ with heap:=h',toks:=tk}) E s):wpAny 'u' A (call (.builtin "max") [x] [("default",dv)]) Q E s:=by
 have nm:(toString "max"++toString ".loop":String)="max.loop":=by decide
 refine wpAny_call (codeAny_call_builtin F.plain_max F.entry_max ?_);simp![checkBuiltinCall,F.kind_max];have key:wpAny 'u' A.in1 (Builtin.«max» ⟨[x],[("default",dv)]⟩) (λfin s'=>match fin with
   |.done f=>(match (Except.ok f:Result)with|.ok (.ret v)=>Q v s'|.ok _=>False|.error e=>E e s')
   |.again c'=>c'.quiet=true/\codeAny 'u' A c' (λr s'=>match r with|.ok (.ret v)=>Q v s'|.ok _=>False|.error e=>E e s') s') E s:=by
  refine(show wpAny _ A.in1 (Builtin.Builtins.bindParams "max" ["key","default"] 0 ⟨[],[("default",dv)]⟩ >>= _) _ _ s from wpAny_bind (wpAny_of_eq (show Builtin.Builtins.bindParams "max" ["key","default"] 0 ⟨[],[("default",dv)]⟩=pure [none,some dv]from rfl) ?_));refine wpAny_bind (wpAny_pure (wpAny_bind (wpAny_mono h (λit s₂ h₂=>?_) λ_ _ e=>e)));let⟨I,fp,wr,n,P,St,rfl,W,hst,hfp,hP,hx,hQ⟩:=h₂;refine wpAny_bind (wpAny_newObj_type ?_);have hSf:s₂.heap.objs.size∉fp:=λhm=>ø _ (hfp _ hm);rw[nm];refine wpAny_pure ⟨plainId_quiet F.plain_max_loop _,OS (dv:=dv) W hP hx hSf _ 0 _ none none _ rfl (ó _) (W.frame _ _ _ hst λb _ o e=>Heap.get?_push_of_some _ e) trivial (Heap.get?_push_size _ rfl) λv h' tk hv hk=>?_⟩;rw[List.drop_zero]at hv;exact hQ v h' tk hv λb o hbw e=>hk b o hbw (Í 'y') (Heap.get?_push_of_some _ e)
 have ha:=FU x dv;cases hsig:Manifest.signature? "max"with
 |none=>exact wpAny_pure key
 |some sig=>
  simp![argsOk,hsig]at ha;have h2:Bind.checkArgs "max" sig ⟨[x],[("default",dv)]⟩=pure ():=ha;refine(show wpAny _ A.in1 (Bind.checkArgs "max" sig ⟨[x],[("default",dv)]⟩) _ _ s from ?_);rw[h2];exact wpAny_pure key
end
section
def aKK(X:Cx)(te tc:TE):TE:=λσ H Q=>Q7 te Ş σ H λvs H1=>tc σ H1 λd H2=>∃(p:Addr)(xs:ZK),vs=[.ref p]/\eE X.K H2 p (xs.map V.int)/\Q (match fY none xs with|none=>d|some m=>.int m) H2
def TH{U:ZB}{s:Shared}{σ:St}{H:Hp}{Q:VK}{p:Addr}{xs:ZK}{d:V}{dv:Value}(hc:X.calm=true)(I:Inv X U σ H s)(hq:eE X.K H p (xs.map V.int))(rd:bH d dv)(q:Q (match fY none xs with|none=>d|some m=>.int m) H):
  wpAny 'b' X.A (call (.builtin "max") [.ref p] [("default",dv)]) (EP X U σ Q) X.xe s:=by
 let⟨its,rv,pl,hz⟩:=I.list hq;refine OT (xs:=xs) (wpAny_pyIter_list pl.isList ?_);have hlen:=rv.length;rw[Ä]at hlen;have hlt:p<s.heap.objs.size:=by
  let⟨o,n,e,_⟩:=pl;exact Heap.lt_size e
 have ph:Inv X U σ H {s with heap:=s.heap.push {cls:=.type "list_iterator",data:=.fields #[.ref p,.int 0 0]}}:=I.kept (t':=s.toks) λb o e=>Heap.get?_push_of_some _ e;let⟨its',rv',pl',_⟩:=ph.list hq;have e1:its=its':=by
  let⟨o,n,e,c,dn,d⟩:=pl;let⟨o',n',e',c',dn',d'⟩:=pl';have e2:=Heap.get?_push_of_some {cls:=.type "list_iterator",data:=.fields #[.ref p,.int 0 0]} e;rw[e2]at e';cases e';rw[d]at d';injection d' with d1 _;simpa using congrArg Array.toList d1
 subst e1;refine⟨s.heap.objs.size,_,_,_,_,_,rfl,Walks.list (A:=X.A.in1) (show X.A.in1.handled=none from I.ok.hd hc) s.heap.objs.size p (Í hlt) its.toArray,⟨⟨_,Heap.get?_push_size _ rfl,rfl,rfl⟩,pl'.isList⟩,λb hb=>?_,λi v hv=>?_,by simp;assumption,λv h' tk hv k=>?_⟩
 .show b<(s.heap.push _).objs.size
  rw[Heap.size_push]
  grind
 .have hv:its.toArray[i]?=some v:=hv
  exact bI.int_at (i:=i) rv (by simpa using hv)
 .have I2:=ph.turned (it:=s.heap.objs.size) (h':=h') (t':=tk) (λb o hb e=>k b o (by simpa using hb) e) (I.hok.fresh (Ç _)) (ß I.lt) (.inr I.sz) (λx c e=>by
   let⟨v,q⟩:=I.cell x c e;exact Í q.lt) λp hp=>Í (Heap.lt_size (I.pin p hp).1)
  refine⟨_,H,I2,?_,q⟩;cases eb:fY none xs with
  |none=>grind
  |some m=>rw[eb]at hv;exact hv
def aAC{p pos kp:Pos}(hc:X.calm=true)(hg:Gl X "max")(hm:X.mg "max"=none)(ha:PE X e te)(hd:PE X c tc)(hs:↥(Zse e [] X.env))(hv:bootBuiltins "max"=some (.builtin "max"):=by decide +kernel):
  PE X (.Call (.Name "max" p) [e] [⟨some "default",c,kp⟩] pos) (aKK X te tc):=by
 intro U s σ H Q I h;refine wpAny_Call_Name_kw (iK I hg hm hv ?_ ⋯ ⋯);have a1:backTo pos (starEach [e] X.env)=(false,eval e X.env)::backTo pos (starEach [] X.env):=by rw[hs];rfl
 refine callWith_kw (cM ((gS ha mV hs) pos U s σ H _ I h) λus s1 zQ=>?_) a1 (by rw[a1];rfl) rfl rfl;let⟨vs,H1,I1,r,q⟩:=zQ;refine kws_cons (cM (hd U s1 σ H1 _ I1 q) λu s2⟨d,H2,I2,rd,q2⟩=>kws_nil ?_);let⟨l,xs,rfl,hq,q2⟩:=q2;let⟨u',rfl,rx⟩:=mO r;cases rx;exact TH hc I2 hq rd q2
def FV(f g:M D):M D:=λδ=>(f δ).bind λd δ1=>(g δ1).bind λe δ2=>match d,e with
 |.list ds,.int n=>(match cO ds with
  |some xs=>.ok (.int ((fY none xs).getD n)) δ2
  |none=>.stuck)
 |_,_=>.stuck
def aAD(hc:X.calm=true)(hg:Gl X "max")(hm:X.mg "max"=none)(ha:DE X Z ow 0 e f)(hd:DE X Z ow 0 c g)(hs:↥(Zse e [] X.env)):DE X Z ow 0 (.Call (.Name "max" p) [e] [⟨some "default",c,kp⟩] pos) (FV f g):=
 (aAC hc hg hm ha hd hs).mono λσ H Q h=>by
  let⟨F,δ,R,h⟩:=h;unfold FV at h;sleep 4;cases e1:f δ with
  |stuck=>rw[e1]at h;exact h.elim
  |err x δ1=>rw[e1]at h;exact h
  |ok d1 δ1=>
   rw[e1]at h;intro x H1 F1 R1 s1;refine⟨F1,δ1,R1.rel,?_⟩;sleep 8;cases e2:g δ1 with
   |stuck=>rw[e2]at h;exact h.elim
   |err x δ2=>rw[e2]at h;exact iM.mono h s1
   |ok d2 δ2=>
    rw[e2]at h;sleep 8;intro y H2 F2 R2 s2;split at h
    .rename_i ds n
     cases e3:cO ds with
     |none=>rw[e3]at h;exact h.elim
     |some xs=>
      rw[e3]at h;let⟨l,vs,rfl,hx,rx⟩:=kL R1.rep;rw[iU e3 rx]at hx;have ry:=R2.rep;unfold bG at ry;subst ry;refine⟨l,xs,rfl,R2.rel.sub.seq (s2.seq hx),h _ H2 F2 (R2.rel.x ?_) (s1.trans' s2)⟩;cases fY none xs with
      |none=>show bG X.K F2 (.int n) (.int n);unfold bG;rfl
      |some m=>show bG X.K F2 (.int m) (.int m);unfold bG;rfl
    .exact h.elim
end
section
end
end L2
namespace L2
open PySem PySem.Spec
section
def L9:D->D->ZL
 |.list ds,.int n=>(cO ds).map λxs=>.int ((fY none xs).getD n)
 |_,_=>none
def aAE:FV f g=j9 L9 f g:=by
 funext δ;unfold FV j9;cases f δ with
 |stuck=>rfl
 |err x d=>rfl
 |ok a d=>
  simp![Res.bind];cases g d with
  |stuck=>rfl
  |err x d=>rfl
  |ok b d=>
   simp![Res.bind];cases a<;>cases b<;>try rfl
   rename_i ds n;simp![L9];cases cO ds<;>rfl
def aGR:aY (FV f g) δ Q=aY (j9 L9 f g) δ Q:=by rw[aAE]
def C2:aY (L8 i) δ Q=gK δ[i]? δ λd δ=>Q d (δ.set i none):=by
 rw[lZ];unfold aY L8 CU;cases e:δ[i]? with
 |none=>simp
 |some o=>cases o<;>simp
def aKL:aY (ZZ i lo hi) δ Q=gK δ[i]? δ λ_ _=>aY (jX lo) δ λl δ1=>aY (jX hi) δ1 λu δ2=>gK δ2[i]? δ2 λd δ2=>u3 (wX d l u) δ2 Q:=by
 unfold aY ZZ gK u3;cases δ[i]? with
 |none=>rfl
 |some o=>
  cases o with
  |none=>rfl
  |some d0=>
   dsimp only;cases jX lo δ with
   |ok l δ1=>
    dsimp![Res.bind];cases jX hi δ1 with
    |ok u δ2=>
     dsimp only;cases δ2[i]? with
     |none=>rfl
     |some o=>
      cases o with
      |none=>rfl
      |some d=>cases d<;>rfl
    |_=>rfl
   |_=>rfl
def xF{ds zs:ZI}:CW (SO ds [.list zs]) i δ Q=(ds.length+zs.length<=sizeLine/\Q .none (δ.set i (some (.list (ds++zs))))):=by
 by_cases h:ds.length+zs.length<=sizeLine
 .have:SO ds [.list zs]=some (.none,ds++zs):=Â h
  rw[this,ν];simp[h]
 .have:SO ds [.list zs]=none:=Ã h
  rw[this];simp[h,LU,Z3]
def C3{a b:ZI}:u3 (FJ (.list a) (.list b)) δ Q=(a.length+b.length<=sizeLine/\Q (.list (a++b)) δ):=by
 by_cases h:a.length+b.length<=sizeLine
 .have:FJ (.list a) (.list b)=some (.list (a++b)):=Â h
  rw[this,μ];simp[h]
 .have:FJ (.list a) (.list b)=none:=Ã h
  rw[this];simp[h,iX,QN]
end
end L2
namespace L2
open PySem PySem.Spec PyProof.Rows
def vX:D->Option (ZI)
 |.list xs=>some xs
 |.tuple xs=>some xs
 |_=>none
def ħ:D->D->ZL:=λa b=>match vX b with
 |some xs=>if SeqAt.shaped a=true/\SeqAt.shaped b=true then some (.bool (xs.any λy=>PyData.eqv y a))else none
 |none=>none
section
def ϥ(K:ZC):R2:=λx y H Q=>∃d e xs,bG K H d x/\bG K H e y/\vX e=some xs/\SeqAt.shaped d=true/\SeqAt.shaped e=true/\Q (.bl (xs.any λy=>PyData.eqv y d)) H
def aGS(hu:X.A.units+64<cLine):jS X (compareOp .In) (ϥ X.K):=by
 sleep 6;let⟨d,e,xs,hd,he,hi,sd,se,q⟩:=h;let⟨as,ra⟩:=bG.reads I d x v (gF sd) hd rx;let⟨bs,rb⟩:=bG.reads I e y u (gF se) he ry;have lay:=SeqAt.canLay_of_shaped se;have dep:=SeqAt.depth_of_shaped se;have ld:=SeqAt.canLay_of_shaped sd;cases e with
 |list ys=>
  cases hi;rw[PyData.depth]at dep;have:min (PyData.depthAll xs) d.depth<=PyData.depthAll xs:=Nat.min_le_left _ _;exact SeqAt.in_list_reads rb ra (by simpa[PyData.canLay0]using lay) ld ∅ (mU I q rfl)
 |tuple ys=>
  cases hi;rw[PyData.depth]at dep;have:min (PyData.depthAll xs) d.depth<=PyData.depthAll xs:=Nat.min_le_left _ _;exact SeqAt.in_tuple_reads rb ra (by simpa[PyData.canLay0]using lay) ld ∅ (mU I q rfl)
 |_=>cases hi
def aGT:oA X (ϥ X.K) 0 ħ:=λZ ow F H σ δ a b x y d Q S R ra rb e q=>by
 unfold ħ at e;cases hi:vX b with
 |none=>rw[hi]at e;cases e
 |some xs=>
  rw[hi]at e;dsimp only at e;split at e
  .rename_i hc
   cases e;exact⟨a,b,xs,R.sub.rep _ _ ra,R.sub.rep _ _ rb,hi,hc.1,hc.2,q _ H F (R.x iP) 'p'⟩
  .cases e
end
section
variable {X:Cx}{Z:bT}{ow:ZH}{n m:Nat}{pos:Pos}{e a b c tg:Expr}{f h:M D}{F F' H H':Hp}{σ:St}{δ δ':DS}{g g':ZP}{K:ZC}
def bC.keep(hF:aI F F')(h:∀a p o,g a=some (i,p)->H a=some o->F a=none->g' a=some (i,p)/\H' a=some o/\F' a=none)(r:bC K F H g i n p d v):bC K F' H' g' i n p d v:=r.keepJ hF h
def iC.updNe{b:Addr}{i i0:Nat}{q0:ZH}{o:HO}(hb:g b=some (i0,q0)){f c:Nat}{p:ZH}{d:D}{v:V}(hn:i≠i0\/¬p <+: q0)(r:iC K F H g i f c p d v):iC K F (bA H b o) g i f c p d v:=by
 induction f generalizing c p d v with
 |zero=>
  cases c with
  |zero=>exact r
  |succ c=>exact r.elim
 |succ f ih=>
  cases c with
  |zero=>exact r
  |succ c=>
   let⟨ds,vs,cs,nd,hc,hl,r⟩:=r;refine⟨ds,vs,cs,nd,λx hx=>?_,hl,λk d' v' z1 z2=>ih (hn.imp id λz w=>z ((List.prefix_append p [k]).trans w)) (r k d' v' z1 z2)⟩;let⟨a1,a2,a3⟩:=hc x hx;have ne:x.1≠b:=λz=>by
    rw[z,hb]at a1;cases a1;exact hn.elim (λz=>z rfl) λz=>z (List.prefix_append _ _)
   exact⟨a1,by rw[aF ne];exact a2,a3⟩
def bC.updNe{b:Addr}{i i0:Nat}{q0:ZH}{o:HO}(hb:g b=some (i0,q0)){n:Nat}{p:ZH}{d:D}{v:V}(hn:i≠i0\/¬p <+: q0)(r:bC K F H g i n p d v):bC K F (bA H b o) g i n p d v:=iC.updNe hb hn r
def BB:ZH->DS->DS
 |[],δ=>δ
 |_::_,[]=>[]
 |n::ow,o::δ=>(if n=0 then o else none)::BB ow δ
def MA:∀{ow:ZH}{δ:DS},(BB ow δ).length=δ.length
 |[],_=>rfl
 |_::_,[]=>rfl
 |n::ow,o::δ=>by unfold BB;rw[Ó,Ó,MA]
def TJ:∀{ow:ZH}{δ:DS}{i:Nat}{d:D},(BB ow δ)[i]?=some (some d)->ow.getD i 0=0/\δ[i]?=some (some d)
 |[],_,i,_,e=>⟨by simp,e⟩
 |_::_,[],_,_,e=>by unfold BB at e;cases e
 |n::ow,o::δ,0,d,e=>by
  unfold BB at e;rw[List.getElem?_cons_zero]at e;split at e
  .rename_i h;exact⟨h,e⟩
  .cases e
 |n::ow,o::δ,i+1,d,e=>by
  unfold BB at e;rw[List.getElem?_cons_succ]at e;let⟨h1,h2⟩:=TJ e;exact⟨by simpa using h1,by simpa using h2⟩
def bU.hide(R:bU K Z ow g F H σ δ):cN K (fV F H σ m) 'j' F H σ (BB ow δ):=
 ⟨λ_=>none,R.sub,⟨R.f0.lm,λ_ _ z=>z⟩,λ_ _ _ e=>e,λ_ h _=>h,λ_ h=>h,λ_ _ _ e=>(by cases e),by rw[MA];exact R.len,λi hi=>(by cases hi),λi d e=>by
  let⟨h0,e⟩:=TJ e;let⟨v,e1,o⟩:=R.slot i d e;rw[h0]at o;exact⟨v,e1,by rw[iW];exact o⟩⟩
def bU.back(R:bU K Z ow g F H σ δ)(R':bU K (fV F H σ m) 'j' g' F' H' σ δ'):bU K Z ow g F' H' σ δ:=by
 have hk:∀b o,H b=some o->H' b=some o:=λb o e=>R'.kept b o rfl e;refine⟨R'.sub,R.f0.trans' R'.f0.2,λb o n e=>hk b o (R.kept b o n e),λa h1 h2=>R'.new a (R.new a h1 h2) (R.there a h2),λb h=>?_,R.lab,R.len,R.par,λi d e=>?_⟩
 .cases e:H b with
  |none=>exact absurd e (R.there b h)
  |some o=>rw[hk b o e];simp
 .obtain⟨v,e1,o⟩:=R.slot i d e
  exact⟨v,e1,o.keep (show aI F F' from R'.f0.2) λa p o e1 e2 e3=>⟨e1,hk a o e2,R'.new a e3 (show H a≠none by rw[e2];simp)⟩⟩
def bU.at2{i j:Nat}{ds inner:ZI}(R:bU K Z ow g F H σ δ)(ho:ow.getD i 0=2)(hd:δ[i]?=some 'w')(hj:ds[j]?=some (.list inner)):
  ∃a vs b ws,σ[i]?=some (some (.ref a))/\H a=some (.lst vs)/\ds.length=vs.length/\vs[j]?=some (.ref b)/\H b=some (.lst ws)/\aD K F inner ws:=by
 let⟨v,e1,o⟩:=R.slot i _ hd;rw[ho]at o;let⟨a,ds0,vs,q1,q2,q3,q4,q5,q6,q7⟩:=o.lst (m:=1);cases q1;subst q2;have jl:j<vs.length:=by rw[<- q6];exact(Ð.mp hj).1
 let⟨b,inner',ws,w1,w2,w3,w4,w5,w6,w7⟩:=(q7 j _ _ hj (É jl)).lst (m:=0);cases w1;exact⟨a,vs,b,ws,e1,q4,q6,by rw[É jl,w2],w4,aD.of w6 w7⟩
def bU.rewrite2{a b:Addr}(R:bU K Z ow g F H σ δ)(ho:ow.getD i 0=2)(hd:δ[i]?=some 'w')(hs:σ[i]?=some (some (.ref a)))(ha:H a=some (.lst vs))(hb:vs[j]?=some (.ref b))(hr:aD K F inner' vs'):
  bU K Z ow g F (bA H b (.lst vs')) σ (δ.set i (some (.list (ds.set j (.list inner'))))):=by
 let⟨v,e1,o⟩:=R.slot i _ hd;rw[hs]at e1;cases e1;rw[ho]at o;let⟨a',ds0,vs0,q1,q2,q3,q4,q5,q6,q7⟩:=o.lst (m:=1);cases q1;cases q2;rw[ha]at q4;cases q4;have jl:j<vs.length:=(Ð.mp hb).1;have jd:j<ds.length:=by exact ú ‹_› (Eq.symm ‹_›)
 let⟨b',inner,ws,w1,w2,w3,w4,w5,w6,w7⟩:=(q7 j _ _ (É jd) hb).lst (m:=0);cases w2;have hi:i<δ.length:=(Ð.mp hd).1;have nab:a≠b:=λz=>by rw[z,w3]at q3;cases q3
 refine⟨λb' u e=>?_,R.f0,λb' u n e=>?_,R.new,λb' z=>?_,R.lab,by rw[Ú];exact R.len,R.par,λk d e=>?_⟩
 .have:b'≠b:=λz=>by rw[z,w5]at e;cases e
  rw[aF this];exact R.sub b' u e
 .have:b'≠b:=λz=>by
   subst z;rcases R.lab b' i _ w3 with w|⟨q,w⟩
   .rw[w]at e;cases e
   .rw[w]at n;cases n
  rw[aF this];exact R.kept b' u n e
 .by_cases hb':b'=b
  .subst hb';rw[aJ];simp
  .rw[aF hb'];exact R.there b' z
 .by_cases hk:k=i
  .subst hk
   rw[ë hi]at e;cases e;refine⟨_,hs,?_⟩;rw[ho];refine bC.mkL (m:=1) ⟨a,_,vs,rfl,rfl,q3,by rw[aF nab];exact ha,q5,by rw[Ú];exact q6,λl d' v' z1 z2=>?_⟩
   by_cases hl:j=l
   .subst hl
    rw[ë jd]at z1;cases z1;rw[hb]at z2;cases z2;exact bC.mkL (m:=0) ⟨b,inner',vs',rfl,rfl,w3,aJ,w5,hr.len,λk d' v' z1 z2=>hr.both k d' v' z1 z2⟩
   .rw[Þ hl]at z1
    refine bC.updNe w3 (.inr λz=>?_) (q7 l d' v' z1 z2);have z:[l] <+: [j]:=z;let⟨t,ht⟩:=z;cases ht;exact hl rfl
  .rw[Þ (Ñ hk)]at e
   let⟨v,e1,o⟩:=R.slot k d e;exact⟨v,e1,bC.updNe w3 (.inl hk) o⟩
def kM(ow:ZH)(i:Nat)(fk:M D)(op:ZI->ZI->Option (D×ZI))(fs:List (M D)):M D:=λδ=>match δ[i]? with
 |some 'w'=>(match fk δ with
  |.ok (.int k) _=>(match lK ds.length k with
   |some j=>(match ds[j]? with
    |some (.list inner)=>(match aZ fs (BB ow δ)with
     |.ok args _=>(match op inner args with
      |some (ret,inner')=>.ok ret (δ.set i (some (.list (ds.set j (.list inner')))))
      |none=>.stuck)
     |_=>.stuck)
    |_=>.stuck)
   |none=>.stuck)
  |_=>.stuck)
 |_=>.stuck
def xG(h:kM ow i fk op fs δ=.ok d δ1):
  ∃ds k δ2 j inner args δ3 inner',δ[i]?=some 'w'/\fk δ=.ok (.int k) δ2/\lK ds.length k=some j/\ds[j]?=some (.list inner)/\aZ fs (BB ow δ)=.ok args δ3/\op inner args=some (d,inner')/\δ1=δ.set i (some (.list (ds.set j (.list inner')))):=by
 unfold kM at h;split at h
 .rename_i ds e1
  split at h
  .rename_i k δ2 e2
   split at h
   .rename_i j e3
    split at h
    .rename_i inner e4
     split at h
     .rename_i args δ3 e5
      split at h
      .rename_i ret inner' e6
       cases h;exact⟨ds,k,δ2,j,inner,args,δ3,inner',e1,e2,e3,e4,e5,e6,rfl⟩
      .cases h
     .cases h
    .cases h
   .cases h
  .cases h
 .cases h
theorem FW(h:kM ow i fk op fs δ=.err x δ1):False:=by
 unfold kM at h;split at h
 .split at h
  .split at h
   .split at h
    .split at h
     .split at h<;>cases h
     .cases h
    .cases h
   .cases h
  .cases h
 .cases h
def JS(m:Nat)(h:∀F H σ,DE X (fV F H σ m) 'j' 0 ek fk):PE X ek (λσ H Q=>∃F0,tD X (fV F0 H σ m) 'j' 0 fk σ H Q):=λU s σ H Q I zQ=>by let⟨F0,q⟩:=zQ;exact h F0 H σ U s σ H Q I q
def aGU(m:Nat)(h:∀F H σ,DV X (fV F H σ m) 'j' es fs):PA X es (λσ H Q=>∃F0,tV X (fV F0 H σ m) 'j' fs σ H Q):=λcp U s σ H Q I zQ=>by let⟨F0,q⟩:=zQ;exact h F0 H σ cp U s σ H Q I q
def FX(m:Nat)(ho:ow.getD i 0=2)(hm:zT X r op)(h:tD X Z ow 0 (kM ow i fk op fs) σ H Q):
  N3 i σ H λx H1=>∃F0,tD X (fV F0 H1 σ m) 'j' 0 fk σ H1 λy H2=>YQ X.K x y H2 λv H3=>İ X.K "list" v H3/\∃F1,tV X (fV F1 H3 σ m) 'j' fs σ H3 λxs H4=>r v xs H4 Q:=by
 let⟨F,δ,⟨g,R⟩,h⟩:=h;cases e:kM ow i fk op fs δ with
 |stuck=>sleep 1
 |err x δ1=>exact(FW e).elim
 |ok d δ1=>
  rw[e]at h;let⟨ds,k,δ2,j,inner,args,δ3,inner',e1,e2,e3,e4,e5,e6,rfl⟩:=xG e;let⟨a,vs,b,ws,q1,q2,q3,q4,q5,q6⟩:=R.at2 ho e1 e4;refine⟨_,q1,IH g F H,IH g F H,δ,R.bor,?_⟩;rw[e2];rintro v H1 F1 ⟨g1,R1,o1⟩ s1;have ev:v=.int k:=by
   have o1:bG X.K F1 (.int k) v:=o1;unfold bG at o1;exact o1
  subst ev;have hk:aI H H1:=λb o e=>R1.kept b o rfl e;have R2:=R.grow hk;refine⟨a,vs,k,.ref b,rfl,rfl,eE.of (hk _ _ q2),?_,.inl ⟨rfl,ws,eE.of (hk _ _ q5)⟩,F,F,BB ow δ,R2.hide,?_⟩
  .unfold atI
   rw[<- q3,e3];exact q4
  .rw[e5]
   rintro us H2 F2 ⟨g3,R3⟩ s3 ra;have hk2:aI H1 H2:=λb o e=>R3.kept b o rfl e;have R4:=R2.back R3;let⟨xs',rv,w1,w2,w3⟩:=hm F2 H2 b ws us inner args d inner' (hk2 _ _ (hk _ _ q5)) R4.sub (s3.repAll _ _ q6) ra e6;exact w3 Q (h rv _ F2 ⟨g,R4.rewrite2 ho e1 q1 (hk2 _ _ (hk _ _ q2)) q4 w1,w2⟩ s3)
def aAF(i m:Nat){x:Str}{p p2 q:Pos}{id:String}(slot:Slot "list" name id)(hty:typeOf (.builtin id)=pure (.type "method_descriptor"))(hmr:ģ X id r)(hm:zT X r op)(hk:∀F H σ,DE X (fV F H σ m) 'j' 0 ek fk)(ha:∀F H σ,DV X (fV F H σ m) 'j' (e::es) fs)(ho:↥(ow.getD i 0=2))(hN:↥'t')(hv:#v[AJ X.env.scope x])(hd:⇑(Zdb x))(hcd:⇑(Zcd x))(hp:lM ek:=by exact λ_ _=>rfl)(hbase:↥(attributeBase (.Subscript 'g' ek p2) name X.env (eval (.Subscript 'g' ek p2) X.env)=eval (.Subscript 'g' ek p2) X.env))(hfew:↥(((backTo pos (starEach (e::es) X.env)).all (λx=>!x.1) && (backToKw pos (keywordEach [] X.env)).all (λx=>x.1.isSome)
   && decide ((e::es).length+([]:List Keyword).length+(if ([]:List Keyword).isEmpty then 0 else 1)<30))=true))(hline:↥((q.endLine == pos.line)=true))(hs:↥(Zse e es X.env))(hplain:↥(Zbt pos es X.env)):
  DE X Z ow 0 (.Call (.Attribute (.Subscript 'g' ek p2) name q) (e::es) [] pos) (kM ow i fk op fs):=PE.mono (RC PySem.F.plainAttrs_list slot hty hmr (AQ n5 (dQ hN hv hd hcd) (JS m hk) hp) (aGU m ha) hbase hfew hline hs hplain) λ_ _ _ h=>FX m ho hm h
def TK(i m:Nat){x:Str}{p p2 q:Pos}{id:String}(slot:Slot "list" name id)(hty:typeOf (.builtin id)=pure (.type "method_descriptor"))(hmr:ģ X id r)(hm:zT X r op)(hk:∀F H σ,DE X (fV F H σ m) 'j' 0 ek fk)(ho:↥(ow.getD i 0=2))(hN:↥'t')(hv:#v[AJ X.env.scope x])(hd:⇑(Zdb x))(hcd:⇑(Zcd x))(hp:lM ek:=by exact λ_ _=>rfl)(hbase:↥(attributeBase (.Subscript 'g' ek p2) name X.env (eval (.Subscript 'g' ek p2) X.env)=eval (.Subscript 'g' ek p2) X.env))(hline:↥((q.endLine == pos.line)=true)):
  DE X Z ow 0 (.Call (.Attribute (.Subscript 'g' ek p2) name q) [] [] pos) (kM ow i fk op []):=PE.mono (aE6 PySem.F.plainAttrs_list slot hty hmr (AQ n5 (dQ hN hv hd hcd) (JS m hk) hp) hbase hline) λσ H Q h=>by
 let⟨v,e1,F0,h⟩:=FX m ho hm h;refine⟨v,e1,F0,?_⟩;let⟨F1,δ,R,h⟩:=h;refine⟨F1,δ,R,h.mono 'p' λy H2 h=>?_⟩;let⟨a,vs,k,u,w1,w2,w3,w4,w5,F2,F3,δ3,R3,q3⟩:=h;refine⟨a,vs,k,u,w1,w2,w3,w4,w5,?_⟩;exact q3 [] H2 F3 R3 'p' lQ
def Ņ:ZI->ZI->Option (D×ZI)
 |ds,[]=>(match ds[ds.length-1]? with
  |some d=>some (d,ds.dropLast)
  |none=>none)
 |_,_=>none
def aAH:zT X Φ Ņ:=λF H l xs vs ds args ret ds' hl hs h1 h2 e=>by
 unfold Ņ at e;split at e
 .split at e
  .rename_i d e1
   cases e;unfold aD at h2;subst h2;let⟨v,e2,r⟩:=h1.get e1;rw[h1.len]at e2;refine⟨xs.dropLast,v,?_,r,λQ q=>⟨l,xs,v,rfl,rfl,hl,e2,q⟩⟩;rw[List.dropLast_eq_take,List.dropLast_eq_take,<- h1.len];exact h1.take _
  .cases e
 .cases e
def cN.enter(hz:∀i,ow.getD i 0=0)(R:cN K Z ow F H σ δ):cN K (fV F H σ m) 'j' F H σ δ:=by
 let⟨g,R⟩:=R;exact⟨λ_=>none,R.sub,⟨R.f0.lm,λ_ _ z=>z⟩,λ_ _ _ e=>e,λ_ h _=>h,λ_ h=>h,λ_ _ _ e=>(by cases e),R.len,λi hi=>(by cases hi),λi d e=>by
  let⟨v,e1,o⟩:=R.slot i d e;rw[hz]at o;exact⟨v,e1,by rw[iW];exact o⟩⟩
def cN.leave(hz:∀i,ow.getD i 0=0)(R:cN K Z ow F H σ δ)(R':bU K (fV F H σ m) 'j' g' F' H' σ δ'):cN K Z ow F' H' σ δ':=by
 let⟨g,R⟩:=R;have hk:∀b o,H b=some o->H' b=some o:=λb o e=>R'.kept b o rfl e;refine⟨λ_=>none,R'.sub,R.f0.trans' R'.f0.2,λb o n e=>hk b o (R.kept b o n e),λa h1 h2=>R'.new a (R.new a h1 h2) (R.there a h2),λb h=>?_,λ_ _ _ e=>(by cases e),R'.len,R.par,λi d e=>?_⟩
 .cases e:H b with
  |none=>exact absurd e (R.there b h)
  |some o=>rw[hk b o e];simp
 .obtain⟨v,e1,o⟩:=R'.slot i d e
  rw[iW]at o;exact⟨v,e1,by rw[hz];exact o⟩
def cN.reg(hz:∀i,ow.getD i 0=0)(R:cN K Z ow F H σ δ)(hl:∀a i p,g a=some (i,p)->Z.H0 a=none):bU K Z ow g F H σ δ:=by
 let⟨g0,R⟩:=R;exact⟨R.sub,R.f0,R.kept,R.new,R.there,λa i p e=>.inl (hl a i p e),R.len,R.par,λi d e=>by
  let⟨v,e1,o⟩:=R.slot i d e;rw[hz]at o;exact⟨v,e1,by rw[hz];exact o⟩⟩
structure FY(K:ZC)(H0 F H:Hp)(ga:ZP)(n:Nat)(acc:ZI)(ys:List V):Prop where
 len:acc.length=ys.length
 own:∀(k:Nat)(d:D)(v:V),acc[k]?=some d->ys[k]?=some v->bC K F H ga 1000 n [k] d v
 lab:∀a i p,ga a=some (i,p)->H0 a=none
def FY.keep(A:FY K H0 F H g n acc ys)(hF:aI F F')(h:∀a o,H a=some o->F a=none->H' a=some o/\F' a=none):FY K H0 F' H' g n acc ys:=
 ⟨A.len,λk d v e1 e2=>(A.own k d v e1 e2).keep hF λa p o z1 z2 z3=>⟨z1,h a o z2 z3⟩,A.lab⟩
def FY.add(A:FY K H0 F H g n acc ys)(R':bU K (fV F H σ m) 'j' g' F' H' σ δ')(o:bC K F' H' g' 1000 n [] d v)(h0:∀a,H a=none->H0 a=none):
  ∃ga,FY K H0 F' H' ga n (acc++[d]) (ys++[v]):=by
 have hn:∀a l,g' a=some l->H a=none:=λa l e=>by
  let⟨i,p⟩:=l;rcases R'.lab a i p e with z|⟨q,z⟩
  .exact z
  .cases z
 refine⟨λb=>match g' b with|some (i,p)=>if i=1000 then some (1000,ys.length::p)else none|none=>g b,by simp[A.len],λk d' v' e1 e2=>?_,λa i p e=>?_⟩
 .by_cases hk:k<ys.length
  .rw[ñ (by rw[A.len];exact hk)]at e1
   rw[ñ hk]at e2;refine(A.own k d' v' e1 e2).keep (H:=H) (H':=H') (show aI F F' from R'.f0.2) λa p o z1(z2:H a=some o)z3=>⟨?_,R'.kept a o rfl z2,R'.new a z3 (show H a≠none by rw[z2];simp)⟩;cases z4:g' a with
   |none=>exact z1
   |some l=>rw[hn a l z4]at z2;cases z2
  .have hk':k=ys.length:=by
    have:=(Ð.mp e2).1;rw[Ì,ì]at this;lia
   subst hk';rw[á (Ç _),þ]at e2;rw[<- A.len,á (Ç _),þ]at e1;cases e1;cases e2;have:=bC.relabP (g':=λb=>match g' b with|some (i,p)=>if i=1000 then some (1000,ys.length::p)else none|none=>g b) (j:=1000) (q:=[ys.length]) (λa p e=>by
    show (match g' a with|some (i,p)=>if i=1000 then some (1000,ys.length::p)else none|none=>g a)=_;rw[e];exact Â rfl) o
   exact this
 .cases z:g' a with
  |none=>rw[z]at e;exact A.lab a i p e
  |some l=>exact h0 a (hn a l z)
def QM.turn2{d:D}(T:QM X.K F1 J ds)(R:cN X.K Z ow F H σ δ)(s:aI F1 F)(y:J.yld i H x H')(e:ds[i]?=some d):∃F',aI F F'/\cN X.K Z ow F' H' σ δ/\bG X.K F' d x/\∀a o,H a=some o->F a=none->H' a=some o/\F' a=none:=by
 rcases T.yld i H x H' d (s.trans' R.sub) y e with ⟨rfl,r⟩|⟨p,o,hp,rfl,r⟩
 .exact⟨F,aI.refl _,R,s.rep _ _ r,λa o z1 z2=>⟨z1,z2⟩⟩
 .have fp:=R.fnone hp
  refine⟨bA F p o,cI fp o,R.laid hp,r F s fp,λa u z1 z2=>?_⟩;have:a≠p:=λz=>by rw[z,hp]at z1;cases z1
  rw[aF this,aF this];exact⟨z1,z2⟩
def OU(hz:∀i,ow.getD i 0=0)(i:Nat):'n'.getD i 0=0:=by
 by_cases h:i<k
 .rw[Ê,ñ (by simpa using h),ą]
  split<;>rfl
 .obtain⟨j,rfl⟩:∃j,i=j+k:=⟨i-k,∅⟩
  rw[lX];exact hz j
def TL(h:ow.all (· == 0)=true)(i:Nat):ow.getD i 0=0:=by
 by_cases hl:i<ow.length
 .have:=ç.mp h ow[i] (Č hl)
  rw[Ê,É hl];simpa using this
 .rw[Ê,ä 'C'];rfl
def BC{set:D->DS->Option DS}(m:Nat)(hkd:kd (n+1)=0)(hch:∀k,ch (n+1) k=n)(S:aQ Z ow)(Sk:aQ (Z.sh k) 'n')(hz:∀i,ow.getD i 0=0)(hs:Y9 X (Z.sh k) 'n' k gt set)(q:tD X Z ow (n+1) (dP k set fi dH fe) σ H Q):LA k (tI X Z ow fi) gt (λ_ H Q=>Q true H) (λσ H Q=>∃F0,ĝ X (fV F0 H σ m) 'j' n fe σ H Q) σ H Q:=by
 let⟨F,δ,R,q⟩:=q;unfold dP at q;sleep 4;cases e1:fi δ with
 |stuck=>rw[e1]at q;sleep 5
 |err x δ1=>rw[e1]at q;exact q
 |ok ds δ1=>
  rw[e1]at q;simp![Res.bind]at q;intro J H1 F1 R1 s1 T;have hcase:∃acc δ2,bN set dH fe ds [] (List.replicate k none++δ1)=.ok acc δ2/\k<=δ2.length/\kD X Z ow (n+1) (.ok (.list acc) (δ2.drop k)) F σ Q:=by
   cases e2:bN set dH fe ds [] (List.replicate k none++δ1)with
   |stuck=>rw[e2]at q;sleep 5
   |err x δ2=>rw[e2]at q;sleep 5
   |ok acc δ2=>
    rw[e2]at q;dsimp only at q;split at q
    .rename_i hk;exact⟨acc,δ2,rfl,hk,q⟩
    .sleep 5
  let⟨acc,δ2,e2,hk2,q⟩:=hcase;have hz':∀i,'n'.getD i 0=0:=OU hz;refine⟨λi m ys σ' H'=>m=ds.length-i/\i<=ds.length/\σ'.length=σ.length+k/\(∀i,σ'[i+k]?=σ[i]?)/\∃F2 δ' acc' ga,cN X.K (Z.sh k) 'n' F2 H' σ' δ'/\aI F1 F2/\FY X.K Z.H0 F2 H' ga n acc' ys/\bN set dH fe (ds.drop i) acc' δ'=.ok acc δ2,
   ⟨ds.length,rfl,ó _,by simp;exact Nat.add_comm _ _,λi=>by rw[á 'e',õ,ē],F1,_,[],λ_=>none,R1.sh S,aI.refl _,⟨rfl,λk d v e=>(by cases e),λa i p e=>(by cases e)⟩,e2⟩,?_⟩
  rintro i m' ys σ2 H2 ⟨rfl,hi,hl2,hσ2,F2,δ',acc',ga,R2,s2,A2,e3⟩;by_cases hlt:i<ds.length
  .have ed:=É hlt
   have ee:ds.drop i=ds[i]::ds.drop (i+1):=ö hlt;rw[ee]at e3;unfold bN at e3;cases e4:set ds[i] δ' with
   |none=>simp![e4]at e3;cases e3
   |some δ3=>
    simp![e4]at e3;have e3':((fe δ3).bind λy δ3=>if acc'.length<sizeLine then bN set dH fe (ds.drop (i+1)) (acc'++[y]) δ3 else .stuck)=.ok acc δ2:=e3;cases e6:fe δ3 with
    |stuck=>rw[e6]at e3';cases e3'
    |err x δ5=>rw[e6]at e3';cases e3'
    |ok yd δ5=>
     rw[e6]at e3';simp![Res.bind]at e3';split at e3'
     .rename_i small
      refine .inr ⟨T.go i H2 (s2.trans' R2.sub) hlt,by rw[<- A2.len];exact small,λzs σ'' H''=>σ''.length=σ.length+k/\(∀i,σ''[i+k]?=σ[i]?)/\∃F3 δ' acc' ga,cN X.K (Z.sh k) 'n' F3 H'' σ'' δ'/\aI F1 F3/\FY X.K Z.H0 F3 H'' ga n acc' zs/\bN set dH fe (ds.drop (i+1)) acc' δ'=.ok acc δ2,λzs σ'' H'' z=>⟨ds.length-(i+1),∅,rfl,hlt,z⟩,λx H3 y=>?_⟩
      let⟨F3,s3,R3,r3,k3⟩:=T.turn2 R2 s2 y ed;refine hs F3 H3 σ2 δ' δ3 ds[i] x _ R3 r3 e4 λσ3 R4 l3 _ hσ3=>?_;dsimp only;rw[Â rfl];refine⟨F3,F3,δ3,R4.enter hz',?_⟩;rw[e6];rintro yv H6 F6 ⟨g6,R6,o6⟩ s6;have hl3:σ3.length=σ.length+k:=by exact Eq.trans ‹_› ‹_›
      have hσ4:∀i,σ3[i+k]?=σ[i]?:=λi=>(hσ3 i).trans (hσ2 i);have A3:=A2.keep s3 k3;let⟨ga',A4⟩:=A3.add R6 o6 λa ha=>by
       cases z:Z.H0 a with
       |none=>rfl
       |some u=>
        let⟨g4,R4⟩:=R4;exact absurd ha (R4.there a (by show Z.H0 a≠none;rw[z];simp))
      exact⟨hl3,hσ4,F6,δ5,acc'++[yd],ga',R4.leave hz' R6,s2.trans' (s3.trans' s6),A4,e3'⟩
     .cases e3'
  .have e:i=ds.length:=by lia
   subst e;rw[List.drop_length]at e3;unfold bN at e3;cases e3;refine .inl ⟨T.stop H2 (s2.trans' R2.sub),λp hp=>?_⟩;have R7:cN X.K Z ow F2 H2 σ (δ2.drop k):=R2.unsh S Sk hσ2 hl2 hk2;have fp:=R7.fnone hp;have zp:Z.H0 p=none:=by
    cases z:Z.H0 p with
    |none=>rfl
    |some u=>
     let⟨g4,R4⟩:=R7;exact absurd hp (R4.there p (by rw[z];simp))
   refine q _ _ F2 ⟨λb=>if b=p then some (1000,[])else ga b,(R7.reg hz λa i q e=>?_).grow (cI hp _),?_⟩ (s1.trans' s2)
   .split at e
    .rename_i z;rw[z];exact zp
    .exact A2.lab a i q e
   .refine bC.mkL (hk:=hkd) (hm:=hch) ⟨p,acc,ys,rfl,rfl,Â rfl,aJ,fp,A2.len,λk d v z1 z2=>?_⟩
    refine bC.keep 'p' (λa q o y1 y2 y3=>?_) (A2.own k d v z1 z2);have:a≠p:=λz=>by rw[z,hp]at y2;cases y2
    rw[aF this];exact⟨by rw[Ã this];exact y1,y2,y3⟩
def OV{set:D->DS->Option DS}(m:Nat)(S:aQ Z ow)(Sk:aQ (Z.sh xs.length) 'l')(hc:X.calm=true)(hi:DI X Z ow tg iter fi)(hg:∀C fp s H,PG 'h' tg gt)(hs:Y9 X (Z.sh xs.length) 'l' xs.length gt set)(he:∀C fp s H,∀F1 H1 σ1,DE 'h' (fV F1 H1 σ1 m) 'j' n elt fe)(hz:↥(ow.all (· == 0)=true))(hkd:↥(kd (n+1)=0))(hch: ~~~(∀k,ch (n+1) k=n))(hk:↥(scope.kind=.function))(hok:↥(dS X.N xs scope.names X.env.scope.names=true))(hfs: ~~~(Zfi iter X.env)):
  DE X Z ow (n+1) (.ListComp elt [⟨tg,iter,[],0⟩] scope pos) (dP xs.length set fi dH fe):=
 PE.mono (FA (ti:=λ_ H Q=>Q true H) (te:=λσ H Q=>∃F0,ĝ X (fV F0 H σ m) 'j' n fe σ H Q) hc hi hg (λC fp s H=>B5) (λC fp s H U s' σ H' Q I zQ=>by let⟨F0,h⟩:=zQ;exact he C fp s H F0 H' σ U s' σ H' Q I (LN (X:=X) (X':=aT X xs scope C fp s H) rfl h)) hk hok hfs)
  λ_ _ _ q=>BC m hkd hch S Sk (TL hz) hs q
end
end L2
namespace L2
open PySem PySem.Spec
section
def TM(ow:ZH)(i:Nat)(o:Option (ZL))(k:D)(op:ZI->ZI->Option (D×ZI))(fs:List (M D))(δ:DS)(Q:D->ZO)(_w:Wt Q:=⟨⟩):Prop:=
 ∃ds n j inner,o=some 'w'/\k=.int n/\lK ds.length n=some j/\ds[j]?=some (.list inner)/\aY (aZ fs) (BB ow δ) λargs _=>∃ret inner',op inner args=some (ret,inner')/\Q ret (δ.set i (some (.list (ds.set j (.list inner')))))
def JT:aY (kM ow i fk op fs) δ Q=aY fk δ λk _=>TM ow i δ[i]? k op fs δ Q:=by
 refine propext ⟨λh=>?_,λh=>?_⟩
 .obtain⟨d,δ1,e,q⟩:=h.ex
  let⟨ds,n,δ2,j,inner,args,δ3,inner',e1,e2,e3,e4,e5,e6,rfl⟩:=xG e;exact aY.of e2 ⟨ds,n,j,inner,e1,rfl,e3,e4,aY.of e5 ⟨d,inner',e6,q⟩⟩
 .obtain⟨k,δ2,e2,q⟩:=h.ex
  let⟨ds,n,j,inner,e1,rfl,e3,e4,w⟩:=q;let⟨args,δ3,e5,ret,inner',e6,q⟩:=w.ex;refine aY.of (a:=ret) (δ1:=δ.set i (some (.list (ds.set j (.list inner'))))) ?_ q;unfold kM;rw[e1];dsimp only;rw[e2];dsimp only;rw[e3];dsimp only;rw[e4];dsimp only;rw[e5];dsimp only;rw[e6]
def MB(o:Option (D×ZI))(ds:ZI)(j i:Nat)(δ:DS)(Q:D->ZO)(_w:Wt Q:=⟨⟩):Prop:=∃ret inner',o=some (ret,inner')/\Q ret (δ.set i (some (.list (ds.set j (.list inner')))))
def JU{ds inner:ZI}(e3:lK ds.length n=some j)(e4:ds[j]?=some (.list inner)):TM ow i (some 'w') (.int n) op fs δ Q=aY (aZ fs) (BB ow δ) λargs _=>MB (op inner args) ds j i δ Q:=by
 unfold TM MB;refine propext ⟨λh=>?_,λh=>?_⟩
 .obtain⟨ds',n',j',inner',h1,h2,h3,h4,w⟩:=h
  cases h1;cases h2;rw[e3]at h3;cases h3;rw[e4]at h4;cases h4;exact w
 .exact⟨ds,n,j,inner,rfl,rfl,e3,e4,h⟩
def aGV:MB (some (r,l)) ds j i δ Q=Q r (δ.set i (some (.list (ds.set j (.list l))))):=propext ⟨λ⟨_,_,h,q⟩=>by cases h;exact q,λq=>⟨_,_,rfl,q⟩⟩
def TN{d:D}:MB (JH l [d]) ds j i δ Q=(l.length<sizeLine/\Q .none (δ.set i (some (.list (ds.set j (.list (l++[d]))))))):=by
 refine propext ⟨λzQ=>?_,λzQ=>by let⟨h,p⟩:=zQ;exact ⟨_,_,Â h,p⟩⟩;let⟨r,d2,h,p⟩:=zQ;unfold JH at h;dsimp only at h;split at h
 .rename_i hc;cases h;exact⟨hc,p⟩
 .cases h
end
end L2
namespace L2
open PySem PySem.Spec PyProof.Rows
end L2
namespace L2
open PySem PySem.Spec
end L2
namespace L2
open PySem PySem.Spec PyProof.Rows
section
end
end L2
namespace L2
open PySem PySem.Spec
end L2
namespace L2
open PySem PySem.Spec PyProof.Rows
section
end
section
end
def Ŵ(K:ZC)(a:Addr)(n:Nat):It:=
 ⟨λi H=>∃xs,eE K H a xs/\xs.length=n/\i<n,
   λi H v H'=>H'=H/\∀xs,eE K H a xs->xs[xs.length-1-i]?=some v,
   λi H=>i=n/\∃xs,eE K H a xs⟩
def TQ{P:Program}{w:World}{K:ZC}{tg:Expr}(a it:Addr)(n:Nat):E0 P w K tg (Ŵ K a n) [it] it (λi h=>i<=n/\h.IsRevIter it a ((n:Int)-1-(i:Int))) where
 mem:=by simp
 obj:=λi h st b hb=>by
  have e:b=it:=by simpa using hb
  subst e;let⟨_,o,e,c,d⟩:=st;exact⟨o,e,λv z=>by rw[d]at z;cases z⟩
 keep:=λi h h' st k=>⟨st.1,st.2.at λo e=>k it 'e' o e⟩
 item:=by
  sleep 2;let⟨xs,hq,hl,hi⟩:=hg;subst hl;let⟨its,rv,p,hz⟩:=I.list hq;have hx:xs[xs.length-1-i]?=some (xs[xs.length-1-i]'(by omega)):=É (by omega);let⟨u,hu,ru⟩:=rv.get hx;let⟨f0,f1,f2,f3,f4,f5⟩:=hf it 'e';have e0:(xs.length:Int)-1-(i:Int)=((xs.length-1-i:Nat):Int):=by omega
  have st2:=st.2;rw[e0]at st2;refine wpAny_pyNext_rev_item st2 p.isList (x:=u) (by simpa using hu) λh' st' sb=>?_;have I1:Inv X U σ H {s with heap:=h'}:=I.turned (t':=s.toks) (λb o hb e=>(sb.2 b hb).trans e) f0 f1 f3 f4 f5;have e2:((xs.length-1-i:Nat):Int)-1=(xs.length:Int)-1-((i+1:Nat):Int):=by omega
  rw[e2]at st';let⟨o,e,c,d⟩:=id st';exact⟨u,rfl,E1 (s:={s with heap:=h'}) e c d ⋯ ⟨xs[xs.length-1-i]'(by omega),H,I1,ru,⟨rfl,λys hy=>by rw[I.list_inj hy hq];exact hx⟩,⟨hi,st'⟩,λb hb=>(hf b hb).1⟩⟩
 done:=by
  sleep 2;let⟨rfl,xs,hq⟩:=hg;let⟨f0,f1,f2,f3,f4,f5⟩:=hf it 'e';have st2:=st.2;rw[show (i:Int)-1-(i:Int)=-1 by omega]at st2;exact wpAny_pyNext_rev_end (I.ok.hd hc) st2 λh' eb=>⟨rfl,I.turned (t':=s.toks) (λb o hb e=>eb b o hb e) f0 f1 f3 f4 f5⟩
 self:=λ_ _ _ _ _ st h=>wpAny_pyIter_revIter st.2 h
section
def zW:bootBuiltins "reversed"=some (.type "reversed"):=by first|rfl|kernel_rfl|decide +kernel
def aNW(K:ZC)(ta:TA):TI:=λσ H R=>ta σ H λvs H1=>∃a xs,vs=[.ref a]/\eE K H1 a xs/\R (Ŵ K a xs.length) H1
def aGW(hg:Gl X "reversed")(hm:X.mg "reversed"=none)(ha:PA X [a] ta)(hs:↥(starEach [a] X.env=[(false,eval a X.env)])):
  PI X tg (.Call (.Name "reversed" p) [a] [] pos) (aNW X.K ta):=by
 intro U s σ H R I h;refine Call_ (iK I hg hm zW (callWith_type1 (cM (ha pos U s σ H _ I h) λus s1 zQ=>?_) hs rfl));let⟨vs,H1,I1,r1,q1⟩:=zQ;let⟨l,xs,e,hx,q⟩:=q1;subst e;cases r1 with
 |cons r rr=>
  cases rr;cases r;let⟨ia,ra,pa,_⟩:=I1.list hx;have la:=ra.length;refine call_reversed_list pa.isList ?_;have st:(s1.heap.push (revObj l ((ia.toArray.size:Int)-1))).IsRevIter s1.heap.objs.size l ((xs.length:Int)-1-((0:Nat):Int)):=⟨_,Heap.get?_push_size _ rfl,rfl,by
   show Data.fields #[.ref l,rawInt ((ia.toArray.size:Int)-1)]=_;rw[ð,<- la];simp⟩
  refine wpAny_pyIter_revIter (s:={s1 with heap:=s1.heap.push (revObj l ((ia.toArray.size:Int)-1))}) st ?_;refine⟨s1.heap.objs.size,[s1.heap.objs.size],_,_,H1,rfl,I1.kept (t':=s1.toks) λb o e=>Heap.get?_push_of_some _ e,TQ l _ xs.length,⟨ó _,st⟩,λb hb=>?_,q⟩;have e:b=s1.heap.objs.size:=by simpa using hb
  subst e;exact I1.fpOk (Ç _) (I1.hok.fresh (Ç _))
end
def aAI{K:ZC}{F:Hp}{a:Addr}{xs:List V}{ds:ZI}(hx:eE K F a xs)(rx:aD K F ds xs):QM K F (Ŵ K a xs.length) ds.reverse where
 go:=λi H s hi=>by
  have l1:=rx.len;rw[List.length_reverse]at hi;exact⟨xs,s.seq hx,rfl,by omega⟩
 yld:=λi H v H' d s y e=>.inl ⟨y.1,by
  have l1:=rx.len;have hi:=(Ð.mp e).1;rw[List.length_reverse]at hi;rw[List.getElem?_reverse hi]at e;let⟨x',f1,g1⟩:=rx.get e;have:=y.2 xs (s.seq hx);rw[<- l1,f1]at this;cases this;exact g1⟩
 stop:=λH s=>⟨by rw[List.length_reverse,rx.len],xs,s.seq hx⟩
def ņ(f:M D):M (ZI):=λδ=>(aZ [f] δ).bind λds δ1=>match ds with
 |[.list as]=>.ok as.reverse δ1
 |_=>.stuck
section
def aGX(hgl:Gl X "reversed")(hm:X.mg "reversed"=none)(ha:DE X Z ow 0 a f)(hst:↥(Zse a [] X.env)):
  DI X Z ow tg (.Call (.Name "reversed" p2) [a] [] p3) (ņ f):=
 (aGW hgl hm (aE ha aV hst) hst).mono λσ H R q=>by
  let⟨F,δ,Rl,q⟩:=q;unfold ņ at q;refine⟨F,δ,Rl,?_⟩;cases e1:aZ [f] δ with
  |stuck=>rw[e1]at q;sleep 5
  |err x δ1=>rw[e1]at q;exact q
  |ok ds δ1=>
   rw[e1]at q;simp![Res.bind]at q;intro vs H1 F1 R1 s1 ra;split at q
   .rename_i as
    let⟨v,rfl,r⟩:=vK ra;let⟨l,xs,rfl,hp,hr⟩:=kL r;exact⟨l,xs,rfl,R1.sub.seq hp,q _ H1 F1 R1 s1 (aAI hp hr)⟩
   .sleep 5
end
section
end
section
end
def jH(f:Str):ZG->Nat
 |[]=>0
 |g::r=>if g=f then 0 else jH f r+1
def zX(f:Str):ZG->ZG
 |[]=>[f]
 |g::r=>if g=f then g::r else g::zX f r
def vN{α:Type}(k:Nat)(y:α)(xs:List α):(List α):=if k<xs.length then xs.set k y else xs++[y]
def TR :∀{fs:ZG},jH f fs<=fs.length
 |[]=>Ç _
 |g::r=>by
  unfold jH;split
  .exact ó _
  .have:=TR (f:=f) (fs:=r);rw[Ó];exact Nat.lt_succ_of_le ‹_›
def BD{xs:List α}:vN (k+1) y (x::xs)=x::vN k y xs:=by
 unfold vN;by_cases h:k<xs.length
 .rw[Â (by rw[Ó];exact Nat.succ_lt_succ ‹_›),Â h];rfl
 .rw[Ã (by rw[Ó];lia),Ã h];rfl
def xH{xs:List α}:(vN k y xs).length=if k<xs.length then xs.length else xs.length+1:=by
 unfold vN;split
 .rw[Ú]
 .rw[Ì];rfl
def MC{xs:List α}(h:k<=xs.length)(j:Nat):(vN k y xs)[j]?=if j=k then some y else xs[j]?:=by
 unfold vN;by_cases hk:k<xs.length
 .rw[Â hk]
  by_cases hj:j=k
  .subst hj;rw[Â rfl,ë hk]
  .rw[Ã hj,Þ (Ñ hj)]
 .rw[Ã hk]
  have:k=xs.length:=by lia
  subst this;by_cases hj:j=xs.length
  .subst hj;rw[Â rfl,á (Ç _),þ];rfl
  .rw[Ã hj]
   by_cases hl:j<xs.length
   .rw[ñ hl]
   .rw[ä (by rw[Ì,ì];lia),ä 'C']
def FZ :∀{fs:ZG},(zX f fs).length=if jH f fs<fs.length then fs.length else fs.length+1
 |[]=>rfl
 |g::r=>by
  unfold zX jH;by_cases h:g=f
  .rw[Â h,Â h,Â (by rw[Ó];exact Ċ _)]
  .rw[Ã h,Ã h,Ó,FZ (f:=f) (fs:=r),Ó]
   by_cases q:jH f r<r.length
   .rw[Â q,Â (by exact Nat.succ_lt_succ ‹_›)]
   .rw[Ã q,Ã ∅]
def iY :∀{fs:ZG}{vs:List V},fs.length=vs.length->(fs.zip vs).lookup f=vs[jH f fs]?
 |[],[],_=>rfl
 |g::fs,v::vs,h=>by
  rw[â];unfold jH;by_cases e:g=f
  .rw[Â e,æ,show (f == g)=true by rw[e];exact beq_self_eq_true _]
   rfl
  .rw[Ã e,æ,show (f == g)=false from beq_eq_false_iff_ne.mpr (Ñ e),List.getElem?_cons_succ]
   exact iY (by simpa using h)
def F7 :∀{fs:ZG}{vs:List V},fs.length=vs.length->kB f y (fs.zip vs)=(zX f fs).zip (vN (jH f fs) y vs)
 |[],[],_=>rfl
 |g::fs,v::vs,h=>by
  rw[â];unfold kB zX jH;by_cases e:g=f
  .rw[Â e,Â e,Â e];rfl
  .rw[Ã e,Ã e,Ã e,BD,â,F7 (by simpa using h)]
def l4(f:Str):List (D×D)->ZL
 |(.str g,d)::r=>if g=f then some d else l4 f r
 |_=>none
def oX(f:Str):List (D×D)->Nat
 |(.str g,_)::r=>if g=f then 0 else oX f r+1
 |_=>0
def pK(f:Str)(y:D):List (D×D)->List (D×D)
 |(.str g,d)::r=>if g=f then (.str g,y)::r else (.str g,d)::pK f y r
 |_=>[(.str f,y)]
def nC :∀{fs:ZG}{ds:ZI},fs.length=ds.length->l4 f ((fs.map PyData.str).zip ds)=ds[jH f fs]?
 |[],[],_=>rfl
 |g::fs,v::vs,h=>by
  rw[Ï,â];unfold l4 jH;by_cases e:g=f
  .rw[Â e,Â e];rfl
  .rw[Ã e,Ã e,List.getElem?_cons_succ]
   exact nC (by simpa using h)
def rZ :∀{fs:ZG}{ds:ZI},fs.length=ds.length->oX f ((fs.map PyData.str).zip ds)=jH f fs
 |[],[],_=>rfl
 |g::fs,v::vs,h=>by
  rw[Ï,â];unfold oX jH;rw[rZ (by simpa using h)]
def tY :∀{fs:ZG}{ds:ZI},fs.length=ds.length->pK f y ((fs.map PyData.str).zip ds)=((zX f fs).map PyData.str).zip (vN (jH f fs) y ds)
 |[],[],_=>rfl
 |g::fs,v::vs,h=>by
  rw[Ï,â];unfold pK zX jH;by_cases e:g=f
  .rw[Â e,Â e,Â e];rfl
  .rw[Ã e,Ã e,Ã e,BD,Ï,â,tY (by simpa using h)]
def gM(nm f:Str):D->ZL
 |.dict ((.none,.str n)::À)=>if n=nm then l4 f À else none
 |_=>none
section
variable {X:Cx}{Z:bT}{ow:ZH}{pos:Pos}{e a c:Expr}{h:M D}{F H:Hp}{g:ZP}{K:ZC}{nm f:Str}
def TU(K:ZC)(nm f:Str):Prop:=∀C,W.nsIn K mainGlobals nm=some (some (.ref C))->QJ K C/\lI K C f
def F8:∀{À:List (D×D)}{fs:ZG},À.map Prod.fst=fs.map PyData.str->À=(fs.map PyData.str).zip (À.map Prod.snd)
 |[],[],_=>rfl
 |(k,d)::À,g::fs,h=>by
  rw[Ï,Ï]at h;injection h with h1 h2;rw[Ï,Ï,â,<- F8 h2];exact congrArg (λk=>(k,d)::À) h1
def MD{d r:D}(h:bG K F d v)(e:gM nm f d=some r):∃a C dx fs y,v=.ref a/\F a=some (.ins C dx fs)/\W.nsIn K mainGlobals nm=some (some (.ref C))/\fs.lookup f=some y/\bG K F r y:=by
 unfold gM at e;split at e
 .rename_i n À
  split at e
  .rename_i hn
   subst hn;unfold bG at h;let⟨a,xs,rfl,hh,hr⟩:=h;rcases hh with ⟨nm',fs,C,dx,vs,h1,h2,h3,h4,h5,h6⟩|⟨ms,h1,_⟩
   .subst h1
    rw[Ï]at h2;injection h2 with _ h2;unfold hZ at hr;let⟨x,t,hx,r1,r2⟩:=hr;injection hx with hx1 hx2;subst hx2;unfold bG at r1;rw[<- hx1]at r1;injection r1 with r1;subst r1;rw[F8 h2]at e;have hl:fs.length=(À.map Prod.snd).length:=by rw[<- Ä (f:=PyData.str),<- h2,Ä,Ä]
    rw[nC hl]at e;let⟨y,y1,y2⟩:=r2.all.get e;exact⟨a,C,dx,_,y,rfl,h4,h6,by rw[iY h3];exact y1,y2⟩
   .exfalso
    rw[Ï]at h1;cases ms with
    |nil=>cases h1
    |cons m ms=>
     rw[Ï]at h1;injection h1 with h1 _;cases m<;>cases h1
  .cases e
 .cases e
def dL(nm:Str)(hc:TU X.K nm f)(ha:DE X Z ow 0 e fe)(hb:↥(attributeBase e f X.env (eval e X.env)=eval e X.env)):DE X Z ow 0 (.Attribute e f pos) (CN (gM nm f) fe):=PE.mono (BX ha hb) λσ H Q q=>by
 let⟨F,δ,R,q⟩:=q;unfold CN at q;sleep 4;cases e1:fe δ with
 |stuck=>rw[e1]at q;sleep 5
 |err x δ1=>rw[e1]at q;exact q
 |ok d δ1=>
  rw[e1]at q;simp![Res.bind]at q;intro v H1 F1 R1 s1;cases e2:gM nm f d with
  |none=>rw[e2]at q;sleep 5
  |some r=>
   rw[e2]at q;let⟨a,C,dx,fs,y,rfl,h1,h2,h3,h4⟩:=MD R1.rep e2;let⟨c1,c2⟩:=hc C h2;exact⟨a,C,dx,fs,y,rfl,R1.rel.sub _ _ h1,c1,c2,h3,q y H1 F1 (R1.rel.x h4) s1⟩
def bC.ins{i c:Nat}(h:bC K F H g i c p d v)(hk:kd c=2):
  ∃a nm fs C dx ds vs,d=dD nm fs ds/\v=.ref a/\fs.length=ds.length/\ds.length=vs.length/\W.nsIn K mainGlobals nm=some (some (.ref C))/\g a=some (i,p)/\H a=some (.ins C dx (fs.zip vs))/\F a=none/\g dx=some (i,p++[1000])/\H dx=some (.own a)/\F dx=none /\
   ∀(k:Nat)(d':D)(v':V),ds[k]?=some d'->vs[k]?=some v'->bC K F H g i (ch c k) (p++[k]) d' v':=by
 cases c with
 |zero=>cases hk
 |succ c=>
  let⟨ds,vs,cs,nd,hc,hl,r⟩:=h.open;rw[hk]at nd;let⟨a,nm,fs,C,dx,h1,h2,h3,h4,rfl⟩:=nd;let⟨a1,a2,a3⟩:=hc _ Õ;let⟨b1,b2,b3⟩:=hc _ (Ò _ (í.mpr rfl));exact⟨a,nm,fs,C,dx,ds,vs,h1,h2,h3,hl,h4,by simpa using a1,a2,a3,b1,b2,b3,r⟩
def bC.mkI{i c:Nat}{p:ZH}{a C dx:Addr}{fs:ZG}{ds:ZI}{vs:List V}(hk:kd c=2)(h3:fs.length=ds.length)(hl:ds.length=vs.length)(h4:W.nsIn K mainGlobals nm=some (some (.ref C)))(a1:g a=some (i,p))(a2:H a=some (.ins C dx (fs.zip vs)))(a3:F a=none)(b1:g dx=some (i,p++[1000]))(b2:H dx=some (.own a))(b3:F dx=none)(r:∀(k:Nat)(d':D)(v':V),ds[k]?=some d'->vs[k]?=some v'->bC K F H g i (ch c k) (p++[k]) d' v'):bC K F H g i c p (dD nm fs ds) (.ref a):=by
 cases c with
 |zero=>cases hk
 |succ c=>
  refine bC.shut (ds:=ds) (vs:=vs) (cs:=[(a,[],.ins C dx (fs.zip vs)),(dx,[1000],.own a)]) (by rw[hk];exact⟨a,nm,fs,C,dx,rfl,rfl,h3,h4,rfl⟩) (λx hx=>?_) hl r
  rcases Ë.mp hx with z|z
  .subst z;exact⟨by simpa using a1,a2,a3⟩
  .rw[í.mp z];exact⟨b1,b2,b3⟩
def F9(i c:Nat)(nm f:Str):M D:=λδ=>match δ[i]? with
 |some (some (.dict ((.none,.str n)::À)))=>if n=nm/\ch c (oX f À)=0 then (match l4 f À with
  |some r=>.ok r δ
  |none=>.stuck)else .stuck
 |_=>.stuck
def oG{n:Str}{À:List (D×D)}(h:(PyData.dict ((.none,.str n)::À):D)=dD nm fs ds):n=nm/\À=(fs.map PyData.str).zip ds:=by
 unfold dD at h;injection h with h;injection h with h1 h2;injection h1 with _ h1;injection h1 with h1;exact⟨h1,h2⟩
def oH(i:Nat)(nm:Str){c:Nat}{x:Str}{p:Pos}(hc:TU X.K nm f)(ho:↥(ow.getD i 0=c))(hk:↥(kd c=2))(hN:↥'t')(hv:#v[AJ X.env.scope x])(hd:⇑(Zdb x))(hcd:⇑(Zcd x))(hb:↥(attributeBase 'g' f X.env (eval 'g' X.env)=eval 'g' X.env)):DE X Z ow 0 (.Attribute 'g' f pos) (F9 i c nm f):=PE.mono (BX (dQ hN hv hd hcd) hb) λσ H Q q=>by
 let⟨F,δ,⟨g,R⟩,q⟩:=q;unfold F9 at q;split at q
 .rename_i n À e0
  split at q
  .rename_i hn
   let⟨rfl,hch⟩:=hn;cases e1:l4 f À with
   |none=>rw[e1]at q;sleep 5
   |some r=>
    rw[e1]at q;let⟨v,w1,o⟩:=R.slot i _ e0;rw[ho]at o;let⟨a,nm',fs,C,dx,ds,vs,d1,rfl,l1,l2,hC,_,hH,_,_,_,_,hch'⟩:=o.ins hk;let⟨rfl,rfl⟩:=oG d1;rw[nC l1]at e1;rw[rZ l1]at hch;have hlt:jH f fs<vs.length:=by have:=(Ð.mp e1).1;exact ú ‹_› ‹_›
    have o1:=hch' _ _ _ e1 (É hlt);rw[hch]at o1;let⟨c1,c2⟩:=hc C hC;refine⟨_,w1,a,C,dx,_,vs[jH f fs],rfl,hH,c1,c2,?_,q _ H F ⟨g,R,o1⟩ λ_ _ z=>z⟩;rw[iY (by exact Eq.trans ‹_› ‹_›)];exact É hlt
  .sleep 5
 .sleep 5
end
section
variable {X:Cx}{Z:bT}{ow ol ox:ZH}{n rm c i:Nat}{pos:Pos}{e:Expr}{fe:M D}{F H:Hp}{σ:St}{δ:DS}{g:ZP}{K:ZC}{nm f:Str}
def C4(S:aQ Z ow)(h:ow.getD i 0≠0):i<1000:=by
 by_cases hl:i<ow.length
 .exact Ö hl S.ow
 .exact absurd (by rw[Ê,ä 'C'];rfl) h
def aKN(hk:kd c=2):c≠0:=λz=>by rw[z]at hk;cases hk
def vY:∀{xs ys:ZG},xs.map PyData.str=ys.map PyData.str->xs=ys
 |[],[],_=>rfl
 |x::xs,y::ys,h=>by
  rw[Ï,Ï]at h;injection h with h1 h2;injection h1 with h1;rw[h1,vY h2]
def f8.putFld(S:aQ Z ow)(R:f8 K Z ow n d v F H σ δ)(ho:ow.getD i 0=c)(hk:kd c=2)(hd:δ[i]?=some (some (dD nm fs ds)))(hl:fs.length=ds.length)(hs:σ[i]?=some (some (.ref a)))(hch:ch c (jH f fs)=n):
  ∃C dx vs,fs.length=vs.length/\W.nsIn K mainGlobals nm=some (some (.ref C))/\H a=some (.ins C dx (fs.zip vs))/\cN K Z ow F (bA H a (.ins C dx (kB f v (fs.zip vs)))) σ (δ.set i (some (dD nm (zX f fs) (vN (jH f fs) d ds)))):=by
 let⟨g,R,oh⟩:=R;let⟨v1,w1,o⟩:=R.slot i _ hd;rw[hs]at w1;cases w1;rw[ho]at o;have i1:i<1000:=C4 S (by rw[ho];exact aKN hk);let⟨a',nm',fs',C,dx,ds',vs,d1,ea,l1,l2,hC,a1,a2,a3,b1,b2,b3,hch'⟩:=o.ins hk;cases ea;let⟨rfl,ez⟩:=oG (nm:=nm') (n:=nm) (À:=(fs.map PyData.str).zip ds) d1;have efs:fs=fs':=by
  have:=congrArg (List.map Prod.fst) ez;rw[Ē (by rw[Ä];exact ý ‹_›),Ē (by rw[Ä];exact ý ‹_›)]at this;exact vY this
 have eds:ds=ds':=by
  have:=congrArg (List.map Prod.snd) ez;rw[đ (by rw[Ä];lia),đ (by rw[Ä];lia)]at this;exact this
 subst efs eds;have hi:i<δ.length:=(Ð.mp hd).1;have nda:dx≠a:=λz=>by rw[z,a1]at b1;cases b1
 refine⟨C,dx,vs,by exact Eq.trans ‹_› ‹_›,hC,a2,λb=>match g b with|some (m,p)=>if m=1000 then some (i,jH f fs::p)else some (m,p)|none=>none,λb u e=>?_,R.f0,λb u m e=>?_,R.new,λb z=>?_,λb m p e=>?_,by rw[Ú];exact R.len,R.par,λj d' e=>?_⟩
 .have:b≠a:=λz=>by rw[z,a3]at e;cases e
  rw[aF this];exact R.sub b u e
 .have:b≠a:=λz=>by
   subst z;rcases R.lab b i [] a1 with w|⟨q,w⟩
   .rw[w]at e;cases e
   .rw[w]at m;cases m
  rw[aF this];exact R.kept b u m e
 .by_cases hb:b=a
  .subst hb;rw[aJ];simp
  .rw[aF hb];exact R.there b z
 .cases eg:g b with
  |none=>rw[eg]at e;cases e
  |some l=>
   let⟨m',p'⟩:=l;rw[eg]at e;dsimp only at e;split at e
   .rename_i hm
    subst hm;rcases R.lab b 1000 p' eg with w|⟨q,w⟩
    .exact .inl w
    .exact absurd (Z.wf b 1000 q w) S.ps
   .cases e;exact R.lab b m p eg
 .have rl:∀{m:Nat},m≠1000->∀b p,g b=some (m,p)->(match g b with|some (m,p)=>if m=1000 then some (i,jH f fs::p)else some (m,p)|none=>none)=some (m,p):=λhm b p e=>by rw[e];exact Ã hm
  by_cases hj:j=i
  .subst hj
   rw[ë hi]at e;cases e;refine⟨_,hs,?_⟩;rw[ho];have ile:jH f fs<=ds.length:=by have:=TR (f:=f) (fs:=fs);lia
   refine bC.mkI (C:=C) (dx:=dx) (vs:=vN (jH f fs) v vs) hk ?_ ?_ hC (rl (by exact Í ‹_›) _ _ a1) (by rw[aJ,F7 (by exact Eq.trans ‹_› ‹_›)]) a3 (rl (by exact Í ‹_›) _ _ b1) (by rw[aF nda];exact b2) b3 λk d' v' z1 z2=>?_
   .rw[FZ,xH,hl]
   .rw[xH,xH,l2]
   .rw[MC ile]at z1
    rw[MC ∅]at z2;by_cases hk':k=jH f fs
    .subst hk'
     rw[Â rfl]at z1 z2;cases z1;cases z2;rw[hch];have:=bC.relabP (q:=[jH f fs]) (j:=j) (g':=λb=>match g b with|some (m,p)=>if m=1000 then some (j,jH f fs::p)else some (m,p)|none=>none) (λb p e=>by rw[e];exact Â rfl) (bC.updNe (o:=.ins C dx (kB f v (fs.zip vs))) a1 (.inl (by exact ß ‹_›)) oh);rw[ò]at this;exact this
    .rw[Ã hk']at z1 z2
     refine bC.relab (rl (by exact Í ‹_›)) (bC.updNe a1 (.inr λw=>?_) (hch' k d' v' z1 z2));let⟨t,ht⟩:=w;cases ht
  .rw[Þ (Ñ hj)]at e
   let⟨v',e1,o'⟩:=R.slot j d' e;refine⟨v',e1,?_⟩;by_cases hz:ow.getD j 0=0
   .rw[hz]at o'⊢;exact o'
   .have j1:j<1000:=C4 S hz
    exact bC.relab (rl (by exact Í ‹_›)) (bC.updNe a1 (.inl hj) o')
def r9(i c n:Nat)(nm f:Str)(fe:M D):M Fl:=λδ=>(fe δ).bind λy δ1=>match δ1[i]? with
 |some (some (.dict ((.none,.str m)::À)))=>if m=nm/\ch c (oX f À)=n/\À.length<1000 then .ok .next (δ1.set i (some (.dict ((.none,.str m)::pK f y À))))else .stuck
 |_=>.stuck
def GA{À:List (D×D)}(R:bU K Z ow g F H σ δ)(ho:ow.getD i 0=c)(hk:kd c=2)(hd:δ[i]?=some (some (.dict ((.none,.str m)::À)))):∃(a:Addr)(fs:ZG)(ds:ZI),À=(fs.map PyData.str).zip ds/\fs.length=ds.length/\σ[i]?=some (some (.ref a)):=by
 let⟨v1,w1,o⟩:=R.slot i _ hd;rw[ho]at o;let⟨a',nm',fs',C,dx,ds',vs,d1,ea,l1,_⟩:=o.ins hk;subst ea;let⟨_,ez⟩:=oG d1;exact⟨a',fs',ds',ez,l1,w1⟩
def nD(i:Nat)(nm:Str){x:Str}{p pos':Pos}(S:aQ Z ow)(hc:TU X.K nm f)(hv:DE X Z ow n e fe)(ho:↥(ow.getD i 0=c))(hk:↥(kd c=2))(hN:↥'t')(hvi:#v[AJ X.env.scope x])(hd:⇑(Zdb x))(hcd:⇑(Zcd x))(hs:↥(swapsWith e (some (.Attribute 'g' f pos')) pos.line X.env=pure false)):CC X Z ow ow ol ox rm (.Assign [.Attribute 'g' f pos'] e pos) (r9 i c n nm f fe):=PS.mono (aEX (dQ hN hvi hd hcd) hv hs) λDn σ H h=>by
 let⟨F,δ,R,h⟩:=h;unfold r9 at h;sleep 4;cases e1:fe δ with
 |stuck=>rw[e1]at h;exact h.elim
 |err y δ1=>rw[e1]at h;exact iM.cast h
 |ok dv δ1=>
  rw[e1]at h;sleep 8;intro v H1 F1 R1 s1;split at h
  .rename_i m À e0
   split at h
   .rename_i hh
    let⟨rfl,hch,hlt⟩:=hh;let⟨g1,RG,o1⟩:=R1;let⟨a,fs,ds,rfl,l1,w1⟩:=GA RG ho hk e0;rw[rZ l1]at hch;let⟨C,dx,vs,l3,hC,hH,R2⟩:=f8.putFld (f:=f) S ⟨g1,RG,o1⟩ ho hk (show δ1[i]?=some (some (dD m fs ds))from e0) l1 w1 hch;let⟨c1,c2⟩:=hc C hC;rw[é,Ä]at hlt;refine⟨_,w1,a,C,dx,_,rfl,hH,c1,c2,by rw[é];lia,?_⟩;rw[tY l1]at h;exact h σ _ F1 R2 s1
   .exact h.elim
  .exact h.elim
end
def ME :∀{fs:ZG},jH f fs<fs.length->zX f fs=fs
 |g::r,h=>by
  unfold zX;unfold jH at h;by_cases e:g=f
  .rw[Â e]
  .rw[Ã e]at h
   rw[Ã e,ME (by rw[Ó]at h;exact Nat.le_of_lt_succ ‹_›)]
section
variable {X:Cx}{Z:bT}{ow ol ox:ZH}{rm c i:Nat}{pos spos tpos:Pos}{e:Expr}{fk fv:M D}{F H:Hp}{σ:St}{δ:DS}{g:ZP}{K:ZC}{nm f:Str}
def bU.atF(R:bU K Z ow g F H σ δ)(ho:ow.getD i 0=c)(hk:kd c=2)(hd:δ[i]?=some (some (dD nm fs ds)))(hl:fs.length=ds.length)(hch:ch c (jH f fs)=1)(hj:ds[jH f fs]?=some (.list inner)):
  ∃a C dx vs b ws,σ[i]?=some (some (.ref a))/\W.nsIn K mainGlobals nm=some (some (.ref C))/\H a=some (.ins C dx (fs.zip vs))/\fs.length=vs.length/\vs[jH f fs]?=some (.ref b)/\H b=some (.lst ws)/\aD K F inner ws/\g b=some (i,[jH f fs]):=by
 let⟨v1,w1,o⟩:=R.slot i _ hd;rw[ho]at o;let⟨a,nm',fs',C,dx,ds',vs,d1,ea,l1,l2,hC,a1,a2,a3,b1,b2,b3,hch'⟩:=o.ins hk;subst ea;let⟨rfl,ez⟩:=oG (nm:=nm') (n:=nm) (À:=(fs.map PyData.str).zip ds) d1;have efs:fs=fs':=by
  have:=congrArg (List.map Prod.fst) ez;rw[Ē (by rw[Ä];exact ý ‹_›),Ē (by rw[Ä];exact ý ‹_›)]at this;exact vY this
 have eds:ds=ds':=by
  have:=congrArg (List.map Prod.snd) ez;rw[đ (by rw[Ä];lia),đ (by rw[Ä];lia)]at this;exact this
 subst efs eds;have jl:jH f fs<vs.length:=by have:=(Ð.mp hj).1;exact ú ‹_› ‹_›
 have o2:=hch' _ _ _ hj (É jl);rw[hch]at o2;let⟨b,inner',ws,y1,y2,y3,y4,y5,y6,y7⟩:=o2.lst (m:=0);cases y1;exact⟨a,C,dx,vs,b,ws,w1,hC,a2,by exact Eq.trans ‹_› ‹_›,by rw[É jl,y2],y4,aD.of y6 y7,y3⟩
def bU.rewriteF(R:bU K Z ow g F H σ δ)(ho:ow.getD i 0=c)(hk:kd c=2)(hd:δ[i]?=some (some (dD nm fs ds)))(hl:fs.length=ds.length)(hch:ch c (jH f fs)=1)(hj:ds[jH f fs]?=some (.list inner))(hs:σ[i]?=some (some (.ref a)))(ha:H a=some (.ins C dx (fs.zip vs)))(hb:vs[jH f fs]?=some (.ref b))(hvl:fs.length=vs.length)(hr:aD K F inner' ws'):bU K Z ow g F (bA H b (.lst ws')) σ (δ.set i (some (dD nm fs (ds.set (jH f fs) (.list inner'))))):=by
 let⟨v1,w1,o⟩:=R.slot i _ hd;rw[hs]at w1;cases w1;rw[ho]at o;let⟨a',nm',fs',C',dx',ds',vs',d1,ea,l1,l2,hC,a1,a2,a3,b1,b2,b3,hch'⟩:=o.ins hk;cases ea;let⟨rfl,ez⟩:=oG (nm:=nm') (n:=nm) (À:=(fs.map PyData.str).zip ds) d1;have efs:fs=fs':=by
  have:=congrArg (List.map Prod.fst) ez;rw[Ē (by rw[Ä];exact ý ‹_›),Ē (by rw[Ä];exact ý ‹_›)]at this;exact vY this
 have eds:ds=ds':=by
  have:=congrArg (List.map Prod.snd) ez;rw[đ (by rw[Ä];lia),đ (by rw[Ä];lia)]at this;exact this
 subst efs eds;rw[ha]at a2;injection a2 with a2;injection a2 with q1 q2 q3;subst q1 q2;have evs:vs=vs':=by
  have:=congrArg (List.map Prod.snd) q3;rw[đ ∅,đ ∅]at this;exact this
 subst evs;have jl:jH f fs<vs.length:=(Ð.mp hb).1;have o2:=hch' _ _ _ hj hb;rw[hch]at o2;let⟨b',inner0,ws,y1,y2,y3,y4,y5,y6,y7⟩:=o2.lst (m:=0);cases y1;cases y2;have y3:g b=some (i,[jH f fs]):=y3;have hi:i<δ.length:=(Ð.mp hd).1;have nab:a≠b:=λz=>by rw[z,y3]at a1;cases a1
 have hne:dx≠b:=λz=>by rw[z,y4]at b2;cases b2
 refine⟨λb' u e=>?_,R.f0,λb' u n e=>?_,R.new,λb' z=>?_,R.lab,by rw[Ú];exact R.len,R.par,λk d e=>?_⟩
 .have:b'≠b:=λz=>by rw[z,y5]at e;cases e
  rw[aF this];exact R.sub b' u e
 .have:b'≠b:=λz=>by
   subst z;rcases R.lab b' i _ y3 with w|⟨q,w⟩
   .rw[w]at e;cases e
   .rw[w]at n;cases n
  rw[aF this];exact R.kept b' u n e
 .by_cases hb':b'=b
  .subst hb';rw[aJ];simp
  .rw[aF hb'];exact R.there b' z
 .by_cases hki:k=i
  .subst hki
   rw[ë hi]at e;cases e;refine⟨_,hs,?_⟩;rw[ho];refine bC.mkI (C:=C) (dx:=dx) (vs:=vs) hk (by rw[Ú];exact hl) (by rw[Ú];exact l2) hC a1 (by rw[aF nab];exact ha) a3 b1 (by rw[aF hne];exact b2) b3 λl d' v' z1 z2=>?_;by_cases hlq:jH f fs=l
   .subst hlq
    rw[ë (by exact ú ‹_› (Eq.symm ‹_›))]at z1;cases z1;rw[hb]at z2;cases z2;rw[hch];exact bC.mkL (m:=0) ⟨b,inner',ws',rfl,rfl,y3,aJ,y5,hr.len,λk d' v' z1 z2=>hr.both k d' v' z1 z2⟩
   .rw[Þ hlq]at z1
    refine bC.updNe y3 (.inr λz=>?_) (hch' l d' v' z1 z2);have z:[l] <+: [jH f fs]:=z;let⟨t,ht⟩:=z;injection ht with h1 _;exact hlq h1.symm
  .rw[Þ (Ñ hki)]at e
   let⟨v,e1,o⟩:=R.slot k d e;exact⟨v,e1,bC.updNe y3 (.inl hki) o⟩
def sA(i c:Nat)(nm f:Str)(fk fv:M D):M Fl:=λδ=>(fv δ).bind λv δ1=>match δ1[i]?,fk δ1 with
 |some (some (.dict ((.none,.str m)::À))),.ok (.int k) _=>if m=nm/\ch c (oX f À)=1 then (match l4 f À with
  |some (.list ds)=>(match lK ds.length k with
   |some j=>.ok .next (δ1.set i (some (.dict ((.none,.str m)::pK f (.list (ds.set j v)) À))))
   |none=>.stuck)
  |_=>.stuck)else .stuck
 |_,_=>.stuck
def BE(i m:Nat)(nm:Str){x:Str}{p p2:Pos}(S:aQ Z ow)(hc:TU X.K nm f)(hv:DE X Z ow 0 ev fv)(hk:∀F H σ,DE X (fV F H σ m) 'j' 0 ek fk)(ho:↥(ow.getD i 0=c))(hkd:↥(kd c=2))(hN:↥'t')(hvi:#v[AJ X.env.scope x])(hd:⇑(Zdb x))(hcd:⇑(Zcd x))(hb:↥(attributeBase 'g' f X.env (eval 'g' X.env)=eval 'g' X.env))(ha: ~~~(∀v,assign (.Subscript (.Attribute 'g' f p2) ek tpos) X.env v=(do
   let ov <- holding [v] (eval (.Attribute 'g' f p2) X.env);let iv <- holding [v,ov] (eval ek X.env)
   standAt tpos
   holding [v,ov,iv] (setItem ov iv v)
   release [v,ov,iv] [])))(hs:↥(swapsWithSole [.Subscript (.Attribute 'g' f p2) ek tpos] ev spos.line X.env=pure false))(hw:↥(swappedStores [.Subscript (.Attribute 'g' f p2) ek tpos] ev X.env=pure none))(h1:↥((assignEach [.Subscript (.Attribute 'g' f p2) ek tpos] X.env).map (·.2)=[assign (.Subscript (.Attribute 'g' f p2) ek tpos) X.env])):
  CC X Z ow ow ol ox rm (.Assign [.Subscript (.Attribute 'g' f p2) ek tpos] ev spos) (sA i c nm f fk fv):=PS.mono (QY hv (QX (BX (dQ hN hvi hd hcd) hb) (JS m hk) E5 ha) hs hw h1) λDn σ H h=>by
 let⟨F,δ,R,h⟩:=h;unfold sA at h;sleep 4;cases e1:fv δ with
 |stuck=>rw[e1]at h;exact h.elim
 |err y δ1=>rw[e1]at h;exact iM.cast h
 |ok dv δ1=>
  rw[e1]at h;sleep 8;rintro v H1 F1 ⟨g,R1,ov⟩ s1;have ov:bG X.K F1 dv v:=ov;split at h
  .rename_i mm À k δ2 e0 ek0
   split at h
   .rename_i hh
    let⟨rfl,hch⟩:=hh;split at h
    .rename_i ds eds
     split at h
     .rename_i j ej
      let⟨a0,fs,dd,rfl,l1,w1⟩:=GA R1 ho hkd e0;rw[rZ l1]at hch;rw[nC l1]at eds;let⟨a,C,dx,vs,b,ws,q1,hC,q2,q3,q4,q5,q6,q7⟩:=R1.atF ho hkd (show δ1[i]?=some (some (dD mm fs dd))from e0) l1 hch eds;let⟨c1,c2⟩:=hc C hC;refine⟨_,q1,a,C,dx,_,.ref b,rfl,q2,c1,c2,by rw[iY q3];exact q4,IH g F1 H1,IH g F1 H1,δ1,R1.bor,?_⟩;rw[ek0];rintro kv H2 F2 ⟨g2,R2,o2⟩ s2;have evk:kv=.int k:=by
       have o2:bG X.K F2 (.int k) kv:=o2;unfold bG at o2;exact o2
      subst evk;have hsame:aI H1 H2:=λb o e=>R2.kept b o rfl e;have R3:=R1.grow hsame;refine⟨b,ws,k,j,rfl,rfl,hsame _ _ q5,by rw[<- q6.len];exact ej,?_⟩;have R4:=R3.rewriteF (f:=f) ho hkd (show δ1[i]?=some (some (dD mm fs dd))from e0) l1 hch eds q1 (hsame _ _ q2) q4 q3 (q6.set j ov);have hlt:jH f fs<dd.length:=(Ð.mp eds).1;rw[tY l1,ME (by exact ú ‹_› (Eq.symm ‹_›)),show vN (jH f fs) (PyData.list (ds.set j dv)) dd=dd.set (jH f fs) (.list (ds.set j dv))from Â hlt]at h;exact h σ _ F1 ⟨g,R4⟩ s1
     .exact h.elim
    .exact h.elim
   .exact h.elim
  .exact h.elim
def TV(C:Addr)(m:Str)(sp:Sp)(E:St->XK)(ta:TE)(t:TA):TE:=λσ H Q=>ta σ H λx H1=>∃a dx fs,x=.ref a/\H1 a=some (.ins C dx fs)/\fs.lookup m=none/\t σ H1 λvs H2=>sp (x::vs) H2 Q (E σ)
def TW{pl:Sem Bool}{apos:Pos}(he:PE X o ta)(c:QJ X.K C)(hm:YI X.K C m fa)(Fk:rD X.prog X.w X.K X.mg X.base (zR X.prog X.w X.K) k fa fd pn sp)(hr:eY k X.A)(hb:pE X.K fd pn [])(ha:PA X (e::es) t)(hst:↥(Zse e es X.env))(hpl:↥(Zbt pos es X.env))(ht:↥(eval (.Call (.Attribute o m apos) (e::es) [] pos) X.env=(do
   let ov <- eval o X.env
   standAt apos.atName
   let (f,first) <- holding [ov] (getMethod ov m pl)
   callWith pos f first (backTo pos (starEach (e::es) X.env)) (backToKw pos (keywordEach [] X.env))))):
  PE X (.Call (.Attribute o m apos) (e::es) [] pos) (TV C m sp (EX X) ta t):=by
 intro U s σ H Q I h;refine W.methodCall_KW (pl:=pl) (cM (he U s σ H _ I h) λu s1 zQ=>?_) ht;let⟨x,H1,I1,rx,a,dx,fs,ex,ea,l,q⟩:=zQ;subst ex;obtain rfl:u=Value.ref a:=rx;refine IV I1 ea c hm l ?_;refine W.callWith_K (first:=[.ref a]) (h₀:=X.base) I.ok.mod.kin hm.kp (cM (ha pos U s1 σ H1 _ I1 q) λus s2⟨vs,H2,I2,r,q2⟩=>⟨I2.kIn,?_⟩) hst hpl;have r2:bI (V.ref a::vs) (Value.ref a::us):=.cons rfl r;have hl:(Value.ref a::us).length=pn.length:=by rw[<- r2.length];exact Fk.len _ _ _ _ q2
 have hb':=hb s2 (Value.ref a::us) I2.kIn (by rw[ò];exact hl);rw[ò]at hb';refine wpAny_call (codeAny_mono (Fk.run X.A X.stack s2 H2 ⟨Value.ref a::us,[]⟩ (Value.ref a::us) _ Q (EX X σ) hr I2.env0 hb' r2 q2) λr s' hq=>?_);cases r with
 |error e=>
  let⟨nm,a,cls,ch,H',rfl,hn,os,bare,un,hok,x,new,q3⟩:=hq;have I3:Inv X U σ H' s':=I2.call' os un hok bare λb z=>absurd z 'e';exact q3 nm rfl U _ s' I3 ⟨a,cls,ch,rfl,hn,x,λb hb=>uV.of I2 (new b hb).1 (new b hb).2⟩
 |ok fl=>
  cases fl with
  |ret u=>exact I2.after hq
  |next=>exact False.elim hq
  |brk=>exact False.elim hq
  |cont=>exact False.elim hq
def xI(i:Nat)(nm m:Str)(fn:ZI->Res D)(as:List Arg):M D:=λδ=>match δ[i]? with
 |some (some (.dict ((.none,.str n)::À)))=>if n=nm/\l4 m À=none then fU fn (.own i::as) δ else .stuck
 |_=>.stuck
def OW{fs:ZG}{ds:ZI}{vs:List V}(l1:fs.length=ds.length)(l2:fs.length=vs.length)(h:l4 m ((fs.map PyData.str).zip ds)=none):(fs.zip vs).lookup m=none:=by
 rw[nC l1]at h;rw[iY l2];rw[List.getElem?_eq_none_iff]at h⊢;lia
def Ň(K:ZC)(nm:Str)(C:Addr):Prop:=W.nsIn K mainGlobals nm=some (some (.ref C))/\QJ K C
def TX(S:aQ Z ow)(hC:Ň X.K nm C)(ho:kd (ow.getD i 0)=2)(hz:XW Z=true)(hl:as.length+1=pn.length)(hps:fS 0 (.own i::as)=ps)(nd:decide (aW (.own i::as)).Nodup=true)(hm:fB owp ow 0 (.own i::as)=true)(hlt:as.length+1<=1000)(h:tD X Z ow rm (xI i nm m fn as) σ H Q):TV C m (RQ X.K pn ps owp rm fn) (EX X) (N3 i) (ŀ X Z ow as) σ H Q:=by
 let⟨F,δ,R,h⟩:=h;unfold xI at h;split at h
 .rename_i n À e0
  split at h
  .rename_i hh
   let⟨rfl,hg⟩:=hh;let⟨F0,δ0,R0,h0⟩:=FH (as:=.own i::as) (pn:=pn) (ps:=ps) (owp:=owp) S hz hl hps nd hm hlt ⟨F,δ,R,h⟩;let⟨g,RG⟩:=R;let⟨v,w1,o⟩:=RG.slot i _ e0;let⟨a,nm',fs,C',dx,ds,vs,d1,rfl,l1,l2,hC',_,hH,_⟩:=o.ins ho;let⟨rfl,rfl⟩:=oG d1;rw[hC.1]at hC';cases hC';refine⟨_,w1,a,dx,_,rfl,hH,OW l1 (by exact Eq.trans ‹_› ‹_›) hg,F0,δ0,R0,?_⟩;unfold cP at h0;split at h0
   .cases e1:cP as δ0 with
    |stuck=>rw[e1]at h0;exact h0.elim
    |err x δ1=>rw[e1]at h0;exact h0
    |ok ods δ1=>
     rw[e1]at h0;exact λus H' F' R' s' z=>h0 (.ref a::us) H' F' R' s' ⟨w1,z⟩
   .exact h0.elim
  .exact h.elim
 .exact h.elim
def aAL(i:Nat){pl:Sem Bool}{x:Str}{p apos:Pos}(S:aQ Z ow)(hC:Ň X.K nm C)(hme:YI X.K C m fa)(Fk:rD X.prog X.w X.K X.mg X.base (zR X.prog X.w X.K) k fa fd pn (RQ X.K pn ps owp rm fn))(hr:eY k X.A)(hb:pE X.K fd pn [])(ha:DA X Z ow (e::es) as)(ho:↥(kd (ow.getD i 0)=2))(hz:↥(XW Z=true))(hl:↥(as.length+1=pn.length))(hps:↥(fS 0 (.own i::as)=ps))(nd:↥(decide (aW (.own i::as)).Nodup=true))(hm:↥(fB owp ow 0 (.own i::as)=true))(hlt:⇑(as.length+1<=1000))(hN:↥'t')(hvi:#v[AJ X.env.scope x])(hd:⇑(Zdb x))(hcd:⇑(Zcd x))(hst:↥(Zse e es X.env))(hpl:↥(Zbt pos es X.env))(ht:↥(eval (.Call (.Attribute 'g' m apos) (e::es) [] pos) X.env=(do
   let ov <- eval 'g' X.env
   standAt apos.atName
   let (f,first) <- holding [ov] (getMethod ov m pl)
   callWith pos f first (backTo pos (starEach (e::es) X.env)) (backToKw pos (keywordEach [] X.env))))):
  DE X Z ow rm (.Call (.Attribute 'g' m apos) (e::es) [] pos) (xI i nm m fn as):=PE.mono (TW (pl:=pl) (dQ hN hvi hd hcd) hC.2 hme Fk hr hb ha hst hpl ht) λ_ _ _ h=>TX S hC ho hz hl hps nd hm hlt h
def TY(C:Addr)(sp:Sp)(E:St->XK)(t:TA):TE:=λσ H Q=>t σ H λvs H1=>∀x dx,H1 x=none->H1 dx=none->dx≠x ->
 sp (.ref x::vs) (bA (bA H1 dx (.own x)) x (.ins C dx [])) (λv H2=>v=.non/\Q (.ref x) H2) (E σ)
def TZ{p:Pos}(M:Mk X.K C fa)(Fk:rD X.prog X.w X.K X.mg X.base (zR X.prog X.w X.K) k fa fd pn sp)(hr:eY (k+1) X.A)(hg:Gl X x)(hm:X.mg x=some (.ref C))(hb:pE X.K fd pn [])(ha:PA X (e::es) t)(hdb:⇑(Zdb x))(he:↥(Zse e es X.env))(hpl:↥(Zbt pos es X.env)):
  PE X (.Call 'g' (e::es) [] pos) (TY C sp (EX X) t):=by
 intro U s0 σ H0 Q I0 h0;refine wpAny_Call_Name_kw (vQ I0 hg hm ?_ hdb);refine W.callWith_K (h₀:=X.base) I0.ok.mod.kin M.kp (cM (ha pos U s0 σ H0 _ I0 h0) λus s⟨vs,H,I,r,h⟩=>⟨I.kIn,?_⟩) he hpl;have hq:=h 'z' s.heap.objs.size (I.hok.fresh (Nat.le_succ _)) (I.hok.fresh (Ç _)) (Í (î _));have I2:=Inv.made (C:=C) I;have r2:bI (V.ref 'z'::vs) (Value.ref 'z'::us):=.cons rfl r;have hl:(Value.ref 'z'::us).length=pn.length:=by
  have e:=r2.length;rw[Fk.len _ _ _ _ hq]at e;exact e.symm
 have hb':=hb _ (Value.ref 'z'::us) I2.kIn (by rw[ò];exact hl);rw[ò]at hb';refine wpAny_call (Q6 (f:=fa) I.kIn M.makes M.init (beq_iff_eq.mp M.fn) (codeAny_mono (Fk.run _ X.stack _ _ ⟨Value.ref 'z'::us,[]⟩ (Value.ref 'z'::us) _ _ (EX X σ) (hr.make C us [])
  (I2.env0.make C us []) hb' r2 hq) λr s' hq'=>?_))
 cases r with
 |error e=>
  let⟨nm,a,cls,ch,H',rfl,hn,os,bare,un,hok,x,new,q3⟩:=hq';have I3:Inv X U σ H' s':=I2.call' os un hok bare λb z=>absurd z 'e';exact q3 nm rfl U _ s' I3 ⟨a,cls,ch,rfl,hn,x,λb hb=>uV.of I2 (new b hb).1 (new b hb).2⟩
 |ok fl=>
  cases fl with
  |ret u=>
   let⟨v,H',I3,rv,ev,q3⟩:=I2.after hq';subst ev;exact⟨rv,⟨V.ref 'z',H',I3,rfl,q3⟩⟩
  |next=>exact False.elim hq'
  |brk=>exact False.elim hq'
  |cont=>exact False.elim hq'
end
section
variable {X:Cx}{Z:bT}{ow:ZH}{c m:Nat}{pos:Pos}{e:Expr}{F:Hp}{σ:St}{δ:DS}{K:ZC}
def sC(h:i≠ow.length):(ow++[c]).getD i 0=ow.getD i 0:=by
 rw[Ê,Ê];by_cases hl:i<ow.length
 .rw[ñ hl]
 .rw[ä (by rw[Ì,ì];lia),ä 'C']
def BF:(ow++[c]).getD ow.length 0=c:=by
 rw[Ê,á (Ç _),þ];rfl
def tZ{α:Type}{xs:List α}{y:α}(h:i≠xs.length):(xs++[y])[i]?=xs[i]?:=by
 by_cases hl:i<xs.length
 .rw[ñ hl]
 .rw[ä (by rw[Ì,ì];lia),ä 'C']
def kP{α:Type}{xs:List α}{y:α}:(xs++[y])[xs.length]?=some y:=by
 rw[á (Ç _),þ];rfl
def bU.push(R:bU K Z ow g F H σ δ)(hk:kd c=2)(hC:W.nsIn K mainGlobals nm=some (some (.ref C)))(hx:H x=none)(hdx:H dx=none)(ne:dx≠x)(hm:δ.length=ow.length)(hps:ow.length∉Z.ps):
  cN K Z (ow++[c]) F (bA (bA H dx (.own x)) x (.ins C dx [])) (σ++[some (.ref x)]) (δ++[some (dD nm [] [])]):=by
 have hsm:σ.length=ow.length:=by rw[<- R.len];exact hm
 have fx:F x=none:=by
  cases e:F x with
  |none=>rfl
  |some u=>rw[R.sub x u e]at hx;cases hx
 have fdx:F dx=none:=by
  cases e:F dx with
  |none=>rfl
  |some u=>rw[R.sub dx u e]at hdx;cases hdx
 have h0:∀a,H a=none->Z.H0 a=none:=λa e=>by
  cases e1:Z.H0 a with
  |none=>rfl
  |some o=>exact absurd e (R.there a (by rw[e1];simp))
 have hk':∀b o,H b=some o->bA (bA H dx (.own x)) x (.ins C dx []) b=some o:=λb o e=>by
  rw[aF (λz=>by rw[z,hx]at e;cases e),aF (λz=>by rw[z,hdx]at e;cases e)];exact e
 refine⟨λb=>if b=x then some (ow.length,[])else if b=dx then some (ow.length,[1000])else g b,λb u e=>hk' b u (R.sub b u e),R.f0,λb u n e=>hk' b u (R.kept b u n e),R.new,λb z=>?_,λa i p e=>?_,by rw[Ì,Ì,R.len];rfl,λi hi=>?_,λi d e=>?_⟩
 .cases e:H b with
  |none=>exact absurd e (R.there b z)
  |some o=>rw[hk' b o e];simp
 .split at e
  .rename_i z;rw[z];exact .inl (h0 x hx)
  .split at e
   .rename_i z;rw[z];exact .inl (h0 dx hdx)
   .exact R.lab a i p e
 .have:i≠ow.length:=λz=>hps (by rw[<- z];exact hi)
  rw[tZ ∅,sC this];exact R.par i hi
 .by_cases hi:i=ow.length
  .have e2:(δ++[some (dD nm [] [])])[i]?=some (some (dD nm [] [])):=by rw[hi,<- hm];exact kP
   rw[e2]at e;cases e;refine⟨.ref x,by rw[hi,<- hsm];exact kP,?_⟩;rw[hi,BF];exact bC.mkI (C:=C) (dx:=dx) (vs:=[]) hk rfl rfl hC (Â rfl) aJ fx (by rw[Ã ne,Â rfl];rfl) (by rw[aF ne,aJ]) fdx λk d' v' z1=>by cases z1
  .rw[tZ ∅]at e
   let⟨v,e1,o⟩:=R.slot i d e;refine⟨v,by rw[tZ ∅];exact e1,?_⟩;rw[sC hi];refine o.keepJ 'p' λa p u y1 y2 y3=>⟨?_,hk' a u y2,y3⟩;rw[Ã (λz=>by rw[z,hx]at y2;cases y2),Ã (λz=>by rw[z,hdx]at y2;cases y2)];exact y1
def bU.pop(S:aQ Z ow)(R:bU K Z (ow++[c]) g F H (σ++[some v]) (δ++[some d]))(hm:δ.length=ow.length)(hps:ow.length∉Z.ps)(hlt:ow.length<1000):f8 K Z ow c d v F H σ δ:=by
 have hsm:σ.length=ow.length:=by have:=R.len;rw[Ì,Ì]at this;simp at this;lia
 refine⟨λb=>match g b with|some (j,p)=>if j=ow.length then some (1000,p)else if j=1000 then none else some (j,p)|none=>none,⟨R.sub,R.f0,R.kept,R.new,R.there,λa i p e=>?_,∅,λi hi=>?_,λi d' e=>?_⟩,?_⟩
 .cases eg:g a with
  |none=>rw[eg]at e;cases e
  |some l=>
   let⟨j,q⟩:=l;rw[eg]at e;dsimp only at e;split at e
   .rename_i z
    cases e;rcases R.lab a j _ eg with w|⟨q',w⟩
    .exact .inl w
    .exact absurd (Z.wf a j q' w) (by rw[z];exact hps)
   .split at e
    .cases e
    .cases e;exact R.lab a i p eg
 .have:i≠ow.length:=λz=>hps (by rw[<- z];exact hi)
  have q:=R.par i hi;rw[tZ ∅,sC this]at q;exact q
 .have hi:i<δ.length:=(Ð.mp e).1
  let⟨v',e1,o⟩:=R.slot i d' (by rw[tZ (by exact Í ‹_›)];exact e);rw[tZ ∅]at e1;rw[sC ∅]at o;refine⟨v',e1,o.relab λa p y=>?_⟩;rw[y];dsimp only;rw[Ã ∅,Ã ∅]
 .obtain⟨v',e1,o⟩:=R.slot ow.length d (by rw[<- hm];exact kP)
  rw[<- hsm,kP]at e1;cases e1;rw[BF]at o;refine o.relab λa p y=>?_;rw[y];exact Â rfl
def GB(m:Nat)(nm:Str)(fn:ZI->Res D)(as:List Arg):M D:=λδ=>(cP as δ).bind λods δ1=>if δ1.length=m then (match eD δ1 as ods with
 |some ds=>(match fn (dD nm [] []::ds)with
  |.ok .none [some d]=>.ok d δ1
  |.err x [some _]=>.err x δ1
  |_=>.stuck)
 |none=>.stuck)else .stuck
def xJ{δ δ':DS}:∀{as:List Arg}{ods:List (ZL)},aW as=[]->eD δ as ods=eD δ' as ods
 |[],[],_=>rfl
 |[],_::_,_=>rfl
 |.own i::as,_,h=>by cases h
 |.val f::as,[],_=>rfl
 |.val f::as,none::ods,_=>rfl
 |.val f::as,some d::ods,h=>by unfold eD;rw[xJ (δ:=δ) (δ':=δ') (as:=as) h]
def xK :∀{as:List Arg}{ods:List (ZL)}{vs:List V},aW as=[]->rO K F σ as ods vs->rO K F σ' as ods vs
 |[],[],[],_,_=>True.intro
 |.own i::as,_,_,h,_=>by cases h
 |.val f::as,some d::ods,v::vs,h,z=>⟨z.1,xK (as:=as) h z.2⟩
def GC{xs:DS}{y z:ZL}:(xs++[y]).set xs.length z=xs++[z]:=by
 rw[List.set_append_right _ _ (Ç _),þ];rfl
def T0(S:aQ Z ow)(hC:Ň X.K nm C)(hk:kd c=2)(hz:XW Z=true)(hl:as.length+1=pn.length)(hv:aW as=[])(hm:fB owp (ow++[c]) 0 (.own ow.length::as)=true)(hlt:as.length+1<=1000)(hps:ow.length∉Z.ps)(hlo:ow.length<1000)(h:tD X Z ow c (GB ow.length nm fn as) σ H Q):TY C (RQ X.K pn [0] owp 0 fn) (EX X) (ŀ X Z ow as) σ H Q:=by
 let⟨F,δ,R,h⟩:=h;unfold GB at h;sleep 4;cases e:cP as δ with
 |stuck=>sleep 1
 |err x δ1=>rw[e]at h;exact h
 |ok ods δ1=>
  rw[e]at h;sleep 8;rintro vs H1 F1 ⟨g1,R1⟩ s1 z x dx hx hdx ne;split at h
  .rename_i hml
   cases e2:eD δ1 as ods with
   |none=>rw[e2]at h;exact h.elim
   |some ds=>
    rw[e2]at h;dsimp only at h;have R2:=R1.push (c:=c) (nm:=nm) hk hC.1 hx hdx ne hml hps;have hsl:σ.length=ow.length:=by rw[<- R1.len];exact hml
    have zA:rO X.K F1 (σ++[some (.ref x)]) (.own ow.length::as) (none::ods) (.ref x::vs):=⟨by rw[<- hsl];exact kP,xK hv z⟩;have fA:eD (δ1++[some (dD nm [] [])]) (.own ow.length::as) (none::ods)=some (dD nm [] []::ds):=by
     unfold eD;rw[<- hml,kP,xJ (δ':=δ1) hv,e2]
    have S2:aQ Z (ow++[c]):=⟨by rw[Ì,ì];assumption,S.ps⟩;let⟨m1,m2⟩:=lU hm;have l2:=(kJ fA zA).2.1;refine⟨by rw[l2];exact hl,LI S2 R2 zA fA ?_ ?_ (λq i e=>by have:=m1 q i e;rwa [Nat.zero_add]at this) (λq f e=>by have:=m2 q f e;rwa [Nat.zero_add]at this) hlt ?_⟩
    .have:∀(k:Nat)(as:List Arg),aW as=[]->fS k as=[]:=by
      intro k as
      induction as generalizing k with
      |nil=>intro _;rfl
      |cons a as ih=>
       cases a with
       |own i=>intro h;cases h
       |val f=>intro h;exact ih (k+1) h
     show 0::fS 1 as=[0];rw[this 1 as hv]
    .show (ow.length::aW as).Nodup
     rw[hv];simp
    .have es:aW (.own ow.length::as)=[ow.length]:=by show ow.length::aW as=_;rw[hv]
     rw[es];split at h
     .rename_i d e3
      rw[e3];intro v H' F' R' s';have hv':=R'.rep;unfold bG at hv';subst hv';let⟨g3,R3⟩:=R'.rel;have R3:bU X.K Z (ow++[c]) g3 F' H' (σ++[some (.ref x)]) ((δ1++[some (dD nm [] [])]).set ow.length (some d)):=R3;rw[<- hml,GC]at R3;exact⟨rfl,h _ H' F' (R3.pop S hml hps hlo) (s1.trans' s')⟩
     .rename_i x' d e3
      rw[e3];intro nm' hx' H' F' R' s' nm2 hnm U e s2 I2 fl;injection hnm with hnm;subst hnm;let⟨g3,R3⟩:=R';have R3:bU X.K Z (ow++[c]) g3 F' H' (σ++[some (.ref x)]) ((δ1++[some (dD nm [] [])]).set ow.length (some d)):=R3;rw[<- hml,GC]at R3;let⟨F2,s3,R4⟩:=(R3.pop S hml hps hlo).rel.toP hz;exact iM.out h U e s2 ⟨nm',H',F2,σ,hx',I2,R4,s1.trans' (s'.trans' s3),fl⟩
     .exact h.elim
  .exact h.elim
def aAM{p:Pos}(m:Nat)(S:aQ Z ow)(hC:Ň X.K x C)(M:Mk X.K C fa)(Fk:rD X.prog X.w X.K X.mg X.base (zR X.prog X.w X.K) k fa fd pn (RQ X.K pn [0] owp 0 fn))(hr:eY (k+1) X.A)(hg:Gl X x)(hmg:X.mg x=some (.ref C))(hb:pE X.K fd pn [])(ha:DA X Z ow (e::es) as)(c:Nat)(hm0:↥(ow.length=m))(hk:↥(kd c=2))(hz:↥(XW Z=true))(hl:↥(as.length+1=pn.length))(hv:↥(aW as=[]))(hm:↥(fB owp (ow++[c]) 0 (.own ow.length::as)=true))(hlt:⇑(as.length+1<=1000))(hps:↥(Z.ps.contains ow.length=false))(hlo:⇑(ow.length<1000))(hdb:⇑(Zdb x))(he:↥(Zse e es X.env))(hpl:↥(Zbt pos es X.env)):
  DE X Z ow c (.Call 'g' (e::es) [] pos) (GB m x fn as):=PE.mono (TZ M Fk hr hg hmg hb ha hdb he hpl) λ_ _ _ h=>by subst hm0;exact T0 S hC hk hz hl hv hm hlt (dE hps) hlo h
end
section
variable {κ:Type}[DecidableEq κ]
def qC(À:List (κ×V))(k:κ):(Option V):=(À.find? λkv=>decide (kv.1=k)).map (·.2)
def t0(À:List (κ×V))(k:κ)(v:V):(List (κ×V)):=
 if (À.any λkv=>decide (kv.1=k))=true then À.map (λkv=>if kv.1=k then (kv.1,v)else kv)else À++[(k,v)]
def sD{k:κ}(e:p.1=k):qC (p::r) k=some p.2:=by simp[qC,ĉ,e]
def sE{k:κ}(e:¬p.1=k):qC (p::r) k=qC r k:=by simp[qC,ĉ,e]
def GD(k:κ):∀À:List (κ×V),(À.any λkv=>decide (kv.1=k))=(qC À k).isSome
 |[]=>rfl
 |p::r=>by
  rw[List.any_cons];by_cases e:p.1=k
  .simp![sD e,decide_eq_true e,Bool.true_or,Option.isSome_some]
  .rw[sE e,decide_eq_false e,Bool.false_or];exact GD k r
def u6(À:List (κ×V))(k:κ)(v:V):(t0 À k v).length<=À.length+1:=by
 unfold t0;split
 .rw[Ä];exact Nat.le_succ _
 .rw[Ì,Ó,ô];exact î _
def oW.isSome_eq(r:oW o u):o.isSome=u.isSome:=by
 cases o with
 |none=>cases u with
  |none=>rfl
  |some _=>exact(show False from r).elim
 |some _=>cases u with
  |none=>exact(show False from r).elim
  |some _=>rfl
def oW.getD(r:oW o u)(rd:bH d d'):bH (o.getD d) (u.getD d'):=by
 cases o with
 |none=>cases u with
  |none=>exact rd
  |some _=>exact(show False from r).elim
 |some _=>cases u with
  |none=>exact(show False from r).elim
  |some _=>exact r
def KV.val(r:KV À vs)(k:κ):oW (qC À k) (valueAt vs k):=by
 unfold KV at r
 induction r with
 |nil=>exact True.intro
 |@cons p q ps qs h t ih=>
  let⟨h1,h2⟩:=h;by_cases e:p.1=k
  .have e':q.1=k:=h1.symm.trans e
   have b:valueAt (q::qs) k=some q.2:=by simp[valueAt,ĉ,e']
   rw[sD e,b];exact h2
  .have e':¬q.1=k:=λz=>e (h1.trans z)
   have b:valueAt (q::qs) k=valueAt qs k:=by simp[valueAt,ĉ,e']
   rw[sE e,b];exact ih
def KV.any(r:KV À vs)(k:κ):(À.any λkv=>decide (kv.1=k))=vs.any λkv=>decide (kv.1=k):=by
 unfold KV at r
 induction r with
 |nil=>rfl
 |cons h t ih=>rw[List.any_cons,List.any_cons,ih,h.1]
def KV.repl(r:KV À vs)(k:κ)(ry:bH y u):
  KV (À.map λkv=>if kv.1=k then (kv.1,y)else kv) (vs.map λkv=>if kv.1=k then (kv.1,u)else kv):=by
 unfold KV at r⊢
 induction r with
 |nil=>exact .nil
 |@cons p q ps qs h t ih=>
  rw[Ï,Ï];refine .cons ?_ ih;let⟨h1,h2⟩:=h;by_cases e:p.1=k
  .rw[Â e,Â (h1.symm.trans e)];exact⟨h1,ry⟩
  .rw[Ã e,Ã (λz=>e (h1.trans z))];exact⟨h1,h2⟩
def KV.put(r:KV À vs)(k:κ)(ry:bH y u):KV (t0 À k y) (stored vs k u):=by
 unfold t0 stored;rw[r.any k];by_cases e:(vs.any λkv=>decide (kv.1=k))=true
 .rw[Â e,Â e];exact r.repl k ry
 .rw[Ã e,Ã e];exact Paired.snoc r ⟨rfl,ry⟩
def KV.length{À:List (κ×V)}{vs:List (κ×Value)}(r:KV À vs):À.length=vs.length:=Paired.length r
end
def MF(r:bH (kV k) u):(c9 P w).is k u=true:=by
 cases k with
 |inl i=>let⟨t,e⟩:=(show ∃t,u=Value.int i t from r);subst e;exact ES P w i t
 |inr x=>let⟨t,e⟩:=(show ∃t,u=Value.str x t from r);subst e;exact ET P w x t
def BG :∀{ks:List dN}{us:ZJ},bI (ks.map kV) us->ItemsAre (c9 P w) ks us
 |[],_,r=>by rw[List.map_nil]at r;cases r;exact .nil
 |k::ks,_,r=>by
  rw[Ï]at r;cases r with
  |cons h t=>exact .cons (MF h) (BG t)
abbrev KT(H:Hp):List (List dN×V)->List (List dN×Addr×Value)->Prop:=Paired λp q=>p.1=q.1/\H q.2.1=some (.tup (p.1.map kV))/\bH p.2 q.2.2
def KT.val(r:KT H À xs)(k:List dN):oW (qC À k) ((atKey xs k).map (·.2)):=by
 induction r with
 |nil=>exact True.intro
 |@cons p q ps qs h t ih=>
  let⟨h1,_,h2⟩:=h;by_cases e:p.1=k
  .have e':q.1=k:=h1.symm.trans e
   have b:atKey (q::qs) k=some q.2:=by simp[atKey,ĉ,e']
   rw[sD e,b];exact h2
  .have e':¬q.1=k:=λz=>e (h1.trans z)
   have b:atKey (q::qs) k=atKey qs k:=by simp[atKey,ĉ,e']
   rw[sE e,b];exact ih
def KT.repl(r:KT H À xs)(k:List dN)(ry:bH y u):
  KT H (À.map λkv=>if kv.1=k then (kv.1,y)else kv) (xs.map (putAt k u)):=by
 induction r with
 |nil=>exact .nil
 |@cons p q ps qs h t ih=>
  rw[Ï,Ï];refine .cons ?_ ih;let⟨h1,h2,h3⟩:=h;unfold putAt;by_cases e:p.1=k
  .rw[Â e,Â (h1.symm.trans e)];exact⟨h1,h2,ry⟩
  .rw[Ã e,Ã (λz=>e (h1.trans z))];exact⟨h1,h2,h3⟩
def KT.put(r:KT H À xs)(k:List dN)(hb:H b=some (.tup (k.map kV)))(ry:bH y u):
  KT H (t0 À k y) (storedH xs k b u):=by
 have e:(À.any λkv=>decide (kv.1=k))=(atKey xs k).isSome:=by
  rw[GD,(r.val k).isSome_eq,Option.isSome_map]
 unfold t0 storedH;rw[e];by_cases q:(atKey xs k).isSome=true
 .rw[Â q,Â q];exact r.repl k ry
 .rw[Ã q,Ã q];exact Paired.snoc r ⟨rfl,hb,ry⟩
def KT.keeps(r:KT H À xs)(ht:∀b ys,H b=some (.tup ys)->H' b=some (.tup ys)):KT H' À xs:=
 Paired.mapP r λ_ _ z=>⟨z.1,ht _ _ z.2.1,z.2.2⟩
section
def Ϧ(ok:mM P w H h)(e:Rd H a u):dO P w H h a u:=e.ok ok
def MG(ok:mM P w H h)(e:Rd H a (.dK À)):À.length<=sizeLine/\(a == sysModules)=false/\∃vs,KV À vs/\h.DictOf (c9 P w) a vs:=
 show dO P w H h a (.dK À)from Ϧ ok e
def aKO(ok:mM P w H h)(e:H a=some (.dK À)):À.length<=sizeLine/\(a == sysModules)=false/\∃vs,KV À vs/\h.DictOf (c9 P w) a vs:=MG ok (.inl e)
def C5(ok:mM P w H h)(e:H a=some (.tup (ks.map kV))):(tupleKind (c9 P w)).is h ks a:=by
 let⟨_,its,r,o,h1,h2,n,h3⟩:=(show dO P w H h a (.tup (ks.map kV))from ok a _ e);exact⟨o,its.toArray,n,h1,h2,h3,by simpa using BG r⟩
def MH(ok:mM P w H h)(e:Rd H a (.dT À)):À.length<=sizeLine/\(a == sysModules)=false /\
  ∃xs,KT H À xs/\h.DictOfH (tupleKind (c9 P w)) a xs:=by
 let⟨z,y,xs,r,o,es,ep,h1,h2,h3,h4,h5⟩:=(show dO P w H h a (.dT À)from Ϧ ok e);refine⟨z,y,xs,r,o,es,ep,h1,h2,h3,h4,λx hx=>?_,h5⟩;have all:∀{l:List (List dN×V)}{m:List (List dN×Addr×Value)},KT H l m->∀x∈m,(tupleKind (c9 P w)).is h x.1 x.2.1:=by
  intro l m q
  induction q with
  |nil=>intro x hx;exact nomatch hx
  |@cons p q ps qs hq t ih=>
   intro x hx;rcases Ë.mp hx with e|hx
   .subst e
    exact C5 ok (by rw[<- hq.1];exact hq.2.1)
   .exact ih x hx
 exact all r x hx
def aKP(ok:mM P w H h)(e:H a=some (.dT À)):À.length<=sizeLine/\(a == sysModules)=false /\
  ∃xs,KT H À xs/\h.DictOfH (tupleKind (c9 P w)) a xs:=MH ok (.inl e)
end
def zY(H:Hp)(a:Addr)(y:V)(r:Option V):Prop:=
 (∃À k,Rd H a (.dK À)/\y=kV k/\r=qC À k)\/∃À k b,Rd H a (.dT À)/\y=.ref b/\H b=some (.tup (k.map kV))/\r=qC À k
def T1(H:Hp)(a:Addr)(y v:V)(H':Hp):Prop:=
 (∃À k,H a=some (.dK À)/\y=kV k/\À.length<sizeLine/\H'=bA H a (.dK (t0 À k v))) \/
 ∃À k b,H a=some (.dT À)/\y=.ref b/\H b=some (.tup (k.map kV))/\À.length<sizeLine/\H'=bA H a (.dT (t0 À k v))
def zY.k{H:Hp}{a:Addr}{À:List (dN×V)}{k:dN}(e:H a=some (.dK À)):zY H a (kV k) (qC À k):=.inl ⟨À,k,.inl e,rfl,rfl⟩
def T1.k{H:Hp}{a:Addr}{À:List (dN×V)}{k:dN}{v:V}(e:H a=some (.dK À))(hl:À.length<sizeLine):T1 H a (kV k) v (bA H a (.dK (t0 À k v))):=.inl ⟨À,k,e,rfl,hl,rfl⟩
section
variable {X:Cx}{U:ZB}{σ:St}{H:Hp}{s:Shared}{a:Addr}{y v:V}{u r:Value}{o:Option V}{A:Around}{E:ZA}
def Inv.big(I:Inv X U σ H s):sysModules<s.heap.objs.size:=by
 have h:mainGlobals<s.heap.objs.size:=(I.mod.glob.keeps I.bk).lt;exact Nat.lt_trans ⋯ h
def aNX{Q:ZA}(hu:A.units+1<cLine)(I:Inv X U σ H s)(g:zY H a y o)(ry:bH y u)(h:∀s',Inv X U σ H s'->Q (.bool o.isSome) s'):
  wpAny 'b' A (compareOp .In u (.ref a)) Q E s:=by
 rcases g with ⟨À,k,e,ey,l⟩|⟨À,k,b,e,ey,eb,l⟩
 .subst ey
  let⟨z,hd,vs,rel,dd⟩:=MG I.hok e;refine wpAny_in_of (MF ry) hd dd.mapOf ?_;rw[<- (rel.val k).isSome_eq,<- l];exact h _ (I.tok _)
 .subst ey
  cases (show u=Value.ref b from ry);let⟨z,hd,xs,rel,dd⟩:=MH I.hok e;refine wpAny_in_heap (tupleKind_room_in1 hu) (C5 I.hok eb) hd dd ?_;have q:=(rel.val k).isSome_eq;rw[Option.isSome_map]at q;rw[<- q,<- l];exact h _ (I.tok _)
def MI(I:Inv X U σ H s)(mu:ĭ (H a))(hs:Heap.SameBut a s.heap h')(he:∃q,h'.get? a=some q)(new:dO X.prog X.w (bA H a ob) h' a ob):
  Inv X U σ (bA H a ob) {s with heap:=h',toks:=t'}:=
 I.write (x:=a) (e:=a) mu (.inl rfl) (λb q hb z=>(hs.2 b hb).trans z) he new
def aGY(z:À.length<=sizeLine)(hd:(a == sysModules)=false)(rel:KV À vs)(dd:h'.DictOf (c9 P w) a vs):
  dO P w H' h' a (.dK À):=⟨z,hd,vs,rel,dd⟩
def OX{H':Hp}{Q:Unit->Shared->Prop}(hu:A.units+1<cLine)(I:Inv X U σ H s)(g:T1 H a y v H')(ry:bH y u)(rv:bH v r)(h:∀s',Inv X U σ H' s'->Q () s'):
  wpAny 'b' A (setItem (.ref a) u r) Q E s:=by
 rcases g with ⟨À,k,e,ey,l,eH⟩|⟨À,k,b,e,ey,eb,l,eH⟩
 .subst ey eH
  let⟨z,hd,vs,rel,dd⟩:=aKO I.hok e;have hz:vs.length<=sizeLine:=by rw[<- rel.length];exact z
  have hl:(t0 À k v).length<=sizeLine:=by have:=u6 À k v;exact Ø ‹_› ‹_›
  refine wpAny_setItem_pairs (hsz:=hz) (MF ry) dd λh' dd' hs=>h _ ?_;have he:∃q,h'.get? a=some q:=let ⟨q,_,_,hq,_⟩:=dd';⟨q,hq⟩
  exact MI I (by rw[e];exact True.intro) hs he (aGY hl hd (rel.put k rv) dd')
 .subst ey eH
  cases (show u=Value.ref b from ry);let⟨z,hd,xs,rel,dd⟩:=aKP I.hok e;have hz:xs.length<=sizeLine:=by rw[<- Paired.length rel];exact z
  have hl:(t0 À k v).length<=sizeLine:=by have:=u6 À k v;exact Ø ‹_› ‹_›
  refine wpAny_setItem_heap (hsz:=hz) (tupleKind_room_in1 hu) (C5 I.hok eb) dd λh' dd' hs=>h _ ?_;let⟨q,es,ep,hq,h2,h3,h4,_,h5⟩:=dd';refine MI I (by rw[e];exact True.intro) hs ⟨q,hq⟩ ⟨hl,hd,_,(rel.put k eb rv).keeps λc ys ec=>?_,q,es,ep,hq,h2,h3,h4,h5⟩;rw[aF (aIR ec e (λz=>nomatch z))];exact ec
end
section
end
def aNY(ty td:TE):TE:=λσ H Q=>ty σ H λy H1=>td σ H1 λx H2=>∃a o,x=.ref a/\zY H2 a y o/\Q (.bl o.isSome) H2
def aKQ(td ty tv:TE):TS:=λD σ H=>tv σ H λv H1=>td σ H1 λx H2=>ty σ H2 λy H3=>∃a H4,x=.ref a/\T1 H3 a y v H4/\D.nx σ H4
section
def T2(hu:X.A.units+1<cLine)(hi:PE X i ty)(ho:PE X o td):PC X .In i o (aNY ty td):=by
 intro U s σ H Q I h;refine cM (hi U s σ H _ I h) λiv s1⟨y,H1,I1,ry,q1⟩=>cM (ho U s1 σ H1 _ I1 q1) λu s2 zQ=>?_;let⟨x,H2,I2,rx,a,ov,ex,g,q2⟩:=zQ;subst ex;obtain rfl:u=Value.ref a:=rx;exact aNX hu I2 g ry λs3 I3=>⟨.bl ov.isSome,H2,I3,rfl,q2⟩
def aAN(hu:X.A.units+1<cLine)(ho:PE X o td)(hi:PE X i ty)(hv:PE X value tv)(hs:swapsWith value (some (.Subscript o i pos')) pos.line X.env=pure false):
  PS X (.Assign [.Subscript o i pos'] value pos) (aKQ td ty tv):=by
 intro U s σ H D I h;refine wpAny_Assign_Subscript (cM (hv U s σ H _ I h) λr s1⟨v,H1,I1,rv,q1⟩=>cM (ho U s1 σ H1 _ I1 q1) λu s2⟨x,H2,I2,rx,q2⟩=>cM (hi U s2 σ H2 _ I2 q2) λiv s3 zQ=>?_) hs;let⟨y,H3,I3,ry,a,H4,ex,g,q3⟩:=zQ;subst ex;obtain rfl:u=Value.ref a:=rx;exact OX hu I3 g ry rv λs4 I4=>⟨σ,H4,I4,q3⟩
end
def T3(h:Heap)(hb:sysModules<h.objs.size):dO P w H (h.push {cls:=.type "dict",data:=.dict #[]}) h.objs.size (.dK []):=
 ⟨ó _,beq_eq_false_iff_ne.mpr (Ñ (Í hb)),[],.nil,Heap.DictOf.new h⟩
def aGZ:TE:=λ_ H Q=>∀p,H p=none->Q (.ref p) (bA H p (.dK []))
section
def T5:PE X (.Dict [] [] pos) aGZ:=λU s σ H Q I h=>
 wpAny_Dict_empty ⟨.ref s.heap.objs.size,_,I.laid (a:=s.heap.objs.size) (o:=.dK []) (t':=s.toks) (λ_ _ q=>Heap.get?_push_of_some _ q) (Ç _) (T3 s.heap I.big),rfl,h _ (I.hok.fresh (Ç _))⟩
end
structure M2(X:Cx)(o:Expr)(m:Str)(apos:Pos)(e f:Expr)(cpos:Pos):Prop where
 base:attributeBase o m X.env (eval o X.env)=eval o X.env
 few:((backTo cpos (starEach [e,f] X.env)).all (λx=>!x.1) && (backToKw cpos (keywordEach [] X.env)).all (λx=>x.1.isSome)
  && decide (([e,f]:List Expr).length+([]:List Keyword).length+(if ([]:List Keyword).isEmpty then 0 else 1)<30))=true
 line:(apos.endLine == cpos.line)=true
 trees:backTo cpos (starEach [e,f] X.env)=[(false,eval e X.env),(false,eval f X.env)]
def ϧ(H:Hp)(a:Addr):Prop:=(∃À,Rd H a (.dK À))\/∃À,Rd H a (.dT À)
def aG0(I:Inv X U σ H s)(d:ϧ H a):
  s.TypeIs (.ref a) "dict"/\(∀b,Value.ref a=.ref b->∃ob,s.heap.get? b=some ob/\ob.dict=none)/\(a == sysModules)=false:=by
 rcases d with ⟨À,e⟩|⟨À,e⟩
 .obtain⟨_,hd,vs,_,dd⟩:=MG I.hok e
  refine⟨dd.typeIs,λb q=>?_,hd⟩;cases q;let⟨ob,_,_,h1,h2,_⟩:=dd;exact⟨ob,h1,h2.2.1⟩
 .obtain⟨_,hd,xs,_,dd⟩:=MH I.hok e
  refine⟨dd.typeIs,λb q=>?_,hd⟩;cases q;let⟨ob,_,_,h1,h2,_⟩:=dd;exact⟨ob,h1,h2.2.1⟩
section
variable {X:Cx}{U:ZB}{σ:St}{H:Hp}{s:Shared}{a:Addr}{y d:V}{u r:Value}{o:Option V}{A:Around}{E:ZA}
def aG1(hu:A.units+1<cLine)(I:Inv X U σ H s)(g:zY H a y o)(ry:bH y u)(rd:bH d r)(h:∀w' s',Inv X U σ H s'->bH (o.getD d) w'->Q w' s'):
  wpAny 'b' A (call (.builtin "dict.get") [.ref a,u,r]) Q E s:=by
 rcases g with ⟨À,k,e,ey,l⟩|⟨À,k,b,e,ey,eb,l⟩
 .subst ey
  let⟨z,hd,vs,rel,dd⟩:=MG I.hok e;refine call_meetsIn PySem.F.slot_dict_get dd.typeIs PySem.F.entry_dict_get (PySem.F.args_dict_get_3 _ _ _) (meets_dict_get_default (c9 X.prog X.w) a (MF ry) hd r) ⟨_,dd.mapOf,h _ _ (I.tok _) ?_⟩;rw[l];exact(rel.val k).getD rd
 .subst ey
  cases (show u=Value.ref b from ry);let⟨z,hd,xs,rel,dd⟩:=MH I.hok e;refine call_meetsIn PySem.F.slot_dict_get dd.typeIs PySem.F.entry_dict_get (PySem.F.args_dict_get_3 _ _ _) (meetsH_dict_get_default (tupleKind (c9 X.prog X.w)) a b hd r) ⟨tupleKind_room_in1 hu,k,xs,C5 I.hok eb,dd,h _ _ (I.tok _) ?_⟩;rw[l];exact(rel.val k).getD rd
end
def aG2(td ty tx:TE):TE:=λσ H Q=>td σ H λx H1=>∃a,x=.ref a/\ϧ H1 a/\ty σ H1 λy H2=>tx σ H2 λz H3=>∃o,zY H3 a y o/\Q (o.getD z) H3
section
def T6(hu:X.A.units+1<cLine)(ho:PE X o td)(he:PE X e ty)(hf:PE X f tx)(m:M2 X o "get" apos e f cpos):PE X (.Call (.Attribute o "get" apos) [e,f] [] cpos) (aG2 td ty tx):=by
 intro U s σ H Q I h;refine wpAny_Call_method m.base m.few m.line PySem.F.plainAttrs_dict PySem.F.slot_dict_get PySem.F.type_dict_get (cM (ho U s σ H _ I h) λu s1⟨x,H1,I1,rx,a,ex,d,q1⟩=>?_);subst ex;obtain rfl:u=Value.ref a:=rx;let⟨t1,t2,_⟩:=aG0 I1 d;refine⟨t1,t2,?_⟩;rw[m.trees];refine Calls.callWith_builtin rfl (Calls.evalArgs_plain (Calls.spliced_cons (cM (he U s1 σ H1 _ I1 q1) λiv s2⟨y,H2,I2,ry,q2⟩=>
  Calls.spliced_cons (cM (hf U s2 σ H2 _ I2 q2) λfv s3⟨z,H3,I3,rz,ov,g,q3⟩=>Calls.spliced_nil ?_))))
 exact aG1 hu I3 g ry rz λw' s4 I4 rw'=>⟨_,H3,I4,rw',q3⟩
end
section
end
section
end
def c7:D->Option dN
 |.int i=>some (.inl i)
 |.str x=>some (.inr x)
 |_=>none
def sF(k:dN):c7 (ER k)=some k:=by cases k<;>rfl
def JV(k:dN)(ms:List dN):(List dN):=if (ms.any λm=>decide (m=k))=true then ms else ms++[k]
def C6{α:Type}(k:dN)(y:α)(ms:List dN)(xs:List α):(List α):=if (ms.any λm=>decide (m=k))=true then (ms.zip xs).map (λp=>if p.1=k then y else p.2)else xs++[y]
def JW(k:dN)(y:D)(À:List (D×D)):(List (D×D)):=
 if (À.any λkv=>decide (c7 kv.1=some k))=true then À.map (λkv=>if c7 kv.1=some k then (kv.1,y)else kv)else À++[(ER k,y)]
def jK(k:dN)(À:List (D×D)):ZL:=(À.find? λkv=>decide (c7 kv.1=some k)).map Prod.snd
def MJ{α:Type}:∀{ms:List dN}{xs:List α},ms.length=xs.length->((ms.zip xs).any λkv=>decide (kv.1=k))=ms.any λm=>decide (m=k)
 |[],[],_=>rfl
 |m::ms,x::xs,h=>by rw[â,List.any_cons,List.any_cons,MJ (by simpa using h)]
def GE :∀{ms:List dN}{xs:ZI},ms.length=xs.length->(((ms.map ER).zip xs).any λkv=>decide (c7 kv.1=some k))=ms.any λm=>decide (m=k)
 |[],[],_=>rfl
 |m::ms,x::xs,h=>by
  rw[Ï,â,List.any_cons,List.any_cons,GE (by simpa using h)];dsimp only;rw[sF]
  grind
def MK{α:Type}{y:α}:∀{ms:List dN}{xs:List α},ms.length=xs.length->(ms.zip xs).map (λkv=>if kv.1=k then (kv.1,y)else kv)=ms.zip ((ms.zip xs).map (λp=>if p.1=k then y else p.2))
 |[],[],_=>rfl
 |m::ms,x::xs,h=>by
  rw[â,Ï,Ï,â,MK (by simpa using h)];congr 1;dsimp only;split<;>rfl
def GF{y:D}:∀{ms:List dN}{xs:ZI},ms.length=xs.length->((ms.map ER).zip xs).map (λkv=>if c7 kv.1=some k then (kv.1,y)else kv)=(ms.map ER).zip ((ms.zip xs).map (λp=>if p.1=k then y else p.2))
 |[],[],_=>rfl
 |m::ms,x::xs,h=>by
  rw[Ï,â,â,Ï,Ï,â,GF (by simpa using h)];congr 1;dsimp only;rw[sF]
  grind
def T7{xs:List α}(h:ms.length=xs.length):(JV k ms).length=(C6 k y ms xs).length:=by
 unfold JV C6;split
 .rw[Ä,é];lia
 .rw[Ì,Ì,h];rfl
def T8(h:ms.length=xs.length):t0 (ms.zip xs) k y=(JV k ms).zip (C6 k y ms xs):=by
 unfold t0 JV C6;rw[MJ h];split
 .exact MK h
 .rw[List.zip_append h];rfl
def T9{xs:ZI}(h:ms.length=xs.length):JW k y ((ms.map ER).zip xs)=((JV k ms).map ER).zip (C6 k y ms xs):=by
 unfold JW JV C6;rw[GE h];split
 .exact GF h
 .rw[Ù,List.zip_append (by rw[Ä];exact h)];rfl
def t3{K:ZC}:∀{ms:List dN}{ds:ZI}{vs:List V},ms.length=ds.length->aD K F ds vs->(jK k ((ms.map ER).zip ds)=none/\qC (ms.zip vs) k=none)\/∃d v,jK k ((ms.map ER).zip ds)=some d/\qC (ms.zip vs) k=some v/\bG K F d v
 |[],[],vs,_,_=>.inl ⟨rfl,rfl⟩
 |m::ms,d::ds,vs,h,r=>by
  unfold aD at r;let⟨x,t,rfl,hx,ht⟩:=r;rw[Ï,â,â];by_cases e:m=k
  .refine .inr ⟨d,x,?_,?_,hx⟩
   .unfold jK
    rw[ĉ,decide_eq_true (by dsimp only;rw[sF,e])]
    rfl
   .exact sD e
  .have ih:=t3 (k:=k) (ms:=ms) (by simpa using h) ht
   have e1:jK k ((ER m,d)::(ms.map ER).zip ds)=jK k ((ms.map ER).zip ds):=by
    unfold jK;rw[ĉ,decide_eq_false (by dsimp only;rw[sF];exact λz=>e (Option.some.inj z))]
   rw[e1,sE (by exact e)];exact ih
def Ϩ{K:ZC}:∀{ms:List dN}{ds:ZI}{vs:List V},ms.length=ds.length->aD K F ds vs->bG K F d v->aD K F ((ms.zip ds).map (λp=>if p.1=k then d else p.2)) ((ms.zip vs).map (λp=>if p.1=k then v else p.2))
 |[],[],vs,_,r,_=>by unfold aD at r;subst r;exact lQ
 |m::ms,d'::ds,vs,h,r,hd=>by
  unfold aD at r;let⟨x,t,rfl,hx,ht⟩:=r;rw[â,â,Ï,Ï];refine lR ?_ (Ϩ (by simpa using h) ht hd);dsimp only;split
  .exact hd
  .exact hx
def aAO{K:ZC}(h:ms.length=ds.length)(r:aD K F ds vs)(hd:bG K F d v):aD K F (C6 k d ms ds) (C6 k v ms vs):=by
 unfold C6;split
 .exact Ϩ h r hd
 .exact r.app (lR hd lQ)
section
variable {X:Cx}{Z:bT}{ow ol ox:ZH}{rm i:Nat}{spos tpos:Pos}{fk fv:M D}{F H:Hp}{σ:St}{δ:DS}{g:ZP}{K:ZC}
def bC.dct(h:bC K F H g i 30 p d v):
  ∃a ms ds vs,d=kE ms ds/\v=.ref a/\ms.length=ds.length/\ds.length=vs.length/\g a=some (i,p)/\H a=some (.dK (ms.zip vs))/\F a=none/\aD K F ds vs:=by
 let⟨ds,vs,cs,nd,hc,hl,r⟩:=bC.open (c:=29) h;let⟨a,ms,h1,h2,h3,rfl⟩:=nd;let⟨a1,a2,a3⟩:=hc _ (í.mpr rfl);exact⟨a,ms,ds,vs,h1,h2,h3,hl,by simpa using a1,a2,a3,aD.of hl λk d' v' q1 q2=>r k d' v' q1 q2⟩
def bC.mkD{i:Nat}{p:ZH}{a:Addr}{ms:List dN}{ds:ZI}{vs:List V}(h3:ms.length=ds.length)(a1:g a=some (i,p))(a2:H a=some (.dK (ms.zip vs)))(a3:F a=none)(r:aD K F ds vs):bC K F H g i 30 p (kE ms ds) (.ref a):=by
 refine bC.shut (c:=29) (ds:=ds) (vs:=vs) (cs:=[(a,[],.dK (ms.zip vs))]) ⟨a,ms,rfl,rfl,h3,rfl⟩ (λx hx=>?_) r.len λk d' v' q1 q2=>r.both k d' v' q1 q2;rw[í.mp hx];exact⟨by simpa using a1,a2,a3⟩
def cN.newDict(S:aQ Z ow)(R:cN K Z ow F H σ δ)(hp:H p=none):f8 K Z ow 30 (kE [] []) (.ref p) F (bA H p (.dK [])) σ δ:=by
 have fp:=R.fnone hp;let⟨g,R⟩:=R;have z:Z.H0 p=none:=by
  cases e:Z.H0 p with
  |none=>rfl
  |some u=>exact absurd hp (R.there p (by rw[e];simp))
 refine⟨λb=>if b=p then some (1000,[])else ė g 1000 b,⟨R.sub.trans' (cI hp _),R.f0,λb u n e=>?_,R.new,λb h=>?_,λa i q e=>?_,R.len,R.par,λi d e=>?_⟩,?_⟩
 .have:b≠p:=λq=>by rw[q,z]at e;cases e
  rw[aF this];exact R.kept b u n e
 .have:b≠p:=λq=>h (by rw[q,z])
  rw[aF this];exact R.there b h
 .split at e
  .rename_i q;rw[q];exact .inl z
  .exact R.lab a i q (B8 e).1
 .obtain⟨v,e1,o⟩:=R.slot i d e
  refine⟨v,e1,?_⟩;by_cases hi:ow.getD i 0=0
  .rw[hi]at o⊢;exact o
  .have hi':i<1000:=C4 S hi
   refine o.keepJ (λ_ _ z=>z) λa q u e1 e2 e3=>?_;have:a≠p:=λz=>by rw[z,hp]at e2;cases e2
   exact⟨by rw[Ã this];exact B7 (by show i≠1000;exact Í ‹_›) e1,by rw[aF this];exact e2,e3⟩
 .exact bC.mkD (ms:=[]) (vs:=[]) rfl (Â rfl) aJ fp lQ
def C7(S:aQ Z ow):DE X Z ow 30 (.Dict [] [] pos) (dC (kE [] [])):=PE.mono T5 λσ H Q q=>by
 let⟨F,δ,R,q⟩:=q;exact λp hp=>q _ _ F (R.newDict S hp) 'p'
def bU.rewriteD(R:bU K Z ow g F H σ δ)(ho:ow.getD i 0=30)(hd:δ[i]?=some (some (kE ms ds)))(hs:σ[i]?=some (some (.ref a)))(hl:ms'.length=ds'.length)(hr:aD K F ds' vs'):
  bU K Z ow g F (bA H a (.dK (ms'.zip vs'))) σ (δ.set i (some (kE ms' ds'))):=by
 let⟨v,e1,o⟩:=R.slot i _ hd;rw[hs]at e1;cases e1;rw[ho]at o;let⟨a',ms0,ds0,vs0,q1,q2,q3,q4,q5,q6,q7,q8⟩:=o.dct;cases q2;have hi:i<δ.length:=(Ð.mp hd).1;refine⟨λb u e=>?_,R.f0,λb u n e=>?_,R.new,λb z=>?_,R.lab,by rw[Ú];exact R.len,R.par,λj d e=>?_⟩
 .have:b≠a:=λz=>by rw[z,q7]at e;cases e
  rw[aF this];exact R.sub b u e
 .have:b≠a:=λz=>by
   subst z;rcases R.lab b i [] q5 with w|⟨q,w⟩
   all_goals grind
  rw[aF this];exact R.kept b u n e
 .by_cases hb:b=a
  .subst hb;rw[aJ];simp
  .rw[aF hb];exact R.there b z
 .by_cases hj:j=i
  .subst hj
   rw[ë hi]at e;cases e;refine⟨_,hs,?_⟩;rw[ho];exact bC.mkD hl q5 aJ q7 hr
  .rw[Þ (Ñ hj)]at e
   let⟨v,e1,o⟩:=R.slot j d e;exact⟨v,e1,bC.updNe q5 (.inl hj) o⟩
def ML(i:Nat)(fk fv:M D):M Fl:=λδ=>(fv δ).bind λv δ1=>match δ1[i]? with
 |some (some _)=>(fk δ1).bind λk δ2=>(match δ2[i]?,c7 k with
  |some (some (.dict À)),some ky=>if À.length<sizeLine then .ok .next (δ2.set i (some (.dict (JW ky v À))))else .stuck
  |_,_=>.stuck)
 |_=>.stuck
def C8(h:c7 k=some ky)(r:bG K F k y):y=kV ky:=by
 cases k with
 |int i=>cases h;unfold bG at r;exact r
 |str x=>cases h;unfold bG at r;exact r
 |_=>cases h
def aG3{À:List (D×D)}(h:(PyData.dict À:D)=kE ms ds):À=(ms.map ER).zip ds:=by
 unfold kE at h;injection h
def sG(i:Nat){x:Str}{p:Pos}(hu:X.A.units+64<cLine)(hv:DE X Z ow 0 ev fv)(hk:DE X Z ow 0 ek fk)(ho:↥(ow.getD i 0=30))(hN:↥'t')(hvi:#v[AJ X.env.scope x])(hd:⇑(Zdb x))(hcd:⇑(Zcd x))(hs:↥(swapsWith ev (some (.Subscript 'g' ek tpos)) spos.line X.env=pure false)):
  CC X Z ow ow ol ox rm (.Assign [.Subscript 'g' ek tpos] ev spos) (ML i fk fv):=PS.mono (aAN ∅ (dQ hN hvi hd hcd) hk hv hs) λDn σ H h=>by
 let⟨F,δ,R,h⟩:=h;unfold ML at h;sleep 4;cases e:fv δ with
 |stuck=>sleep 1
 |err y δ1=>rw[e]at h;exact iM.cast h
 |ok dv δ1=>
  rw[e]at h;sleep 8;intro v H1 F1 R1 s1;cases e0:δ1[i]? with
  |none=>rw[e0]at h;exact h.elim
  |some o=>
   cases o with
   |none=>rw[e0]at h;exact h.elim
   |some d0=>
    rw[e0]at h;dsimp only at h;let⟨g0,R0⟩:=R1.rel;let⟨v0,w0,o0⟩:=R0.slot i _ e0;rw[ho]at o0;let⟨a,ms0,ds0,vs0,_,q2,_⟩:=o0.dct;subst q2;refine⟨_,w0,F1,δ1,R1.rel,?_⟩;cases e1:fk δ1 with
    |stuck=>rw[e1]at h;exact h.elim
    |err y δ2=>rw[e1]at h;exact iM.cast (iM.mono h s1)
    |ok dk δ2=>
     rw[e1]at h;dsimp only at h;intro kv H2 F2 R2 s2;let⟨g2,RG,ok2⟩:=R2;have ok2:bG X.K F2 dk kv:=ok2;split at h
     .rename_i À ky e2 e3
      split at h
      .rename_i hlt
       let⟨v1,w1,o1⟩:=RG.slot i _ e2;rw[ho]at o1;let⟨a',ms,ds,vs,d1,q2,l1,l2,_,hH,_,hr⟩:=o1.dct;rw[w0]at w1;cases w1;cases q2;obtain rfl:=aG3 d1;obtain rfl:=C8 e3 ok2;rw[é,Ä]at hlt;refine⟨a,_,rfl,T1.k hH (by rw[é];lia),?_⟩;rw[T8 'k'];rw[T9 l1]at h;have R3:=RG.rewriteD (ms':=JV ky ms) ho (show δ2[i]?=some (some (kE ms ds))from e2) w0 (T7 l1) (aAO (k:=ky) l1 hr (s2.rep _ _ R1.rep));exact h σ _ F2 ⟨g2,R3⟩ (s1.trans' s2)
      .exact h.elim
     .exact h.elim
def MM(fx fk fz:M D):M D:=λδ=>(fx δ).bind λx δ1=>match x with
 |.dict À=>if (À.all λkv=>(c7 kv.1).isSome)=true then (fk δ1).bind λk δ2=>(fz δ2).bind λz δ3=>(match c7 k with
  |some ky=>.ok ((jK ky À).getD z) δ3
  |none=>.stuck)else .stuck
 |_=>.stuck
def MN{À:List (D×D)}(h:bG K F (.dict À) v)(ha:(À.all λkv=>(c7 kv.1).isSome)=true):∃(a:Addr)(ms:List dN)(ds:ZI)(vs:List V),À=(ms.map ER).zip ds/\ms.length=ds.length/\v=.ref a/\F a=some (.dK (ms.zip vs))/\aD K F ds vs:=by
 unfold bG at h;let⟨a,xs,rfl,hh,hr⟩:=h;rcases hh with ⟨nm,fs,C,dx,vs,h1,h2,_⟩|⟨ms,h1,h2,h3⟩
 .exfalso
  cases À with
  |nil=>cases h2
  |cons kv À=>
   rw[Ï]at h2;injection h2 with h2 _;rw[List.all_cons,h2]at ha;cases ha
 .have hl:ms.length=(À.map Prod.snd).length:=by rw[<- Ä (f:=ER),<- h1,Ä,Ä]
  refine⟨a,ms,À.map Prod.snd,xs,?_,hl,rfl,h3,hr.all⟩;rw[<- h1];clear h1 hl h3 hr h2 ha
  induction À with
  |nil=>rfl
  |cons kv À ih=>grind
def MO{apos cpos:Pos}(hu:X.A.units+64<cLine)(ho:DE X Z ow 0 o fx)(he:DE X Z ow 0 e fk)(hf:DE X Z ow 0 f fz)(base:↥(attributeBase o "get" X.env (eval o X.env)=eval o X.env))(few:↥(((backTo cpos (starEach [e,f] X.env)).all (λx=>!x.1) && (backToKw cpos (keywordEach [] X.env)).all (λx=>x.1.isSome)
   && decide (([e,f]:List Expr).length+([]:List Keyword).length+(if ([]:List Keyword).isEmpty then 0 else 1)<30))=true))(line:↥((apos.endLine == cpos.line)=true))(trees:↥(backTo cpos (starEach [e,f] X.env)=[(false,eval e X.env),(false,eval f X.env)])):
  DE X Z ow 0 (.Call (.Attribute o "get" apos) [e,f] [] cpos) (MM fx fk fz):=PE.mono (T6 ∅ ho he hf ⟨base,few,line,trees⟩) λσ H Q q=>by
 let⟨F,δ,R,q⟩:=q;unfold MM at q;sleep 4;cases e1:fx δ with
 |stuck=>rw[e1]at q;sleep 5
 |err y δ1=>rw[e1]at q;exact q
 |ok dx δ1=>
  rw[e1]at q;simp![Res.bind]at q;intro x H1 F1 R1 s1;split at q
  .rename_i À
   split at q
   .rename_i hall
    let⟨a,ms,ds,vs,rfl,l1,rfl,hF,hr⟩:=MN R1.rep hall;refine⟨a,rfl,.inl ⟨_,.inl (R1.rel.sub _ _ hF)⟩,F1,δ1,R1.rel,?_⟩;cases e2:fk δ1 with
    |stuck=>rw[e2]at q;sleep 5
    |err y δ2=>rw[e2]at q;exact iM.mono q s1
    |ok dk δ2=>
     rw[e2]at q;simp![Res.bind]at q;intro y H2 F2 R2 s2;refine⟨F2,δ2,R2.rel,?_⟩;cases e3:fz δ2 with
     |stuck=>rw[e3]at q;sleep 5
     |err y δ3=>rw[e3]at q;exact iM.mono q (s1.trans' s2)
     |ok dz δ3=>
      rw[e3]at q;simp![Res.bind]at q;intro z H3 F3 R3 s3;split at q
      .rename_i ky e4
       obtain rfl:=C8 e4 R2.rep;refine⟨qC (ms.zip vs) ky,zY.k (R3.rel.sub _ _ (s3 _ _ (s2 _ _ hF))),?_⟩;rcases t3 (k:=ky) l1 hr with ⟨h1,h2⟩|⟨d,v,h1,h2,h3⟩
       .rw[h1]at q
        rw[h2];exact q z H3 F3 R3 (s1.trans' (s2.trans' s3))
       .rw[h1]at q
        rw[h2];exact q v H3 F3 (R3.rel.x ((s2.trans' s3).rep _ _ h3)) (s1.trans' (s2.trans' s3))
      .sleep 5
   .sleep 5
  .sleep 5
end
section
def dU:List (M D)->M (ZI)
 |[],δ=>.ok [] δ
 |f::fs,δ=>match f δ with
  |.ok d δ1=>(match dU fs δ1 with
   |.ok ds δ2=>.ok (d::ds) δ2
   |_=>.stuck)
  |_=>.stuck
end
section
end
end L2
namespace L2
open PySem PySem.Spec
section
end
end L2
namespace L2
open PySem PySem.Spec PyProof.Rows
def UA(lo:Int)(n:Nat):(List V):=(List.range n).map λ(k:Nat)=>V.int (lo+(k:Int))
def aNZ(ta:TA):TE:=λσ H Q=>ta σ H λvs H1=>∃j:Int,vs=[.int j]/\-(2^62)<=j/\j<2^62/\∀r,H1 r=none->Q (.ref r) (bA H1 r (.rng 0 j))
def aN0(ta:TA):TE:=λσ H Q=>ta σ H λvs H1=>∃i j:Int,vs=[.int i,.int j]/\(-(2^62)<=i/\i<2^62/\-(2^62)<=j/\j<2^62)/\∀r,H1 r=none->Q (.ref r) (bA H1 r (.rng i j))
def ϩ:∀{vs:List V}{us:ZJ},vs.length=us.length->(∀(k:Nat)(v:V)(u:Value),vs[k]?=some v->us[k]?=some u->bH v u)->bI vs us
 |[],[],_,_=>.nil
 |v::vs,u::us,hl,h=>.cons (h 0 v u rfl rfl) (ϩ (by simpa using hl) λk v' u' e1 e2=>h (k+1) v' u' e1 e2)
section
variable {X:Cx}{a b:Expr}{ta:TA}{p pos:Pos}
def aG4(hg:Gl X "range")(hm:X.mg "range"=none)(ha:PA X [a] ta)(hs:↥(starEach [a] X.env=[(false,eval a X.env)])):PE X (.Call (.Name "range" p) [a] [] pos) (aNZ ta):=by
 intro U s σ H Q I h;refine Call_ (iK I hg hm boot_range (PyProof.Rows.callWith_type1 (cM (ha pos U s σ H _ I h) λus s1 zQ=>?_) hs rfl));let⟨vs,H1,I1,r1,q1⟩:=zQ;let⟨j,e,q1,q2,q⟩:=q1;subst e;cases r1 with
 |cons r rr=>
  cases rr;let⟨t,rfl⟩:=r;exact call_range_1 ⟨.ref _,_,I1.laid (o:=.rng 0 j) (λb o e=>Heap.get?_push_of_some _ e) (Ç _) (show ∃t u v,_ from⟨_,_,_,Heap.get?_push_size _ rfl⟩),rfl,q _ (I1.hok.fresh (Ç _))⟩
def aG5(hg:Gl X "range")(hm:X.mg "range"=none)(ha:PA X [a,b] ta)(hs:↥(starEach [a,b] X.env=[(false,eval a X.env),(false,eval b X.env)]))(hs2:↥(starEach [b] X.env=[(false,eval b X.env)])):PE X (.Call (.Name "range" p) [a,b] [] pos) (aN0 ta):=by
 intro U s σ H Q I h;refine Call_ (iK I hg hm boot_range (PyProof.Rows.callWith_type1 (cM (ha pos U s σ H _ I h) λus s1 zQ=>?_) (by rw[hs,hs2]) (by rw[hs2];rfl)));let⟨vs,H1,I1,r1,q1⟩:=zQ;let⟨i,j,e,q1,q⟩:=q1;subst e;cases r1 with
 |cons r rr=>
  cases rr with
  |cons r' rr=>
   cases rr;let⟨t,rfl⟩:=r;let⟨t',rfl⟩:=r';exact call_range_2 ⟨.ref _,_,I1.laid (o:=.rng i j) (λb o e=>Heap.get?_push_of_some _ e) (Ç _) (show ∃t u v,_ from⟨_,_,_,Heap.get?_push_size _ rfl⟩),rfl,q _ (I1.hok.fresh (Ç _))⟩
def pL(hc:X.calm=true):g7 X (.type "list") (λxs H Q=>∃p lo hi,xs=[.ref p]/\H p=some (.rng lo hi)/\(-(2^62)<=lo/\lo<2^62/\-(2^62)<=hi/\hi<2^62)/\(hi-lo).toNat<=sizeLine/\∀l,H l=none->Q (.ref l) (bA H l (.lst (UA lo (hi-lo).toNat)))):=by
 intro U s σ H xs us Q I r h;let⟨p,lo,hi,rfl,hp,⟨h1,h2,h3,h4⟩,hz,q⟩:=h;let⟨u,rfl,rx⟩:=mO r;cases rx;let⟨t,u,v,e⟩:=I.hok p _ hp;refine call_list_range (I.ok.hd hc) (show IsRange s.heap p lo hi 1 t u v from e) (small_one h1 h2 h3 h4) (n:=(hi-lo).toNat) (by rw[rangeSize_one];split<;>lia) hz λh' tk acc' c' kp e it=>?_;let⟨i1,i2⟩:=it;refine⟨.ref _,_,I.laid (t':=tk) kp (Ç _) (show dO X.prog X.w _ h' _ (.lst (UA lo (hi-lo).toNat))from⟨by unfold UA;simpa using hz,acc'.toList,c',?_,by simpa using e⟩),rfl,q _ (I.hok.fresh (Ç _))⟩;refine ϩ ?_ λk v u e1 e2=>?_
 .unfold UA;simp[i1]
 .have hk:k<(hi-lo).toNat:=by
   have:=(Ð.mp e1).1;unfold UA at this;simpa using this
  unfold UA at e1;rw[Î,ÿ hk]at e1;cases e1;let⟨t',e3⟩:=i2 k u (by simpa using e2);exact⟨t',by rw[e3];simp⟩
end
section
variable {X:Cx}{Z:bT}{ow:ZH}{a b:Expr}{f g:M D}{p p2 p3 pos:Pos}
def BH(fs:List (M D)):M D:=λδ=>(aZ fs δ).bind λds δ1=>match lT ds with
 |some (lo,n)=>if n<=sizeLine then .ok (.list (iO lo n)) δ1 else .stuck
 |none=>.stuck
def GG{K:ZC}{lo:Int}:aD K F (iO lo n) (UA lo n):=aD.of (by rw[dZ];unfold UA;simp) λk d v e1 e2=>by
 have hk:k<n:=by
  have:=(Ð.mp e1).1;rw[dZ]at this;exact this
 rw[CG hk]at e1;unfold UA at e2;rw[Î,ÿ hk]at e2;cases e1;cases e2;exact eU
def UB(S:aQ Z ow)(hc:X.calm=true)(hgl:Gl X "list")(hml:X.mg "list"=none)(hgr:Gl X "range")(hmr:X.mg "range"=none)(ha:DE X Z ow 0 a f)(hs:↥(Zse a [] X.env))(he:↥(starEach [.Call (.Name "range" p2) [a] [] p3] X.env=(false,eval (.Call (.Name "range" p2) [a] [] p3) X.env)::starEach [] X.env)):DE X Z ow 1 (.Call (.Name "list" p) [.Call (.Name "range" p2) [a] [] p3] [] pos) (BH [f]):=
 PE.mono (tK (pL hc) hgl hml lN (gS (aG4 hgr hmr (aE ha aV hs) hs) mV he) ⋯ ⋯ he) λσ H Q q=>by
  let⟨F,δ,R,q⟩:=q;unfold BH at q;sleep 4;cases e1:aZ [f] δ with
  |stuck=>rw[e1]at q;sleep 5
  |err x δ1=>rw[e1]at q;exact q
  |ok ds δ1=>
   rw[e1]at q;simp![Res.bind]at q;intro vs H1 F1 R1 s1 ra;cases e2:lT ds with
   |none=>rw[e2]at q;sleep 5
   |some m=>
    let⟨lo,m⟩:=m;rw[e2]at q;let⟨j,rfl,h1,h2,rfl,rfl⟩:=FD e2 (oB e1);dsimp only at q;split at q
    .rename_i hz
     refine⟨j,wR ra,h1,h2,λr hr=>⟨r,0,j,rfl,aJ,⟨⋯,⋯,h1,h2⟩,by simpa using hz,λl hl=>?_⟩⟩;have R2:=R1.laid (o:=.rng 0 j) hr;have fr:F1 r=none:=R1.fnone hr;have:=q (.ref l) _ _ (R2.newList (ds:=iO 0 j.toNat) (vs:=UA 0 (j-0).toNat) S hl (by rw[Int.sub_zero];exact GG)) (s1.trans' (cI fr _));exact this
    .sleep 5
def UC(S:aQ Z ow)(hc:X.calm=true)(hgl:Gl X "list")(hml:X.mg "list"=none)(hgr:Gl X "range")(hmr:X.mg "range"=none)(ha:DE X Z ow 0 a f)(hb:DE X Z ow 0 b g)(hs:↥(starEach [a,b] X.env=(false,eval a X.env)::starEach [b] X.env))(hs2:↥(Zse b [] X.env))(he:↥(starEach [.Call (.Name "range" p2) [a,b] [] p3] X.env=(false,eval (.Call (.Name "range" p2) [a,b] [] p3) X.env)::starEach [] X.env)):DE X Z ow 1 (.Call (.Name "list" p) [.Call (.Name "range" p2) [a,b] [] p3] [] pos) (BH [f,g]):=
 PE.mono (tK (pL hc) hgl hml lN (gS (aG5 hgr hmr (aE ha (aE hb aV hs2) hs) (hs.trans (by rw[hs2];rfl)) hs2) mV he) ⋯ ⋯ he) λσ H Q q=>by
  let⟨F,δ,R,q⟩:=q;unfold BH at q;sleep 4;cases e1:aZ [f,g] δ with
  |stuck=>rw[e1]at q;sleep 5
  |err x δ1=>rw[e1]at q;exact q
  |ok ds δ1=>
   rw[e1]at q;simp![Res.bind]at q;intro vs H1 F1 R1 s1 ra;cases e2:lT ds with
   |none=>rw[e2]at q;sleep 5
   |some m=>
    let⟨lo,m⟩:=m;rw[e2]at q;let⟨i,j,rfl,h1,rfl,rfl⟩:=RL e2 (oB e1);dsimp only at q;split at q
    .rename_i hz
     refine⟨lo,j,RM ra,h1,λr hr=>⟨r,lo,j,rfl,aJ,h1,hz,λl hl=>?_⟩⟩;have R2:=R1.laid (o:=.rng lo j) hr;have fr:F1 r=none:=R1.fnone hr;exact q (.ref l) _ _ (R2.newList (ds:=iO lo (j-lo).toNat) (vs:=UA lo (j-lo).toNat) S hl GG) (s1.trans' (cI fr _))
    .sleep 5
end
structure t4(K:ZC)(mg:ZD)(base:Heap):Prop where
 bm:∃bm ob,mg "__builtins__"=some (.ref bm)/\bm≠builtinsNs/\base.get? bm=some ob/\ob.cls=.type "module"/\ob.dict=some builtinsNs/\ob.data=.plain
 cd:∀c P pos,jI K=some (c,P,pos)->W.CodeHd base c P
section
variable {X:Cx}{U:ZB}{σ:St}{H:Hp}{s:Shared}
structure GH(X:Cx)(U:ZB)(a:Addr):Prop where
 pin:∀p∈X.pn++U,p.1≠a
 new:X.s₀.heap.objs.size<=a
 loc:a≠X.env.locals
 cells:∀x c,X.env.cells.lookup x=some c->c≠a
def Inv.mine(I:Inv X U σ H s)(h:s.heap.objs.size<=a):GH X U a:=
 ⟨λp hp=>Í (Ö (Heap.lt_size (I.pin p hp).1) h),Ø I.sz h,ß (Ö I.lt h),λx c e=>by
  let⟨v,q⟩:=I.cell x c e;exact Í (Ö q.lt h)⟩
def Inv.repin(I:Inv X ((a,o)::U) σ H s)(m:GH X U a)(k:∀b ob,b≠a->s.heap.get? b=some ob->h'.get? b=some ob)(e:h'.get? a=some o')(hd:∀v,o'.data≠.cell v):
  Inv X ((a,o')::U) σ H {s with heap:=h',toks:=t'}:=by
 let⟨p1,p2,p3,p4,p5⟩:=I.pin (a,o) (Ý _ Õ);have I1:Inv X U σ H s:=I.pins_of λp hp=>I.pin p (Ý _ (Ò _ hp));have I2:=I1.turned (h':=h') (t':=t') (it:=a) k p2 m.loc (.inr m.new) m.cells m.pin;refine I2.pins_of λp hp=>?_;rcases Ë.mp hp with rfl|hp
 .exact⟨e,p2,p3,p4,hd⟩
 .exact I2.pin p (Ý _ hp)
def Inv.pinNew(I:Inv X U σ H s)(e:s.heap.get? a=some o)(hn:H a=none)(hl:a≠X.env.locals)(hf:a∉X.fs)(hd:∀v,o.data≠.cell v):Inv X ((a,o)::U) σ H s:=I.pins_of λp hp=>by
 rcases Ë.mp hp with rfl|hp
 .exact⟨e,hn,hl,hf,hd⟩
 .exact I.pin p (Ý _ hp)
def Inv.unpin(I:Inv X (p::U) σ H s):Inv X U σ H s:=I.pins_of λq hq=>I.pin q (Ý _ (Ò _ hq))
end
abbrev sH(pos:Pos):HO:=.lam (rawInt pos.line) (rawInt pos.col) kF
abbrev OY(pos:Pos)(c':Addr):Obj:=W.tabObj #[rawInt pos.line,rawInt pos.col,.ref c']
structure l6(X:Cx)(U:ZB)(σ:St)(H:Hp)(P:Addr)(pos:Pos)(fo:Obj)(f c':Addr)(H':Hp)(s':Shared):Prop where
 inv:Inv X U σ H' s'
 same:aI H H'
 fn:s'.heap.get? f=some fo
 un:H' f=none
 loc:f≠X.env.locals
 nf:f∉X.fs
 cd:s'.heap.CodeRec (.ref c') kF
 own:H' c'=some (.own P)
 ne:c'≠P
 tb:s'.heap.get? P=some (OY pos c')
 lm:H' P=some (sH pos)
section
variable {X:Cx}{U:ZB}{σ:St}{H:Hp}{s:Shared}{params:Arguments}{body:Expr}{scope:Scope}{pos:Pos}{c P:Addr}{clos:List (Str×Addr)}
def UD{Q:ZA}{E:ZA}{M:Model}{A:Around}(I:Inv X U σ H s)(B:t4 X.K X.mg X.base)(hl:jI X.K=some (c,P,pos))(hP:H P=some (sH pos))(hcode:X.env.code=.ref c)(hq:X.env.qual++"<lambda>"=kF)(hcl:closureFor scope X.env=pure clos)(hdef:defaultsOf params X.env=([],[]))(h:∀f c' ctv H' s',l6 X U σ H P pos 'f' f c' H' s'->Q (.ref f) s'):wpAny M A (eval (.Lambda params body scope pos) X.env) Q E s:=by
 refine W.kla_eval hdef ?_;rw[hq];have hg:s.heap.Ns mainGlobals X.mg:=I.mod.glob.keeps I.bk;have C:W.CodeHd s.heap c P:=(B.cd c P pos hl).keeps I.bk;let⟨bm,ob,b1,b2,b3,b4,b5,b6⟩:=B.bm;have b3':=I.bk _ _ b3;let⟨ps,e1,e2⟩:=I.hok P _ hP;have hPl:P<s.heap.objs.size:=Heap.lt_size e1;have hgP:mainGlobals≠P:=λq=>by
  let⟨o,es,ep,e,hd,_⟩:=hg;rw[q,e1]at e;cases e;cases hd
 have hbP:bm≠P:=λq=>by rw[q,e1]at b3';cases b3';cases b4
 have hbG:bm≠mainGlobals:=λq=>by
  let⟨o,es,ep,e,hd,_⟩:=hg;rw[q,e]at b3';cases b3';rw[hd]at b6;cases b6
 have BA:s.heap.BuiltinsAt X.mg P:=⟨bm,ob,b1,b2,hbG,hbP,b3',b4,b5,b6⟩;have far:∀{n:Nat},s.heap.objs.size<=n->H n=none/\n≠X.env.locals/\n∉X.fs:=λ{n}hn=>⟨I.hok.fresh hn,ß (Ö I.lt hn),I.nofs hn⟩;rcases e2 with rfl|⟨c',rfl,o1,o2,o3⟩
 .refine W.kla_makeFunction (mg:=X.mg) hcl I.ok.glob hg hcode C e1 trivial rfl hgP BA λc' ctv h' tk hx hge hlt hrec htb=>?_
  have hc:H c'=none:=(far hge).1;have hk:∀b o,b≠P->s.heap.get? b=some o->(h'.push 'f').get? b=some o:=λb o n e=>Heap.get?_push_of_some _ (hx b o n e);have ht:(h'.push 'f').get? P=some (OY pos c'):=Heap.get?_push_of_some _ htb;have hr:(h'.push 'f').CodeRec (.ref c') kF:=hrec.push _;have ncP:c'≠P:=ß (Ö hPl hge);have un:Un X.fs [] H (bA H c' (.own P)) s.heap (h'.push 'f'):=by
   have nP:∀b,H b=none->b≠P:=λb n z=>by rw[z,hP]at n;cases n
   refine⟨λb o e n _ _=>hk b o (nP b n) e,λb o e n _ _=>⟨o.slots,hk b o (nP b n) e⟩,λb o e n _=>?_,λb o e _=>?_,λb xs e=>?_,λb o u e=>?_,λb ps e=>⟨#[],?_⟩⟩
   .rw[aF (Í (Ö 'y' hge))];exact n
   .by_cases z:b=P
    .exact⟨_,z▸ht⟩
    .exact⟨o,hk b o z e⟩
   .rw[aF (bK e hc)];exact e
   .rw[aF (bK e hc)];exact e
   .rw[aF (bK e hc),e];simp
  have hok:mM X.prog X.w (bA H c' (.own P)) (h'.push 'f'):=λb o e=>by
   by_cases z:b=c'
   .subst z
    rw[aJ]at e;cases e;let⟨_,o,_,_,q1,q2,_⟩:=hr;cases q1;exact⟨o,q2⟩
   .rw[aF z]at e
    by_cases y:b=P
    .subst y
     rw[hP]at e;cases e;exact⟨_,ht,.inr ⟨c',rfl,aJ,ncP,hr⟩⟩
    .refine(I.hok b o e).stay (λd u hd q=>hk d u ?_ q) (λd q=>by rw[aF (bK q hc)];exact q) λd xs q=>by rw[aF (bK q hc)];exact q
     rcases hd with rfl|hd
     .exact y
     .rintro rfl;rw[hP]at hd;cases hd
  have hf:s.heap.objs.size<=h'.objs.size:=È (Ā hge hlt);have I2:=I.un (t':=tk) un hok;refine h _ c' ctv (bA H c' (.own P)) _ ⟨I2,λb o e=>by rw[aF (bK e hc)];exact e,Heap.get?_push_size _ rfl,?_,(far hf).2.1,(far hf).2.2,hr,aJ,ncP,ht,by rw[aF (Ñ ncP)];exact hP⟩
  rw[aF (ß hlt)];exact(far hf).1
 .have am:codeAmong pos (#[rawInt pos.line,rawInt pos.col,.ref c']:Array Value).toList=some (.ref c'):=codeAmong_snoc (pos:=pos) (c:=.ref c') [] trivial rfl
  refine W.kla_makeFunctionHit (mg:=X.mg) hcl I.ok.glob hg hcode C e1 trivial am BA λctv h' tk hk hsz=>?_;have hk':∀b o,s.heap.get? b=some o->(h'.push 'f').get? b=some o:=λb o e=>Heap.get?_push_of_some _ (hk b o e);have I2:=I.kept (t':=tk) hk';exact h _ c' ctv H _ ⟨I2,λ_ _ e=>e,Heap.get?_push_size _ rfl,(far hsz).1,(far hsz).2.1,(far hsz).2.2,o3.keeps hk',o1,o2,hk' _ _ e1,hP⟩
def oY(P c':Addr)(H:Hp):Hp:=λb=>open Classical in if b=P\/b=c' then none else H b
def iF(h1:b≠P)(h2:b≠c'):oY P c' H b=H b:=by
 unfold oY;rw[Ã λz=>z.elim h1 h2]
def OZ(e:oY P c' H b=some o):b≠P/\b≠c'/\H b=some o:=by
 unfold oY at e;split at e
 .cases e
 .rename_i z
  exact⟨λq=>z (.inl q),λq=>z (.inr q),e⟩
def kQ{P c' b:Addr}{H:Hp}(e:H b=none):oY P c' H b=none:=by
 unfold oY;split
 .rfl
 .exact e
def aG6:oY P c' H P=none:=by unfold oY;rw[Â (.inl rfl)]
def aG7:oY P c' H c'=none:=by unfold oY;rw[Â (.inr rfl)]
def l6.hide(m:l6 X U σ H P pos fo f c' H' s')(hfo:∀v,fo.data≠.cell v):∃oc vs t,oc.data=.fields vs/\vs[1]?=some (.str kF t)/\Inv X ((f,fo)::(c',oc)::(P,OY pos c')::U) σ (oY P c' H') s':=by
 let⟨_,oc,vs,t,e0,e1,e2,e3⟩:=m.cd;cases e0;have nP:∀{b:Addr}{o:HO},H' b=some o->o≠sH pos->b≠P:=λ{b o}e n z=>by rw[z,m.lm]at e;cases e;exact n rfl
 have nc:∀{b:Addr}{o:HO},H' b=some o->o≠.own P->b≠c':=λ{b o}e n z=>by rw[z,m.own]at e;cases e;exact n rfl
 have I:=m.inv;have locP:P≠X.env.locals:=λz=>by have:=I.free;rw[<- z,m.lm]at this;cases this
 have locc:c'≠X.env.locals:=λz=>by have:=I.free;rw[<- z,m.own]at this;cases this
 have fsF:∀b∈X.fs,H' b=none:=λb hb=>by
  let⟨_,o,ho,_⟩:=I.ok.funs.mem hb;exact I.base.free b o ho (I.ok.frf b hb) λz=>I.ok.exfs b z hb
 have J:Inv X U σ (oY P c' H') s':=by
  refine⟨I.ok,I.os,I.bare,⟨I.base.keep,I.base.slot,λb o e n hx=>kQ (I.base.free b o e n hx),I.base.there,λb xs e=>?_,λb o u e=>?_,λb ps e=>?_⟩,I.loc,I.cell,kQ I.free,λx c e=>kQ (I.freeC x c e),λp hp=>?_,λb o e=>?_,I.len⟩
  .have q:=I.base.tups b xs e
   rw[iF (nP q 'e') (nc q 'e')];exact q
  .have q:=I.base.frzs b o u e
   rw[iF (nP q 'e') (nc q 'e')];exact q
  .obtain⟨more,q⟩:=I.base.tbls b ps e
   exact⟨more,by rw[iF (nP q 'e') (nc q 'e')];exact q⟩
  .obtain⟨a1,a2,a3⟩:=I.pin p hp
   exact⟨a1,kQ a2,a3⟩
  .obtain⟨h1,h2,e⟩:=OZ e
   refine(I.hok b o e).stay (λ_ _ _ q=>q) (λd q=>?_) λd xs q=>?_
   .rw[iF (nP q 'e') (λz=>by rw[z,m.own]at q;cases q;exact h1 rfl)];exact q
   .rw[iF (nP q 'e') (nc q 'e')];exact q
 refine⟨oc,vs,t,e2,e3,((J.pinNew m.tb aG6 locP (λz=>by have:=fsF _ z;rw[m.lm]at this;cases this) (λv=>by simp)).pinNew e1 aG7 locc (λz=>by have:=fsF _ z;rw[m.own]at this;cases this) (λv=>by rw[e2];simp)).pinNew m.fn (kQ m.un) m.loc m.nf hfo⟩
def xL(P c':Addr)(pos:Pos)(H:Hp):Hp:=λb=>open Classical in if b=P then some (sH pos)else if b=c' then some (.own P)else H b
def l6.show(m:l6 X U σ H P pos fo f c' H' s')(e2:oc.data=.fields vs)(e3:vs[1]?=some (.str kF t))(I2:Inv X ((f,fo)::(c',oc)::(P,OY pos c')::U) σ H2 s2)(hs:aI (oY P c' H') H2):Inv X U σ (xL P c' pos H2) s2/\aI H (xL P c' pos H2):=by
 have pc:=I2.pin (c',oc) (Ý _ 'e');have pP:=I2.pin (P,OY pos c') (Ý _ 'e');have I:=m.inv;have neP:∀{b:Addr}{o:HO},H2 b=some o->b≠P:=λe z=>by rw[z,pP.2.1]at e;cases e
 have nec:∀{b:Addr}{o:HO},H2 b=some o->b≠c':=λe z=>by rw[z,pc.2.1]at e;cases e
 have ne:∀{b:Addr},b≠P->b≠c'->xL P c' pos H2 b=H2 b:=λh1 h2=>by unfold xL;rw[Ã h1,Ã h2]
 have up:∀{b:Addr}{o:HO},H2 b=some o->xL P c' pos H2 b=some o:=λe=>by rw[ne (neP e) (nec e)];exact e
 have dn:∀{b:Addr},H' b=none->H2 b=none->xL P c' pos H2 b=none:=λ{b}e1 e2=>by
  rw[ne (λz=>by rw[z,m.lm]at e1;cases e1) (λz=>by rw[z,m.own]at e1;cases e1)];exact e2
 have sP:xL P c' pos H2 P=some (sH pos):=by unfold xL;rw[Â rfl]
 have sc:xL P c' pos H2 c'=some (.own P):=by unfold xL;rw[Ã m.ne,Â rfl]
 refine⟨⟨I2.ok,I2.os,I2.bare,⟨I2.base.keep,I2.base.slot,λb o e n hx=>dn (I.base.free b o e n hx) (I2.base.free b o e n hx),I2.base.there,λb xs e=>up (I2.base.tups b xs e),λb o u e=>up (I2.base.frzs b o u e),λb ps e=>?_⟩,I2.loc,I2.cell,dn I.free I2.free,λx c e=>dn (I.freeC x c e) (I2.freeC x c e),λp hp=>?_,λb o e=>?_,I2.len⟩,λb o e=>?_⟩
 .obtain⟨more,q⟩:=I2.base.tbls b ps e
  exact⟨more,up q⟩
 .have hp2:p∈X.pn++((f,fo)::(c',oc)::(P,OY pos c')::U):=by
   rcases ü.mp hp with z|z
   .exact Ĝ _ z
   .exact Ý _ (by simp[z])
  let⟨a1,a2,a3⟩:=I2.pin p hp2;exact⟨a1,dn (I.pin p hp).2.1 a2,a3⟩
 .by_cases h1:b=P
  .subst h1
   rw[sP]at e;cases e;exact⟨_,pP.1,.inr ⟨c',rfl,sc,m.ne,c',oc,vs,t,rfl,pc.1,e2,e3⟩⟩
  .by_cases h2:b=c'
   .subst h2
    rw[sc]at e;cases e;exact⟨oc,pc.1⟩
   .rw[ne h1 h2]at e
    exact(I2.hok b o e).stay (λ_ _ _ q=>q) (λd q=>up q) λd xs q=>up q
 .have e':=m.same b o e
  by_cases h1:b=P
  .subst h1;rw[m.lm]at e';cases e';exact sP
  .by_cases h2:b=c'
   .subst h2;rw[m.own]at e';cases e';exact sc
   .rw[ne h1 h2]
    exact hs b o (by rw[iF h1 h2];exact e')
end
abbrev lamE(scope:Scope)(x:Str)(cc:Addr)(s:Shared)(f c':Addr):Env:=W.envX kF scope s.heap.objs.size f (.ref c') [(x,cc)]
def ň(X:Cx)(scope:Scope)(p x:Str)(cc:Addr)(s:Shared)(H:Hp)(f c':Addr):Cx where
 prog:=X.prog
 w:=X.w
 K:=X.K
 mg:=X.mg
 base:=X.base
 A:=X.A.in1.deeper (lamE scope x cc s f c')
 N:=[p,x]
 s₀:=s
 H₀:=H
 env:=lamE scope x cc s f c'
 outer:=X.stack
 stack:=lamE scope x cc s f c'::X.stack
 ex:=[]
 calm:=true
 fn:=λy=>y == p
 pn:=[]
 xe:=λe s'=>wpAny 'b' (X.A.in1.deeper (lamE scope x cc s f c')) (leaving (lamE scope x cc s f c') e) (λ_ _=>False) (λ_ _=>False) s'
structure UE(scope:Scope)(p x:Str):Prop where
 names:scope.names=[(p,.local),(x,.free)]\/scope.names=[(x,.free),(p,.local)]
 ne:(p == x)=false
 kind:scope.kind=.function
 co:scope.isCoroutine=false
 gen:scope.isGenerator=false
section
variable {X:Cx}{U:ZB}{σ:St}{H:Hp}{s:Shared}{params:Arguments}{body:Expr}{scope:Scope}{p x:Str}{cc f c':Addr}
theorem UE.look(S:UE scope p x):scope.names.lookup p=some .local/\scope.names.lookup x=some .free/\∀y,(scope.names.lookup y=some .cell\/scope.names.lookup y=some .free)->y=x:=by
 have h1:=S.ne;have h2:(x == p)=false:=by
  rw[beq_eq_false_iff_ne]at h1⊢;exact λz=>h1 z.symm
 rcases S.names with e|e<;>rw[e]
 .refine⟨by simp[æ],by simp[æ,h2],λy hy=>?_⟩
  by_cases q1:y=p
  .subst q1;simp[æ]at hy
  .by_cases q2:y=x
   .exact q2
   .simp[æ,beq_eq_false_iff_ne.mpr q1,beq_eq_false_iff_ne.mpr q2]at hy
 .refine⟨by simp[æ,h1],by simp[æ],λy hy=>?_⟩
  by_cases q2:y=x
  .exact q2
  .by_cases q1:y=p
   .subst q1;simp[æ,h1]at hy
   .simp[æ,beq_eq_false_iff_ne.mpr q1,beq_eq_false_iff_ne.mpr q2]at hy
def O0(I:Inv X U σ H s)(S:UE scope p x)(hc:X.calm=true)(rv:bH v u)(rt:bH vt ut)(hcell:s.heap.IsCell cc (some ut))(hH:H cc=none)(hb:X.A.in1.frames=some X.stack)(hn:h1.Ns s.heap.objs.size (λy=>[(p,u)].reverse.lookup y))(hk:∀b o,s.heap.get? b=some o->h1.get? b=some o)(e1:s1={s with heap:=h1,toks:=s.toks+1}):
  Inv (ň X scope p x cc s H f c') [] [some v,some vt] H s1:=by
 subst e1;let⟨l1,l2,l3⟩:=S.look;have lx:∀y c,([(x,cc)]:List (Str×Addr)).lookup y=some c->y=x/\c=cc:=λy c e=>by
  rw[æ]at e;cases q:y == x with
  |true=>rw[q]at e;cases e;exact⟨eq_of_beq q,rfl⟩
  |false=>rw[q]at e;cases e
 have noA:∀b:Addr,b∉(ň X scope p x cc s H f c').ex:=λb z=>absurd (show b∈([]:ZM)from z) 'e';refine⟨⟨I.mod,S.kind,rfl,rfl,Ç _,λy z c a1 a2=>?_,λy hy=>?_,λy c a1 a2=>?_,λ_=>?_,Around.frames_deeper hb,.inr ⟨rfl,rfl⟩,λb z=>absurd z (noA b),I.bs,?_,λb _ _=>noA b,λb z=>absurd z (noA b),I.stack,I.stkFree⟩,
  rfl,I.bare,Un.kept hk,⟨_,hn,λi y v' a1 a2 a3=>?_⟩,λy c a=>?_,I.hok.fresh (Ç _),λy c a=>?_,λq hq=>absurd (show q∈([]:ZB)from hq) 'e',I.hok.kept hk,rfl⟩
 .rw[(lx y c a1).1,(lx z c a2).1]
 .have:=l3 y hy
  subst this;exact⟨cc,by show ([(y,cc)]:List (Str×Addr)).lookup y=some cc;simp[æ]⟩
 .have e:=(lx y c a2).1
  subst e;have a1:(y == p)=true:=a1;have:=S.ne;rw[eq_of_beq a1]at this;simp at this
 .exact I.ok.hd hc
 .exact Ø I.ok.bsz I.sz
 .match i,a1,a2 with
  |0,a1,a2=>
   cases a1;cases a2;exact⟨u,rv,.inl ⟨l1,by simp[æ]⟩⟩
  |1,a1,a2=>
   cases a1;cases a2;refine⟨ut,rt,.inr ⟨.inr l2,cc,by show ([(x,cc)]:List (Str×Addr)).lookup x=some cc;simp[æ],?_⟩⟩
   let⟨o,ho,hd⟩:=hcell;exact⟨o,hk _ _ ho,hd⟩
  |i+2,a1,a2=>cases a1
 .obtain⟨rfl,rfl⟩:=lx y c a
  let⟨o,ho,hd⟩:=hcell;exact⟨_,o,hk _ _ ho,hd⟩
 .obtain⟨rfl,rfl⟩:=lx y c a
  exact hH
def UF{i:Nat}(I:Inv X U σ H s)(S:UE scope p x)(hc:X.calm=true)(hr:eY 0 X.A)(hfr:X.A.in1.frames=some X.stack)(hf:(f,W.kla_obj "<lambda>" kF params body scope [(x,cc)] pm c' ctv)∈U)(hoc:(c',oc)∈U)(e2:oc.data=.fields cvs)(e3:cvs[1]?=some (.str kF ct))(hN:X.N[i]?=some x)(hσ:σ[i]?=some (some vt))(hkd:X.env.scope.names.lookup x=some .cell)(hxc:X.env.cells.lookup x=some cc)(hbind:bindArgs (W.kla_fn "<lambda>" kF params body scope [(x,cc)] pm (.ref c') ctv) ⟨[u],[]⟩=pure [(p,u)])(rv:bH v u)(hb:PE (ň X scope p x cc s H f c') body tb)(ht:tb [some v,some vt] H (λw H'=>w=.int k/\aI H H')):
  wpAny 'b' X.A.in1 (call (.ref f) [u]) (λu' s'=>∃t H',u'=.int k t/\aI H H'/\Inv X U σ H' s') E s:=by
 let⟨l1,l2,l3⟩:=S.look;let⟨m,_,hl⟩:=id I.loc;let⟨ut,rt,lk⟩:=hl i x vt hN hσ (.inr (.inl hkd));have hcell:s.heap.IsCell cc (some ut):=by
  rcases lk with ⟨q,_⟩|⟨_,c,q,z⟩
  .rw[show X.env.kindOf x=X.env.scope.names.lookup x from rfl,hkd]at q;cases q
  .rw[hxc]at q;cases q;exact z
 have pf:=I.pin _ (Ý _ hf);have pc:=I.pin _ (Ý _ hoc);refine wpAny_call (W.kla_callFunE (body:=body) ?_ pf.1 rfl S.co S.gen rfl ⟨c',oc,cvs,ct,rfl,pc.1,e2,e3⟩ ?_)
 .have:=hr.dp
  show X.A.depth<_;lia
 rw[hbind];have hnc:∀y∈scope.names,y.2≠.cell:=λy hy=>by
  rcases S.names with e|e<;>rw[e]at hy<;>simp at hy<;>rcases hy with rfl|rfl<;>(intro h;cases h)
 refine wpAny_pure (wpAny_newFunctionEnv hnc (λy hy=>by rw[í.mp hy];exact l1) (λh1 hns hsb=>⟨I.nolimit.fresh _ hsb,?_⟩) S.kind);have hk1:∀b o,s.heap.get? b=some o->h1.get? b=some o:=λb o e=>hsb.extBut b o (Í 'y') (Heap.get?_push_of_some _ e);show codeAny _ _ (.expr body (lamE scope x cc s f c')) _ _;have J:Inv (ň X scope p x cc s H f c') [] [some v,some vt] H {s with heap:=h1,toks:=s.toks+1}:=O0 I S hc rv rt hcell (I.freeC x cc hxc) hfr hns hk1 rfl;refine W.kla_codeExpr (wpAny_mono (hb [] _ [some v,some vt] H _ J ht) (λu' s' q=>?_) λe s' q=>?_)
 .obtain⟨w,H',J',rw',rfl,sm⟩:=q
  let⟨t,rfl⟩:=rw';exact⟨t,H',rfl,sm,I.call' (ch:=[]) J'.os J'.base J'.hok J'.bare (λ_ z=>nomatch z)⟩
 .exact wpAny_mono q (λ_ _ z=>z.elim) λ_ _ z=>z.elim
end
def cQ{α:Type}:Option (α×Int)->List (α×Int)->Option (α×Int)
 |o,[]=>o
 |none,y::ys=>cQ (some y) ys
 |some m,y::ys=>cQ (some (if y.2<m.2 then y else m)) ys
def aKS(b:Option (V×Int))(o:Option (Value×Tok)):Prop:=match b,o with
 |none,none=>True
 |some m,some z=>bH m.1 z.1
 |_,_=>False
def UG:Option (V×Int)->Option (Value×Tok)->Array Value
 |some m,some z=>#[z.1,.int m.2 z.2]
 |_,_=>#[]
section
variable {X:Cx}{U:ZB}{σ:St}{H0:Hp}{q l:Addr}{dv:Value}{R:Result->Shared->Prop}
def GI(a f d:Value):argsOk "min" ⟨[a],[("key",f),("default",d)]⟩:=by unfold argsOk;kernel_rfl
def aAQ{prog:Program}{w:World}{A:Around}{E:ZA}{s:Shared}{x m:Int}{t t':Tok}{Q:ZA}(h:Q (.bool (decide (x<m))) s):wpAny 'u' A (richCompare .Lt (.int x t) (.int m t')) Q E s:=CmpOf.ints_lt (P:=λi v=>∃t,v=.int (if i=0 then x else m) t) (λi=>if i=0 then x else m) (λ_ _ h=>h) 0 1 _ _ s Q E ⟨t,rfl⟩ ⟨t',rfl⟩ (by simpa using h)
def xM(b:Option (V×Int))(o:Option (Value×Tok)):(UG b o).size<=sizeLine:=by
 unfold UG;split
 .show 2<=sizeLine;decide
 .show 0<=sizeLine;decide
abbrev u7(b:Option (V×Int))(o:Option (Value×Tok))(c:Nat):Obj:={cls:=.type "list",dict:=none,data:=.seq (UG b o) c,slots:=#[]}
def Inv.swp(I:Inv X (a::b::U) σ H s):Inv X (b::a::U) σ H s:=I.pins_of λp hp=>I.pin p (Ý _ (by
 rcases Ë.mp hp with rfl|hp
 .exact Ò _ Õ
 .rcases Ë.mp hp with rfl|hp
  .exact Õ
  .exact Ò _ (Ò _ hp)))
def oJ(o:Option (α×Int)):cQ o []=o:=by cases o<;>rfl
def O1{vs:List V}{ks:ZK}(hlen:ks.length=vs.length)(hh:X.A.handled=none)(turn:∀(j:Nat)(v:V)(k:Int)(u:Value)(pins':ZB)(s:Shared)(H1:Hp),vs[j]?=some v->ks[j]?=some k->bH v u->aI H0 H1->(∀p∈U,p∈pins')->Inv X pins' σ H1 s ->
   wpAny 'b' X.A.in1 (call (.ref q) [u]) (λu' s'=>∃t H',u'=.int k t/\aI H1 H'/\Inv X pins' σ H' s') (λ_ _=>False) s)(hl:∀H1,aI H0 H1->eE X.K H1 l vs)(mI:GH X U IA)(mS:GH X U S)(hSI:S≠IA)(hlI:l≠IA)(done:∀u s' H1,(match cQ none (vs.zip ks)with|none=>u=dv|some m=>bH m.1 u)->aI H0 H1->Inv X U σ H1 s'->R (.ok (.ret u)) s'):
  ∀(r j:Nat)(s:Shared)(H1:Hp)(b:Option (V×Int))(o:Option (Value×Tok))(c:Nat)(oI:Obj),vs.length-j=r->j<=vs.length->cQ b ((vs.zip ks).drop j)=cQ none (vs.zip ks)->aKS b o->aI H0 H1 ->
   oI.cls=.type "list_iterator"->oI.data=.fields #[.ref l,.int j 0]->Inv X ((S,u7 b o c)::(IA,oI)::U) σ H1 s ->
   codeAny 'b' X.A (.builtin "min.loop" ⟨[.ref IA,.ref q,.ref S],[("default",dv)]⟩) R s:=by
 have nm:(toString "min"++toString ".loop":String)="min.loop":=by decide
 have mS':∀oI:Obj,GH X ((IA,oI)::U) S:=λoI=>⟨λp hp=>by
  rcases ü.mp hp with hp|hp
  .exact mS.pin p (Ĝ _ hp)
  .rcases Ë.mp hp with rfl|hp
   .exact Ñ hSI
   .exact mS.pin p (Ý _ hp),mS.new,mS.loc,mS.cells⟩
 have mI':∀oS:Obj,GH X ((S,oS)::U) IA:=λoS=>⟨λp hp=>by
  rcases ü.mp hp with hp|hp
  .exact mI.pin p (Ĝ _ hp)
  .rcases Ë.mp hp with rfl|hp
   .exact hSI
   .exact mI.pin p (Ý _ hp),mI.new,mI.loc,mI.cells⟩
 intro r
 induction r with
 |zero=>
  intro j s H1 b o c oI hr hj hb hbo sm hoc hod I;obtain rfl:j=vs.length:=by lia
  rw[List.drop_of_length_le (by rw[é];lia),oJ]at hb;have pS:=I.pin _ (Ý _ Õ);have pI:=I.pin _ (Ý _ (Ò _ Õ));let⟨its,rv,pl,hz⟩:=I.list (hl H1 sm);have hn:=rv.length;have W:=Walks.list (prog:=X.prog) (w:=X.w) (A:=X.A.in1) (show X.A.in1.handled=none from hh) IA l hlI its.toArray;refine codeAny_builtin F.entry_min_loop ?_;rw[Around.under_plainId F.plain_min_loop _];refine(show wpAny _ X.A.in1 (seqItems? (.ref S) >>= _) _ _ s from wpAny_bind (wpAny_seqItems pS.1 rfl ?_));refine(show wpAny _ X.A.in1 (tryCatch (pyNext (.ref IA)) _ >>= _) _ _ s from wpAny_bind (wpAny_tryCatch (W.done s _ _ ⟨⟨oI,pI.1,hoc,by rw[hod];simp[<- hn]⟩,pl.isList⟩ λh' tk hk'=>?_)))
  have I1:Inv X ((S,u7 b o c)::U) σ H1 {s with heap:=h',toks:=tk}:=I.swp.unpin.turned (it:=IA) (λb o hb e=>hk' b o (by simpa using hb) e) pI.2.1 (mI' (u7 b o c)).loc (.inr mI.new) mI.cells (mI' (u7 b o c)).pin;cases o with
  |none=>
   cases b with
   |some m=>exact hbo.elim
   |none=>
    refine wpAny_bind (wpAny_rule (wpAny_pure (done dv _ H1 ?_ sm I1.unpin)));rw[<- hb]
  |some z=>
   cases b with
   |none=>exact hbo.elim
   |some m=>
    have pS1:=I1.pin _ (Ý _ Õ);refine(show wpAny _ X.A.in1 (updateSeq S (λ_=>#[]) >>= _) _ _ _ from wpAny_bind (wpAny_updateSeq pS1.1 rfl (wpAny_bind (wpAny_letGo (wpAny_pure ?_))) (hz:=xM _ _) (_hz':=ó _)));refine done z.1 _ H1 (by rw[<- hb];exact hbo) sm ?_;exact I1.unpin.turned (t':=tk) (it:=S) (λb o hb e=>(Heap.get?_update_other _ _ (Ñ hb)).trans e) pS1.2.1 mS.loc (.inr mS.new) mS.cells mS.pin
 |succ r ih=>
  intro j s H1 b o c oI hr hj hb hbo sm hoc hod I;have hlt:j<vs.length:=by lia
  have pS:=I.pin _ (Ý _ Õ);have pI:=I.pin _ (Ý _ (Ò _ Õ));let⟨its,rv,pl,hz⟩:=I.list (hl H1 sm);have hn:=rv.length;have W:=Walks.list (prog:=X.prog) (w:=X.w) (A:=X.A.in1) (show X.A.in1.handled=none from hh) IA l hlI its.toArray;obtain⟨v,hv⟩:∃v,vs[j]?=some v:=⟨_,É hlt⟩;obtain⟨k,hk⟩:∃k,ks[j]?=some k:=⟨_,É (by exact ú ‹_› (Eq.symm ‹_›))⟩;have ed:(vs.zip ks).drop j=(v,k)::(vs.zip ks).drop (j+1):=by
   have hz:(vs.zip ks)[j]?=some (v,k):=by rw[ě];exact⟨hv,hk⟩
   let⟨h1,h2⟩:=Ð.mp hz;rw[ö h1,h2]
  rw[ed]at hb;refine codeAny_builtin F.entry_min_loop ?_;rw[Around.under_plainId F.plain_min_loop _];refine(show wpAny _ X.A.in1 (seqItems? (.ref S) >>= _) _ _ s from wpAny_bind (wpAny_seqItems pS.1 rfl ?_));refine(show wpAny _ X.A.in1 (tryCatch (pyNext (.ref IA)) _ >>= _) _ _ s from wpAny_bind (wpAny_tryCatch (W.item j s _ _ (by simp;exact ú ‹_› ‹_›) ⟨⟨oI,pI.1,hoc,hod⟩,pl.isList⟩ λu h' tk hp hst' hk'=>?_)));let⟨oI',hoI',hoc',hod'⟩:=hst'.1;have ru:bH v u:=by
   let⟨u',e1,e2⟩:=rv.get hv;have hp:its.toArray[j]?=some u:=hp;rw[List.getElem?_toArray,e1]at hp;cases hp;exact e2
  have I1:Inv X ((S,u7 b o c)::(IA,oI')::U) σ H1 {s with heap:=h',toks:=tk}:=(I.swp.repin (mI' _) (λb o hb e=>hk' b o (by simpa using hb) e) hoI' (λv=>by rw[hod'];simp)).swp;have hsub:∀p∈U,p∈(S,u7 b o c)::(IA,oI')::U:=λp hp=>Ò _ (Ò _ hp);refine(show wpAny _ X.A.in1 (tryCatch (holding [u] (call (.ref q) [u])) _ >>= _) _ _ _ from wpAny_bind (wpAny_tryCatch (wpAny_holding (wpAny_mono (turn j v k u _ _ H1 hv hk ru sm hsub I1) (λx s2 he=>?_) λ_ _ hF=>hF.elim))));let⟨t,H2,rfl,sm2,I2⟩:=he;have smA:aI H0 H2:=sm.trans' sm2;have pS2:=I2.pin _ (Ý _ Õ);have new:cQ (some (v,k)) ((vs.zip ks).drop (j+1))=cQ none (vs.zip ks)->codeAny 'b' X.A (.builtin "min.loop" ⟨[.ref IA,.ref q,.ref S],[("default",dv)]⟩) R {s2 with heap:=s2.heap.update S (Obj.mapSeq λ_=>#[u,.int k t])}:=λhb=>by
   obtain⟨c2,hc2⟩:∃c2,(s2.heap.update S (Obj.mapSeq λ_=>#[u,.int k t])).get? S=some (u7 (some (v,k)) (some (u,t)) c2):=⟨_,get?_update_seq pS2.1 λ_=>#[u,.int k t]⟩;exact ih (j+1) _ H2 (some (v,k)) (some (u,t)) c2 oI' ∅ hlt hb ru smA hoc' hod' (I2.repin (t':=s2.toks) (mS' oI') (λb o hb e=>(Heap.get?_update_other _ _ (Ñ hb)).trans e) hc2 (λv=>by simp))
  cases o with
  |none=>
   cases b with
   |some m=>exact hbo.elim
   |none=>
    refine(show wpAny _ X.A.in1 (updateSeq S (λ_=>#[u,.int k t]) >>= _) _ _ _ from wpAny_bind (wpAny_updateSeq pS2.1 rfl ?_ (hz:=xM _ _) (_hz':=(by show 2<=sizeLine+1;decide))));rw[nm];exact wpAny_pure ⟨plainId_quiet F.plain_min_loop _,new hb⟩
  |some z=>
   cases b with
   |none=>exact hbo.elim
   |some m=>
    refine(show wpAny _ X.A.in1 (tryCatch (holding [u,.int k t] (richCompare .Lt (.int k t) (.int m.2 z.2) >>= _)) _ >>= _) _ _ _ from wpAny_bind (wpAny_tryCatch (wpAny_holding (wpAny_bind (aAQ ?_)))));refine wpAny_bind (wpAny_holding (wpAny_truthy_bool (wpAny_bind (wpAny_letGo (wpAny_pure ?_)))));have hb':cQ (some (if k<m.2 then (v,k)else m)) ((vs.zip ks).drop (j+1))=cQ none (vs.zip ks):=hb;by_cases hg:k<m.2
    .rw[Â hg]at hb'
     simp![hg,decide_true,if_true];refine wpAny_bind (wpAny_updateSeq pS2.1 rfl (wpAny_bind (wpAny_letGo ?_)) (hz:=xM _ _) (_hz':=(by show 2<=sizeLine+1;decide)));rw[nm];exact wpAny_pure ⟨plainId_quiet F.plain_min_loop _,new hb'⟩
    .rw[Ã hg]at hb'
     simp![hg,decide_false,Bool.false_eq_true,if_false];refine wpAny_bind (wpAny_letGo ?_);rw[nm];exact wpAny_pure ⟨plainId_quiet F.plain_min_loop _,ih (j+1) s2 H2 (some m) (some z) c oI' ∅ hlt hb' hbo smA hoc' hod' I2⟩
def O2{ks:ZK}(hlen:ks.length=vs.length)(hh:X.A.handled=none)(I:Inv X U σ H0 s)(hq:eE X.K H0 l vs)(turn:∀(j:Nat)(v:V)(k:Int)(u:Value)(pins':ZB)(s:Shared)(H1:Hp),vs[j]?=some v->ks[j]?=some k->bH v u->aI H0 H1->(∀p∈U,p∈pins')->Inv X pins' σ H1 s ->
   wpAny 'b' X.A.in1 (call (.ref q) [u]) (λu' s'=>∃t H',u'=.int k t/\aI H1 H'/\Inv X pins' σ H' s') (λ_ _=>False) s)(done:∀u s' H1,(match cQ none (vs.zip ks)with|none=>u=dv|some m=>bH m.1 u)->aI H0 H1->Inv X U σ H1 s'->Q u s'):
  wpAny 'b' X.A (call (.builtin "min") [.ref l] [("key",.ref q),("default",dv)]) Q E s:=by
 have nm:(toString "min"++toString ".loop":String)="min.loop":=by decide
 refine wpAny_call (codeAny_call_builtin F.plain_min F.entry_min ?_);simp![checkBuiltinCall,F.kind_min];let⟨its,rv,pl,hz⟩:=I.list hq;have hlt:l<s.heap.objs.size:=by
  let⟨o,n,e,_⟩:=pl;exact Heap.lt_size e
 have key:wpAny 'b' X.A.in1 (Builtin.«min» ⟨[.ref l],[("key",.ref q),("default",dv)]⟩) (λfin s'=>match fin with
   |.done f=>(match (Except.ok f:Result)with|.ok (.ret v)=>Q v s'|.ok _=>False|.error e=>E e s')
   |.again c'=>c'.quiet=true/\codeAny 'b' X.A c' (λr s'=>match r with|.ok (.ret v)=>Q v s'|.ok _=>False|.error e=>E e s') s') E s:=by
  refine(show wpAny _ X.A.in1 (Builtin.Builtins.bindParams "min" ["key","default"] 0 ⟨[],[("key",.ref q),("default",dv)]⟩ >>= _) _ _ s from wpAny_bind (wpAny_of_eq (show Builtin.Builtins.bindParams "min" ["key","default"] 0 ⟨[],[("key",.ref q),("default",dv)]⟩=pure [some (.ref q),some dv]from rfl) ?_));refine wpAny_bind (wpAny_pure (wpAny_bind (wpAny_pyIter_list pl.isList ?_)));refine wpAny_bind (wpAny_newObj_type ?_);rw[nm];have hS:(s.heap.push {cls:=.type "list_iterator",data:=.fields #[.ref l,.int 0 0]}).objs.size=s.heap.objs.size+1:=by rw[Heap.size_push]
  have I1:Inv X ((s.heap.objs.size,{cls:=.type "list_iterator",data:=.fields #[.ref l,.int 0 0]})::U) σ H0 {s with heap:=s.heap.push {cls:=.type "list_iterator",data:=.fields #[.ref l,.int 0 0]}}:=
   (I.kept (t':=s.toks) λb o e=>Heap.get?_push_of_some _ e).pinNew (Heap.get?_push_size _ rfl) (I.hok.fresh (Ç _)) (ß I.lt) (I.nofs (Ç _)) (λv=>by simp)
  have mI:GH X U s.heap.objs.size:=I.mine (Ç _);have mS:GH X U (s.heap.push {cls:=.type "list_iterator",data:=.fields #[.ref l,.int 0 0]}).objs.size:=I.mine (by rw[hS];exact Nat.le_succ _);have I2:=(I1.kept (t':=s.toks) (h':=(s.heap.push {cls:=.type "list_iterator",data:=.fields #[.ref l,.int 0 0]}).push (u7 none none 0)) λb o e=>Heap.get?_push_of_some _ e).pinNew (a:=(s.heap.push {cls:=.type "list_iterator",data:=.fields #[.ref l,.int 0 0]}).objs.size) (Heap.get?_push_size _ rfl) (I1.hok.fresh (Ç _)) (ß I1.lt) (I1.nofs (Ç _)) (λv=>by simp);refine wpAny_pure ⟨plainId_quiet F.plain_min_loop _,O1 (H0:=H0) (dv:=dv) hlen hh turn (λH1 sm=>sm.seq hq) mI mS (λz=>Nat.succ_ne_self _ (hS.symm.trans z)) (Í hlt) done _ 0 _ H0 none none 0 _ rfl (ó _) (by rw[List.drop_zero]) trivial (λ_ _ e=>e) rfl rfl I2⟩
 have ha:=GI (.ref l) (.ref q) dv;cases hsig:Manifest.signature? "min"with
 |none=>exact wpAny_pure key
 |some sig=>
  simp![argsOk,hsig]at ha;have h2:Bind.checkArgs "min" sig ⟨[.ref l],[("key",.ref q),("default",dv)]⟩=pure ():=ha;refine(show wpAny _ X.A.in1 (Bind.checkArgs "min" sig ⟨[.ref l],[("key",.ref q),("default",dv)]⟩) _ _ s from ?_);rw[h2];exact wpAny_pure key
end
def hW(hs:ZK):ZK->Option (ZK)
 |[]=>some []
 |n::ns=>match atI hs n,hW hs ns with
  |some k,some ks=>some (k::ks)
  |_,_=>none
def xN :∀{ns ks:ZK},hW hs ns=some ks->ks.length=ns.length
 |[],ks,h=>by cases h;rfl
 |n::ns,ks,h=>by
  unfold hW at h;split at h
  .rename_i k ks' _ e2
   cases h;simp[xN e2]
  .cases h
def BI :∀{ns ks:ZK}{j:Nat}{n k:Int},hW hs ns=some ks->ns[j]?=some n->ks[j]?=some k->atI hs n=some k
 |m::ns,ks,j,n,k,h,e1,e2=>by
  unfold hW at h;split at h
  .rename_i k0 ks' q1 q2
   cases h;cases j with
   |zero=>cases e1;cases e2;exact q1
   |succ j=>exact BI q2 (by simpa using e1) (by simpa using e2)
  .cases h
def UH(h:atI hs n=some k):atI (hs.map V.int) n=some (.int k):=by
 unfold atI at h⊢;rw[Ä];cases e:lK hs.length n with
 |none=>rw[e]at h;cases h
 |some j=>
  rw[e]at h;have h:hs[j]?=some k:=h;show (hs.map V.int)[j]?=_;rw[Î,h];rfl
def BJ:∀{ds:ZI}{l:ZK},cO ds=some l->ds=l.map .int
 |[],l,h=>by cases h;rfl
 |.int i::r,l,h=>by
  unfold cO at h;cases e:cO r with
  |none=>rw[e]at h;cases h
  |some l'=>
   rw[e]at h;cases h;rw[BJ e];rfl
 |.none::_,_,h=>by cases h
 |.bool _::_,_,h=>by cases h
 |.str _::_,_,h=>by cases h
 |.list _::_,_,h=>by cases h
 |.tuple _::_,_,h=>by cases h
 |.dict _::_,_,h=>by cases h
def vZ(i:Nat)(nm fld:Str)(f:M D):M D:=λδ=>(f δ).bind λd δ1=>match d,δ1[i]? with
 |.list ds,some (some t)=>(match gM nm fld t with
  |some (.list hs)=>(match cO hs,cO ds with
   |some hs',some ns=>(match hW hs' ns with
    |some ks=>.ok ((cQ none (ns.zip ks)).elim .none λm=>.int m.1) δ1
    |none=>.stuck)
   |_,_=>.stuck)
  |_=>.stuck)
 |_,_=>.stuck
def t5(g:α->β):∀(o:Option (α×Int))(l:List (α×Int)),cQ (o.map λm=>(g m.1,m.2)) (l.map λm=>(g m.1,m.2))=(cQ o l).map λm=>(g m.1,m.2)
 |o,[]=>by rw[List.map_nil,oJ,oJ]
 |none,y::ys=>t5 g (some y) ys
 |some m,y::ys=>by
  have:=t5 g (some (if y.2<m.2 then y else m)) ys;rw[Ï];show cQ (some (if y.2<m.2 then (g y.1,y.2)else (g m.1,m.2))) _=_;rw[show (cQ (some m) (y::ys))=cQ (some (if y.2<m.2 then y else m)) ys from rfl,<- this];congr 1;split<;>rfl
def UI{K:ZC}(h:eE K H l vs)(hP:H P=some (sH pos))(hc:H c'=some (.own P)):eE K (oY P c' H) l vs:=by
 rcases h with (h|⟨o,h⟩)|h
 .exact .inl (.inl (by rw[iF (λz=>by rw[z,hP]at h;cases h) (λz=>by rw[z,hc]at h;cases h)];exact h))
 .exact .inl (.inr ⟨o,by rw[iF (λz=>by rw[z,hP]at h;cases h) (λz=>by rw[z,hc]at h;cases h)];exact h⟩)
 .exact .inr h
section
def O3(i:Nat)(nm:Str){pm kp kp2 p1 p2 p3 p4 cpos npos:Pos}{jj:_}(hr:eY 0 X.A)(hc:X.calm=true)(hg:Gl X "min")(hm:X.mg "min"=none)(B:t4 X.K X.mg X.base)(hl:jI X.K=some (c,P,pos))(hcode:X.env.code=.ref c)(hat:TU X.K nm fld)(ha:DE X Z ow 0 e f)(Sc:UE scope p x)(hbind:∀(u pm':Value)(c':Addr)(ctv:Value),bindArgs (W.kla_fn "<lambda>" kF params (.Subscript (.Attribute (.Name x p1) fld p2) (.Name p p3) p4) scope [(x,cc)] pm' (.ref c') ctv) ⟨[u],[]⟩=pure [(p,u)])(hd1:(x == ("__debug__":Str))=false)(hd2:(x == ("__classdict__":Str))=false)(hd3:(p == ("__debug__":Str))=false)(hd4:(p == ("__classdict__":Str))=false)(hq:↥(X.env.qual++"<lambda>"=kF))(hcl:↥(closureFor scope X.env=pure [(x,cc)]))(hdef:↥(defaultsOf params X.env=([],[])))(ho:↥(ow.getD i 0=0))(hN:↥'t')(hkd:↥(X.env.scope.names.lookup x=some .cell))(hxc:↥(X.env.cells.lookup x=some cc))(hs:↥(Zse e [] X.env))(hv:bootBuiltins "min"=some (.builtin "min"):=by decide +kernel):
  DE X Z ow 0 (.Call (.Name "min" npos) [e] [⟨some "key",.Lambda params (.Subscript (.Attribute (.Name x p1) fld p2) (.Name p p3) p4) scope pos,kp⟩,⟨some "default",.Constant .none jj pm,kp2⟩] cpos) (vZ i nm fld f):=λU s σ H Q I h=>by
 let⟨F,δ,R,h⟩:=h;unfold vZ at h;refine wpAny_Call_Name_kw (iK I hg hm hv ?_ ⋯ ⋯);have a1:backTo cpos (starEach [e] X.env)=(false,eval e X.env)::backTo cpos (starEach [] X.env):=by rw[hs];rfl
 have pre:Q7 (tD X Z ow 0 f) Ş σ H (λvs H1=>∃l ns F1 δ1 t hs' ks,vs=[.ref l]/\cN X.K Z ow F1 H1 σ δ1/\eE X.K F1 l (ns.map V.int)/\aI F F1/\δ1[i]?=some (some t)/\gM nm fld t=some (.list (hs'.map .int))/\hW hs' ns=some ks /\
   kD X Z ow 0 (.ok ((cQ none (ns.zip ks)).elim .none λm=>.int m.1) δ1) F1 σ Q):=by
  sleep 4;cases e1:f δ with
  |stuck=>rw[e1]at h;exact h.elim
  |err y δ1=>rw[e1]at h;exact h
  |ok d δ1=>
   rw[e1]at h;sleep 8;intro v H1 F1 R1 s1;cases d with
   |list ds=>
    cases e2:δ1[i]? with
    |none=>rw[e2]at h;exact h.elim
    |some o=>
     cases o with
     |none=>rw[e2]at h;exact h.elim
     |some t=>
      rw[e2]at h;dsimp only at h;split at h
      .rename_i hs2 e3
       split at h
       .rename_i hs' ns e4 e5
        split at h
        .rename_i ks e6
         let⟨l,vs,rfl,hx,rx⟩:=kL R1.rep;rw[iU e5 rx]at hx;have e7:hs2=hs'.map .int:=BJ e4;subst e7;exact⟨l,ns,F1,δ1,t,hs',ks,rfl,R1.rel,hx,s1,e2,e3,e6,h.mono s1 λ_ _ z=>z⟩
        .exact h.elim
       .exact h.elim
      .exact h.elim
   |_=>exact h.elim
 refine callWith_kw (cM ((gS ha mV hs) cpos U s σ H _ I pre) λus s1 zQ=>?_) a1 (by rw[a1];rfl) rfl rfl;let⟨vs,H1,I1,r,q⟩:=zQ;let⟨l,ns,F1,δ1,t,hs',ks,rfl,R1,hx,s1',ht,hf,hk,hQ⟩:=q;let⟨u',rfl,rx⟩:=mO r;cases rx;let⟨g,G⟩:=R1;have hP1:F1 P=some (sH pos):=G.f0.lm c P pos hl;have hP:H1 P=some (sH pos):=G.sub _ _ hP1;let⟨vt,ev,rt⟩:=G.slot i t ht;rw[ho]at rt;have rt:bG X.K F1 t vt:=rt;let⟨a,C,dx,fs,y,rfl,f1,f2,f3,f4⟩:=MD rt hf;let⟨lk,ws,rfl,hw,rw'⟩:=kL f4;have ew:=iU iT rw';subst ew;let⟨c1,c2⟩:=hat C f2;refine kws_cons (UD I1 B hl hP hcode hq hcl hdef λfa c' ctv H2 s2 m=>kws_cons (Constant_none (kws_nil ?_)));let⟨oc,cvs,ct,e2,e3,I3⟩:=m.hide (λv=>by simp[W.kla_obj]);have up:∀{l:Addr}{vs:List V},eE X.K F1 l vs->eE X.K (oY P c' H2) l vs:=λh=>UI (m.same.seq (G.sub.seq h)) m.lm m.own;have upa:oY P c' H2 a=some (.ins C dx fs):=by
  have z:=m.same _ _ (G.sub _ _ f1);rw[iF (λq=>by rw[q,m.lm]at z;cases z) (λq=>by rw[q,m.own]at z;cases z)];exact z
 let⟨l1,l2,_⟩:=Sc.look;refine O2 (vs:=ns.map V.int) (ks:=ks) (by rw[Ä];exact xN hk) (I1.ok.hd hc) I3 (up hx) (λj v k u pins' s' H' hv hkk ru sm hsub I'=>?_) λu s' H' hu sm I'=>?_
 .rw[Î]at hv
  cases en:ns[j]? with
  |none=>rw[en]at hv;cases hv
  |some n=>
   rw[en]at hv;cases hv;have hkey:=UH (BI hk en hkk);refine UF (p:=p) (k:=k) I' Sc hc hr I'.ok.frames (hsub _ Õ) (hsub _ (Ò _ Õ)) e2 e3 hN ev hkd hxc (hbind _ _ _ _) ru (AQ n5 (BX (dQ (i:=1) rfl (.inr (.inr l2)) hd1 hd2) rfl) (dQ (i:=0) rfl (.inl l1) hd3 hd4) (λ_ _=>rfl)) ?_;exact⟨_,rfl,a,C,dx,fs,_,rfl,sm _ _ upa,c1,c2,f3,_,rfl,lk,hs'.map V.int,n,.int k,rfl,rfl,sm.seq (up hw),hkey,rfl,λ_ _ z=>z⟩
 .obtain⟨I4,sm4⟩:=m.show e2 e3 I' sm
  have G4:cN X.K Z ow F1 (xL P c' pos H') σ δ1:=⟨g,G.grow sm4⟩;have ez:(ns.map V.int).zip ks=(ns.zip ks).map λm=>(V.int m.1,m.2):=by
   rw[List.zip_map_left];rfl
  rw[ez]at hu;have eb:=t5 V.int none (ns.zip ks);rw[Option.map_none]at eb;rw[eb]at hu;cases eb2:cQ none (ns.zip ks)with
  |none=>
   rw[eb2]at hu hQ;subst hu;exact⟨.non,_,I4,rfl,hQ .non _ F1 (G4.x (by show bG X.K F1 .none .non;unfold bG;rfl)) (λ_ _ z=>z)⟩
  |some m2=>
   rw[eb2]at hu hQ;exact⟨.int m2.1,_,I4,hu,hQ (.int m2.1) _ F1 (G4.x (by show bG X.K F1 (.int m2.1) (.int m2.1);unfold bG;rfl)) (λ_ _ z=>z)⟩
end
def JX{K:ZC}{H:Hp}{a:Addr}{ns:ZK}{owp:ZH}{f:ZI->Res D}{x:Str}(hS:eE K H a (ns.map V.int))(hf:f [.list (ns.map .int)]=.ok 'i' [])(hL:XU K H)(h0:↥(owp.getD 0 0=0)):
  RQ K [x] [] owp 0 f [.ref a] H (λv H'=>v=.bl true/\aI H H') (λ_ _ _=>False):=by
 refine⟨rfl,H,λ_=>none,[.list (ns.map .int)],hL,aI.refl _,rfl,λa i p e=>(by cases e),λi d v e1 e2=>?_,by rw[hf];exact λv H' F' g' T=>⟨kK (F:=F') (K:=K) T.ret,λb o e=>T.kept b o rfl e⟩⟩
 cases i with
 |zero=>
  cases e1;cases e2;rw[h0];show bG K H _ _;unfold bG;refine⟨a,ns.map V.int,rfl,hS,?_⟩;clear hS hf
  induction ns with
  |nil=>exact lQ
  |cons n ns ih=>exact lR eU ih
 |succ i=>simp at e1
def O4{K:ZC}{ns:ZK}{c PT:Addr}{pos:Pos}(KX:K.In s₁.heap)(hns:s₁.heap.Ns mainGlobals mg)(hb:s₁.heap.Ns builtinsNs mb)(hbb:∀x:Str,x≠"__name__"->mb x=bootBuiltins x)(hlim:s₁.heap.NoLimit)(hg:s₁.gens=#[])(ha:s₁.heap.get? a=some {cls:=.type "list",data:=.seq vs.toArray})(hi:IntsAre vs ns)(hl:ns.length<=sizeLine)(hr:eY k callerA)(hlam:jI K=some (c,PT,pos))(hcd:W.CodeHd s₁.heap c PT)(hPT:s₁.heap.get? PT=some (W.tabObj #[]))(hnt:W.noTabs K=true)(hbm:∃bm ob,mg "__builtins__"=some (.ref bm)/\bm≠builtinsNs/\s₁.heap.get? bm=some ob/\ob.cls=.type "module"/\ob.dict=some builtinsNs/\ob.data=.plain)(F:∀base:Heap,K.In base->base.Ns mainGlobals mg->t4 K mg base->rD P w K mg base CX k fa fd [x] sp)(hbind:∀(s:Shared)(u:Value),BindsTo s fd ⟨[u],[]⟩ [(x,u)])(hsp:∀H:Hp,XU K H->eE K H a (ns.map V.int)->sp [.ref a] H (λv H'=>v=.bl true/\aI H H') λ_ _ _=>False)(hCX:∀H e s',CX [] H s₁ (λ_ _ _=>False) e s'->False):
  codeAny (model P w) callerA (.call (.ref fa) ⟨[.ref a],[]⟩) (λr s'=>r=.ok (.ret 'i')/\OldK s₁.heap s'.heap/\s'.os=s₁.os/\AllBare s'.gens) s₁:=by
 have rv:=AR hi;have lenV:=hi.length;have haP:a≠PT:=λz=>by rw[z,hPT]at ha;cases ha
 have hKP:K.lookup PT=none:=by
  cases q:K.lookup PT with
  |none=>rfl
  |some o=>
   have e:=KX PT o q;rw[hPT]at e;cases e;have h2:=ç.mp hnt (PT,_) (W.mem_of_lookupK q);exact absurd (show false=true from h2) Ü
 have core:∀H:Hp,H PT=some (sH pos)->eE K H a (ns.map V.int)->mM P w H s₁.heap->(∀b u,H b=some u->(b=PT/\u=sH pos)\/(b=a/\u=.frz {cls:=.type "list",data:=.seq vs.toArray} (.lst (ns.map V.int))/\K.lookup a=none)) ->
   codeAny (model P w) callerA (.call (.ref fa) ⟨[.ref a],[]⟩) (λr s'=>r=.ok (.ret 'i')/\OldK s₁.heap s'.heap/\s'.os=s₁.os/\AllBare s'.gens) s₁:=by
  intro H hO hS hok hA;have base_of:∀{b:Addr}{o:Obj},s₁.heap.get? b=some o->H b=none->(zO s₁.heap H).get? b=some o:=λe n=>QT e n;have noA:∀{b:Addr}{o:Obj},s₁.heap.get? b=some o->(∀z,o.data≠.seq z 0)->o.cls≠.none->H b=none:=λ{b o}e d d2=>by
   cases q:H b with
   |none=>rfl
   |some u=>
    rcases hA b u q with ⟨rfl,_⟩|⟨rfl,_⟩
    .rw[hPT]at e;cases e;exact absurd rfl d2
    .rw[ha]at e;cases e;exact absurd rfl (d vs.toArray)
  have nsK:∀{b:Addr}{m:ZD},s₁.heap.Ns b m->(zO s₁.heap H).Ns b m:=λ{b m}⟨o,es,ep,e,d,r⟩=>⟨o,es,ep,base_of e (by
   cases q:H b with
   |none=>rfl
   |some u=>
    rcases hA b u q with ⟨rfl,_⟩|⟨rfl,_⟩
    .rw[hPT]at e;cases e;cases d
    .rw[ha]at e;cases e;cases d),d,r⟩
  have hKb:K.In (zO s₁.heap H):=λb o e=>base_of (KX b o e) (by
   cases q:H b with
   |none=>rfl
   |some u=>
    rcases hA b u q with ⟨rfl,_⟩|⟨rfl,_,z⟩
    .rw[hKP]at e;cases e
    .rw[z]at e;cases e)
  have hM:Mod K mg (zO s₁.heap H):=⟨hKb,nsK hns,⟨mb,nsK hb,hbb⟩,let ⟨mc,h1,h2⟩:=hlim;⟨mc,nsK h1,h2⟩⟩
  have hB:t4 K mg (zO s₁.heap H):=by
   refine⟨?_,λc2 P2 pos2 e=>?_⟩
   .obtain⟨bm,ob,b1,b2,b3,b4,b5,b6⟩:=hbm
    exact⟨bm,ob,b1,b2,base_of b3 (noA b3 (λz=>by rw[b6];simp) (by rw[b4];simp)),b4,b5,b6⟩
   .rw[hlam]at e;cases e
    let⟨o,vs,file,tf,flags,tg,Ϫ,text,tt,e1,e2,e3,r⟩:=hcd;exact⟨o,vs,file,tf,flags,tg,Ϫ,text,tt,base_of e1 (noA e1 (λz=>by rw[e3];simp) (by rw[e2];simp)),e2,e3,r⟩
  have e0:IZ P w K mg (zO s₁.heap H) callerA [] s₁ H:=⟨rfl,hM,λb o e=>X2 e,ý (N2 _ _),trivial,λb hb=>absurd (show b∈([]:ZM)from hb) 'e',hok,.of_eq hg⟩;have hLm:XU K H:=λc2 P2 pos2 e=>by rw[hlam]at e;cases e;exact hO
  refine codeAny_mono ((F _ hKb (nsK hns) hB).run callerA [] s₁ H ⟨[.ref a],[]⟩ [.ref a] [.ref a] _ _ hr e0 (hbind s₁ (.ref a)) (.cons rfl .nil) (hsp H hLm hS)) λr s' h=>?_;cases r with
  |error e=>exact(hCX H e s' h).elim
  |ok fl=>
   cases fl with
   |next=>exact False.elim h
   |brk=>exact False.elim h
   |cont=>exact False.elim h
   |ret u=>
    let⟨v,H',os,bare,un,hok',r',q⟩:=h;let⟨q',sm⟩:=q;subst q';obtain rfl:u=Value.bool true:=r';refine⟨rfl,⟨λb o e=>?_,λb o e=>un.there b o e 'e'⟩,os,bare⟩;cases q:H b with
    |none=>exact .inl (un.keep b o e q (by intro z;exact absurd (show b∈([]:ZM)from z) 'e') 'e')
    |some u=>
     rcases hA b u q with ⟨rfl,rfl⟩|⟨rfl,rfl,_⟩
     .rw[hPT]at e;cases e
      let⟨ps,e1,_⟩:=hok' _ _ (sm _ _ q);exact .inr (.inl ⟨(hcd.tab hPT).isCodeTable,rfl,#[],ps,rfl,by rw[e1];simp⟩)
     .obtain⟨e2,_⟩:=hok' _ _ (sm _ _ q)
      rw[ha]at e;cases e;exact .inl e2
 cases hk:K.lookup a with
 |some o=>
  have e:=KX a o hk;rw[ha]at e;cases e;refine core (λb=>if b=PT then some (sH pos)else none) (Â rfl) (.inr ⟨_,vs.toArray,_,hk,rfl,rfl,rfl,by rw[ð,lenV];exact hl,by simpa using rv⟩) (λb u z=>?_) λb u z=>?_
  .by_cases hb:b=PT
   .have z':=(Â hb).symm.trans z
    cases z';subst hb;exact⟨_,hPT,.inl rfl⟩
   .have z':=(Ã hb).symm.trans z
    cases z'
  .by_cases hb:b=PT
   .have z':=(Â hb).symm.trans z
    cases z';exact .inl ⟨hb,rfl⟩
   .have z':=(Ã hb).symm.trans z
    cases z'
 |none=>
  have eq1:∀b u,(if b=PT then some (sH pos)else if b=a then some (HO.frz {cls:=.type "list",data:=.seq vs.toArray} (.lst (ns.map V.int)))else none)=some u->(b=PT/\u=sH pos)\/(b=a/\u=.frz {cls:=.type "list",data:=.seq vs.toArray} (.lst (ns.map V.int))):=λb u z=>by
   split at z
   .rename_i h;cases z;exact .inl ⟨h,rfl⟩
   .split at z
    .rename_i h;cases z;exact .inr ⟨h,rfl⟩
    .cases z
  refine core (λb=>if b=PT then some (sH pos)else if b=a then some (.frz {cls:=.type "list",data:=.seq vs.toArray} (.lst (ns.map V.int)))else none) (Â rfl) (.inl (.inr ⟨{cls:=.type "list",data:=.seq vs.toArray},by dsimp only;rw[Ã haP,Â rfl]⟩)) (λb u z=>?_) λb u z=>?_
  .rcases eq1 b u z with ⟨rfl,rfl⟩|⟨rfl,rfl⟩
   .exact⟨_,hPT,.inl rfl⟩
   .exact⟨ha,by rw[Ä];exact hl,vs,_,rv,ha⟩
  .rcases eq1 b u z with h|⟨h1,h2⟩
   .exact .inl h
   .exact .inr ⟨h1,h2,hk⟩
def O5{K:ZC}(h:jI K=some (c,P,pos)):W.tabIn K mZ=some (c,P):=by
 unfold jI at h;split at h
 .split at h
  .split at h
   .rename_i e
    split at h
    .cases h;exact e
    .cases h
   .cases h
  .cases h
 .cases h
def walk_ofL{l:W.OpenLaw}{n k:Nat}{q:Program}{loose:ZG}{XP:(ZD)->Heap->Prop}{YP:World->Heap->Prop}{d dl:DefRec}{K:Params->ZC}{CX:World->Q8}{sp:World->Sp}{x:Str}(hn:l.most=some n)(hn2:n<=sizeLine)(hdf:d.params.defaults=[])(hr:eY k callerA)(hY:∀(w:World)(h:Heap),YP w h->(K w.params).In h)(hrec:(recsOf q).find? (λe=>e.name == mZ)=some dl)(F:∀(w:World)(mg:ZD)(fa:Addr)(h:Heap),(K w.params).In h->h.Ns mainGlobals mg->mg d.name=some (.ref fa) ->
   (W.noTabs (K w.params)=true/\∃c P pos,jI (K w.params)=some (c,P,pos))/\∃fd:FuncData,(∀(s:Shared)(u:Value),BindsTo s fd ⟨[u],[]⟩ [(x,u)]) /\
    ∀base:Heap,(K w.params).In base->base.Ns mainGlobals mg->t4 (K w.params) mg base->rD l.prog w (K w.params) mg base (CX w) k fa fd [x] (sp w))(hsp:∀(w:World)(H:Hp)(a:Addr)(ns:ZK),ns.length<=n->XU (K w.params) H->eE (K w.params) H a (ns.map V.int)->sp w [.ref a] H (λv H'=>v=.bl true/\aI H H') λ_ _ _=>False)(hCX:∀(w:World)(H:Hp)(s:Shared)(e:Value)(s':Shared),CX w [] H s (λ_ _ _=>False) e s'->False):
  W.WalkO q loose XP YP l.row.toRowW d [] (λf vs=>PySem.call f vs):=by
 refine Att.attach_call hn hdf λw s₀ s₁ mg mb fa o pm cd doc a vs ns G Y ho hd hcd hmg hobj hints hlen hg=>?_;have KX:=hY w _ Y;let⟨⟨hnt,c,P,pos,hlam⟩,fd,hb,hF⟩:=F w mg fa _ KX G.T.g hmg;let⟨t1,t2⟩:=W.tab_of G.T KX hrec (O5 hlam);exact O4 KX G.T.g G.T.b G.T.builtins G.T.nolimit hg hobj hints (Ø hlen hn2) hr hlam t1 t2 hnt G.T.bmain hF hb (λH hO hS=>hsp w H a ns hlen hO hS) λH e s'=>hCX w H s₁ e s'
def UJ(s:Stmt)(k:Nat):Stmt:=match s with
 |.ClassDef _ _ _ b _ _ _ _ _ _ _=>b.getD k (.Pass ⟨0,0,0,0⟩)
 |s=>s
def xO{K:ZC}(n:W.nsIn K mainGlobals nm=some (some (.ref C)))(c:QJ K C)(h:lI K C f):TU K nm f:=λC' e=>by
 rw[n]at e;cases e;exact⟨c,h⟩
def UK{K:ZC}(a:W.nsIn K mainGlobals mZ=some (some (.ref f)))(l:K.lookup f=some ⟨oc,od,.func fd,sl⟩)(hb:fd.body=.stmts b)(t:W.tabIn K mZ=some (c,P))(hp:B6 b=some pos):jI K=some (c,P,pos):=by
 unfold jI;rw[a];dsimp only;rw[l];dsimp only;rw[hb,t];dsimp only;rw[hp]
def UL{K:ZC}(a:W.nsIn K mainGlobals x=some (some (.ref f)))(l:K.lookup f=some ⟨oc,od,.func fd,sl⟩)(e:fd.code=.ref c)(lk:K.lookup c=some ⟨coc,cod,.fields cvs,csl⟩)(lv:(cvs[11]?:ZN)=some (.ref P)):W.tabIn K x=some (c,P):=by
 unfold W.tabIn;rw[a];dsimp only;rw[l];dsimp only;rw[e];dsimp only;rw[lk];dsimp only;rw[lv]
def UM{K:ZC}{st:Stmt}(a:W.nsIn K mainGlobals mZ=some (some (.ref f)))(F:QK K x q st f fd)(e:fd.code=.ref c)(lk:K.lookup c=some ⟨coc,cod,.fields cvs,csl⟩)(lv:(cvs[11]?:ZN)=some (.ref P))(hp:B6 (dR st)=some pos):jI K=some (c,P,pos):=by
 let⟨oc,od,kV,doc,pm,an,cdv,ct,osl,e1,l,_⟩:=F.ex;exact UK a l (by rw[e1]) (UL a l e lk lv) hp
end L2
namespace L2
open PySem PySem.Spec
def BK(c:Nat)(nm f:Str):D->ZL
 |.dict ((.none,.str n)::À)=>if n=nm/\ch c (oX f À)=0 then l4 f À else none
 |_=>none
def nE(c n:Nat)(nm f:Str)(y:D):D->ZL
 |.dict ((.none,.str m)::À)=>if m=nm/\ch c (oX f À)=n/\À.length<1000 then some (.dict ((.none,.str m)::pK f y À))else none
 |_=>none
def xP(c:Nat)(nm f:Str)(k v:D):D->ZL
 |.dict ((.none,.str m)::À)=>if m=nm/\ch c (oX f À)=1 then (match l4 f À,k with
  |some (.list ds),.int k=>(match lK ds.length k with
   |some j=>some (.dict ((.none,.str m)::pK f (.list (ds.set j v)) À))
   |none=>none)
  |_,_=>none)else none
 |_=>none
def xQ(nm m:Str):D->Prop
 |.dict ((.none,.str n)::À)=>n=nm/\l4 m À=none
 |_=>False
def UN(o:Option (ZI))(nm:Str)(fn:ZI->Res D)(δ:DS)(Q:D->ZO)(_w:Wt Q:=⟨⟩):Prop:=∃ds d,o=some ds/\fn (dD nm [] []::ds)=.ok .none [some d]/\Q d δ
def xR(k v:D):D->ZL
 |.dict À=>(match c7 k with
  |some ky=>if À.length<sizeLine then some (.dict (JW ky v À))else none
  |none=>none)
 |_=>none
def dctD':D->Bool
 |.dict À=>À.all λkv=>(c7 kv.1).isSome
 |_=>false
def MP(x k z:D):ZL:=match x with
 |.dict À=>(match c7 k with
  |some ky=>some ((jK ky À).getD z)
  |none=>none)
 |_=>none
def GJ(nm fld:Str)(d t:D):ZL:=match d with
 |.list ds=>(match gM nm fld t with
  |some (.list hs)=>(match cO hs,cO ds with
   |some hs',some ns=>(match hW hs' ns with
    |some ks=>some ((cQ none (ns.zip ks)).elim .none λm=>.int m.1)
    |none=>none)
   |_,_=>none)
  |_=>none)
 |_=>none
def Ĩ(ds:ZI):ZL:=match lT ds with
 |some (lo,n)=>if n<=sizeLine then some (.list (iO lo n))else none
 |none=>none
section
def aAR:F9 i c nm f δ=(match δ[i]? with
 |some (some d)=>(match BK c nm f d with
  |some r=>Res.ok r δ
  |none=>.stuck)
 |_=>.stuck):=by
 unfold F9;cases δ[i]? with
 |none=>rfl
 |some o=>
  cases o with
  |none=>rfl
  |some d=>
   cases d<;>try rfl
   rename_i À;cases À with
   |nil=>rfl
   |cons kv À=>
    let⟨k,v⟩:=kv;cases k<;>try rfl
    cases v<;>try rfl
    rename_i x;show _=(match (if x=nm/\ch c (oX f À)=0 then l4 f À else none)with|some r=>Res.ok r δ|none=>.stuck);dsimp only;by_cases h:x=nm/\ch c (oX f À)=0
    .rw[Â h,Â h]
     try (cases l4 f À<;>rfl)
    .rw[Ã h,Ã h]
def C9:aY (F9 i c nm f) δ Q=gK δ[i]? δ λd δ=>u3 (BK c nm f d) δ Q:=by
 unfold aY gK u3;rw[aAR];cases δ[i]? with
 |none=>rfl
 |some o=>
  cases o with
  |none=>rfl
  |some d=>
   dsimp only;cases BK c nm f d with
   |none=>rfl
   |some r=>rfl
def aAS:r9 i c n nm f fe δ=(fe δ).bind λy δ1=>(match δ1[i]? with
 |some (some d)=>(match nE c n nm f y d with
  |some r=>Res.ok Fl.next (δ1.set i (some r))
  |none=>.stuck)
 |_=>.stuck):=by
 unfold r9;congr 1;funext y δ1;cases δ1[i]? with
 |none=>rfl
 |some o=>
  cases o with
  |none=>rfl
  |some d=>
   cases d<;>try rfl
   rename_i À;cases À with
   |nil=>rfl
   |cons kv À=>
    let⟨k,v⟩:=kv;cases k<;>try rfl
    cases v<;>try rfl
    rename_i x;show _=(match (if x=nm/\ch c (oX f À)=n/\À.length<1000 then some (PyData.dict ((.none,.str x)::pK f y À))else none)with|some r=>Res.ok Fl.next (δ1.set i (some r))|none=>.stuck);dsimp only;by_cases h:x=nm/\ch c (oX f À)=n/\À.length<1000
    .rw[Â h,Â h]
    .rw[Ã h,Ã h]
def xS:bO (r9 i c n nm f fe) δ N B C R=aY fe δ λy δ1=>gK δ1[i]? δ1 λd δ1=>u3 (nE c n nm f y d) δ1 λd' δ1=>N (δ1.set i (some d')):=by
 unfold bO aY gK u3;rw[aAS];cases fe δ with
 |stuck=>rfl
 |err x d=>rfl
 |ok y δ1=>
  dsimp![Res.bind];cases δ1[i]? with
  |none=>rfl
  |some o=>
   cases o with
   |none=>rfl
   |some d=>
    dsimp only;cases nE c n nm f y d with
    |none=>rfl
    |some r=>rfl
def aAT:sA i c nm f fk fv δ=(fv δ).bind λv δ1=>(match fk δ1 with
 |.ok k _=>(match δ1[i]? with
  |some (some d)=>(match xP c nm f k v d with
   |some r=>Res.ok Fl.next (δ1.set i (some r))
   |none=>.stuck)
  |_=>.stuck)
 |_=>.stuck):=by
 unfold sA;congr 1;funext v δ1;have dead:∀(o:Option (ZL))(rk:Res D),(∀k dd,rk≠.ok k dd)->(match o,rk with
  |some (some (.dict ((.none,.str m)::À))),.ok (.int k) _=>if m=nm/\ch c (oX f À)=1 then (match l4 f À with
   |some (.list ds)=>(match lK ds.length k with
    |some j=>Res.ok Fl.next (δ1.set i (some (.dict ((.none,.str m)::pK f (.list (ds.set j v)) À))))
    |none=>.stuck)
   |_=>.stuck)else .stuck
  |_,_=>(Res.stuck:Res Fl))=.stuck:=λo rk h=>by
  split
  .exact absurd rfl (h _ _)
  .rfl
 cases e:fk δ1 with
 |stuck=>exact dead _ _ (λ_ _ z=>by cases z)
 |err x dd=>exact dead _ _ (λ_ _ z=>by cases z)
 |ok kk dd=>
  cases δ1[i]? with
  |none=>rfl
  |some o=>
   cases o with
   |none=>rfl
   |some d=>
    cases d<;>try rfl
    rename_i À;cases À with
    |nil=>rfl
    |cons kv À=>
     let⟨k,w⟩:=kv;cases k<;>try rfl
     cases w<;>try rfl
     rename_i x;show _=(match (if x=nm/\ch c (oX f À)=1 then (match l4 f À,kk with
      |some (.list ds),.int k=>(match lK ds.length k with
       |some j=>some (PyData.dict ((.none,.str x)::pK f (.list (ds.set j v)) À))
       |none=>none)
      |_,_=>none)else none)with
      |some r=>Res.ok Fl.next (δ1.set i (some r))
      |none=>.stuck)
     by_cases h:x=nm/\ch c (oX f À)=1
     .rw[Â h]
      cases kk with
      |int k=>
       dsimp only;rw[Â h];cases l4 f À with
       |none=>rfl
       |some r=>
        cases r with
        |list ds=>
         dsimp only;cases lK ds.length k<;>rfl
        |_=>rfl
      |_=>
       dsimp only;cases l4 f À with
       |none=>rfl
       |some r=>cases r<;>rfl
     .rw[Ã h]
      cases kk with
      |int k=>dsimp only;rw[Ã h]
      |_=>rfl
def UO:bO (sA i c nm f fk fv) δ N B C R=aY fv δ λv δ1=>aY fk δ1 λk _=>gK δ1[i]? δ1 λd δ1=>u3 (xP c nm f k v d) δ1 λd' δ1=>N (δ1.set i (some d')):=by
 unfold bO aY gK u3;rw[aAT];cases fv δ with
 |stuck=>rfl
 |err x d=>rfl
 |ok y δ1=>
  dsimp![Res.bind];cases fk δ1 with
  |stuck=>rfl
  |err x d=>rfl
  |ok k δ2=>
   dsimp only;cases δ1[i]? with
   |none=>rfl
   |some o=>
    cases o with
    |none=>rfl
    |some d=>
     dsimp only;cases xP c nm f k y d with
     |none=>rfl
     |some r=>rfl
def DB:xI i nm m fn as δ=(match δ[i]? with
 |some (some d)=>open Classical in if xQ nm m d then fU fn (.own i::as) δ else .stuck
 |_=>.stuck):=by
 unfold xI;cases δ[i]? with
 |none=>rfl
 |some o=>
  cases o with
  |none=>rfl
  |some d=>
   cases d<;>try (exact(Ã (λz:False=>z)).symm)
   rename_i À;cases À with
   |nil=>exact(Ã (λz:False=>z)).symm
   |cons kv À=>
    let⟨k,w⟩:=kv;cases k<;>try (exact(Ã (λz:False=>z)).symm)
    cases w<;>try (exact(Ã (λz:False=>z)).symm)
    rename_i x;dsimp only;by_cases h:x=nm/\l4 m À=none
    .rw[Â h,Â (show xQ nm m (.dict ((.none,.str x)::À))from h)]
    .rw[Ã h,Ã (show ¬xQ nm m (.dict ((.none,.str x)::À))from h)]
def aG8:aY (xI i nm m fn as) δ Q=gK δ[i]? δ λd δ=>xQ nm m d/\aY (fU fn (.own i::as)) δ Q:=by
 rw[lZ];unfold CU;cases e:δ[i]? with
 |none=>unfold aY;rw[DB,e];simp
 |some o=>
  cases o with
  |none=>unfold aY;rw[DB,e];simp
  |some d=>
   simp![Option.some.injEq,exists_eq_left'];unfold aY;rw[DB,e];dsimp only;by_cases h:xQ nm m d
   .rw[Â h];simp[h]
   .rw[Ã h];simp[h]
def aG9:aY (GB m0 nm fn as) δ Q=aY (cP as) δ λods δ1=>δ1.length=m0/\UN (eD δ1 as ods) nm fn δ1 Q:=by
 unfold aY GB UN;cases cP as δ with
 |stuck=>rfl
 |err x d=>rfl
 |ok ods δ1=>
  simp![Res.bind];by_cases h:δ1.length=m0
  .rw[Â h]
   simp![h,true_and];cases eD δ1 as ods with
   |none=>simp
   |some ds=>
    simp![Option.some.injEq,exists_and_left,exists_eq_left'];cases e:fn (dD nm [] []::ds)with
    |stuck=>simp
    |err x os=>
     simp![reduceCtorEq,false_and,exists_false];split
     .rename_i z
      split at z
      .rename_i y;cases y
      .cases z
      .cases z
     .rfl
    |ok d os=>
     refine propext ⟨λz=>?_,λ⟨d2,z,q⟩=>?_⟩
     .split at z
      .rename_i y
       split at y
       .rename_i y2;cases y2;cases y;exact⟨_,rfl,z⟩
       .rename_i y2;cases y2
       .cases y
      .exact z.elim
     .cases z;exact q
  .rw[Ã h];simp[h]
def xT:bO (ML i fk fv) δ N B C R=aY fv δ λv δ1=>gK δ1[i]? δ1 λ_ δ1=>aY fk δ1 λk δ2=>gK δ2[i]? δ2 λd δ2=>u3 (xR k v d) δ2 λd' δ2=>N (δ2.set i (some d')):=by
 rw[lZ,iX];unfold bO ML aY CU QN;cases fv δ with
 |stuck=>rfl
 |err x d=>rfl
 |ok v δ1=>
  simp![Res.bind];cases δ1[i]? with
  |none=>simp
  |some o=>
   cases o with
   |none=>simp
   |some d0=>
    simp![Option.some.injEq,exists_eq_left'];cases fk δ1 with
    |stuck=>rfl
    |err x d=>rfl
    |ok k δ2=>
     simp![Res.bind];cases δ2[i]? with
     |none=>simp
     |some o=>
      cases o with
      |none=>simp
      |some d=>
       simp![Option.some.injEq,exists_eq_left'];unfold xR;cases d with
       |dict À=>
        dsimp only;cases c7 k with
        |none=>simp
        |some ky=>
         dsimp only;by_cases h:À.length<sizeLine
         .rw[Â h];simp[h]
         .rw[Ã h];simp[h]
       |_=>simp
def UP:aY (MM fx fk fz) δ Q=aY fx δ λx δ1=>dctD' x=true/\aY fk δ1 λk δ2=>aY fz δ2 λz δ3=>u3 (MP x k z) δ3 Q:=by
 unfold aY MM u3;cases fx δ with
 |stuck=>rfl
 |err x d=>rfl
 |ok x δ1=>
  dsimp![Res.bind];cases x with
  |dict À=>
   dsimp![dctD',MP];by_cases h:(À.all λkv=>(c7 kv.1).isSome)=true
   .rw[Â h]
    simp![h,true_and];cases fk δ1 with
    |stuck=>rfl
    |err x d=>rfl
    |ok k δ2=>
     dsimp![Res.bind];cases fz δ2 with
     |stuck=>rfl
     |err x d=>rfl
     |ok z δ3=>
      dsimp![Res.bind];cases c7 k with
      |none=>rfl
      |some ky=>rfl
   .rw[Ã h];simp[h]
  |_=>simp[dctD']
def UQ:aY (vZ i nm f fe) δ Q=aY fe δ λd δ1=>gK δ1[i]? δ1 λt δ1=>u3 (GJ nm f d t) δ1 Q:=by
 rw[lZ,iX];unfold aY vZ CU QN;cases fe δ with
 |stuck=>rfl
 |err x d=>rfl
 |ok d δ1=>
  simp![Res.bind];cases d with
  |list ds=>
   cases δ1[i]? with
   |none=>simp
   |some o=>
    cases o with
    |none=>simp
    |some t=>
     simp![Option.some.injEq,exists_eq_left'];unfold GJ;dsimp only;cases gM nm f t with
     |none=>simp
     |some r=>
      cases r with
      |list hs=>
       dsimp only;cases cO hs with
       |none=>simp
       |some hs'=>
        cases cO ds with
        |none=>simp
        |some ns=>
         dsimp only;cases hW hs' ns with
         |none=>simp
         |some ks=>simp
      |_=>simp
  |_=>simp[GJ]
def aHA:aY (BH fs) δ Q=aY (aZ fs) δ λds δ1=>u3 (Ĩ ds) δ1 Q:=by
 rw[iX];unfold aY BH QN Ĩ;cases aZ fs δ with
 |stuck=>rfl
 |err x d=>rfl
 |ok ds δ1=>
  simp![Res.bind];cases lT ds with
  |none=>simp
  |some p=>
   let⟨lo,n⟩:=p;dsimp only;by_cases h:n<=sizeLine
   .rw[Â h];simp[h]
   .rw[Ã h];simp[h]
def GK(d:D)(δ:DS)(Q:D->ZO)(_w:Wt Q:=⟨⟩):Prop:=(IG d).isSome=true/\Q d δ
def qD:aY (OO fe) δ Q=aY fe δ λd _=>GK d δ Q:=by
 unfold aY OO GK;cases fe δ with
 |stuck=>rfl
 |err x d=>rfl
 |ok d δ1=>
  dsimp only;cases IG d with
  |none=>simp
  |some v=>simp
def UR{i:Int}:GK (.int i) δ Q=Q (.int i) δ:=by unfold GK;simp[IG]
def aHB:GK .none δ Q=Q .none δ:=by unfold GK;simp[IG]
end
end L2
namespace PySem
namespace F
end F
section
end
end PySem
namespace L2
open PySem PySem.Spec PyProof.Rows
section
end
def ŉ{P:ZJ->Prop}{us:ZJ}{n:Nat}(hl:us.length=n+1)(h:∀x xs,xs.length=n->P (x::xs)):P us:=by
 cases us with
 |nil=>cases hl
 |cons x xs=>exact h x xs (Nat.succ.inj hl)
def aPH{P:ZJ->Prop}{us:ZJ}(hl:us.length=0)(h:P []):P us:=by
 rw[List.length_eq_zero_iff.mp hl];exact h
def ϫ{P:ZJ->Prop}{us:ZJ}(hl:us.length=1)(h:∀a,P [a]):P us:=ŉ hl λa _ hl=>aPH (P:=λus=>P (a::us)) hl (h a)
def Ϭ{P:ZJ->Prop}{us:ZJ}(hl:us.length=2)(h:∀a b,P [a,b]):P us:=ŉ hl λa _ hl=>ϫ (P:=λus=>P (a::us)) hl (h a)
def ϭ{P:ZJ->Prop}{us:ZJ}(hl:us.length=3)(h:∀a b c,P [a,b,c]):P us:=ŉ hl λa _ hl=>Ϭ (P:=λus=>P (a::us)) hl (h a)
def aPI{P:ZJ->Prop}{us:ZJ}(hl:us.length=4)(h:∀a b c d,P [a,b,c,d]):P us:=ŉ hl λa _ hl=>ϭ (P:=λus=>P (a::us)) hl (h a)
def aOW{ps:ZG}(hl:us.length=1)(h:∀a,bindArgs fd ⟨[a],[]⟩=pure (ps.zip [a])):bindArgs fd ⟨us,[]⟩=pure (ps.zip us):=ϫ (P:=λus=>bindArgs fd ⟨us,[]⟩=pure (ps.zip us)) hl h
def aOX{ps:ZG}(hl:us.length=2)(h:∀a b,bindArgs fd ⟨[a,b],[]⟩=pure (ps.zip [a,b])):bindArgs fd ⟨us,[]⟩=pure (ps.zip us):=Ϭ (P:=λus=>bindArgs fd ⟨us,[]⟩=pure (ps.zip us)) hl h
def aOY{ps:ZG}(hl:us.length=3)(h:∀a b c,bindArgs fd ⟨[a,b,c],[]⟩=pure (ps.zip [a,b,c])):bindArgs fd ⟨us,[]⟩=pure (ps.zip us):=ϭ (P:=λus=>bindArgs fd ⟨us,[]⟩=pure (ps.zip us)) hl h
def aOZ{ps:ZG}(hl:us.length=4)(h:∀a b c d,bindArgs fd ⟨[a,b,c,d],[]⟩=pure (ps.zip [a,b,c,d])):bindArgs fd ⟨us,[]⟩=pure (ps.zip us):=aPI (P:=λus=>bindArgs fd ⟨us,[]⟩=pure (ps.zip us)) hl h
section
variable {P:Program}{w:World}{K:ZC}{mg:ZD}{base:Heap}{x qual:Str}{st:Stmt}{N:ZG}{k lev rm:Nat}{ps owp:ZH}{body:M Fl}
structure Fd(K:ZC)(x qual:Str)(st:Stmt)(N:ZG)(k:Nat) where
 f:Addr
 fd:FuncData
 F:QK K x qual st f fd
 b:pE K fd (N.take k) []
structure Fg(K:ZC)(mg:ZD)(x:Str)(st:Stmt)(N:ZG)(k:Nat) extends Fd K x x st N k where
 m:mg x=some (.ref f)
abbrev Fd.Ok(X:Fd K x qual st N k)(P:Program)(w:World)(mg:ZD)(base:Heap)(lev:Nat)(ps owp:ZH)(rm:Nat)(d:ZI->Res D):Prop:=rD P w K mg base (zR P w K) lev X.f X.fd (N.take k) (RQ K (N.take k) ps owp rm d)
def Fd.okD(X:Fd K x qual st N k)(S:lJ N (N.take k) (bF st))(hb:∀{cdv:Value}{A:Around}{outer:List Env}{s:Shared}{H:Hp}{E:XK}{F0:Hp}{g0:ZP}{σ0:St}{wf:∀a i q,g0 a=some (i,q)->i∈ps}(_:X.fd.code=cdv)(_:eY lev (A.deeper (envOfC qual (bF st) s.heap.objs.size X.f cdv))),
   CD (p7 (zR P w K) P w K mg base N qual (bF st) X.f cdv A outer s H E) ⟨F0,H,g0,ps,σ0,owp,wf⟩ owp owp owp owp rm (dR st) body)(hN:↥(owp.length=N.length)):X.Ok P w mg base (lev+1) ps owp rm (aR N.length ps rm body):=
 X.F.okD S hN λ_ hcd _ _ _ _ _ _ _ _ _ hr=>⟨owp,hb hcd hr⟩
def Fd.okE(X:Fd K x qual st N k)(owe:ZH)(S:lJ N (N.take k) (bF st))(hb:∀{cdv:Value}{A:Around}{outer:List Env}{s:Shared}{H:Hp}{E:XK}{F0:Hp}{g0:ZP}{σ0:St}{wf:∀a i q,g0 a=some (i,q)->i∈ps}(_:X.fd.code=cdv)(_:eY lev (A.deeper (envOfC qual (bF st) s.heap.objs.size X.f cdv))),
   CD (p7 (zR P w K) P w K mg base N qual (bF st) X.f cdv A outer s H E) ⟨F0,H,g0,ps,σ0,owp,wf⟩ owp owe owe owe rm (dR st) body)(hN:↥(owp.length=N.length)):X.Ok P w mg base (lev+1) ps owp rm (aR N.length ps rm body):=
 X.F.okD S hN λ_ hcd _ _ _ _ _ _ _ _ _ hr=>⟨owe,hb hcd hr⟩
def Ĵ(N:ZG)(k:Nat)(sc:Scope):Bool:=(match sc.kind with|.function=>true|_=>false) && !sc.isCoroutine && !sc.isGenerator && decide N.Nodup && (N.take k).all (λx=>match sc.names.lookup x with|some .local=>true|some .cell=>true|_=>false) && sc.names.all (λy=>match y.2 with|.free=>false|_=>true)
def MQ(h:Ĵ N k sc=true):lJ N (N.take k) sc:=by
 unfold Ĵ at h;simp![ã,Bool.not_eq_true',decide_eq_true_eq,ç]at h;let⟨⟨⟨⟨⟨h1,h2⟩,h3⟩,h4⟩,h5⟩,h6⟩:=h;refine⟨?_,h2,h3,h4,?_,λx hx=>?_,λy hy e=>?_⟩
 all_goals grind
def aKU{h:Heap}{f:Addr}{oc:Value}{od an:Option Addr}{osl:Array (ZN)}{kV doc pm cdv ct:Value}(X:K.In h)(G:h.Ns mainGlobals mg)(a:W.nsIn K mainGlobals x=some (some (.ref f)))(l:K.lookup f=some ⟨oc,od,.func (W.fnOf x x (n6 st) (dR st) (bF st) .none kV doc pm an cdv ct),osl⟩)(c:W.codeIn K cdv x=true)(k':W.keepIn K (.ref f)=true)(hb:∀(kV doc pm:Value)(an:Option Addr)(cdv ct:Value)(us:ZJ),us.length=(N.take k).length->bindArgs (W.fnOf x x (n6 st) (dR st) (bF st) .none kV doc pm an cdv ct) ⟨us,[]⟩=pure ((N.take k).zip us)):(Fg K mg x st N k):=
 ⟨⟨f,_,JD l c k',(JD l c k').binds hb⟩,W.mg_of X G a⟩
def MR(X:K.In h)(G:h.Ns mainGlobals mg)(a:W.nsIn K mainGlobals x=some (some (.int v t))):∃t,mg x=some (.int v t):=⟨t,W.mg_of X G a⟩
def aKV(X:K.In h)(G:h.Ns mainGlobals mg)(y:W.nsIn K mainGlobals x=some (some (.ref a)))(l:K.lookup a=some ⟨.type "tuple",od,.seq #[.int i t,.int j u] n,sl⟩):∃a o t u n,mg x=some (.ref a)/\K.lookup a=some o/\o.cls=.type "tuple"/\o.data=.seq #[.int i t,.int j u] n:=⟨_,_,_,_,_,W.mg_of X G y,l,rfl,rfl⟩
def aB{pos p:Pos}(Y:Fg X.K X.mg x st N k)(Fk:Y.Ok X.prog X.w X.mg X.base lev ps owp rm fn)(hr:eY k1 X.A)(ha:DA X Z ow (e::es) as)(hk:⇑(lev<=k1))(S:aQ Z ow:=by exact aG)(hg:Gl X x:=by exact rfl)(hz:↥(XW Z=true))(hl:↥(as.length=(N.take k).length))(hps:↥(fS 0 as=ps))(nd:↥(decide (aW as).Nodup=true))(hm:↥(fB owp ow 0 as=true))(hlt:⇑(as.length<=1000))(hdb:⇑(Zdb x))(he:↥(Zse e es X.env))(hpl:↥(Zbt pos es X.env)):
  DE X Z ow rm (.Call 'g' (e::es) [] pos) (fU fn as):=Y2 S Fk (hr.mono hk) hg Y.m Y.F.kp Y.b ha hz hl hps nd hm hlt hdb he hpl
end
def Fd.okN{K:ZC}{st:Stmt}(X:Fd K x qual st N k)(hb:∀{cdv:Value}{A:Around}{outer:List Env}{s:Shared}{H:Hp}{E:XK}{F0:Hp}{g0:ZP}{σ0:St}{wf:∀a i q,g0 a=some (i,q)->i∈ps}(_:X.fd.code=cdv)(_:eY lev (A.deeper (envOfC qual (bF st) s.heap.objs.size X.f cdv)))(_:N.Nodup),
   CD (p7 (zR P w K) P w K mg base N qual (bF st) X.f cdv A outer s H E) ⟨F0,H,g0,ps,σ0,owp,wf⟩ owp owp owp owp rm (dR st) body)(h:Ĵ N k (bF st)=true:=by decide +kernel)(hN:↥(owp.length=N.length)):X.Ok P w mg base (lev+1) ps owp rm (aR owp.length ps rm body):=by
 rw[hN];exact X.okD (MQ h) (λa b=>hb a b (MQ h).nd) hN
def Fd.okM{K:ZC}{st:Stmt}(X:Fd K x qual st N k)(owe:ZH)(hb:∀{cdv:Value}{A:Around}{outer:List Env}{s:Shared}{H:Hp}{E:XK}{F0:Hp}{g0:ZP}{σ0:St}{wf:∀a i q,g0 a=some (i,q)->i∈ps}(_:X.fd.code=cdv)(_:eY lev (A.deeper (envOfC qual (bF st) s.heap.objs.size X.f cdv)))(_:N.Nodup),
   CD (p7 (zR P w K) P w K mg base N qual (bF st) X.f cdv A outer s H E) ⟨F0,H,g0,ps,σ0,owp,wf⟩ owp owe owe owe rm (dR st) body)(h:Ĵ N k (bF st)=true:=by decide +kernel)(hN:↥(owp.length=N.length)):X.Ok P w mg base (lev+1) ps owp rm (aR owp.length ps rm body):=by
 rw[hN];exact X.okE owe (MQ h) (λa b=>hb a b (MQ h).nd) hN
def Ŋ:ZG->Str->Nat->Option Nat
 |[],_,_=>none
 |y::ys,x,k=>if y == x then some k else Ŋ ys x (k+1)
def MS:∀{N:ZG}{x:Str}{k i:Nat},Ŋ N x k=some i->∃j,i=k+j/\N[j]?=some x
 |y::ys,x,k,i,h=>by
  unfold Ŋ at h;by_cases e:(y == x)=true
  .rw[Â e]at h
   cases h;exact⟨0,rfl,congrArg some (eq_of_beq e)⟩
  .rw[Ã e]at h
   let⟨j,e1,e2⟩:=MS h;exact⟨j+1,∅,e2⟩
def rL{α:Type}(r:Expr->Option α):List Expr->Option (List α)
 |[]=>some []
 |e::es=>(r e).bind λf=>(rL r es).bind λfs=>some (f::fs)
def aPJ:Operator->Option (D->D->ZL)
 |.Add=>some OI
 |.Sub=>some ť
 |.Mult=>some OJ
 |.Mod=>some CL
 |_=>none
def aPK:Const->Option (M D)
 |.int i=>some (dC (.int i))
 |.str x=>some (dC (.str x))
 |.none=>some (dC .none)
 |_=>none
def aN1:NameKind->Bool
 |.globalImplicit=>false
 |.globalExplicit=>false
 |_=>true
def aPL(N:ZG)(nm:List (Str×NameKind))(ow:ZH)(x:Str):(Option (M D)):=(nm.lookup x).bind λk=>(Ŋ N x 0).bind λi=>if aN1 k && ow.getD i 0 == 0 && !(x == "__debug__") && !(x == "__classdict__")then some (bQ i)else none
def rE(N:ZG)(nm:List (Str×NameKind))(ow:ZH):Nat->Expr->Option (M D)
 |0,_=>none
 |n+1,e=>match e with
  |.Name x _=>aPL N nm ow x
  |.Constant c _ _=>aPK c
  |.BinOp a o b _=>(aPJ o).bind λg=>(rE N nm ow n a).bind λf=>(rE N nm ow n b).bind λh=>some (j9 g f h)
  |.Subscript a b _=>(rE N nm ow n a).bind λf=>(rE N nm ow n b).bind λh=>some (j9 fC f h)
  |.Tuple es _ _=>(rL (rE N nm ow n) es).bind λfs=>some (OE fs)
  |_=>none
def ob{α β:Type}{x:Option α}{f:α->Option β}{b:β}(h:x.bind f=some b):∃a,x=some a/\f a=some b:=Option.bind_eq_some_iff.mp h
section
variable {X:Cx}{Z:bT}{ow:ZH}{e:Expr}{f:M D}
structure ŵ(X:Cx)(Z:bT)(ow:ZH)(e:Expr)(f:M D):Prop where
 de:DE X Z ow 0 e f
 st:∀es,starEach (e::es) X.env=(false,eval e X.env)::starEach es X.env
 ix:lM e
def Ŷ(h:∀e f,r e=some f->ŵ X Z ow e f):∀{es:List Expr}{fs:List (M D)},rL r es=some fs->DV X Z ow es fs
 |[],fs,q=>by cases q;exact aV
 |e::es,fs,q=>by
  let⟨f,h1,q⟩:=ob q;let⟨gs,h2,q⟩:=ob q;cases q;exact aE (h _ _ h1).de (Ŷ h h2) ((h _ _ h1).st _)
def Ϯ{r:Expr->Option (M D)}(h:∀e f,r e=some f->ŵ X Z ow e f):∀{es:List Expr}{as:List Arg},rL (λe=>(r e).bind λf=>some (Arg.val f)) es=some as->DA X Z ow es as
 |[],as,q=>by cases q;exact dW
 |e::es,as,q=>by
  let⟨a,h1,q⟩:=ob q;let⟨bs,h2,q⟩:=ob q;let⟨f,h3,q1⟩:=ob h1;cases q;cases q1;exact aS (h _ _ h3).de (Ϯ h h2) ((h _ _ h3).st _)
def MT(S:aQ Z ow):∀(n:Nat)(e:Expr)(f:M D),rE X.N X.env.scope.names ow n e=some f->ŵ X Z ow e f
 |n+1,e,f,h=>by
  have ih:=MT S n;cases e with
  |Name x p=>
   refine⟨?_,λ_=>rfl,λ_ _=>rfl⟩;let⟨k,hk,h⟩:=ob h;let⟨i,hi,h⟩:=ob h;split at h
   .rename_i q
    cases h;let⟨j,rfl,hj⟩:=MS hi;simp![ã,Bool.not_eq_true',beq_iff_eq,Nat.zero_add]at q⊢;refine aFE j q.1.1.2 hj ?_ q.1.2 q.2;have q:=q.1.1.1;cases k<;>cases q
    .exact .inl hk
    .exact .inr (.inl hk)
    .exact .inr (.inr hk)
   .cases h
  |Constant c k p=>
   refine⟨?_,λ_=>rfl,λ_ _=>rfl⟩;cases c<;>cases h
   all_goals first|exact aN|exact cR|exact wO
  |BinOp a o b p=>
   let⟨g,h1,h⟩:=ob h;let⟨f1,h2,h⟩:=ob h;let⟨f2,h3,h⟩:=ob h;cases h;have a:=(ih _ _ h2).de;have b:=(ih _ _ h3).de;refine⟨?_,λ_=>rfl,λ_ _=>rfl⟩;cases o<;>cases h1
   all_goals first|exact bM S a b|exact iQ S a b|exact fH S a b|exact RW S a b
  |Subscript a b p=>
   let⟨f1,h2,h⟩:=ob h;let⟨f2,h3,h⟩:=ob h;cases h;exact⟨fM S (ih _ _ h2).de (ih _ _ h3).de (ih _ _ h3).ix,λ_=>rfl,λ_ _=>rfl⟩
  |Tuple es k p=>
   let⟨fs,h2,h⟩:=ob h;cases h;exact⟨cK (Ŷ ih h2),λ_=>rfl,λ_ _=>rfl⟩
  |_=>cases h
def rx(S:aQ Z ow:=by exact aG)(h:↥(rE X.N X.env.scope.names ow 9 e=some f)):DE X Z ow 0 e f:=(MT S 9 e f h).de
def rv{es:List Expr}{fs:List (M D)}(S:aQ Z ow:=by exact aG)(h:↥(rL (rE X.N X.env.scope.names ow 9) es=some fs)):DV X Z ow es fs:=Ŷ (MT S 9) h
def ra{es:List Expr}{as:List Arg}(S:aQ Z ow:=by exact aG)(h:↥(rL (λe=>(rE X.N X.env.scope.names ow 9 e).bind λf=>some (Arg.val f)) es=some as)):DA X Z ow es as:=Ϯ (MT S 9) h
end
section
end
section
end
section
def US(k x:D):(Option (ZL)):=match x with
 |.dict À=>if (À.all λkv=>(c7 kv.1).isSome)=true then (match c7 k with
  |some ky=>some (jK ky À)
  |none=>none)else none
 |_=>none
def u8(n:Bool)(k x:D):ZL:=(US k x).map λr=>.bool (r.isSome != n)
def UT{K:ZC}(e:US k x=some r)(hk:bG K F k y)(hx:bG K F x v)(hs:aI F H):∃a o,v=.ref a/\zY H a y o/\((r=none/\o=none)\/∃d w,r=some d/\o=some w/\bG K F d w):=by
 unfold US at e;split at e
 .rename_i À
  split at e
  .rename_i hall
   split at e
   .rename_i ky e4
    cases e;let⟨a,ms,ds,vs,rfl,l1,rfl,hF,hr⟩:=MN hx hall;obtain rfl:=C8 e4 hk;refine⟨a,qC (ms.zip vs) ky,rfl,zY.k (hs _ _ hF),?_⟩;rcases t3 (k:=ky) l1 hr with ⟨h1,h2⟩|⟨d,w,h1,h2,h3⟩
    .exact .inl ⟨h1,h2⟩
    .exact .inr ⟨d,w,h1,h2,h3⟩
   .cases e
  .cases e
 .cases e
def UU(h:tD X Z ow 0 (j9 (u8 n) fk fx) σ H Q):tD X Z ow 0 fk σ H λy H1=>tD X Z ow 0 fx σ H1 λx H2=>∃a o,x=.ref a/\zY H2 a y o/\Q (.bl (o.isSome != n)) H2:=by
 let⟨F,δ,R,h⟩:=h;unfold j9 at h;sleep 4;cases e:fk δ with
 |stuck=>sleep 1
 |err x δ1=>rw[e]at h;exact h
 |ok d1 δ1=>
  rw[e]at h;sleep 8;intro y H1 F1 R1 s1;refine⟨F1,δ1,R1.rel,?_⟩;cases e2:fx δ1 with
  |stuck=>rw[e2]at h;exact h.elim
  |err x δ2=>rw[e2]at h;exact iM.mono h s1
  |ok d2 δ2=>
   rw[e2]at h;sleep 8;intro v H2 F2 R2 s2;unfold u8 at h;cases e3:US d1 d2 with
   |none=>rw[e3]at h;exact h.elim
   |some r=>
    rw[e3]at h;let⟨a,o,rfl,hg,hr⟩:=UT e3 (s2.rep _ _ R1.rep) R2.rep R2.rel.sub;have eo:o.isSome=r.isSome:=by
     rcases hr with ⟨rfl,rfl⟩|⟨d,w,rfl,rfl,_⟩<;>rfl
    refine⟨a,o,rfl,hg,?_⟩;rw[eo];exact h _ H2 F2 (R2.rel.x iP) (s1.trans' s2)
def aN3(hu:X.A.units+64<cLine)(hi:DE X Z ow 0 i fk)(ho:DE X Z ow 0 o fx)(h1:↥(behindInMarks .In o=false)):DE X Z ow 0 (.Compare i [.In] [o] pos) (j9 (u8 false) fk fx):=
 PE.mono (aED (T2 ∅ hi ho) h1) λσ H Q h=>by
  have:=UU h;simp![Bool.bne_false]at this;exact this
def aHD(hu:X.A.units+64<cLine)(hi:DE X Z ow 0 i fk)(ho:DE X Z ow 0 o fx)(h1:↥(behindInMarks .In o=false)):DT X Z ow (.Compare i [.In] [o] pos) (dB (j9 (u8 false) fk fx)):=
 (aEE (T2 ∅ hi ho) h1).mono λσ H Q h=>by
  have:=UU (LF h);simp![Bool.bne_false]at this;exact this
end
section
variable {c i:Nat}{F H:Hp}{g:ZP}{K:ZC}
def bC.mkC{p:ZH}{a:Addr}{ds:ZI}{vs:List V}(hk:kd c=0)(h0:c≠0)(a1:g a=some (i,p))(a2:H a=some (.lst vs))(a3:F a=none)(hl:ds.length=vs.length)(r:∀(k:Nat)(d':D)(v':V),ds[k]?=some d'->vs[k]?=some v'->bC K F H g i (ch c k) (p++[k]) d' v'):bC K F H g i c p (.list ds) (.ref a):=by
 cases c with
 |zero=>exact absurd rfl h0
 |succ c=>
  refine bC.shut (ds:=ds) (vs:=vs) (cs:=[(a,[],.lst vs)]) (by rw[hk];exact⟨a,rfl,rfl,rfl⟩) (λx hx=>?_) hl r
  rw[í.mp hx];exact⟨by simpa using a1,a2,a3⟩
end
section
end
section
end
section
end
section
def MU(f:M D):M Bool:=λδ=>(f δ).bind λd δ1=>match d with
 |.list ds=>.ok (!ds.isEmpty) δ1
 |_=>.stuck
def aHE(h:DE X Z ow 0 e f)(he: ~~~(∀whole,isTrue e X.env whole=(do let v <- whole;standAt e.pos;holding [v] (truthy v)))):DT X Z ow e (MU f):=(Q3 h he).mono λσ H Q h=>by
 let⟨F,δ,R,h⟩:=h;unfold MU at h;sleep 4;cases e:f δ with
 |stuck=>sleep 1
 |err x δ1=>rw[e]at h;exact h
 |ok d δ1=>
  rw[e]at h;sleep 8;intro v H1 F1 R1 s1;split at h
  .rename_i ds
   let⟨l,vs,rfl,hx,rx⟩:=kL R1.rep;refine⟨!ds.isEmpty,?_,h H1 F1 R1.rel s1⟩;refine .inl ⟨vs,R1.rel.sub.seq hx,?_⟩;have:=rx.len
   grind
  .exact h.elim
def UV{δ:DS}{Q:Bool->ZO}{ds:ZI}{δ1:DS}(h:f δ=.ok (.list ds) δ1)(q:Q (!ds.isEmpty) δ1):aY (MU f) δ Q:=by
 unfold aY MU;rw[h];exact q
end
section
def UW(ow:ZH)(f:M D):M D:=λδ=>match f (BB ow δ)with
 |.ok d _=>.ok d δ
 |_=>.stuck
def aAV(m:Nat)(S:aQ Z ow)(q:tD X Z ow n (UW ow f) σ H Q):∃F0,tD X (fV F0 H σ m) 'j' n f σ H Q:=by
 let⟨F,δ,⟨g,R⟩,q⟩:=q;unfold UW at q;refine⟨F,F,BB ow δ,R.hide,?_⟩;cases e1:f (BB ow δ)with
 |stuck=>rw[e1]at q;sleep 5
 |err x δ1=>rw[e1]at q;sleep 5
 |ok d δ1=>
  rw[e1]at q;rintro v H' F' ⟨g',R',o⟩ s';have hnew:∀x l,g' x=some l->H x=none:=λx l e=>by
   let⟨i,p⟩:=l;rcases R'.lab x i p e with z|⟨q,z⟩
   .exact z
   .cases z
  have R2:=R.back R';refine q v H' F' ⟨λx=>match g' x with|some (j,p)=>if j=1000 then some (1000,p)else none|none=>ė g 1000 x,⟨R2.sub,R2.f0,R2.kept,R2.new,R2.there,λx j p e=>?_,R2.len,R2.par,λj d e=>?_⟩,o.relab λa p e=>by rw[e];exact Â rfl⟩ s'
  .cases y:g' x with
   |none=>
    rw[y]at e;exact R.lab x j p (B8 e).1
   |some l=>
    refine .inl ?_;cases w:Z.H0 x with
    |none=>rfl
    |some o=>exact absurd (hnew x l y) (R.there x (by rw[w];simp))
  .obtain⟨v,y1,y2⟩:=R.slot j d e
   refine⟨v,y1,?_⟩;by_cases hz:ow.getD j 0=0
   .rw[hz]at y2⊢
    exact R'.f0.2.rep _ _ y2
   .have j1:j<1000:=C4 S hz
    refine y2.keepJ R'.f0.2 λx p o z1 z2' z3=>(have z2:H x=some o:=z2';⟨?_,R'.kept x o rfl z2,R'.new x z3 (by show H x≠none;rw[z2];simp)⟩)
    cases y:g' x with
    |none=>exact B7 (by show j≠1000;lia) z1
    |some l=>rw[hnew x l y]at z2;cases z2
def ŗ:D->Bool
 |.list []=>false
 |_=>true
end
section
variable {X:Cx}{Z:bT}{ow ol ox:ZH}{n rm:Nat}{pos:Pos}{tg:Expr}
def zZ(i:Nat){x:Str}{pos' spos:Pos}{set:D->DS->Option DS}(m m2:Nat)(S:aQ Z ow)(S0:∀F H σ,aQ (fV F H σ m) 'j')(Sk:∀F H σ,aQ ((fV F H σ m).sh xs.length) (List.replicate xs.length 0++List.replicate m 0))(hc:X.calm=true)(hN:X.N.Nodup)(hi:∀F H σ,DI X (fV F H σ m) 'j' tg iter fi)(hg:∀C fp s H,PG 'h' tg gt)(hs:∀F H σ,Y9 X ((fV F H σ m).sh xs.length) (List.replicate xs.length 0++List.replicate m 0) xs.length gt set)(he:∀C fp s H,∀F1 H1 σ1,DE 'h' (fV F1 H1 σ1 m2) (List.replicate m2 0) n elt fe)(hkd:↥(kd (n+1)=0))(hch: ~~~(∀k,ch (n+1) k=n))(hx:↥'t')(hl:↥(X.env.scope.names.lookup x=some .local))(hps:↥(Z.ps.contains i=false))(hlo:⇑(i<ow.length))(hsw:↥(swapsWith (.ListComp elt [⟨tg,iter,[],0⟩] scope pos) (some (.Name x pos')) spos.line X.env=pure true))(hk:↥(scope.kind=.function))(hok:↥(dS X.N xs scope.names X.env.scope.names=true))(hfs: ~~~(Zfi iter X.env)):
  CC X Z ow (ow.set i (n+1)) ol ox rm (.Assign [.Name x pos'] (.ListComp elt [⟨tg,iter,[],0⟩] scope pos) spos) (jU i (UW ow (dP xs.length set fi dH fe))):=
 PS.mono (rM (wi:=λσ H R=>∃F0,tI X (fV F0 H σ m) 'j' fi σ H R) (ti:=λ_ H Q=>Q true H) (te:=λσ H Q=>∃F0,ĝ X (fV F0 H σ m2) (List.replicate m2 0) n fe σ H Q) hc hN hx hl (λU s σ H R I zQ=>by let⟨F0,t⟩:=zQ;exact hi F0 H σ U s σ H R I t) hg (λC fp s H=>B5) (λC fp s H U s' σ H' Q I zQ=>by let⟨F0,h⟩:=zQ;exact he C fp s H F0 H' σ U s' σ H' Q I (LN (X:=X) (X':=aT X xs scope C fp s H) rfl h)) hsw hk hok hfs) λDn σ H h=>by
  let⟨F0,t⟩:=aAV m S (CF S (dE hps) hlo h);exact⟨F0,BC m2 hkd hch (S0 F0 H σ) (Sk F0 H σ) (λ_=>iW) (hs F0 H σ) t⟩
end
section
variable {X:Cx}{Z:bT}{ow:ZH}{pos:Pos}{σ:St}{H:Hp}{δ δ1:DS}{K:ZC}{g:ZP}{F:Hp}
def bU.drop(R:bU K Z ow g F H σ δ)(i:Nat)(hi:i∉Z.ps):bU K Z (ow.set i 0) g F H σ (δ.set i none):=
 ⟨R.sub,R.f0,R.kept,R.new,R.there,R.lab,by rw[Ú];exact R.len,λj hj=>by
  have ne:i≠j:=λz=>hi (z▸hj);refine⟨(R.par j hj).1,?_⟩;rw[Ê,Þ ne,<- Ê];exact(R.par j hj).2,λj d e=>by
  by_cases hj:i=j
  .subst hj
   rw[Ć]at e;split at e
   .split at e<;>cases e
   .rename_i z;exact absurd rfl z
  .rw[Þ hj]at e
   let⟨v,e1,o⟩:=R.slot j d e;refine⟨v,e1,?_⟩;rw[Ê,Þ hj,<- Ê];exact o⟩
def bU.take{i:Nat}{d:D}(R:bU K Z ow g F H σ δ)(hi:i∉ps)(hps:∀j∈Z.ps,j∈ps)(e:δ[i]?=some (some d))(hl:i<ow.length)(R1:bU K (bT.sub ps g F H σ (ow.set i 0)) (ow.set i 0) g1 F1 H1 σ δ1):
  ∃g2,bU K Z ow g2 F1 H1 σ (δ1.set i (some d)):=by
 have L:=(R.drop i λz=>hi (hps i z)).leave hps R1;have gi:∀a p,g a=some (i,p)->IF ps g a=none:=λa p z=>by
  unfold IF;rw[Â ⟨i,p,z,hi⟩]
 have oth:∀j,i≠j->(ow.set i 0).getD j 0=ow.getD j 0:=λj ne=>by
  rw[Ê,Þ ne,<- Ê]
 refine⟨λa=>open Classical in if ∃p,g a=some (i,p)/\H a≠none then g a else g1 a,R1.sub,L.f0,L.kept,L.new,L.there,λa j p z=>?_,by rw[Ú];exact L.len,λj hj=>?_,λj d' z=>?_⟩
 .split at z
  .exact R.lab a j p z
  .exact L.lab a j p z
 .have ne:i≠j:=λq=>hi (q▸hps j hj)
  refine⟨(L.par j hj).1,?_⟩;rw[<- oth j ne];exact(L.par j hj).2
 .by_cases hj:i=j
  .subst hj
   rw[Ć]at z;split at z
   .split at z
    .cases z
     let⟨v,e1,o⟩:=R.slot i d e;refine⟨v,e1,o.keepJ R1.f0.2 λa p ob q1 q2 q3=>⟨?_,R1.kept a ob (gi a p q1) q2,R1.new a q3 (λz=>by rw[z]at q2;cases q2)⟩⟩;rw[Â ⟨p,q1,λz=>by rw[show H a=_ from q2]at z;cases z⟩];exact q1
    .cases z
   .rename_i y;exact absurd rfl y
  .rw[Þ hj]at z
   let⟨v,e1,o⟩:=R1.slot j d' z;refine⟨v,e1,?_⟩;rw[oth j hj]at o;refine o.relab λa p q1=>?_;rw[Ã]
   .exact q1
   .rintro⟨p',q2,q3⟩
    rcases R1.lab a j p q1 with y|⟨q,y⟩
    .exact q3 y
    .rw[show (bT.sub ps g F H σ (ow.set i 0)).g0 a=IF ps g a from rfl,gi a p' q2]at y
     cases y
def bU.at2L{i j:Nat}{ds inner:ZI}(R:bU K Z ow g F H σ δ)(ho:ow.getD i 0=2)(hd:δ[i]?=some 'w')(hj:ds[j]?=some (.list inner)):
  ∃a vs b ws,σ[i]?=some (some (.ref a))/\H a=some (.lst vs)/\ds.length=vs.length/\vs[j]?=some (.ref b)/\H b=some (.lst ws)/\aD K F inner ws/\(∃p,g a=some (i,p))/\∃p,g b=some (i,p):=by
 let⟨v,e1,o⟩:=R.slot i _ hd;rw[ho]at o;let⟨a,ds0,vs,q1,q2,q3,q4,q5,q6,q7⟩:=o.lst (m:=1);cases q1;subst q2;have jl:j<vs.length:=by rw[<- q6];exact(Ð.mp hj).1
 let⟨b,inner',ws,w1,w2,w3,w4,w5,w6,w7⟩:=(q7 j _ _ hj (É jl)).lst (m:=0);cases w1;exact⟨a,vs,b,ws,e1,q4,q6,by rw[É jl,w2],w4,aD.of w6 w7,⟨_,q3⟩,_,w3⟩
def GL(ow:ZH)(i:Nat)(fE fa:M D)(op:ZI->ZI->Option (D×ZI)):M D:=λδ=>match δ[i]?,fE δ with
 |some (some _),.ok (.int k) δ1=>(match δ1[i]? with
  |some 'w'=>(match lK ds.length k with
   |some j=>(match ds[j]? with
    |some (.list _)=>(match fa (δ1.set i none)with
     |.ok a δ2=>kM ow i (dC (.int k)) op [dC a] (δ2.set i 'w')
     |_=>.stuck)
    |_=>.stuck)
   |none=>.stuck)
  |_=>.stuck)
 |_,_=>.stuck
def aHF(ha:∀g F H σ,DE X (bT.sub ps g F H σ ow') ow' 0 e fa)(hs:starEach [e] X.env=(false,eval e X.env)::starEach [] X.env):PA X [e] (λσ H Q=>∃g F,tV X (bT.sub ps g F H σ ow') ow' [fa] σ H Q):=λcp U s σ H Q I zQ=>by let⟨g,F,q⟩:=zQ;exact (aE (ha g F H σ) aV hs) cp U s σ H Q I q
def UX(ho:ow.getD i 0=2)(hm:zT X r op)(hi:i∉ps)(hps:∀j∈Z.ps,j∈ps)(hz:∀j,j∉ps->(ow.set i 0).getD j 0=0)(hl:i<ow.length)(h:tD X Z ow 0 (GL ow i fE fa op) σ H Q):
  N3 i σ H λx H1=>tD X Z ow 0 fE σ H1 λy H2=>YQ X.K x y H2 λv H3=>İ X.K "list" v H3/\∃g F,tV X (bT.sub ps g F H3 σ (ow.set i 0)) (ow.set i 0) [fa] σ H3 λxs H4=>r v xs H4 Q:=by
 let⟨F,δ,R,q⟩:=h;unfold GL at q;split at q
 .rename_i d0 k δ1 e1 e2
  let⟨g0,R0⟩:=id R;let⟨v0,s0,_⟩:=R0.slot i _ e1;refine⟨v0,s0,F,δ,R,?_⟩;rw[e2];rintro v H1 F1 ⟨g1,R1,ov⟩ s1;have ev:v=.int k:=by
   have ov:bG X.K F1 (.int k) v:=ov;unfold bG at ov;exact ov
  subst ev;split at q
  .rename_i ds e3
   split at q
   .rename_i j e4
    split at q
    .rename_i inner e5
     let⟨a,vs,b,ws,q1,q2,q3,q4,q5,q6,⟨pa,la⟩,pb,lb⟩:=R1.at2L ho e3 e5;rw[s0]at q1;cases q1;split at q
     .rename_i av δ2 e6
      refine⟨a,vs,k,.ref b,rfl,rfl,eE.of q2,?_,.inl ⟨rfl,ws,eE.of q5⟩,g1,F1,F1,δ1.set i none,⟨_,(R1.drop i λz=>hi (hps i z)).enter hz⟩,?_⟩
      .unfold atI
       rw[<- q3,e4];exact q4
      .rw[show aZ [fa] (δ1.set i none)=.ok [av] δ2 from by unfold aZ;rw[e6];rfl]
       rintro us H2 F2 ⟨g3,R3⟩ s3 ra;let⟨g4,R4⟩:=R1.take hi hps e3 hl R3;have kp:∀{b:Addr}{p:ZH}{o:HO},g1 b=some (i,p)->H1 b=some o->H2 b=some o:=λ{b p o}z1 z2=>R3.kept b o (by show IF ps g1 b=none;unfold IF;rw[Â ⟨i,p,z1,hi⟩]) z2
       cases e7:kM ow i (dC (.int k)) op [dC av] (δ2.set i 'w')with
       |stuck=>rw[e7]at q;sleep 5
       |err x δ3=>exact(FW e7).elim
       |ok d δ3=>
        rw[e7]at q;let⟨ds',k',δ4,j',inner',args,δ5,inner2,f1,f2,f3,f4,f5,f6,rfl⟩:=xG e7;have hl2:i<(δ2:List (ZL)).length:=by
         rw[R3.len];exact(Ð.mp s0).1
        rw[ë hl2]at f1;cases f1;cases f2;cases f5;rw[e4]at f3;cases f3;rw[e5]at f4;cases f4;let⟨xs',rv,w1,w2,w3⟩:=hm F2 H2 b ws us inner [av] d inner2 (kp lb q5) R4.sub (s3.repAll _ _ q6) ra f6;exact w3 Q (q rv _ F2 ⟨g4,R4.rewrite2 ho (ë hl2) s0 (kp la q2) q4 w1,w2⟩ (s1.trans' s3))
     .sleep 5
    .sleep 5
   .sleep 5
  .sleep 5
 .sleep 5
def aAW(i:Nat)(ps:ZH){x:Str}{p p2 q:Pos}{id:String}(slot:Slot "list" name id)(hty:typeOf (.builtin id)=pure (.type "method_descriptor"))(hmr:ģ X id r)(hm:zT X r op)(hk:DE X Z ow 0 ek fE)(ha:∀g F H σ,DE X (bT.sub ps g F H σ (ow.set i 0)) (ow.set i 0) 0 e fa)(ho:↥(ow.getD i 0=2))(hi:↥(ps.contains i=false))(hps:↥(Z.ps.all ps.contains=true))(hz:↥(((List.range (ow.set i 0).length).all λj=>ps.contains j || (ow.set i 0).getD j 0 == 0)=true))(hl:⇑(i<ow.length))(hN:↥'t')(hv:#v[AJ X.env.scope x])(hd:⇑(Zdb x))(hcd:⇑(Zcd x))(hp:lM ek:=by exact λ_ _=>rfl)(hbase:↥(attributeBase (.Subscript 'g' ek p2) name X.env (eval (.Subscript 'g' ek p2) X.env)=eval (.Subscript 'g' ek p2) X.env))(hfew:↥(((backTo pos (starEach [e] X.env)).all (λx=>!x.1) && (backToKw pos (keywordEach [] X.env)).all (λx=>x.1.isSome)
   && decide ([e].length+([]:List Keyword).length+(if ([]:List Keyword).isEmpty then 0 else 1)<30))=true))(hline:↥((q.endLine == pos.line)=true))(hs:↥(Zse e [] X.env))(hplain:↥(Zbt pos [] X.env)):
  DE X Z ow 0 (.Call (.Attribute (.Subscript 'g' ek p2) name q) [e] [] pos) (GL ow i fE fa op):=PE.mono (RC PySem.F.plainAttrs_list slot hty hmr (AQ n5 (dQ hN hv hd hcd) hk hp) (aHF ha hs) hbase hfew hline hs hplain) λ_ _ _ h=>UX ho hm (dE hi) (λj hj=>List.contains_iff_mem.mp (ç.mp hps j hj)) (λj hj=>by
   by_cases hjl:j<(ow.set i 0).length
   .have:=ç.mp hz j (List.mem_range.mpr hjl)
    grind
   .rw[Ê,ä (å.mp hjl)]
    rfl) hl h
end
end L2
namespace L2
open PySem PySem.Spec
section
end
end L2
set_option maxRecDepth 100000
set_option maxHeartbeats 4000000
open L2 in
seal DE DT CC CD DV DA DI DO QL PG ı Y9 Į PW
namespace Toy
open PySem L2
@[inline]def top(i:Nat):Stmt:=PySem.Challenge.pw_keel_k93_whole_wider_bounds_ask_no_more.main.body.getD i (.Pass ⟨0,0,0,0⟩)
abbrev qE:Stmt:=top 7
abbrev qF:ZG:=["one","other","rest"]
abbrev JY:Stmt:=top 8
abbrev JZ:ZG:=["top","bottom","divisor"]
abbrev aHG:Stmt:=top 9
abbrev aHH:ZG:=["one","other"]
abbrev aAX:Stmt:=top 10
abbrev aAY:ZG:=["one","other"]
abbrev aAZ:Stmt:=top 11
abbrev aA0:ZG:=["one","other"]
abbrev O6:Stmt:=top 14
abbrev O7:ZG:=["numbers","parts","reached","number","part"]
abbrev z6:Stmt:=top 15
abbrev z7:ZG:=["rows","rooms","fills","room","fill","row","top"]
abbrev DC:Stmt:=top 18
abbrev DD:ZG:=["rooms","lines","tank","room","line"]
abbrev O8:Stmt:=top 19
abbrev O9:ZG:=["line","pivot_line","column","scale","step","share","numbers"]
def sI:(["one","other","line","pivot_line","column","scale","step","share","numbers"]:ZG).Nodup:=by decide +kernel
abbrev UY:Stmt:=top 20
abbrev UZ:ZG:=["pivot_line","column","scale","numbers"]
abbrev pM:Stmt:=top 21
abbrev z8:ZG:=["table","below"]
def kR:(["place","line","table","below"]:ZG).Nodup:=by decide +kernel
abbrev DF:Stmt:=top 22
abbrev DG:ZG:=["table","line","column","best","one","other"]
abbrev DH:Stmt:=top 23
abbrev DJ:ZG:=["table","line","best","column"]
abbrev J1:Stmt:=top 24
abbrev J2:ZG:=["table","rows","shares","first_row","first_room","parts"]
abbrev GM:Stmt:=top 25
abbrev GN:ZG:=["table","line","shares","number","share"]
abbrev GO:Stmt:=top 26
abbrev GP:ZG:=["table","rows","place","shares"]
abbrev GQ:Stmt:=top 27
abbrev GR:ZG:=["table","rows","rooms","reached","number","line","fills"]
abbrev t6:Stmt:=UJ (top 17) 0
abbrev t7:ZG:=["self","rows","rooms"]
def iA:(["row","top","self","rows","rooms"]:ZG).Nodup:=by decide +kernel
abbrev DK:Stmt:=UJ (top 17) 1
abbrev DL:ZG:=["self","place","column","pivot_line","lines","freed"]
abbrev aA1:Stmt:=top 28
abbrev aA2:ZG:=["rows","rooms","table","place","column"]
abbrev aA3:Stmt:=top 33
abbrev aA4:ZG:=["sums","weight","place"]
abbrev PB:Stmt:=top 34
abbrev PD:ZG:=["ship","cargo","own","sums","stack","boxes","t","box","place"]
abbrev z9:Stmt:=top 35
abbrev AA:ZG:=["tanks","axis","high","sums"]
abbrev DM:Stmt:=top 36
abbrev DN:ZG:=["tanks","axis","low","sums"]
abbrev PF:Stmt:=top 37
abbrev PH:ZG:=["ship","cargo","bounds","tanks","sums"]
abbrev J3:Stmt:=top 39
abbrev J4:ZG:=["ship"]
abbrev PJ:Stmt:=top 40
abbrev PK:ZG:=["ship","cargo"]
abbrev U0:Stmt:=top 41
abbrev U1:ZG:=["ship","cargo","fills"]
abbrev PL:Stmt:=top 44
abbrev PM:ZG:=["thing"]
abbrev J5:Stmt:=top 45
abbrev J6:ZG:=["ship","s","other","one","two"]
abbrev GS:Stmt:=top 47
abbrev GT:ZG:=["box","names"]
abbrev sJ:Stmt:=top 48
abbrev sK:ZG:=["stack","s","boxes","rules","above","t","box"]
abbrev U2:Stmt:=top 49
abbrev U3:ZG:=["ship","one","other"]
abbrev xU:Stmt:=top 50
abbrev xV:ZG:=["cargo","placed","s","boxes","t","box"]
abbrev xW:Stmt:=top 51
abbrev xX:ZG:=["ship","cargo","rules","placed","number","one","other"]
abbrev U4:Stmt:=top 52
abbrev U5:ZG:=["ship","cargo","rules","s","boxes"]
abbrev xY:Stmt:=top 54
abbrev xZ:ZG:=["boxes","port","t","box"]
abbrev t8:Stmt:=top 55
abbrev t9:ZG:=["boxes","s","port","lifted","moves"]
abbrev J7:Stmt:=top 56
abbrev J8:ZG:=["cargo","call","moves","s","boxes"]
def pN:(["box","s","cargo","call","moves",".s","boxes"]:ZG).Nodup:=by decide +kernel
abbrev J9:Stmt:=top 57
abbrev KA:ZG:=["cargo","call"]
def pO:(["step","box","cargo","call"]:ZG).Nodup:=by decide +kernel
abbrev KB:Stmt:=top 58
abbrev KC:ZG:=["cargo","call"]
abbrev U6:Stmt:=top 59
abbrev U7:ZG:=["cargo"]
def GU:(["boxes","cargo"]:ZG).Nodup:=by decide +kernel
abbrev PN:Stmt:=top 60
abbrev PP:ZG:=["cargo","step","box","behind"]
abbrev KD:Stmt:=top 61
abbrev KF:ZG:=["cargo","names","boxes","box"]
abbrev AB:Stmt:=top 62
abbrev AC:ZG:=["ship","cargo","loads","names","box","s"]
abbrev KG:Stmt:=top 63
abbrev KH:ZG:=["ship","cargo","rules"]
abbrev U8:Stmt:=top 64
abbrev U9:ZG:=["ship","cargo","call","behind","log","step","box","told"]
abbrev VA:Stmt:=top 66
abbrev VB:ZG:=["_law_feed","_law_many","_law_at","_law_cell"]
abbrev VC:Stmt:=top 67
abbrev VD:ZG:=["_law_feed","_law_scale","_law_k","_law_spot"]
abbrev VE:Stmt:=top 68
abbrev VF:ZG:=["_law_feed","_law_scale","_law_own","_law_long","_law_wide","_law_most","_law_bounds","_law_stacks","_law_s","_law_spot","_law_tanks","_law_apart"]
abbrev aA5:Stmt:=top 69
abbrev aA6:ZG:=["_law_feed","_law_scale","_law_number","_law_kinds","_law_bears"]
abbrev PQ:Stmt:=top 70
abbrev PR:ZG:=["_law_feed","_law_ship_here","_law_scale","_law_b","_law_more","_law_bounds","_law_tanks","_law_tank_here","_law_way"]
abbrev aA7:Stmt:=top 71
abbrev aA8:ZG:=["_law_fills","_law_total","_law_one"]
abbrev GV:Stmt:=top 72
abbrev GW:ZG:=["_law_one","_law_other","_law_left","_law_right"]
abbrev AD:Stmt:=top 73
abbrev AE:ZG:=["_law_one","_law_two","_law_k"]
abbrev PU:Stmt:=top 74
abbrev PV:ZG:=["_law_one","_law_two"]
abbrev aKX:Stmt:=top 75
abbrev aKY:ZG:=["_law_script","_law_feed","_law_scale","_law_ship_here","_law_cargo","_law_boxes","_law_number","_law_loads","_law_k","_law_call","_law_made","_law_one","_law_two","_law_told","_law_fills","_law_other"]
def VG:(["_law_stack","_law_script","_law_feed","_law_scale","_law_ship_here","_law_cargo","_law_boxes","_law_number","_law_loads","_law_k","_law_call","_law_made","_law_one","_law_two","_law_told","_law_fills","_law_other"]:ZG).Nodup:=by decide +kernel
abbrev aN4:Pos:=(B6 (dR pM)).getD ⟨0,0,0,0⟩
set_option genInjectivity false in
set_option genSizeOf false in
structure Txt(K:ZC)(mg:ZD) where
 x0:Fg K mg "greatest_divisor" qE qF 2
 x1:Fg K mg "fraction" JY JZ 2
 x2:Fg K mg "plus" aHG aHH 2
 x3:Fg K mg "times" aAX aAY 2
 x4:Fg K mg "under" aAZ aA0 2
 x5:Fg K mg "come_to" O6 O7 2
 x6:Fg K mg "right_fills" z6 z7 3
 x7:Fg K mg "room_lines" DC DD 1
 x8:Fg K mg "cleared" O8 O9 4
 x9:Fg K mg "turned" UY UZ 3
 x10:Fg K mg "place_below" pM z8 1
 x11:Fg K mg "goes_ahead" DF DG 4
 x12:Fg K mg "column_for" DH DJ 2
 x13:Fg K mg "parts_of" J1 J2 3
 x14:Fg K mg "shares_of" GM GN 2
 x15:Fg K mg "told_none" GO GP 3
 x16:Fg K mg "told_fill" GQ GR 3
 x17:Fd K "__init__" "Table.__init__" t6 t7 3
 x18:Fd K "swap" "Table.swap" DK DL 3
 x19:Fg K mg "least" aA1 aA2 2
 x20:Fg K mg "added" aA3 aA4 3
 x21:Fg K mg "weights" PB PD 2
 x22:Fg K mg "row_of_high" z9 AA 4
 x23:Fg K mg "row_of_low" DM DN 4
 x24:Fg K mg "rows_of" PF PH 2
 x25:Fg K mg "rooms_of" J3 J4 1
 x26:Fg K mg "ballast" PJ PK 2
 x27:Fg K mg "within" U0 U1 3
 x28:Fg K mg "is_name" PL PM 1
 x29:Fg K mg "apart_by" J5 J6 3
 x30:Fg K mg "check_box" GS GT 2
 x31:Fg K mg "broken_in_stack" sJ sK 3
 x32:Fg K mg "far_of" U2 U3 3
 x33:Fg K mg "placed_boxes" xU xV 1
 x34:Fg K mg "broken_apart" xW xX 2
 x35:Fg K mg "broken" U4 U5 2
 x36:Fg K mg "lifted_boxes" xY xZ 2
 x37:Fg K mg "moves_in_stack" t8 t9 3
 x38:Fg K mg "moves_of" J7 J8 2
 x39:Fg K mg "steps_of" J9 KA 2
 x40:Fg K mg "moved_at" KB KC 2
 x41:Fg K mg "copied" U6 U7 1
 x42:Fg K mg "stepped" PN PP 3
 x43:Fg K mg "names_in" KD KF 1
 x44:Fg K mg "check_loads" AB AC 3
 x45:Fg K mg "standing" KG KH 2
 x46:Fg K mg "called" U8 U9 3
 x47:Fg K mg "_law_draw" VA VB 2
 x48:Fg K mg "_law_tank" VC VD 3
 x49:Fg K mg "_law_ship" VE VF 2
 x50:Fg K mg "_law_box" aA5 aA6 3
 x51:Fg K mg "_law_wider" PQ PR 3
 x52:Fg K mg "_law_sum" aA7 aA8 1
 x53:Fg K mg "_law_no_more" GV GW 2
 x54:Fg K mg "_law_both_done" AD AE 2
 x55:Fg K mg "_law_agree" PU PV 2
 x56:Fg K mg "law" aKX aKY 1
 c_Table:Addr
 n_Table:W.nsIn K mainGlobals "Table"=some (some (.ref c_Table))
 q_Table:mg "Table"=some (.ref c_Table)
 cl_Table:QJ K c_Table
 x72:TU K "Table" "free"
 x73:TU K "Table" "goal"
 x74:TU K "Table" "held"
 x75:TU K "Table" "lines"
 x76:TU K "Table" "scale"
 mk_Table:Mk K c_Table x17.f
 me_Table_swap:YI K c_Table "swap" x18.f
 lamC:Addr
 lamP:Addr
 lamE:jI K=some (lamC,lamP,aN4)
 lamF:x10.fd.code=.ref lamC
 x57:mg "abs"=none
 x58:mg "all"=none
 x59:mg "enumerate"=none
 x60:mg "int"=none
 x61:mg "isinstance"=none
 x62:mg "len"=none
 x63:mg "list"=none
 x64:mg "max"=none
 x65:mg "min"=none
 x66:mg "range"=none
 x67:mg "reversed"=none
 x68:mg "str"=none
 x69:mg "sum"=none
 x70:mg "tuple"=none
 x71:mg "zip"=none
 g_ABOVE:∃t,mg "ABOVE"=some (.int 3 t)
 g_ACROSS:∃t,mg "ACROSS"=some (.int 2 t)
 g_ALONG:∃t,mg "ALONG"=some (.int 1 t)
 g_LONGEST_NAME:∃t,mg "LONGEST_NAME"=some (.int 8 t)
 p_NOUGHT:∃a o t u n,mg "NOUGHT"=some (.ref a)/\K.lookup a=some o/\o.cls=.type "tuple"/\o.data=.seq #[.int 0 t,.int 1 u] n
 c_NoName:Addr
 n_NoName:W.nsIn K mainGlobals "NoName"=some (some (.ref c_NoName))
 q_NoName:mg "NoName"=some (.ref c_NoName)
 e_NoName:W.excIn K c_NoName [.type "ValueError",.type "Exception",.type "BaseException",.type "object"] "ValueError.__new__"=true
 x_NoName:Z0 K c_NoName
 c_NoNumber:Addr
 n_NoNumber:W.nsIn K mainGlobals "NoNumber"=some (some (.ref c_NoNumber))
 q_NoNumber:mg "NoNumber"=some (.ref c_NoNumber)
 e_NoNumber:W.excIn K c_NoNumber [.type "ValueError",.type "Exception",.type "BaseException",.type "object"] "ValueError.__new__"=true
 x_NoNumber:Z0 K c_NoNumber
 c_NoStack:Addr
 n_NoStack:W.nsIn K mainGlobals "NoStack"=some (some (.ref c_NoStack))
 q_NoStack:mg "NoStack"=some (.ref c_NoStack)
 e_NoStack:W.excIn K c_NoStack [.type "ValueError",.type "Exception",.type "BaseException",.type "object"] "ValueError.__new__"=true
 x_NoStack:Z0 K c_NoStack
 c_NoWeight:Addr
 n_NoWeight:W.nsIn K mainGlobals "NoWeight"=some (some (.ref c_NoWeight))
 q_NoWeight:mg "NoWeight"=some (.ref c_NoWeight)
 e_NoWeight:W.excIn K c_NoWeight [.type "ValueError",.type "Exception",.type "BaseException",.type "object"] "ValueError.__new__"=true
 x_NoWeight:Z0 K c_NoWeight
abbrev Dq{x:Str}{st:Stmt}{N:ZG}{k:Nat}(p:∀{K mg},Txt K mg->Fg K mg x st N k)(lev:Nat)(ps ow:ZH)(rm:Nat):={b:M Fl // ∀{P:Program}{w:World}{K:ZC}{mg:ZD}{base:Heap}(T:Txt K mg)(_:t4 K mg base),(p T).Ok P w mg base lev ps ow rm (aR ow.length ps rm b)}
open PySem.Spec PyProof.Rows in
def mq{x:Str}{st:Stmt}{N:ZG}{k lev rm:Nat}{p:∀{K mg},Txt K mg->Fg K mg x st N k}{ps ow:ZH}{b:M Fl}(h:∀{P:Program}{w:World}{K:ZC}{mg:ZD}{base:Heap}(T:Txt K mg)(_:t4 K mg base){cdv:Value}{A:Around}{outer:List Env}{s:Shared}{H:Hp}{E:XK}{F0:Hp}{g0:ZP}{σ0:L2.St}{wf:∀a i q,g0 a=some (i,q)->i∈ps}(_:(p T).fd.code=cdv)(_:eY lev (A.deeper (envOfC x (bF st) s.heap.objs.size (p T).f cdv)))(_:N.Nodup),
  CD (p7 (zR P w K) P w K mg base N x (bF st) (p T).f cdv A outer s H E) ⟨F0,H,g0,ps,σ0,ow,wf⟩ ow ow ow ow rm (dR st) b)(hs:Ĵ N k (bF st)=true:=by decide +kernel)(hN:↥(ow.length=N.length)):(Dq p (lev+1) ps ow rm):=⟨b,λT B=>(p T).okN (λa c d=>h T B a c d) hs hN⟩
abbrev Dn(R:∀(_:Program)(_:World)(K:ZC)(mg:ZD)(_:Heap),Txt K mg->M Fl->Prop):={b:M Fl // ∀{P:Program}{w:World}{K:ZC}{mg:ZD}{base:Heap}(T:Txt K mg)(_:t4 K mg base),R P w K mg base T b}
local macro_rules| `(no_index $x:ident)=>`(haveI h:($x).1=?p:=(by unfold $x;dsimp![mq,List.length_cons,List.length_nil,List.set_cons_zero,List.set_cons_succ,List.getD,List.getElem?_cons_zero,List.getElem?_cons_succ,Option.getD_some,List.replicate_succ,List.replicate_zero,List.cons_append,List.nil_append,Nat.reduceAdd];exact rfl);?p)
section
variable {P:Program}{w:World}{K:ZC}{mg:ZD}{base:Heap}
def iZ:(Dq Txt.x0 1 [] [0,0,0] 0):=mq λT B=>λhcd hr nd=>(aA (FE PassesOwn.leaving (bL aG (mW hr.units) u0 rx aN (bB _)) (aA (aH 2 aG rx nd) (aA (aH 0 aG rx nd) (aC (aH 1 aG rx nd))))) (aC (aO rx)))
def qG:M Fl:=no_index iZ
def i5:ZI->Res D:=aR 3 [] 0 qG
def i6:(Dq Txt.x1 2 [] [0,0,0] 0):=mq λT B=>λhcd hr nd=>(aA (b8 (bL aG (eC hr.units) gB rx aN (bB _)) (aC (fX aG PySem.F.excBase_ValueError rfl T.n_NoNumber T.q_NoNumber T.e_NoNumber rfl rv)) bD) (aA (aH 2 aG (aB (fn:=i5) T.x0 (iZ.2 T B) hr (aS (iN aG rC CO rfl T.x57 B4 rv) (aS (iN aG rC CO rfl T.x57 B4 rv) dW))) nd) (aA (b8 (bL aG pC pJ rx aN (bB _)) (aC (aH 2 aG (jW rx) nd)) bD) (aC (aO (cK (aE (vR aG rx rx) (aE (vR aG rx rx) aV))))))))
def qH:M Fl:=no_index i6
def fJ:ZI->Res D:=aR 3 [] 0 qH
def VH:(Dq Txt.x2 3 [] [0,0] 0):=mq λT B=>λhcd hr nd=>(aC (aO (aB (fn:=fJ) T.x1 (i6.2 T B) hr ra)))
def KI:M Fl:=no_index VH
def VI:ZI->Res D:=aR 2 [] 0 KI
def MV:(Dq Txt.x3 3 [] [0,0] 0):=mq λT B=>λhcd hr nd=>(aC (aO (aB (fn:=fJ) T.x1 (i6.2 T B) hr ra)))
def DP:M Fl:=no_index MV
def MW:ZI->Res D:=aR 2 [] 0 DP
def v2:(Dq Txt.x4 1 [] [0,0] 0):=mq λT B=>λhcd hr nd=>(aC (aO (gG aG pC pJ rx rx (bB _))))
def DQ:M Fl:=no_index v2
def v3:ZI->Res D:=aR 2 [] 0 DQ
def BL:(Dq Txt.x5 4 [] [0,0,0,0,0] 0):=mq λT B=>λhcd hr nd=>(aA (aH 2 aG (FS rfl T.p_NOUGHT) nd) (aA (cX 3 4 nd (tX rfl T.x71 rx rx) (aC (aH 2 aG (aB (fn:=VI) T.x2 (VH.2 T B) hr (aS rx (aS (aB (fn:=MW) T.x3 (MV.2 T B) hr ra) dW))) nd))) (aC (aO rx))))
def uA:M Fl:=no_index BL
def BM:ZI->Res D:=aR 5 [] 0 uA
def pQ:(Dq Txt.x6 5 [] [0,0,0,0,0,0,0] 0):=mq λT B=>λhcd hr nd=>(aA (cX 3 4 nd (tX rfl T.x71 rx rx) (aC (b8 (lW (uW (gH (aB (fn:=v3) T.x4 (v2.2 T B) hr (aS rx (aS (FS rfl T.p_NOUGHT) dW)))) (tW (gH (aB (fn:=v3) T.x4 (v2.2 T B) hr ra))))) (aC (aO mQ)) bD))) (aA (cX 5 6 nd (bZ rx) (aC (b8 (gH (aB (fn:=v3) T.x4 (v2.2 T B) hr (aS rx (aS (aB (fn:=BM) T.x5 (BL.2 T B) hr ra) dW)))) (aC (aO mQ)) bD))) (aC (aO mQ))))
def j3:M Fl:=no_index pQ
def pR:ZI->Res D:=aR 7 [] 0 j3
def sL:(Dq Txt.x7 1 [] [0,0,0,0,0] 0):=mq λT B=>λhcd hr nd=>(aA (aH 1 aG (cG aG aV) nd) (aA (cX 2 3 nd (gX rfl T.x59 rx) (aA (aH 4 aG (JK aG (bS aG (gJ "other" (bZ rx) (λC fp s H=>b9) (λC fp s H=>aN))) (bS aG (cG aG rv))) nd) (aA (wU 4 aG aN rx) (cH 4 (aC (bW (dG 1 aG rx))))))) (cH 1 (aC (aO rx)))))
def l7:M Fl:=no_index sL
def sM:ZI->Res D:=aR 5 [] 0 l7
def uB:(Dq Txt.x8 1 [] [0,0,0,0,0,0,0] 0):=mq λT B=>λhcd hr nd=>(aA (aH 4 aG (jW rx) nd) (aA (aH 5 aG rx nd) (aA (lY 6 (xs:=[ "one" ,"other" ]) aG aG rfl nd (tX rfl T.x71 rx rx) (λC fp s H=>(tH rfl (dX (cW (i:=0) sI rfl (Or.inl rfl)) (dX (cW (i:=1) sI rfl (Or.inl rfl)) nZ)))) (rV (is:=[0,1]) aG (by intro i hi;simp![Ë,Û,or_false]at hi;rcases hi with rfl|rfl<;>exact⟨⋯,dE rfl,⋯,rfl⟩) rfl) (λC fp s H=>b9) (λC fp s H=>(vR aG rx rx))) (aA (wU 6 aG rx rx) (cH 6 (aC (aO rx)))))))
def uC:M Fl:=no_index uB
def uD:ZI->Res D:=aR 7 [] 0 uC
def GX:(Dq Txt.x9 1 [] [0,0,0,0] 0):=mq λT B=>λhcd hr nd=>(aA (fI 3 "one" nd (bZ rx) (λC fp s H=>b9) (λC fp s H=>(jW rx))) (aA (wU 3 aG (jW rx) rx) (cH 3 (aC (aO rx)))))
def yA:M Fl:=no_index GX
def GY:ZI->Res D:=aR 4 [] 0 yA
def j4:(Dq Txt.x10 1 [] [0,0] 0):=mq λT B=>λhcd hr nd=>(aA (lY 1 (xs:=[ "place" ,"line" ]) aG aG rfl nd (gX rfl T.x59 (dL "Table" T.x75 rx)) (λC fp s H=>(tH rfl (dX (cW (i:=0) kR rfl (Or.inl rfl)) (dX (cW (i:=1) kR rfl (Or.inl rfl)) nZ)))) (rV (is:=[0,1]) aG (by intro i hi;simp![Ë,Û,or_false]at hi;rcases hi with rfl|rfl<;>exact⟨⋯,dE rfl,⋯,rfl⟩) rfl) (λC fp s H=>(vS (bL aG pC pJ (fM aG rx (jW aN)) aN (bB _)))) (λC fp s H=>rx)) (aC (aO (m8 2 (λF H σ=>(O3 0 "Table" (hr.mono (ó _)) rfl rfl T.x65 B T.lamE (hcd.symm.trans T.lamF) T.x74 rx ⟨by ac_nf0,rfl,rfl,rfl,rfl⟩ (λ_ _ _ _=>rfl) ⋯ ⋯ ⋯ ⋯))))))
def j5:M Fl:=no_index j4
def cA:ZI->Res D:=aR 2 [] 0 j5
def sN:(Dq Txt.x11 1 [] [0,0,0,0,0,0] 0):=mq λT B=>λhcd hr nd=>(aA (aH 4 aG (fH aG (fM aG (dL "Table" T.x73 rx) rx) (jW rx)) nd) (aA (aH 5 aG (fH aG (fM aG (dL "Table" T.x73 rx) rx) (jW rx)) nd) (aC (aO (γ (gG aG pC pJ rx rx (bB _)) (tU (wV (gG aG (eC hr.units) gB rx rx (bB _)) (tU (gG aG pC pJ (fM aG (dL "Table" T.x72 rx) rx) (fM aG (dL "Table" T.x72 rx) rx) (bB _))))))))))
def l8:M Fl:=no_index sN
def sO:ZI->Res D:=aR 6 [] 0 l8
def sQ:(Dq Txt.x12 2 [] [0,0,0,0] 0):=mq λT B=>λhcd hr nd=>(aA (aH 2 aG wO nd) (aA (gW 3 nd (eM rfl T.x66 (c6 aG rfl T.x62 (dL "Table" T.x72 rx))) (aC (b8 (lW (aFF (bL aG pC pJ rx aN (bB _)) (Y6 (lW (uW (bL aG (JE.or IP) R8 rx wO (bB _)) (tW (gH (aB (fn:=sO) T.x11 (sN.2 T B) hr ra)))))))) (aC (aH 2 aG rx nd)) bD))) (aC (aO rx))))
def iG:M Fl:=no_index sQ
def l9:ZI->Res D:=aR 4 [] 0 iG
def qI:(Dq Txt.x13 3 [] [0,0,0,0,0,0] 0):=mq λT B=>λhcd hr nd=>(aA (aH 3 aG (c6 aG rfl T.x62 (dL "Table" T.x72 rx)) nd) (aA (aH 4 aG (bM aG rx 'B') nd) (aA (fI 5 "number" nd (eM rfl T.x66 (bM aG rx (c6 aG rfl T.x62 (dL "Table" T.x72 rx)))) (λC fp s H=>b9) (λC fp s H=>(aB (fn:=fJ) T.x1 (i6.2 T B) hr (aS (MO hr.units rx rx aN) (aS (dL "Table" T.x76 rx) dW))))) (aC (aO (cK (aE (bS aG (SR 5 aG (gT rx) (gT rx))) (aE (bS aG (SR 5 aG (gT rx) jJ)) aV))))))))
def qJ:M Fl:=no_index qI
def qK:ZI->Res D:=aR 6 [] 0 qJ
def nF:(Dq Txt.x14 1 [] [0,0,0,0,0] 30):=mq λT B=>λhcd hr nd=>(aA (aH 2 aG (C7 aG) nd) (aA (cX 3 4 nd (tX rfl T.x71 (dL "Table" T.x72 rx) (bS aG (iR aG rF vT rx jJ (gT (jW aN))))) (aC (sG 2 hr.units rx rx))) (aC (aO (C1 2 aG)))))
def nG:M Fl:=no_index nF
def nH:ZI->Res D:=aR 5 [] 30 nG
def u9:(Dq Txt.x15 4 [] [0,0,0,0] 0):=mq λT B=>λhcd hr nd=>(aA (aH 3 aG (aB (fn:=nH) T.x14 (nF.2 T B) hr (aS rx (aS (fM aG (dL "Table" T.x75 rx) rx) dW))) nd) (aA (sG 3 hr.units (dL "Table" T.x76 rx) (fM aG (dL "Table" T.x74 rx) rx)) (cH 3 (aC (aO (cK (aE cR (aE (aB (fn:=qK) T.x13 (qI.2 T B) hr ra) aV))))))))
def nI:M Fl:=no_index u9
def nJ:ZI->Res D:=aR 4 [] 0 nI
def vA:(Dq Txt.x16 4 [] [0,0,0,0,0,0,0] 0):=mq λT B=>λhcd hr nd=>(aA (aH 3 aG (C7 aG) nd) (aA (cX 4 5 nd (tX rfl T.x71 (dL "Table" T.x74 rx) (dL "Table" T.x75 rx)) (aC (sG 3 hr.units (fM aG rx (jW aN)) rx))) (cH 3 (aA (fI 6 "number" nd (eM rfl T.x66 'B') (λC fp s H=>b9) (λC fp s H=>(aB (fn:=fJ) T.x1 (i6.2 T B) hr (aS (MO hr.units rx rx aN) (aS (dL "Table" T.x76 rx) dW))))) (cH 6 (aC (aO (cK (aE cR (aE rx (aE (aB (fn:=qK) T.x13 (qI.2 T B) hr (aS rx (aS rx (aS (bS aG (aB (fn:=nH) T.x14 (nF.2 T B) hr (aS rx (aS (dL "Table" T.x73 rx) dW)))) dW)))) aV)))))))))))
def nK:M Fl:=no_index vA
def nL:ZI->Res D:=aR 7 [] 0 nK
def kU:(Dn λP w K mg base T b=>T.x17.Ok P w mg base 2 [0] [20,0,0] 0 (aR 3 [0] 0 b)):=⟨_,λT B=>T.x17.okN λhcd hr nd=>(aA (nD 0 "Table" aG T.x76 aN) (aA (nD 0 "Table" aG T.x72 (UB aG rfl rfl T.x63 rfl T.x66 'B')) (aA (nD 0 "Table" aG T.x74 (UC aG rfl rfl T.x63 rfl T.x66 'B' (bM aG (bM aG 'B' 'B') 'B'))) (aA (nD 0 "Table" aG T.x75 (bM aG (bS aG (rR (xs:=[ "row" ,"top" ]) aG aG rfl (bZ rx) (λC fp s H=>(tH rfl (dX (cW (i:=0) iA rfl (Or.inl rfl)) (dX (cW (i:=1) iA rfl (Or.inl rfl)) nZ)))) (rV (is:=[0,1]) aG (by intro i hi;simp![Ë,Û,or_false]at hi;rcases hi with rfl|rfl<;>exact⟨⋯,dE rfl,⋯,rfl⟩) rfl) (λC fp s H=>b9) (λC fp s H=>(bM aG (bS aG (iH aG fR rS rfl T.x63 lN rv)) (bS aG (cG aG rv)))))) (aB (fn:=sM) T.x7 (sL.2 T B) hr ra))) (aC (nD 0 "Table" aG T.x73 (bM aG (bS aG (gJ "room" (bZ rx) (λC fp s H=>b9) (λC fp s H=>aN))) (bS aG (cG aG rv)))))))))⟩
def gN:M Fl:=no_index kU
def kW:ZI->Res D:=aR 3 [0] 0 gN
def sR(T:Txt K mg)(B:t4 K mg base):T.x17.Ok P w mg base 2 [0] [20,0,0] 0 kW:=kU.2 T B
def sS:(Dn λP w K mg base T b=>T.x18.Ok P w mg base 2 [0] [20,0,0,0,0,0] 0 (aR 6 [0] 0 b)):=⟨_,λT B=>T.x18.okN λhcd hr nd=>(aA (aH 3 aG (fM aG (oH 0 "Table" T.x75) rx) nd) (aA (fI 4 "line" nd (bZ (oH 0 "Table" T.x75)) (λC fp s H=>b9) (λC fp s H=>(aB (fn:=uD) T.x8 (uB.2 T B) hr (aS rx (aS rx (aS rx (aS (oH 1 "Table" T.x76) dW))))))) (aA (wU 4 aG (aB (fn:=GY) T.x9 (GX.2 T B) hr (aS rx (aS rx (aS (oH 0 "Table" T.x76) dW)))) rx) (aA (nD 0 "Table" aG T.x73 (aB (fn:=uD) T.x8 (uB.2 T B) hr (aS (oH 0 "Table" T.x73) (aS rx (aS rx (aS (oH 0 "Table" T.x76) dW)))))) (cH 4 (aA (nD 0 "Table" aG T.x75 rx) (aA (nD 0 "Table" aG T.x76 (jW rx)) (aA (aH 5 aG (m8 6 (λF H σ=>(fM aG (dL "Table" T.x74 rx) rx))) nd) (aA (BE 0 6 "Table" aG T.x74 (m8 6 (λF H σ=>(fM aG (dL "Table" T.x72 rx) rx))) (λF H σ=>rx)) (aC (BE 0 6 "Table" aG T.x72 rx (λF H σ=>rx))))))))))))⟩
def mB:M Fl:=no_index sS
def mC:ZI->Res D:=aR 6 [0] 0 mB
def AF(T:Txt K mg)(B:t4 K mg base):T.x18.Ok P w mg base 2 [0] [20,0,0,0,0,0] 0 mC:=sS.2 T B
def MX:(Dq Txt.x19 5 [] [0,0,0,0,0] 0):=mq λT B=>λhcd hr nd=>(aA (aH 2 aG (aAM 5 aG ⟨T.n_Table,T.cl_Table⟩ T.mk_Table (sR T B) (hr.mono ⋯) (by rfl) T.q_Table T.x17.b ra 20) nd) (aA (aH 3 aG (m8 5 (λF H σ=>(aB (fn:=cA) T.x10 (j4.2 T B) hr ra))) nd) (aA (FE PassesOwn.leaving (bL aG (YT.or YD) R9 rx wO (bB _)) (aA (aH 4 aG (m8 5 (λF H σ=>(aB (fn:=l9) T.x12 (sQ.2 T B) hr (aS rx (aS (fM aG (dL "Table" T.x75 rx) rx) dW))))) nd) (aA (b8 (bL aG (JE.or IP) R8 rx wO (bB _)) (cH 2 (aC (aO (aB (fn:=nJ) T.x15 (u9.2 T B) hr ra)))) bD) (aA (bW (aAL 2 aG ⟨T.n_Table,T.cl_Table⟩ T.me_Table_swap (AF T B) (hr.mono ⋯) T.x18.b ra)) (aC (aH 3 aG (m8 5 (λF H σ=>(aB (fn:=cA) T.x10 (j4.2 T B) hr ra))) nd)))))) (cH 2 (aC (aO (aB (fn:=nL) T.x16 (vA.2 T B) hr ra)))))))
def DR:M Fl:=no_index MX
def v4:ZI->Res D:=aR 5 [] 0 DR
def DU:(Dq Txt.x20 1 [] [0,0,0] 0):=mq λT B=>λhcd hr nd=>(aC (aO rx))
def DW:M Fl:=no_index DU
def v5:ZI->Res D:=aR 3 [] 0 DW
def BN:(Dq Txt.x21 2 [] [0,0,0,0,0,0,0,0,0] 0):=mq λT B=>λhcd hr nd=>(aA (aH 2 aG rx nd) (aA (aH 3 aG (aB (fn:=v5) T.x20 (DU.2 T B) hr (aS rx (aS rx (aS (iR aG JA JP rx (gT aN) jJ) dW)))) nd) (aA (cX 4 5 nd (tX rfl T.x71 rx rx) (aC (cX 6 7 nd (gX rfl T.x59 rx) (aA (aH 8 aG rx nd) (aC (aH 3 aG (aB (fn:=v5) T.x20 (DU.2 T B) hr ra) nd)))))) (aC (aO rx)))))
def uE:M Fl:=no_index BN
def BO:ZI->Res D:=aR 9 [] 0 uE
def gY:(Dq Txt.x22 1 [] [0,0,0,0] 0):=mq λT B=>λhcd hr nd=>(aC (aO (cK (aE (bS aG (gJ "tank" (bZ rx) (λC fp s H=>b9) (λC fp s H=>rx))) rv))))
def j6:M Fl:=no_index gY
def gZ:ZI->Res D:=aR 4 [] 0 j6
def mD:(Dq Txt.x23 1 [] [0,0,0,0] 0):=mq λT B=>λhcd hr nd=>(aC (aO (cK (aE (bS aG (gJ "tank" (bZ rx) (λC fp s H=>b9) (λC fp s H=>rx))) rv))))
def mE:M Fl:=no_index mD
def mF:ZI->Res D:=aR 4 [] 0 mE
def uF:(Dq Txt.x24 3 [] [0,0,0,0,0] 0):=mq λT B=>λhcd hr nd=>(aA (aH 2 aG rx nd) (aA (aH 3 aG rx nd) (aA (aH 4 aG (aB (fn:=BO) T.x21 (BN.2 T B) hr ra) nd) (aC (aO (bS aG (cG aG (aE (aB (fn:=gZ) T.x22 (gY.2 T B) hr (aS rx (aS (oF rfl T.g_ALONG) ra))) (aE (aB (fn:=mF) T.x23 (mD.2 T B) hr (aS rx (aS (oF rfl T.g_ALONG) ra))) (aE (aB (fn:=gZ) T.x22 (gY.2 T B) hr (aS rx (aS (oF rfl T.g_ACROSS) ra))) (aE (aB (fn:=mF) T.x23 (mD.2 T B) hr (aS rx (aS (oF rfl T.g_ACROSS) ra))) (aE (aB (fn:=gZ) T.x22 (gY.2 T B) hr (aS rx (aS (oF rfl T.g_ABOVE) ra))) (aE (cK (aE (bS aG (gJ "tank" (bZ rx) (λC fp s H=>b9) (λC fp s H=>aN))) rv)) aV)))))))))))))
def uG:M Fl:=no_index uF
def kX:ZI->Res D:=aR 5 [] 0 uG
def qL:(Dq Txt.x25 1 [] [0] 0):=mq λT B=>λhcd hr nd=>(aC (aO (bS aG (gJ "tank" (bZ rx) (λC fp s H=>b9) (λC fp s H=>rx)))))
def qM:M Fl:=no_index qL
def i7:ZI->Res D:=aR 1 [] 0 qM
def oK:(Dq Txt.x26 6 [] [0,0] 0):=mq λT B=>λhcd hr nd=>(aC (aO (aB (fn:=v4) T.x19 (MX.2 T B) hr (aS (aB (fn:=kX) T.x24 (uF.2 T B) hr ra) (aS (aB (fn:=i7) T.x25 (qL.2 T B) hr ra) dW)))))
def kY:M Fl:=no_index oK
def iI:ZI->Res D:=aR 2 [] 0 kY
def GZ:(Dq Txt.x27 6 [] [0,0,0] 0):=mq λT B=>λhcd hr nd=>(aC (aO (aB (fn:=pR) T.x6 (pQ.2 T B) hr (aS (aB (fn:=kX) T.x24 (uF.2 T B) hr ra) (aS (aB (fn:=i7) T.x25 (qL.2 T B) hr ra) ra)))))
def yB:M Fl:=no_index GZ
def kZ:ZI->Res D:=aR 3 [] 0 yB
def k4:(Dq Txt.x28 1 [] [0] 0):=mq λT B=>λhcd hr nd=>(aA (b8 (jT (gH (JO .str rfl rfl T.x61 rfl T.x68 aE9 rx))) (aC (aO mQ)) bD) (aC (aO (wV (FM aG K3 LL K3 LL aN 'B' (oF rfl T.g_LONGEST_NAME)) (tU (iN aG (FP rfl) aFW rfl T.x58 aE8 (aE (bS aG (gJ "sign" (aFT rx) (λC fp s H=>b9) (λC fp s H=>(FM aG AZ SF AZ SF cR rx cR)))) aV)))))))
def oM:M Fl:=no_index k4
def fO:ZI->Res D:=aR 1 [] 0 oM
def yC:(Dq Txt.x29 1 [] [0,0,0,0,0] 0):=mq λT B=>λhcd hr nd=>(aA (aH 3 aG rx nd) (aA (aH 4 aG rx nd) (aC (aO (bM aG (iN aG rC CO rfl T.x57 B4 rv) (iN aG rC CO rfl T.x57 B4 rv))))))
def qN:M Fl:=no_index yC
def yD:ZI->Res D:=aR 5 [] 0 qN
def vB:(Dq Txt.x30 2 [1] [0,30] 0):=mq λT B=>λhcd hr nd=>(aA (b8 (jT (gH (aB (fn:=fO) T.x28 (k4.2 T B) hr ra))) 'r' bD) (aA (b8 (aF3 2 (λF H σ=>(aHD hr.units rx rx))) 'r' bD) (aA (b8 (bL aG pC pJ rx aN (bB _)) (aC (fX aG PySem.F.excBase_ValueError rfl T.n_NoWeight T.q_NoWeight T.e_NoWeight rfl rv)) bD) (aA (b8 (jT (gH (aB (fn:=fO) T.x28 (k4.2 T B) hr ra))) 'r' bD) (aA (b8 (jT (gH (aB (fn:=fO) T.x28 (k4.2 T B) hr ra))) 'r' bD) (aC (b8 (bL aG pC pJ rx aN (bB _)) (aC (fX aG PySem.F.excBase_ValueError rfl T.n_NoWeight T.q_NoWeight T.e_NoWeight rfl rv)) bD)))))))
def jL:M Fl:=no_index vB
def jM:ZI->Res D:=aR 2 [1] 0 jL
def jN:(Dq Txt.x31 1 [] [0,0,0,0,0,0,0] 0):=mq λT B=>λhcd hr nd=>(aA (aH 3 aG (cG aG aV) nd) (aA (aH 4 aG (iN aG (CS rfl) aF1 rfl T.x69 aF6 (aE (bS aG (gJ "box" (bZ rx) (λC fp s H=>b9) (λC fp s H=>rx))) aV)) nd) (aA (b8 (bL aG E2 FL 'B' rx (bB _)) (aC (bW (dG 3 aG rx))) bD) (aA (b8 (bL aG E2 FL rx rx (bB _)) (aC (bW (dG 3 aG rx))) bD) (aA (cX 5 6 nd (gX rfl T.x59 rx) (aA (aH 4 aG rx nd) (aC (b8 (bL aG E2 FL rx rx (bB _)) (aC (bW (dG 3 aG rx))) bD)))) (cH 3 (aC (aO rx))))))))
def fZ:M Fl:=no_index jN
def f7:ZI->Res D:=aR 7 [] 0 fZ
def G0:(Dq Txt.x32 1 [] [0,0,0] 0):=mq λT B=>λhcd hr nd=>(aC (aO (aAD rfl rfl T.x64 (bS aG (gJ "row" (bZ rx) (λC fp s H=>(vS (bL aG (aGS hr.units) aGT (iR aG JA JP rx jJ (gT aN)) rx (by with_unfolding_all rfl)))) (λC fp s H=>rx))) aN)))
def yE:M Fl:=no_index G0
def G1:ZI->Res D:=aR 3 [] 0 yE
def nM:(Dq Txt.x33 1 [] [0,0,0,0,0,0] 0):=mq λT B=>λhcd hr nd=>(aA (aH 1 aG (cG aG aV) nd) (aA (cX 2 3 nd (gX rfl T.x59 rx) (aC (cX 4 5 nd (gX rfl T.x59 rx) (aC (bW (dG 1 aG rx)))))) (cH 1 (aC (aO rx)))))
def i8:M Fl:=no_index nM
def i9:ZI->Res D:=aR 6 [] 0 i8
def nN:(Dq Txt.x34 2 [] [0,0,0,0,0,0,0] 0):=mq λT B=>λhcd hr nd=>(aA (aH 2 aG (cG aG aV) nd) (aA (aH 3 aG (aB (fn:=i9) T.x33 (nM.2 T B) hr ra) nd) (aA (cX 4 5 nd (gX rfl T.x59 rx) (aC (gW 6 nd (bZ (bS aG (iR aG rF vT rx (gT rx) jJ))) (aC (b8 (bL aG E2 FL (aB (fn:=G1) T.x32 (G0.2 T B) hr ra) (aB (fn:=yD) T.x29 (yC.2 T B) hr ra) (bB _)) (aC (bW (dG 2 aG rx))) bD))))) (cH 2 (aC (aO rx))))))
def jA:M Fl:=no_index nN
def jB:ZI->Res D:=aR 7 [] 0 jA
def G3:(Dq Txt.x35 3 [] [0,0,0,0,0] 0):=mq λT B=>λhcd hr nd=>(aA (aH 2 aG (cG aG aV) nd) (aA (cX 3 4 nd (gX rfl T.x59 rx) (aC (bW (tR 2 aG PySem.F.slot_list_extend PySem.F.type_list_extend rW iV (aE (aB (fn:=f7) T.x31 (jN.2 T B) hr ra) aV))))) (aA (bW (tR 2 aG PySem.F.slot_list_extend PySem.F.type_list_extend rW iV (aE (aB (fn:=jB) T.x34 (nN.2 T B) hr ra) aV))) (cH 2 (aC (aO rx))))))
def yF:M Fl:=no_index G3
def sT:ZI->Res D:=aR 5 [] 0 yF
def nO:(Dq Txt.x36 1 [] [0,0,0,0] 0):=mq λT B=>λhcd hr nd=>(aA (cX 2 3 nd (gX rfl T.x59 rx) (aC (b8 (bL aG (eC hr.units) gB rx rx (bB _)) (aC (aO (bS aG (iR aG rF vT rx (gT rx) jJ)))) bD))) (aC (aO (bS aG (cG aG aV)))))
def jC:M Fl:=no_index nO
def nQ:ZI->Res D:=aR 4 [] 0 jC
def k6:(Dq Txt.x37 2 [] [0,0,0,0,0] 0):=mq λT B=>λhcd hr nd=>(aA (aH 3 aG (aB (fn:=nQ) T.x36 (nO.2 T B) hr ra) nd) (aA (fI 4 "box" nd (aGX rfl T.x67 rx) (λC fp s H=>b9) (λC fp s H=>rx)) (aA (bW (tR 4 aG PySem.F.slot_list_extend PySem.F.type_list_extend rW iV (aE (bS aG (gJ "box" (bZ rx) (λC fp s H=>(vS (bL aG (mW hr.units) u0 rx rx (bB _)))) (λC fp s H=>rx))) aV))) (cH 4 (aC (aO rx))))))
def gO:M Fl:=no_index k6
def k7:ZI->Res D:=aR 5 [] 0 gO
def qO:(Dq Txt.x38 3 [] [0,0,0,0,0] 0):=mq λT B=>λhcd hr nd=>(aA (aH 2 aG (cG aG aV) nd) (aA (cX 3 4 nd (gX rfl T.x59 rx) (aC (bW (tR 2 aG PySem.F.slot_list_extend PySem.F.type_list_extend rW iV (aE (aB (fn:=k7) T.x37 (k6.2 T B) hr ra) aV))))) (aA (bW (tR 2 aG PySem.F.slot_list_extend PySem.F.type_list_extend rW iV (aE (bS aG (rR (xs:=[ "box" ,"s" ]) aG aG rfl (bZ rx) (λC fp s H=>(tH rfl (dX (cW (i:=0) pN rfl (Or.inl rfl)) (dX (cW (i:=1) pN rfl (Or.inl rfl)) nZ)))) (rV (is:=[0,1]) aG (by intro i hi;simp![Ë,Û,or_false]at hi;rcases hi with rfl|rfl<;>exact⟨⋯,dE rfl,⋯,rfl⟩) rfl) (λC fp s H=>b9) (λC fp s H=>rx))) aV))) (cH 2 (aC (aO rx))))))
def qP:M Fl:=no_index qO
def qQ:ZI->Res D:=aR 5 [] 0 qP
def yG:(Dq Txt.x39 4 [] [0,0] 0):=mq λT B=>λhcd hr nd=>(aC (aO (bS aG (rR (xs:=[ "step" ,"box" ]) aG aG rfl (bZ (aB (fn:=qQ) T.x38 (qO.2 T B) hr ra)) (λC fp s H=>(tH rfl (dX (cW (i:=0) pO rfl (Or.inl rfl)) (dX (cW (i:=1) pO rfl (Or.inl rfl)) nZ)))) (rV (is:=[0,1]) aG (by intro i hi;simp![Ë,Û,or_false]at hi;rcases hi with rfl|rfl<;>exact⟨⋯,dE rfl,⋯,rfl⟩) rfl) (λC fp s H=>b9) (λC fp s H=>rx)))))
def qR:M Fl:=no_index yG
def yH:ZI->Res D:=aR 2 [] 0 qR
def yI:(Dq Txt.x40 5 [] [0,0] 0):=mq λT B=>λhcd hr nd=>(aC (aO (bS aG (gJ "step" (bZ (aB (fn:=yH) T.x39 (yG.2 T B) hr ra)) (λC fp s H=>(vS (bL aG (eC hr.units) gB rx cR (bB _)))) (λC fp s H=>rx)))))
def qS:M Fl:=no_index yI
def qT:ZI->Res D:=aR 2 [] 0 qS
def yJ:(Dq Txt.x41 1 [] [0] 2):=mq λT B=>λhcd hr nd=>(aC (aO (OV (xs:=[ "boxes" ]) 2 aG aG rfl (bZ rx) (λC fp s H=>(cW (i:=0) GU rfl (Or.inl rfl))) (m7 aG ⋯ (dE rfl) ⋯ rfl) (λC fp s H F1 H1 σ1=>(iH aG fR rS rfl T.x63 lN rv)))))
def yK:M Fl:=no_index yJ
def yL:ZI->Res D:=aR 1 [] 2 yK
def BP:(Dq Txt.x42 2 [] [0,0,0,0] 2):=mq λT B=>λhcd hr nd=>(aA (aH 3 aG (aB (fn:=yL) T.x41 (yJ.2 T B) hr ra) nd) (aA (b8 (bL aG (eC hr.units) gB rx cR (bB _)) (aC (bW (TK 3 4 PySem.F.slot_list_pop PySem.F.type_list_pop aE7 aAH (λF H σ=>rx)))) (aC (bW (aAF 3 4 PySem.F.slot_list_append PySem.F.type_list_append tM p9 (λF H σ=>rx) (λF H σ=>rv))))) (aC (aO (C1 3 aG)))))
def k8:M Fl:=no_index BP
def oN:ZI->Res D:=aR 4 [] 2 k8
def yM:(Dq Txt.x43 1 [] [0,0,0,0] 30):=mq λT B=>λhcd hr nd=>(aA (aH 1 aG (C7 aG) nd) (aA (gW 2 nd (bZ rx) (aC (gW 3 nd (bZ rx) (aC (sG 1 hr.units mQ rx))))) (aC (aO (C1 1 aG)))))
def qU:M Fl:=no_index yM
def yN:ZI->Res D:=aR 4 [] 30 qU
def pT:(Dq Txt.x44 3 [] [0,0,0,0,0,0] 0):=⟨_,λT B=>T.x44.okM [0,0,0,30,0,0] λhcd hr nd=>(aA (aH 3 aG (aB (fn:=yN) T.x43 (yM.2 T B) hr ra) nd) (aC (cX 4 5 nd (bZ rx) (aA (b8 (jT (SA aG K3 LL pC pJ aN rx 'B')) (aC (fX aG PySem.F.excBase_ValueError rfl T.n_NoStack T.q_NoStack T.e_NoStack rfl rv)) bD) (aA (bW (aB (fn:=jM) T.x30 (vB.2 T B) hr (aS rx (aX 3 dW)))) (aC (sG 3 hr.units mQ rx)))))))⟩
def pU:M Fl:=no_index pT
def g5:ZI->Res D:=aR 6 [] 0 pU
def yO:(Dq Txt.x45 7 [] [0,0,0] 0):=mq λT B=>λhcd hr nd=>(aA (aH 2 aG (aB (fn:=sT) T.x35 (G3.2 T B) hr ra) nd) (aA (b8 (aHE rx) (aC (aO rx)) bD) (aC (aO (aB (fn:=iI) T.x26 (oK.2 T B) hr ra)))))
def jD:M Fl:=no_index yO
def mG:ZI->Res D:=aR 3 [] 0 jD
def yP:(Dq Txt.x46 8 [] [0,0,0,0,0,0,0,0] 0):=mq λT B=>λhcd hr nd=>(aA (b8 (jT (gH (aB (fn:=fO) T.x28 (k4.2 T B) hr ra))) 'r' bD) (aA (bW (aB (fn:=g5) T.x44 (pT.2 T B) hr ra)) (aA (aH 3 aG (bS aG (aB (fn:=yL) T.x41 (yJ.2 T B) hr ra)) nd) (aA (aH 4 aG (cG aG aV) nd) (aA (cX 5 6 nd (bZ (aB (fn:=qQ) T.x38 (qO.2 T B) hr ra)) (aA (aH 3 aG (bS aG (aB (fn:=oN) T.x42 (BP.2 T B) hr ra)) nd) (aA (aH 7 aG (aB (fn:=mG) T.x45 (yO.2 T B) hr ra) nd) (aA (b8 (bL aG (mW hr.units) u0 rx cR (bB _)) (aC (aO (cK (aE cR (aE (Y4 4 rfl T.x62) rv))))) bD) (aC (bW (dG 4 aG rx))))))) (cH 4 (aC (aO (cK (aE cR (aE rx (aE rx (aE (aB (fn:=qT) T.x40 (yI.2 T B) hr ra) aV)))))))))))))
def yQ:M Fl:=no_index yP
def jE:ZI->Res D:=aR 8 [] 0 yQ
def aM:(Dq Txt.x47 1 [0] [1,0,0,0] 0):=mq λT B=>λhcd hr nd=>(aA (aH 2 aG (jV 0 aN) nd) (aA (wU 0 aG rx aN) (aA (aH 3 aG rx nd) (aA (b8 (bL aG E2 FL (c6 aG rfl T.x62 (jV 0 aN)) aN (bB _)) (aC (aH 3 aG (bM aG (fM aG (jV 0 aN) (RW aG rx (c6 aG rfl T.x62 (jV 0 aN)))) (fH aG (vR aG rx (c6 aG rfl T.x62 (jV 0 aN))) aN)) nd)) bD) (aC (aO rx))))))
def yR:M Fl:=no_index aM
def aL:ZI->Res D:=aR 4 [0] 0 yR
def sU:(Dq Txt.x48 2 [0] [1,0,0,0] 0):=mq λT B=>λhcd hr nd=>(aA (aH 3 aG (cK (aE rx (aE (iQ aG (aB (fn:=aL) T.x47 'v' hr (aX 0 ra)) aN) (aE (iQ aG (aB (fn:=aL) T.x47 'v' hr (aX 0 ra)) aN) (aE (iQ aG (aB (fn:=aL) T.x47 'v' hr (aX 0 ra)) aN) aV))))) nd) (aC (aO (bM aG rx (cK (aE (fH aG rx (bM aG aN (aB (fn:=aL) T.x47 'v' hr (aX 0 ra)))) aV))))))
def yS:M Fl:=no_index sU
def k9:ZI->Res D:=aR 4 [0] 0 yS
def G5:(Dq Txt.x49 3 [0] [1,0,0,0,0,0,0,0,0,0,0,0] 0):=mq λT B=>λhcd hr nd=>(aA (aH 2 aG (cK (aE (fH aG rx (bM aG aN (aB (fn:=aL) T.x47 'v' hr (aX 0 ra)))) (aE (iQ aG (aB (fn:=aL) T.x47 'v' hr (aX 0 ra)) aN) (aE (iQ aG (aB (fn:=aL) T.x47 'v' hr (aX 0 ra)) aN) (aE (aB (fn:=aL) T.x47 'v' hr (aX 0 ra)) aV))))) nd) (aA (aH 3 aG (aB (fn:=aL) T.x47 'v' hr (aX 0 ra)) nd) (aA (aH 4 aG (aB (fn:=aL) T.x47 'v' hr (aX 0 ra)) nd) (aA (aH 5 aG (fH aG rx (bM aG aN (aB (fn:=aL) T.x47 'v' hr (aX 0 ra)))) nd) (aA (aH 6 aG (cK (aE (iQ aG rx (aB (fn:=aL) T.x47 'v' hr (aX 0 ra))) (aE rx (aE rx (aE (bM aG rx (aB (fn:=aL) T.x47 'v' hr (aX 0 ra))) (aE (bM aG aN (aB (fn:=aL) T.x47 'v' hr (aX 0 ra))) rv)))))) nd) (aA (aH 7 aG (cG aG aV) nd) (aA (gW 8 nd (eM rfl T.x66 (bM aG aN (aB (fn:=aL) T.x47 'v' hr (aX 0 ra)))) (aA (aH 9 aG (cK (aE rx (aE (iQ aG (aB (fn:=aL) T.x47 'v' hr (aX 0 ra)) aN) (aE (iQ aG (aB (fn:=aL) T.x47 'v' hr (aX 0 ra)) aN) (aE (aB (fn:=aL) T.x47 'v' hr (aX 0 ra)) aV))))) nd) (aC (bW (dG 7 aG (bM aG rx (cK (aE (bM aG aN (aB (fn:=aL) T.x47 'v' hr (aX 0 ra))) (aE (bM aG aN (aB (fn:=aL) T.x47 'v' hr (aX 0 ra))) (aE (fH aG rx (bM aG aN (aB (fn:=aL) T.x47 'v' hr (aX 0 ra)))) aV)))))))))) (aA (fI 10 "_law_k" nd (eM rfl T.x66 (aB (fn:=aL) T.x47 'v' hr (aX 0 ra))) (λC fp s H=>b9) (λC fp s H=>(aB (fn:=k9) T.x48 (sU.2 T B) hr (aX 1 ra)))) (aA (aH 11 aG (cG aG aV) nd) (aA (b8 (bL aG (eC hr.units) gB (aB (fn:=aL) T.x47 'v' hr (aX 0 ra)) aN (bB _)) (aC (bW (dG 11 aG (cK (aE cR (aE (fM aG (bS aG (cG aG rv)) (aB (fn:=aL) T.x47 'v' hr (aX 0 ra))) (aE (bM aG aN (aB (fn:=aL) T.x47 'v' hr (aX 0 ra))) aV))))))) bD) (cH 7 (cH 10 (cH 11 (aC (aO rx)))))))))))))))
def yT:M Fl:=no_index G5
def G6:ZI->Res D:=aR 12 [0] 0 yT
def DX:(Dq Txt.x50 2 [0] [1,0,0,0,0] 0):=mq λT B=>λhcd hr nd=>(aA (aH 3 aG (cK (aE (fM aG cR (aB (fn:=aL) T.x47 'v' hr (aX 0 ra))) (aE (fM aG cR (aB (fn:=aL) T.x47 'v' hr (aX 0 ra))) aV))) nd) (aA (aH 4 aG (fH aG rx (fM aG (bS aG (cG aG (aE (aB (fn:=aL) T.x47 'v' hr (aX 0 ra)) (aE (bM aG aN (aB (fn:=aL) T.x47 'v' hr (aX 0 ra))) aV)))) (iH aG N8 aFR rfl T.x60 aFA (aE (gG aG pC pJ (aB (fn:=aL) T.x47 'v' hr (aX 0 ra)) aN (bB _)) aV)))) nd) (aC (aO (bM aG (bM aG (cK (aE rx (aE (fH aG rx (bM aG aN (aB (fn:=aL) T.x47 'v' hr (aX 0 ra)))) aV))) rx) rx)))))
def DY:M Fl:=no_index DX
def DZ:ZI->Res D:=aR 5 [0] 0 DY
def BQ:(Dq Txt.x51 3 [0] [1,0,0,0,0,0,0,0,0] 0):=mq λT B=>λhcd hr nd=>(aA (aH 3 aG rx nd) (aA (fI 4 "_law_k" nd (eM rfl T.x66 aN) (λC fp s H=>b9) (λC fp s H=>(fH aG (aB (fn:=aL) T.x47 'v' hr (aX 1 ra)) (aB (fn:=aL) T.x47 'v' hr (aX 1 ra))))) (aA (aH 5 aG (cK (aE (iQ aG rx (jV 4 aN)) (aE (bM aG rx (jV 4 aN)) (aE (iQ aG rx (jV 4 aN)) (aE (bM aG rx (jV 4 aN)) (aE (bM aG rx (jV 4 aN)) aV)))))) nd) (aA (aH 5 aG (bM aG rx (cK (aE (bM aG rx (fH aG (fH aG rx (aB (fn:=aL) T.x47 'v' hr (aX 0 ra))) (aB (fn:=aL) T.x47 'v' hr (aX 0 ra)))) aV))) nd) (aA (aH 6 aG (cG aG aV) nd) (aA (gW 7 nd (bZ rx) (aC (bW (dG 6 aG (bM aG (iR aG JA JP rx jJ (gT aN)) (cK (aE (bM aG rx (fH aG (fH aG rx (aB (fn:=aL) T.x47 'v' hr (aX 0 ra))) (aB (fn:=aL) T.x47 'v' hr (aX 0 ra)))) aV))))))) (aA (aH 8 aG (aB (fn:=aL) T.x47 'v' hr (aX 0 ra)) nd) (aA (b8 (bL aG (eC hr.units) gB rx aN (bB _)) (cH 6 (aC (aH 6 aG (JK aG (bS aG (cG aG (aE (aB (fn:=k9) T.x48 (sU.2 T B) hr (aX 0 ra)) aV))) rx) nd))) bD) (aA (b8 (bL aG (eC hr.units) gB rx aN (bB _)) (cH 6 (aC (aH 6 aG (JK aG rx (bS aG (cG aG (aE (aB (fn:=k9) T.x48 (sU.2 T B) hr (aX 0 ra)) aV)))) nd))) bD) (cH 6 (aC (aO rx))))))))))))
def uH:M Fl:=no_index BQ
def BR:ZI->Res D:=aR 9 [0] 0 uH
def D0:(Dq Txt.x52 1 [] [0,0,0] 0):=mq λT B=>λhcd hr nd=>(aA (aH 1 aG rx nd) (aA (gW 2 nd (bZ rx) (aC (aH 1 aG rx nd))) (aC (aO rx))))
def D1:M Fl:=no_index D0
def D2:ZI->Res D:=aR 3 [] 0 D1
def nR:(Dq Txt.x53 2 [] [0,0,0,0] 0):=mq λT B=>λhcd hr nd=>(aA (aH 2 aG (aB (fn:=D2) T.x52 (D0.2 T B) hr ra) nd) (aA (aH 3 aG (aB (fn:=D2) T.x52 (D0.2 T B) hr ra) nd) (aC (aO (gG aG K3 LL rx rx (bB _))))))
def nS:M Fl:=no_index nR
def nT:ZI->Res D:=aR 4 [] 0 nS
def pV:(Dq Txt.x54 3 [] [0,0,0] 0):=mq λT B=>λhcd hr nd=>(aA (b8 (lW (uW (bL aG (mW hr.units) u0 rx rx (bB _)) (uW (bL aG (mW hr.units) u0 rx rx (bB _)) (tW (bL aG (mW hr.units) u0 'B' 'B' (bB _)))))) (aC (aO mQ)) bD) (aA (gW 2 nd (eM rfl T.x66 'B') (aC (b8 (lW (uW (bL aG (mW hr.units) u0 rx rx (bB _)) (tW (jT (gH (aB (fn:=nT) T.x53 (nR.2 T B) hr ra)))))) (aC (aO mQ)) bD))) (aC (aO mQ))))
def j7:M Fl:=no_index pV
def pW:ZI->Res D:=aR 3 [] 0 j7
def BS:(Dq Txt.x55 4 [] [0,0] 0):=mq λT B=>λhcd hr nd=>(aA (b8 (bL aG (eC hr.units) gB rx cR (bB _)) (aC (aO (wV (gG aG (eC hr.units) gB rx cR (bB _)) (tU (aB (fn:=pW) T.x54 (pV.2 T B) hr ra))))) bD) (aA (b8 (lW (uW (bL aG (mW hr.units) u0 rx cR (bB _)) (tW (bL aG B2 aF2 rx rx (by with_unfolding_all rfl))))) (aC (aO mQ)) bD) (aA (b8 (bL aG (eC hr.units) gB rx cR (bB _)) (aC (aO (gG aG (eC hr.units) gB rx rx (bB _)))) bD) (aC (aO (γ (gG aG (eC hr.units) gB rx cR (bB _)) (tU (gG aG aI7 aJU rx rx (bB _)))))))))
def eO:M Fl:=no_index BS
def uI:ZI->Res D:=aR 2 [] 0 eO
def ϯ:(Dq Txt.x56 9 [] [0,0,0,0,0,0,0,0,0,0,0,0,0,0,0,0] 0):=mq λT B=>λhcd hr nd=>(aA (aH 1 aG (cG aG (aE (bS aG (iR aG rF vT rx jJ (gT aN))) rv)) nd) (aA (aH 2 aG (fM aG (bS aG (cG aG (aE aN (aE aN (aE (aFL aG aN aN) aV))))) (aB (fn:=aL) T.x47 'v' hr (aX 1 ra))) nd) (aA (aH 3 aG (aB (fn:=G6) T.x49 (G5.2 T B) hr (aX 1 ra)) nd) (aA (zZ 4 (xs:=[ "_law_stack" ]) 16 17 aG (λF H σ=>aG) (λF H σ=>aG) rfl nd (λF H σ=>(bZ rx)) (λC fp s H=>(cW (i:=0) VG rfl (Or.inl rfl))) (λF H σ=>(m7 aG ⋯ (dE rfl) ⋯ rfl)) (λC fp s H F1 H1 σ1=>(cG aG aV))) (aA (aH 5 aG (aB (fn:=aL) T.x47 'v' hr (aX 1 ra)) nd) (aA (gW 6 nd (eM rfl T.x66 rx) (aC (bW (aAW 4 [1] PySem.F.slot_list_append PySem.F.type_list_append tM p9 (aB (fn:=aL) T.x47 'v' hr (aX 1 (aS (m8 16 (λF H σ=>'B')) dW))) (λg F H σ=>(aB (fn:=DZ) T.x50 (DX.2 T B) hr (aX 1 ra))))))) (aA (aH 7 aG (cG aG aV) nd) (aA (gW 8 nd (eM rfl T.x66 (aB (fn:=aL) T.x47 'v' hr (aX 1 ra))) (aC (bW (dG 7 aG (cK (aE (aB (fn:=DZ) T.x50 (DX.2 T B) hr (aX 1 ra)) (aE (aB (fn:=aL) T.x47 'v' hr (aX 1 (aS (m8 16 (λF H σ=>'B')) dW))) aV))))))) (cH 7 (aA (aH 9 aG (cK (aE (fM aG cR (aB (fn:=aL) T.x47 'v' hr (aX 1 ra))) rv)) nd) (aA (aH 10 aG (aB (fn:=BR) T.x51 (BQ.2 T B) hr (aX 1 ra)) nd) (cH 4 (aA (aH 11 aG (aB (fn:=jE) T.x46 (yP.2 T B) hr (aS rx (aS (bS aG (gJ "_law_stack" (bZ rx) (λC fp s H=>b9) (λC fp s H=>(bS aG (iH aG fR rS rfl T.x63 lN rv))))) ra))) nd) (aA (aH 12 aG (aB (fn:=jE) T.x46 (yP.2 T B) hr (aS rx (aS (bS aG (gJ "_law_stack" (bZ rx) (λC fp s H=>b9) (λC fp s H=>(bS aG (iH aG fR rS rfl T.x63 lN rv))))) ra))) nd) (aA (b8 (lW (uW (jT (gH (JO .tuple rfl rfl T.x61 rfl T.x70 E6 rx))) (uW (jT (gH (JO .tuple rfl rfl T.x61 rfl T.x70 E6 rx))) (tW (jT (gH (aB (fn:=uI) T.x55 (BS.2 T B) hr ra))))))) (aC (aO mQ)) bD) (aA (aH 13 aG (aB (fn:=iI) T.x26 (oK.2 T B) hr ra) nd) (aA (b8 (bL aG (eC hr.units) gB rx cR (bB _)) (aC (aO (gG aG (eC hr.units) gB rx cR (bB _)))) bD) (aA (aH 14 aG (bS aG (iH aG fR rS rfl T.x63 lN rv)) nd) (aA (b8 (bL aG (eC hr.units) gB rx aN (bB _)) (aC (aH 14 aG (bM aG (bS aG (cG aG rv)) rx) nd)) bD) (aA (b8 (bL aG (eC hr.units) gB rx aN (bB _)) (aC (aH 14 aG (bM aG rx (bS aG (cG aG rv))) nd)) bD) (aA (aH 15 aG (aB (fn:=iI) T.x26 (oK.2 T B) hr ra) nd) (aC (aO (wV (gG aG (JE.or IP) R8 (aB (fn:=kZ) T.x27 (GZ.2 T B) hr ra) mQ (bB _)) (wV (gG aG (eC hr.units) gB rx cR (bB _)) (tU (aB (fn:=nT) T.x53 (nR.2 T B) hr ra)))))))))))))))))))))))))))
def VJ:M Fl:=no_index ϯ
def G7:ZI->Res D:=aR 16 [] 0 VJ
def aHI(T:Txt K mg)(B:t4 K mg base):T.x56.Ok P w mg base 9 [] [0,0,0,0,0,0,0,0,0,0,0,0,0,0,0,0] 0 G7:=ϯ.2 T B
end
end Toy
open L2 in
seal OF j9 CN bQ dC aZ cP fU OE JF m5 eK jU mR dP vJ hU vM xC JG RT RU FI dB pH RJ FC RY RZ rQ ţ ŭ uX wQ eZ bO aY aR Ħ jX
open PySem L2
local macro_rules| `(tactic|dsimp? [$as,*])=>`(tactic|simp![aPG,aNP,aNQ,aNR,aKE,aNO,aNS,aNT,aNU,aJ9,aKA,aNJ,aNL,aNK,aNM,CY,aGQ,aKC,aKD,aNN,μ,aJ2,aGC,k_set,k_fill,aGD,aGE,aJ3,ν,aGF,aGG,aGH,aGI,aGJ,aGK,aGL,aGM,aGN,aGO,Z7,Z8,eD,aW,cL,fF,Nat.reduceAdd,Nat.reduceLT,Nat.reduceLeDiff,↓reduceIte,$as,*])
local macro_rules| `(tactic|ac_nf)=>`(tactic|first|exact aJJ ∅ ∅|exact aJK ∅ ∅)
namespace Sx
abbrev jO:=Nat->Int
def sumN:Nat->(Nat->Int)->Int
 |0,_=>0
 |n+1,f=>sumN n f+f n
def sumN_congr:∀{n:Nat}{f g:Nat->Int},(∀i,i<n->f i=g i)->sumN n f=sumN n g
 |0,_,_,_=>rfl
 |n+1,f,g,h=>by
  rw[sumN,sumN,sumN_congr (n:=n) λi hi=>h i 'k',h n (by exact î _)]
def sumN_add:∀{n:Nat}{f g:Nat->Int},sumN n (λi=>f i+g i)=sumN n f+sumN n g
 |0,_,_=>rfl
 |n+1,f,g=>by
  rw[sumN,sumN,sumN,sumN_add];lia
def sumN_mul:∀{n:Nat}{a:Int}{f:Nat->Int},sumN n (λi=>a*f i)=a*sumN n f
 |0,a,_=>by simp[sumN]
 |n+1,a,f=>by
  rw[sumN,sumN,sumN_mul,Int.mul_add]
def cT:∀{n:Nat}{f:Nat->Int},(∀i,i<n->f i=0)->sumN n f=0
 |0,_,_=>rfl
 |n+1,f,h=>by
  rw[sumN,cT (n:=n) λi hi=>h i 'k',h n (by exact î _)];rfl
def bR :∀{n:Nat}{f:Nat->Int},k<n->(∀i,i<n->i≠k->f i=0)->sumN n f=f k
 |0,_,hk,_=>by grind
 |n+1,f,hk,h=>by
  rw[sumN];by_cases e:k=n
  .subst e
   rw[cT λi hi=>h i 'k' (by exact Í ‹_›)];lia
  .rw[bR (n:=n) ∅ λi hi hne=>h i 'k' hne,h n (by exact î _) (λz=>e z.symm)]
   lia
def yU(hkl:k≠l):∀{n:Nat}{f:Nat->Int},k<n->l<n->(∀i,i<n->i≠k->i≠l->f i=0)->sumN n f=f k+f l
 |0,_,hk,_,_=>by grind
 |n+1,f,hk,hl,h=>by
  rw[sumN];by_cases e:k=n
  .subst e
   rw[bR (k:=l) ∅ λi hi hne=>h i 'k' (by exact Í ‹_›) hne];lia
  .by_cases e2:l=n
   .subst e2
    rw[bR (k:=k) ∅ λi hi hne=>h i 'k' hne (by exact Í ‹_›)]
   .rw[yU hkl (n:=n) ∅ ∅ λi hi h1 h2=>h i 'k' h1 h2,h n (by exact î _) (λz=>e z.symm) (λz=>e2 z.symm)]
    lia
def oO:∀{n m:Nat}{f:Nat->Nat->Int},sumN n (λi=>sumN m (f i))=sumN m (λj=>sumN n (λi=>f i j))
 |0,m,f=>(cT λ_ _=>rfl).symm
 |n+1,m,f=>by
  rw[sumN,oO (n:=n),<- sumN_add];rfl
def č(i:Nat):Int:=if i % 2=0 then 1 else -1
def VL(i:Nat):č (i+1)=-č i:=by
 unfold č
 grind
def skip(i r:Nat):Nat:=if r<i then r else r+1
def eX(M:Nat->jO)(i:Nat):Nat->jO:=λr c=>M (skip i r) (c+1)
def cZ:Nat->(Nat->jO)->Int
 |0,_=>1
 |n+1,M=>sumN (n+1) λi=>č i*M i 0*cZ n (eX M i)
def lB:∀{n:Nat}{M M':Nat->jO},(∀r c,r<n->c<n->M r c=M' r c)->cZ n M=cZ n M'
 |0,_,_,_=>rfl
 |n+1,M,M',h=>by
  rw[cZ,cZ];refine sumN_congr λi hi=>?_;rw[h i 0 hi (by exact Ċ _),lB (n:=n) (M:=eX M i) (M':=eX M' i) λr c hr hc=>?_];unfold eX;refine h _ _ ?_ 'k';unfold skip;split<;>lia
def bA(M:Nat->jO)(k:Nat)(w:jO):Nat->jO:=λr=>if r=k then w else M r
def aJ{M:Nat->jO}:bA M k w k=w:=Â rfl
def aF{M:Nat->jO}(h:r≠k):bA M k w r=M r:=Ã h
def BV{M:Nat->jO}:bA (bA M k u) k w=bA M k w:=by
 funext r;unfold bA;split<;>rfl
def eA{M:Nat->jO}(h:k≠l):bA (bA M k u) l w=bA (bA M l w) k u:=by
 funext r;unfold bA
 grind
def g8{M:Nat->jO}:bA M k (M k)=M:=by
 funext r;unfold bA
 grind
def VM(i k:Nat):Nat:=if k<i then k else k-1
def mH{M:Nat->jO}(h:i≠k):eX (bA M k w) i=bA (eX M i) (VM i k) (λc=>w (c+1)):=by
 funext r c;unfold eX bA skip VM;by_cases h1:r<i
 .rw[Â h1]
  by_cases h2:k<i
  .rw[Â h2]
   by_cases h3:r=k
   all_goals simp_all
  .rw[Ã h2,Ã ∅,Ã ∅]
   simp![h1,if_true]
 .rw[Ã h1]
  by_cases h2:k<i
  .rw[Â h2,Ã ∅,Ã ∅]
   simp![h1,if_false]
  .rw[Ã h2]
   by_cases h3:r+1=k
   .rw[Â h3,Â ∅]
   .rw[Ã h3,Ã ∅]
    simp![h1,if_false]
def mJ{M:Nat->jO}:eX (bA M k w) k=eX M k:=by
 funext r c;unfold eX bA skip
 grind
def sV:∀{n:Nat}{M:Nat->jO}{k:Nat}{u v:jO}{a b:Int},k<n->cZ n (bA M k λc=>a*u c+b*v c)=a*cZ n (bA M k u)+b*cZ n (bA M k v)
 |0,_,_,_,_,_,_,h=>by grind
 |n+1,M,k,u,v,a,b,h=>by
  rw[cZ,cZ,cZ,<- sumN_mul,<- sumN_mul,<- sumN_add];refine sumN_congr λi hi=>?_;by_cases e:i=k
  .subst e
   rw[aJ,aJ,aJ,mJ,mJ,mJ]
   grind
  .rw[aF e,aF e,aF e,mH e,mH e,mH e]
   have hd:VM i k<n:=by unfold VM;split<;>lia
   have:=sV (n:=n) (M:=eX M i) (k:=VM i k) (u:=λc=>u (c+1)) (v:=λc=>v (c+1)) (a:=a) (b:=b) hd;rw[this]
   grind
def v6:∀{n:Nat}{M:Nat->jO}{k:Nat},k+1<n->(∀c,M k c=M (k+1) c)->cZ n M=0
 |0,_,_,h,_=>by grind
 |n+1,M,k,h,he=>by
  rw[cZ,yU (k:=k) (l:=k+1) ∅ 'a' 's' λi hi h1 h2=>?_]
  .have em:eX M k=eX M (k+1):=by
    funext r c;unfold eX skip;by_cases h1:r<k
    .grind
    .grind
   rw[em,he 0,VL]
   grind
  .have hz:cZ n (eX M i)=0:=by
    by_cases hk:k+1<i
    .refine v6 (n:=n) (k:=k) ∅ λc=>?_
     unfold eX skip
     grind
    .refine v6 (n:=n) (k:=k-1) ∅ λc=>?_
     unfold eX skip
     grind
   rw[hz];lia
def oP{M:Nat->jO}(h:k<n):cZ n (bA M k λc=>u c+v c)=cZ n (bA M k u)+cZ n (bA M k v):=by
 have:=sV (M:=M) (u:=u) (v:=v) (a:=1) (b:=1) h
 grind
def PX{M:Nat->jO}(h:k+1<n)(u v:jO):cZ n (bA (bA M k u) (k+1) v)=-cZ n (bA (bA M k v) (k+1) u):=by
 have z:∀w,cZ n (bA (bA M k w) (k+1) w)=0:=λw=>v6 h λc=>by rw[aF ∅,aJ,aJ]
 have h1:=z λc=>u c+v c;rw[oP h,eA ∅,oP 'a',eA (u:=λc=>u c+v c) ∅,oP 'a']at h1;have zu:=z u;have zv:=z v;rw[eA ∅]at zu zv;have e1:cZ n (bA (bA M k u) (k+1) v)=cZ n (bA (bA M (k+1) v) k u):=by rw[eA ∅]
 have e2:cZ n (bA (bA M k v) (k+1) u)=cZ n (bA (bA M (k+1) u) k v):=by rw[eA ∅]
 rw[e1,e2];lia
def KJ:∀(d:Nat){n:Nat}{M:Nat->jO}{i j:Nat},j=i+d+1->j<n->(∀c,M i c=M j c)->cZ n M=0
 |0,n,M,i,j,e,h,he=>by
  subst e;exact v6 (k:=i) 's' he
 |d+1,n,M,i,j,e,h,he=>by
  -- Å j-1 and j change places
  have hj:j-1+1=j:=by lia
  have e1:M=bA (bA M (j-1) (M (j-1))) (j-1+1) (M j):=by
   rw[g8,hj,g8]
  rw[e1,PX ∅];have:=KJ d (n:=n) (M:=bA (bA M (j-1) (M j)) (j-1+1) (M (j-1))) (i:=i) (j:=j-1) ∅ ∅ λc=>by
   rw[aF ∅,aF ∅,aF ∅,aJ];exact he c
  rw[this];rfl
def v7{n:Nat}{M:Nat->jO}{i j:Nat}(hi:i<n)(hj:j<n)(hne:i≠j)(he:∀c,M i c=M j c):cZ n M=0:=by
 by_cases h:i<j
 .exact KJ (j-i-1) ∅ hj he
 .exact KJ (i-j-1) (i:=j) (j:=i) ∅ hi λc=>(he c).symm
def G8{M:Nat->jO}(hi:i<n)(hj:j<n)(hne:i≠j)(u v:jO):cZ n (bA (bA M i u) j v)=-cZ n (bA (bA M i v) j u):=by
 have z:∀w,cZ n (bA (bA M i w) j w)=0:=λw=>v7 hi hj hne λc=>by rw[aF hne,aJ,aJ]
 have h1:=z λc=>u c+v c;rw[oP hj,eA hne,oP hi,eA (u:=λc=>u c+v c) hne,oP hi]at h1;have zu:=z u;have zv:=z v;rw[eA hne]at zu zv;have e1:cZ n (bA (bA M i u) j v)=cZ n (bA (bA M j v) i u):=by rw[eA hne]
 have e2:cZ n (bA (bA M i v) j u)=cZ n (bA (bA M j u) i v):=by rw[eA hne]
 rw[e1,e2];lia
def G9{M:Nat->jO}(h:k<n):cZ n (bA M k λ_=>0)=0:=by
 have:=sV (M:=M) (k:=k) (u:=λ_=>0) (v:=λ_=>0) (a:=0) (b:=0) h;simpa using this
def aBA{M:Nat->jO}(h:k<n):cZ n (bA M k λc=>a*u c)=a*cZ n (bA M k u):=by
 have:=sV (M:=M) (k:=k) (u:=u) (v:=λ_=>0) (a:=a) (b:=0) h
 grind
def v8{M:Nat->jO}(h:k<n):∀{m:Nat}{w:Nat->Int}{f:Nat->jO},cZ n (bA M k λc=>sumN m λl=>w l*f l c)=sumN m λl=>w l*cZ n (bA M k (f l))
 |0,w,f=>G9 h
 |m+1,w,f=>by
  have:=sV (M:=M) (k:=k) (u:=λc=>sumN m λl=>w l*f l c) (v:=f m) (a:=1) (b:=w m) h;simp![Int.one_mul]at this;rw[sumN,<- v8 h];exact this
def aKZ(hc:c<n)(hj:j<n)(hne:c≠j)(cr:∀x,x<n->cZ n f*h x=sumN n λl=>cZ n (bA f l h)*f l x):
  cZ n f*cZ n (bA (bA f c h) j u)=cZ n (bA f c h)*cZ n (bA f j u)-cZ n (bA f j h)*cZ n (bA f c u):=by
 have e1:cZ n f*cZ n (bA (bA f c h) j u)=cZ n (bA (bA f j u) c λx=>cZ n f*h x):=by
  rw[aBA hc,eA hne]
 have e2:cZ n (bA (bA f j u) c λx=>cZ n f*h x)=cZ n (bA (bA f j u) c λx=>sumN n λl=>cZ n (bA f l h)*f l x):=by
  refine lB λr x hr hx=>?_;by_cases hrc:r=c
  .subst hrc
   rw[aJ,aJ];exact cr x hx
  .rw[aF hrc,aF hrc]
 rw[e1,e2,v8 hc,yU hne hc hj λl hl h1 h2=>?_]
 .have a1:bA (bA f j u) c (f c)=bA f j u:=by
   rw[eA (Ñ hne),g8]
  have a2:cZ n (bA (bA f j u) c (f j))=-cZ n (bA f c u):=by
   rw[G8 hj hc (Ñ hne),g8]
  rw[a1,a2]
  grind
 .have:cZ n (bA (bA f j u) c (f l))=0:=v7 hc hl (λz=>h1 z.symm) λx=>by rw[aJ,aF h1,aF h2]
  rw[this];lia
end Sx
namespace Sx
structure Tab where
 s:Int
 f:Nat->Nat
 h:Nat->Nat
 L:Nat->Nat->Int
structure Pr where
 n:Nat
 k:Nat
 N:Nat
 a:Nat->jO
 c:Nat->Int
def Tab.F(P:Pr)(T:Tab):Nat->jO:=λj=>P.a (T.f j)
structure Inv(P:Pr)(σ:Int)(T:Tab):Prop where
 sg:σ*σ=1
 pos:0<T.s
 sd:T.s=σ*cZ P.n (T.F P)
 ld:∀r,r<=P.k->∀j,j<P.n->T.L r j=-σ*cZ P.n (bA (T.F P) j (P.a (T.h r)))
 lc:∀r,r<=P.k->T.L r P.n=T.s*P.c (T.h r)+sumN P.n λj=>T.L r j*P.c (T.f j)
 cr:∀r,r<=P.k->∀x,x<P.n->T.s*P.a (T.h r) x+(sumN P.n λj=>T.L r j*P.a (T.f j) x)=0
 fi:∀i j,i<P.n->j<P.n->T.f i=T.f j->i=j
 hi:∀r q,r<=P.k->q<=P.k->T.h r=T.h q->r=q
 fh:∀j r,j<P.n->r<=P.k->T.f j≠T.h r
 hk:T.h P.k=P.N
 all:∀u,u<P.N->(∃j,j<P.n/\T.f j=u)\/∃r,r<P.k/\T.h r=u
 fN:∀j,j<P.n->T.f j<P.N
 hN:∀r,r<P.k->T.h r<P.N
 dual:∀j,j<P.n->0<=T.L P.k j
def swap(T:Tab)(p d:Nat):Tab where
 s:=-T.L p d
 f:=λj=>if j=d then T.h p else T.f j
 h:=λr=>if r=p then T.f d else T.h r
 L:=λr j=>if r=p then (if j=d then -T.s else -T.L p j)else (if j=d then T.L r d else (-T.L p d*T.L r j+T.L r d*T.L p j)/T.s)
section
def VN:'D'.F P=bA (T.F P) d (P.a (T.h p)):=by
 funext j;unfold Tab.F swap bA;dsimp only;split<;>rfl
def MY{n:Nat}{w:Nat->Int}{wu wh s:Int}{wf l p l':Nat->Int}{d:Nat}(hd:d<n)(hs:∀j,j<n->j≠d->s*l' j=-p d*l j+l d*p j)(hl:l' d=l d):
  s*(-p d*wu+sumN n λj=>l' j*(if j=d then wh else wf j))=-p d*(s*wu+sumN n λj=>l j*wf j)+l d*(s*wh+sumN n λj=>p j*wf j):=by
 have e1:s*(sumN n λj=>l' j*(if j=d then wh else wf j))=sumN n λj=>(-p d*(l j*wf j)+l d*(p j*wf j))+(if j=d then s*l d*wh else 0):=by
  rw[<- sumN_mul];refine sumN_congr λj hj=>?_;by_cases e:j=d
  .grind
  .grind
 have e2:(sumN n λj=>if j=d then s*l d*wh else 0)=s*l d*wh:=by
  rw[bR (k:=d) hd λi _ hne=>Ã hne,Â rfl]
 rw[sumN_add,sumN_add,sumN_mul,sumN_mul,e2]at e1
 grind
def HA{n:Nat}{wh s:Int}{wf p:Nat->Int}{d:Nat}(hd:d<n):
  -p d*wf d+(sumN n λj=>(if j=d then -s else -p j)*(if j=d then wh else wf j))=-(s*wh+sumN n λj=>p j*wf j):=by
 have e1:(sumN n λj=>(if j=d then -s else -p j)*(if j=d then wh else wf j))=sumN n λj=>(-1)*(p j*wf j)+(if j=d then p d*wf d-s*wh else 0):=by
  refine sumN_congr λj hj=>?_;by_cases e:j=d
  .grind
  .grind
 have e2:(sumN n λj=>if j=d then p d*wf d-s*wh else 0)=p d*wf d-s*wh:=by
  rw[bR (k:=d) hd λi _ hne=>Ã hne,Â rfl]
 rw[e1,sumN_add,sumN_mul,e2]
 grind
def Inv.det_s(I:Inv P σ T):cZ P.n (T.F P)=σ*T.s:=by
 rw[I.sd,<- Int.mul_assoc,I.sg,Int.one_mul]
def Inv.det_l(I:Inv P σ T)(hr:r<=P.k)(hj:j<P.n):cZ P.n (bA (T.F P) j (P.a (T.h r)))=-σ*T.L r j:=by
 rw[I.ld r hr j hj,<- Int.mul_assoc];have:-σ*-σ=1:=by have:=I.sg;grind
 rw[this,Int.one_mul]
def Inv.cramer(I:Inv P σ T)(hr:r<=P.k)(x:Nat)(hx:x<P.n):cZ P.n (T.F P)*P.a (T.h r) x=sumN P.n λl=>cZ P.n (bA (T.F P) l (P.a (T.h r)))*T.F P l x:=by
 have e:(sumN P.n λl=>cZ P.n (bA (T.F P) l (P.a (T.h r)))*T.F P l x)=sumN P.n λl=>-σ*(T.L r l*P.a (T.f l) x):=sumN_congr λl hl=>by
  rw[I.det_l hr hl,Int.mul_assoc];rfl
 rw[e,sumN_mul,I.det_s];have:=I.cr r hr x hx
 grind
def Inv.exact(I:Inv P σ T) (hp:p<P.k) (hd:d<P.n) (hr:r<=P.k) (hj:j<P.n) (hne:j≠d):
  T.s*(-σ*cZ P.n (bA (bA (T.F P) d (P.a (T.h p))) j (P.a (T.h r))))=-T.L p d*T.L r j+T.L r d*T.L p j:=by
 have pl:=aKZ (u:=P.a (T.h r)) hd hj (Ñ hne) (I.cramer (r:=p) 'a');rw[I.det_s,I.det_l 'a' hd,I.det_l hr hj,I.det_l 'a' hj,I.det_l hr hd]at pl;have sg:=I.sg
 grind
def Inv.quot(I:Inv P σ T)(hp:p<P.k)(hd:d<P.n)(hr:r<=P.k)(hrp:r≠p)(hj:j<P.n)(hne:j≠d):
  T.s*'D'.L r j=-T.L p d*T.L r j+T.L r d*T.L p j/\'D'.L r j=-σ*cZ P.n (bA (bA (T.F P) d (P.a (T.h p))) j (P.a (T.h r))):=by
 have e:=I.exact hp hd hr hj hne;have q:'D'.L r j=-σ*cZ P.n (bA (bA (T.F P) d (P.a (T.h p))) j (P.a (T.h r))):=by
  show (if r=p then (if j=d then -T.s else -T.L p j)else (if j=d then T.L r d else (-T.L p d*T.L r j+T.L r d*T.L p j)/T.s))=_;rw[Ã hrp,Ã hne,<- e,Int.mul_ediv_cancel_left _ (by have:=I.pos;exact Ă ‹_›)]
 exact⟨by rw[q,e],q⟩
def sW(hrp:r≠p):'D'.L r d=T.L r d:=by
 show (if r=p then (if d=d then -T.s else -T.L p d)else (if d=d then T.L r d else (-T.L p d*T.L r d+T.L r d*T.L p d)/T.s))=_;rw[Ã hrp,Â rfl]
def D3:'D'.L p j=if j=d then -T.s else -T.L p j:=by
 show (if p=p then (if j=d then -T.s else -T.L p j)else _)=_;rw[Â rfl]
def fK:'D'.f j=if j=d then T.h p else T.f j:=rfl
def gR:'D'.h r=if r=p then T.f d else T.h r:=rfl
def Inv.quotN(I:Inv P σ T)(hp:p<P.k)(hd:d<P.n)(hr:r<=P.k)(hrp:r≠p):
  T.s*'D'.L r P.n=-T.L p d*T.L r P.n+T.L r d*T.L p P.n/\'D'.L r P.n=-T.L p d*P.c (T.h r)+sumN P.n λj=>'D'.L r j*P.c ('D'.f j):=by
 have e:=MY (w:=λ_=>0) (wu:=P.c (T.h r)) (wh:=P.c (T.h p)) (s:=T.s) (wf:=λj=>P.c (T.f j)) (l:=T.L r) (p:=T.L p) (l':='D'.L r) hd (λj hj hne=>(I.quot hp hd hr hrp hj hne).1) (sW hrp);rw[<- I.lc r hr,<- I.lc p 'a']at e;have ew:(sumN P.n λj=>'D'.L r j*(if j=d then P.c (T.h p)else P.c (T.f j)))=sumN P.n λj=>'D'.L r j*P.c ('D'.f j):=sumN_congr λj _=>by
  rw[fK];split<;>rfl
 rw[ew]at e;have q:'D'.L r P.n=-T.L p d*P.c (T.h r)+sumN P.n λj=>'D'.L r j*P.c ('D'.f j):=by
  show (if r=p then (if P.n=d then -T.s else -T.L p P.n)else (if P.n=d then T.L r d else (-T.L p d*T.L r P.n+T.L r d*T.L p P.n)/T.s))=_;rw[Ã hrp,Ã (by exact ß ‹_›),<- e,Int.mul_ediv_cancel_left _ (by have:=I.pos;exact Ă ‹_›)]
 exact⟨by rw[q,e],q⟩
def Inv.swap(I:Inv P σ T)(hp:p<P.k)(hd:d<P.n)(hneg:T.L p d<0)(hmin:∀j,j<P.n->T.L p j<0->T.L P.k d*-T.L p j<=T.L P.k j*-T.L p d):Inv P σ 'D':=by
 have sg:=I.sg;have pos:=I.pos;have hdh:∀r,r<=P.k->T.f d≠T.h r:=λr hr=>I.fh d r hd hr;refine⟨sg,?_,?_,?_,?_,?_,?_,?_,?_,?_,?_,?_,?_,?_⟩
 .show 0 < -T.L p d
  lia
 .show -T.L p d=_
  rw[VN,I.det_l 'a' hd]
  grind
 .intro r hr j hj
  rw[VN];by_cases hrp:r=p
  .subst hrp
   rw[D3,gR,Â rfl];by_cases hjd:j=d
   .subst hjd
    rw[Â rfl,BV];have:bA (T.F P) j (P.a (T.f j))=T.F P:=g8;rw[this,I.det_s,<- Int.mul_assoc]
    grind
   .rw[Ã hjd,G8 hd hj (Ñ hjd)]
    have:bA (T.F P) d (P.a (T.f d))=T.F P:=g8;rw[this,I.det_l 's' hj]
    grind
  .rw[gR,Ã hrp]
   by_cases hjd:j=d
   .subst hjd
    rw[sW hrp,BV];exact I.ld r hr j hj
   .exact(I.quot hp hd hr hrp hj hjd).2
 .intro r hr
  by_cases hrp:r=p
  .subst hrp
   have e:=HA (wh:=P.c (T.h r)) (s:=T.s) (wf:=λj=>P.c (T.f j)) (p:=T.L r) hd;rw[<- I.lc r hr]at e;show (if r=r then (if P.n=d then -T.s else -T.L r P.n)else _)=_;rw[Â rfl,Ã (by exact ß ‹_›),gR,Â rfl,<- e];show _=-T.L r d*_+_;congr 1;refine sumN_congr λj hj=>?_;rw[D3,fK];split<;>rfl
  .rw[gR,Ã hrp]
   exact(I.quotN hp hd hr hrp).2
 .intro r hr x hx
  by_cases hrp:r=p
  .subst hrp
   have e:=HA (wh:=P.a (T.h r) x) (s:=T.s) (wf:=λj=>P.a (T.f j) x) (p:=T.L r) hd;rw[I.cr r hr x hx]at e;rw[gR,Â rfl];show -T.L r d*_+_=_;have ew:(sumN P.n λj=>(Sx.swap T r d).L r j*P.a ((Sx.swap T r d).f j) x)=sumN P.n λj=>(if j=d then -T.s else -T.L r j)*(if j=d then P.a (T.h r) x else P.a (T.f j) x):=sumN_congr λj _=>by
    rw[D3,fK];split<;>rfl
   rw[ew,e];rfl
  .have e:=MY (w:=λ_=>0) (wu:=P.a (T.h r) x) (wh:=P.a (T.h p) x) (s:=T.s) (wf:=λj=>P.a (T.f j) x) (l:=T.L r) (p:=T.L p) (l':=(Sx.swap T p d).L r) hd (λj hj hne=>(I.quot hp hd hr hrp hj hne).1) (sW hrp)
   rw[I.cr r hr x hx,I.cr p 'a' x hx]at e;rw[gR,Ã hrp];have ew:(sumN P.n λj=>(Sx.swap T p d).L r j*P.a ((Sx.swap T p d).f j) x)=sumN P.n λj=>(Sx.swap T p d).L r j*(if j=d then P.a (T.h p) x else P.a (T.f j) x):=sumN_congr λj _=>by
    rw[fK];split<;>rfl
   show -T.L p d*_+_=_;rw[ew];have e:T.s*(-T.L p d*P.a (T.h r) x+sumN P.n λj=>(Sx.swap T p d).L r j*(if j=d then P.a (T.h p) x else P.a (T.f j) x))=0:=by rw[e];lia
   rcases Int.mul_eq_zero.mp e with z|z
   .lia
   .exact z
 .intro i j hi hj e
  rw[fK,fK]at e;split at e
  .split at e
   .lia
   .exact absurd e.symm (I.fh j p hj 'a')
  .split at e
   .exact absurd e (I.fh i p hi 'a')
   .exact I.fi i j hi hj e
 .intro r q hr hq e
  rw[gR,gR]at e;split at e
  .grind
  .split at e
   .grind
   .exact I.hi r q hr hq e
 .intro j r hj hr e
  rw[fK,gR]at e;split at e
  .split at e
   .grind
   .rename_i hrp
    exact hrp (I.hi p r 'a' hr e).symm
  .split at e
   .rename_i hjd _
    exact hjd (I.fi j d hj hd e)
   .exact I.fh j r hj hr e
 .rw[gR,Ã (by exact ß ‹_›)]
  exact I.hk
 .intro u hu
  rcases I.all u hu with ⟨j,hj,e⟩|⟨r,hr,e⟩
  .by_cases hjd:j=d
   .subst hjd
    exact .inr ⟨p,hp,by rw[gR,Â rfl];exact e⟩
   .exact .inl ⟨j,hj,by rw[fK,Ã hjd];exact e⟩
  .by_cases hrp:r=p
   .subst hrp
    exact .inl ⟨d,hd,by rw[fK,Â rfl];exact e⟩
   .exact .inr ⟨r,hr,by rw[gR,Ã hrp];exact e⟩
 .intro j hj
  rw[fK];split
  .exact I.hN p hp
  .exact I.fN j hj
 .intro r hr
  rw[gR];split
  .exact I.fN d hd
  .exact I.hN r hr
 .intro j hj
  by_cases hjd:j=d
  .subst hjd
   rw[sW (by exact ß ‹_›)];exact I.dual j hj
  .have e:=(I.quot hp hd (r:=P.k) (Ç _) (by exact ß ‹_›) hj hjd).1
   have g1:=I.dual j hj;have g2:=I.dual d hd;have hge:0<=-T.L p d*T.L P.k j+T.L P.k d*T.L p j:=by
    by_cases hn:T.L p j<0
    .grind
    .have a1:0<=-T.L p d*T.L P.k j:=ê ∅ g1
     have a2:0<=T.L P.k d*T.L p j:=ê g2 (by exact Int.not_lt.mp ‹_›);lia
   rw[<- e]at hge;exact Int.nonneg_of_mul_nonneg_right hge pos |> λz=>by first|exact z|lia
end
end Sx
namespace Sx
section
def Inv.indep(I:Inv P σ T){w:Nat->Int}(h:∀x,x<P.n->(sumN P.n λi=>w i*P.a (T.f i) x)=0)(i:Nat)(hi:i<P.n):w i=0:=by
 have e1:cZ P.n (bA (T.F P) i λx=>sumN P.n λl=>w l*T.F P l x)=0:=by
  rw[<- G9 (M:=T.F P) hi];refine lB λr x hr hx=>?_;by_cases e:r=i
  .subst e
   rw[aJ,aJ];exact h x hx
  .rw[aF e,aF e]
 rw[v8 hi,bR (k:=i) hi λl hl hne=>?_]at e1
 .rw[g8,I.det_s]at e1
  rcases Int.mul_eq_zero.mp e1 with z|z
  .exact z
  .rcases Int.mul_eq_zero.mp z with z|z
   .have:=I.sg
    grind
   .have:=I.pos
    lia
 .have:cZ P.n (bA (T.F P) i (T.F P l))=0:=v7 hi hl (λz=>hne z.symm) λx=>by rw[aJ,aF hne]
  rw[this];lia
structure At(P:Pr)(T:Tab)(u:Nat)(E:Nat->Int)(V:Int):Prop where
 a:∀x,x<P.n->T.s*P.a u x+(sumN P.n λi=>E i*P.a (T.f i) x)=0
 c:T.s*P.c u+(sumN P.n λi=>E i*P.c (T.f i))=V
def Inv.at_held(I:Inv P σ T)(hr:r<=P.k):At P T (T.h r) (T.L r) (T.L r P.n):=⟨I.cr r hr,(I.lc r hr).symm⟩
def D4(hj:j<P.n):At P T (T.f j) (λi=>if i=j then -T.s else 0) 0:=by
 refine⟨λx _=>?_,?_⟩
 .rw[bR (k:=j) hj λi _ hne=>by rw[Ã hne];lia,Â rfl]
  grind
 .rw[bR (k:=j) hj λi _ hne=>by rw[Ã hne];lia,Â rfl]
  grind
def Inv.eval(I:Inv P σ T){ρ:Nat->Int}{u:Nat->Nat}{E:Nat->Nat->Int}{V:Nat->Int}(hat:∀t,t<q->At P T (u t) (E t) (V t))(ha:∀x,x<P.n->(sumN q λt=>ρ t*P.a (u t) x)=0)(hc:(sumN q λt=>ρ t*P.c (u t))=ρ0):
  (sumN q λt=>ρ t*V t)=T.s*ρ0:=by
 have lin:∀b:Nat->Int,(sumN P.n λi=>(sumN q λt=>ρ t*E t i)*b i)=sumN q λt=>ρ t*sumN P.n λi=>E t i*b i:=λb=>by
  have e1:(sumN P.n λi=>(sumN q λt=>ρ t*E t i)*b i)=sumN P.n λi=>sumN q λt=>ρ t*(E t i*b i):=sumN_congr λi _=>by
   rw[Int.mul_comm,<- sumN_mul]
   grind
  rw[e1,oO];exact sumN_congr λt _=>sumN_mul
 have w0:∀i,i<P.n->(sumN q λt=>ρ t*E t i)=0:=λi hi=>I.indep (w:=λi=>sumN q λt=>ρ t*E t i) (λx hx=>by
  rw[lin λi=>P.a (T.f i) x];have e2:(sumN q λt=>ρ t*sumN P.n λi=>E t i*P.a (T.f i) x)=sumN q λt=>-T.s*(ρ t*P.a (u t) x):=sumN_congr λt ht=>by
   have:=(hat t ht).a x hx
   grind
  rw[e2,sumN_mul,ha x hx];lia) i hi
 have e4:(sumN q λt=>ρ t*V t)=sumN q λt=>T.s*(ρ t*P.c (u t))+ρ t*sumN P.n λi=>E t i*P.c (T.f i):=sumN_congr λt ht=>by
  rw[<- (hat t ht).c]
  grind
 rw[e4,sumN_add,sumN_mul,hc,<- lin λi=>P.c (T.f i),cT λi hi=>by rw[w0 i hi];lia];lia
def MZ:∀{n:Nat}{g:Nat->Int},sumN n g<0->∃m,m<n/\g m<0
 |0,_,h=>by simp[sumN]at h
 |n+1,g,h=>by
  rw[sumN]at h;by_cases c:g n<0
  .grind
  .obtain⟨m,hm,e⟩:=MZ (n:=n) (g:=g) ∅
   grind
structure Ch(P:Pr)(T:Tab)(p d:Nat):Prop where
 hp:p<P.k
 neg:T.L p P.n<0
 first:∀r,r<P.k->T.L r P.n<0->T.h p<=T.h r
 hd:d<P.n
 dneg:T.L p d<0
 best:∀j,j<P.n->T.L p j<0->T.L P.k d*-T.L p j<T.L P.k j*-T.L p d\/(T.L P.k d*-T.L p j=T.L P.k j*-T.L p d/\T.f d<=T.f j)
def Ch.inv(C:Ch P T p d)(I:Inv P σ T):Inv P σ 'D':=I.swap C.hp C.hd C.dneg λj hj hn=>by
 rcases C.best j hj hn with h|h<;>lia
def Fr(P:Pr)(T:Tab)(u:Nat):Prop:=∃j,j<P.n/\T.f j=u
def NZ(P:Pr)(T:Tab)(u:Nat):Prop:=∃j,j<P.n/\T.f j=u/\T.L P.k j≠0
def sX(C:Ch P T p d)(I:Inv P σ T)(u:Nat):Fr P 'D' u↔u=T.h p\/(Fr P T u/\u≠T.f d):=by
 constructor
 .rintro⟨j,hj,e⟩
  rw[fK]at e;split at e
  .exact .inl e.symm
  .rename_i hjd
   refine .inr ⟨⟨j,hj,e⟩,λz=>hjd (I.fi j d hj C.hd ?_)⟩;rw[e,z]
 .rintro(rfl|⟨⟨j,hj,rfl⟩,hne⟩)
  .exact⟨d,C.hd,by rw[fK,Â rfl]⟩
  .exact⟨j,hj,by rw[fK,Ã λz=>hne (by rw[z])]⟩
def aBB(C:Ch P T p d)(I:Inv P σ T)(hz:T.L P.k d=0)(u:Nat):NZ P 'D' u↔NZ P T u:=by
 have pos:=I.pos;have step:∀j,j<P.n->j≠d->('D'.L P.k j≠0↔T.L P.k j≠0):=λj hj hjd=>by
  have e:=(I.quot C.hp C.hd (r:=P.k) (Ç _) (by have:=C.hp;exact ß ‹_›) hj hjd).1;rw[hz,Int.zero_mul,Int.add_zero]at e;have dn:=C.dneg;constructor
  .intro h z
   rw[z,Int.mul_zero]at e;rcases Int.mul_eq_zero.mp e with z|z
   .lia
   .exact h z
  .intro h z
   rw[z,Int.mul_zero]at e;rcases Int.mul_eq_zero.mp e.symm with z|z
   .lia
   .exact h z
 have ed:'D'.L P.k d=0:=by rw[sW (by have:=C.hp;exact ß ‹_›)];exact hz
 constructor
 .rintro⟨j,hj,e,hnz⟩
  rw[fK]at e;by_cases hjd:j=d
  .grind
  .rw[Ã hjd]at e
   exact⟨j,hj,e,(step j hj hjd).mp hnz⟩
 .rintro⟨j,hj,e,hnz⟩
  by_cases hjd:j=d
  .grind
  .exact⟨j,hj,by rw[fK,Ã hjd];exact e,(step j hj hjd).mpr hnz⟩
def Inv.held_nz(I:Inv P σ T)(hr:r<=P.k):¬NZ P T (T.h r):=λzQ=>by let⟨j,hj,e,_⟩:=zQ;exact I.fh j r hj hr e
def Inv.not_fr(I:Inv P σ T)(hr:r<=P.k):¬Fr P T (T.h r):=λzQ=>by let⟨j,hj,e⟩:=zQ;exact I.fh j r hj hr e
end
structure II(P:Pr)(σ:Int)(T:Nat->Tab)(p d:Nat->Nat)(l:Nat):Prop where
 inv:Inv P σ (T 0)
 ch:∀i,i<l->Ch P (T i) (p i) (d i)
 next:∀i,i<l->T (i+1)=swap (T i) (p i) (d i)
section
def II.inv_at(R:II P σ T p d l):∀i,i<=l->Inv P σ (T i)
 |0,_=>R.inv
 |i+1,h=>by
  rw[R.next i 's'];exact(R.ch i 's').inv (R.inv_at i 'a')
structure ĩ(P:Pr)(T:Nat->Tab)(p d:Nat->Nat)(x y t:Nat):Prop where
 e:∀m,x<=m->m<y->(T m).h (p m)<t
 g:∀m,x<=m->m<y->(T m).f (d m)<t
 z:∀m,x<=m->m<y->(T m).L P.k (d m)=0
def ĩ.fr(R:II P σ T p d l)(S:ĩ P T p d x y t)(hy:y<=l)(hu:t<=u):∀m,x<=m->m<=y->(Fr P (T m) u↔Fr P (T x) u):=by
 intro m hx
 induction m with
 |zero=>grind
 |succ m ih=>
  intro hm;by_cases e:x=m+1
  .rw[e]
  .have h1:=S.e m ∅ 's'
   have h2:=S.g m ∅ 's';rw[<- ih ∅ 'a',R.next m 'k',sX (R.ch m 'k') (R.inv_at m 'k')]
   grind
def ĩ.nz(R:II P σ T p d l)(S:ĩ P T p d x y t)(hy:y<=l):∀m,x<=m->m<=y->(NZ P (T m) u↔NZ P (T x) u):=by
 intro m hx
 induction m with
 |zero=>grind
 |succ m ih=>
  intro hm;by_cases e:x=m+1
  .rw[e]
  .rw[<- ih ∅ 'a',R.next m 'k']
   exact aBB (R.ch m 'k') (R.inv_at m 'k') (S.z m ∅ 's') u
theorem M0(R:II P σ T p d l)(S:ĩ P T p d x y (t+1))(hy:y<=l)(hi:x<=i)(hi2:i<y)(hj:x<=j)(hj2:j<y)(hA:(T i).h (p i)=t)(hB:(T j).f (d j)=t):False:=by
 have IA:=R.inv_at i 'k';have IB:=R.inv_at j 'k';have CA:=R.ch i 'k';have CB:=R.ch j 'k';have pB:=CB.hp
 -- where an unknown stands at A
 have stand:∀u,u<P.N->∃E V,At P (T i) u E V/\((Fr P (T i) u/\V=0)\/∃r,r<P.k/\(T i).h r=u/\V=(T i).L r P.n):=λu hu=>by
  rcases IA.all u hu with ⟨m,hm,e⟩|⟨r,hr,e⟩
  .exact⟨_,0,by rw[<- e];exact D4 hm,.inl ⟨⟨m,hm,e⟩,rfl⟩⟩
  .exact⟨_,_,by rw[<- e];exact IA.at_held 'a',.inr ⟨r,hr,e,rfl⟩⟩
 -- the unknowns of B's line
 let u:Nat->Nat:=λm=>if m<P.n then (T j).f m else (T j).h (p j);let ρ:Nat->Int:=λm=>if m<P.n then (T j).L (p j) m else (T j).s;have uN:∀m,u m<P.N:=λm=>by
  show (if m<P.n then (T j).f m else (T j).h (p j))<P.N;split
  .rename_i h;exact IB.fN m h
  .exact IB.hN _ pB
 have ev:=IA.eval (q:=P.n+1) (ρ:=ρ) (u:=u) (E:=λm=>(stand (u m) (uN m)).choose) (V:=λm=>(stand (u m) (uN m)).choose_spec.choose) (ρ0:=(T j).L (p j) P.n) (λm _=>(stand (u m) (uN m)).choose_spec.choose_spec.1) (λx hx=>by
  have e:=IB.cr (p j) 'a' x hx;rw[sumN];have e1:(sumN P.n λm=>ρ m*P.a (u m) x)=sumN P.n λm=>(T j).L (p j) m*P.a ((T j).f m) x:=sumN_congr λm hm=>by
   grind
  grind) (by
  have e:=IB.lc (p j) 'a';rw[sumN];have e1:(sumN P.n λm=>ρ m*P.c (u m))=sumN P.n λm=>(T j).L (p j) m*P.c ((T j).f m):=sumN_congr λm hm=>by
   grind
  grind)
 have neg:(T i).s*(T j).L (p j) P.n<0:=Int.mul_neg_of_pos_of_neg IA.pos CB.neg;rw[<- ev]at neg;let⟨m,hm,hneg⟩:=MZ neg;have st:=(stand (u m) (uN m)).choose_spec.choose_spec.2;generalize (stand (u m) (uN m)).choose_spec.choose=V at st hneg
 -- it is held at A
 rcases st with ⟨_,hV⟩|⟨r,hr,hru,hV⟩
 .grind
 .have notA:¬Fr P (T i) (u m):=by rw[<- hru];exact IA.not_fr 'a'
  have fromA:V<0->t<=u m:=λhv=>by
   rw[<- hA,<- hru];exact CA.first r hr (by rw[<- hV];exact hv)
  by_cases hmn:m<P.n
  .have eu:u m=(T j).f m:=Â hmn
   have eρ:ρ m=(T j).L (p j) m:=Â hmn;rw[eρ]at hneg;have frB:Fr P (T j) (u m):=⟨m,hmn,eu.symm⟩
   -- it has moved
   have le:u m<=t:=by
    refine Nat.le_of_not_lt λgt=>?_;have h1:=S.fr R hy (u:=u m) 's' i hi 'a';have h2:=S.fr R hy (u:=u m) 's' j hj 'a';exact notA (h1.mpr (h2.mp frB))
   by_cases hv:V<0
   .have:=fromA hv
    have et:(T j).f m=(T j).f (d j):=by rw[hB,<- eu];exact Nat.le_antisymm ‹_› ‹_›
    have:=IB.fi m (d j) hmn CB.hd et;rw[this]at hneg;have dn:=CB.dneg;have:=Int.mul_pos_of_neg_of_neg dn hv;lia
   .have hv0:0<V:=by
     rcases Int.lt_trichotomy V 0 with z|z|z
     .contradiction
     .grind
     .exact z
    have ln:(T j).L (p j) m<0:=by
     refine Int.not_le.mp λz=>?_;have:=ê z (à hv0);lia
    have ne:u m≠t:=λz=>by
     have hrp:r=p i:=IA.hi r (p i) 'a' (by have:=CA.hp;exact È ‹_›) (by rw[hru,hA,z]);rw[hV,hrp]at hv0;have:=CA.neg;lia
    have zB:=S.z j hj hj2;have nzA:¬NZ P (T i) (u m):=by rw[<- hru];exact IA.held_nz 'a'
    have nzB:¬NZ P (T j) (u m):=λz=>nzA ((S.nz R hy i hi 'a').mpr ((S.nz R hy j hj 'a').mp z));have gz:(T j).L P.k m=0:=ć λz=>nzB ⟨m,hmn,eu.symm,z⟩;rcases CB.best m hmn ln with h|h
    all_goals grind
  .have eu:u m=(T j).h (p j):=Ã hmn
   have eρ:ρ m=(T j).s:=Ã hmn;rw[eρ]at hneg;have sB:=IB.pos;have hv:V<0:=by
    refine Int.not_le.mp λz=>?_;have:=ê (à sB) z;lia
   have h1:=fromA hv;have h2:=S.e j hj hj2;have et:(T j).f (d j)=(T j).h (p j):=by rw[hB,<- eu];lia
   exact IB.fh (d j) (p j) CB.hd 'a' et
end
end Sx
namespace Sx
section
variable {P:Pr}{σ:Int}{T:Nat->Tab}{p d:Nat->Nat}{l:Nat}
def ϰ(R:II P σ T p d l):∀(n x:Nat),x+n<=l->Fr P (T x) t->¬Fr P (T (x+n)) t->∃m,x<=m/\m<x+n/\(T m).f (d m)=t
 |0,x,_,h1,h2=>absurd h1 h2
 |n+1,x,hl,h1,h2=>by
  by_cases c:Fr P (T (x+n)) t
  .refine⟨x+n,by exact Nat.le_add_right _ _,by exact î _,?_⟩
   refine ć λhne=>h2 ?_;rw[<- Nat.add_assoc,R.next (x+n) 's',sX (R.ch _ 's') (R.inv_at _ 'a')]
   grind
  .obtain⟨m,h3,h4,h5⟩:=ϰ R n x 'a' h1 c
   grind
def ϱ(R:II P σ T p d l):∀(n x:Nat),x+n<=l->¬Fr P (T x) t->Fr P (T (x+n)) t->∃m,x<=m/\m<x+n/\(T m).h (p m)=t
 |0,x,_,h1,h2=>absurd h2 h1
 |n+1,x,hl,h1,h2=>by
  by_cases c:Fr P (T (x+n)) t
  .obtain⟨m,h3,h4,h5⟩:=ϱ R n x 'a' h1 c
   grind
  .refine⟨x+n,by exact Nat.le_add_right _ _,by exact î _,?_⟩
   rw[<- Nat.add_assoc,R.next (x+n) 's',sX (R.ch _ 's') (R.inv_at _ 'a')]at h2
   grind
def bd:Nat->Nat
 |0=>0
 |t+1=>2*bd t+1
def ϲ(R:II P σ T p d l):∀(t x y:Nat),y<=l->ĩ P T p d x y t->y-x<=bd t
 |0,x,y,hy,S=>by
  by_cases h:x<y
  .exact absurd (S.e x (Ç _) h) ∅
  .rw[bd];lia
 |t+1,x,y,hy,S=>by
  have sub:∀x' y',x<=x'->y'<=y->(∀m,x'<=m->m<y'->(T m).h (p m)≠t/\(T m).f (d m)≠t)->y'-x'<=bd t:=λx' y' h1 h2 h3=>ϲ R t x' y' 'k' ⟨λm a b=>by
   have:=S.e m 'k' 'k'
   grind,λm a b=>by
   have:=S.g m 'k' 'k'
   grind,λm a b=>S.z m 'k' 'k'⟩
  by_cases ex:∃m,x<=m/\m<y/\((T m).h (p m)=t\/(T m).f (d m)=t)
  .obtain⟨m0,a0,b0,c0⟩:=ex
   have no2:∀m m',x<=m->m<m'->m'<y->((T m).h (p m)=t\/(T m).f (d m)=t)->((T m').h (p m')=t\/(T m').f (d m')=t)->False:=by
    intro m m' h1 h2 h3 c c';have IM:=R.inv_at m ∅;have CM:=R.ch m ∅;have IM':=R.inv_at m' 'k';have CM':=R.ch m' 'k';rcases c with c|c
    .rcases c' with c'|c'
     ·-- freed twice
      have f1:Fr P (T (m+1)) t:=by
       rw[R.next m ∅,sX CM IM];exact .inl c.symm
      have f2:¬Fr P (T (m+1+(m'-(m+1)))) t:=by
       rw[show m+1+(m'-(m+1))=m' by lia,<- c'];exact IM'.not_fr (by have:=CM'.hp;exact È ‹_›)
      let⟨q,q1,q2,q3⟩:=ϰ R (m'-(m+1)) (m+1) ∅ f1 f2;exact M0 R S hy h1 ∅ ∅ ∅ c q3
     .exact M0 R S hy h1 'k' ∅ h3 c c'
    .rcases c' with c'|c'
     .exact M0 R S hy ∅ h3 h1 'k' c' c
     .have f1:¬Fr P (T (m+1)) t:=by
       rw[R.next m ∅,sX CM IM];rintro(h|h)
       .exact IM.fh (d m) (p m) CM.hd (by have:=CM.hp;exact È ‹_›) (by rw[c,h])
       .exact h.2 c.symm
      have f2:Fr P (T (m+1+(m'-(m+1)))) t:=by
       rw[show m+1+(m'-(m+1))=m' by lia];exact⟨d m',CM'.hd,c'⟩
      let⟨q,q1,q2,q3⟩:=ϱ R (m'-(m+1)) (m+1) ∅ f1 f2;exact M0 R S hy ∅ ∅ h1 ∅ q3 c
   have l1:=sub x m0 (Ç _) 'a' λm a b=>⟨λz=>no2 m m0 a b b0 (.inl z) c0,λz=>no2 m m0 a b b0 (.inr z) c0⟩;have l2:=sub (m0+1) y 'k' (Ç _) λm a b=>⟨λz=>no2 m0 m a0 's' b c0 (.inl z),λz=>no2 m0 m a0 's' b c0 (.inr z)⟩;rw[bd];lia
  .have:=sub x y (Ç _) (Ç _) λm a b=>⟨λz=>ex ⟨m,a,b,.inl z⟩,λz=>ex ⟨m,a,b,.inr z⟩⟩
   rw[bd];lia
def II.fN(R:II P σ T p d l)(hy:y<=l)(hz:∀m,x<=m->m<y->(T m).L P.k (d m)=0):y-x<=bd P.N:=ϲ R P.N x y hy ⟨λm a b=>(R.inv_at m 'k').hN _ (R.ch m 'k').hp,λm a b=>(R.inv_at m 'k').fN _ (R.ch m 'k').hd,hz⟩
def ϳ(R:II P σ T p d l)(hi:i<l):(T (i+1)).L P.k P.n*(T i).s=(T i).L P.k P.n*(T (i+1)).s+(T i).L P.k (d i)*(T i).L (p i) P.n:=by
 have I:=R.inv_at i 'a';have C:=R.ch i hi;have e:=(I.quotN C.hp C.hd (r:=P.k) (Ç _) (by have:=C.hp;exact ß ‹_›)).1;rw[R.next i hi];show _=_*-(T i).L (p i) (d i)+_
 grind
def aHJ{k0 k1 k2 s0 s1 s2 w:Int}(p0:0<s0)(p1:0<s1)(p2:0<s2)(e:k2*s1=k1*s2+w)(ih:k1*s0<=k0*s1)(le:w<=0):k2*s0<=k0*s2:=by
 have b1:k2*s0*s1=(k1*s0)*s2+w*s0:=by
  rw[Int.mul_right_comm,e,Int.add_mul,Int.mul_right_comm]
 have b2:(k1*s0)*s2<=(k0*s1)*s2:=Ą ih (à p2);have b3:w*s0<=0:=Int.mul_nonpos_of_nonpos_of_nonneg le (à p0);rw[Int.mul_right_comm k0]at b2;have a1:k2*s0*s1<=k0*s2*s1:=by lia
 exact Int.le_of_mul_le_mul_right a1 p1
def aHK{k0 k1 k2 k3 s0 s1 s2 s3 w:Int}(p0:0<s0)(p1:0<s1)(p2:0<s2)(p3:0<s3)(b:k3*s2<=k2*s3)(e:k2*s1=k1*s2+w)(a:k1*s0<=k0*s1)(lt:w<0):k3*s0<k0*s3:=by
 -- k3 s2<=k2 s3;k2 s1=k1 s2+w;k1 s0<=k0 s1
 have s12:0<s1*s2:=Int.mul_pos p1 p2;have a1:k3*s0*(s1*s2)<k0*s3*(s1*s2):=by
  have b1:k3*s0*(s1*s2)=(k3*s2)*(s0*s1):=by grind
  have b2:(k3*s2)*(s0*s1)<=(k2*s3)*(s0*s1):=Ą b (à (Int.mul_pos p0 p1));have b3:(k2*s3)*(s0*s1)=(k2*s1)*(s0*s3):=by grind
  have b4:(k2*s1)*(s0*s3)=(k1*s0)*(s2*s3)+w*(s0*s3):=by rw[e];grind
  have b5:(k1*s0)*(s2*s3)<=(k0*s1)*(s2*s3):=Ą a (à (Int.mul_pos p2 p3));have b6:w*(s0*s3)<0:=Int.mul_neg_of_neg_of_pos lt (Int.mul_pos p0 p3);have b7:(k0*s1)*(s2*s3)=k0*s3*(s1*s2):=by grind
  lia
 simp_all
def D5(R:II P σ T p d l):∀n,i+n<=l->(T (i+n)).L P.k P.n*(T i).s<=(T i).L P.k P.n*(T (i+n)).s
 |0,_=>Int.le_refl _
 |n+1,h=>by
  have ih:=D5 R n (i:=i) 'a';have e:=ϳ R (i:=i+n) 's';have C:=R.ch (i+n) 's';have I:=R.inv_at (i+n) 'a';have I0:=R.inv_at i ∅;have I1:=R.inv_at (i+n+1) 's';have g:=I.dual _ C.hd;have neg:=C.neg;have p0:=I0.pos;have p1:=I.pos;have p2:=I1.pos;have le:(T (i+n)).L P.k (d (i+n))*(T (i+n)).L (p (i+n)) P.n<=0:=Int.mul_nonpos_of_nonneg_of_nonpos g (by exact à ‹_›);rw[<- Nat.add_assoc];exact aHJ p0 p1 p2 e ih le
def aBC(R:II P σ T p d l)(h1:i<=m)(h2:m<j)(h3:j<=l)(hnz:(T m).L P.k (d m)≠0):(T j).L P.k P.n*(T i).s<(T i).L P.k P.n*(T j).s:=by
 have a:=D5 R (i:=i) (m-i) ∅;have b:=D5 R (i:=m+1) (j-(m+1)) ∅;rw[show i+(m-i)=m by lia]at a;rw[show m+1+(j-(m+1))=j by lia]at b;have e:=ϳ R (i:=m) 'k';have C:=R.ch m 'k';have I:=R.inv_at m 'k';have p0:=(R.inv_at i ∅).pos;have p1:=I.pos;have p2:=(R.inv_at (m+1) 'k').pos;have p3:=(R.inv_at j 's').pos;have g:=I.dual _ C.hd;have neg:=C.neg;have lt:(T m).L P.k (d m)*(T m).L (p m) P.n<0:=Int.mul_neg_of_pos_of_neg ∅ neg;exact aHK p0 p1 p2 p3 b e a lt
def PY(IA:Inv P σ A)(IB:Inv P σ B)(h:∀u,u<P.N->Fr P B u->Fr P A u):B.s*A.L P.k P.n=A.s*B.L P.k P.n:=by
 let u:Nat->Nat:=λm=>if m<P.n then B.f m else P.N;let ρ:Nat->Int:=λm=>if m<P.n then B.L P.k m else B.s;have stand:∀m,m<P.n+1->∃E,At P A (u m) E (if m<P.n then 0 else A.L P.k P.n):=λm hm=>by
  by_cases c:m<P.n
  .obtain⟨j,hj,e⟩:=h (B.f m) (IB.fN m c) ⟨m,c,rfl⟩
   refine⟨λi=>if i=j then -A.s else 0,?_⟩;rw[Â c];show At P A (if m<P.n then B.f m else P.N) _ 0;rw[Â c,<- e];exact D4 hj
  .refine⟨A.L P.k,?_⟩
   rw[Ã c];show At P A (if m<P.n then B.f m else P.N) _ _;rw[Ã c,<- IA.hk];exact IA.at_held (Ç _)
 have ev:=IA.eval (q:=P.n+1) (ρ:=ρ) (u:=u) (E:=λm=>open Classical in if hm:m<P.n+1 then (stand m hm).choose else λ_=>0) (V:=λm=>if m<P.n then 0 else A.L P.k P.n) (ρ0:=B.L P.k P.n) (λm hm=>by
  grind) (λx hx=>by
  have e:=IB.cr P.k (Ç _) x hx;rw[IB.hk]at e;rw[sumN];have e1:(sumN P.n λm=>ρ m*P.a (u m) x)=sumN P.n λm=>B.L P.k m*P.a (B.f m) x:=sumN_congr λm hm=>by
   grind
  grind) (by
  have e:=IB.lc P.k (Ç _);rw[IB.hk]at e;rw[sumN];have e1:(sumN P.n λm=>ρ m*P.c (u m))=sumN P.n λm=>B.L P.k m*P.c (B.f m):=sumN_congr λm hm=>by
   grind
  grind)
 rw[sumN,cT λm hm=>by rw[Â hm];lia]at ev
 grind
def ϴ:∀(M:Nat)(g:Nat->Nat),(∀i,i<=M->g i<M)->∃i j,i<j/\j<=M/\g i=g j
 |0,g,h=>absurd (h 0 (Ç _)) ∅
 |M+1,g,h=>by
  by_cases ex:∃i,i<=M/\g i=g (M+1)
  .obtain⟨i,hi,e⟩:=ex
   exact⟨i,M+1,by grind,by exact î _,e⟩
  .have hv:=h (M+1) (by exact î _)
   let⟨i,j,h1,h2,h3⟩:=ϴ M (λi=>if g i=M then g (M+1)else g i) λi hi=>by
    grind
   refine⟨i,j,h1,by grind,?_⟩
   grind
def code(b:Nat->Bool):Nat->Nat
 |0=>0
 |n+1=>2*code b n+(if b n=true then 1 else 0)
def M1 :∀n,code b n<2^n
 |0=>by simp[code]
 |n+1=>by
  have:=M1 (b:=b) n;rw[code,Nat.pow_succ];split<;>lia
def HB :∀n,code b n=code b' n->∀u,u<n->b u=b' u
 |0,_,u,hu=>by grind
 |n+1,e,u,hu=>by
  rw[code,code]at e;have hb:b n=b' n/\code b n=code b' n:=by
   cases h1:b n<;>cases h2:b' n<;>rw[h1,h2]at e<;>simp at e⊢<;>lia
  by_cases c:u=n
  .subst c;exact hb.1
  .exact HB n hb.2 u ∅
def most(N:Nat):Nat:=(2^N+1)*(bd N+1)
def II.most(R:II P σ T p d l):l<Sx.most P.N:=by
 refine Nat.lt_of_not_le λhl=>?_
 -- in each window the goal falls once
 have win:∀w,w<=2^P.N->∃m,w*(bd P.N+1)<=m/\m<(w+1)*(bd P.N+1)/\(T m).L P.k (d m)≠0:=λw hw=>by
  refine ć λno=>?_;have hle:(w+1)*(bd P.N+1)<=Sx.most P.N:=Nat.mul_le_mul_right _ 'k';have:=R.fN (x:=w*(bd P.N+1)) (y:=(w+1)*(bd P.N+1)) 'k' λm a b=>ć λz=>no ⟨m,a,b,z⟩
  grind
 let mm:Nat->Nat:=λw=>open Classical in if hw:w<=2^P.N then (win w hw).choose else 0;have mmS:∀w,w<=2^P.N->w*(bd P.N+1)<=mm w/\mm w<(w+1)*(bd P.N+1)/\(T (mm w)).L P.k (d (mm w))≠0:=λw hw=>by
  grind
 let fb:Nat->Nat->Bool:=λw u=>open Classical in decide (Fr P (T (mm w)) u);let⟨i,j,h1,h2,h3⟩:=ϴ (2^P.N) (λw=>code (fb w) P.N) λw _=>M1 P.N;have si:=mmS i 'k';have sj:=mmS j h2;have hij:(i+1)*(bd P.N+1)<=j*(bd P.N+1):=Nat.mul_le_mul_right _ 's';have hjl:(j+1)*(bd P.N+1)<=Sx.most P.N:=Nat.mul_le_mul_right _ 'k';have fl:=aBC R (i:=mm i) (m:=mm i) (j:=mm j) (Ç _) ∅ ∅ si.2.2;have sg:=PY (R.inv_at (mm i) ∅) (R.inv_at (mm j) ∅) λu hu hf=>by
  have e:=HB P.N h3 u hu
  grind
 grind
end
end Sx
namespace Sx
def yV:∀{a b:Nat}{g:Nat->Int},sumN (a+b) g=sumN a g+sumN b λi=>g (a+i)
 |a,0,g=>by simp[sumN]
 |a,b+1,g=>by
  rw[<- Nat.add_assoc,sumN,sumN,yV];lia
def shr(n:Nat)(f:Nat->Nat)(w:Nat->Int)(u:Nat):Int:=sumN n λj=>if f j=u then w j else 0
def shr_at(hf:∀i j,i<n->j<n->f i=f j->i=j)(hj:j<n):shr n f w (f j)=w j:=by
 unfold shr;rw[bR (k:=j) hj λi hi hne=>Ã λz=>hne (hf i j hi hj z),Â rfl]
def shr_no(h:∀j,j<n->f j≠u):shr n f w u=0:=cT λj hj=>Ã (h j hj)
def qV(h:∀j,j<n->0<=w j)(u:Nat):0<=shr n f w u:=by
 unfold shr
 induction n with
 |zero=>exact Int.le_refl _
 |succ n ih=>
  rw[sumN]
  grind
def D6(hN:∀j,j<n->f j<N)(b:Nat->Int):(sumN N λu=>shr n f w u*b u)=sumN n λj=>w j*b (f j):=by
 have e1:(sumN N λu=>shr n f w u*b u)=sumN N λu=>sumN n λj=>if f j=u then w j*b u else 0:=sumN_congr λu _=>by
  unfold shr;rw[Int.mul_comm,<- sumN_mul]
  grind
 rw[e1,oO];refine sumN_congr λj hj=>?_;rw[bR (k:=f j) (hN j hj) λu _ hne=>Ã λz=>hne z.symm,Â rfl]
structure Lp where
 n:Nat
 m:Nat
 row:Nat->jO
 top:Nat->Int
 room:Nat->Int
def Lp.pr(Q:Lp):Pr where
 n:=Q.n
 k:=Q.m+Q.n
 N:=Q.n+Q.m+Q.n
 a:=λu x=>if u<Q.n then (if x=u then -1 else 0)else if u<Q.n+Q.m then Q.row (u-Q.n) x else if u<Q.n+Q.m+Q.n then (if x=u-(Q.n+Q.m)then 1 else 0)else 1
 c:=λu=>if u<Q.n then 0 else if u<Q.n+Q.m then Q.top (u-Q.n)else if u<Q.n+Q.m+Q.n then Q.room (u-(Q.n+Q.m))else 0
def Lp.start(Q:Lp):Tab where
 s:=1
 f:=λj=>j
 h:=λr=>Q.n+r
 L:=λr j=>if j<Q.n then Q.pr.a (Q.n+r) j else Q.pr.c (Q.n+r)
section
variable {Q:Lp}
def mK(h:i<Q.n):Q.pr.a i x=if x=i then -1 else 0:=Â h
def M3(h:r<Q.m):Q.pr.a (Q.n+r) x=Q.row r x:=by
 show (if Q.n+r<Q.n then _ else if Q.n+r<Q.n+Q.m then Q.row (Q.n+r-Q.n) x else _)=_
 grind
def uJ(h:i<Q.n):Q.pr.a (Q.n+Q.m+i) x=if x=i then 1 else 0:=by
 show (if Q.n+Q.m+i<Q.n then _ else if Q.n+Q.m+i<Q.n+Q.m then _ else if Q.n+Q.m+i<Q.n+Q.m+Q.n then (if x=Q.n+Q.m+i-(Q.n+Q.m)then (1:Int)else 0)else _)=_
 grind
def D7:Q.pr.a Q.pr.N x=1:=by
 show (if Q.n+Q.m+Q.n<Q.n then _ else if Q.n+Q.m+Q.n<Q.n+Q.m then _ else if Q.n+Q.m+Q.n<Q.n+Q.m+Q.n then _ else (1:Int))=_
 grind
def D8(h:i<Q.n):Q.pr.c i=0:=Â h
def M4(h:r<Q.m):Q.pr.c (Q.n+r)=Q.top r:=by
 show (if Q.n+r<Q.n then _ else if Q.n+r<Q.n+Q.m then Q.top (Q.n+r-Q.n)else _)=_
 grind
def D9(h:i<Q.n):Q.pr.c (Q.n+Q.m+i)=Q.room i:=by
 show (if Q.n+Q.m+i<Q.n then _ else if Q.n+Q.m+i<Q.n+Q.m then _ else if Q.n+Q.m+i<Q.n+Q.m+Q.n then Q.room (Q.n+Q.m+i-(Q.n+Q.m))else _)=_
 grind
def KK:Q.pr.c Q.pr.N=0:=by
 show (if Q.n+Q.m+Q.n<Q.n then _ else if Q.n+Q.m+Q.n<Q.n+Q.m then _ else if Q.n+Q.m+Q.n<Q.n+Q.m+Q.n then _ else (0:Int))=_
 grind
def aBD:∀n:Nat,cZ (n+1) (λj x=>if x=j then -1 else 0)=-cZ n (λj x=>if x=j then -1 else 0):=λn=>by
 rw[cZ,bR (k:=0) (by exact Ċ _) λi hi hne=>by
  grind]
 have e:eX (λj x=>if x=j then (-1:Int)else 0) 0=λj x=>if x=j then -1 else 0:=by
  funext r c;unfold eX skip;rw[Ã ∅];by_cases h:c=r
  .grind
  .grind
 rw[e];show č 0*(if 0=0 then -1 else 0)*_=_;rw[Â rfl];show 1*-1*_=_;lia
def VO:∀n:Nat,cZ n (λj x=>if x=j then -1 else 0)*cZ n (λj x=>if x=j then -1 else 0)=1
 |0=>rfl
 |n+1=>by
  rw[aBD];have:=VO n
  grind
def Lp.inv(Q:Lp):Inv Q.pr (cZ Q.n (λj x=>if x=j then -1 else 0)) Q.start:=by
 have sq:=VO Q.n;have eF:∀M:Nat->jO,(∀j x,j<Q.n->M j x=if x=j then -1 else 0)->cZ Q.n M=cZ Q.n (λj x=>if x=j then -1 else 0):=λM h=>lB λr c hr _=>h r c hr;have hF:∀j x,j<Q.n->Q.start.F Q.pr j x=if x=j then -1 else 0:=λj x hj=>mK hj;have dF:=eF (Q.start.F Q.pr) hF;have dU:∀(j:Nat)(v:jO),j<Q.n->cZ Q.n (bA (Q.start.F Q.pr) j v)=-v j*cZ Q.n (λj x=>if x=j then -1 else 0):=λj v hj=>by
  have e1:cZ Q.n (bA (Q.start.F Q.pr) j v)=cZ Q.n (bA (Q.start.F Q.pr) j λx=>sumN Q.n λl=>-v l*Q.start.F Q.pr l x):=lB λr x hr hx=>by
   by_cases e:r=j
   .subst e
    rw[aJ,aJ,bR (k:=x) hx λl hl hne=>by grind,hF x x hx,Â rfl];lia
   .rw[aF e,aF e]
  rw[e1,v8 hj,bR (k:=j) hj λl hl hne=>?_,g8,dF];have:cZ Q.n (bA (Q.start.F Q.pr) j (Q.start.F Q.pr l))=0:=v7 hj hl (λz=>hne z.symm) λx=>by rw[aJ,aF hne]
  rw[this];lia
 have Lj:∀r j,j<Q.n->Q.start.L r j=Q.pr.a (Q.n+r) j:=λr j hj=>Â hj;have Ln:∀r,Q.start.L r Q.n=Q.pr.c (Q.n+r):=λr=>Ã ∅;have kN:Q.pr.k=Q.m+Q.n:=rfl;have NN:Q.pr.N=Q.n+Q.m+Q.n:=rfl;have nn:Q.pr.n=Q.n:=rfl;refine⟨sq,by show (0:Int)<1;decide,?_,?_,?_,?_,?_,?_,?_,?_,?_,?_,?_,?_⟩
 .show (1:Int)=_*cZ Q.n (Q.start.F Q.pr)
  rw[dF,sq]
 .intro r _ j hj
  rw[Lj r j hj];show _=_*cZ Q.n (bA (Q.start.F Q.pr) j (Q.pr.a (Q.n+r)));rw[dU j _ hj]
  grind
 .intro r _
  show Q.start.L r Q.n=1*Q.pr.c (Q.n+r)+sumN Q.n λj=>Q.start.L r j*Q.pr.c j;rw[Ln,cT λj hj=>by rw[D8 hj];lia];lia
 .intro r _ x hx
  show 1*Q.pr.a (Q.n+r) x+(sumN Q.n λj=>Q.start.L r j*Q.pr.a j x)=0;have hx:x<Q.n:=hx;rw[bR (k:=x) hx λl hl hne=>by rw[mK hl,Ã λz=>hne z.symm];lia,mK hx,Â rfl,Lj r x hx];lia
 .exact λi j _ _ e=>e
 .intro r q _ _ e
  have e:Q.n+r=Q.n+q:=e;lia
 .intro j r hj _ e
  have e:j=Q.n+r:=e
  grind
 .show Q.n+(Q.m+Q.n)=Q.n+Q.m+Q.n
  lia
 .intro u hu
  rw[NN]at hu;by_cases h:u<Q.n
  .exact .inl ⟨u,h,rfl⟩
  .refine .inr ⟨u-Q.n,by rw[kN];lia,?_⟩
   show Q.n+(u-Q.n)=u;lia
 .intro j hj
  show j<Q.n+Q.m+Q.n
  grind
 .intro r hr
  show Q.n+r<Q.n+Q.m+Q.n
  grind
 .intro j hj
  rw[Lj _ j hj];have:Q.n+Q.pr.k=Q.pr.N:=by rw[kN,NN];lia
  rw[this,D7];decide
variable {σ:Int}{T:Tab}
def EA(g:Nat->Int):sumN Q.pr.N g=sumN Q.n g+(sumN Q.m λr=>g (Q.n+r))+sumN Q.n λi=>g (Q.n+Q.m+i):=by
 show sumN (Q.n+Q.m+Q.n) g=_;rw[yV,yV]
def VP(I:Inv Q.pr σ T)(hx:x<Q.n):(sumN Q.n λj=>w j*Q.pr.a (T.f j) x)=-shr Q.n T.f w x+(sumN Q.m λr=>shr Q.n T.f w (Q.n+r)*Q.row r x)+shr Q.n T.f w (Q.n+Q.m+x):=by
 rw[<- D6 (n:=Q.n) (N:=Q.pr.N) (w:=w) I.fN λu=>Q.pr.a u x,EA];have e1:(sumN Q.n λu=>shr Q.n T.f w u*Q.pr.a u x)=-shr Q.n T.f w x:=by
  rw[bR (k:=x) hx λu hu hne=>by rw[mK hu,Ã λz=>hne z.symm];lia,mK hx,Â rfl];lia
 have e2:(sumN Q.m λr=>shr Q.n T.f w (Q.n+r)*Q.pr.a (Q.n+r) x)=sumN Q.m λr=>shr Q.n T.f w (Q.n+r)*Q.row r x:=sumN_congr λr hr=>by rw[M3 hr]
 have e3:(sumN Q.n λi=>shr Q.n T.f w (Q.n+Q.m+i)*Q.pr.a (Q.n+Q.m+i) x)=shr Q.n T.f w (Q.n+Q.m+x):=by
  rw[bR (k:=x) hx λu hu hne=>by rw[uJ hu,Ã λz=>hne z.symm];lia,uJ hx,Â rfl];lia
 rw[e1,e2,e3]
def VQ(I:Inv Q.pr σ T):(sumN Q.n λj=>w j*Q.pr.c (T.f j))=(sumN Q.m λr=>shr Q.n T.f w (Q.n+r)*Q.top r)+sumN Q.n λi=>shr Q.n T.f w (Q.n+Q.m+i)*Q.room i:=by
 rw[<- D6 (n:=Q.n) (N:=Q.pr.N) (w:=w) I.fN λu=>Q.pr.c u,EA];have e1:(sumN Q.n λu=>shr Q.n T.f w u*Q.pr.c u)=0:=cT λu hu=>by rw[D8 hu];lia
 have e2:(sumN Q.m λr=>shr Q.n T.f w (Q.n+r)*Q.pr.c (Q.n+r))=sumN Q.m λr=>shr Q.n T.f w (Q.n+r)*Q.top r:=sumN_congr λr hr=>by rw[M4 hr]
 have e3:(sumN Q.n λi=>shr Q.n T.f w (Q.n+Q.m+i)*Q.pr.c (Q.n+Q.m+i))=sumN Q.n λi=>shr Q.n T.f w (Q.n+Q.m+i)*Q.room i:=sumN_congr λi hi=>by rw[D9 hi]
 rw[e1,e2,e3];lia
def aHL(I:Inv Q.pr σ T):(∀u,0<=shr Q.n T.f (T.L Q.pr.k) u)/\(∀x,x<Q.n->0<=T.s+(sumN Q.m λr=>shr Q.n T.f (T.L Q.pr.k) (Q.n+r)*Q.row r x)+shr Q.n T.f (T.L Q.pr.k) (Q.n+Q.m+x)) /\
  T.L Q.pr.k Q.n=(sumN Q.m λr=>shr Q.n T.f (T.L Q.pr.k) (Q.n+r)*Q.top r)+sumN Q.n λi=>shr Q.n T.f (T.L Q.pr.k) (Q.n+Q.m+i)*Q.room i:=by
 have nn:=λu=>qV (n:=Q.n) (f:=T.f) (w:=T.L Q.pr.k) I.dual u;refine⟨nn,λx hx=>?_,?_⟩
 .have e:=I.cr Q.pr.k (Ç _) x hx
  rw[I.hk,D7]at e;have e2:=VP I (w:=T.L Q.pr.k) hx;have e:T.s*1+(sumN Q.n λj=>T.L Q.pr.k j*Q.pr.a (T.f j) x)=0:=e
  grind
 .have e:=I.lc Q.pr.k (Ç _)
  rw[I.hk,KK]at e;have e:T.L Q.pr.k Q.n=T.s*0+sumN Q.n λj=>T.L Q.pr.k j*Q.pr.c (T.f j):=e;rw[VQ I]at e;lia
def aPM(I:Inv Q.pr σ T)(hp:p<Q.pr.k)(hneg:T.L p Q.n<0)(hall:∀j,j<Q.n->0<=T.L p j):
  let y:=λu=>if u=T.h p then T.s else shr Q.n T.f (T.L p) u
  (∀u,0<=y u)/\(∀x,x<Q.n->0<=(sumN Q.m λr=>y (Q.n+r)*Q.row r x)+y (Q.n+Q.m+x))/\(sumN Q.m λr=>y (Q.n+r)*Q.top r)+(sumN Q.n λi=>y (Q.n+Q.m+i)*Q.room i)<0:=by
 intro y;have pos:=I.pos;have hpN:=I.hN p hp;have nn:∀u,0<=shr Q.n T.f (T.L p) u:=λu=>qV hall u;have y0:∀u,0<=y u:=λu=>by
  grind
 have sh:shr Q.n T.f (T.L p) (T.h p)=0:=shr_no λj hj=>I.fh j p hj 'a';have ys:∀u,y u=shr Q.n T.f (T.L p) u+(if u=T.h p then T.s else 0):=λu=>by
  grind
 have all:∀b:Nat->Int,(sumN Q.pr.N λu=>y u*b u)=T.s*b (T.h p)+sumN Q.n λj=>T.L p j*b (T.f j):=λb=>by
  have e1:(sumN Q.pr.N λu=>y u*b u)=sumN Q.pr.N λu=>shr Q.n T.f (T.L p) u*b u+(if u=T.h p then T.s*b u else 0):=sumN_congr λu _=>by
   grind
  rw[e1,sumN_add,D6 (n:=Q.n) (N:=Q.pr.N) I.fN,bR (k:=T.h p) hpN λu _ hne=>Ã hne,Â rfl];lia
 refine⟨y0,λx hx=>?_,?_⟩
 .have e:=I.cr p 'a' x hx
  have e:T.s*Q.pr.a (T.h p) x+(sumN Q.n λj=>T.L p j*Q.pr.a (T.f j) x)=0:=e;rw[<- all λu=>Q.pr.a u x,EA]at e;have e1:(sumN Q.n λu=>y u*Q.pr.a u x)=-y x:=by
   rw[bR (k:=x) hx λu hu hne=>by rw[mK hu,Ã λz=>hne z.symm];lia,mK hx,Â rfl];lia
  have e2:(sumN Q.m λr=>y (Q.n+r)*Q.pr.a (Q.n+r) x)=sumN Q.m λr=>y (Q.n+r)*Q.row r x:=sumN_congr λr hr=>by rw[M3 hr]
  have e3:(sumN Q.n λi=>y (Q.n+Q.m+i)*Q.pr.a (Q.n+Q.m+i) x)=y (Q.n+Q.m+x):=by
   rw[bR (k:=x) hx λu hu hne=>by rw[uJ hu,Ã λz=>hne z.symm];lia,uJ hx,Â rfl];lia
  grind
 .have e:=I.lc p 'a'
  have e:T.L p Q.n=T.s*Q.pr.c (T.h p)+(sumN Q.n λj=>T.L p j*Q.pr.c (T.f j)):=e;rw[<- all λu=>Q.pr.c u,EA]at e;have e1:(sumN Q.n λu=>y u*Q.pr.c u)=0:=cT λu hu=>by rw[D8 hu];lia
  have e2:(sumN Q.m λr=>y (Q.n+r)*Q.pr.c (Q.n+r))=sumN Q.m λr=>y (Q.n+r)*Q.top r:=sumN_congr λr hr=>by rw[M4 hr]
  have e3:(sumN Q.n λi=>y (Q.n+Q.m+i)*Q.pr.c (Q.n+Q.m+i))=sumN Q.n λi=>y (Q.n+Q.m+i)*Q.room i:=sumN_congr λi hi=>by rw[D9 hi]
  grind
def val(P:Pr)(T:Tab)(u:Nat):Int:=shr P.k T.h (λr=>T.L r P.n) u
def KL(I:Inv Q.pr σ T)(hu:u<Q.pr.N):∃E,At Q.pr T u E (val Q.pr T u):=by
 rcases I.all u hu with ⟨j,hj,e⟩|⟨r,hr,e⟩
 .have:val Q.pr T u=0:=shr_no λr hr z=>I.fh j r hj 'a' (by rw[e,z])
  rw[this,<- e];exact⟨_,D4 hj⟩
 .have:val Q.pr T u=T.L r Q.pr.n:=by
   unfold val;rw[<- e];exact shr_at (λi j hi hj z=>I.hi i j 'a' 'a' z) hr
  rw[this,<- e];exact⟨_,I.at_held 'a'⟩
def val_nonneg(h:∀r,r<Q.pr.k->0<=T.L r Q.n)(u:Nat):0<=val Q.pr T u:=qV h u
def fills(I:Inv Q.pr σ T):(∀r,r<Q.m->val Q.pr T (Q.n+r)+(sumN Q.n λx=>Q.row r x*val Q.pr T x)=T.s*Q.top r)/\(∀i,i<Q.n->val Q.pr T (Q.n+Q.m+i)+val Q.pr T i=T.s*Q.room i)/\T.L Q.pr.k Q.n+(sumN Q.n λx=>val Q.pr T x)=0:=by
 have fillN:∀x,x<Q.n->x<Q.pr.N:=λx hx=>by show x<Q.n+Q.m+Q.n;lia
 -- a relation of the fills and one more
 have rel:∀(u:Nat)(E:Nat->Int)(V:Int)(w:Nat->Int)(ρ0:Int),At Q.pr T u E V->(∀x,x<Q.n->Q.pr.a u x=w x)->Q.pr.c u=ρ0->V+(sumN Q.n λx=>w x*val Q.pr T x)=T.s*ρ0:=λu E V w ρ0 hA ha hc=>by
  have ev:=I.eval (q:=Q.n+1) (ρ:=λm=>if m<Q.n then w m else 1) (u:=λm=>if m<Q.n then m else u) (E:=λm=>open Classical in if hm:m<Q.n then (KL I (fillN m hm)).choose else E) (V:=λm=>if m<Q.n then val Q.pr T m else V) (ρ0:=ρ0) (λm hm=>by
   grind) (λx hx=>by
   have hx:x<Q.n:=hx;rw[sumN,Ã ∅,Ã ∅,ha x hx,bR (k:=x) hx λm hm hne=>by rw[Â hm,Â hm,mK hm,Ã λz=>hne z.symm];lia,Â hx,Â hx,mK hx,Â rfl];lia) (by
   rw[sumN,Ã ∅,Ã ∅,hc,cT λm hm=>by rw[Â hm,Â hm,D8 hm];lia];lia)
  rw[sumN,Ã ∅,Ã ∅]at ev;have e1:(sumN Q.n λm=>(if m<Q.n then w m else 1)*(if m<Q.n then val Q.pr T m else V))=sumN Q.n λx=>w x*val Q.pr T x:=sumN_congr λm hm=>by rw[Â hm,Â hm]
  rw[e1]at ev;lia
 refine⟨λr hr=>?_,λi hi=>?_,?_⟩
 .obtain⟨E,hA⟩:=KL I (u:=Q.n+r) (by show Q.n+r<Q.n+Q.m+Q.n;lia)
  exact rel _ E _ (Q.row r) (Q.top r) hA (λx _=>M3 hr) (M4 hr)
 .obtain⟨E,hA⟩:=KL I (u:=Q.n+Q.m+i) (by show Q.n+Q.m+i<Q.n+Q.m+Q.n;lia)
  have:=rel _ E _ (λx=>if x=i then 1 else 0) (Q.room i) hA (λx _=>uJ hi) (D9 hi);rw[bR (k:=i) hi λx _ hne=>by rw[Ã hne];lia,Â rfl]at this;lia
 .have hA:=I.at_held (r:=Q.pr.k) (Ç _)
  rw[I.hk]at hA;have:=rel _ _ _ (λ_=>1) 0 hA (λx _=>D7) KK;have e:(sumN Q.n λx=>1*val Q.pr T x)=sumN Q.n λx=>val Q.pr T x:=sumN_congr λx _=>by lia
  rw[e]at this;have this:T.L Q.pr.k Q.n+(sumN Q.n λx=>val Q.pr T x)=T.s*0:=this;lia
end
end Sx
namespace Sx
def simplex_ind{P:Pr}{σ:Int}{Good:Tab->Prop}(step:∀T,Inv P σ T->(∀p d,Ch P T p d->Good 'D')->Good T)(T:Tab)(I:Inv P σ T):Good T:=by
 refine ć λh=>?_;have nx:∀B:{T:Tab // Inv P σ T/\¬Good T},∃pd:Nat×Nat,Ch P B.1 pd.1 pd.2/\¬Good (swap B.1 pd.1 pd.2):=λB=>by
  refine ć λz=>B.2.2 (step B.1 B.2.1 λp d C=>?_);exact ć λg=>z ⟨(p,d),C,g⟩
 let nxt:{T:Tab // Inv P σ T/\¬Good T}->{T:Tab // Inv P σ T/\¬Good T}:=λB=>⟨swap B.1 (nx B).choose.1 (nx B).choose.2,(nx B).choose_spec.1.inv B.2.1,(nx B).choose_spec.2⟩;let sq:Nat->{T:Tab // Inv P σ T/\¬Good T}:=λi=>Nat.rec ⟨T,I,h⟩ (λ_ B=>nxt B) i;have R:II P σ (λi=>(sq i).1) (λi=>(nx (sq i)).choose.1) (λi=>(nx (sq i)).choose.2) (most P.N):=⟨I,λi _=>(nx (sq i)).choose_spec.1,λi _=>rfl⟩;exact absurd R.most (ø _)
structure LT where
 s:Int
 free:ZK
 held:ZK
 lines:List (ZK)
 goal:ZK
structure LnR(n:Nat)(ln:ZK)(g:Nat->Int):Prop where
 len:ln.length=n+1
 at':∀j,j<=n->ln[j]?=some (g j)
def LnR.getD(h:LnR n ln g)(hj:j<=n):ln.getD j 0=g j:=by
 rw[Ê,h.at' j hj];rfl
structure Rp(P:Pr)(L:LT)(T:Tab):Prop where
 s:L.s=T.s
 fl:L.free.length=P.n
 hl:L.held.length=P.k
 ll:L.lines.length=P.k
 f:∀j,j<P.n->L.free[j]?=some (T.f j:Int)
 h:∀r,r<P.k->L.held[r]?=some (T.h r:Int)
 l:∀r,r<P.k->∃ln,L.lines[r]?=some ln/\LnR P.n ln (T.L r)
 g:LnR P.n L.goal (T.L P.k)
def clearL(ln pv:ZK)(d:Nat)(s:Int):ZK:=(List.zipWith (λone other=>(-pv.getD d 0*one+ln.getD d 0*other)/s) ln pv).set d (ln.getD d 0)
def turnL(pv:ZK)(d:Nat)(s:Int):ZK:=(pv.map λx=>-x).set d (-s)
def swapL(L:LT)(p d:Nat):LT where
 s:=-(L.lines.getD p []).getD d 0
 free:=L.free.set d (L.held.getD p 0)
 held:=L.held.set p (L.free.getD d 0)
 lines:=(L.lines.map λln=>clearL ln (L.lines.getD p []) d L.s).set p (turnL (L.lines.getD p []) d L.s)
 goal:=clearL L.goal (L.lines.getD p []) d L.s
def HC{ln pv:ZK}(ha:LnR n ln a)(hb:LnR n pv b)(hd:d<=n):LnR n (clearL ln pv d s) λj=>if j=d then a d else (-b d*a j+a d*b j)/s:=by
 refine⟨by unfold clearL;rw[Ú,List.length_zipWith,ha.len,hb.len,Nat.min_self],λj hj=>?_⟩
 unfold clearL;rw[Ć,ha.getD hd,hb.getD hd];by_cases e:d=j
 .rw[Â e,Â (by rw[List.length_zipWith,ha.len,hb.len,Nat.min_self];exact Nat.lt_succ_of_le ‹_›)]
  grind
 .rw[Ã e,List.getElem?_zipWith,ha.at' j hj,hb.at' j hj]
  show _=some (if j=d then _ else _);rw[Ã (Ñ e)]
def aBE{pv:ZK}(hb:LnR n pv b)(hd:d<=n):LnR n (turnL pv d s) λj=>if j=d then -s else -b j:=by
 refine⟨by unfold turnL;rw[Ú,Ä,hb.len],λj hj=>?_⟩
 unfold turnL;rw[Ć];by_cases e:d=j
 .rw[Â e,Â (by rw[Ä,hb.len];exact Nat.lt_succ_of_le ‹_›)]
  grind
 .rw[Ã e,Î,hb.at' j hj]
  grind
def Rp.swap(R:Rp P L T)(hp:p<P.k)(hd:d<P.n):Rp P (swapL L p d) 'D':=by
 let⟨pv,e1,e2⟩:=R.l p hp;have eP:L.lines.getD p []=pv:=by rw[Ê,e1];rfl
 have eH:L.held.getD p 0=T.h p:=by rw[Ê,R.h p hp];rfl
 have eF:L.free.getD d 0=T.f d:=by rw[Ê,R.f d hd];rfl
 refine⟨?_,by show (L.free.set _ _).length=_;rw[Ú,R.fl],by show (L.held.set _ _).length=_;rw[Ú,R.hl],by show ((L.lines.map _).set _ _).length=_;rw[Ú,Ä,R.ll],λj hj=>?_,λr hr=>?_,λr hr=>?_,?_⟩
 .show -(L.lines.getD p []).getD d 0=-T.L p d
  rw[eP,e2.getD 'a']
 .show (L.free.set d (L.held.getD p 0))[j]?=some ((if j=d then T.h p else T.f j:Nat):Int)
  rw[Ć,eH];by_cases e:d=j
  .rw[Â e,Â (by rw[R.fl];assumption),Â e.symm]
  .rw[Ã e,Ã (Ñ e),R.f j hj]
 .show (L.held.set p (L.free.getD d 0))[r]?=some ((if r=p then T.f d else T.h r:Nat):Int)
  rw[Ć,eF];by_cases e:p=r
  .rw[Â e,Â (by rw[R.hl];assumption),Â e.symm]
  .rw[Ã e,Ã (Ñ e),R.h r hr]
 .show ∃ln,((L.lines.map λln=>clearL ln (L.lines.getD p []) d L.s).set p (turnL (L.lines.getD p []) d L.s))[r]?=some ln/\LnR P.n ln (λj=>if r=p then (if j=d then -T.s else -T.L p j)else (if j=d then T.L r d else (-T.L p d*T.L r j+T.L r d*T.L p j)/T.s))
  rw[Ć,eP,R.s];by_cases e:p=r
  .rw[Â e,Â 'k']
   sleep 7;have:=aBE (s:=T.s) e2 (d:=d) 'a'
   grind
  .obtain⟨ln,h1,h2⟩:=R.l r hr
   rw[Ã e,Î,h1];sleep 7;simp![Ã (Ñ e)];exact HC h2 e2 'a'
 .show LnR P.n (clearL L.goal (L.lines.getD p []) d L.s) (λj=>if P.k=p then (if j=d then -T.s else -T.L p j)else (if j=d then T.L P.k d else (-T.L p d*T.L P.k j+T.L P.k d*T.L p j)/T.s))
  simp![Ã (show ¬P.k=p by exact ß ‹_›)];rw[eP,R.s];exact HC R.g e2 'a'
def startL(Å:ZE)(Á:ZK):LT where
 s:=1
 free:=(List.range Á.length).map λ(i:Nat)=>(i:Int)
 held:=(List.range (Å.length+Á.length)).map λ(i:Nat)=>((Á.length+i:Nat):Int)
 lines:=(Å.map λr=>r.1++[r.2])++(List.range Á.length).map λ(i:Nat)=>((List.replicate Á.length 0).set i 1)++[Á.getD i 0]
 goal:=List.replicate Á.length 1++[0]
def lpOf(Å:ZE)(Á:ZK):Lp where
 n:=Á.length
 m:=Å.length
 row:=λr x=>(Å.getD r ([],0)).1.getD x 0
 top:=λr=>(Å.getD r ([],0)).2
 room:=λi=>Á.getD i 0
def LnR.snoc{v:Nat->Int}(h1:a.length=n)(h2:∀j,j<n->a[j]?=some (v j))(h3:v n=b):LnR n (a++[b]) v:=⟨by rw[Ì,h1];rfl,λj hj=>by
 by_cases c:j<n
 .rw[ñ (by rw[h1];exact c)]
  exact h2 j c
 .obtain rfl:n=j:=Nat.le_antisymm (å.mp c) hj
  rw[á (by rw[h1];exact Ç _),h1,þ,h3];rfl⟩
def start_ok(hr:∀r∈Å,r.1.length=Á.length):Rp (lpOf Å Á).pr (startL Å Á) (lpOf Å Á).start:=by
 have L1:∀r j,j<Á.length->(lpOf Å Á).start.L r j=(lpOf Å Á).pr.a (Á.length+r) j:=λr j hj=>Â hj;have L2:∀r,(lpOf Å Á).start.L r Á.length=(lpOf Å Á).pr.c (Á.length+r):=λr=>Ã (ø _);have lm:(Å.map λr=>r.1++[r.2]).length=Å.length:=Ä ..;have lr:∀{f:Nat->ZK},((List.range Á.length).map f).length=Á.length:=λ{f}=>by rw[Ä,List.length_range]
 refine⟨rfl,by show ((List.range _).map _).length=Á.length;rw[Ä,List.length_range],by show ((List.range _).map _).length=Å.length+Á.length;rw[Ä,List.length_range],by show List.length (_++_)=Å.length+Á.length;rw[Ì,lm,lr],λj hj=>?_,λr hr'=>?_,λr hr'=>?_,?_⟩
 .show ((List.range Á.length).map _)[j]?=_
  rw[Î,ÿ (n:=Á.length) hj];rfl
 .show ((List.range (Å.length+Á.length)).map _)[r]?=_
  rw[Î,ÿ (n:=Å.length+Á.length) hr'];rfl
 .show ∃ln,(List.append _ _)[r]?=some ln/\LnR Á.length ln _
  rw[List.append_eq];by_cases c:r<Å.length
  .have hg:Å.getD r ([],0)=Å[r]:=by rw[Ê,É c];rfl
   have hl:=hr Å[r] (Č c);rw[ñ (by rw[lm];exact c),Î,É c];refine⟨_,rfl,LnR.snoc hl (λj hj=>?_) ?_⟩
   .rw[L1 r j hj,show (lpOf Å Á).pr.a (Á.length+r) j=_ from M3 (Q:=lpOf Å Á) c]
    show _=some ((Å.getD r ([],0)).1.getD j 0);rw[hg,Ê,É (by rw[hl];exact hj)];rfl
   .rw[L2,show (lpOf Å Á).pr.c (Á.length+r)=_ from M4 (Q:=lpOf Å Á) c]
    show (Å.getD r ([],0)).2=_;rw[hg]
  .obtain⟨i,rfl⟩:=Nat.exists_eq_add_of_le (å.mp c)
   have ci:i<Á.length:=Nat.lt_of_add_lt_add_left hr';rw[á (by rw[lm];exact Nat.le_add_right _ _),lm,Nat.add_sub_cancel_left,Î,ÿ ci];refine⟨_,rfl,LnR.snoc (by rw[Ú,õ]) (λj hj=>?_) ?_⟩
   .rw[L1 _ j hj,<- Nat.add_assoc,show (lpOf Å Á).pr.a (Á.length+Å.length+i) j=_ from uJ (Q:=lpOf Å Á) ci,Ć,ą,õ]
    by_cases e:i=j
    .rw[Â e,Â ci,Â e.symm]
    .rw[Ã e,Â hj,Ã (Ñ e)]
   .rw[L2,<- Nat.add_assoc,show (lpOf Å Á).pr.c (Á.length+Å.length+i)=_ from D9 (Q:=lpOf Å Á) ci]
    rfl
 .have eN:Á.length+(lpOf Å Á).pr.k=(lpOf Å Á).pr.N:=(Nat.add_assoc _ _ _).symm
  refine LnR.snoc (n:=Á.length) (õ ..) (λj hj=>?_) ?_
  .rw[L1 _ j hj,eN,D7,ą,Â hj]
  .rw[L2,eN,KK]
end Sx
namespace Sx
def BestC(G l:Nat->Int)(f:Nat->Nat)(j:Nat):Option Nat->Prop
 |none=>∀i,i<j->0<=l i
 |some b=>b<j/\l b<0/\∀i,i<j->l i<0->(G b*-l i<G i*-l b\/(G b*-l i=G i*-l b/\f b<=f i))
section
def BestC.zero:BestC G l f 0 none:=λi hi=>by grind
def BestC.skip(h:BestC G l f j o)(hj:¬l j<0):BestC G l f (j+1) o:=by
 cases o with
 |none=>
  intro i hi;by_cases e:i=j
  .grind
  .exact h i ∅
 |some b=>
  let⟨h1,h2,h3⟩:=h;refine⟨by grind,h2,λi hi hn=>?_⟩
  grind
def BestC.first(h:BestC G l f j none)(hj:l j<0):BestC G l f (j+1) (some j):=by
 refine⟨by exact î _,hj,λi hi hn=>?_⟩;by_cases e:i=j
 .grind
 .exact absurd (h i ∅) ∅
def BestC.worse(h:BestC G l f j (some b))(na:¬(G j*-l b<G b*-l j\/(G j*-l b=G b*-l j/\f j<f b))):BestC G l f (j+1) (some b):=by
 let⟨h1,h2,h3⟩:=h;refine⟨by grind,h2,λi hi hn=>?_⟩;by_cases e:i=j
 .subst e
  generalize hx:G i*-l b=x at na⊢;generalize hy:G b*-l i=y at na⊢;omega
 .exact h3 i ∅ hn
def BT{A B C a b c:Int}(ha:0<a)(hb:0<b)(hc:0<c)(h1:A*b<=B*a)(h2:B*c<=C*b):A*c<=C*a:=by
 have e1:A*b*c<=B*a*c:=Ą h1 (by exact à ‹_›);have e2:B*c*a<=C*b*a:=Ą h2 (by exact à ‹_›);have e3:(A*c)*b<=(C*a)*b:=by
  have p1:A*b*c=(A*c)*b:=by grind
  have p2:B*a*c=B*c*a:=by grind
  have p3:C*b*a=(C*a)*b:=by grind
  lia
 simp_all
def PZ{A B C a b c:Int}(ha:0<a)(hb:0<b)(hc:0<c)(h1:A*b<=B*a)(h2:B*c<=C*b)(h:A*b<B*a\/B*c<C*b):A*c<C*a:=by
 have p1:A*b*c=(A*c)*b:=by grind
 have p2:B*a*c=B*c*a:=by grind
 have p3:C*b*a=(C*a)*b:=by grind
 have e1:A*b*c<=B*a*c:=Ą h1 (by exact à ‹_›);have e2:B*c*a<=C*b*a:=Ą h2 (by exact à ‹_›);have e3:(A*c)*b<(C*a)*b:=by
  rcases h with h|h
  .have e4:A*b*c<B*a*c:=Int.mul_lt_mul_of_pos_right h hc
   lia
  .have e4:B*c*a<C*b*a:=Int.mul_lt_mul_of_pos_right h ha
   lia
 simp_all
def BestC.better(h:BestC G l f j (some b))(hj:l j<0)(ha:G j*-l b<G b*-l j\/(G j*-l b=G b*-l j/\f j<f b)):BestC G l f (j+1) (some j):=by
 let⟨h1,h2,h3⟩:=h;refine⟨by exact î _,hj,λi hi hn=>?_⟩;by_cases e:i=j
 .grind
 .have q:=h3 i ∅ hn
  have L1:G j*-l b<=G b*-l j:=by rcases ha with z|z<;>lia
  have L2:G b*-l i<=G i*-l b:=by rcases q with z|z<;>lia
  by_cases s:G j*-l b<G b*-l j\/G b*-l i<G i*-l b
  .exact .inl (PZ ∅ ∅ ∅ L1 L2 s)
  .have s1:G j*-l b=G b*-l j:=by lia
   have s2:G b*-l i=G i*-l b:=by lia
   have le:=BT ∅ ∅ ∅ L1 L2;have ge:=BT (A:=G i) (B:=G b) (C:=G j) (a:=-l i) (b:=-l b) (c:=-l j) ∅ ∅ ∅ ∅ ∅;refine .inr ⟨by omega,?_⟩
   grind
end
def ch_of(hp:p<P.k)(neg:T.L p P.n<0)(first:∀r,r<P.k->T.L r P.n<0->T.h p<=T.h r)(hb:BestC (T.L P.k) (T.L p) T.f P.n (some d)):Ch P T p d:=⟨hp,neg,first,hb.1,hb.2.1,hb.2.2⟩
end Sx
namespace Sx
def yW{X:Int}(hX:0<=X):∀{n:Nat}{f:Nat->Int},(∀i,i<n->(f i).natAbs<=X.natAbs)->(sumN n f).natAbs<=n*X.natAbs
 |0,_,_=>by simp[sumN]
 |n+1,f,h=>by
  rw[sumN];have h1:=yW hX (n:=n) (f:=f) λi hi=>h i (by exact Nat.lt_succ_of_lt ‹_›);have h2:=h n (by exact î _);have h3:=Int.natAbs_add_le (sumN n f) (f n);rw[Nat.add_mul];lia
def aBF(i:Nat):(č i).natAbs=1:=by
 unfold č;split<;>rfl
def fac:Nat->Nat
 |0=>1
 |n+1=>(n+1)*fac n
def EB :∀{n:Nat}{M:Nat->jO},(∀r c,r<n->c<n->(M r c).natAbs<=B)->(cZ n M).natAbs<=fac n*B^n
 |0,M,_=>by simp[cZ,fac]
 |n+1,M,h=>by
  rw[cZ];have key:∀i,i<n+1->(č i*M i 0*cZ n (eX M i)).natAbs<=((B*(fac n*B^n):Nat):Int).natAbs:=λi hi=>by
   have ih:=EB (B:=B) (n:=n) (M:=eX M i) λr c hr hc=>by
    unfold eX;refine h _ _ ?_ (by exact Nat.succ_lt_succ ‹_›);unfold skip;split<;>lia
   rw[Int.natAbs_mul,Int.natAbs_mul,Int.natAbs_natCast];have h1:(č i).natAbs=1:=aBF i;rw[h1,Nat.one_mul];exact Nat.mul_le_mul (h i 0 hi (by exact Ċ _)) ih
  have:=yW (X:=((B*(fac n*B^n):Nat):Int)) ∅ key;rw[Int.natAbs_natCast]at this;refine Ø this (ý ?_);rw[fac,Nat.pow_succ]
  grind
theorem Inv.small(I:Inv P σ T)(ha:∀u x,u<=P.N->x<P.n->(P.a u x).natAbs<=A)(hc:∀u,u<=P.N->(P.c u).natAbs<=C):
  T.s.natAbs<=fac P.n*A^P.n/\(∀r j,r<=P.k->j<P.n->(T.L r j).natAbs<=fac P.n*A^P.n)/\∀r,r<=P.k->(T.L r P.n).natAbs<=(P.n+1)*(fac P.n*A^P.n*C):=by
 have sg:σ.natAbs=1:=by
  have:=congrArg Int.natAbs I.sg;rw[Int.natAbs_mul]at this;have h1:(1:Int).natAbs=1:=rfl;rw[h1]at this;exact Nat.eq_one_of_mul_eq_one_left this
 have hN:∀r,r<=P.k->T.h r<=P.N:=λr hr=>by
  by_cases e:r=P.k
  .rw[e,I.hk];exact Ç _
  .exact È (I.hN r (by exact Nat.lt_of_le_of_ne ‹_› ‹_›))
 have hs:T.s.natAbs<=fac P.n*A^P.n:=by
  rw[I.sd,Int.natAbs_mul,sg,Nat.one_mul];exact EB λr c hr hcn=>ha _ _ (È (I.fN r hr)) hcn
 have hl:∀r j,r<=P.k->j<P.n->(T.L r j).natAbs<=fac P.n*A^P.n:=λr j hr hj=>by
  rw[I.ld r hr j hj,Int.natAbs_mul,Int.natAbs_neg,sg,Nat.one_mul];refine EB λq c hq hcn=>?_;by_cases e:q=j
  .subst e;rw[aJ];exact ha _ _ (hN r hr) hcn
  .rw[aF e];exact ha _ _ (È (I.fN q hq)) hcn
 refine⟨hs,hl,λr hr=>?_⟩;rw[I.lc r hr];have h1:(T.s*P.c (T.h r)).natAbs<=fac P.n*A^P.n*C:=by
  rw[Int.natAbs_mul];exact Nat.mul_le_mul hs (hc _ (hN r hr))
 have h2:=yW (X:=((fac P.n*A^P.n*C:Nat):Int)) ∅ (n:=P.n) (f:=λj=>T.L r j*P.c (T.f j)) λj hj=>by
  rw[Int.natAbs_mul,Int.natAbs_natCast];exact Nat.mul_le_mul (hl r j hr hj) (hc _ (È (I.fN j hj)))
 rw[Int.natAbs_natCast]at h2;have h3:=Int.natAbs_add_le (T.s*P.c (T.h r)) (sumN P.n λj=>T.L r j*P.c (T.f j));rw[Nat.add_mul];lia
end Sx
namespace Sx
def v9(h:∀i,i<n->f i<=g i):sumN n f<=sumN n g:=by
 induction n with
 |zero=>exact Int.le_refl _
 |succ n ih=>
  rw[sumN,sumN]
  grind
def VR(h:r<Å.length):(lpOf Å Á).row r x=Å[r].1.getD x 0:=by
 show (Å.getD r ([],0)).1.getD x 0=_
 grind
def VS(h:r<Å.length):(lpOf Å Á).top r=Å[r].2:=by
 show (Å.getD r ([],0)).2=_
 grind
section
variable {rs:ZE}{r:ZK×Int}
def ŷ{P:ZK×Int->Prop}(h:∀x∈rs,P x)(h1:P r):∀x∈rs++[r],P x:=λx hx=>by
 grind
end
end Sx
namespace Sx
variable {Q:Lp}{T:Tab}{σ:Int}{z:Nat->Int}{D:Int}
structure RightZ(Q:Lp)(z:Nat->Int)(D:Int):Prop where
 z0:∀x,x<Q.n->0<=z x
 zr:∀x,x<Q.n->z x<=Q.room x*D
 zt:∀r,r<Q.m->(sumN Q.n λx=>Q.row r x*z x)<=Q.top r*D
def ϵ{y:Nat->Int}(hy:∀u,0<=y u)(F:RightZ Q z D):(sumN Q.n λx=>((sumN Q.m λr=>y (Q.n+r)*Q.row r x)+y (Q.n+Q.m+x))*z x)<=D*((sumN Q.m λr=>y (Q.n+r)*Q.top r)+sumN Q.n λi=>y (Q.n+Q.m+i)*Q.room i):=by
 have a1:(sumN Q.m λr=>y (Q.n+r)*sumN Q.n λx=>Q.row r x*z x)<=sumN Q.m λr=>D*(y (Q.n+r)*Q.top r):=v9 λr hr=>by
  rw[Int.mul_left_comm,Int.mul_comm D];exact Int.mul_le_mul_of_nonneg_left (F.zt r hr) (hy _)
 have a2:(sumN Q.n λi=>y (Q.n+Q.m+i)*z i)<=sumN Q.n λi=>D*(y (Q.n+Q.m+i)*Q.room i):=v9 λi hi=>by
  rw[Int.mul_left_comm,Int.mul_comm D];exact Int.mul_le_mul_of_nonneg_left (F.zr i hi) (hy _)
 have e1:(sumN Q.m λr=>y (Q.n+r)*sumN Q.n λx=>Q.row r x*z x)=sumN Q.n λx=>sumN Q.m λr=>y (Q.n+r)*(Q.row r x*z x):=by
  rw[<- oO];exact sumN_congr λr _=>sumN_mul.symm
 have e2:(sumN Q.n λx=>((sumN Q.m λr=>y (Q.n+r)*Q.row r x)+y (Q.n+Q.m+x))*z x)=(sumN Q.m λr=>y (Q.n+r)*sumN Q.n λx=>Q.row r x*z x)+sumN Q.n λi=>y (Q.n+Q.m+i)*z i:=by
  rw[e1,<- sumN_add];refine sumN_congr λx _=>?_;rw[Int.add_mul,Int.mul_comm (sumN _ _),<- sumN_mul];congr 1;exact sumN_congr λr _=>by grind
 rw[e2,Int.mul_add,<- sumN_mul,<- sumN_mul];exact Int.add_le_add a1 a2
def lessN(I:Inv Q.pr σ T)(F:RightZ Q z D):(sumN Q.n λx=>val Q.pr T x)*D<=(sumN Q.n z)*T.s:=by
 let⟨b1,b2,b3⟩:=aHL I;let⟨_,_,a3⟩:=fills I;have h:=ϵ b1 F;rw[<- b3]at h;have c:=v9 (n:=Q.n) (f:=λ_=>0) λx hx=>ê (b2 x hx) (F.z0 x hx);rw[cT λ_ _=>rfl]at c;have e:(sumN Q.n λx=>(T.s+(sumN Q.m λr=>shr Q.n T.f (T.L Q.pr.k) (Q.n+r)*Q.row r x)+shr Q.n T.f (T.L Q.pr.k) (Q.n+Q.m+x))*z x)=T.s*sumN Q.n z+sumN Q.n λx=>((sumN Q.m λr=>shr Q.n T.f (T.L Q.pr.k) (Q.n+r)*Q.row r x)+shr Q.n T.f (T.L Q.pr.k) (Q.n+Q.m+x))*z x:=by
  rw[<- sumN_mul,<- sumN_add];exact sumN_congr λx _=>by grind
 rw[e]at c;have a4:T.L Q.pr.k Q.n=-sumN Q.n λx=>val Q.pr T x:=by lia
 rw[a4,Int.mul_neg,Int.mul_comm D]at h
 grind
theorem noneN(I:Inv Q.pr σ T)(hp:p<Q.pr.k)(hn:T.L p Q.n<0)(ha:∀j,j<Q.n->0<=T.L p j)(hD:0<D)(F:RightZ Q z D):False:=by
 let⟨b1,b2,b3⟩:=aPM I hp hn ha;have h:=ϵ b1 F;have c:=v9 (n:=Q.n) (f:=λ_=>0) λx hx=>ê (b2 x hx) (F.z0 x hx);rw[cT λ_ _=>rfl]at c;exact Int.not_lt.mpr (Int.le_trans c h) (Int.mul_neg_of_pos_of_neg hD b3)
end Sx
namespace Sx
variable {z:Nat->Int}{D:Int}
def RowZ(n:Nat)(z:Nat->Int)(D:Int)(r:ZK×Int):Prop:=(sumN n λx=>r.1.getD x 0*z x)<=r.2*D
def rz_iff:RightZ (lpOf Å Á) z D↔(∀x,x<Á.length->0<=z x/\z x<=Á.getD x 0*D)/\∀r∈Å,RowZ Á.length z D r:=by
 refine⟨λh=>⟨λx hx=>⟨h.z0 x hx,h.zr x hx⟩,λr hr=>?_⟩,λ⟨h1,h2⟩=>⟨λx hx=>(h1 x hx).1,λx hx=>(h1 x hx).2,λr hr=>?_⟩⟩
 .obtain⟨i,hi,rfl⟩:=List.getElem_of_mem hr
  have h:=h.zt i hi;rw[VS hi]at h;unfold RowZ;rw[<- sumN_congr (f:=λx=>(lpOf Å Á).row i x*z x) λx _=>by rw[VR hi]];exact h
 .have h:=h2 Å[r] (Č hr)
  rw[VS hr,sumN_congr (g:=λx=>Å[r].1.getD x 0*z x) λx _=>by rw[VR hr]];exact h
def Into(Å:ZE)(Á:ZK)(rows':ZE)(rooms':ZK):Prop:=∀z D,0<D->RightZ (lpOf Å Á) z D->∃z',RightZ (lpOf rows' rooms') z' D/\sumN rooms'.length z'=sumN Á.length z
def Into.trans(h:Into a b c d)(g:Into c d e f):Into a b e f:=λz D hD h1=>by
 let⟨z1,r1,e1⟩:=h z D hD h1;let⟨z2,r2,e2⟩:=g z1 D hD r1
 grind
def RowZ.top(he:0<=e)(hD:0<D)(h:RowZ n z D r):RowZ n z D (r.1,r.2+e):=by
 unfold RowZ at *;dsimp only;rw[Int.add_mul];have:=ê he (à hD);lia
def sumN_shift:∀{n:Nat}{f:Nat->Int},sumN (n+1) f=f 0+sumN n λx=>f (x+1)
 |0,f=>by show 0+f 0=f 0+0;lia
 |n+1,f=>by
  rw[sumN,sumN_shift (n:=n),sumN];lia
end Sx
namespace L2
open PySem PySem.Spec
def aK3:lK (m+k+1) (k:Int)=some k:=by
 unfold lK;rw[Â ∅,Â ∅,ā]
def aK4:lK (m+1+1) 1=some 1:=aK3 (k:=1)
def M5{f:M (ZI)}{e:M D}{δ δ1:DS}{ds:ZI}{Q:D->ZO}(I:Nat->ZI->ZO)(hf:f δ=.ok ds δ1)(hl:ds.length<=1000)(h0:I 0 [] (none::δ1))(hs:∀(k:Nat)(d:D)(acc:ZI)(δ:DS),ds[k]?=some d->I k acc δ->∃δ',dY 0 d δ=some δ'/\aY e δ' λy δ2=>I (k+1) (acc++[y]) δ2)(hq:∀acc δ,I ds.length acc δ->1<=δ.length/\Q (.list acc) (δ.drop 1)):aY (dP 1 (dY 0) f dH e) δ Q:=by
 have main:∀(n k:Nat)(acc:ZI)(δ:DS),k+n=ds.length->acc.length=k->I k acc δ->∃acc' δ',bN (dY 0) dH e (ds.drop k) acc δ=.ok acc' δ'/\I ds.length acc' δ':=by
  intro n
  induction n with
  |zero=>
   intro k acc δ hk _ h;have:k=ds.length:=by assumption
   subst this;rw[List.drop_length];exact⟨acc,δ,rfl,h⟩
  |succ n ih=>
   intro k acc δ hk ha h;have hlt:k<ds.length:=by lia
   let⟨δ',e1,w⟩:=hs k ds[k] acc δ (É hlt) h;let⟨y,δ2,e2,q⟩:=w.ex;let⟨acc',δ3,e3,q3⟩:=ih (k+1) (acc++[y]) δ2 ∅ (by simp[ha]) q;refine⟨acc',δ3,?_,q3⟩;rw[ö hlt];unfold bN;rw[e1];simp![dH,Res.bind,if_true,e2];rw[Â (by rw[ha];exact Ö (show k<1000 by exact Ö ‹_› ‹_›) ⋯),e3]
 let⟨acc,δ',e1,q⟩:=main ds.length 0 [] (none::δ1) (by exact Nat.add_comm _ _) rfl h0;let⟨q1,q2⟩:=hq acc δ' q;refine aY.of (a:=.list acc) (δ1:=δ'.drop 1) ?_ q2;unfold dP;rw[hf];simp![Res.bind];rw[show List.replicate 1 (none:ZL)++δ1=none::δ1 from rfl];rw[List.drop_zero]at e1;rw[e1];dsimp only;rw[Â q1]
def VT{f:M D}{δ δ1:DS}{n:Int}(hf:f δ=.ok (.int n) δ1)(h0:-1000<=n)(h1:n<=1000):vJ [f] δ=.ok (iO 0 n.toNat) δ1:=by
 simp![vJ,aZ,hf,aU,lT];rw[Â ⟨∅,∅⟩]
def eQ{d:D}(h:aY f δ λa δ1=>a=d/\δ1=δ2):f δ=.ok d δ2:=by
 let⟨a,δ1,e,rfl,rfl⟩:=h.ex;exact e
end L2
namespace Toy
open PySem L2
def E7(a b:Nat):Nat.gcd b (a % b)=Nat.gcd a b:=by
 rw[Nat.gcd_comm b,<- Nat.gcd_rec,Nat.gcd_comm]
def aBG{a b:Nat}(h:0<b):CL (.int a) (.int b)=some (.int ((a % b:Nat):Int)):=by
 rw[FQ ∅];rfl
def M6:∀(n a b:Nat)(o:ZL),b<=n->∃o',eZ (dB (j9 FK (bQ 1) (dC (.int 0)))) (eK (jU 2 (j9 CL (bQ 0) (bQ 1))) (eK (jU 0 (bQ 1)) (jU 1 (bQ 2)))) [some (.int a),some (.int b),o]=.ok .next [some (.int (Nat.gcd a b:Nat)),some (.int 0),o']
 |n,a,0,o,_=>⟨o,by
  rw[eG];have:dB (j9 FK (bQ 1) (dC (.int 0))) [some (.int a),some (.int (0:Nat)),o]=.ok false [some (.int a),some (.int (0:Nat)),o]:=u1 (jY (cE rfl) iS rfl);rw[this,Nat.gcd_zero_right];rfl⟩
 |0,a,b+1,o,h=>absurd h (by exact absurd ‹_› (Nat.not_lt_zero _))
 |n+1,a,b+1,o,h=>by
  let⟨o',ih⟩:=M6 n (b+1) (a % (b+1)) (some (.int ((a % (b+1):Nat):Int))) (by have:=Nat.mod_lt a (show 0<b+1 by exact Ċ _);lia);refine⟨o',?_⟩;rw[eG];have c:dB (j9 FK (bQ 1) (dC (.int 0))) [some (.int a),some (.int (b+1:Nat)),o]=.ok true [some (.int a),some (.int (b+1:Nat)),o]:=by
   refine u1 (jY (cE rfl) iS ?_);rw[LO];have:¬((b+1:Nat):Int)=0:=by lia
   simp;assumption
  rw[c];simp![aU,if_true];have e:eK (jU 2 (j9 CL (bQ 0) (bQ 1))) (eK (jU 0 (bQ 1)) (jU 1 (bQ 2))) [some (.int a),some (.int (b+1:Nat)),o]=.ok .next [some (.int (b+1:Nat)),some (.int ((a % (b+1):Nat):Int)),some (.int ((a % (b+1):Nat):Int))]:=by
   simp![eK,jU,j9,bQ,List.getElem?_cons_zero,List.getElem?_cons_succ,aU,aBG (show 0<b+1 by exact Ċ _)];rfl
  rw[e];simp![aU];rw[ih,E7]
def aHN(hb:body=eK (eZ (dB (j9 FK (bQ 1) (dC (.int 0)))) (eK (jU 2 (j9 CL (bQ 0) (bQ 1))) (eK (jU 0 (bQ 1)) (jU 1 (bQ 2))))) (wQ (bQ 0)))(a b:Nat):aR 3 [] 0 body [.int a,.int b]=.ok (.int (Nat.gcd a b:Nat)) []:=by
 subst hb;let⟨o,h⟩:=M6 b a b none (Ç _);sleep 3;refine SL (bO.of (fl:=.next) h ?_);dsimp![SK];exact aFZ (aY.of (cE rfl) ⟨rfl,rfl⟩)
def aK5(a b:Nat):i5 [.int a,.int b]=.ok (.int (Nat.gcd a b:Nat)) []:=aHN rfl a b
def fr(p:Int×Int):D:=.tuple [.int p.1,.int p.2]
abbrev iJ(ps:ZF):D:=.list (ps.map fr)
def dv(t b:Int):Int:=if b<0 then -(Nat.gcd t.natAbs b.natAbs:Int)else (Nat.gcd t.natAbs b.natAbs:Int)
def vC(hb:b≠0)(hl:(dv t b).natAbs.log2<9000):fJ [.int t,.int b]=.ok (.tuple [.int (t.fdiv (dv t b)),.int (b.fdiv (dv t b))]) []:=by
 have hg:0<Nat.gcd t.natAbs b.natAbs:=Nat.gcd_pos_of_pos_right _ ∅;have h0:dv t b≠0:=by unfold dv;split<;>lia
 have f1:∀i:Int,AX (.int i) (.int (dv t b))=some (.int (i.fdiv (dv t b))):=λi=>Â ⟨h0,hl⟩;sleep 3;show bO qH [some (.int t),some (.int b),none] _ _ _ _;unfold qH;dsimp? [hb,aK5,decide_eq_true_eq];by_cases hn:b<0
 .have e:dv t b=-(Nat.gcd t.natAbs b.natAbs:Int):=by unfold dv;rw[Â hn]
  rw[e]at f1⊢;dsimp? [hn,f1]
 .have e:dv t b=(Nat.gcd t.natAbs b.natAbs:Int):=by unfold dv;rw[Ã hn]
  rw[e]at f1⊢;dsimp? [hn,f1]
def M7(hb:b≠0)(ft:bP n t)(fb:bP n b)(hn:n<=9000):∃x y,fJ [.int t,.int b]=.ok (fr (x,y)) []/\0<y/\x*b=t*y/\Int.gcd x y=1/\bP n x/\bP n y:=by
 have hd:dv t b=(if b<0 then -(Int.gcd t b:Int)else (Int.gcd t b:Int)):=rfl;have gl:(Int.gcd t b:Int).natAbs<=b.natAbs:=by
  have:=Int.gcd_le_natAbs_right (a:=t) hb;assumption
 have hl:(dv t b).natAbs.log2<9000:=by
  have fg:bP n (Int.gcd t b:Int):=fb.le gl;rw[hd];split
  .exact fg.neg.log2 hn
  .exact fg.log2 hn
 have fe:=vC hb hl;refine⟨IE t b t,IE t b b,?_,K7 hb,AS t b,K8 hb,?_,?_⟩
 .rw[fe,hd,kC (Int.gcd_dvd_left t b),kC (Int.gcd_dvd_right t b)]
  rfl
 .rw[<- kC (Int.gcd_dvd_left t b)];exact ft.fdiv
 .rw[<- kC (Int.gcd_dvd_right t b)];exact fb.fdiv
end Toy
namespace L2
open PySem PySem.Spec
def yX{α:Type}{enc g:α->D}{e:M D}{δ:DS}:∀{xs:List α}{acc:ZI}{o:ZL},(∀x∈xs,e (some (enc x)::δ)=.ok (g x) (some (enc x)::δ))->acc.length+xs.length<=sizeLine->∃o',bN (dY 0) dH e (xs.map enc) acc (o::δ)=.ok (acc++xs.map g) (o'::δ)
 |[],acc,o,_,_=>⟨o,by simp[bN]⟩
 |x::xs,acc,o,h,hl=>by
  have hd:=h x Õ;rw[Ó]at hl;let⟨o',ih⟩:=yX (xs:=xs) (acc:=acc++[g x]) (o:=some (enc x)) (λy hy=>h y (Ò _ hy)) (by simp;lia);refine⟨o',?_⟩;rw[Ï];unfold bN;have e1:dY 0 (enc x) (o::δ)=some (some (enc x)::δ):=by simp[dY]
  rw[e1];show Res.bind (dH (some (enc x)::δ)) _=_;simp![dH,Res.bind,if_true,hd];rw[Â ∅,ih];simp
def dM{α:Type}{enc g:α->D}{xs:List α}{f:M (ZI)}{e:M D}{δ:DS}(hf:f δ=.ok (xs.map enc) δ)(hl:xs.length<=1000)(he:∀x∈xs,aY e (some (enc x)::δ) λa δ1=>a=g x/\δ1=some (enc x)::δ):dP 1 (dY 0) f dH e δ=.ok (.list (xs.map g)) δ:=by
 unfold dP;rw[hf];let⟨o',h⟩:=yX (acc:=[]) (o:=none) (λx hx=>dJ (he x hx)) (Ø (by simpa using hl) (show 1000<=sizeLine by decide));simp![Res.bind];rw[show List.replicate 1 (none:ZL)++δ=none::δ from rfl,h];simp
def oQ{α:Type}{enc A B g:α->D}{xs:List α}{f:M (ZI)}{e:M D}{δ:DS}(hE:∀x,enc x=.tuple [A x,B x])(hf:f δ=.ok (xs.map enc) δ)(hl:xs.length<=1000)(he:∀x∈xs,aY e 'x' λv δ1=>v=g x/\δ1=some (A x)::some (B x)::δ):dP 2 (tO [0,1]) f dH e δ=.ok (.list (xs.map g)) δ:=by
 have main:∀(xs:List α)(acc:ZI)(o1 o2:ZL),(∀x∈xs,e 'x'=.ok (g x) 'x')->acc.length+xs.length<=sizeLine->∃o1' o2',bN (tO [0,1]) dH e (xs.map enc) acc (o1::o2::δ)=.ok (acc++xs.map g) (o1'::o2'::δ):=by
  intro xs
  induction xs with
  |nil=>exact λacc o1 o2 _ _=>⟨o1,o2,by simp[bN]⟩
  |cons x xs ih=>
   intro acc o1 o2 h hl;have hd:=h x Õ;rw[Ó]at hl;let⟨o1',o2',ih⟩:=ih (acc++[g x]) (some (A x)) (some (B x)) (λy hy=>h y (Ò _ hy)) (by simp;lia);refine⟨o1',o2',?_⟩;rw[Ï];unfold bN;have e1:tO [0,1] (enc x) (o1::o2::δ)=some 'x':=by rw[hE];simp[tO,dY]
   rw[e1];show Res.bind (dH 'x') _=_;simp![dH,Res.bind,if_true,hd];rw[Â ∅,ih];simp
 unfold dP;rw[hf];let⟨o1,o2,h⟩:=main xs [] none none (λx hx=>dJ (he x hx)) (Ø (by simpa using hl) (show 1000<=sizeLine by decide));simp![Res.bind];rw[show List.replicate 2 (none:ZL)++δ=none::none::δ from rfl,h];simp
def cJ(h:aY f δ λa δ1=>a=.list ds/\δ1=δ):hU f δ=.ok ds δ:=by
 unfold hU;rw[dJ h];rfl
def M8{α:Type}{h:α->Bool}:∀{xs:List α},rT (xs.map λx=>.bool (h x))=some (xs.map h)
 |[]=>rfl
 |x::xs=>by
  show (rT (xs.map λx=>PyData.bool (h x))).map (h x::·)=_;rw[M8];rfl
def VU{α:Type}{enc A B g:α->D}{h:α->Bool}{xs:List α}{f:M (ZI)}{t:M Bool}{e:M D}{δ:DS}(hE:∀x,enc x=.tuple [A x,B x])(hf:f δ=.ok (xs.map enc) δ)(hl:xs.length<=1000)(ht:∀x∈xs,aY t 'x' λb δ1=>b=h x/\δ1=some (A x)::some (B x)::δ)(he:∀x∈xs,aY e 'x' λv δ1=>v=g x/\δ1=some (A x)::some (B x)::δ):dP 2 (tO [0,1]) f t e δ=.ok (.list ((xs.filter h).map g)) δ:=by
 have main:∀(xs:List α)(acc:ZI)(o1 o2:ZL),(∀x∈xs,t 'x'=.ok (h x) 'x')->(∀x∈xs,e 'x'=.ok (g x) 'x')->acc.length+xs.length<=sizeLine->∃o1' o2',bN (tO [0,1]) t e (xs.map enc) acc (o1::o2::δ)=.ok (acc++(xs.filter h).map g) (o1'::o2'::δ):=by
  intro xs
  induction xs with
  |nil=>exact λacc o1 o2 _ _ _=>⟨o1,o2,by simp[bN]⟩
  |cons x xs ih=>
   intro acc o1 o2 ht he hl;have hd:=ht x Õ;have hv:=he x Õ;rw[Ó]at hl;have e1:tO [0,1] (enc x) (o1::o2::δ)=some 'x':=by rw[hE];simp[tO,dY]
   cases hk:h x with
   |true=>
    let⟨o1',o2',ih⟩:=ih (acc++[g x]) (some (A x)) (some (B x)) (λy hy=>ht y (Ò _ hy)) (λy hy=>he y (Ò _ hy)) (by simp;lia);refine⟨o1',o2',?_⟩;rw[Ï];unfold bN;rw[e1];simp![hd,hk,Res.bind,if_true,hv];rw[Â ∅,ih];simp[hk]
   |false=>
    let⟨o1',o2',ih⟩:=ih acc (some (A x)) (some (B x)) (λy hy=>ht y (Ò _ hy)) (λy hy=>he y (Ò _ hy)) 'a';refine⟨o1',o2',?_⟩;rw[Ï];unfold bN;rw[e1];simp![hd,hk,Res.bind,Bool.false_eq_true,if_false];rw[Â ∅,ih];simp[hk]
 unfold dP;rw[hf];let⟨o1,o2,q⟩:=main xs [] none none (λx hx=>by
  let⟨b,δ1,e,rfl,rfl⟩:=(ht x hx).ex;exact e) (λx hx=>dJ (he x hx)) (Ø (by simpa using hl) (show 1000<=sizeLine by decide))
 simp![Res.bind];rw[show List.replicate 2 (none:ZL)++δ=none::none::δ from rfl,q];simp
end L2
namespace Toy
open PySem L2
def ixN_lt'(h:k<n):lK n (k:Int)=some k:=by
 unfold lK;rw[Â ∅,Â ∅,ā]
def eJ{j:Nat}{x:α}(h:l[j]?=some x):atI l (j:Int)=some x:=by
 unfold atI;rw[ixN_lt' (Ð.mp h).1];exact h
def P0{l:ZK}{j:Nat}(h:l[j]?=some x):fC (.list (l.map PyData.int)) (.int (j:Int))=some (.int x):=by
 show atI (l.map PyData.int) (j:Int)=_;refine eJ ?_;rw[Î,h];rfl
def VV{l:ZK}(hl:l.length=n+1)(h:l[n]?=some x):fC (.list (l.map PyData.int)) (.int (-1))=some (.int x):=by
 show atI (l.map PyData.int) (-1)=_;have e:lK (l.map PyData.int).length (-1)=some n:=by
  unfold lK;rw[Ä,Ã ⋯,Â ∅];congr 1;lia
 unfold atI;rw[e];show (l.map PyData.int)[n]?=_;rw[Î,h];rfl
def Ÿ{l:List (ZK)}{j:Nat}(h:l[j]?=some x):fC (.list (l.map λx=>.list (x.map PyData.int))) (.int (j:Int))=some (.list (x.map PyData.int)):=by
 show atI (l.map λx=>PyData.list (x.map PyData.int)) (j:Int)=_;refine eJ ?_;rw[Î,h];rfl
def VW{as bs:ZK}(h1:aY f δ λa δ1=>a=.list (as.map PyData.int)/\δ1=δ)(h2:aY g δ λa δ1=>a=.list (bs.map PyData.int)/\δ1=δ):vM f g δ=.ok ((as.zip bs).map λp=>.tuple [.int p.1,.int p.2]) δ:=by
 have e1:=dJ h1;have e2:=dJ h2;unfold vM;simp![aZ,e1,e2,aU];congr 1;unfold iE;rw[List.zipWith_map,List.zip_eq_zipWith,List.map_zipWith]
def M9{ds os:ZI}(h:bO body (ds.map some++List.replicate (m0-ds.length) none) (λδ=>fF δ ps=some os) (λ_=>False) (λ_=>False) λ_ _=>False):aR m0 ps 0 body ds=.ok .none (os.map some):=by
 let⟨fl,δ1,e,q⟩:=h.ex;cases fl with
 |next=>unfold aR;rw[e];dsimp only;rw[Â rfl,q]
 |ret r=>sleep 5
 |brk=>sleep 5
 |cont=>sleep 5
section
variable {n d:Nat}{pv:ZK}{a b:Nat->Int}{s:Int}
def yY(ha:Sx.LnR n ln a)(hb:Sx.LnR n pv b)(hd:d<=n)(hs:0<s)(hn:n<=900)(fa:∀j,j<=n->bP 4000 (a j))(fb:∀j,j<=n->bP 4000 (b j))(fs:bP 4000 s):uD [.list (ln.map .int),.list (pv.map .int),.int (d:Int),.int s]=.ok (.list ((Sx.clearL ln pv d s).map .int)) []:=by
 have e1:=P0 (hb.at' d hd);have e2:=P0 (ha.at' d hd);have ga:ln.getD d 0=a d:=ha.getD hd;have gb:pv.getD d 0=b d:=hb.getD hd;sleep 3;show bO uC [some (.list (ln.map .int)),some (.list (pv.map .int)),some (.int (d:Int)),some (.int s),none,none,none] _ _ _ _;unfold uC;dsimp? [e1,e2];refine aY.of (oQ (xs:=ln.zip pv) (enc:=λp=>.tuple [.int p.1,.int p.2]) (A:=λp=>.int p.1) (B:=λp=>.int p.2) (g:=λp=>.int ((-b d*p.1+a d*p.2)/s)) (λ_=>rfl) (VW (by dsimp? []) (by dsimp? [])) (by rw[é,ha.len];lia) λp hp=>?_) ?_
 .obtain⟨j,hj,ej⟩:=List.getElem_of_mem hp
  rw[é,ha.len,hb.len,Nat.min_self]at hj;have p1:ln[j]?=some p.1:=by
   rw[<- ej,List.getElem_zip,É (by rw[ha.len];exact hj)]
  have p2:pv[j]?=some p.2:=by
   rw[<- ej,List.getElem_zip,É (by rw[hb.len];exact hj)]
  rw[ha.at' j (by exact Nat.le_of_lt_succ ‹_›)]at p1;rw[hb.at' j (by exact Nat.le_of_lt_succ ‹_›)]at p2;have q1:bP 4000 p.1:=by rw[<- Option.some.inj p1];exact fa j (by exact Nat.le_of_lt_succ ‹_›)
  have q2:bP 4000 p.2:=by rw[<- Option.some.inj p2];exact fb j (by exact Nat.le_of_lt_succ ‹_›)
  dsimp? [(fb d hd).neg.mulOk q1,(fa d hd).mulOk q2,Z9 hs (fs.mono ⋯)]
 .have el:((ln.zip pv).map λp=>PyData.int ((-b d*p.1+a d*p.2)/s)).length=n+1:=by rw[Ä,é,ha.len,hb.len,Nat.min_self]
  have ei:=ixN_lt' (show d<((ln.zip pv).map λp=>PyData.int ((-b d*p.1+a d*p.2)/s)).length by rw[el];exact Nat.lt_succ_of_le ‹_›);dsimp? [ei];unfold Sx.clearL;rw[ga,gb,List.map_set,List.zip_eq_zipWith,List.map_zipWith,List.map_zipWith]
def P1(hb:Sx.LnR n pv b)(hd:d<=n)(hn:n<=900):GY [.list (pv.map .int),.int (d:Int),.int s]=.ok (.list ((Sx.turnL pv d s).map .int)) []:=by
 sleep 3;show bO yA [some (.list (pv.map .int)),some (.int (d:Int)),some (.int s),none] _ _ _ _;unfold yA;dsimp? [];refine aY.of (dM (xs:=pv) (enc:=PyData.int) (g:=λx=>.int (-x)) (cJ (by dsimp? [])) (by rw[hb.len];lia) λp hp=>by dsimp? []) ?_;have ei:=ixN_lt' (show d<(pv.map λx=>PyData.int (-x)).length by rw[Ä,hb.len];exact Nat.lt_succ_of_le ‹_›);dsimp? [ei];unfold Sx.turnL;rw[List.map_set,è];rfl
end
def tb(s f h l g:D):D:=.dict [(.none,.str "Table"),(.str "scale",s),(.str "free",f),(.str "held",h),(.str "lines",l),(.str "goal",g)]
section
def yZ:gM "Table" "scale" (tb s f h l g)=some s:=by with_unfolding_all rfl
def oR:gM "Table" "free" (tb s f h l g)=some f:=by with_unfolding_all rfl
def wA:gM "Table" "held" (tb s f h l g)=some h:=by with_unfolding_all rfl
def sY:gM "Table" "lines" (tb s f h l g)=some l:=by with_unfolding_all rfl
def NA:gM "Table" "goal" (tb s f h l g)=some g:=by with_unfolding_all rfl
def HD:BK 20 "Table" "scale" (tb s f h l g)=some s:=by with_unfolding_all rfl
def HE:BK 20 "Table" "lines" (tb s f h l g)=some l:=by with_unfolding_all rfl
def aBH:BK 20 "Table" "goal" (tb s f h l g)=some g:=by with_unfolding_all rfl
def VX:nE 20 0 "Table" "scale" y (tb s f h l g)=some (tb y f h l g):=by with_unfolding_all rfl
def VY:nE 20 0 "Table" "lines" y (tb s f h l g)=some (tb s f h y g):=by with_unfolding_all rfl
def aBI:nE 20 0 "Table" "goal" y (tb s f h l g)=some (tb s f h l y):=by with_unfolding_all rfl
def aBJ(e:lK hs.length i=some j):xP 20 "Table" "held" (.int i) v (tb s f (.list hs) l g)=some (tb s f (.list (hs.set j v)) l g):=by
 have:xP 20 "Table" "held" (.int i) v (tb s f (.list hs) l g)=(match lK hs.length i with
  |some j=>some (tb s f (.list (hs.set j v)) l g)
  |none=>none):=by with_unfolding_all rfl
 rw[this,e]
def aBK(e:lK hs.length i=some j):xP 20 "Table" "free" (.int i) v (tb s (.list hs) h l g)=some (tb s (.list (hs.set j v)) h l g):=by
 have:xP 20 "Table" "free" (.int i) v (tb s (.list hs) h l g)=(match lK hs.length i with
  |some j=>some (tb s (.list (hs.set j v)) h l g)
  |none=>none):=by with_unfolding_all rfl
 rw[this,e]
def aBL:xQ "Table" "swap" (tb s f h l g):=⟨rfl,by with_unfolding_all rfl⟩
end
abbrev P3(l:List (ZK)):D:=.list (l.map λx=>.list (x.map PyData.int))
def bX(L:Sx.LT):D:=tb (.int L.s) (.list (L.free.map .int)) (.list (L.held.map .int)) (P3 L.lines) (.list (L.goal.map .int))
structure Ok(P:Sx.Pr)(L:Sx.LT)(T:Sx.Tab):Prop where
 rp:Sx.Rp P L T
 pos:0<T.s
 fs:bP 4000 T.s
 fl:∀r j,r<=P.k->j<=P.n->bP 4000 (T.L r j)
 n:P.n<=900
 k:P.k<=900
def aBM(K:Ok P L T)(hp:p<P.k)(hd:d<P.n):mC [bX L,.int (p:Int),.int (d:Int)]=.ok .none [some (bX (Sx.swapL L p d))]:=by
 have R:=K.rp;let⟨pv,e1,e2⟩:=R.l p hp;have eP:L.lines.getD p []=pv:=by rw[Ê,e1];rfl
 have eH:L.held.getD p 0=T.h p:=by rw[Ê,R.h p hp];rfl
 have eF:L.free.getD d 0=T.f d:=by rw[Ê,R.f d hd];rfl
 have hs:0<L.s:=by rw[R.s];exact K.pos
 have fs:bP 4000 L.s:=by rw[R.s];exact K.fs
 have i1:=Ÿ e1;have i2:=P0 (e2.at' d 'a');have i3:=P0 (R.h p hp);have i4:=P0 (R.f d hd);have fp:∀j,j<=P.n->bP 4000 (T.L p j):=λj hj=>K.fl p j 'a' hj;have cg:=yY (d:=d) (s:=L.s) R.g e2 'a' hs K.n (λj hj=>K.fl P.k j (Ç _) hj) fp fs;have ct:=P1 (s:=L.s) e2 (d:=d) 'a' K.n;refine M9 (os:=[bX (Sx.swapL L p d)]) ?_;show bO mB [some (bX L),some (.int (p:Int)),some (.int (d:Int)),none,none,none] _ _ _ _;unfold mB bX;dsimp? [C9,HE,i1];refine aY.of (dM (xs:=L.lines) (enc:=λx=>.list (x.map PyData.int)) (g:=λln=>.list ((Sx.clearL ln pv d L.s).map PyData.int)) (cJ (by dsimp? [C9,HE])) (by rw[R.ll];have:=K.k;lia) λln hln=>?_) ?_
 .obtain⟨r,hr,er⟩:=List.getElem_of_mem hln
  rw[R.ll]at hr;let⟨ln',q1,q2⟩:=R.l r hr;have:ln'=ln:=by
   rw[É (by rw[R.ll];exact hr),er]at q1;exact(Option.some.inj q1).symm
  subst this;have cl:=yY (d:=d) (s:=L.s) q2 e2 'a' hs K.n (λj hj=>K.fl r j 'a' hj) fp fs;dsimp? [C9,HD,cl]
 .have el:(L.lines.map λln=>PyData.list ((Sx.clearL ln pv d L.s).map PyData.int)).length=P.k:=by rw[Ä,R.ll]
  have ei:=ixN_lt' (show p<(L.lines.map λln=>PyData.list ((Sx.clearL ln pv d L.s).map PyData.int)).length by rw[el];assumption);have ih:=ixN_lt' (show p<(L.held.map PyData.int).length by rw[Ä,R.hl];assumption);have jf:=ixN_lt' (show d<(L.free.map PyData.int).length by rw[Ä,R.fl];assumption);dsimp? [C9,HD,ct,ei,aBH,cg,xS,aBI,VY,i2,VX,qD,UR,wA,i3,oR,i4,UO,aBJ ih,aBK jf];unfold Sx.swapL;rw[eP,eH,eF,e2.getD (by exact È ‹_›:d<=P.n)];simp![P3,List.map_set,è,Function.comp_def]
def qW :∀(l:List (α×Int))(o:Option (α×Int)),match cQ o l with
  |none=>o=none/\l=[]
  |some m=>(o=some m\/m∈l)/\(∀x∈l,m.2<=x.2)/\∀x,o=some x->m.2<=x.2
 |[],o=>by
  rw[oJ];cases o with
  |none=>exact⟨rfl,rfl⟩
  |some m=>exact⟨.inl rfl,λx hx=>(by cases hx),λx e=>by cases e;exact Int.le_refl _⟩
 |y::ys,none=>by
  have ih:=qW ys (some y);rw[show cQ none (y::ys)=cQ (some y) ys from rfl];cases e:cQ (some y) ys with
  |none=>rw[e]at ih;exact absurd ih.1 'e'
  |some m=>
   rw[e]at ih;let⟨h1,h2,h3⟩:=ih;refine⟨.inr ?_,λx hx=>?_,λx e=>by cases e⟩
   .rcases h1 with h|h
    .cases h;exact Õ
    .exact Ò _ h
   .rcases Ë.mp hx with rfl|hx
    .exact h3 _ rfl
    .exact h2 x hx
 |y::ys,some z=>by
  have ih:=qW ys (some (if y.2<z.2 then y else z));rw[show cQ (some z) (y::ys)=cQ (some (if y.2<z.2 then y else z)) ys from rfl];cases e:cQ (some (if y.2<z.2 then y else z)) ys with
  |none=>rw[e]at ih;exact absurd ih.1 'e'
  |some m=>
   rw[e]at ih;let⟨h1,h2,h3⟩:=ih;have h4:=h3 _ rfl;refine⟨?_,λx hx=>?_,λx e=>?_⟩
   .rcases h1 with h|h
    .have h:=Option.some.inj h
     split at h
     .subst h;exact .inr Õ
     .subst h;exact .inl rfl
    .exact .inr (Ò _ h)
   .rcases Ë.mp hx with rfl|hx
    .split at h4<;>lia
    .exact h2 x hx
   .cases e
    split at h4<;>lia
def y8{α:Type}{u k:α->Int}:∀{xs:List α},(∀x∈xs,atI hs (u x)=some (k x))->hW hs (xs.map u)=some (xs.map k)
 |[],_=>rfl
 |x::xs,h=>by
  rw[Ï,Ï];unfold hW;rw[h x Õ,y8 λy hy=>h y (Ò _ hy)]
def NB{α:Type}{enc:α->D}{xs:List α}(h:aY f δ λa δ1=>a=.list (xs.map enc)/\δ1=δ):xC f δ=.ok ((xs.zipIdx.map λp=>(p.2,p.1)).map λp:Nat×α=>.tuple [.int (p.1:Int),enc p.2]) δ:=by
 have e:=dJ h;unfold xC;simp![aZ,e,aU];congr 1;unfold eV;rw[List.mapIdx_eq_zipIdx_map,è,List.zipIdx_map,è];rfl
def HF{α:Type}{xs:List α}{p:Nat×α}:p∈xs.zipIdx.map (λp=>(p.2,p.1))↔xs[p.1]?=some p.2:=by
 rw[Ô];constructor
 .rintro⟨q,hq,rfl⟩
  exact List.mem_zipIdx_iff_getElem?.mp hq
 .intro h
  exact⟨(p.2,p.1),List.mem_zipIdx_iff_getElem?.mpr h,rfl⟩
def y9(K:Ok P L T):
  ((∀r,r<P.k->0<=T.L r P.n)/\cA [bX L]=.ok .none [])\/∃p,p<P.k/\T.L p P.n<0/\(∀r,r<P.k->T.L r P.n<0->T.h p<=T.h r)/\cA [bX L]=.ok (.int (p:Int)) []:=by
 have R:=K.rp;let xs:List (Nat×ZK):=L.lines.zipIdx.map λp=>(p.2,p.1);let ys:=xs.filter λp=>decide (p.2.getD P.n 0<0);have hx:∀p∈xs,p.1<P.k/\p.2.length=P.n+1/\p.2[P.n]?=some (T.L p.1 P.n)/\p.2.getD P.n 0=T.L p.1 P.n:=λp hp=>by
  have e:=HF.mp hp;have hk:p.1<P.k:=by have:=(Ð.mp e).1;rw[R.ll]at this;exact this
  let⟨ln,q1,q2⟩:=R.l p.1 hk;rw[e]at q1;have:ln=p.2:=(Option.some.inj q1).symm;subst this;exact⟨hk,q2.len,q2.at' _ (Ç _),q2.getD (Ç _)⟩
 have hall:∀r,r<P.k->∃ln,(r,ln)∈xs/\ln.getD P.n 0=T.L r P.n:=λr hr=>by
  let⟨ln,q1,q2⟩:=R.l r hr;exact⟨ln,HF.mpr q1,q2.getD (Ç _)⟩
 have ek:hW L.held (ys.map λp=>(p.1:Int))=some (ys.map λp=>(T.h p.1:Int)):=y8 λp hp=>by
  have:=hx p (ċ.mp hp).1;exact eJ (R.h p.1 this.1)
 have em:GJ "Table" "held" (.list (ys.map λp=>PyData.int (p.1:Int))) (bX L)=some ((cQ none (ys.map λp=>((p.1:Int),(T.h p.1:Int)))).elim .none λm=>.int m.1):=by
  unfold GJ bX;dsimp only;rw[wA];dsimp only;have e1:(ys.map λp=>PyData.int (p.1:Int))=(ys.map λp=>(p.1:Int)).map PyData.int:=by rw[è];rfl
  rw[iT,e1,iT];dsimp only;rw[ek];dsimp only;rw[List.zip_map']
 have main:∀r:D,(IG r).isSome=true->(cQ none (ys.map λp=>((p.1:Int),(T.h p.1:Int)))).elim PyData.none (λm=>.int m.1)=r->cA [bX L]=.ok r []:=λr hr er=>by
  refine aK (os:=[]) ?_;show bO j5 [some (bX L),none] _ _ _ _;unfold j5;dsimp? [];refine aY.of (VU (xs:=xs) (enc:=λp=>.tuple [.int (p.1:Int),.list (p.2.map PyData.int)]) (A:=λp=>.int (p.1:Int)) (B:=λp=>.list (p.2.map PyData.int)) (g:=λp=>.int (p.1:Int)) (h:=λp=>decide (p.2.getD P.n 0<0)) (λ_=>rfl) (NB (enc:=λx=>.list (x.map PyData.int)) (xs:=L.lines) (by unfold bX;dsimp? [sY])) (by
   show xs.length<=1000;have:=K.k;simp![xs,Ä,List.length_zipIdx,R.ll];lia) (λp hp=>by
   let⟨h1,h2,h3,h4⟩:=hx p hp;dsimp? [VV h2 h3,h4]) (λp hp=>by dsimp? [])) ?_
  dsimp? [UQ,qD];rw[show (List.map (λp:Nat×ZK=>PyData.int (p.1:Int)) (xs.filter λp=>decide (p.2.getD P.n 0<0)))=ys.map λp=>PyData.int (p.1:Int)from rfl,em,er];dsimp? [];exact⟨hr,rfl,rfl⟩
 have sp:=qW (ys.map λp=>((p.1:Int),(T.h p.1:Int))) none;cases eb:cQ none (ys.map λp=>((p.1:Int),(T.h p.1:Int)))with
 |none=>
  rw[eb]at sp;refine .inl ⟨λr hr=>?_,main .none rfl (by rw[eb];rfl)⟩;let⟨ln,h1,h2⟩:=hall r hr;by_cases c:T.L r P.n<0
  .exfalso
   have hm:(r,ln)∈ys:=ċ.mpr ⟨h1,decide_eq_true (by show ln.getD P.n 0<0;lia)⟩;have:ys=[]:=by simpa using sp.2
   rw[this]at hm;cases hm
  .exact Int.not_lt.mp ‹_›
 |some m=>
  rw[eb]at sp;let⟨h1,h2,_⟩:=sp;rcases h1 with h1|h1
  .cases h1
  .obtain⟨p,hp,rfl⟩:=Ô.mp h1
   let⟨m1,m2⟩:=ċ.mp hp;let⟨a1,_,_,a4⟩:=hx p m1;refine .inr ⟨p.1,a1,?_,λr hr hn=>?_,main (.int (p.1:Int)) rfl (by rw[eb];rfl)⟩
   .have:=of_decide_eq_true m2
    lia
   .obtain⟨ln,b1,b2⟩:=hall r hr
    have hm:(r,ln)∈ys:=ċ.mpr ⟨b1,decide_eq_true (by show ln.getD P.n 0<0;lia)⟩;have:=h2 _ (List.mem_map_of_mem (f:=λp:Nat×ZK=>((p.1:Int),(T.h p.1:Int))) hm);dsimp only at this;lia
def VZ(K:Ok P L T){pv:ZK}(hp:p<P.k)(e2:Sx.LnR P.n pv (T.L p))(hc:c<P.n)(hb:b<P.n):
  sO [bX L,.list (pv.map .int),.int (c:Int),.int (b:Int)]=.ok (.bool (decide (T.L P.k c*-T.L p b<T.L P.k b*-T.L p c\/(T.L P.k c*-T.L p b=T.L P.k b*-T.L p c/\T.f c<T.f b)))) []:=by
 have R:=K.rp;have g1:=P0 (R.g.at' c 'a');have g2:=P0 (R.g.at' b 'a');have l1:=P0 (e2.at' c 'a');have l2:=P0 (e2.at' b 'a');have f1:=P0 (R.f c hc);have f2:=P0 (R.f b hb);have m1:IntMulOk (T.L P.k c) (-T.L p b):=(K.fl P.k c (Ç _) 'a').mulOk (K.fl p b 'a' 'a').neg;have m2:IntMulOk (T.L P.k b) (-T.L p c):=(K.fl P.k b (Ç _) 'a').mulOk (K.fl p c 'a' 'a').neg;sleep 3;show bO l8 [some (bX L),some (.list (pv.map .int)),some (.int (c:Int)),some (.int (b:Int)),none,none] _ _ _ _;unfold l8 bX;dsimp? [NA,g1,g2,l1,l2,m1,m2];generalize T.L P.k c*-T.L p b=x;generalize T.L P.k b*-T.L p c=y;have ef:((T.f c:Int)<(T.f b:Int))↔T.f c<T.f b:=by lia
 by_cases h1:x<y
 .dsimp? [h1,decide_true]
  simp
 .by_cases h2:x=y
  .subst h2
   dsimp? [h1,decide_false,decide_true,oR,f1,f2];simp![ef];simp
  .dsimp? [h1,h2,decide_false]
   simp
def Ϸ:ĥ .none .none=some 'i':=rfl
def Ź:ĥ (.int i) .none=some (.bool false):=rfl
def aK7:wW .none .none=some (.bool false):=rfl
def aK8:wW (.int i) .none=some 'i':=rfl
def oD:Option Nat->D
 |none=>.none
 |some d=>.int (d:Int)
def P4(K:Ok P L T){pv:ZK}(hp:p<P.k)(e2:Sx.LnR P.n pv (T.L p)):∃o,Sx.BestC (T.L P.k) (T.L p) T.f P.n o/\l9 [bX L,.list (pv.map .int)]=.ok (oD o) []:=by
 have R:=K.rp;have main:=u4 (m0:=4) (rm:=0) (body:=iG) (ds:=[bX L,.list (pv.map .int)]) (P:=λr=>∃o,Sx.BestC (T.L P.k) (T.L p) T.f P.n o/\r=oD o) (by
  show bO iG [some (bX L),some (.list (pv.map .int)),none,none] _ _ _ _;unfold iG;dsimp? [];refine TF (j:=P.n) (δ1:=_) (λk δ=>∃o o3,Sx.BestC (T.L P.k) (T.L p) T.f k o/\δ=[some (bX L),some (.list (pv.map .int)),some (oD o),o3]) (eQ (by unfold bX;dsimp? [oR,Ä,R.fl];rfl)) (by have:=K.n;lia) ⟨none,none,Sx.BestC.zero,rfl⟩ ?_ ?_
  .rintro k δ hk ⟨o,o3,hB,rfl⟩
   sleep 7;have l1:=P0 (e2.at' k 'a');by_cases hn:T.L p k<0
   .cases o with
    |none=>
     dsimp? [l1,hn,decide_true,oD,Ϸ];exact⟨some k,_,hB.first hn,rfl⟩
    |some b=>
     have ha:=VZ K hp e2 (c:=k) (b:=b) hk (by have:=hB.1;exact Nat.lt_trans ‹_› ‹_›);by_cases hh:T.L P.k k*-T.L p b<T.L P.k b*-T.L p k\/(T.L P.k k*-T.L p b=T.L P.k b*-T.L p k/\T.f k<T.f b)
     .rw[decide_eq_true hh]at ha
      dsimp? [l1,hn,decide_true,oD,Ź,ha];exact⟨some k,_,hB.better hn hh,rfl⟩
     .rw[decide_eq_false hh]at ha
      dsimp? [l1,hn,decide_true,oD,Ź,ha];exact⟨some b,_,hB.worse hh,rfl⟩
   .dsimp? [l1,hn,decide_false]
    exact⟨o,_,hB.skip hn,rfl⟩
  .rintro δ ⟨o,o3,hB,rfl⟩
   dsimp? [];exact⟨o,hB,rfl⟩)
 let⟨r,e,o,hB,rfl⟩:=main;exact⟨o,hB,e⟩
def dI(À:ZF):D:=.dict (À.map λp=>(.int p.1,.int p.2))
def gI(À:ZF)(u:Int):(Option Int):=(À.find? λp=>p.1 == u).map (·.2)
section
def NC(h:∀p∈À,p.1≠u)(hl:À.length<sizeLine):xR (.int u) (.int w) (dI À)=some (dI (À++[(u,w)])):=by
 unfold xR dI;show (if (À.map λp=>(PyData.int p.1,PyData.int p.2)).length<sizeLine then some (PyData.dict (JW (.inl u) (.int w) (À.map λp=>(PyData.int p.1,PyData.int p.2))))else none)=_;rw[Â (by rw[Ä];exact hl)];unfold JW;have e:((À.map λp=>(PyData.int p.1,PyData.int p.2)).any λkv=>decide (c7 kv.1=some (.inl u)))=false:=by
  rw[List.any_eq_false];intro x hx;let⟨p,hp,rfl⟩:=Ô.mp hx;have:=h p hp;simp![c7,Option.some.injEq,Sum.inl.injEq,decide_eq_true_eq];exact this
 rw[Ã (by rw[e];simp)];simp[ER]
def V0:MP (dI À) (.int u) z=some (((gI À u).map PyData.int).getD z):=by
 unfold MP dI;show some ((jK (.inl u) (À.map λp=>(PyData.int p.1,PyData.int p.2))).getD z)=_;congr 2;unfold jK gI;rw[List.find?_map,Option.map_map,Option.map_map];have e:((λkv:D×D=>decide (c7 kv.1=some (Sum.inl u)))∘λp:Int×Int=>(PyData.int p.1,PyData.int p.2))=λp=>p.1 == u:=by
  funext p;simp![Function.comp,c7,Option.some.injEq,Sum.inl.injEq];by_cases c:p.1=u
  .simp[c]
  .simp[c]
 rw[e];rfl
def V1:dctD' (dI À)=true:=by
 show (À.map λp=>(PyData.int p.1,PyData.int p.2)).all (λkv=>(c7 kv.1).isSome)=true;rw[List.all_map,ç];intro p _;rfl
def aBN(hd:(À.map (·.1)).Nodup)(h:(u,w)∈À):gI À u=some w:=by
 induction À with
 |nil=>cases h
 |cons p r ih=>
  rw[Ï,List.nodup_cons]at hd;unfold gI;rw[ĉ];rcases Ë.mp h with rfl|h
  .simp
  .have:p.1≠u:=λe=>hd.1 (by rw[e];exact List.mem_map_of_mem (f:=(·.1)) h)
   rw[beq_eq_false_iff_ne.mpr this];exact ih hd.2 h
def aBO(h:∀p∈À,p.1≠u):gI À u=none:=by
 unfold gI;rw[List.find?_eq_none.mpr λp hp=>by simpa using h p hp];rfl
end
def KM{fs ws:ZK}(hf:fs.length=n)(hw:ws.length=n)(ef:∀j,j<n->fs[j]?=some (f j:Int))(ew:∀j,j<n->ws[j]?=some (w j))(inj:∀i j,i<n->j<n->f i=f j->i=j)(u:Nat):
  (gI (fs.zip ws) (u:Int)).getD 0=Sx.shr n f w u/\(gI (fs.zip ws) (u:Int)=none↔∀j,j<n->f j≠u):=by
 have hz:∀j,j<n->(fs.zip ws)[j]?=some ((f j:Int),w j):=λj hj=>by
  rw[ě];exact⟨ef j hj,ew j hj⟩
 have hl:(fs.zip ws).length=n:=by rw[é,hf,hw,Nat.min_self]
 have hm:∀p∈fs.zip ws,∃j,j<n/\p=((f j:Int),w j):=λp hp=>by
  let⟨j,hj,e⟩:=List.getElem_of_mem hp;rw[hl]at hj;have:=hz j hj;rw[É (by rw[hl];exact hj),e]at this;exact⟨j,hj,Option.some.inj this⟩
 have nd:((fs.zip ws).map (·.1)).Nodup:=by
  refine List.pairwise_iff_getElem.mpr λi j hi hj hij e=>?_;rw[Ä,hl]at hi hj;have ei:((fs.zip ws).map (·.1))[i]?=some (f i:Int):=by rw[Î,hz i hi];rfl
  have ej:((fs.zip ws).map (·.1))[j]?=some (f j:Int):=by rw[Î,hz j hj];rfl
  rw[É (by rw[Ä,hl];exact hi),e,<- É,ej]at ei;have:=Option.some.inj ei;have:=inj i j hi hj ∅;lia
 by_cases c:∃j,j<n/\f j=u
 .obtain⟨j,hj,rfl⟩:=c
  have e:gI (fs.zip ws) (f j:Int)=some (w j):=aBN nd (û (hz j hj));rw[e,Sx.shr_at inj hj];exact⟨rfl,by simp;exact⟨j,hj,rfl⟩⟩
 .have hn:∀j,j<n->f j≠u:=λj hj e=>c ⟨j,hj,e⟩
  have e:gI (fs.zip ws) (u:Int)=none:=aBO λp hp=>by
   let⟨j,hj,rfl⟩:=hm p hp;show (f j:Int)≠(u:Int);have:=hn j hj;lia
  rw[e,Sx.shr_no hn];exact⟨rfl,by simp;exact hn⟩
def V2(h:ds.length=n+1):wX (.list ds) none (some (-1))=some (.list (ds.take n)):=by
 have e1:HT.sIx ds.length 0 none=0:=rfl;have e2:HT.sIx ds.length ds.length (some (-1))=n:=by
  unfold HT.sIx;simp[h];lia
 show some (PyData.list ((ds.drop (HT.sIx ds.length 0 none)).take (HT.sIx ds.length ds.length (some (-1))-HT.sIx ds.length 0 none)))=_;rw[e1,e2,List.drop_zero,Nat.sub_zero]
def HG{fs:ZK}{f:Nat->Nat}(hf:fs.length=n)(ef:∀j,j<n->fs[j]?=some (f j:Int))(inj:∀i j,i<n->j<n->f i=f j->i=j)(hn:n<=900)(hk:(fs.zip ws)[k]?=some (u,w)):
  xR (.int u) (.int w) (dI ((fs.zip ws).take k))=some (dI ((fs.zip ws).take (k+1))):=by
 have hkl:=(Ð.mp hk).1;rw[é]at hkl;have hu:fs[k]?=some u:=(ě.mp hk).1;rw[NC (λp hp=>?_) (by
  rw[ù,é,hf];have:900<sizeLine:=by decide
  lia)]
 .rw[List.take_add_one,hk]
  rfl
 .obtain⟨i,hi,e⟩:=List.getElem_of_mem hp
  rw[ù,é]at hi;have e2:(fs.zip ws)[i]?=some p:=by
   rw[List.getElem_take]at e;rw[É (by rw[é];lia),e]
  have hp1:fs[i]?=some p.1:=(ě.mp e2).1;rw[ef i ∅]at hp1;rw[ef k ∅]at hu;intro z;have:=inj i k ∅ ∅ (by have:=Option.some.inj hp1;have:=Option.some.inj hu;lia);lia
def BU(K:Ok P L T)(I:Sx.Inv P σ T)(e2:Sx.LnR P.n ln w):nH [bX L,.list (ln.map .int)]=.ok (dI (L.free.zip (ln.take P.n))) []:=by
 have R:=K.rp;have el:(L.free.zip (ln.take P.n)).length=P.n:=by rw[é,R.fl,ù,e2.len];lia
 refine aK (os:=[]) ?_;show bO nG [some (bX L),some (.list (ln.map .int)),none,none,none] _ _ _ _;unfold nG;dsimp? [];have hz:vM (CN (gM "Table" "free") (bQ 0)) (Ħ wX (bQ 1) none (some (CN Ŧ (dC (.int 1))))) [some (bX L),some (.list (ln.map .int)),some (kE [] []),none,none]=.ok ((L.free.zip (ln.take P.n)).map λp=>.tuple [.int p.1,.int p.2]) [some (bX L),some (.list (ln.map .int)),some (kE [] []),none,none]:=VW (by unfold bX;dsimp? [oR]) (by
  have:=V2 (ds:=ln.map PyData.int) (n:=P.n) (by rw[Ä,e2.len]);dsimp? [JR,nA,nB,u5,this];rw[List.map_take])
 refine cS (λk δ=>∃o3 o4,δ=[some (bX L),some (.list (ln.map .int)),some (dI ((L.free.zip (ln.take P.n)).take k)),o3,o4]) hz ⟨none,none,rfl⟩ ?_ ?_
 .rintro k d δ hk ⟨o3,o4,rfl⟩
  rw[Î]at hk;cases e:(L.free.zip (ln.take P.n))[k]? with
  |none=>rw[e]at hk;cases hk
  |some p=>
   rw[e]at hk;cases hk;sleep 7;have pt:=HG R.fl R.f I.fi K.n e;dsimp? [xT,pt];exact⟨_,_,rfl⟩
 .rintro δ ⟨o3,o4,rfl⟩
  rw[Ä,List.take_length];dsimp? [C2]
def qX(t b:Int):(Int×Int):=(IE t b t,IE t b b)
def V3(hb:b≠0)(fb:bP 9000 b):fJ [.int t,.int b]=.ok (fr (qX t b)) []:=by
 have hd:dv t b=(if b<0 then -(Int.gcd t b:Int)else (Int.gcd t b:Int)):=rfl;have gl:(Int.gcd t b:Int).natAbs<=b.natAbs:=by
  have:=Int.gcd_le_natAbs_right (a:=t) hb;assumption
 have hl:(dv t b).natAbs.log2<9000:=by
  have fg:bP 9000 (Int.gcd t b:Int):=fb.le gl;rw[hd];split
  .exact fg.neg.log2
  .exact fg.log2
 rw[vC hb hl,hd,kC (Int.gcd_dvd_left t b),kC (Int.gcd_dvd_right t b)];rfl
def aBP{a b:Nat}(h:a+b<=ds.length):wX (.list ds) (some (a:Int)) (some ((a+b:Nat):Int))=some (.list ((ds.drop a).take b)):=by
 have e1:HT.sIx ds.length 0 (some (a:Int))=a:=by rw[HT.sIx_nat];lia
 have e2:HT.sIx ds.length ds.length (some ((a+b:Nat):Int))=a+b:=by rw[HT.sIx_nat];lia
 show some (PyData.list ((ds.drop (HT.sIx ds.length 0 (some (a:Int)))).take (HT.sIx ds.length ds.length (some ((a+b:Nat):Int))-HT.sIx ds.length 0 (some (a:Int)))))=_;rw[e1,e2,Nat.add_sub_cancel_left]
def ę(n m:Nat)(y:Nat->Int)(s:Int):D:=.tuple [.list ((List.range m).map λr=>fr (qX (y (n+r)) s)),.list ((List.range n).map λi=>fr (qX (y (n+m+i)) s))]
def HH(K:Ok P L T)(hm:rs.length=m)(hk:P.k=m+P.n)(hy:∀u,u<P.n+m+P.n->(gI À (u:Int)).getD 0=y u):qK [bX L,.list rs,dI À]=.ok (ę P.n m y T.s) []:=by
 have R:=K.rp;have kn:=K.k;have nn:=K.n;have hs0:T.s≠0:=by have:=K.pos;exact Ă ‹_›
 sleep 3;show bO qJ [some (bX L),some (.list rs),some (dI À),none,none,none] _ _ _ _;unfold qJ;unfold bX;dsimp? [oR,Ä,R.fl,hm];refine aY.of (FT (n:=((P.n+m+P.n:Nat):Int)) (g:=λu=>fr (qX (y u) T.s)) (dJ (by dsimp? [oR,Ä,R.fl];simp)) ∅ ∅ λk hk=>?_) ?_
 .have hk:k<P.n+m+P.n:=by lia
  have e:=hy k hk;have g0:((gI À (k:Int)).map PyData.int).getD (.int 0)=.int (y k):=by
   rw[<- e];cases gI À (k:Int)<;>rfl
  dsimp? [UP,V1,V0,g0,yZ,R.s,V3 hs0 (K.fs.mono ⋯)]
 .rw[ā]
  have c1:=aBP (ds:=(List.range (P.n+m+P.n)).map λu=>fr (qX (y u) T.s)) (a:=P.n) (b:=m) 'e';have c2:=rY (ds:=(List.range (P.n+m+P.n)).map λu=>fr (qX (y u) T.s)) (k:=P.n+m) 'e';have ec:((P.n+m:Nat):Int)=(P.n:Int)+(m:Int):=by simp
  rw[ec]at c1 c2;dsimp? [aKL,nA,nB,u5,c1,c2];unfold ę;have d1:(((List.range (P.n+m+P.n)).map λu=>fr (qX (y u) T.s)).drop P.n).take m=(List.range m).map λr=>fr (qX (y (P.n+r)) T.s):=by
   refine List.ext_getElem? λj=>?_;rw[List.getElem?_take];split
   .rename_i hj
    rw[List.getElem?_drop,Î,ÿ ∅,Î,ÿ hj];rfl
   .rw[ä (by simp;exact å.mp ‹_›)]
  have d2:((List.range (P.n+m+P.n)).map λu=>fr (qX (y u) T.s)).drop (P.n+m)=(List.range P.n).map λi=>fr (qX (y (P.n+m+i)) T.s):=by
   refine List.ext_getElem? λj=>?_;rw[List.getElem?_drop];by_cases hj:j<P.n
   .rw[Î,ÿ ∅,Î,ÿ hj]
    rfl
   .rw[ä (by simp;exact å.mp ‹_›),ä (by simp;exact å.mp ‹_›)]
  rw[d1,d2]
theorem ND(e2:Sx.LnR n ln w):(ln.take n).length=n/\∀j,j<n->(ln.take n)[j]?=some (w j):=
 ⟨by rw[ù,e2.len];lia,λj hj=>by rw[List.getElem?_take,Â hj];exact e2.at' j 'a'⟩
def aBQ(K:Ok P L T)(I:Sx.Inv P σ T)(hm:rs.length=m)(hk:P.k=m+P.n)(hp:p<P.k):
  nJ [bX L,.list rs,.int (p:Int)]=.ok (.tuple [.str "none",ę P.n m (λu=>if u=T.h p then T.s else Sx.shr P.n T.f (T.L p) u) T.s]) []:=by
 have R:=K.rp;let⟨pv,e1,e2⟩:=R.l p hp;have i1:=Ÿ e1;have i2:=P0 (R.h p hp);have sh:=BU K I e2;let⟨t1,t2⟩:=ND e2;have gs:=λu=>KM R.fl t1 R.f t2 I.fi u;have hnew:∀q∈L.free.zip (pv.take P.n),q.1≠(T.h p:Int):=λq hq z=>by
  have h1:=(gs (T.h p)).2.mpr λj hj=>I.fh j p hj 'a';have h2:gI (L.free.zip (pv.take P.n)) (T.h p:Int)≠none:=by
   unfold gI;intro y;rw[Option.map_eq_none_iff,List.find?_eq_none]at y;exact y q hq (by simp[z])
  exact h2 h1
 have hzl:(L.free.zip (pv.take P.n)).length=P.n:=by rw[é,R.fl,t1,Nat.min_self]
 have pn:=NC (w:=L.s) hnew (by rw[hzl];have:=K.n;have:900<sizeLine:=⋯;exact Ā ‹_› ‹_›)
 have pe:=HH K hm hk (À:=L.free.zip (pv.take P.n)++[((T.h p:Int),L.s)]) (y:=λu=>if u=T.h p then T.s else Sx.shr P.n T.f (T.L p) u) λu _=>by
  have e:gI (L.free.zip (pv.take P.n)++[((T.h p:Int),L.s)]) (u:Int)=(gI (L.free.zip (pv.take P.n)) (u:Int)).or (if (T.h p:Int)=(u:Int)then some L.s else none):=by
   unfold gI;rw[List.find?_append,Option.map_or,List.find?_singleton];congr 1;by_cases c:(T.h p:Int)=(u:Int)
   .simp[c]
   .simp[c]
  rw[e];by_cases c:u=T.h p
  .subst c
   rw[(gs (T.h p)).2.mpr λj hj=>I.fh j p hj 'a',Â rfl,Â rfl,R.s];rfl
  .rw[Ã c,Ã ∅,Option.or_none]
   exact(gs u).1
 sleep 3;show bO nI [some (bX L),some (.list rs),some (.int (p:Int)),none] _ _ _ _;unfold nI;have tl:gM "Table" "lines" (bX L)=some (P3 L.lines):=sY;have th:gM "Table" "held" (bX L)=some (.list (L.held.map .int)):=wA;have ts:gM "Table" "scale" (bX L)=some (.int L.s):=yZ;dsimp? [tl,i1,sh,ts,xT,th,i2,pn,pe]
def aBR(K:Ok P L T)(I:Sx.Inv P σ T){Á:ZK}(hm:rs.length=m)(hk:P.k=m+P.n)(hr:Á.length=P.n):
  nL [bX L,.list rs,.list (Á.map .int)]=.ok (.tuple [.str "fill",.list ((List.range P.n).map λx=>fr (qX (Sx.val P T x) T.s)),ę P.n m (λu=>Sx.shr P.n T.f (T.L P.k) u) T.s]) []:=by
 have R:=K.rp;have kk:=K.k;have hs0:T.s≠0:=by have:=K.pos;exact Ă ‹_›
 have sh:=BU K I R.g;let⟨t1,t2⟩:=ND R.g;have gs:=λu=>KM R.fl t1 R.f t2 I.fi u;have pe:=HH K hm hk (À:=L.free.zip (L.goal.take P.n)) (y:=λu=>Sx.shr P.n T.f (T.L P.k) u) λu _=>(gs u).1;let ws:ZK:=L.lines.map λln=>ln.getD P.n 0;have wl:ws.length=P.k:=by simp![ws,Ä,R.ll]
 have wa:∀r,r<P.k->ws[r]?=some (T.L r P.n):=λr hr=>by
  let⟨ln,q1,q2⟩:=R.l r hr;simp![ws,Î,q1,ă,q2.getD (Ç _)]
 have hv:=λu=>KM R.hl wl R.h wa (λi j hi hj e=>I.hi i j 'a' 'a' e) u;sleep 3;show bO nK [some (bX L),some (.list rs),some (.list (Á.map .int)),none,none,none,none] _ _ _ _;unfold nK;have tl:gM "Table" "lines" (bX L)=some (P3 L.lines):=sY;have th:gM "Table" "held" (bX L)=some (.list (L.held.map .int)):=wA;have ts:gM "Table" "scale" (bX L)=some (.int L.s):=yZ;have tg:gM "Table" "goal" (bX L)=some (.list (L.goal.map .int)):=NA;dsimp? [];have hz:vM (CN (gM "Table" "held") (bQ 0)) (CN (gM "Table" "lines") (bQ 0)) [some (bX L),some (.list rs),some (.list (Á.map .int)),some (kE [] []),none,none,none]=.ok ((L.held.zip L.lines).map λp=>.tuple [.int p.1,.list (p.2.map PyData.int)]) [some (bX L),some (.list rs),some (.list (Á.map .int)),some (kE [] []),none,none,none]:=by
  have e1:CN (gM "Table" "held") (bQ 0) [some (bX L),some (.list rs),some (.list (Á.map .int)),some (kE [] []),none,none,none]=.ok (.list (L.held.map .int)) [some (bX L),some (.list rs),some (.list (Á.map .int)),some (kE [] []),none,none,none]:=dJ (by dsimp? [th]);have e2:CN (gM "Table" "lines") (bQ 0) [some (bX L),some (.list rs),some (.list (Á.map .int)),some (kE [] []),none,none,none]=.ok (P3 L.lines) [some (bX L),some (.list rs),some (.list (Á.map .int)),some (kE [] []),none,none,none]:=dJ (by dsimp? [tl]);unfold vM;simp![aZ,e1,e2,aU];congr 1;unfold iE;rw[List.zipWith_map,List.zip_eq_zipWith,List.map_zipWith]
 refine cS (λk δ=>∃o4 o5,δ=[some (bX L),some (.list rs),some (.list (Á.map .int)),some (dI ((L.held.zip ws).take k)),o4,o5,none]) hz ⟨none,none,rfl⟩ ?_ ?_
 .rintro k d δ hkd ⟨o4,o5,rfl⟩
  rw[Î]at hkd;cases e:(L.held.zip L.lines)[k]? with
  |none=>rw[e]at hkd;cases hkd
  |some q=>
   rw[e]at hkd;cases hkd;let⟨q1,q2⟩:=ě.mp e;have hk':k<P.k:=by have:=(Ð.mp q1).1;rw[R.hl]at this;exact this
   let⟨ln,l1,l2⟩:=R.l k hk';rw[q2]at l1;have el:ln=q.2:=(Option.some.inj l1).symm;subst el;sleep 7;have ez:(L.held.zip ws)[k]?=some (q.1,T.L k P.n):=by rw[ě];exact⟨q1,wa k hk'⟩
   have pt:=HG R.hl R.h (λi j hi hj e=>I.hi i j 'a' 'a' e) kk ez;have il:=VV l2.len (l2.at' P.n (Ç _));dsimp? [xT,il,pt];exact⟨_,_,rfl⟩
 .rintro δ ⟨o4,o5,rfl⟩
  rw[Ä,é,R.hl,R.ll,Nat.min_self,List.take_of_length_le (by rw[é,R.hl,wl];lia)];dsimp? [];refine aY.of (FT (n:=(P.n:Int)) (g:=λu=>fr (qX (Sx.val P T u) T.s)) (dJ (by dsimp? [Ä,hr])) ∅ (by have:=K.n;lia) λk hk=>?_) ?_
  .have e:=(hv k).1
   have g0:((gI (L.held.zip ws) (k:Int)).map PyData.int).getD (.int 0)=.int (Sx.val P T k):=by
    unfold Sx.val;rw[<- e];cases gI (L.held.zip ws) (k:Int)<;>rfl
   dsimp? [UP,V1,V0,g0,ts,R.s,V3 hs0 (K.fs.mono ⋯)]
  .rw[ā]
   dsimp? [tg,sh,pe]
def aK9(h:aY c δ λb δ1=>if b=true then bO u δ1 (λδ2=>bO (eZ c u) δ2 N B C R) N (λδ2=>bO (eZ c u) δ2 N B C R) R else N δ1):bO (eZ c u) δ N B C R:=by
 let⟨b,δ1,e,q⟩:=h.ex;cases b with
 |false=>
  refine bO.of (fl:=.next) (by rw[eG,e];rfl) ?_;exact(by simpa using q:N δ1)
 |true=>
  rw[Â rfl]at q;let⟨fl,δ2,e2,q2⟩:=q.ex;cases fl with
  |next=>
   let⟨fl3,δ3,e3,q3⟩:=bO.ex q2;exact bO.of (fl:=fl3) (by rw[eG,e];simp![aU,if_true,e2];exact e3) q3
  |cont=>
   let⟨fl3,δ3,e3,q3⟩:=bO.ex q2;exact bO.of (fl:=fl3) (by rw[eG,e];simp![aU,if_true,e2];exact e3) q3
  |brk=>exact bO.of (fl:=.next) (by rw[eG,e];simp![aU,if_true,e2]) q2
  |ret r=>exact bO.of (fl:=.ret r) (by rw[eG,e];simp![aU,if_true,e2]) q2
def ğ(Á:ZK)(i:Nat):D:=.list ((((List.replicate Á.length (0:Int)).set i 1)++[Á.getD i 0]).map PyData.int)
def V4(hn:Á.length<=900):sM [.list (Á.map .int)]=.ok (.list ((List.range Á.length).map (ğ Á))) []:=by
 sleep 3;show bO l7 [some (.list (Á.map .int)),none,none,none,none] _ _ _ _;unfold l7;dsimp? [];refine cS (λk δ=>∃o2 o3 o4,δ=[some (.list (Á.map .int)),some (.list ((List.range k).map (ğ Á))),o2,o3,o4]) (NB (enc:=PyData.int) (xs:=Á) (by dsimp? [])) ⟨none,none,none,rfl⟩ ?_ ?_
 .rintro k d δ hk ⟨o2,o3,o4,rfl⟩
  have hk0:=(Ð.mp hk).1;simp![Ä,List.length_zipIdx]at hk0;have ed:d=.tuple [.int (k:Int),.int (Á.getD k 0)]:=by
   rw[Î,Î,List.getElem?_zipIdx,É hk0]at hk;simp![ă,Option.some.injEq]at hk;rw[<- hk,Ê,É hk0];simp
  subst ed;sleep 7;dsimp? [];refine aY.of (dM (xs:=Á) (enc:=PyData.int) (g:=λ_=>.int 0) (cJ (by dsimp? [])) ∅ λx _=>by dsimp? []) ?_;have ei:=ixN_lt' (show k<((Á.map λ_=>PyData.int 0)++[PyData.int (Á.getD k 0)]).length by simp;exact Nat.lt_succ_of_lt ‹_›);have er:(List.range (k+1)).map (ğ Á)=(List.range k).map (ğ Á)++[ğ Á k]:=by rw[List.range_succ,Ù];rfl
  rw[er];have e0:(Á.map λ_=>PyData.int 0)=(List.replicate Á.length (0:Int)).map PyData.int:=by
   rw[List.map_replicate];exact List.map_const' ..
  have el:(((Á.map λ_=>PyData.int 0)++[PyData.int (Á.getD k 0)]).set k (.int 1))=(((List.replicate Á.length (0:Int)).set k 1)++[Á.getD k 0]).map PyData.int:=by
   rw[e0,List.set_append_left _ _ (by simpa using hk0),Ù,List.map_set];rfl
  have cat:FJ (.list (Á.map λ_=>PyData.int 0)) (.list [PyData.int (Á.getD k 0)])=some (.list ((Á.map λ_=>PyData.int 0)++[PyData.int (Á.getD k 0)])):=Â (by
   simp![Ä,Ó,ô];have:901<=sizeLine:=by decide
   exact Ā ‹_› ‹_›)
  dsimp? [cat,ei,el];refine⟨by have:900<sizeLine:=⋯;simp![Ä,List.length_range];lia,_,_,_,rfl⟩
 .rintro δ ⟨o2,o3,o4,rfl⟩
  simp![Ä,List.length_zipIdx];dsimp? []
def aPN:nE 20 0 "Table" "scale" s (dD "Table" [] [])=some (.dict [(.none,.str "Table"),(.str "scale",s)]):=by with_unfolding_all rfl
def aPO:nE 20 1 "Table" "free" f (.dict [(.none,.str "Table"),(.str "scale",s)])=some (.dict [(.none,.str "Table"),(.str "scale",s),(.str "free",f)]):=by with_unfolding_all rfl
def aPP:nE 20 1 "Table" "held" h (.dict [(.none,.str "Table"),(.str "scale",s),(.str "free",f)])=some (.dict [(.none,.str "Table"),(.str "scale",s),(.str "free",f),(.str "held",h)]):=by with_unfolding_all rfl
def aPQ:nE 20 0 "Table" "lines" l (.dict [(.none,.str "Table"),(.str "scale",s),(.str "free",f),(.str "held",h)])=some (.dict [(.none,.str "Table"),(.str "scale",s),(.str "free",f),(.str "held",h),(.str "lines",l)]):=by with_unfolding_all rfl
def aPR:nE 20 0 "Table" "goal" g (.dict [(.none,.str "Table"),(.str "scale",s),(.str "free",f),(.str "held",h),(.str "lines",l)])=some (tb s f h l g):=by with_unfolding_all rfl
def aPS{n:Nat}(h:n<=1000):lT [.int (n:Int)]=some (0,n):=by
 unfold lT;dsimp only;rw[Â ⟨∅,∅⟩,ā]
def aPT{n m:Nat}(h:n+m<=1000):lT [.int (n:Int),.int ((n+m:Nat):Int)]=some ((n:Int),m):=by
 unfold lT;dsimp only;rw[Â ⟨∅,∅,∅,∅⟩];have e:((((n+m:Nat):Int))-(n:Int)).toNat=m:=by lia
 rw[e]
def ź(h:n<=1000):n<=sizeLine:=Ø h (show 1000<=sizeLine by decide)
def V5(h:lT ds=some (lo,n))(hn:n<=1000):Ĩ ds=some (.list (iO lo n)):=by
 unfold Ĩ;rw[h];exact Â (ź hn)
def aPU{n:Nat}(h:n<=1000):Ĩ [.int (n:Int)]=some (.list (((List.range n).map λ(i:Nat)=>(i:Int)).map PyData.int)):=by
 rw[V5 (aPS h) h];have e:iO 0 n=((List.range n).map λ(i:Nat)=>(i:Int)).map PyData.int:=by
  unfold iO;rw[è];refine List.map_congr_left λk _=>?_;show PyData.int (0+(k:Int))=.int (k:Int);rw[Int.zero_add]
 rw[e]
def aPV{n m:Nat}(h:n+m<=1000):Ĩ [.int (n:Int),.int ((n+m:Nat):Int)]=some (.list (((List.range m).map λ(i:Nat)=>((n+i:Nat):Int)).map PyData.int)):=by
 rw[V5 (aPT h) ∅];have e:iO (n:Int) m=((List.range m).map λ(i:Nat)=>((n+i:Nat):Int)).map PyData.int:=by
  unfold iO;rw[è];refine List.map_congr_left λk _=>?_;show PyData.int ((n:Int)+(k:Int))=.int ((n+k:Nat):Int);rw[Int.natCast_add]
 rw[e]
def ĵ(r:ZK×Int):D:=.tuple [.list (r.1.map PyData.int),.int r.2]
abbrev P5(rs:ZE):D:=.list (rs.map ĵ)
def aBS(hm:Å.length<=300)(hn:Á.length<=300)(hr:∀r∈Å,r.1.length=Á.length):kW [dD "Table" [] [],P5 Å,.list (Á.map .int)]=.ok .none [some (bX (Sx.startL Å Á))]:=by
 have sz:1000<=sizeLine:=by decide
 refine M9 (os:=[bX (Sx.startL Å Á)]) ?_;show bO gN [some (dD "Table" [] []),some (P5 Å),some (.list (Á.map .int))] _ _ _ _;unfold gN;have e1:=aPU (n:=Á.length) ∅;have e2:=aPV (n:=Á.length) (m:=Å.length+Á.length) ∅;have e3:((Á.length+(Å.length+Á.length):Nat):Int)=(Á.length:Int)+(Å.length:Int)+(Á.length:Int):=by lia
 rw[e3]at e2;have er:=V4 (Á:=Á) ∅;dsimp? [xS,aPN,aHA,Ä,e1,aPO,e2,aPP,P5];refine aY.of (oQ (xs:=Å) (enc:=ĵ) (A:=λr=>.list (r.1.map PyData.int)) (B:=λr=>.int r.2) (g:=λr=>.list ((r.1++[r.2]).map PyData.int)) (λ_=>rfl) (cJ (by dsimp? [])) ∅ λr hr'=>?_) ?_
 .have hl:=hr r hr'
  have ll:∀l:ZI,FO [.list l]=some (.list l):=λ_=>rfl;dsimp? [ll,Ä,Ù,Ï,List.map_nil,Ó,ô];exact ź ∅
 .dsimp? [er,Ä,List.length_range]
  refine⟨∅,?_⟩;dsimp? [aPQ,xS];refine aY.of (dM (xs:=Á) (enc:=PyData.int) (g:=λ_=>.int 1) (cJ (by dsimp? [])) ∅ λx _=>by dsimp? []) ?_;have g1:(Á.map λ_=>PyData.int 1)++[PyData.int 0]=(List.replicate Á.length (1:Int)++[0]).map PyData.int:=by
   have e0:(Á.map λ_=>PyData.int 1)=List.replicate Á.length (PyData.int 1):=List.map_const' ..;rw[Ù,List.map_replicate,e0,Ï,List.map_nil]
  have g2:(Å.map λr=>PyData.list ((r.1++[r.2]).map PyData.int))++(List.range Á.length).map (ğ Á)=((Å.map λr=>r.1++[r.2])++(List.range Á.length).map λ(i:Nat)=>((List.replicate Á.length (0:Int)).set i 1)++[Á.getD i 0]).map λx=>PyData.list (x.map PyData.int):=by
   rw[Ù,è,è];congr 1
  have fin:tb (.int 1) (.list (((List.range Á.length).map λ(i:Nat)=>(i:Int)).map PyData.int)) (.list (((List.range (Å.length+Á.length)).map λ(i:Nat)=>((Á.length+i:Nat):Int)).map PyData.int)) (.list ((Å.map λr=>PyData.list ((r.1++[r.2]).map PyData.int))++(List.range Á.length).map (ğ Á))) (.list ((Á.map λ_=>PyData.int 1)++[PyData.int 0]))=bX (Sx.startL Å Á):=by
   rw[g1,g2];rfl
  dsimp? [Ä,Ó,ô];refine⟨ź ∅,?_⟩;dsimp? [aPR,fin]
structure Ď(Å:ZE)(Á:ZK)(A C:Nat):Prop where
 len:∀r∈Å,r.1.length=Á.length
 m:Å.length<=300
 n:Á.length<=300
 a1:1<=A
 a:∀r∈Å,∀x∈r.1,x.natAbs<=A
 c:∀r∈Å,r.2.natAbs<=C
 cr:∀x∈Á,x.natAbs<=C
 f1:Sx.fac Á.length*A^Á.length<2^4000
 f2:(Á.length+1)*(Sx.fac Á.length*A^Á.length*C)<2^4000
section
def HI{l:ZK}(h:∀y∈l,y.natAbs<=A):(l.getD x 0).natAbs<=A:=by
 rw[Ê];cases e:l[x]? with
 |none=>simp
 |some y=>exact h y (û e)
def Ď.pa(b:Ď Å Á A C)(u x:Nat):((Sx.lpOf Å Á).pr.a u x).natAbs<=A:=by
 have a1:=b.a1;have h0:(0:Int).natAbs<=A:=by simp
 have h1:(1:Int).natAbs<=A:=by simpa using a1
 have h2:(-1:Int).natAbs<=A:=by simpa using a1
 show (if u<Á.length then (if x=u then -1 else 0)else if u<Á.length+Å.length then (Å.getD (u-Á.length) ([],0)).1.getD x 0 else if u<Á.length+Å.length+Á.length then (if x=u-(Á.length+Å.length)then 1 else 0)else 1:Int).natAbs<=A;split
 .split
  .exact h2
  .exact h0
 .split
  .refine HI λy hy=>?_
   rw[Ê]at hy;cases e:Å[u-Á.length]? with
   |none=>rw[e]at hy;cases hy
   |some r=>rw[e]at hy;exact b.a r (û e) y hy
  .split
   .split
    .exact h1
    .exact h0
   .exact h1
def Ď.pc(b:Ď Å Á A C)(u:Nat):((Sx.lpOf Å Á).pr.c u).natAbs<=C:=by
 have h0:(0:Int).natAbs<=C:=by simp
 show (if u<Á.length then 0 else if u<Á.length+Å.length then (Å.getD (u-Á.length) ([],0)).2 else if u<Á.length+Å.length+Á.length then Á.getD (u-(Á.length+Å.length)) 0 else 0:Int).natAbs<=C;split
 .exact h0
 .split
  .rw[Ê]
   cases e:Å[u-Á.length]? with
   |none=>exact h0
   |some r=>exact b.c r (û e)
  .split
   .exact HI b.cr
   .exact h0
def Ď.ok(b:Ď Å Á A C)(I:Sx.Inv (Sx.lpOf Å Á).pr σ T)(R:Sx.Rp (Sx.lpOf Å Á).pr L T):Ok (Sx.lpOf Å Á).pr L T:=by
 let⟨h1,h2,h3⟩:=I.small (A:=A) (C:=C) (λu x _ _=>b.pa u x) (λu _=>b.pc u);have bm:=b.m;have bn:=b.n;refine⟨R,I.pos,Ā h1 b.f1,λr j hr hj=>?_,?_,?_⟩
 .by_cases e:j<(Sx.lpOf Å Á).pr.n
  .exact Ā (h2 r j hr e) b.f1
  .have e:j=(Sx.lpOf Å Á).pr.n:=by lia
   subst e;exact Ā (h3 r hr) b.f2
 .show Á.length<=900
  lia
 .show Å.length+Á.length<=900
  lia
end
def aLB(Q:Sx.Lp)(T:Sx.Tab):D:=.tuple [.str "fill",.list ((List.range Q.n).map λx=>fr (qX (Sx.val Q.pr T x) T.s)),ę Q.n Q.m (λu=>Sx.shr Q.n T.f (T.L Q.pr.k) u) T.s]
def aLC(Q:Sx.Lp)(T:Sx.Tab)(p:Nat):D:=.tuple [.str "none",ę Q.n Q.m (λu=>if u=T.h p then T.s else Sx.shr Q.n T.f (T.L p) u) T.s]
def ϸ(Q:Sx.Lp)(r:D):Prop:=∃T σ,Sx.Inv Q.pr σ T/\(((∀r,r<Q.pr.k->0<=T.L r Q.n)/\r=aLB Q T)\/∃p,p<Q.pr.k/\T.L p Q.n<0/\(∀j,j<Q.n->0<=T.L p j)/\r=aLC Q T p)
def Ϲ(Å:ZE)(Á:ZK)(T:Sx.Tab):Prop:=∀(L:Sx.LT),Sx.Rp (Sx.lpOf Å Á).pr L T->∀(o4:ZL)(pl:D),cA [bX L]=.ok pl [] ->
   bO (eK (eZ (dB (j9 wW (bQ 3) (dC .none)))
   (eK (jU 4 (OO (fU l9 [.val (bQ 2),.val (j9 fC (CN (gM "Table" "lines") (bQ 2)) (bQ 3))])))
   (eK (m5 (dB (j9 ĥ (bQ 4) (dC .none)))
    (wQ (fU nJ [.val (bQ 2),.val (bQ 0),.val (bQ 3)]))
    AU)
   (eK (uX (xI 2 "Table" "swap" mC [.val (bQ 3),.val (bQ 4)]))
   (jU 3 (OO (fU cA [.val (bQ 2)])))))))
  (wQ (fU nL [.val (bQ 2),.val (bQ 0),.val (bQ 1)]))) [some (P5 Å),some (.list (Á.map .int)),some (bX L),some pl,o4] (λ_=>False) (λ_=>False) (λ_=>False) λr _=>ϸ (Sx.lpOf Å Á) r
def aBU(b:Ď Å Á A C)(T:Sx.Tab)(I:Sx.Inv (Sx.lpOf Å Á).pr σ T):Ϲ Å Á T:=by
 refine Sx.simplex_ind (Good:=Ϲ Å Á) ?_ T I;clear I T;intro T I ih L R o4 pl hpl;have K:=b.ok I R;have hk:(Sx.lpOf Å Á).pr.k=Å.length+(Sx.lpOf Å Á).pr.n:=rfl;have hm:(Å.map ĵ).length=Å.length:=Ä _;have tl:gM "Table" "lines" (bX L)=some (P3 L.lines):=sY;rw[A7];refine aK9 ?_;rcases y9 K with ⟨all,e⟩|⟨p,hp,neg,first,e⟩
 .rw[e]at hpl
  cases hpl;have fe:=aBR K I (rs:=Å.map ĵ) (Á:=Á) hm hk rfl;dsimp? [aK7,Bool.false_eq_true,if_false,fe];exact⟨T,σ,I,.inl ⟨all,rfl⟩⟩
 .rw[e]at hpl
  cases hpl;let⟨pv,e1,e2⟩:=R.l p hp;let⟨o,hB,ec⟩:=P4 K hp e2;have i1:=Ÿ e1;dsimp? [aK8,if_true,tl,i1,ec,qD];cases o with
  |none=>
   have ne:=aBQ K I (rs:=Å.map ĵ) hm hk hp;simp![oD,aHB];dsimp? [Ϸ,ne];exact⟨T,σ,I,.inr ⟨p,hp,neg,hB,rfl⟩⟩
  |some d=>
   have C:=Sx.ch_of hp neg first hB
   have R':=R.swap hp C.hd;have I':=C.inv I;have K':=b.ok I' R';have sw:=aBM K hp C.hd;obtain⟨pl',ep,hv⟩:∃pl',cA [bX (Sx.swapL L p d)]=.ok pl' []/\(IG pl').isSome=true:=by
    rcases y9 K' with ⟨_,e⟩|⟨q,_,_,_,e⟩
    .exact⟨_,e,rfl⟩
    .exact⟨_,e,rfl⟩
   have nx:=ih p d C (Sx.swapL L p d) R' (some (.int (d:Int))) pl' ep;rw[A7]at nx;simp![oD,UR];have tm:xQ "Table" "swap" (bX L):=aBL;dsimp? [Ź,aG8,tm,true_and,sw,ep,qD];refine⟨hv,?_⟩;dsimp? [];exact nx
def HJ(b:Ď Å Á A C):∃r,v4 [P5 Å,.list (Á.map .int)]=.ok r []/\ϸ (Sx.lpOf Å Á) r:=by
 have bm:=b.m;have bn:=b.n;have R:=Sx.start_ok b.len;have I:=(Sx.lpOf Å Á).inv;have K:=b.ok I R;have ie:=aBS (Å:=Å) (Á:=Á) 's' 's' b.len;obtain⟨pl,ep,hv⟩:∃pl,cA [bX (Sx.startL Å Á)]=.ok pl []/\(IG pl).isSome=true:=by
  rcases y9 K with ⟨_,e⟩|⟨q,_,_,_,e⟩
  .exact⟨_,e,rfl⟩
  .exact⟨_,e,rfl⟩
 have wk:=aBU b _ I (Sx.startL Å Á) R none pl ep;refine u4 (m0:=5) (rm:=0) ?_;show bO DR [some (P5 Å),some (.list (Á.map .int)),none,none,none] _ _ _ _;unfold DR;dsimp? [aG9];unfold UN;refine⟨_,_,rfl,ie,?_⟩;dsimp? [ep,qD];refine⟨hv,?_⟩;dsimp? [];rw[A7]at wk;exact wk
end Toy
def qY(ns:ZK)(ps:ZF):Nat->Int×Int
 |0=>(0,1)
 |k+1=>((qY ns ps k).1*(ps.getD k (0,1)).2+ns.getD k 0*(ps.getD k (0,1)).1*(qY ns ps k).2,(qY ns ps k).2*(ps.getD k (0,1)).2)
def EC(h:∀p∈ps,0<p.2):∀k,0<(qY ns ps k).2
 |0=>by show (0:Int)<1;decide
 |k+1=>by
  have ih:=EC (ns:=ns) h k;refine Int.mul_pos ih ?_;rw[Ê];cases e:ps[k]? with
  |none=>decide
  |some p=>exact h p (û e)
def ED{t b x y c:Int}(hb:0<b)(hy:0<y)(e:x*b=t*y):(c*y<x)↔(c*b<t):=by
 constructor
 .intro h
  have h1:c*y*b<x*b:=Int.mul_lt_mul_of_pos_right h hb;rw[e]at h1;have h2:(c*b)*y<t*y:=by
   have:c*b*y=c*y*b:=by grind
   lia
  exact Int.lt_of_mul_lt_mul_right h2 (à hy)
 .intro h
  have h1:c*b*y<t*y:=Int.mul_lt_mul_of_pos_right h hy;rw[<- e]at h1;have h2:(c*y)*b<x*b:=by
   have:c*b*y=c*y*b:=by grind
   lia
  exact Int.lt_of_mul_lt_mul_right h2 (à hb)
def V6{t b x y:Int}(hb:0<b)(hy:0<y)(e:x*b=t*y):(x<0)↔(t<0):=by
 constructor
 .intro h
  have h1:x*b<0:=Int.mul_neg_of_neg_of_pos h hb;rw[e]at h1;exact Int.lt_of_not_ge λz=>by have:=ê z (à hy);lia
 .intro h
  have h1:t*y<0:=Int.mul_neg_of_neg_of_pos h hy;rw[<- e]at h1;exact Int.lt_of_not_ge λz=>by have:=ê z (à hb);lia
def P6{t b x y n p1 p2 u v r s:Int}(hy:0<y)(hv:0<v)(e:x*b=t*y)(e2:u*(1*p2)=n*p1*v)(e3:r*(y*v)=(x*v+u*y)*s):r*(b*p2)=(t*p2+n*p1*b)*s:=by
 have h0:y*v≠0:=Ă (Int.mul_pos hy hv);apply Int.eq_of_mul_eq_mul_right h0;have:r*(b*p2)*(y*v)=(r*(y*v))*(b*p2):=by grind
 rw[this,e3];have:(x*v+u*y)*s*(b*p2)=((x*b)*v*p2+(u*(1*p2))*y*b)*s:=by grind
 rw[this,e,e2]
 grind
namespace Toy
open PySem L2
abbrev iL(ns:ZK):D:=.list (ns.map PyData.int)
def EE(r:ZK×Int):D:=.tuple [iL r.1,.int r.2]
abbrev vD(rs:ZE):D:=.list (rs.map EE)
def gD(b:Nat)(ps:ZF):Prop:=∀p∈ps,0<p.2/\bP b p.1/\bP b p.2
def nU(a:Nat)(ns:ZK):Prop:=∀n∈ns,bP a n
def HK:bP n 0:=by show (0:Int).natAbs<2^n;simp;exact Nat.two_pow_pos n
def zD(h:1<=n):bP n 1:=by
 show (1:Int).natAbs<2^n;have:2^1<=2^n:=Nat.pow_le_pow_right ⋯ h;simp;exact ß ‹_›
def gD.at(h:gD b ps)(hb:1<=b)(k:Nat):0<(ps.getD k (0,1)).2/\bP b (ps.getD k (0,1)).1/\bP b (ps.getD k (0,1)).2:=by
 rw[Ê];cases e:ps[k]? with
 |none=>exact⟨⋯,HK,zD hb⟩
 |some p=>exact h p (û e)
def nU.at(h:nU a ns)(k:Nat):bP a (ns.getD k 0):=by
 rw[Ê];cases e:ns[k]? with
 |none=>exact HK
 |some p=>exact h p (û e)
def gD.pos(h:gD b ps):∀p∈ps,0<p.2:=λp hp=>(h p hp).1
def aBV{ns:ZK}(h:k<ns.length):atI (ns.map PyData.int) (k:Int)=some (.int (ns.getD k 0)):=by
 refine eJ ?_;rw[Î,É h,Ê,É h];rfl
def NE{ns:ZK}{ps:ZF}{k:Nat}{d:D}(h:(iE (ns.map PyData.int) (ps.map fr))[k]?=some d):k<ns.length/\k<ps.length/\d=.tuple [.int (ns.getD k 0),fr (ps.getD k (0,1))]:=by
 have hi:=(Ð.mp h).1;simp![iE,List.length_zipWith,Ä]at hi;have h1:k<ns.length:=by lia
 have h2:k<ps.length:=by lia
 refine⟨h1,h2,?_⟩;rw[iE,List.getElem?_zipWith,Î,Î,É h1,É h2]at h;simp![ă,Option.some.injEq]at h;rw[<- h,Ê,Ê,É h1,É h2];rfl
def V7{i j:Nat}{δ:DS}(h1:δ[i]?=some (some (.list as)))(h2:δ[j]?=some (some (.list bs))):vM (bQ i) (bQ j) δ=.ok (iE as bs) δ:=by
 simp![vM,aZ,cE h1,cE h2,aU]
def V8{i:Nat}{δ:DS}(h1:δ[i]?=some (some (.list as))):hU (bQ i) δ=.ok as δ:=by
 simp![hU,cE h1,aU]
end Toy
namespace L2
open PySem PySem.Spec
end L2
namespace Toy
open PySem L2
def V9{rs:ZE}{k:Nat}(h:(rs.map EE)[k]?=some d):∃r,rs[k]?=some r/\r∈rs/\d=EE r:=by
 rw[Î]at h;cases e:rs[k]? with
 |none=>rw[e]at h;cases h
 |some r=>
  rw[e]at h;cases h;exact⟨r,rfl,û e,rfl⟩
structure Ϻ(n:Nat)(Å:ZE):Prop where
 len:∀r∈Å,r.1.length=n
 nums:∀r∈Å,nU 70 r.1
 tops:∀r∈Å,bP 900 r.2
section
def sZ(h:0<b):0<(qX t b).2:=K7 (by exact Ă ‹_›)
def oU:(qX t b).1*b=t*(qX t b).2:=AS t b
def aBW(h:0<b):Int.gcd (qX t b).1 (qX t b).2=1:=K8 (by exact Ă ‹_›)
def NF(h:bP n x):bP n (IE t b x):=by
 unfold IE;split
 .exact h.div.neg
 .exact h.div
def aBX(ht:bP n t)(hb:bP n b):bP n (qX t b).1/\bP n (qX t b).2:=⟨NF ht,NF hb⟩
def aBY(h:0<b):((qX t b).1<0)↔(t<0):=V6 h (sZ h) oU
end
def qs(n:Nat)(y:Nat->Int)(s:Int):ZF:=(List.range n).map λx=>qX (y x) s
section
def qZ:(qs n y s).length=n:=by unfold qs;simp
def ϻ(h:k<n):(qs n y s).getD k (0,1)=qX (y k) s:=by
 unfold qs;rw[Ê,Î,ÿ h];rfl
def aBZ(hs:0<s)(fs:bP b s)(fy:∀x,x<n->bP b (y x)):gD b (qs n y s):=λp hp=>by
 unfold qs at hp;let⟨x,hx,rfl⟩:=Ô.mp hp;exact⟨sZ hs,aBX (fy x (List.mem_range.mp hx)) fs⟩
def WA(hs:0<s):∀p∈qs n y s,0<p.2:=λp hp=>by
 unfold qs at hp;let⟨x,hx,rfl⟩:=Ô.mp hp;exact sZ hs
def aHQ:iJ (qs n y s)=.list ((List.range n).map λx=>fr (qX (y x) s)):=by
 unfold iJ qs;rw[è];rfl
end
section
abbrev ď(Å:ZE)(Á:ZK):Sx.Lp:=Sx.lpOf Å Á
abbrev y0(Å:ZE)(Á:ZK)(y:Nat->Int)(r:Nat):Int:=y (Á.length+r)
abbrev y1(Å:ZE)(Á:ZK)(y:Nat->Int)(i:Nat):Int:=y (Á.length+Å.length+i)
end
def aHR{A B S p q m s y:Int}(ih:A*s=S*B)(c:p*s=y*q):(A*q+m*p*B)*s=(S+m*y)*(B*q):=by grind
section
variable {n k:Nat}{y:Nat->Int}{s:Int}
def Ż :∀k,k<=n->(qY ns (qs n y s) k).1*s=(Sx.sumN k λi=>ns.getD i 0*y i)*(qY ns (qs n y s) k).2
 |0,_=>by simp[qY,Sx.sumN]
 |k+1,h=>by
  have ih:=Ż (ns:=ns) k 'a';have e:(qs n y s).getD k (0,1)=qX (y k) s:=ϻ 's';have c:=oU (t:=y k) (b:=s);rw[show qY ns (qs n y s) (k+1)=((qY ns (qs n y s) k).1*((qs n y s).getD k (0,1)).2+ns.getD k 0*((qs n y s).getD k (0,1)).1*(qY ns (qs n y s) k).2,(qY ns (qs n y s) k).2*((qs n y s).getD k (0,1)).2)from rfl,Sx.sumN,e];dsimp only;exact aHR ih c
end
end Toy
namespace L2
open PySem PySem.Spec
def j8(P:ZO)(h1:bO u δ P B C R)(h2:∀δ1,P δ1->bO v δ1 N B C R):bO (eK u v) δ N B C R:=by
 rw[A7];let⟨fl,δ1,e,q⟩:=h1.ex;refine .of e ?_;cases fl with
 |next=>exact h2 _ q
 |_=>exact q
def seq_assoc:eK a (eK b c)=eK (eK a b) c:=by
 funext δ;unfold eK;cases a δ with
 |stuck=>rfl
 |err x d=>rfl
 |ok fl d=>cases fl<;>rfl
end L2
namespace Toy
open PySem L2
def Ϫ:ĳ true (.str "fill") (.tuple [.str "fill",.str "none"])=some (.bool false):=by with_unfolding_all rfl
def aN7:FK (.str "fill") (.str "fill")=some (.bool false):=by with_unfolding_all rfl
end Toy
namespace L2
open PySem PySem.Spec
section
end
def eS{i:Nat}{δ:DS}(h1:δ[i]?=some (some (.list as))):hU (bQ i) δ=.ok as δ:=by
 simp![hU,cE h1,aU]
def aB1(h:aY (aZ [f,g]) δ λds δ1=>ds=[.list as,.list bs]/\δ1=δ):vM f g δ=.ok (iE as bs) δ:=by
 let⟨ds,δ1,e,rfl,rfl⟩:=h.ex;unfold vM;rw[e,aU]
def jP{i:Nat}{δ:DS}(h1:δ[i]?=some (some (.list as))):xC (bQ i) δ=.ok (eV as) δ:=by
 simp![xC,aZ,cE h1,aU]
def aB2(h:as.length=bs.length):(iE as bs).length=as.length:=by simp[iE,h]
def g9:(eV as).length=as.length:=by simp[eV]
def fG:hU (JF [dC a,dC b]) δ=.ok [a,b] δ:=by
 simp![hU,JF,aZ,iS,aU];rw[Â (show [a,b].length<=sizeLine from Ø (show 2<=1000 by decide) ⋯)];rfl
def uK{α:Type}{enc g:α->D}{h:α->Bool}{t:M Bool}{e:M D}{δ:DS}:∀{xs:List α}{acc:ZI}{o:ZL},(∀x∈xs,t (some (enc x)::δ)=.ok (h x) (some (enc x)::δ))->(∀x∈xs,e (some (enc x)::δ)=.ok (g x) (some (enc x)::δ))->acc.length+xs.length<=sizeLine->∃o',bN (dY 0) t e (xs.map enc) acc (o::δ)=.ok (acc++(xs.filter h).map g) (o'::δ)
 |[],acc,o,_,_,_=>⟨o,by simp[bN]⟩
 |x::xs,acc,o,ht,he,hl=>by
  have hd:=ht x Õ;have hv:=he x Õ;rw[Ó]at hl;have e1:dY 0 (enc x) (o::δ)=some (some (enc x)::δ):=by simp[dY]
  cases hk:h x with
  |true=>
   let⟨o',ih⟩:=uK (xs:=xs) (acc:=acc++[g x]) (o:=some (enc x)) (λy hy=>ht y (Ò _ hy)) (λy hy=>he y (Ò _ hy)) (by simp;lia);refine⟨o',?_⟩;rw[Ï];unfold bN;rw[e1];simp![hd,hk,Res.bind,if_true,hv];rw[Â ∅,ih];simp[hk]
  |false=>
   let⟨o',ih⟩:=uK (xs:=xs) (acc:=acc) (o:=some (enc x)) (λy hy=>ht y (Ò _ hy)) (λy hy=>he y (Ò _ hy)) ∅;refine⟨o',?_⟩;rw[Ï];unfold bN;rw[e1];simp![hd,hk,Res.bind,Bool.false_eq_true,if_false];rw[Â ∅,ih];simp[hk]
def EF{α:Type}{enc g:α->D}{h:α->Bool}{f:M (ZI)}{t:M Bool}{e:M D}{δ:DS}{xs:List α}(hf:f δ=.ok (xs.map enc) δ)(hl:xs.length<=1000)(ht:∀x∈xs,aY t (some (enc x)::δ) λb δ1=>b=h x/\δ1=some (enc x)::δ)(he:∀x∈xs,aY e (some (enc x)::δ) λa δ1=>a=g x/\δ1=some (enc x)::δ):dP 1 (dY 0) f t e δ=.ok (.list ((xs.filter h).map g)) δ:=by
 unfold dP;rw[hf];let⟨o',q⟩:=uK (h:=h) (t:=t) (acc:=[]) (o:=none) (λx hx=>by
  let⟨b,δ1,e,rfl,rfl⟩:=(ht x hx).ex;exact e) (λx hx=>dJ (he x hx)) (by rw[ô,Nat.zero_add];exact Ø hl (show 1000<=sizeLine by decide))
 simp![Res.bind];rw[show List.replicate 1 (none:ZL)++δ=none::δ from rfl,q];simp
def WB{n:Nat}{k:Int}(h0:0<=k)(h1:k<n):lK n k=some k.toNat:=by
 unfold lK;rw[Â ∅,Â ∅]
def cB(s:String):PyData.strOk (Str.ofString s)=true:=by
 rw[Str.ofString_eq_toList];show ((s.toList.map Char.toNat).toArray).all (·<0x110000)=true;rw[List.all_toArray,ç];intro x hx;let⟨c,_,rfl⟩:=Ô.mp hx;have:=c.valid;rw[decide_eq_true_eq];rcases this with h|h
 .exact Nat.lt_trans h ⋯
 .exact h.2
structure bE(z:Str):Prop where
 len:z.length<=8
 ok:PyData.strOk z=true
def bE.sh(h:bE z):Sh 1 (.str z):=by
 have hz:sizeLine=2^24:=rfl;have:=h.len;exact⟨by simp[PyData.canLay0,h.ok],by simp[PyData.depth]⟩
def HL(hx:bE x)(hy:bE y):JL (.str x) (.str y)=some (.bool (x == y)):=by
 unfold JL;rw[Â ⟨hx.sh.shaped ⋯,hy.sh.shaped ⋯⟩];rfl
def aLE(hx:bE x)(hy:bE y):FK (.str x) (.str y)=some (.bool (!(x == y))):=by
 unfold FK;rw[Â ⟨hx.sh.shaped ⋯,hy.sh.shaped ⋯⟩];rfl
end L2
namespace Toy
open PySem L2
structure St where
 nm:Str
 x:Int
 y:Int
 z:Int
 t:Int
 h:Int
 m:Int
structure Bx where
 nm:Str
 w:Int
 p:Str
 k:Str
 b:Int
structure Tk where
 nm:Str
 x:Int
 y:Int
 z:Int
 r:Int
def mL(s:St):D:=.tuple [.str s.nm,.int s.x,.int s.y,.int s.z,.int s.t,.int s.h,.int s.m]
def gE(b:Bx):D:=.tuple [.str b.nm,.int b.w,.str b.p,.str b.k,.int b.b]
def s8(t:Tk):D:=.tuple [.str t.nm,.int t.x,.int t.y,.int t.z,.int t.r]
def aP(bs:List Bx):D:=.list (bs.map gE)
def tG(x:Int):Prop:=-1000000000<=x/\x<=1000000000
structure zE(s:St):Prop where
 nm:bE s.nm
 x:tG s.x
 y:tG s.y
 z:tG s.z
 t:tG s.t
structure zF(s:Tk):Prop where
 nm:bE s.nm
 x:tG s.x
 y:tG s.y
 z:tG s.z
 r:0<=s.r/\s.r<=1000000000
structure aHT(b:Bx):Prop where
 nm:bE b.nm
 p:bE b.p
 k:bE b.k
 w:1<=b.w/\b.w<=1000000000
structure l6(own:Int×Int×Int×Int)(ss:List St)(cs:List 'q')(ts:List Tk):Prop where
 o0:1<=own.1/\own.1<=1000000000
 o1:tG own.2.1/\tG own.2.2.1/\tG own.2.2.2
 ls:ss.length<=10
 lc:cs.length=ss.length
 lb:∀c∈cs,c.length<=30
 lt:ts.length<=4
 gs:∀s∈ss,zE s
 gb:∀c∈cs,∀b∈c,aHT b
 gt:∀t∈ts,zF t
def nV(o:Int×Int×Int×Int):D:=.tuple [.int o.1,.int o.2.1,.int o.2.2.1,.int o.2.2.2]
abbrev Q4:=Int×Int×Int×Int
def T4:List Q4->Q4
 |[]=>(0,0,0,0)
 |p::l=>(p.1+(T4 l).1,p.1*p.2.1+(T4 l).2.1,p.1*p.2.2.1+(T4 l).2.2.1,p.1*p.2.2.2+(T4 l).2.2.2)
def WC:∀(l m:List Q4),T4 (l++m)=((T4 l).1+(T4 m).1,(T4 l).2.1+(T4 m).2.1,(T4 l).2.2.1+(T4 m).2.2.1,(T4 l).2.2.2+(T4 m).2.2.2)
 |[],m=>by simp[T4]
 |p::l,m=>by
  rw[List.cons_append,T4,WC l m,T4];simp![Int.add_assoc]
def aB3(l:List Q4)(p:Q4):T4 (l++[p])=((T4 l).1+p.1,(T4 l).2.1+p.1*p.2.1,(T4 l).2.2.1+p.1*p.2.2.1,(T4 l).2.2.2+p.1*p.2.2.2):=by
 rw[WC];simp[T4]
def AG:St:=⟨"",0,0,0,0,0,0⟩
def zM:Bx:=⟨"",0,"","",0⟩
def HM:Tk:=⟨"",0,0,0,0⟩
def IJ(s:St)(bs:List Bx)(t:Nat):(List Q4):=(List.range t).map λ(j:Nat)=>((bs.getD j zM).w,s.x,s.y,s.z+(j:Int)*s.t)
def jF(ss:List St)(cs:List 'q')(k:Nat):(List Q4):=((List.range k).map λj=>IJ (ss.getD j AG) (cs.getD j []) (cs.getD j []).length).flatten
def WD:IJ s bs (t+1)=IJ s bs t++[((bs.getD t zM).w,s.x,s.y,s.z+(t:Int)*s.t)]:=by
 unfold IJ;rw[List.range_succ,Ù];rfl
def HN:jF ss cs (k+1)=jF ss cs k++IJ (ss.getD k AG) 'A' 'A'.length:=by
 unfold jF;rw[List.range_succ,Ù,List.flatten_append];simp
def dA{α:Type}{l:List α}{d:α}(h:k<l.length):l[k]?=some (l.getD k d):=by
 rw[Ê,É h];rfl
def cC{α:Type}{l:List α}{d:α}(h:k<l.length):l.getD k d∈l:=û (dA h)
def EG{α:Type}{enc:α->D}{l:List α}{d:α}(h:k<l.length):atI (l.map enc) (k:Int)=some (enc (l.getD k d)):=by
 refine eJ ?_;rw[Î,dA (d:=d) h];rfl
def KN(q:Q4):D:=.tuple [.int q.1,.int q.2.1,.int q.2.2.1,.int q.2.2.2]
def Sm(x:Int):Prop:=-18446744073709551616<x/\x<18446744073709551616
def HP(hw:Sm w):v5 [KN q,.int w,.tuple [.int x,.int y,.int z]]=.ok (KN (q.1+w,q.2.1+w*x,q.2.2.1+w*y,q.2.2.2+w*z)) []:=by
 let⟨h1,h2⟩:=hw;sleep 3;show bO DW [some (KN q),some (.int w),some (.tuple [.int x,.int y,.int z])] _ _ _ _;unfold DW;dsimp? [KN];exact⟨by ac_nf,by ac_nf,by ac_nf⟩
def WE{α β:Type}{f:α->D}{g:β->D}{as:List α}{bs:List β}{a0:α}{b0:β}{k:Nat}{d:D}(h:(iE (as.map f) (bs.map g))[k]?=some d):k<as.length/\k<bs.length/\d=.tuple [f (as.getD k a0),g (bs.getD k b0)]:=by
 have hi:=(Ð.mp h).1;simp![iE,List.length_zipWith,Ä]at hi;have h1:k<as.length:=by lia
 have h2:k<bs.length:=by lia
 refine⟨h1,h2,?_⟩;rw[iE,List.getElem?_zipWith,Î,Î,dA (d:=a0) h1,dA (d:=b0) h2]at h;simp![ă,Option.some.injEq]at h;rw[<- h]
def fP{α:Type}{f:α->D}{as:List α}{a0:α}{k:Nat}{d:D}(h:(eV (as.map f))[k]?=some d):k<as.length/\d=.tuple [.int (k:Int),f (as.getD k a0)]:=by
 have hi:=(Ð.mp h).1;simp![eV,List.length_mapIdx,Ä]at hi;refine⟨hi,?_⟩;rw[eV,List.getElem?_mapIdx,Î,dA (d:=a0) hi]at h;simp![ă,Option.some.injEq]at h;rw[<- h]
def aLF:SD (.tuple (a::l)) (some 1) none=some (.tuple l):=by
 show (if HT.sIx (l.length+1) 0 (some ((1:Nat):Int))=0/\HT.sIx (l.length+1) (l.length+1) none=l.length+1 then none else some (PyData.tuple (zU (a::l) (some ((1:Nat):Int)) none)))=_;rw[HT.sIx_nat,Ã ∅];have:=rY (ds:=a::l) (k:=1) 'e';have:=PyData.list.inj (Option.some.inj this);rw[this];rfl
section
variable {own:Q4}{ss:List St}{cs:List 'q'}{ts:List Tk}{bd ap tk:D}
def KO(M:l6 own ss cs ts):BO [.tuple [nV own,bd,.list (ss.map mL),tk,ap],.list 'm']=.ok (KN 'd') []:=by
 have lc:=M.lc;have ls:=M.ls;have o0:=M.o0;sleep 3;show bO uE [some (.tuple [nV own,bd,.list (ss.map mL),tk,ap]),some 'c',none,none,none,none,none,none,none] _ _ _ _;unfold uE;have e0:=HP (q:=(0,0,0,0)) (w:=own.1) (x:=own.2.1) (y:=own.2.2.1) (z:=own.2.2.2) (by unfold Sm;lia);have z0:((0+own.1,0+own.1*own.2.1,0+own.1*own.2.2.1,0+own.1*own.2.2.2):Q4)=T4 [own]:=by simp[T4]
 rw[z0]at e0;have e0':v5 [.tuple [.int 0,.int 0,.int 0,.int 0],.int own.1,.tuple [.int own.2.1,.int own.2.2.1,.int own.2.2.2]]=.ok (KN (T4 [own])) []:=e0;dsimp? [nV,JR,nA,nB,u5,aLF,e0'];refine cS (ds:=iE (ss.map mL) 'm') (δ1:=_) (λk δ=>∃o4 o5 o6 o7 o8,δ=[some (.tuple [.tuple [.int own.1,.int own.2.1,.int own.2.2.1,.int own.2.2.2],bd,.list (ss.map mL),tk,ap]),some 'c',some (.tuple [.int own.1,.int own.2.1,.int own.2.2.1,.int own.2.2.2]),some (KN (T4 (own::jF ss cs k))),o4,o5,o6,o7,o8]) (aB1 (by dsimp? [])) ⟨_,_,_,_,_,by simp[jF];exact⟨rfl,rfl,rfl,rfl,rfl⟩⟩ ?_ ?_
 .rintro k d δ hk ⟨o4,o5,o6,o7,o8,rfl⟩
  let⟨k1,k2,rfl⟩:=WE (a0:=AG) (b0:=[]) hk;have gb:=M.gb _ (cC (d:=[]) k2);sleep 7;refine cS (ds:=eV ('A'.map gE)) (λt δ=>∃o6 o7 o8,δ=[some (.tuple [.tuple [.int own.1,.int own.2.1,.int own.2.2.1,.int own.2.2.2],bd,.list (ss.map mL),tk,ap]),some 'c',some (.tuple [.int own.1,.int own.2.1,.int own.2.2.1,.int own.2.2.2]),some (KN (T4 (own::jF ss cs k++IJ (ss.getD k AG) 'A' t))),some (mL (ss.getD k AG)),some (aP 'A'),o6,o7,o8]) (jP rfl) ⟨_,_,_,by simp[IJ];exact⟨rfl,rfl,rfl⟩⟩ ?_ ?_
  .rintro t d δ ht ⟨o6,o7,o8,rfl⟩
   let⟨t1,rfl⟩:=fP (a0:=zM) ht;have gw:=gb _ (cC (d:=zM) t1);generalize hs:ss.getD k AG=s at *;generalize hb:'A'.getD t zM=b at *;have e1:=HP (q:=T4 (own::jF ss cs k++IJ s 'A' t)) (w:=b.w) (x:=s.x) (y:=s.y) (z:=s.z+(t:Int)*s.t) (by unfold Sm;have:=gw.w;lia);have lb:=M.lb _ (cC (d:=[]) k2);sleep 7;dsimp? [mL,gE,e1];have eT:T4 (own::jF ss cs k++IJ s 'A' (t+1))=((T4 (own::jF ss cs k++IJ s 'A' t)).1+b.w,(T4 (own::jF ss cs k++IJ s 'A' t)).2.1+b.w*s.x,(T4 (own::jF ss cs k++IJ s 'A' t)).2.2.1+b.w*s.y,(T4 (own::jF ss cs k++IJ s 'A' t)).2.2.2+b.w*(s.z+(t:Int)*s.t)):=by
    rw[WD,<- List.append_assoc,aB3,hb]
   rw[eT];exact⟨by ac_nf,_,_,_,rfl⟩
  .rintro δ ⟨o6,o7,o8,rfl⟩
   rw[g9,Ä,HN];exact⟨_,_,_,_,_,rfl⟩
 .rintro δ ⟨o4,o5,o6,o7,o8,rfl⟩
  rw[aB2 (by simp[lc]),Ä];dsimp? []
end
section
variable {own:Q4}{ss:List St}{cs:List 'q'}{ts:List Tk}
def NG:(ts.map λt=>PyData.int (f t))=(ts.map f).map PyData.int:=by simp
def EH{g:Tk->Int}(hl:ts.length<=10)(hg:∀t:Tk,atI [PyData.str t.nm,.int t.x,.int t.y,.int t.z,.int t.r] axis=some (.int (g t)))(hq:atI [PyData.int q.1,.int q.2.1,.int q.2.2.1,.int q.2.2.2] axis=some (.int qa))(hh:tG high):
  gZ [.list (ts.map s8),.int axis,.int high,KN q]=.ok (EE (ts.map λt=>g t-high,high*q.1-qa)) []:=by
 unfold tG at hh;sleep 3;show bO j6 [some (.list (ts.map s8)),some (.int axis),some (.int high),some (KN q)] _ _ _ _;unfold j6;dsimp? [];refine aY.of (dM (enc:=s8) (xs:=ts) (g:=λt=>.int (g t-high)) (eS rfl) ∅ λt _=>?_) ?_
 .dsimp? [s8,hg]
 .rw[NG]
  dsimp? [KN,hq,EE];exact(by ac_nf)
def WF{g:Tk->Int}(hl:ts.length<=10)(hg:∀t:Tk,atI [PyData.str t.nm,.int t.x,.int t.y,.int t.z,.int t.r] axis=some (.int (g t)))(hq:atI [PyData.int q.1,.int q.2.1,.int q.2.2.1,.int q.2.2.2] axis=some (.int qa))(hh:tG low):
  mF [.list (ts.map s8),.int axis,.int low,KN q]=.ok (EE (ts.map λt=>low-g t,qa-low*q.1)) []:=by
 unfold tG at hh;sleep 3;show bO mE [some (.list (ts.map s8)),some (.int axis),some (.int low),some (KN q)] _ _ _ _;unfold mE;dsimp? [];refine aY.of (dM (enc:=s8) (xs:=ts) (g:=λt=>.int (low-g t)) (eS rfl) ∅ λt _=>?_) ?_
 .dsimp? [s8,hg]
 .rw[NG]
  dsimp? [KN,hq,EE];exact(by ac_nf)
structure vE where
 b0:Int
 b1:Int
 b2:Int
 b3:Int
 b4:Int
 b5:Int
structure jQ(b:vE):Prop where
 b0:tG b.b0
 b1:tG b.b1
 b2:tG b.b2
 b3:tG b.b3
 b4:tG b.b4
 b5:tG b.b5
def zN(b:vE):D:=.tuple [.int b.b0,.int b.b1,.int b.b2,.int b.b3,.int b.b4,.int b.b5]
def bY(ts:List Tk)(b:vE)(q:Q4):ZE:=
 [(ts.map λt=>t.x-b.b1,b.b1*q.1-q.2.1),(ts.map λt=>b.b0-t.x,q.2.1-b.b0*q.1),(ts.map λt=>t.y-b.b3,b.b3*q.1-q.2.2.1),(ts.map λt=>b.b2-t.y,q.2.2.1-b.b2*q.1),(ts.map λt=>t.z-b.b4,b.b4*q.1-q.2.2.2),(ts.map λ_=>1,b.b5-q.1)]
def EI(M:l6 own ss cs ts)(g:jQ b):kX [.tuple [nV own,zN b,.list (ss.map mL),.list (ts.map s8),ap],.list 'm']=.ok (.list ((bY ts b 'd').map EE)) []:=by
 have lt:ts.length<=10:=Ø M.lt ⋯;have e0:=KO (bd:=zN b) (tk:=.list (ts.map s8)) (ap:=ap) M;generalize T4 (own::jF ss cs ss.length)=q at *;have h1:=EH (ts:=ts) (axis:=1) (g:=λt=>t.x) (q:=q) (qa:=q.2.1) lt (λ_=>A8) A8 g.b1;have h2:=WF (ts:=ts) (axis:=1) (g:=λt=>t.x) (q:=q) (qa:=q.2.1) lt (λ_=>A8) A8 g.b0;have h3:=EH (ts:=ts) (axis:=2) (g:=λt=>t.y) (q:=q) (qa:=q.2.2.1) lt (λ_=>A9) A9 g.b3;have h4:=WF (ts:=ts) (axis:=2) (g:=λt=>t.y) (q:=q) (qa:=q.2.2.1) lt (λ_=>A9) A9 g.b2;have h5:=EH (ts:=ts) (axis:=3) (g:=λt=>t.z) (q:=q) (qa:=q.2.2.2) lt (λ_=>L6) L6 g.b4;sleep 3;show bO uG [some (.tuple [nV own,zN b,.list (ss.map mL),.list (ts.map s8),ap]),some 'c',none,none,none] _ _ _ _;unfold uG;dsimp? [e0];simp![zN];dsimp? [h1,h2,h3,h4,h5];refine aY.of (dM (enc:=s8) (xs:=ts) (g:=λ_=>.int 1) (eS rfl) ∅ λt _=>by dsimp? []) ?_;rw[NG (f:=λ_=>1)];dsimp? [KN];rfl
def rA(lt:ts.length<=10):i7 [.tuple [A,B,C,.list (ts.map s8),E]]=.ok (iL (ts.map λt=>t.r)) []:=by
 sleep 3;show bO qM [some (.tuple [A,B,C,.list (ts.map s8),E])] _ _ _ _;unfold qM;dsimp? [];refine aY.of (dM (enc:=s8) (xs:=ts) (g:=λt=>.int t.r) (cJ (by dsimp? [])) ∅ λt _=>by dsimp? [s8]) ?_;rw[NG];exact⟨rfl,rfl⟩
end
section
variable {own:Q4}{ss:List St}{cs:List 'q'}{ts:List Tk}
def NH(h1:-1000000000<=x)(h2:x<=1000000000):bP 30 x:=by show x.natAbs<2^30;lia
def tG.fit(h:tG x):bP 30 x:=NH h.1 h.2
def zG(hm:1<=m):∀xs:ZK,(∀x∈xs,bP m x)->bP (m+xs.length) xs.sum
 |[],_=>HK
 |x::xs,h=>by
  have h1:=h x Õ;have h2:=zG hm xs λq hq=>h q (Ò _ hq);rw[List.sum_cons];exact h1.add h2 (by simp![Ó];lia)
def EJ:∀l:List Q4,T4 l=((l.map λq=>q.1).sum,(l.map λq=>q.1*q.2.1).sum,(l.map λq=>q.1*q.2.2.1).sum,(l.map λq=>q.1*q.2.2.2).sum)
 |[]=>rfl
 |p::l=>by rw[T4,EJ l];simp
def EK(M:l6 own ss cs ts):∀k,k<=ss.length->(jF ss cs k).length<=30*k
 |0,_=>by simp[jF]
 |k+1,hk=>by
  have ih:=EK M k ∅;have lc:=M.lc;have lb:=M.lb _ (cC (d:=[]) (show k<cs.length by lia));rw[HN,Ì];have:(IJ (ss.getD k AG) 'A' 'A'.length).length='A'.length:=by simp[IJ]
  lia
structure aPW(p:Q4):Prop where
 w:1<=p.1/\p.1<=1000000000
 x:bP 40 p.2.1
 y:bP 40 p.2.2.1
 z:bP 40 p.2.2.2
def KP(M:l6 own ss cs ts):∀p∈own::jF ss cs ss.length,aPW p:=λp hp=>by
 rcases Ë.mp hp with rfl|hp
 .have:=M.o1
  exact⟨M.o0,this.1.fit.mono ⋯,this.2.1.fit.mono ⋯,this.2.2.fit.mono ⋯⟩
 .unfold jF at hp
  let⟨l,hl,hq⟩:=List.mem_flatten.mp hp;let⟨j,hj,rfl⟩:=Ô.mp hl;have hj:=List.mem_range.mp hj;unfold IJ at hq;let⟨t,ht,rfl⟩:=Ô.mp hq;have ht:=List.mem_range.mp ht;have lc:=M.lc;have hc:j<cs.length:=by lia
  have gb:=M.gb _ (cC (d:=[]) hc) _ (cC (d:=zM) ht);have lb:=M.lb _ (cC (d:=[]) hc);have gs:=M.gs _ (cC (d:=AG) hj);refine⟨gb.w,gs.x.fit.mono ⋯,gs.y.fit.mono ⋯,?_⟩;have h1:=gs.z;have h2:=gs.t;unfold tG at h1 h2;have ht':(t:Int)<=30:=by lia
  have e1:(t:Int)*(ss.getD j AG).t<=30*1000000000:=by
   have a1:=Int.mul_le_mul_of_nonneg_left h2.2 (show (0:Int)<=(t:Int) by lia);lia
  have e2:-(30*1000000000)<=(t:Int)*(ss.getD j AG).t:=by
   have a1:=Int.mul_le_mul_of_nonneg_left h2.1 (show (0:Int)<=(t:Int) by lia);lia
  show ((ss.getD j AG).z+(t:Int)*(ss.getD j AG).t).natAbs<2^40;lia
def aLG(M:l6 own ss cs ts):bP 450 'd'.1/\bP 450 'd'.2.1/\bP 450 'd'.2.2.1/\bP 450 'd'.2.2.2:=by
 have ls:=M.ls;have len:=EK M ss.length (Ç _);have al:=KP M;rw[EJ];have l1:(own::jF ss cs ss.length).length<=301:=by rw[Ó];lia
 generalize own::jF ss cs ss.length=L at *;have w:∀p∈L,bP 30 p.1:=λp hp=>NH (by have:=(al p hp).w;lia) (al p hp).w.2;refine⟨?_,?_,?_,?_⟩
 .refine(zG (m:=70) ⋯ _ λx hx=>?_).mono (by rw[Ä];lia)
  let⟨p,hp,rfl⟩:=Ô.mp hx;exact(w p hp).mono ⋯
 .refine(zG (m:=70) ⋯ _ λx hx=>?_).mono (by rw[Ä];lia)
  let⟨p,hp,rfl⟩:=Ô.mp hx;exact(w p hp).mul (al p hp).x ⋯
 .refine(zG (m:=70) ⋯ _ λx hx=>?_).mono (by rw[Ä];lia)
  let⟨p,hp,rfl⟩:=Ô.mp hx;exact(w p hp).mul (al p hp).y ⋯
 .refine(zG (m:=70) ⋯ _ λx hx=>?_).mono (by rw[Ä];lia)
  let⟨p,hp,rfl⟩:=Ô.mp hx;exact(w p hp).mul (al p hp).z ⋯
def WG:∀l:List Q4,(∀p∈l,1<=p.1)->(l.length:Int)<=(T4 l).1
 |[],_=>by simp[T4]
 |p::l,h=>by
  have h1:=h p Õ;have h2:=WG l λq hq=>h q (Ò _ hq);rw[T4,Ó]
  push_cast
  lia
def WH(M:l6 own ss cs ts):0<'d'.1:=by
 have:=WG (own::jF ss cs ss.length) λp hp=>(KP M p hp).w.1;rw[Ó]at this
 push_cast at this
 lia
def P7(M:l6 own ss cs ts)(g:jQ b)(f:bP 450 q.1/\bP 450 q.2.1/\bP 450 q.2.2.1/\bP 450 q.2.2.2):Ϻ ts.length (bY ts b q):=by
 have mp:∀(h:Tk->Int),(∀t∈ts,bP 40 (h t))->nU 70 (ts.map h):=λh hh x hx=>by
  let⟨t,ht,rfl⟩:=Ô.mp hx;exact(hh t ht).mono ⋯
 let⟨f0,f1,f2,f3⟩:=f;have main:∀r∈bY ts b q,r.1.length=ts.length/\nU 70 r.1/\bP 900 r.2:=λr hr=>by
  unfold bY at hr;simp![Ë,Û,or_false]at hr;rcases hr with rfl|rfl|rfl|rfl|rfl|rfl
  .exact⟨by simp,mp _ λt ht=>(M.gt t ht).x.fit.sub g.b1.fit ⋯,(g.b1.fit.mul f0 (k:=480) ⋯).sub f1 ⋯⟩
  .exact⟨by simp,mp _ λt ht=>g.b0.fit.sub (M.gt t ht).x.fit ⋯,f1.sub (g.b0.fit.mul f0 (k:=480) ⋯) ⋯⟩
  .exact⟨by simp,mp _ λt ht=>(M.gt t ht).y.fit.sub g.b3.fit ⋯,(g.b3.fit.mul f0 (k:=480) ⋯).sub f2 ⋯⟩
  .exact⟨by simp,mp _ λt ht=>g.b2.fit.sub (M.gt t ht).y.fit ⋯,f2.sub (g.b2.fit.mul f0 (k:=480) ⋯) ⋯⟩
  .exact⟨by simp,mp _ λt ht=>(M.gt t ht).z.fit.sub g.b4.fit ⋯,(g.b4.fit.mul f0 (k:=480) ⋯).sub f3 ⋯⟩
  .exact⟨by simp,mp _ λt ht=>zD ⋯,g.b5.fit.sub f0 ⋯⟩
 exact⟨λr hr=>(main r hr).1,λr hr=>(main r hr).2.1,λr hr=>(main r hr).2.2⟩
open Classical in
end
def WI :∀xs:ZK,(∀x∈xs,bP m x)->xs.sum.natAbs<=xs.length*2^m
 |[],_=>ó _
 |x::xs,h=>by
  have h1:x.natAbs<2^m:=h x Õ;have h2:=WI xs λq hq=>h q (Ò _ hq);rw[List.sum_cons,Ó,Nat.succ_mul];have:=Int.natAbs_add_le x xs.sum;lia
def aB4{xs:ZK}(hl:xs.length<512)(hn:m+9=n)(h:∀x∈xs,bP m x):bP n xs.sum:=by
 subst hn;have:=WI xs h;have h2:=Nat.two_pow_pos m;show _<2^(m+9);rw[Nat.pow_add,Nat.mul_comm];exact Ā this ((Nat.mul_lt_mul_right h2).mpr hl)
section
variable {own:Q4}{ss:List St}{cs:List 'q'}{ts:List Tk}
def aHU(M:l6 own ss cs ts):bP 80 'd'.1/\bP 80 'd'.2.1/\bP 80 'd'.2.2.1/\bP 80 'd'.2.2.2:=by
 have ls:=M.ls;have len:=EK M ss.length (Ç _);have al:=KP M;rw[EJ];have l1:(own::jF ss cs ss.length).length<512:=by rw[Ó];lia
 generalize own::jF ss cs ss.length=L at *;have w:∀p∈L,bP 30 p.1:=λp hp=>NH (by have:=(al p hp).w;lia) (al p hp).w.2;have main:∀f:Q4->Int,(∀p∈L,bP 71 (f p))->bP 80 (L.map f).sum:=λf hf=>aB4 (m:=71) (by rw[Ä];exact l1) rfl λx hx=>by
  let⟨p,hp,rfl⟩:=Ô.mp hx;exact hf p hp
 exact⟨main _ λp hp=>(w p hp).mono ⋯,main _ λp hp=>(w p hp).mul (al p hp).x ⋯,main _ λp hp=>(w p hp).mul (al p hp).y ⋯,main _ λp hp=>(w p hp).mul (al p hp).z ⋯⟩
structure W9(Å:ZE)(Á:ZK):Prop where
 n:Á.length<=4
 m:Å.length<=8
 rw:∀r∈Å,r.1.length=Á.length/\nU 40 r.1/\bP 120 r.2
 ro:∀r∈Á,0<=r/\r<=1000000000
def NI(M:l6 own ss cs ts)(g:jQ b):W9 (bY ts b 'd') (ts.map λt=>t.r):=by
 let⟨f0,f1,f2,f3⟩:=aHU M;have mp:∀(h:Tk->Int),(∀t∈ts,bP 31 (h t))->nU 40 (ts.map h):=λh hh x hx=>by
  let⟨t,ht,rfl⟩:=Ô.mp hx;exact(hh t ht).mono ⋯
 generalize T4 (own::jF ss cs ss.length)=q at *;refine⟨by rw[Ä];exact M.lt,Nat.le_of_ble_eq_true rfl,λr hr=>?_,λr hr=>?_⟩
 .unfold bY at hr
  simp![Ë,Û,or_false]at hr;rcases hr with rfl|rfl|rfl|rfl|rfl|rfl
  .exact⟨by simp,mp _ λt ht=>(M.gt t ht).x.fit.sub g.b1.fit ⋯,(g.b1.fit.mul f0 (k:=110) ⋯).sub f1 ⋯⟩
  .exact⟨by simp,mp _ λt ht=>g.b0.fit.sub (M.gt t ht).x.fit ⋯,f1.sub (g.b0.fit.mul f0 (k:=110) ⋯) ⋯⟩
  .exact⟨by simp,mp _ λt ht=>(M.gt t ht).y.fit.sub g.b3.fit ⋯,(g.b3.fit.mul f0 (k:=110) ⋯).sub f2 ⋯⟩
  .exact⟨by simp,mp _ λt ht=>g.b2.fit.sub (M.gt t ht).y.fit ⋯,f2.sub (g.b2.fit.mul f0 (k:=110) ⋯) ⋯⟩
  .exact⟨by simp,mp _ λt ht=>(M.gt t ht).z.fit.sub g.b4.fit ⋯,(g.b4.fit.mul f0 (k:=110) ⋯).sub f3 ⋯⟩
  .exact⟨by simp,mp _ λt ht=>zD ⋯,g.b5.fit.sub f0 ⋯⟩
 .obtain⟨t,ht,rfl⟩:=Ô.mp hr
  exact(M.gt t ht).r
end
def aB5(inj:∀i j,i<n->j<n->f i=f j->i=j)(hw:∀j,j<n->bP b (w j))(u:Nat):bP b (Sx.shr n f w u):=by
 by_cases c:∃j,j<n/\f j=u
 .obtain⟨j,hj,rfl⟩:=c
  rw[Sx.shr_at inj hj];exact hw j hj
 .rw[Sx.shr_no λj hj e=>c ⟨j,hj,e⟩]
  exact HK
section
def W9.bnd(W:W9 Å Á):Ď Å Á (2^40) (2^120)/\Sx.fac Á.length*(2^40)^Á.length<2^300/\(Á.length+1)*(Sx.fac Á.length*(2^40)^Á.length*2^120)<2^300:=by
 have n4:=W.n;have r8:=W.m;have hh:Sx.fac Á.length*(2^40)^Á.length<2^300/\(Á.length+1)*(Sx.fac Á.length*(2^40)^Á.length*2^120)<2^300:=by
  have:Á.length=0\/Á.length=1\/Á.length=2\/Á.length=3\/Á.length=4:=by lia
  rcases this with h|h|h|h|h<;>rw[h]<;>decide
 have up:(2:Nat)^300<2^4000:=by decide
 refine⟨⟨λr hr=>(W.rw r hr).1,∅,∅,⋯,λr hr x hx=>È ((W.rw r hr).2.1 x hx),λr hr=>È (W.rw r hr).2.2,λx hx=>?_,Nat.lt_trans hh.1 up,Nat.lt_trans hh.2 up⟩,hh⟩;have:=W.ro x hx;have h70:(1000000000:Nat)<=2^120:=by decide
 lia
theorem W9.fit(W:W9 Å Á)(I:Sx.Inv (ď Å Á).pr σ T):bP 300 T.s/\∀r j,r<=(ď Å Á).pr.k->j<=Á.length->bP 300 (T.L r j):=by
 let⟨b,h1,h2⟩:=W.bnd;let⟨i1,i2,i3⟩:=I.small (A:=2^40) (C:=2^120) (λu x _ _=>b.pa u x) (λu _=>b.pc u);refine⟨Ā i1 h1,λr j hr hj=>?_⟩;by_cases e:j<Á.length
 .exact Ā (i2 r j hr e) h1
 .obtain rfl:j=Á.length:=by lia
  exact Ā (i3 r hr) h2
end
end Toy
namespace L2
open PySem PySem.Spec
end L2
namespace Toy
open PySem L2
structure pX(b:Bx):Prop where
 nm:bE b.nm
 p:bE b.p
 k:bE b.k
structure Ap where
 x:Str
 y:Str
 n:Int
def XY(a:Ap):D:=.tuple [.str a.x,.str a.y,.int a.n]
abbrev lC(own:Q4)(b:vE)(ss:List St)(ts:List Tk)(as:List Ap):D:=.tuple [nV own,zN b,.list (ss.map mL),.list (ts.map s8),.list (as.map XY)]
structure P8(own:Q4)(b:vE)(ss:List St)(ts:List Tk)(as:List Ap):Prop where
 o0:1<=own.1/\own.1<=1000000000
 o1:tG own.2.1/\tG own.2.2.1/\tG own.2.2.2
 b:jQ b
 ls:1<=ss.length/\ss.length<=4
 lt:ts.length<=4
 la:as.length<=3
 gs:∀s∈ss,zE s
 gt:∀t∈ts,zF t
 ga:∀a∈as,bE a.x/\bE a.y
def cY{α:Type}{P:α->Prop}{l:List α}{x:α}(h:∀y∈l,P y)(hx:P x):∀y∈l++[x],P y:=λy hy=>by
 rcases ü.mp hy with z|z
 .exact h y z
 .rw[í.mp z]
  exact hx
def lD(h0:-1000<=x)(h1:x<=1000):tG x:=⟨∅,∅⟩
end Toy
namespace L2
open PySem PySem.Spec
def aHV{i:Nat}{δ:DS}(h:δ[i]?=some (some (.list as))):ņ (bQ i) δ=.ok as.reverse δ:=by
 simp![ņ,aZ,cE h,aU]
end L2
namespace Toy
open PySem L2
def HQ(cs:List 'q')(m:Nat):Prop:=∀c∈cs,c.length<=m/\∀b∈c,pX b
section
variable {p:Str}{cs:List 'q'}
def vO(bs:List Bx)(p:Str):(List Bx):=bs.drop (bs.findIdx λb=>b.p == p)
def NJ:(vO bs p).length<=bs.length:=by unfold vO;rw[Ĕ];lia
def wB(h:b∈vO bs p):b∈bs:=List.mem_of_mem_drop h
def P9(gb:∀b∈bs,pX b)(gp:bE p):nQ [aP bs,.str p]=.ok (aP (vO bs p)) []:=by
 sleep 3;show bO jC [some (aP bs),some (.str p),none,none] _ _ _ _;unfold jC;dsimp? [];refine cS (ds:=eV (bs.map gE)) (δ1:=_) (λk δ=>∃o2 o3,δ=[some (aP bs),some (.str p),o2,o3]/\∀i(hi:i<bs.length),i<k->(bs[i].p == p)=false) (jP rfl) ⟨none,none,rfl,λi hi h=>by lia⟩ ?_ ?_
 .rintro k d δ hk ⟨o2,o3,rfl,ih⟩
  let⟨k1,rfl⟩:=fP (a0:=zM) hk;have eg:bs.getD k zM=bs[k]:=by rw[Ê,É k1];rfl
  rw[eg];have gk:=gb _ (Č k1);sleep 7;cases c:(bs[k].p == p)with
  |true=>
   have e1:bs.findIdx (λb=>b.p == p)=k:=by
    rw[List.findIdx_eq k1];exact⟨c,λj hj=>ih j ∅ hj⟩
   have e2:wX (.list (bs.map gE)) (some (k:Int)) none=some (.list ((bs.map gE).drop k)):=rY (by rw[Ä];lia);dsimp? [gE,HL gk.p gp,c];have e3:vO bs p=bs.drop k:=by unfold vO;rw[e1]
   dsimp? [JR,nA,nB,u5,aP,e2,e3,List.map_drop]
  |false=>
   dsimp? [gE,HL gk.p gp,c];refine⟨_,_,rfl,λi hi h=>?_⟩;by_cases z:i=k
   .subst z;exact c
   .exact ih i hi ∅
 .rintro δ ⟨o2,o3,rfl,ih⟩
  rw[g9,Ä]at ih;have e1:vO bs p=[]:=by
   unfold vO;have:bs.findIdx (λb=>b.p == p)=bs.length:=by
    rw[List.findIdx_eq_length];intro x hx;let⟨i,hi,rfl⟩:=List.mem_iff_getElem.mp hx;exact ih i hi hi
   rw[this,List.drop_length]
  dsimp? [e1,aP,List.map_nil]
structure Ķ where
 w:Str
 s:Int
 z:Str
def lE(t:Ķ):D:=.tuple [.str t.w,.int t.s,.str t.z]
abbrev Mv:=Ķ×D
def HR(m:Mv):D:=.tuple [lE m.1,m.2]
def WJ(s:Int)(b:Bx):Mv:=(⟨"off",s,b.nm⟩,.none)
def ķ(s:Int)(b:Bx):Mv:=(⟨"back",s,b.nm⟩,gE b)
abbrev Ld:=Bx×Int
def IK(x:Ld):D:=.tuple [gE x.1,.int x.2]
def ĸ(x:Ld):Mv:=(⟨"on",x.2,x.1.nm⟩,gE x.1)
def nP(p:Str)(b:Bx):Bool:=!(b.p == p)
def XZ(bs:List Bx)(s:Int)(p:Str):(List Mv):=(vO bs p).reverse.map (WJ s)++((vO bs p).filter (nP p)).map (ķ s)
def NK:(XZ bs s p).length<=2*bs.length:=by
 have h1:=NJ (bs:=bs) (p:=p);have h2:=List.length_filter_le (nP p) (vO bs p);unfold XZ;rw[Ì,Ä,Ä,List.length_reverse];lia
def WK(gb:∀b∈bs,pX b)(gp:bE p)(l:bs.length<=100):k7 [aP bs,.int s,.str p]=.ok (.list ((XZ bs s p).map HR)) []:=by
 have hz:sizeLine=2^24:=rfl;have h1:=NJ (bs:=bs) (p:=p);have h2:=List.length_filter_le (nP p) (vO bs p);sleep 3;show bO gO [some (aP bs),some (.int s),some (.str p),none,none] _ _ _ _;unfold gO;dsimp? [P9 gb gp];have er:((vO bs p).map gE).reverse=(vO bs p).reverse.map gE:=by rw[List.map_reverse]
 refine aY.of (dM (enc:=gE) (xs:=(vO bs p).reverse) (g:=λb=>HR (WJ s b)) (by rw[<- er];exact aHV rfl) (by rw[List.length_reverse];lia) λx _=>by dsimp? [gE,HR,WJ,lE]) ?_;dsimp? [];refine aY.of (EF (enc:=gE) (xs:=vO bs p) (h:=nP p) (g:=λb=>HR (ķ s b)) (cJ (by dsimp? [aP])) ∅ (λx hx=>by
  have gx:=gb x (wB hx);dsimp? [gE,aLE gx.p gp,nP]) λx _=>by dsimp? [gE,HR,ķ,lE]) ?_
 have em:(XZ bs s p).map HR=((vO bs p).reverse.map λb=>HR (WJ s b))++(((vO bs p).filter (nP p)).map λb=>HR (ķ s b)):=by
  unfold XZ;rw[Ù,è,è];rfl
 dsimp? [xF,em];rw[Ä,Ä,List.length_reverse];lia
def QP(cs:List 'q')(p:Str)(k:Nat):(List Mv):=((List.range k).map λ(j:Nat)=>XZ (cs.getD j []) (j:Int) p).flatten
def zH:QP cs p (k+1)=QP cs p k++XZ 'A' (k:Int) p:=by
 unfold QP;rw[List.range_succ,Ù,List.flatten_append];simp
def wC(h:∀c∈cs,c.length<=50):∀k,k<=cs.length->(QP cs p k).length<=100*k
 |0,_=>by simp[QP]
 |k+1,hk=>by
  rw[zH,Ì];have h1:=wC h k ∅;have h2:=NK (bs:=cs.getD k []) (s:=(k:Int)) (p:=p);have h3:=h _ (cC (d:=[]) (show k<cs.length by lia));lia
def iB(p:Str)(ld:List Ld):D:=.tuple [.str p,.list (ld.map IK)]
def oZ(cs:List 'q')(p:Str)(ld:List Ld):(List Mv):=QP cs p cs.length++ld.map ĸ
def HS(gc:HQ cs 50)(gp:bE p)(lc:cs.length<=8)(ll:ld.length<=50):qQ [.list 'm',iB p ld]=.ok (.list ((oZ cs p ld).map HR)) []:=by
 have hz:sizeLine=2^24:=rfl;have hl:∀c∈cs,c.length<=50:=λc hc=>(gc c hc).1;sleep 3;show bO qP [some 'c',some (iB p ld),none,none,none] _ _ _ _;unfold qP;dsimp? [];refine cS (ds:=eV 'm') (δ1:=_) (λk δ=>∃o3 o4,δ=[some 'c',some (iB p ld),some (.list ((QP cs p k).map HR)),o3,o4]) (jP rfl) ⟨none,none,rfl⟩ ?_ ?_
 .rintro k d δ hk ⟨o3,o4,rfl⟩
  let⟨k1,rfl⟩:=fP (a0:=[]) hk;sleep 7;have g1:=gc _ (cC (d:=[]) k1);have l1:=wC (p:=p) hl k ∅;have l2:=NK (bs:=cs.getD k []) (s:=(k:Int)) (p:=p);have e1:=WK (bs:=cs.getD k []) (s:=(k:Int)) (p:=p) g1.2 gp ∅;rw[zH,Ù];dsimp? [iB,e1,xF];refine⟨by rw[Ä,Ä];lia,_,_,rfl⟩
 .rintro δ ⟨o3,o4,rfl⟩
  rw[g9,Ä];have l1:=wC (p:=p) hl cs.length (Ç _);dsimp? [];refine aY.of (oQ (enc:=IK) (A:=λx=>gE x.1) (B:=λx=>.int x.2) (xs:=ld) (g:=λx=>HR (ĸ x)) (λx=>rfl) (cJ (by dsimp? [iB])) ∅ λx _=>by dsimp? [gE,HR,ĸ,lE]) ?_;have em:(oZ cs p ld).map HR=(QP cs p cs.length).map HR++ld.map λx=>HR (ĸ x):=by
   unfold oZ;rw[Ù,è];rfl
  dsimp? [xF,em];rw[Ä,Ä];lia
def s9(gc:HQ cs 50)(lc:cs.length<=8)(ll:ld.length<=50):(oZ cs p ld).length<=1000:=by
 have l1:=wC (p:=p) (λc hc=>(gc c hc).1) cs.length (Ç _);unfold oZ;rw[Ì,Ä];lia
def HU(cs:List 'q')(p:Str)(ld:List Ld):(List Ķ):=(oZ cs p ld).map Prod.fst
def WL(gc:HQ cs 50)(gp:bE p)(lc:cs.length<=8)(ll:ld.length<=50):yH [.list 'm',iB p ld]=.ok (.list ((HU cs p ld).map lE)) []:=by
 have l1:=s9 (p:=p) gc lc ll;sleep 3;show bO qR [some 'c',some (iB p ld)] _ _ _ _;unfold qR;dsimp? [];refine aY.of (oQ (enc:=HR) (A:=λm=>lE m.1) (B:=λm=>m.2) (xs:=oZ cs p ld) (g:=λm=>lE m.1) (λx=>rfl) (cJ (by dsimp? [HS gc gp lc ll])) ∅ λx _=>by dsimp? []) ?_;have e:(HU cs p ld).map lE=(oZ cs p ld).map λm=>lE m.1:=by
  unfold HU;rw[è];rfl
 rw[e];exact⟨rfl,rfl⟩
def ŋ(t:Ķ):Bool:=t.w == "back"
def aPX:bE "off":=⟨⋯,cB _⟩
def ż:bE "back":=⟨⋯,cB _⟩
def aO1:bE "on":=⟨⋯,cB _⟩
def aLJ(h:m∈oZ cs p ld):bE m.1.w:=by
 unfold oZ at h;rcases ü.mp h with h|h
 .unfold QP at h
  let⟨l,hl,h⟩:=List.mem_flatten.mp h;let⟨j,_,rfl⟩:=Ô.mp hl;unfold XZ at h;rcases ü.mp h with h|h
  .obtain⟨b,_,rfl⟩:=Ô.mp h
   exact aPX
  .obtain⟨b,_,rfl⟩:=Ô.mp h
   exact ż
 .obtain⟨b,_,rfl⟩:=Ô.mp h
  exact aO1
def aLK(h:t∈HU cs p ld):bE t.w:=by
 let⟨m,hm,rfl⟩:=Ô.mp h;exact aLJ hm
def WM(gc:HQ cs 50)(gp:bE p)(lc:cs.length<=8)(ll:ld.length<=50):qT [.list 'm',iB p ld]=.ok (.list (((HU cs p ld).filter ŋ).map λt=>.str t.z)) []:=by
 have l1:=s9 (p:=p) gc lc ll;sleep 3;show bO qS [some 'c',some (iB p ld)] _ _ _ _;unfold qS;dsimp? [];refine aY.of (EF (enc:=lE) (xs:=HU cs p ld) (h:=ŋ) (g:=λt=>.str t.z) (cJ (by dsimp? [WL gc gp lc ll])) (by unfold HU;rw[Ä];lia) (λt ht=>by dsimp? [lE,HL (aLK ht) ż,ŋ]) λt _=>by dsimp? [lE]) ?_
 exact⟨rfl,rfl⟩
end
section
variable {cs:List 'q'}
def uL(lc:cs.length<=100):yL [.list 'm']=.ok 'c' []:=by
 sleep 3;show bO yK [some 'c'] _ _ _ _;unfold yK;dsimp? [];refine aY.of (dM (enc:=aP) (xs:=cs) (g:=aP) (cJ (by dsimp? [])) ∅ λx _=>by dsimp? [aP,C0]) ?_;dsimp? []
def WN(s0:0<=s)(s1:s.toNat<cs.length):lK 'm'.length s=some s.toNat/\'m'[s.toNat]?=some (.list ((cs[s.toNat]).map gE)):=by
 refine⟨WB s0 (by rw[Ä];lia),?_⟩;rw[Î,É s1];rfl
def QA(gw:bE w)(hw:(w == "off")=false)(lc:cs.length<=100)(s0:0<=s)(s1:s.toNat<cs.length)(l1:(cs[s.toNat]).length<=100):oN [.list 'm',.tuple [.str w,.int s,x],gE b]=.ok (.list ((cs.set s.toNat (cs[s.toNat]++[b])).map aP)) []:=by
 have hz:sizeLine=2^24:=rfl;sleep 3;show bO k8 [some 'c',some (.tuple [.str w,.int s,x]),some (gE b),none] _ _ _ _;unfold k8;let⟨e1,e2⟩:=WN s0 s1;have eh:BB [0,0,0,2] [some 'c',some (.tuple [.str w,.int s,x]),some (gE b),some 'c']=[some 'c',some (.tuple [.str w,.int s,x]),some (gE b),none]:=rfl;have go:bE "off":=⟨⋯,cB _⟩;dsimp? [uL lc,HL gw go,hw,JT,JU e1 e2,eh,TN,C2];refine⟨by rw[Ä];lia,?_⟩;simp[List.map_set,aP]
def KQ(lc:cs.length<=100)(s0:0<=s)(s1:s.toNat<cs.length)(l1:cs[s.toNat]=c++[b]):oN [.list 'm',.tuple [.str "off",.int s,x],y]=.ok (.list ((cs.set s.toNat c).map aP)) []:=by
 sleep 3;show bO k8 [some 'c',some (.tuple [.str "off",.int s,x]),some y,none] _ _ _ _;unfold k8;let⟨e1,e2⟩:=WN s0 s1;have eh:BB [0,0,0,2] [some 'c',some (.tuple [.str "off",.int s,x]),some y,some 'c']=[some 'c',some (.tuple [.str "off",.int s,x]),some y,none]:=rfl;have go:bE "off":=⟨⋯,cB _⟩;have ep:Ņ ((cs[s.toNat]).map gE) []=some (gE b,c.map gE):=by
  rw[l1];unfold Ņ;simp
 have et:("off" == ("off":Str))=true:=by decide
 dsimp? [uL lc,HL go go,et,JT,JU e1 e2,eh,C2,ep,aGV];simp[List.map_set,aP]
end
def wD(m:M Fl)(δ:DS)(N:ZO)(E:D->Prop):Prop:=match m δ with
 |.ok .next δ1=>N δ1
 |.err x _=>E x
 |_=>False
def aO2:Option Str->Res D
 |none=>.ok .none []
 |some x=>.err (.str x) []
section
variable {u:M Fl}{δ:DS}{N:ZO}{E:D->Prop}
def NL(h:wD u δ (λδ1=>wD v δ1 N E) E):wD (eK u v) δ N E:=by
 unfold wD eK at *;cases e:u δ with
 |stuck=>rw[e]at h;exact h
 |err x d=>rw[e]at h;exact h
 |ok fl δ1=>
  rw[e]at h;cases fl<;>first|exact h|exact h.elim
def aHX(h:N δ):wD AU δ N E:=h
def aO3(h:bO u δ N (λ_=>False) (λ_=>False) (λ_ _=>False)):wD u δ N E:=by
 unfold bO at h;unfold wD;cases e:u δ with
 |stuck=>sleep 1
 |err x d=>sleep 1
 |ok fl δ1=>
  rw[e]at h;cases fl<;>first|exact h|exact h.elim
def aLL(h:aY c δ λb δ1=>if b=true then wD u δ1 N E else wD v δ1 N E):wD (m5 c u v) δ N E:=by
 unfold aY at h;unfold wD m5;cases e:c δ with
 |stuck=>sleep 1
 |err x d=>sleep 1
 |ok b δ1=>
  rw[e]at h;simp![Res.bind];cases b<;>exact h
def aB7(h:aY (aZ fs) δ λds _=>ds.length<=1000/\E (.str x)):wD (jZ x fs) δ N E:=by
 unfold aY at h;unfold wD jZ;cases e:aZ fs δ with
 |stuck=>sleep 1
 |err x d=>sleep 1
 |ok ds δ1=>
  rw[e]at h;simp![Res.bind,Â h.1];exact h.2
def WO{set:D->DS->Option DS}(I:Nat->ZO){ds:ZI}(hs:∀(k:Nat)(d:D)(δ:DS),ds[k]?=some d->I k δ->∃δ1,set d δ=some δ1/\wD u δ1 (I (k+1)) E)(hN:∀δ,I ds.length δ->N δ):
  ∀(n k:Nat)(δ:DS),n+k=ds.length->I k δ->wD (fL set u (ds.drop k)) δ N E
 |0,k,δ,hk,h=>by
  have e:k=ds.length:=by lia
  subst e;rw[List.drop_length];exact hN δ h
 |n+1,k,δ,hk,h=>by
  have hlt:k<ds.length:=by lia
  rw[ö hlt];let⟨δ1,e1,h1⟩:=hs k ds[k] δ (É hlt) h;have ih:=WO I hs hN n (k+1);unfold wD at h1 ih⊢;unfold fL;simp![e1];cases e:u δ1 with
  |stuck=>rw[e]at h1;exact h1.elim
  |err x d=>rw[e]at h1;exact h1
  |ok fl δ2=>
   rw[e]at h1;cases fl<;>first|exact h1.elim|exact ih δ2 ∅ h1
def aLM{set:D->DS->Option DS}(I:Nat->ZO){ds:ZI}(hg:aY g δ λes δ1=>es=ds/\I 0 δ1)(hs:∀(k:Nat)(d:D)(δ:DS),ds[k]?=some d->I k δ->∃δ1,set d δ=some δ1/\wD u δ1 (I (k+1)) E)(hN:∀δ,I ds.length δ->N δ):wD (mR set g u) δ N E:=by
 unfold aY at hg;cases e:g δ with
 |stuck=>rw[e]at hg;exact hg.elim
 |err x d=>rw[e]at hg;exact hg.elim
 |ok es δ1=>
  rw[e]at hg;let⟨rfl,h0⟩:=hg;have:=WO I hs hN es.length 0 δ1 ∅ h0;rw[List.drop_zero]at this;unfold wD mR at *;rw[e];exact this
def aN9(o:Option Str)(h:wD u (ds.map some++List.replicate (m-ds.length) none) (λ_=>o=none) (λy=>o.map PyData.str=some y)):aR m [] 0 u ds=aO2 o:=by
 unfold wD at h;unfold aR;cases e:u (ds.map some++List.replicate (m-ds.length) none)with
 |stuck=>sleep 1
 |err y d=>
  rw[e]at h;cases o with
  |none=>cases h
  |some z=>cases h;rfl
 |ok fl d=>
  rw[e]at h;cases fl<;>first|exact h.elim|(cases h;rfl)
end
def vF(zs:ZG):D:=.dict (zs.map λz=>(.str z,.bool true))
def aHY(zs:ZG):((zs.map λz=>((.str z,.bool true):D×D)).all λkv=>(c7 kv.1).isSome)=true:=by
 rw[ç];intro kv h;let⟨z,_,rfl⟩:=Ô.mp h;rfl
def WP(z:Str):∀zs:ZG,jK (.inr z) (zs.map λz=>((.str z,.bool true):D×D))=if z∈zs then some 'i'else none
 |[]=>rfl
 |y::zs=>by
  have ih:=WP z zs;unfold jK at ih⊢;rw[Ï,ĉ];by_cases e:y=z
  .subst e
   rw[Â Õ];simp[c7]
  .have:decide (c7 (PyData.str y)=some (Sum.inr z))=false:=decide_eq_false λh=>e (by cases h;rfl)
   rw[this];rw[ih];by_cases h:z∈zs
   .rw[Â h,Â (Ò _ h)]
   .rw[Ã h,Ã λq=>(Ë.mp q).elim (λq=>e q.symm) h]
def aLN:u8 false (.str z) (vF zs)=some (.bool (decide (z∈zs))):=by
 unfold u8 US vF;dsimp only;rw[Â (aHY zs)];show (some (jK (.inr z) _)).map _=_;rw[WP];by_cases h:z∈zs
 .rw[Â h,decide_eq_true h];rfl
 .rw[Ã h,decide_eq_false h];rfl
def WQ(hz:z∉zs)(hl:zs.length<=1000):xR (.str z) 'i' (vF zs)=some (vF (zs++[z])):=by
 have hs:sizeLine=16777216:=by decide
 unfold xR vF;dsimp only;show (if _ then _ else _)=_;rw[Â (by rw[Ä];omega)];unfold JW;have:((zs.map λz=>((.str z,.bool true):D×D)).any λkv=>decide (c7 kv.1=some (Sum.inr z)))=false:=by
  rw[List.any_eq_false];intro kv h;let⟨y,hy,rfl⟩:=Ô.mp h;intro q;have q:=of_decide_eq_true q;cases q;exact hz hy
 rw[this,Ù];rfl
def zI(h:PyData.strOk z=true):Sh 1 (.str z):=⟨by simp[PyData.canLay0,h],by simp[PyData.depth]⟩
def Ġ(c:Nat):Bool:=decide (97<=c/\c<=122)
def aLO:∀c<128,((!decide ((⟨#[c]⟩:Str).cps.toList<(Str.ofString "a").cps.toList)) && (!decide ((Str.ofString "z").cps.toList<(⟨#[c]⟩:Str).cps.toList)))=Ġ c:=by decide +kernel
def uM(z:Str):Bool:=decide (1<=z.length/\z.length<=8) && z.cps.toList.all Ġ
def Ž:D->D
 |.str z=>.bool (z.cps.toList.all Ġ)
 |_=>.none
def name_ev'(hz:z.length<=100)(hs:∀c∈z.cps.toList,c<128):fO [.str z]=.ok (.bool (uM z)) []:=by
 have hl:qA [.str z]=some (.int z.length):=SI rfl (Ø hz ⋯);have hc:∀δ:DS,dP 1 (dY 0) (wY (bQ 0)) dH (hJ Ğ Ğ (dC (.str "a")) (bQ 0) (dC (.str "z"))) (some (.str z)::δ)=.ok (.list (z.cps.toList.map λc=>.bool (Ġ c))) (some (.str z)::δ):=λδ=>by
  have hg:∀d∈mT z,(hJ Ğ Ğ (dC (.str "a")) (bQ 0) (dC (.str "z"))) (some d::some (.str z)::δ)=.ok (Ž d) (some d::some (.str z)::δ):=λd hd=>by
   unfold mT at hd;let⟨c,hc,rfl⟩:=Ô.mp hd;have:=aLO c (hs c hc);simp![hJ,dC,aU,bQ,List.getElem?_cons_zero,Ğ,Ž,List.all_cons,List.all_nil,Bool.and_true];cases h1:(!decide ((⟨#[c]⟩:Str).cps.toList<(Str.ofString "a").cps.toList))with
   |true=>rw[h1,Bool.true_and]at this;rw[this]
   |false=>rw[h1,Bool.false_and]at this;rw[<- this]
  have:=A5 (f:=wY (bQ 0)) (δ:=some (.str z)::δ) (δ1:=some (.str z)::δ) (ds:=mT z) (by simp[wY,bQ,Res.bind]) hg (by unfold mT;rw[Ä];exact Ø hz ⋯)
  rw[this];unfold mT;rw[è];congr 2;apply List.map_congr_left;intro c _;simp[Ž]
 have ha:Ŭ [.list (z.cps.toList.map λc=>.bool (Ġ c))]=some (.bool (z.cps.toList.all Ġ)):=by
  show (rT _).map _=_;rw[M8];simp
 have hsi:vL .str (.str z)=some 'i':=rfl;have hni:pH (dB (CN (vL .str) (bQ 0))) [some (.str z)]=.ok false [some (.str z)]:=w9 (b:=true) (u1 (aFX (cE rfl) hsi));have e0:oM [some (.str z)]=.ok (.ret (.bool (uM z))) [some (.str z)]:=by
  unfold oM;rw[LP (δ1:=[some (.str z)]) (by rw[SJ (δ1:=[some (.str z)]) hni];rfl)];refine LQ ?_;have hlen:OF qA [bQ 0] [some (.str z)]=.ok (.int z.length) [some (.str z)]:=CQ (cE rfl) hl;unfold uM;by_cases h:1<=z.length/\z.length<=8
  .rw[ZU (δ1:=[some (.str z)]),decide_eq_true h,Bool.true_and]
   .exact CQ (hc []) ha
   .simp![hJ,iS,aU,hlen,Ĳ,XX]
    rw[decide_eq_true (show (1:Int)<=z.length by lia),decide_eq_true (show (z.length:Int)<=8 by lia)]
  .rw[ZV (δ1:=[some (.str z)]),decide_eq_false h,Bool.false_and]
   simp![hJ,iS,aU,hlen,Ĳ,XX];by_cases h1:(1:Int)<=z.length
   .rw[decide_eq_true h1,decide_eq_false (show ¬(z.length:Int)<=8 by lia)]
   .rw[decide_eq_false h1]
 show (match oM [some (.str z)]with|_=>_)=_;unfold fO aR;simp[e0,fF]
def aB8(h:uM z=true):z.length<=100/\∀c∈z.cps.toList,c<128:=by
 unfold uM at h;rw[ã,decide_eq_true_eq,ç]at h;refine⟨∅,λc hc=>?_⟩;have:=of_decide_eq_true (h.2 c hc);lia
def aPY(ha:Sh 1 (.str a))(hb:Sh 1 (.str b))(hp:Sh 1 (.str p))(hq:Sh 1 (.str q)):∃r:Bool,ħ (.tuple [.str p,.str q]) (.tuple [.tuple [.str a,.str b],.tuple [.str b,.str a]])=some (.bool r):=by
 have s:∀{x y:Str},Sh 1 (.str x)->Sh 1 (.str y)->Sh 2 (.tuple [.str x,.str y]):=λhx hy=>l0 λd hd=>by
  simp![Ë,Û,or_false]at hd;rcases hd with rfl|rfl<;>assumption
 have h1:=(s hp hq).shaped ⋯;have h2:SeqAt.shaped (.tuple [.tuple [.str a,.str b],.tuple [.str b,.str a]])=true:=Sh.shaped (k:=3) (l0 λx hx=>by
  simp![Ë,Û,or_false]at hx;rcases hx with rfl|rfl
  .exact s ha hb
  .exact s hb ha) ⋯
 unfold ħ;simp![vX];rw[Â ⟨h1,h2⟩];exact⟨_,rfl⟩
def Ō(s:Int)(h:PyData.strOk w=true:=by exact cB _):Sh 2 (.tuple [.str w,.int s]):=l0 λd hd=>by
 simp![Ë,Û,or_false]at hd;rcases hd with rfl|rfl
 .exact zI h
 .exact m9
def aPZ(s:Int)(t:Nat):Sh 2 (.tuple [.str "bears",.int s,.int (t:Int)]):=l0 λd hd=>by
 simp![Ë,Û,or_false]at hd;rcases hd with rfl|rfl|rfl
 .exact zI (cB _)
 .exact m9
 .exact m9
def ŷ{α:Type}{P:α->Prop}{x:α}(h:P x):∀y∈[x],P y:=λy hy=>by rw[í.mp hy];exact h
def aOB{α:Type}{P:α->Prop}{x z:α}(h:P x)(g:P z):∀y∈[x,z],P y:=λy hy=>by
 rcases Ë.mp hy with rfl|hy
 .exact h
 .rw[í.mp hy];exact g
def KR(hl:bs.length<=100):∃r,f7 [mL st,.int s,aP bs]=.ok r []/\∃L,r=.list L/\L.length<=bs.length+2/\∀d∈L,Sh 2 d:=by
 have e24:sizeLine=2^24:=rfl;refine u4 ?_;show bO fZ [some (mL st),some (.int s),some (aP bs),none,none,none,none] _ _ _ _;unfold fZ;rw[L2.seq_assoc,L2.seq_assoc,L2.seq_assoc];refine j8 (λδ=>∃(L:ZI)(w:Int),(L.length<=2/\∀d∈L,Sh 2 d)/\δ=[some (mL st),some (.int s),some (aP bs),some (.list L),some (.int w),none,none]) ?_ ?_
 .dsimp? []
  refine aY.of (dM (enc:=gE) (xs:=bs) (g:=λb=>.int b.w) (eS rfl) ∅ λb _=>by dsimp? [gE]) ?_;have es:ZX [.list (bs.map λb=>PyData.int b.w)]=some (.int (bs.map λb=>b.w).sum):=by
   rw[show (bs.map λb=>PyData.int b.w)=(bs.map λb=>b.w).map PyData.int by simp,aKI]
  have eb:aP bs=.list (bs.map gE):=rfl;generalize (bs.map λb=>b.w).sum=W at *;by_cases c1:st.h<(bs.length:Int)<;>by_cases c2:st.m<W
  .dsimp? [es,mL,eb,Ä,c1,c2,decide_true,List.nil_append]
   exact⟨∅,∅,_,_,⟨by simp,aOB (Ō (w:="high") s) (Ō (w:="most") s)⟩,rfl⟩
  .dsimp? [es,mL,eb,Ä,c1,c2,decide_true,decide_false,Bool.false_eq_true,List.nil_append]
   exact⟨∅,_,_,⟨by simp,ŷ (Ō (w:="high") s)⟩,rfl⟩
  .dsimp? [es,mL,eb,Ä,c1,c2,decide_true,decide_false,Bool.false_eq_true,List.nil_append]
   exact⟨∅,_,_,⟨by simp,ŷ (Ō (w:="most") s)⟩,rfl⟩
  .dsimp? [es,mL,eb,Ä,c1,c2,decide_false,Bool.false_eq_true]
   exact⟨_,_,⟨by simp,by simp⟩,rfl⟩
 rintro _ ⟨L,w,lL,rfl⟩;refine j8 (λδ=>∃(L:ZI)(o4 o5 o6:ZL),(L.length<=bs.length+2/\∀d∈L,Sh 2 d)/\δ=[some (mL st),some (.int s),some (aP bs),some (.list L),o4,o5,o6]) ?_ ?_
 .refine cS (ds:=eV (bs.map gE)) (δ1:=_) (λt δ=>∃(L:ZI)(w:Int)(o5 o6:ZL),(L.length<=t+2/\∀d∈L,Sh 2 d)/\δ=[some (mL st),some (.int s),some (aP bs),some (.list L),some (.int w),o5,o6]) (jP rfl) ⟨L,w,none,none,⟨∅,lL.2⟩,rfl⟩ ?_ ?_
  .rintro t d δ ht ⟨L,w,o5,o6,lL,rfl⟩
   let⟨t1,rfl⟩:=fP (a0:=zM) ht;sleep 7;generalize bs.getD t zM=bt at *;by_cases c:bt.b<w-bt.w
   .dsimp? [gE,c,decide_true]
    exact⟨∅,_,_,_,_,⟨by rw[Ì,ì];lia,cY lL.2 (aPZ s t)⟩,rfl⟩
   .dsimp? [gE,c,decide_false,Bool.false_eq_true]
    exact⟨_,_,_,_,⟨∅,lL.2⟩,rfl⟩
  .rintro δ ⟨L,w,o5,o6,lL,rfl⟩
   rw[g9,Ä]at lL;exact⟨L,_,_,_,lL,rfl⟩
 rintro _ ⟨L,o4,o5,o6,lL,rfl⟩;dsimp? [];exact lL
section
variable {cs:List 'q'}
def ō(n:Nat)(d:D):Prop:=∃(i j:Nat)(z:Str),i<n/\bE z/\d=.tuple [.int i,.int j,.str z]
def QB(lc:cs.length<=10)(gc:∀c∈cs,c.length<=30/\∀b∈c,pX b):∃r,i9 [.list 'm']=.ok r []/\∃P,r=.list P/\P.length<=300/\∀d∈P,ō cs.length d:=by
 have e24:sizeLine=2^24:=rfl;refine u4 ?_;show bO i8 [some 'c',none,none,none,none,none] _ _ _ _;unfold i8;dsimp? [];refine cS (ds:=eV 'm') (δ1:=_) (λk δ=>∃P o2 o3 o4 o5,δ=[some 'c',some (.list P),o2,o3,o4,o5]/\P.length<=30*k/\∀d∈P,ō cs.length d) (jP rfl) ⟨[],_,_,_,_,rfl,by simp,by simp⟩ ?_ ?_
 .rintro k d δ hk ⟨P,o2,o3,o4,o5,rfl,lP,gP⟩
  let⟨k1,rfl⟩:=fP (a0:=[]) hk;let⟨lb1,gb1⟩:=gc _ (cC (d:=[]) k1);sleep 7;generalize cs.getD k []=bs at *;refine cS (ds:=eV (bs.map gE)) (δ1:=_) (λt δ=>∃P o4 o5,δ=[some 'c',some (.list P),some (.int k),some (aP bs),o4,o5]/\P.length<=30*k+t/\∀d∈P,ō cs.length d) (jP rfl) ⟨P,_,_,rfl,∅,gP⟩ ?_ ?_
  .rintro t d δ ht ⟨P,o4,o5,rfl,lP,gP⟩
   let⟨t1,rfl⟩:=fP (a0:=zM) ht;have gk:=(gb1 _ (cC (d:=zM) t1)).k;sleep 7;generalize bs.getD t zM=bt at *;dsimp? [gE];refine⟨∅,_,_,_,rfl,by rw[Ì,ì];lia,cY gP ⟨k,t,_,k1,gk,rfl⟩⟩
  .rintro δ ⟨P,o4,o5,rfl,lP,gP⟩
   rw[g9,Ä]at lP;exact⟨P,_,_,_,_,rfl,∅,gP⟩
 .rintro δ ⟨P,o2,o3,o4,o5,rfl,lP,gP⟩
  rw[g9,Ä]at lP;dsimp? [];exact⟨∅,gP⟩
end
structure Pl where
 i:Nat
 j:Nat
 z:Str
def WR(p:Pl):D:=.tuple [.int p.i,.int p.j,.str p.z]
def WS :∀{P:ZI},(∀d∈P,ō n d)->∃ps:List Pl,P=ps.map WR/\∀p∈ps,p.i<n/\bE p.z
 |[],_=>⟨[],rfl,by simp⟩
 |d::P,h=>by
  let⟨ps,rfl,g⟩:=WS λd hd=>h d (Ò _ hd);let⟨i,j,z,h1,h2,rfl⟩:=h d Õ;refine⟨⟨i,j,z⟩::ps,rfl,λp hp=>?_⟩;rcases Ë.mp hp with rfl|hp
  .exact⟨h1,h2⟩
  .exact g p hp
def hB(x y:Str)(a:Ap):Bool:=match ħ (.tuple [.str a.x,.str a.y]) (.tuple [.tuple [.str x,.str y],.tuple [.str y,.str x]])with
 |some (.bool b)=>b
 |_=>false
def Ŏ(as:List Ap)(x y:Str):Int:=(fY none ((as.filter (hB x y)).map λr=>r.n)).getD 0
def ž(ss:List St)(i j:Nat):Int:=(((ss.getD i AG).x-(ss.getD j AG).x).natAbs:Int)+(((ss.getD i AG).y-(ss.getD j AG).y).natAbs:Int)
def ġ(ss:List St)(as:List Ap)(p q:Pl):ZI:=if ž ss p.i q.i<Ŏ as p.z q.z then [.tuple [.str "apart",.int p.i,.int p.j,.int q.i,.int q.j]]else []
def QQ(ss:List St)(as:List Ap):List Pl->ZI
 |[]=>[]
 |p::ps=>ps.flatMap (ġ ss as p)++QQ ss as ps
section
variable {ss:List St}{cs:List 'q'}{as:List Ap}{sh:D}
def aCB(i4:fC sh (.int 4)=some (.list (as.map XY)))(la:as.length<=10)(ga:∀a∈as,bE a.x/\bE a.y)(hx:bE x)(hy:bE y):G1 [sh,.str x,.str y]=.ok (.int (Ŏ as x y)) []:=by
 sleep 3;show bO yE [some sh,some (.str x),some (.str y)] _ _ _ _;unfold yE;have ct:∀x y z:D,SD (.tuple [x,y,z]) none (some 2)=some (.tuple [x,y]):=λ_ _ _=>rfl;have hh:∀a∈as,ħ (.tuple [.str a.x,.str a.y]) (.tuple [.tuple [.str x,.str y],.tuple [.str y,.str x]])=some (.bool (hB x y a)):=λa q=>by
  let⟨r,e⟩:=aPY hx.sh hy.sh (ga a q).1.sh (ga a q).2.sh;unfold hB;rw[e]
 have em:L9 (.list ((as.filter (hB x y)).map λr=>PyData.int r.n)) (.int 0)=some (.int (Ŏ as x y)):=by
  rw[show ((as.filter (hB x y)).map λr=>PyData.int r.n)=((as.filter (hB x y)).map λr=>r.n).map PyData.int by simp];show (cO _).map _=_;rw[iT];rfl
 dsimp? [aGR];refine aY.of (EF (enc:=XY) (xs:=as) (h:=hB x y) (g:=λr=>.int r.n) (cJ (by dsimp? [i4])) ∅ (λr hr=>?_) λr hr=>by dsimp? [XY]) ?_
 .dsimp? [XY,JR,nA,nB,u5,ct,hh r hr]
 .dsimp? [em]
def QC(i2:fC sh (.int 2)=some (.list (ss.map mL)))(hi:i<ss.length)(hj:j<ss.length):yD [sh,.int i,.int j]=.ok (.int (ž ss i j)) []:=by
 sleep 3;show bO qN [some sh,some (.int i),some (.int j),none,none] _ _ _ _;unfold qN;dsimp? [i2,EG (enc:=mL) (l:=ss) (d:=AG) hi,EG (enc:=mL) (l:=ss) (d:=AG) hj,mL];rfl
def aH1 :∀d∈ġ ss as p q,Sh 2 d:=λd hd=>by
 unfold ġ at hd;split at hd
 .rw[í.mp hd]
  refine l0 λx hx=>?_;simp![Ë,Û,or_false]at hx;rcases hx with rfl|rfl|rfl|rfl|rfl
  .exact zI (cB _)
  all_goals exact m9
 .cases hd
def WT:∀{ps:List Pl},∀d∈QQ ss as ps,Sh 2 d
 |p::ps,d,hd=>by
  unfold QQ at hd;rcases ü.mp hd with h|h
  .obtain⟨q,_,h⟩:=List.mem_flatMap.mp h
   exact aH1 d h
  .exact WT d h
def aH2(i2:fC sh (.int 2)=some (.list (ss.map mL)))(i4:fC sh (.int 4)=some (.list (as.map XY)))(la:as.length<=10)(ga:∀a∈as,bE a.x/\bE a.y)(ls:cs.length=ss.length)(eP:i9 [.list 'm']=.ok (.list (ps.map WR)) [])(lP:ps.length<=300)(gP:∀p∈ps,p.i<cs.length/\bE p.z):jB [sh,.list 'm']=.ok (.list (QQ ss as ps)) []/\(QQ ss as ps).length<=90000:=by
 have e24:sizeLine=2^24:=rfl;have fs:=λ(x y:Str)hx hy=>aCB (as:=as) (x:=x) (y:=y) i4 la ga hx hy;have ap:=λ(i j:Nat)hi hj=>QC (ss:=ss) (i:=i) (j:=j) i2 hi hj
 suffices h:∃r,jB [sh,.list 'm']=.ok r []/\∃L,r=.list L/\L=QQ ss as ps/\L.length<=90000 by
  let⟨_,e,L,rfl,rfl,l⟩:=h;exact⟨e,l⟩
 refine u4 ?_;show bO jA [some sh,some 'c',none,none,none,none,none] _ _ _ _;unfold jA;dsimp? [eP];refine cS (ds:=eV (ps.map WR)) (δ1:=_) (λk δ=>∃L o4 o5 o6,L.length<=300*k/\L++QQ ss as (ps.drop k)=QQ ss as ps/\δ=[some sh,some 'c',some (.list L),some (.list (ps.map WR)),o4,o5,o6]) (jP rfl) ⟨[],_,_,_,by simp,rfl,rfl⟩ ?_ ?_
 .rintro k d δ hk ⟨L,o4,o5,o6,lL,eL,rfl⟩
  let⟨k1,rfl⟩:=fP (a0:=⟨0,0,""⟩) hk;sleep 7;have gp:=gP _ (cC (d:=⟨0,0,""⟩) k1);have dr:ps.drop k=ps.getD k ⟨0,0,""⟩::ps.drop (k+1):=by
   rw[ö k1,Ê,É k1];rfl
  rw[dr]at eL;generalize ps.getD k ⟨0,0,""⟩=p at *;have ct:wX (.list (ps.map WR)) (some ((k:Int)+1)) none=some (.list ((ps.drop (k+1)).map WR)):=by
   rw[List.map_drop];exact rY (k:=k+1) (by rw[Ä];lia)
  have ld:(ps.drop (k+1)).length<=300:=by rw[Ĕ];lia
  have gd:∀q∈ps.drop (k+1),q.i<cs.length/\bE q.z:=λq hq=>gP q (List.mem_of_mem_drop hq);generalize ps.drop (k+1)=qs at *;have e2:L++(qs.flatMap (ġ ss as p)++QQ ss as qs)=QQ ss as ps:=eL;refine cS (ds:=qs.map WR) (δ1:=_) (λt δ=>∃L1 o6,L1.length<=300*k+t/\L1++(qs.drop t).flatMap (ġ ss as p)=L++qs.flatMap (ġ ss as p)/\δ=[some sh,some 'c',some (.list L1),some (.list (ps.map WR)),some (.int k),some (WR p),o6]) (cJ (by dsimp? [JR,nA,nB,u5,ct])) ⟨L,_,∅,rfl,rfl⟩ ?_ ?_
  .rintro t d δ ht ⟨L1,o6,lL1,eL1,rfl⟩
   have t1:t<qs.length:=by have:=(Ð.mp ht).1;rwa [Ä]at this
   rw[Î,É t1]at ht;cases ht;rw[ö t1]at eL1;have gq:=gd _ (Č t1);generalize qs[t]=q at *;sleep 7;have en:=ap p.i q.i (by have:=gp.1;lia) (by have:=gq.1;lia);have ef:=fs p.z q.z gp.2 gq.2;rw[List.flatMap_cons]at eL1;unfold ġ at eL1;by_cases c:ž ss p.i q.i<Ŏ as p.z q.z
   .rw[Â c]at eL1
    dsimp? [WR,ef,en,c,decide_true];exact⟨∅,_,_,by rw[Ì,ì];lia,by rw[List.append_assoc];exact eL1,rfl⟩
   .rw[Ã c]at eL1
    dsimp? [WR,ef,en,c,decide_false,Bool.false_eq_true];exact⟨_,_,∅,eL1,rfl⟩
  .rintro δ ⟨L1,o6,lL1,eL1,rfl⟩
   rw[Ä,List.drop_length,List.flatMap_nil,ò]at eL1;rw[Ä]at lL1;exact⟨L1,_,_,_,∅,by rw[eL1,List.append_assoc];exact e2,rfl⟩
 .rintro δ ⟨L,o4,o5,o6,lL,eL,rfl⟩
  rw[g9,Ä]at lL eL;rw[List.drop_length]at eL;dsimp? [];exact⟨by rw[<- eL];simp[QQ],∅⟩
def NM(la:as.length<=10)(ga:∀a∈as,bE a.x/\bE a.y)(ls:cs.length=ss.length)(lc:cs.length<=10)(gc:∀c∈cs,c.length<=30/\∀b∈c,pX b):∃L,(∀d∈L,Sh 2 d)/\∀sh,fC sh (.int 2)=some (.list (ss.map mL))->fC sh (.int 4)=some (.list (as.map XY))->sT [sh,.list 'm']=.ok (.list L) []:=by
 have e24:sizeLine=2^24:=rfl;let⟨r,eP,P,rfl,lP,gP⟩:=QB lc gc;let⟨ps,rfl,gQ⟩:=WS gP;rw[Ä]at lP;obtain⟨f,hf⟩:∃f:Nat->ZI,∀k,k<cs.length->f7 [mL (ss.getD k AG),.int (k:Int),aP 'A']=.ok (.list (f k)) []/\(f k).length<=32/\∀d∈f k,Sh 2 d:=by
  have:=λk(hk:k<cs.length)=>KR (st:=ss.getD k AG) (s:=(k:Int)) (bs:=cs.getD k []) (by have:=(gc _ (cC (d:=[]) hk)).1;lia);refine⟨λk=>open Classical in if h:k<cs.length then (this k h).choose_spec.2.choose else [],λk hk=>?_⟩;dsimp only;rw[dif_pos hk];let⟨e1,e2⟩:=(this k hk).choose_spec;let⟨q1,q2⟩:=e2.choose_spec;have:=(gc _ (cC (d:=[]) hk)).1;exact⟨by rw[<- q1];exact e1,∅,q2.2⟩
 refine⟨((List.range cs.length).map f).flatten++QQ ss as ps,λd hd=>?_,λsh i2 i4=>?_⟩
 .rcases ü.mp hd with h|h
  .obtain⟨l,h1,h2⟩:=List.mem_flatten.mp h
   let⟨k,hk,rfl⟩:=Ô.mp h1;exact(hf k (List.mem_range.mp hk)).2.2 d h2
  .exact WT d h
 let⟨ea,lA⟩:=aH2 i2 i4 la ga ls eP lP gQ;sleep 3;show bO yF [some sh,some 'c',none,none,none] _ _ _ _;unfold yF;dsimp? [];refine cS (ds:=eV 'm') (δ1:=_) (λk δ=>∃L o3 o4,L.length<=32*k/\L=((List.range k).map f).flatten/\δ=[some sh,some 'c',some (.list L),o3,o4]) (jP rfl) ⟨[],_,_,by simp,rfl,rfl⟩ ?_ ?_
 .rintro k d δ hk ⟨L,o3,o4,lL,eL,rfl⟩
  let⟨k1,rfl⟩:=fP (a0:=[]) hk;sleep 7;let⟨e1,l1,_⟩:=hf k k1;dsimp? [i2,EG (enc:=mL) (l:=ss) (d:=AG) (show k<ss.length by lia),e1,xF];exact⟨∅,_,_,_,by rw[Ì];lia,by rw[eL,List.range_succ,Ù,List.flatten_append];simp,rfl⟩
 .rintro δ ⟨L,o3,o4,lL,eL,rfl⟩
  rw[g9,Ä]at lL eL;dsimp? [ea,xF];exact⟨∅,by rw[eL]⟩
def HV(la:as.length<=10)(ga:∀a∈as,bE a.x/\bE a.y)(ls:cs.length=ss.length)(lc:cs.length<=10)(gc:∀c∈cs,c.length<=30/\∀b∈c,pX b):∃L,sT [lC own b ss ts as,.list 'm']=.ok (.list L) []:=by
 let⟨L,_,h⟩:=NM la ga ls lc gc;exact⟨L,h _ rfl rfl⟩
end
section
def WU(r:D):Prop:=(∃a b,r=.tuple [.str "fill",a,b])\/∃(k:Str)(a:D),(k="none"\/k="broken")/\r=.tuple [.str k,a]
def KS(W:W9 Å Á):∃r,v4 [vD Å,iL Á]=.ok r []/\WU r:=by
 let⟨b,_,_⟩:=W.bnd;let⟨r,el,T,σ,I,h⟩:=HJ b;refine⟨r,el,?_⟩;rcases h with ⟨all,rfl⟩|⟨p,hp,hneg,ha,rfl⟩
 .exact .inl ⟨_,_,rfl⟩
 .exact .inr ⟨"none",_,.inl rfl,rfl⟩
end
section
variable {own:Q4}{b:vE}{ss:List St}{cs:List 'q'}{ts:List Tk}{as:List Ap}
def EL(M:l6 own ss cs ts)(g:jQ b):∃r,iI [lC own b ss ts as,.list 'm']=.ok r []/\WU r:=by
 have lt:=M.lt;let⟨r,el,hr⟩:=KS (NI M g);refine⟨r,?_,hr⟩;have e0:kX [lC own b ss ts as,.list 'm']=.ok (vD (bY ts b 'd')) []:=EI M g;have e1:i7 [lC own b ss ts as]=.ok (iL (ts.map λt=>t.r)) []:=rA ∅;generalize bY ts b 'd'=Å at *;generalize lC own b ss ts as=sh at *;sleep 3;show bO kY [some sh,some 'c'] _ _ _ _;unfold kY;dsimp? [e0,e1,el]
def HW(cs:List 'q'):Prop:=∀c∈cs,c.length<=30/\∀b∈c,pX b/\1<=b.w/\b.w<=1000000000
def oV(S:P8 own b ss ts as)(lc:cs.length=ss.length)(gc:HW cs):l6 own ss cs ts:=
 ⟨S.o0,S.o1,by have:=S.ls;lia,lc,λc hc=>(gc c hc).1,by have:=S.lt;lia,S.gs,λc hc b hb=>by have:=(gc c hc).2 b hb;exact⟨this.1.nm,this.1.p,this.1.k,this.2⟩,S.gt⟩
def AH(S:P8 own b ss ts as)(lc:cs.length=ss.length)(gc:HW cs):∃r,mG [lC own b ss ts as,.list 'm']=.ok r []/\WU r:=by
 have ls:=S.ls;let⟨r,eb,hr⟩:=EL (as:=as) (oV S lc gc) S.b;let⟨L,ek⟩:=HV (own:=own) (b:=b) (ts:=ts) (by have:=S.la;lia) S.ga lc ∅ λc hc=>⟨(gc c hc).1,λx hx=>((gc c hc).2 x hx).1⟩;generalize lC own b ss ts as=sh at *;refine u4 ?_;show bO jD [some sh,some 'c',none] _ _ _ _;unfold jD;dsimp? [ek];refine UV (cE rfl) ?_;cases L with
 |nil=>
  dsimp? [List.isEmpty_nil,Bool.not_true,Bool.false_eq_true,eb];exact hr
 |cons x L=>
  dsimp? [List.isEmpty_cons,Bool.not_false];exact .inr ⟨"broken",_,.inr rfl,rfl⟩
end
def ſ(n:D):Option Str->Res D
 |none=>.ok .none [some n]
 |some x=>.err (.str x) [some n]
def aOD(δ:DS):Option Str->Res Fl
 |none=>.ok .next δ
 |some x=>.err (.str x) δ
def Ĺ{c:M Bool}{v:M Fl}{x:Str}{m:D}{δ:DS}{b:Bool}(h:c δ=.ok b δ):eK (m5 c (jZ x [dC m]) AU) v δ=if b=true then .err (.str x) δ else v δ:=by
 have hr:jZ x [dC m] δ=.err (.str x) δ:=by
  unfold jZ;simp[aZ,iS,Res.bind]
 unfold eK m5;rw[h];simp![Res.bind];cases b
 .rfl
 .simp[hr]
def aOE{c:M Bool}{x:Str}{m:D}{δ:DS}{b:Bool}(h:c δ=.ok b δ):m5 c (jZ x [dC m]) AU δ=if b=true then .err (.str x) δ else .ok .next δ:=by
 have hr:jZ x [dC m] δ=.err (.str x) δ:=by
  unfold jZ;simp[aZ,iS,Res.bind]
 unfold m5;rw[h];simp![Res.bind];cases b
 .rfl
 .simp[hr]
def aCC{u:D->Prop}{N:ZO}{δ:DS}{fn:ZI->Res D}{as:List L2.Arg}{j:Nat}(ho:aW as=[j])(h:aY (cP as) δ λods δ1=>∃ds n o,eD δ1 as ods=some ds/\fn ds=ſ n o/\o.elim (N (δ1.set j (some n))) λx=>u (.str x)):wD (uX (fU fn as)) δ N u:=by
 unfold aY at h;unfold wD uX fU;cases e:cP as δ with
 |stuck=>sleep 1
 |err x d=>sleep 1
 |ok ods δ1=>
  rw[e]at h;let⟨ds,n,o,h1,h2,h3⟩:=h;simp![Res.bind,h1,h2,ho];cases o<;>exact h3
def WV{o o':D->D->ZL}{f g k:M D}{δ:DS}{a b c:D}{r r':Bool}(hf:f δ=.ok a δ)(hg:g δ=.ok b δ)(hk:k δ=.ok c δ)(h1:o a b=some (.bool r))(h2:o' b c=some (.bool r')):hJ o o' f g k δ=.ok (.bool (r && r')) δ:=by
 unfold hJ;rw[hf,aU,hg,aU,h1];cases r
 .rfl
 .simp![hk,aU,h2,Bool.true_and]
def Ī(z:Str):Prop:=z.length<=100/\∀c∈z.cps.toList,c<128
structure WW(b:Bx):Prop where
 nm:Ī b.nm
 p:Ī b.p
 k:Ī b.k
def WX(h:Ī z):fO [.str z]=.ok (.bool (uM z)) []:=name_ev' h.1 h.2
def WY(zs:ZG)(b:Bx):(Option Str):=if uM b.nm=false then some "NoName"else if b.nm∈zs then some "NoName"else if b.w<1 then some "NoWeight"else if uM b.p=false then some "NoName"else if uM b.k=false then some "NoName"else if b.b<0 then some "NoWeight"else none
def WZ(A:WW b):jM [gE b,vF zs]=ſ (vF zs) (WY zs b):=by
 have i0:fC (gE b) (.int 0)=some (.str b.nm):=rfl;have i1:fC (gE b) (.int 1)=some (.int b.w):=rfl;have i2:fC (gE b) (.int 2)=some (.str b.p):=rfl;have i3:fC (gE b) (.int 3)=some (.str b.k):=rfl;have i4:fC (gE b) (.int 4)=some (.int b.b):=rfl;generalize gE b=T at *;have fin:∀r:Res Fl,jL [some T,some (vF zs)]=r->r=aOD [some T,some (vF zs)] (WY zs b)->jM [T,vF zs]=ſ (vF zs) (WY zs b):=λr e1 e2=>by
  unfold jM aR;show (match jL [some T,some (vF zs)]with|.ok (.ret d) δ=>_|.ok .next δ=>_|.ok _ _=>_|.err x δ=>_|.stuck=>_)=_;rw[e1,e2];cases WY zs b<;>rfl
 have cl:∀(j:Int)(z:Str),fC T (.int j)=some (.str z)->Ī z->pH (dB (fU fO [.val (j9 fC (bQ 0) (dC (.int j)))])) [some T,some (vF zs)]=.ok (!uM z) [some T,some (vF zs)]:=λj z hj hz=>
  w9 (u1 (ON (jY (cE rfl) iS hj) (WX hz)))
 refine fin _ rfl ?_;unfold jL WY;have ci:LR (dB (j9 (u8 false) (j9 fC (bQ 0) (dC (.int 0))) (bQ 1))) [some T,some (vF zs)]=.ok (decide (b.nm∈zs)) [some T,some (vF zs)]:=by
  have:=u1 (jY (op:=u8 false) (jY (δ:=[some T,some (vF zs)]) (cE (i:=0) rfl) iS i0) (cE (i:=1) rfl) aLN);unfold LR;rw[this]
 rw[Ĺ (cl 0 _ i0 A.nm)];cases h0:uM b.nm with
 |false=>rfl
 |true=>
 rw[Ã ⋯,Ã ⋯,Ĺ ci];by_cases h1:b.nm∈zs
 .rw[decide_eq_true h1,Â rfl,Â h1];rfl
 rw[decide_eq_false h1,Ã ⋯,Ã h1,Ĺ (b:=decide (b.w<1)) (u1 (jY (jY (cE rfl) iS i1) iS rfl))];by_cases h2:b.w<1
 .rw[decide_eq_true h2,Â rfl,Â h2];rfl
 rw[decide_eq_false h2,Ã ⋯,Ã h2,Ĺ (cl 2 _ i2 A.p)];cases h3:uM b.p with
 |false=>rfl
 |true=>
 rw[Ã ⋯,Ã ⋯,Ĺ (cl 3 _ i3 A.k)];cases h4:uM b.k with
 |false=>rfl
 |true=>
 rw[Ã ⋯,Ã ⋯,aOE (b:=decide (b.b<0)) (u1 (jY (jY (cE rfl) iS i4) iS rfl))];by_cases h5:b.b<0
 .rw[decide_eq_true h5,Â rfl,Â h5];rfl
 .rw[decide_eq_false h5,Ã ⋯,Ã h5];rfl
abbrev fQ(bs:List Bx):ZG:=bs.map λb=>b.nm
def X0(m:Nat):ZG->List Ld->Option Str
 |_,[]=>none
 |zs,x::r=>if 0<=x.2/\x.2<(m:Int)then (match WY zs x.1 with
  |some e=>some e
  |none=>X0 m (zs++[x.1.nm]) r)else some "NoStack"
def aCD(h:WY zs b=none):b.nm∉zs:=λhm=>by
 unfold WY at h;rw[Â hm]at h;split at h<;>cases h
def W0{cs:List 'q'}(nd:(fQ cs.flatten).Nodup)(hl:cs.flatten.length<=300):yN [.list 'm']=.ok (vF (fQ cs.flatten)) []:=by
 sleep 3;show bO qU [some 'c',none,none,none] _ _ _ _;unfold qU;dsimp? [];have e0:kE [] []=vF (fQ ([]:List 'q').flatten):=rfl;rw[e0];have sub:∀k,∃rest,cs.flatten=(cs.take k).flatten++rest:=λk=>⟨(cs.drop k).flatten,by rw[<- List.flatten_append,List.take_append_drop]⟩;refine cS (ds:=cs.map aP) (δ1:=_) (λk δ=>∃o2 o3,δ=[some 'c',some (vF (fQ (cs.take k).flatten)),o2,o3]) (eS rfl) ⟨none,none,rfl⟩ ?_ ?_
 .rintro k d δ hk ⟨o2,o3,rfl⟩
  have k1:k<cs.length:=by have:=(Ð.mp hk).1;rwa [Ä]at this
  rw[Î,dA (d:=[]) k1]at hk;cases hk;sleep 7;have ek:(cs.take (k+1)).flatten=(cs.take k).flatten++cs.getD k []:=by
   rw[List.take_add_one,dA (d:=[]) k1,List.flatten_append];simp
  let⟨rest,er⟩:=sub (k+1);rw[ek]at er;rw[er]at nd hl;rw[ek];generalize (cs.take k).flatten=P at *;generalize cs.getD k []=bs at *;refine cS (ds:=bs.map gE) (δ1:=_) (λt δ=>∃o3,δ=[some 'c',some (vF (fQ (P++bs.take t))),some (aP bs),o3]) (eS rfl) ⟨o3,by rw[List.take_zero,ò];rfl⟩ ?_ ?_
  .rintro t d δ ht ⟨o3,rfl⟩
   have t1:t<bs.length:=by have:=(Ð.mp ht).1;rwa [Ä]at this
   rw[Î,dA (d:=zM) t1]at ht;cases ht;have et:P++bs.take (t+1)=P++bs.take t++[bs.getD t zM]:=by rw[List.take_add_one,dA (d:=zM) t1,List.append_assoc];rfl
   have eb:bs=bs.take t++(bs.getD t zM::bs.drop (t+1)):=by
    have:=List.take_append_drop t bs;rw[ö t1]at this;rw[Ê,É t1];exact this.symm
   have ni:(bs.getD t zM).nm∉fQ (P++bs.take t):=by
    rw[eb,<- List.append_assoc,List.append_assoc]at nd;have nd:((P++bs.take t).map (λb=>b.nm)++(bs.getD t zM::bs.drop (t+1)++rest).map λb=>b.nm).Nodup:=by rw[<- Ù];exact nd
    have:=(List.nodup_append.mp nd).2.2;intro hm;exact this _ hm _ 'e' rfl
   have ln:(fQ (P++bs.take t)).length<=1000:=by
    rw[Ì,Ì]at hl;rw[Ä,Ì,ù];lia
   sleep 7;rw[et,show fQ (P++bs.take t++[bs.getD t zM])=fQ (P++bs.take t)++[(bs.getD t zM).nm]from Ù];generalize bs.getD t zM=x at *;have i0:fC (gE x) (.int 0)=some (.str x.nm):=rfl;dsimp? [xT,i0,WQ ni ln];exact⟨_,rfl⟩
  .rintro δ ⟨o3,rfl⟩
   rw[Ä,List.take_length];exact⟨_,_,rfl⟩
 .rintro δ ⟨o2,o3,rfl⟩
  rw[Ä,List.take_length];dsimp? [C2]
def W1{cs:List 'q'}(hs:fC sh (.int 2)=some (.list st))(nd:(fQ cs.flatten).Nodup)(hl:cs.flatten.length<=300)(ll:ld.length<=300)(A:∀x∈ld,WW x.1):g5 [sh,.list 'm',.list (ld.map IK)]=aO2 (X0 st.length (fQ cs.flatten) ld):=by
 unfold g5 pU;refine aN9 _ ?_;show wD _ [some sh,some 'c',some (.list (ld.map IK)),none,none,none] _ _;have en:=W0 nd hl;refine NL (aO3 ?_);dsimp? [en];have lz:(fQ cs.flatten).length<=300:=by rw[Ä];exact hl
 generalize fQ cs.flatten=zs at *;refine aLM (ds:=ld.map IK) (λk δ=>X0 st.length zs ld=X0 st.length (zs++(ld.take k).map λx=>x.1.nm) (ld.drop k)/\∃o4 o5,δ=[some sh,some 'c',some (.list (ld.map IK)),some (vF (zs++(ld.take k).map λx=>x.1.nm)),o4,o5]) (aY.of (eS rfl) ⟨rfl,by rw[List.take_zero,List.map_nil,ò,List.drop_zero],none,none,by rw[List.take_zero,List.map_nil,ò]⟩) ?_ ?_
 .rintro k d δ hk ⟨he,o4,o5,rfl⟩
  have k1:k<ld.length:=by have:=(Ð.mp hk).1;rwa [Ä]at this
  rw[Î,É k1]at hk;cases hk;have Ax:=A _ (Č k1);have ez:(ld.take (k+1)).map (λx=>x.1.nm)=(ld.take k).map (λx=>x.1.nm)++[ld[k].1.nm]:=by
   rw[List.take_add_one,É k1,Ù];rfl
  have lk:(zs++(ld.take k).map λx=>x.1.nm).length<=1000:=by
   rw[Ì,Ä,ù];lia
  rw[ez,<- List.append_assoc];rw[ö k1,X0]at he;generalize zs++(ld.take k).map (λx=>x.1.nm)=ys at *;generalize ld[k]=x at *;refine⟨[some sh,some 'c',some (.list (ld.map IK)),some (vF ys),some (gE x.1),some (.int x.2)],rfl,?_⟩;have ech:pH (dB (hJ Ĳ ŧ (dC (.int 0)) (bQ 5) (OF qA [(j9 fC (bQ 0) (dC (.int 2)))]))) [some sh,some 'c',some (.list (ld.map IK)),some (vF ys),some (gE x.1),some (.int x.2)]=.ok (!(decide (0<=x.2) && decide (x.2<(st.length:Int)))) [some sh,some 'c',some (.list (ld.map IK)),some (vF ys),some (gE x.1),some (.int x.2)]:=w9 (u1 (WV iS (cE rfl) (CQ (jY (cE rfl) iS hs) CY) rfl rfl));by_cases c:0<=x.2/\x.2<(st.length:Int)
  .rw[Â c]at he
   rw[decide_eq_true c.1,decide_eq_true c.2]at ech;have eB:=WZ (zs:=ys) Ax;refine NL (aLL (aY.of ech ?_));rw[Ã ⋯];refine aHX ?_;refine NL (aCC rfl ?_);dsimp? [];refine⟨_,_,_,rfl,eB,?_⟩;cases hc:WY ys x.1 with
   |some e=>
    rw[hc]at he;show Option.map PyData.str _=_;rw[he];rfl
   |none=>
    rw[hc]at he;have i0:fC (gE x.1) (.int 0)=some (.str x.1.nm):=rfl;refine aO3 ?_;show bO _ [some sh,some 'c',some (.list (ld.map IK)),some (vF ys),some (gE x.1),some (.int x.2)] _ _ _ _;generalize gE x.1=T at *;dsimp? [xT,i0,WQ (aCD hc) lk];exact⟨he,_,_,rfl⟩
  .rw[Ã c]at he
   have:(decide (0<=x.2) && decide (x.2<(st.length:Int)))=false:=by
    rw[<- Bool.decide_and];exact decide_eq_false c
   rw[this]at ech;refine NL (aLL (aY.of ech ?_));rw[Â ⋯];refine aB7 ?_;dsimp? [];rw[he];rfl
 .rintro δ ⟨he,_⟩
  rw[Ä,List.drop_length]at he;exact he
def QR(b:Bx):Prop:=pX b/\1<=b.w/\b.w<=1000000000
def bV(cs:List 'q')(m:Nat):Prop:=∀c∈cs,c.length<=m/\∀b∈c,QR b
def bV.mono(h:bV cs m)(e:m<=n):bV cs n:=λc hc=>⟨Ø (h c hc).1 e,(h c hc).2⟩
def bV.set(h:bV cs m)(lc:c.length<=m)(gc:∀b∈c,QR b):bV (cs.set k c) m:=λx hx=>by
 rcases List.mem_or_eq_of_mem_set hx with z|rfl
 .exact h x z
 .exact⟨lc,gc⟩
def bV.at(h:bV cs m):'A'.length<=m/\∀b∈cs.getD k [],QR b:=by
 by_cases hk:k<cs.length
 .exact h _ (cC hk)
 .rw[Ê,ä ∅]
  exact⟨ó _,λb hb=>by cases hb⟩
def W2(m:Mv)(cs cs':List 'q'):Prop:=∃k:Nat,k<cs.length/\((∃z c b,m=(⟨"off",(k:Int),z⟩,.none)/\cs.getD k []=c++[b]/\cs'=cs.set k c)\/∃w z b,bE w/\(w == "off")=false/\m=(⟨w,(k:Int),z⟩,gE b)/\cs'=cs.set k (cs.getD k []++[b]))
def lF:List Mv->List 'q'->List 'q'->Prop
 |[],cs,cs1=>cs1=cs
 |m::ms,cs,cs1=>∃cs',W2 m cs cs'/\bV cs' 30/\lF ms cs' cs1
def lF.app:∀{ms ms':List Mv}{cs cs1 cs2:List 'q'},lF ms cs cs1->lF ms' cs1 cs2->lF (ms++ms') cs cs2
 |[],_,_,_,_,h,g=>by cases h;exact g
 |_::_,_,_,_,_,⟨cs',s,q,h⟩,g=>⟨cs',s,q,h.app g⟩
def nX{cs:List 'q'}(h:k<cs.length):(cs.set k c).getD k []=c:=by
 rw[Ê,ë h];rfl
def HX{cs:List 'q'}(h:k<cs.length):cs.set k 'A'=cs:=by
 rw[Ê,É h];exact List.set_getElem_self h
def NO :∀{l:List Bx}{cs:List 'q'},k<cs.length->bV cs 30->cs.getD k []=keep++l.reverse->lF (l.map (WJ (k:Int))) cs (cs.set k keep)
 |[],cs,hk,_,e=>by
  rw[List.reverse_nil,ò]at e;show cs.set k keep=cs;rw[<- e,HX hk]
 |b::l,cs,hk,g,e=>by
  rw[List.reverse_cons,<- List.append_assoc]at e;have ga:=g.at (k:=k);rw[e]at ga;have lg:(keep++l.reverse).length<=30:=by have:=ga.1;rw[Ì]at this;lia
  have g':bV (cs.set k (keep++l.reverse)) 30:=g.set lg λx hx=>ga.2 x (Ĝ _ hx);refine⟨cs.set k (keep++l.reverse),⟨k,hk,.inl ⟨_,_,_,rfl,e,rfl⟩⟩,g',?_⟩;have:=NO (k:=k) (keep:=keep) (l:=l) (cs:=cs.set k (keep++l.reverse)) (by rw[Ú];exact hk) g' (nX hk)
  rwa [List.set_set]at this
def W3 :∀{l:List Bx}{cs:List 'q'},k<cs.length->bV cs 30->'A'.length+l.length<=30->(∀b∈l,QR b)->lF (l.map (ķ (k:Int))) cs (cs.set k (cs.getD k []++l))
 |[],cs,hk,_,_,_=>by
  show cs.set k (cs.getD k []++[])=cs;rw[ò,HX hk]
 |b::l,cs,hk,g,hl,gl=>by
  rw[Ó]at hl;have g':bV (cs.set k (cs.getD k []++[b])) 30:=g.set (by rw[Ì,ì];lia) (cY g.at.2 (gl b Õ));refine⟨cs.set k (cs.getD k []++[b]),⟨k,hk,.inr ⟨"back",_,b,ż,⋯,rfl,rfl⟩⟩,g',?_⟩;have:=W3 (k:=k) (l:=l) (cs:=cs.set k (cs.getD k []++[b])) (by rw[Ú];exact hk) g' (by rw[nX hk,Ì,ì];lia) λx hx=>gl x (Ò _ hx)
  rwa [List.set_set,nX hk,List.append_assoc]at this
def W4(s:W2 m cs cs')(g:bV cs 30)(lc:cs.length<=10):oN [.list 'm',lE m.1,m.2]=.ok (.list (cs'.map aP)) []/\cs'.length=cs.length:=by
 obtain⟨k,hk,⟨z,c,b,rfl,e,rfl⟩|⟨w,z,b,gw,hw,rfl,rfl⟩⟩:=s
 .have hk':((k:Nat):Int).toNat<cs.length:=by lia
  have e2:cs[((k:Nat):Int).toNat]=c++[b]:=by
   have:=dA (d:=[]) hk';rw[É hk']at this;rw[Option.some.inj this,ā];exact e
  have:=KQ (x:=.str z) (y:=.none) (s:=(k:Int)) (b:=b) ∅ ∅ hk' e2;rw[ā]at this;exact⟨this,Ú⟩
 .have hk':((k:Nat):Int).toNat<cs.length:=by lia
  have e2:cs[((k:Nat):Int).toNat]=cs.getD k []:=by
   have:=dA (d:=[]) hk';rw[É hk']at this;rw[Option.some.inj this,ā]
  have lg:=(g.at (k:=k)).1;have:=QA (x:=.str z) (s:=(k:Int)) (b:=b) gw hw ∅ ∅ hk' (by rw[e2];lia);rw[e2,ā]at this;exact⟨this,Ú⟩
section
def aH4:∀k:Str,(k="none"\/k="broken")->FK (.str k) (.str "fill")=some 'i':=λk h=>by
 rcases h with rfl|rfl<;>with_unfolding_all rfl
end
abbrev stay(p:Str)(c:List Bx):List Bx:=c.filter (nP p)
def KU:bs.take (bs.findIdx λb=>b.p == p)++(vO bs p).filter (nP p)=stay p bs:=by
 have e:bs.take (bs.findIdx λb=>b.p == p)++vO bs p=bs:=List.take_append_drop _ _;have h:(bs.take (bs.findIdx λb=>b.p == p)).filter (nP p)=bs.take (bs.findIdx λb=>b.p == p):=by
  rw[List.filter_eq_self];intro b hb;let⟨i,hi,rfl⟩:=List.mem_iff_getElem.mp hb;rw[ù]at hi;have:=List.not_of_lt_findIdx (p:=λb:Bx=>b.p == p) (xs:=bs) (i:=i) ∅;rw[List.getElem_take];unfold nP;rw[Bool.not_eq_true'];simpa using this
 show _=bs.filter (nP p);rw[<- h,<- List.filter_append,e]
def KW(hk:k<cs.length)(g:bV cs m)(hm:m<=30):lF (XZ 'A' (k:Int) p) cs (cs.set k (stay p 'A')):=by
 have ga:=g.at (k:=k);have g3:=g.mono hm;rw[<- KU];generalize hb:cs.getD k []=bs at *;have e:bs.take (bs.findIdx λb=>b.p == p)++vO bs p=bs:=List.take_append_drop _ _;have fl:=List.length_filter_le (nP p) (vO bs p);have le:=congrArg List.length e;rw[Ì]at le;have gk:∀b∈bs.take (bs.findIdx λb=>b.p == p),QR b:=λb hb=>ga.2 b (List.mem_of_mem_take hb);have gf:∀b∈(vO bs p).filter (nP p),QR b:=λb hb=>ga.2 b (wB (ċ.mp hb).1);generalize bs.take (bs.findIdx λb=>b.p == p)=keep at *;have r1:=NO (k:=k) (keep:=keep) (l:=(vO bs p).reverse) hk g3 (by rw[List.reverse_reverse,e,hb]);have r2:=W3 (k:=k) (l:=(vO bs p).filter (nP p)) (cs:=cs.set k keep) (by rw[Ú];exact hk) (g3.set ∅ gk) (by rw[nX hk];lia) gf;rw[List.set_set,nX hk]at r2;exact r1.app r2
def bV.stay(g:bV cs m):bV (cs.map (stay p)) m:=λc hc=>by
 let⟨d,hd,rfl⟩:=Ô.mp hc;exact⟨Ø (List.length_filter_le _ _) (g d hd).1,λb hb=>(g d hd).2 b (ċ.mp hb).1⟩
def HY(g:bV cs m)(hm:m<=30):∀k,k<=cs.length->lF (QP cs p k) cs ((cs.take k).map (stay p)++cs.drop k)
 |0,_=>by simp[QP,lF]
 |k+1,hk=>by
  have r1:=HY (p:=p) g hm k (È hk);have lt:((cs.take k).map (stay p)).length=k:=by rw[Ä,ù];lia
  have hd:cs.drop k=cs[k]::cs.drop (k+1):=ö hk;have g1:bV ((cs.take k).map (stay p)++cs.drop k) m:=λc hc=>by
   rcases ü.mp hc with h|h
   .exact bV.stay (p:=p) (λc hc=>g c (List.mem_of_mem_take hc)) c h
   .exact g c (List.mem_of_mem_drop h)
  have e1:((cs.take k).map (stay p)++cs.drop k).getD k []=cs.getD k []:=by
   rw[Ê,á ∅,lt,þ,hd,Ê,É hk];rfl
  have r2:=KW (k:=k) (cs:=(cs.take k).map (stay p)++cs.drop k) (p:=p) (by rw[Ì,lt,Ĕ];lia) g1 hm;rw[e1]at r2;have e2:((cs.take k).map (stay p)++cs.drop k).set k (stay p 'A')=(cs.take (k+1)).map (stay p)++cs.drop (k+1):=by
   rw[List.set_append_right _ _ ∅,lt,þ,hd,List.set_cons_zero,List.take_succ_eq_append_getElem hk,Ù,List.append_assoc,Ê,É hk];rfl
  rw[e2]at r2;rw[zH];exact r1.app r2
def ŏ:List Ld->List 'q'->List 'q'
 |[],cs=>cs
 |x::ld,cs=>ŏ ld (cs.set x.2.toNat (cs.getD x.2.toNat []++[x.1]))
def NP(cs:List 'q')(p:Str)(ld:List Ld):(List 'q'):=ŏ ld (cs.map (stay p))
def NQ:∀{ld:List Ld}{cs:List 'q'}{m:Nat},bV cs m->m+ld.length<=30->(∀x∈ld,QR x.1/\0<=x.2/\x.2<(cs.length:Int))->lF (ld.map ĸ) cs (ŏ ld cs)/\bV (ŏ ld cs) (m+ld.length)
 |[],cs,_,g,_,_=>⟨rfl,g⟩
 |x::ld,cs,m,g,hl,h=>by
  let⟨hb,h0,h1⟩:=h x Õ;rw[Ó]at hl;have hk:x.2.toNat<cs.length:=by lia
  have g':bV (cs.set x.2.toNat (cs.getD x.2.toNat []++[x.1])) (m+1):=(g.mono (Nat.le_succ m)).set (by rw[Ì,ì];have:=(g.at (k:=x.2.toNat)).1;lia) (cY g.at.2 hb)
  let⟨r,g2⟩:=NQ (ld:=ld) g' ∅ λy hy=>by rw[Ú];exact h y (Ò _ hy)
  refine⟨⟨_,⟨x.2.toNat,hk,.inr ⟨"on",x.1.nm,x.1,aO1,⋯,?_,rfl⟩⟩,g'.mono ∅,r⟩,g2.mono (by rw[Ó];lia)⟩;rw[show ((x.2.toNat:Nat):Int)=x.2 by lia];rfl
def QD(g:bV cs m)(ll:m+ld.length<=30)(h:∀x∈ld,QR x.1/\0<=x.2/\x.2<(cs.length:Int)):lF (oZ cs p ld) cs (NP cs p ld)/\bV (NP cs p ld) (m+ld.length):=by
 have r1:=HY (p:=p) g ∅ cs.length (Ç _);rw[List.take_length,List.drop_length,ò]at r1;let⟨r2,g2⟩:=NQ (ld:=ld) (cs:=cs.map (stay p)) g.stay ll λx hx=>by rw[Ä];exact h x hx
 exact⟨r1.app r2,g2⟩
def HZ :∀{cs:List 'q'}{j:Nat}(h:j<cs.length),((cs.set j (cs[j]++[x])).flatten).Perm (cs.flatten++[x])
 |c::cs,0,_=>by
  show ((c++[x])++cs.flatten).Perm ((c++cs.flatten)++[x]);rw[List.append_assoc,List.append_assoc];exact List.perm_append_comm.append_left c
 |c::cs,j+1,h=>by
  show (c++(cs.set j (cs[j]'(Nat.lt_of_succ_lt_succ h)++[x])).flatten).Perm ((c++cs.flatten)++[x]);rw[List.append_assoc];exact(HZ (Nat.lt_of_succ_lt_succ h)).append_left c
def pY(cs:List 'q')(lg mv:D):D:=.tuple [.str "done",.list 'm',lg,mv]
def EM(n t:D):D:=.tuple [.str "refused",n,t]
def NR(sh:D)(cs:List 'q'):D:=match mG [sh,.list 'm']with
 |.ok r _=>r
 |_=>.none
def W5(h:mG [sh,.list 'm']=.ok r []):NR sh cs=r:=by
 unfold NR;rw[h]
abbrev ī:=Mv×List 'q'
def ĺ:List ī->List 'q'->List 'q'->Prop
 |[],cs,csE=>csE=cs
 |(m,c)::ps,cs,csE=>W2 m cs c/\bV c 30/\ĺ ps c csE
def W6:∀{ms:List Mv}{cs csE:List 'q'},lF ms cs csE->∃ps:List ī,ps.map Prod.fst=ms/\ĺ ps cs csE
 |[],cs,csE,h=>by cases h;exact⟨[],rfl,rfl⟩
 |m::ms,cs,csE,h=>by
  let⟨c,h1,h2,h3⟩:=h;let⟨ps,e,q⟩:=W6 h3;exact⟨(m,c)::ps,by rw[Ï,e],h1,h2,q⟩
def Wk(sh mv:D):List ī->List 'q'->ZI->D->Prop
 |[],cs,L,r=>r=pY cs (.list L) mv
 |(m,c)::ps,_,L,r=>(∃x y,NR sh c=.tuple [.str "fill",x,y]/\Wk sh mv ps c (L++[.tuple [lE m.1,x]]) r)\/∃(k:Str)(x:D),(k="none"\/k="broken")/\NR sh c=.tuple [.str k,x]/\r=EM (.int (L.length:Nat)) (.tuple [.str k,x])
def Α(cs:List 'q')(p:Str)(ld:List Ld):D:=.list (((HU cs p ld).filter ŋ).map λt=>.str t.z)
section
def vG(S:P8 own b ss ts as)(lc:cs.length=ss.length)(g:bV cs m)(gp:bE p)(h:uM p=true)(nd:(fQ cs.flatten).Nodup)(hl:cs.flatten.length<=300)(ll:m+ld.length<=30)(A:∀x∈ld,WW x.1)(hc:X0 ss.length (fQ cs.flatten) ld=none)(hp:ps.map Prod.fst=oZ cs p ld)(hP:ĺ ps cs (NP cs p ld)):
  ∃r,jE [lC own b ss ts as,.list 'm',iB p ld]=.ok r []/\Wk (lC own b ss ts as) (Α cs p ld) ps cs [] r:=by
 have hz:sizeLine=2^24:=rfl;have ls:=S.ls;have i0:fC (iB p ld) (.int 0)=some (.str p):=rfl;have i1:fC (iB p ld) (.int 1)=some (.list (ld.map IK)):=rfl;have eL:=W1 (cs:=cs) (ld:=ld) (sh:=lC own b ss ts as) (st:=ss.map mL) rfl nd hl ∅ A;rw[Ä,hc]at eL;have eL:g5 [lC own b ss ts as,.list 'm',.list (ld.map IK)]=.ok .none []:=eL;have gC:HQ cs 50:=λc hc=>⟨by have:=(g c hc).1;lia,λx hx=>((g c hc).2 x hx).1⟩
 have em:=HS (ld:=ld) gC gp ∅ ∅;have ev:=WM (ld:=ld) gC gp ∅ ∅;have lm:=s9 (p:=p) (ld:=ld) gC ∅ ∅;have ei:=WX (aB8 h);rw[h]at ei;have ec:=uL (cs:=cs) ∅;have es:=λ(cs':List 'q')(l':cs'.length=ss.length)(g':bV cs' 30)=>AH (as:=as) S l' λc hc=>⟨(g' c hc).1,λx hx=>(g' c hc).2 x hx⟩;rw[<- hp]at em lm;rw[Ä]at lm;rw[è]at em;change qT [.list 'm',iB p ld]=.ok (Α cs p ld) []at ev;generalize Α cs p ld=mv at *;generalize NP cs p ld=csE at *;generalize iB p ld=cl at *;generalize lC own b ss ts as=sh at *;refine u4 ?_;show bO yQ [some sh,some 'c',some cl,none,none,none,none,none] _ _ _ _;unfold yQ;dsimp? [i0,ei,Bool.not_true,Bool.false_eq_true,i1,eL,ec];refine cS (ds:=ps.map (HR∘Prod.fst)) (δ1:=_) (λk δ=>∃(cs':List 'q')(L:ZI)(o5 o6 o7:ZL),L.length<=k/\cs'.length=cs.length/\bV cs' 30/\ĺ (ps.drop k) cs' csE/\(∀r,Wk sh mv (ps.drop k) cs' L r->Wk sh mv ps cs [] r)/\δ=[some sh,some 'c',some cl,some (.list (cs'.map aP)),some (.list L),o5,o6,o7]) (cJ (by dsimp? [em])) ⟨cs,[],none,none,none,Ç _,rfl,g.mono ∅,by rw[List.drop_zero];exact hP,λr hr=>by rw[List.drop_zero]at hr;exact hr,rfl⟩ ?_ ?_
 .rintro k d δ hk ⟨cs',L,o5,o6,o7,lL,l',g',r',w',rfl⟩
  have k1:k<ps.length:=by have:=(Ð.mp hk).1;rwa [Ä]at this
  rw[Î,É k1]at hk;cases hk;rw[ö k1]at r' w';generalize ps[k]=q at *;let⟨m,cs2⟩:=q;let⟨s2,g2,r2⟩:=r';let⟨e1,l2⟩:=W4 s2 g' ∅;let⟨r,er,hr⟩:=es cs2 ∅ g2;have eR:=W5 er;refine⟨[some sh,some 'c',some cl,some (.list (cs'.map aP)),some (.list L),some (lE m.1),some m.2,o7],rfl,?_⟩;rcases hr with ⟨x,y,rfl⟩|⟨kd,x,hk,rfl⟩
  .have x0:fC (.tuple [.str "fill",x,y]) (.int 0)=some (.str "fill"):=rfl
   have x1:fC (.tuple [.str "fill",x,y]) (.int 1)=some x:=rfl;dsimp? [e1,er,x0,x1,aN7,Bool.false_eq_true];exact⟨∅,cs2,_,_,_,_,by rw[Ì,ì];lia,∅,g2,r2,λr hr=>w' r (.inl ⟨x,y,eR,hr⟩),rfl⟩
  .have x0:fC (.tuple [.str kd,x]) (.int 0)=some (.str kd):=rfl
   dsimp? [e1,er,x0,aH4 kd hk];exact w' _ (.inr ⟨kd,x,hk,eR,rfl⟩)
 .rintro δ ⟨cs',L,o5,o6,o7,lL,l',g',r',w',rfl⟩
  rw[Ä,List.drop_length]at r' w';dsimp? [ev];exact w' _ rfl
end
structure Đ(b b':vE):Prop where
 b0:b'.b0<=b.b0
 b1:b.b1<=b'.b1
 b2:b'.b2<=b.b2
 b3:b.b3<=b'.b3
 b4:b.b4<=b'.b4
 b5:b.b5<=b'.b5
section
variable {ts ts':List Tk}{b b':vE}{q:Q4}{z:Nat->Int}{D e c:Int}{f:Tk->Int}{n:Nat}
def Ő(h:x<ts.length):(ts.map f).getD x 0=f (ts.getD x HM):=by
 rw[Ê,Î,dA h];rfl
def W7:∀{n:Nat}{z:Nat->Int},(∀x,x<n->0<=z x)->0<=Sx.sumN n z
 |0,_,_=>Int.le_refl 0
 |n+1,z,h=>by
  have:=W7 (n:=n) (z:=z) λx hx=>h x ∅;have:=h n ∅;show 0<=Sx.sumN n z+z n;lia
def W8(hz:∀x,x<ts.length->0<=z x)(hD:0<D)(he:0<=e)(hw:0<=w)(h:Sx.RowZ ts.length z D (ts.map f,c)):Sx.RowZ ts.length z D (ts.map λt=>f t-e,c+e*w):=by
 unfold Sx.RowZ at h⊢;have s1:(Sx.sumN ts.length λx=>(ts.map λt=>f t-e).getD x 0*z x)=(Sx.sumN ts.length λx=>(ts.map f).getD x 0*z x)-e*Sx.sumN ts.length z:=by
  rw[<- Sx.sumN_mul];have:∀x,x<ts.length->(ts.map f).getD x 0*z x=(ts.map λt=>f t-e).getD x 0*z x+e*z x:=λx hx=>by
   rw[Ő hx,Ő hx,Int.sub_mul];lia
  rw[Sx.sumN_congr this,Sx.sumN_add];lia
 have p1:0<=e*Sx.sumN ts.length z:=ê he (W7 hz);have p2:0<=e*w*D:=ê (ê he hw) (à hD);rw[s1];dsimp only at h⊢;rw[Int.add_mul];lia
structure Ě(ts ts':List Tk):Prop where
 x:ts'.map (λt=>t.x)=ts.map λt=>t.x
 y:ts'.map (λt=>t.y)=ts.map λt=>t.y
 z:ts'.map (λt=>t.z)=ts.map λt=>t.z
 r:∀k,k<ts.length->(ts.getD k HM).r<=(ts'.getD k HM).r
def Ě.len(h:Ě ts ts'):ts'.length=ts.length:=by
 have:=congrArg List.length h.x;rw[Ä,Ä]at this;exact this
def zJ(h:ts'.map p=ts.map p)(g:Int->Int):(ts'.map λt=>g (p t))=ts.map λt=>g (p t):=by
 have:=congrArg (List.map g) h;rw[è,è]at this;exact this
def aCG(h:Ě ts ts'):bY ts' b q=bY ts b q:=by
 have l:=h.len;have e:(ts'.map λ_=>(1:Int))=ts.map λ_=>1:=by rw[List.map_const',List.map_const',l]
 unfold bY;rw[zJ h.x (· - b.b1),zJ h.x (b.b0 - ·),zJ h.y (· - b.b3),zJ h.y (b.b2 - ·),zJ h.z (· - b.b4),e]
def lG(h:Sx.RowZ n z D (ts.map f,c))(h1:∀t,f t=g t)(h2:c=c'):Sx.RowZ n z D (ts.map g,c'):=by
 rw[<- h2,show g=f from funext λt=>(h1 t).symm];exact h
def XA(hb:Đ b b')(hw:0<=q.1)(ht:Ě ts ts')(hD:0<D)(h:Sx.RightZ (Sx.lpOf (bY ts b q) (ts.map λt=>t.r)) z D):Sx.RightZ (Sx.lpOf (bY ts' b' q) (ts'.map λt=>t.r)) z D:=by
 have l:=ht.len;let⟨h1,h2⟩:=Sx.rz_iff.mp h;rw[Ä]at h1 h2;refine Sx.rz_iff.mpr ⟨λx hx=>?_,λr hr=>?_⟩
 .rw[Ä,l]at hx
  let⟨z0,z1⟩:=h1 x hx;refine⟨z0,Int.le_trans z1 (Ą ?_ (à hD))⟩;rw[Ő hx,Ő (by rw[l];exact hx)];exact ht.r x hx
 .have hz:∀x,x<ts.length->0<=z x:=λx hx=>(h1 x hx).1
  rw[aCG ht]at hr;rw[Ä,l];have w:=λ{f:Tk->Int}{c:Int}(e:Int)(he:0<=e)(m:(ts.map f,c)∈bY ts b q)=>W8 hz hD he hw (h2 _ m);unfold bY at w hr;simp![Ë,Û,or_false]at hr;have o:=hb;rcases hr with rfl|rfl|rfl|rfl|rfl|rfl
  .exact lG (w (b'.b1-b.b1) (by have:=hb.b1;lia) (Õ ..)) (λt=>by lia) (by rw[Int.sub_mul];lia)
  .exact lG (w (f:=λt=>b.b0-t.x) (c:=q.2.1-b.b0*q.1) (b.b0-b'.b0) (by have:=hb.b0;lia) 'e') (λt=>by lia) (by rw[Int.sub_mul];lia)
  .exact lG (w (f:=λt=>t.y-b.b3) (c:=b.b3*q.1-q.2.2.1) (b'.b3-b.b3) (by have:=hb.b3;lia) 'e') (λt=>by lia) (by rw[Int.sub_mul];lia)
  .exact lG (w (f:=λt=>b.b2-t.y) (c:=q.2.2.1-b.b2*q.1) (b.b2-b'.b2) (by have:=hb.b2;lia) 'e') (λt=>by lia) (by rw[Int.sub_mul];lia)
  .exact lG (w (f:=λt=>t.z-b.b4) (c:=b.b4*q.1-q.2.2.2) (b'.b4-b.b4) (by have:=hb.b4;lia) 'e') (λt=>by lia) (by rw[Int.sub_mul];lia)
  .have:=(h2 (ts.map λ_=>1,b.b5-q.1) (by unfold bY;simp)).top (e:=b'.b5-b.b5) (by have:=hb.b5;lia) hD
   exact lG (f:=λ_=>1) this (λ_=>rfl) ∅
def uO(hb:Đ b b')(hw:0<=q.1)(ht:Ě ts ts'):Sx.Into (bY ts b q) (ts.map λt=>t.r) (bY ts' b' q) (ts'.map λt=>t.r):=λz D hD h=>⟨z,XA hb hw ht hD h,by rw[Ä,Ä,ht.len]⟩
def zS(n:Nat)(z:Nat->Int)(x:Nat):Int:=if x<n then z x else 0
def XB(hr:0<=t.r)(hD:0<D)(h:Sx.RightZ (Sx.lpOf (bY ts b q) (ts.map λt=>t.r)) z D):Sx.RightZ (Sx.lpOf (bY (ts++[t]) b q) ((ts++[t]).map λt=>t.r)) (zS ts.length z) D/\Sx.sumN ((ts++[t]).map λt=>t.r).length (zS ts.length z)=Sx.sumN (ts.map λt=>t.r).length z:=by
 let⟨h1,h2⟩:=Sx.rz_iff.mp h;rw[Ä]at h1 h2;have at1:∀{f:Tk->Int}{x:Nat},x<ts.length->((ts++[t]).map f).getD x 0=(ts.map f).getD x 0:=λ{f x}hx=>by
  rw[Ù,Ê,ñ (by rw[Ä];exact hx),<- Ê]
 have sm:∀{g:Nat->Int},(Sx.sumN (ts.length+1) λx=>g x*if x<ts.length then z x else 0)=Sx.sumN ts.length λx=>g x*z x:=λ{g}=>by
  show Sx.sumN ts.length _+g ts.length*(if ts.length<ts.length then _ else 0)=_;rw[Ã (ø _),Int.mul_zero,Int.add_zero];exact Sx.sumN_congr λx hx=>by rw[Â hx]
 have ln:((ts++[t]).map λt=>t.r).length=ts.length+1:=by rw[Ä,Ì];rfl
 have rw1:∀{f:Tk->Int}{c:Int},(ts.map f,c)∈bY ts b q->Sx.RowZ (ts.length+1) (λx=>if x<ts.length then z x else 0) D ((ts++[t]).map f,c):=λ{f c}m=>by
  have:=h2 _ m;unfold Sx.RowZ at this⊢;rw[sm];rw[Sx.sumN_congr λx hx=>by rw[at1 hx]];exact this
 refine⟨Sx.rz_iff.mpr ⟨λx hx=>?_,λr hr=>?_⟩,?_⟩
 .rw[ln]at hx
  unfold zS;by_cases c:x<ts.length
  .rw[Â c,at1 c]
   exact h1 x c
  .obtain rfl:x=ts.length:=by lia
   rw[Ã c];refine⟨Int.le_refl 0,ê ?_ (à hD)⟩;rw[Ù,Ê,á (by rw[Ä];exact Ç _),Ä,þ];exact hr
 .rw[ln]
  unfold bY at rw1 hr;simp![Ë,Û,or_false]at hr;rcases hr with rfl|rfl|rfl|rfl|rfl|rfl<;>exact rw1 'e'
 .rw[ln,Ä]
  have:=sm (g:=λ_=>1);simp![Int.one_mul]at this;exact this
def QE(hr:0<=t.r):Sx.Into (bY ts b q) (ts.map λt=>t.r) (bY (ts++[t]) b q) ((ts++[t]).map λt=>t.r):=λz D hD h=>⟨_,XB hr hD h⟩
def zC(z:Nat->Int):Nat->Int
 |0=>0
 |x+1=>z x
def XC(hr:0<=t.r)(hD:0<D)(h:Sx.RightZ (Sx.lpOf (bY ts b q) (ts.map λt=>t.r)) z D):Sx.RightZ (Sx.lpOf (bY (t::ts) b q) ((t::ts).map λt=>t.r)) (zC z) D/\Sx.sumN ((t::ts).map λt=>t.r).length (zC z)=Sx.sumN (ts.map λt=>t.r).length z:=by
 let⟨h1,h2⟩:=Sx.rz_iff.mp h;rw[Ä]at h1 h2;have sm:∀{g:Nat->Int},(Sx.sumN (ts.length+1) λx=>g x*zC z x)=Sx.sumN ts.length λx=>g (x+1)*z x:=λ{g}=>by
  rw[Sx.sumN_shift];show g 0*0+_=_;rw[Int.mul_zero,Int.zero_add];rfl
 have ln:((t::ts).map λt=>t.r).length=ts.length+1:=by rw[Ä];rfl
 have rw1:∀{f:Tk->Int}{c:Int},(ts.map f,c)∈bY ts b q->Sx.RowZ (ts.length+1) (zC z) D ((t::ts).map f,c):=λ{f c}m=>by
  have:=h2 _ m;unfold Sx.RowZ at this⊢;rw[sm];exact this
 refine⟨Sx.rz_iff.mpr ⟨λx hx=>?_,λr hr=>?_⟩,?_⟩
 .rw[ln]at hx
  cases x with
  |zero=>exact⟨Int.le_refl 0,ê hr (à hD)⟩
  |succ x=>exact h1 x ∅
 .rw[ln]
  unfold bY at rw1 hr;simp![Ë,Û,or_false]at hr;rcases hr with rfl|rfl|rfl|rfl|rfl|rfl<;>exact rw1 'e'
 .rw[ln,Ä]
  have:=sm (g:=λ_=>1);simp![Int.one_mul]at this;exact this
def QF(hr:0<=t.r):Sx.Into (bY ts b q) (ts.map λt=>t.r) (bY (t::ts) b q) ((t::ts).map λt=>t.r):=λz D hD h=>⟨_,XC hr hD h⟩
def Ĭ(ts ts':List Tk):Prop:=∃ts1,Ě ts ts1/\(ts'=ts1\/∃t,0<=t.r/\(ts'=t::ts1\/ts'=ts1++[t]))
def H8(hb:Đ b b')(hw:0<=q.1)(ht:Ĭ ts ts'):Sx.Into (bY ts b q) (ts.map λt=>t.r) (bY ts' b' q) (ts'.map λt=>t.r):=by
 obtain⟨ts1,h1,rfl|⟨t,hr,rfl|rfl⟩⟩:=ht
 .exact uO hb hw h1
 .exact(uO hb hw h1).trans (QF hr)
 .exact(uO hb hw h1).trans (QE hr)
end
section
abbrev jR(n:Nat):ZK:=List.replicate n 1
def NS(h:x<n):(List.replicate n (1:Int)).getD x 0=1:=by
 rw[Ê,ą,Â h];rfl
structure Ļ(Å:ZE)(Á:ZK)(z:Nat->Int)(s:Int):Prop where
 pos:0<s
 good:gD 300 (qs Á.length z s)
 nn:∀u,0<=z u
 right:Sx.RightZ (Sx.lpOf Å Á) z s
 least:∀z' D,0<D->Sx.RightZ (Sx.lpOf Å Á) z' D->Sx.sumN Á.length z*D<=Sx.sumN Á.length z'*s
def nY(n:Nat)(z:Nat->Int)(s:Int)(two:D):D:=.tuple [.str "fill",iJ (qs n z s),two]
def tE(two:D):D:=.tuple [.str "none",two]
def XD(Å:ZE)(Á:ZK):Prop:=∀z D,0<D->Sx.RightZ (Sx.lpOf Å Á) z D->False
def aLS(Å:ZE)(Á:ZK)(r:D):Prop:=(∃z s two,r=nY Á.length z s two/\Ļ Å Á z s)\/∃two,r=tE two/\XD Å Á
def aLT(W:W9 Å Á):∃r,v4 [vD Å,iL Á]=.ok r []/\aLS Å Á r:=by
 have n4:=W.n;let⟨b,_,_⟩:=W.bnd;let⟨r,el,T,σ,I,h⟩:=HJ b;refine⟨r,el,?_⟩;have pos:=I.pos;let⟨fs,fl⟩:=W.fit I;rcases h with ⟨all,rfl⟩|⟨p,hp,hneg,ha,rfl⟩
 .have hv:∀u,bP 300 (Sx.val (ď Å Á).pr T u):=aB5 (λi j hi hj e=>I.hi i j ∅ ∅ e) λr hr=>fl r _ ∅ (Ç _)
  have nn:=Sx.val_nonneg (Q:=ď Å Á) (T:=T) all;refine .inl ⟨Sx.val (ď Å Á).pr T,T.s,ę Á.length Å.length (λu=>Sx.shr Á.length T.f (T.L (ď Å Á).pr.k) u) T.s,by unfold nY;rw[aHQ];rfl,pos,aBZ pos fs λx _=>hv x,nn,?_,λz D hD F=>Sx.lessN I F⟩
  let⟨a1,a2,_⟩:=Sx.fills I;refine⟨λx _=>nn x,λx hx=>?_,λr hr=>?_⟩
  .have h:=a2 x hx
   have:=nn ((ď Å Á).n+(ď Å Á).m+x);rw[Int.mul_comm T.s]at h;lia
  .have h:=a1 r hr
   have:=nn ((ď Å Á).n+r);rw[Int.mul_comm T.s]at h;lia
 .exact .inr ⟨ę Á.length Å.length (λu=>if u=T.h p then T.s else Sx.shr Á.length T.f (T.L p) u) T.s,rfl,λz D hD F=>Sx.noneN I hp hneg ha hD F⟩
def aD3(h:0<s):(qY (jR n) (qs n z s) n).1*s=Sx.sumN n z*(qY (jR n) (qs n z s) n).2/\0<(qY (jR n) (qs n z s) n).2:=by
 have sp:=Ż (n:=n) (y:=z) (s:=s) (ns:=jR n) n (Ç _);rw[show (Sx.sumN n λx=>(jR n).getD x 0*z x)=Sx.sumN n λx=>z x from Sx.sumN_congr λx hx=>by rw[NS hx,Int.one_mul]]at sp;exact⟨sp,EC (ns:=jR n) (WA (n:=n) (y:=z) h) n⟩
end
section
variable {own:Q4}{b:vE}{ss:List St}{cs:List 'q'}{ts:List Tk}{as:List Ap}
abbrev Ģ(own:Q4)(b:vE)(ss:List St)(ts:List Tk)(cs:List 'q'):ZE:=bY ts b 'd'
abbrev vP(ts:List Tk):ZK:=ts.map λt=>t.r
def tF(M:l6 own ss cs ts)(g:jQ b):∃r,iI [lC own b ss ts as,.list 'm']=.ok r []/\aLS (Ģ own b ss ts cs) (vP ts) r:=by
 have lt:=M.lt;let⟨r,el,hr⟩:=aLT (NI M g);refine⟨r,?_,hr⟩;have e0:kX [lC own b ss ts as,.list 'm']=.ok (vD (bY ts b 'd')) []:=EI M g;have e1:i7 [lC own b ss ts as]=.ok (iL (ts.map λt=>t.r)) []:=rA ∅;clear hr;generalize bY ts b 'd'=Å at *;generalize lC own b ss ts as=sh at *;sleep 3;show bO kY [some sh,some 'c'] _ _ _ _;unfold kY;dsimp? [e0,e1,el]
def ő(n:Nat)(z:Nat->Int)(s:Int)(n':Nat)(z':Nat->Int)(s':Int):Prop:=Sx.sumN n' z'*s<=Sx.sumN n z*s'
def H9(hb:Đ b b')(hw:0<='d'.1)(ht:Ĭ ts ts')(F:Ļ (Ģ own b ss ts cs) (vP ts) z s)(F':Ļ (Ģ own b' ss ts' cs) (vP ts') z' s'):ő (vP ts).length z s (vP ts').length z' s':=by
 let⟨y,h1,h2⟩:=H8 hb hw ht z s F.pos F.right;have:=F'.least y s F.pos h1;rw[h2]at this;exact this
def NT(hb:Đ b b')(hw:0<='d'.1)(ht:Ĭ ts ts')(h:XD (Ģ own b' ss ts' cs) (vP ts')):XD (Ģ own b ss ts cs) (vP ts):=λz D hD F=>by
 let⟨y,h1,_⟩:=H8 hb hw ht z D hD F;exact h y D hD h1
def aLU(sh sh':D)(n n':Nat)(cs:List 'q'):Prop:=
 (∃x,NR sh cs=.tuple [.str "broken",x]/\NR sh' cs=.tuple [.str "broken",x]/\Sh 3 x) \/
 (∃z s u z' s' u',NR sh cs=nY n z s u/\NR sh' cs=nY n' z' s' u'/\ő n z s n' z' s'/\(0<s/\gD 300 (qs n z s))/\0<s'/\gD 300 (qs n' z' s')) \/
 ∃u,NR sh cs=tE u/\((∃u',NR sh' cs=tE u')\/∃z' s' u',NR sh' cs=nY n' z' s' u')
def QG(S:P8 own b ss ts as)(S':P8 own b' ss ts' as)(hb:Đ b b')(ht:Ĭ ts ts')(lc:cs.length=ss.length)(gc:HW cs):aLU (lC own b ss ts as) (lC own b' ss ts' as) (vP ts).length (vP ts').length cs:=by
 have ls:=S.ls;have M:=oV S lc gc;have M':=oV S' lc gc;let⟨r,eb,hr⟩:=tF (as:=as) M S.b;let⟨r',eb',hr'⟩:=tF (as:=as) M' S'.b;let⟨L,gL,ek⟩:=NM (ss:=ss) (as:=as) (cs:=cs) (by have:=S.la;lia) S.ga lc ∅ λc hc=>⟨(gc c hc).1,λx hx=>((gc c hc).2 x hx).1⟩;have k1:=ek (lC own b ss ts as) rfl rfl;have k2:=ek (lC own b' ss ts' as) rfl rfl;have hw:0<='d'.1:=à (WH M);have st:∀{sh r:D},sT [sh,.list 'm']=.ok (.list L) []->iI [sh,.list 'm']=.ok r []->NR sh cs=if L.isEmpty then r else .tuple [.str "broken",.list L]:=λ{sh r}ek eb=>W5 (by
  sleep 3;show bO jD [some sh,some 'c',none] _ _ _ _;unfold jD;dsimp? [ek];refine UV (cE rfl) ?_;cases L with
  |nil=>dsimp? [List.isEmpty_nil,Bool.not_true,Bool.false_eq_true,eb]
  |cons x L=>dsimp? [List.isEmpty_cons,Bool.not_false])
 have s1:=st k1 eb;have s2:=st k2 eb';cases L with
 |cons x L=>exact .inl ⟨_,s1,s2,vW gL⟩
 |nil=>
  have s1:NR (lC own b ss ts as) cs=r:=s1;have s2:NR (lC own b' ss ts' as) cs=r':=s2;rcases hr with ⟨z,s,u,rfl,F⟩|⟨u,rfl,N⟩
  .rcases hr' with ⟨z',s',u',rfl,F'⟩|⟨u',rfl,N'⟩
   .exact .inr (.inl ⟨z,s,u,z',s',u',s1,s2,H9 hb hw ht F F',⟨F.pos,F.good⟩,F'.pos,F'.good⟩)
   .exact(NT hb hw ht N' z s F.pos F.right).elim
  .refine .inr (.inr ⟨u,s1,?_⟩)
   rcases hr' with ⟨z',s',u',rfl,F'⟩|⟨u',rfl,N'⟩
   .exact .inr ⟨z',s',u',s2⟩
   .exact .inl ⟨u',s2⟩
end
def XE(hb:1<=b)(gn:nU a ns)(gp:gD b ps):∀k,bP (2+(a+b+1)*k) (qY ns ps k).1/\bP (2+(a+b+1)*k) (qY ns ps k).2
 |0=>⟨HK,zD (by exact Nat.le_succ _)⟩
 |k+1=>by
  let⟨h1,h2⟩:=XE hb gn gp k;let⟨_,p1,p2⟩:=gp.at hb k;have n1:=gn.at k;have hs:(a+b+1)*(k+1)=(a+b+1)*k+(a+b+1):=Nat.mul_succ _ _;exact⟨(h1.mul p2 (Ç _)).add ((n1.mul p1 (Ç _)).mul h2 (Ç _)) ∅,h2.mul p2 ∅⟩
def QH:nU 1 (jR n):=λi hi=>by
 rw[List.mem_replicate]at hi;rw[hi.2];exact zD (Ç _)
def KY(gp:gD 300 ps)(hk:k<=10):bP 4000 (qY (jR n) ps k).1/\bP 4000 (qY (jR n) ps k).2:=by
 let⟨h1,h2⟩:=XE ⋯ (QH (n:=n)) gp k;have:(1+300+1)*k<=(1+300+1)*10:=Nat.mul_le_mul_left _ hk;exact⟨h1.mono ∅,h2.mono ∅⟩
def NU(gp:gD 300 ps)(h:ps.length<=10):D2 [iJ ps]=.ok (fr (qY (jR ps.length) ps ps.length)) []:=by
 sleep 3;show bO D1 [some (iJ ps),none,none] _ _ _ _;unfold D1;dsimp? [];refine cS (ds:=ps.map fr) (δ1:=_) (λk δ=>∃o,δ=[some (iJ ps),some (fr (qY (jR ps.length) ps k)),o]) (eS rfl) ⟨none,rfl⟩ ?_ ?_
 .rintro k d δ hk ⟨o,rfl⟩
  have k1:k<ps.length:=by have:=(Ð.mp hk).1;rwa [Ä]at this
  rw[Î,dA (d:=((0:Int),(1:Int))) k1]at hk;cases hk;let⟨f1,f2⟩:=KY (n:=ps.length) gp (show k<=10 by lia);let⟨_,p1,p2⟩:=gp.at ⋯ k;sleep 7;rw[qY,NS k1,Int.one_mul];generalize qY (jR ps.length) ps k=S at *;generalize ps.getD k (0,1)=p at *;dsimp? [fr];exact⟨f1.mulOk p2 ⋯,p1.mulOk f2 ⋯,f2.mulOk p2 ⋯,_,rfl⟩
 .rintro δ ⟨o,rfl⟩
  rw[Ä];dsimp? []
def zK(hn:n<=10)(hn':n'<=10)(hs:0<s)(gp:gD 300 (qs n z s))(hs':0<s')(gp':gD 300 (qs n' z' s'))(h:ő n z s n' z' s'):nT [iJ (qs n z s),iJ (qs n' z' s')]=.ok 'i' []:=by
 have l1:(qs n z s).length=n:=qZ;have l2:(qs n' z' s').length=n':=qZ;have e1:=NU gp ∅;have e2:=NU gp' ∅;rw[l1]at e1;rw[l2]at e2;let⟨a1,b1⟩:=aD3 (n:=n) (z:=z) hs;let⟨a2,b2⟩:=aD3 (n:=n') (z:=z') hs';let⟨f1,f2⟩:=KY (n:=n) gp hn;let⟨f3,f4⟩:=KY (n:=n') gp' hn';generalize qY (jR n) (qs n z s) n=p at *;generalize qY (jR n') (qs n' z' s') n'=p' at *;have le:p'.1*p.2<=p.1*p'.2:=by
  refine Int.not_lt.mp λc=>?_;have ss:0<s*s':=Int.mul_pos hs hs';have q1:=Int.mul_lt_mul_of_pos_right c ss;have q2:p.1*p'.2*(s*s')=(p.1*s)*(p'.2*s'):=by grind
  have q3:p'.1*p.2*(s*s')=(p'.1*s')*(p.2*s):=by grind
  rw[q2,q3,a1,a2]at q1;have q4:=Ą h (à (Int.mul_pos b1 b2));have q5:Sx.sumN n z*p.2*(p'.2*s')=Sx.sumN n z*s'*(p.2*p'.2):=by grind
  have q6:Sx.sumN n' z'*p'.2*(p.2*s)=Sx.sumN n' z'*s*(p.2*p'.2):=by grind
  rw[q5,q6]at q1;exact Int.lt_irrefl _ (Int.lt_of_le_of_lt q4 q1)
 generalize iJ (qs n z s)=x at *;generalize iJ (qs n' z' s')=y at *;sleep 3;show bO nS [some x,some y,none,none] _ _ _ _;unfold nS;dsimp? [e1,e2,fr,decide_eq_true le];exact⟨f3.mulOk f2 ⋯,f1.mulOk f4 ⋯⟩
structure LE where
 t:Ķ
 z:Nat->Int
 s:Int
 z':Nat->Int
 s':Int
def LE.a(n:Nat)(e:LE):D:=.tuple [lE e.t,iJ (qs n e.z e.s)]
def LE.b(n:Nat)(e:LE):D:=.tuple [lE e.t,iJ (qs n e.z' e.s')]
structure Œ(n n':Nat)(e:LE):Prop where
 t:Sh 2 (lE e.t)
 m:ő n e.z e.s n' e.z' e.s'
 s:0<e.s
 g:gD 300 (qs n e.z e.s)
 s':0<e.s'
 g':gD 300 (qs n' e.z' e.s')
def XF{α:Type}{f:α->D}{l:List α}{k:Nat}{e:α}(h:l[k]?=some e):fC (.list (l.map f)) (.int (k:Int))=some (f e):=by
 have hk:=(Ð.mp h).1;have:=EG (enc:=f) (l:=l) (d:=e) hk;rw[Ê,h]at this;exact this
def EN(h:Sh k d)(hk:k<=64):FK d d=some (.bool false):=by
 have s:=h.shaped hk;unfold FK;rw[Â ⟨s,s⟩,SeqAt.eqv_refl _ h.lay];rfl
def eq_self'(h:Sh k d)(hk:k<=64):JL d d=some 'i':=by
 have s:=h.shaped hk;unfold JL;rw[Â ⟨s,s⟩,SeqAt.eqv_refl _ h.lay]
section
variable {n n':Nat}{cs:List 'q'}{es:List LE}{mv:D}
def aCI(hn:n<=10)(hn':n'<=10)(hc:Sh 5 'c')(hm:Sh 5 mv)(he:∀e∈es,Œ n n' e)(hl:es.length<=1000):pW [pY cs (.list (es.map (LE.a n))) mv,pY cs (.list (es.map (LE.b n'))) mv]=.ok 'i' []:=by
 have i1:∀{c g m:D},fC (.tuple [.str "done",c,g,m]) (.int 1)=some c:=rfl;have i2:∀{c g m:D},fC (.tuple [.str "done",c,g,m]) (.int 2)=some g:=rfl;have i3:∀{c g m:D},fC (.tuple [.str "done",c,g,m]) (.int 3)=some m:=rfl;have n1:=EN hc ⋯;have n2:=EN hm ⋯;have hlt:(es.length:Int)<2^62:=by lia
 unfold pY;generalize PyData.list 'm'=c at *;have la:(es.map (LE.a n)).length=es.length:=Ä _;have lb:(es.map (LE.b n')).length=es.length:=Ä _;sleep 3;show bO j7 [some (.tuple [.str "done",c,.list (es.map (LE.a n)),mv]),some (.tuple [.str "done",c,.list (es.map (LE.b n')),mv]),none] _ _ _ _;unfold j7;dsimp? [i1,i2,i3,n1,n2,Bool.false_eq_true,la,lb,ne_eq,not_true_eq_false,decide_false];refine TF (j:=es.length) (δ1:=_) (λk δ=>∃o,δ=[some (.tuple [.str "done",c,.list (es.map (LE.a n)),mv]),some (.tuple [.str "done",c,.list (es.map (LE.b n')),mv]),o]) (eQ (by dsimp? [i2,la])) ∅ ⟨none,rfl⟩ ?_ ?_
 .rintro k δ hk ⟨o,rfl⟩
  sleep 7;obtain⟨e,ee⟩:∃e,es[k]?=some e:=⟨es[k],É hk⟩;have E:=he e (û ee);have a1:fC (.list (es.map (LE.a n))) (.int (k:Int))=some (e.a n):=XF ee;have a2:fC (.list (es.map (LE.b n'))) (.int (k:Int))=some (e.b n'):=XF ee;have n3:=EN E.t ⋯;have e4:=zK hn hn' E.s E.g E.s' E.g' E.m;dsimp? [i2,a1,a2,LE.a,LE.b,n3,e4,Bool.false_eq_true,Bool.not_true];exact⟨_,rfl⟩
 .rintro δ ⟨o,rfl⟩
  dsimp? []
end
section
variable {n n':Nat}{cs:List 'q'}{es:List LE}{mv sh sh':D}
def aO4(n n':Nat)(mv r r':D):Prop:=
 (∃(c:List 'q')(es:List LE),bV c 30/\c.length<=10/\es.length<=1000/\(∀e∈es,Œ n n' e)/\r=pY c (.list (es.map (LE.a n))) mv/\r'=pY c (.list (es.map (LE.b n'))) mv) \/
 (∃(k:Nat)(x:D),Sh 3 x/\r=EM (.int (k:Int)) (.tuple [.str "broken",x])/\r'=r) \/
 ∃(k:Nat)(u:D),r=EM (.int (k:Int)) (tE u)/\((∃c g,r'=pY c g mv)\/∃(k':Nat)(t:D),k<=k'/\r'=EM (.int (k':Int)) t)
def Wk.end':∀{ps:List ī}{cs:List 'q'}{L:ZI}{r:D},Wk sh mv ps cs L r->(∃c g,r=pY c g mv)\/∃(k':Nat)(t:D),L.length<=k'/\r=EM (.int (k':Int)) t
 |[],cs,L,r,h=>.inl ⟨_,_,h⟩
 |(m,c)::ps,cs,L,r,h=>by
  rcases h with ⟨x,y,_,h⟩|⟨k,x,_,_,h⟩
  .rcases h.end' with h|⟨k',t,h1,h2⟩
   .exact .inl h
   .rw[Ì]at h1
    exact .inr ⟨k',t,∅,h2⟩
  .exact .inr ⟨_,_,Ç _,h⟩
def XG(h:(PySem.Str.ofString a == PySem.Str.ofString b)=false):(PyData.tuple (.str (PySem.Str.ofString a)::l))≠.tuple (.str (PySem.Str.ofString b)::l'):=λz=>by
 have z:=(PyData.str.inj (List.cons.inj (PyData.tuple.inj z)).1);rw[z,beq_self_eq_true]at h;cases h
def XH:(PyData.tuple [.str "fill",x,y])≠tE u:=XG (by decide +kernel)
def NV:(PyData.tuple [.str "fill",x,y])≠.tuple [.str "broken",u]:=XG (by decide +kernel)
def aD4:∀{ps:List ī}{cs csE:List 'q'}{es:List LE}{r r':D},(∀q∈ps,aLU sh sh' n n' q.2/\bV q.2 30/\q.2.length<=10/\Sh 2 (lE q.1.1))->bV cs 30->cs.length<=10->ps.length+es.length<=1000->(∀e∈es,Œ n n' e)->Wk sh mv ps cs (es.map (LE.a n)) r->Wk sh' mv ps cs (es.map (LE.b n')) r'->aO4 n n' mv r r'
 |[],cs,_,es,r,r',_,g,lc,le,he,h,h'=>.inl ⟨cs,es,g,lc,by simpa using le,he,h,h'⟩
 |(m,c)::ps,cs,csE,es,r,r',hp,g,lc,le,he,h,h'=>by
  let⟨S,gc,l2,sm⟩:=hp (m,c) Õ;have hp':=λq hq=>hp q (Ò _ hq);rcases S with ⟨x,s1,s2,sx⟩|⟨z,s,u,z',s',u',s1,s2,nm,⟨p1,g1⟩,p2,g2⟩|⟨u,s1,s2⟩
  .rcases h with ⟨a,b,h,_⟩|⟨k,a,hk,h,rfl⟩
   .exact absurd (h.symm.trans s1) NV
   rcases h' with ⟨a',b',h',_⟩|⟨k',a',hk',h',rfl⟩
   .exact absurd (h'.symm.trans s2) NV
   rw[s1]at h;rw[s2]at h';rw[<- h,<- h',Ä,Ä];exact .inr (.inl ⟨es.length,x,sx,rfl,rfl⟩)
  .rcases h with ⟨a,b,h,w⟩|⟨k,a,hk,h,_⟩
   .rcases h' with ⟨a',b',h',w'⟩|⟨k',a',hk',h',_⟩
    .rw[s1]at h
     rw[s2]at h';cases h;cases h';have E:Œ n n' ⟨m.1,z,s,z',s'⟩:=⟨sm,nm,p1,g1,p2,g2⟩;refine aD4 (es:=es++[⟨m.1,z,s,z',s'⟩]) (csE:=csE) hp' gc l2 (by rw[Ì];simp at le⊢;lia) (cY he E) ?_ ?_
     .rw[Ù];exact w
     .rw[Ù];exact w'
    .rw[s2]at h'
     rcases hk' with rfl|rfl
     .exact absurd h' XH
     .exact absurd h' NV
   .rw[s1]at h
    rcases hk with rfl|rfl
    .exact absurd h XH
    .exact absurd h NV
  .rcases h with ⟨a,b,h,_⟩|⟨k,a,hk,h,rfl⟩
   .exact absurd (h.symm.trans s1) XH
   rw[s1]at h;rw[<- h,Ä];have q:=Wk.end' h';rw[Ä]at q;exact .inr (.inr ⟨es.length,u,rfl,q⟩)
end
def aLV:JL (.str "done") (.str "done")=some 'i':=by with_unfolding_all rfl
def Β:JL (.str "refused") (.str "done")=some (.bool false):=by with_unfolding_all rfl
def Γ:FK (.str "refused") (.str "refused")=some (.bool false):=by with_unfolding_all rfl
def aOF:ĳ true (.str "done") (.tuple [.str "done",.str "refused"])=some (.bool false):=by with_unfolding_all rfl
def aLW:ĳ true (.str "refused") (.tuple [.str "done",.str "refused"])=some (.bool false):=by with_unfolding_all rfl
def aOG:JL (.str "broken") (.str "broken")=some 'i':=by with_unfolding_all rfl
def aLX:JL (.str "none") (.str "broken")=some (.bool false):=by with_unfolding_all rfl
def aLY(g:pX b):Sh 2 (gE b):=l0 λd hd=>by
 simp![Ë,Û,or_false]at hd;rcases hd with rfl|rfl|rfl|rfl|rfl
 .exact g.nm.sh
 .exact m9
 .exact g.p.sh
 .exact g.k.sh
 .exact m9
def aLZ(g:bV c m):Sh 5 (.list (c.map aP)):=(vW (k:=3) λd hd=>by
 let⟨l,hl,rfl⟩:=Ô.mp hd;refine vW λd hd=>?_;let⟨x,hx,rfl⟩:=Ô.mp hd;exact aLY ((g l hl).2 x hx).1).mono ⋯
section
def XI(hn:n<=10)(hn':n'<=10)(hm:Sh 5 mv)(h:aO4 n n' mv r r'):uI [r,r']=.ok 'i' []/\vL .tuple r=some 'i'/\vL .tuple r'=some 'i':=by
 have i0:∀{a b c d:D},fC (.tuple [a,b,c,d]) (.int 0)=some a:=rfl;have j0:∀{a b c:D},fC (.tuple [a,b,c]) (.int 0)=some a:=rfl;have j1:∀{a b c:D},fC (.tuple [a,b,c]) (.int 1)=some b:=rfl;have j2:∀{a b c:D},fC (.tuple [a,b,c]) (.int 2)=some c:=rfl;have k0:∀{a b:D},fC (.tuple [a,b]) (.int 0)=some a:=rfl;rcases h with ⟨c,es,gc,lc,le,he,rfl,rfl⟩|⟨k,x,sx,rfl,rfl⟩|⟨k,u,rfl,⟨c,g,rfl⟩|⟨k',t,hk,rfl⟩⟩
 .have e:=aCI hn hn' (aLZ gc) hm he le
  refine⟨?_,rfl,rfl⟩;unfold pY at *;generalize PyData.list (c.map aP)=C at *;generalize PyData.list (es.map (LE.a n))=A at *;generalize PyData.list (es.map (LE.b n'))=B at *;sleep 3;show bO eO [some (.tuple [.str "done",C,A,mv]),some (.tuple [.str "done",C,B,mv])] _ _ _ _;unfold eO;dsimp? [i0,aLV,e]
 .have s:Sh 5 (EM (.int (k:Int)) (.tuple [.str "broken",x])):=l0 λd hd=>by
   simp![Ë,Û,or_false]at hd;rcases hd with rfl|rfl|rfl
   .exact(zI (cB _)).mono ⋯
   .exact m9.mono ⋯
   .refine l0 λd hd=>?_
    simp![Ë,Û,or_false]at hd;rcases hd with rfl|rfl
    .exact(zI (cB _)).mono ⋯
    .exact sx
  have e:=eq_self' s ⋯;refine⟨?_,rfl,rfl⟩;unfold EM at *;sleep 3;show bO eO [some (.tuple [.str "refused",.int (k:Int),.tuple [.str "broken",x]]),some (.tuple [.str "refused",.int (k:Int),.tuple [.str "broken",x]])] _ _ _ _;unfold eO;dsimp? [j0,j2,k0,Β,Γ,aLW,aOG,Bool.false_eq_true,e]
 .refine⟨?_,rfl,rfl⟩
  unfold EM pY tE;sleep 3;show bO eO [some (.tuple [.str "refused",.int (k:Int),.tuple [.str "none",u]]),some (.tuple [.str "done",.list (c.map aP),g,mv])] _ _ _ _;unfold eO;dsimp? [i0,j0,j2,k0,Β,Γ,aOF,aLX,aLV,Bool.false_eq_true]
 .refine⟨?_,rfl,rfl⟩
  unfold EM tE;sleep 3;show bO eO [some (.tuple [.str "refused",.int (k:Int),.tuple [.str "none",u]]),some (.tuple [.str "refused",.int (k':Int),t])] _ _ _ _;unfold eO;dsimp? [j0,j1,j2,k0,Β,Γ,aLW,aLX,Bool.false_eq_true];exact decide_eq_true ∅
end
def lH{a:D}{as bs:ZI}(h1:as.length<=20)(h2:bs.length<=20):OI (.tuple (a::as)) (.tuple bs)=some (.tuple (a::as++bs)):=by
 show ((none:ZL).or ((none:ZL).or ((if (a::as:ZI)≠[]/\(a::as:ZI).length+bs.length<=sizeLine then some (PyData.tuple (a::as++bs))else none).or _)))=_;rw[Â ⟨by simp,Ø (show (a::as:ZI).length+bs.length<=100 by rw[Ó];lia) ⋯⟩];rfl
def NW(ms:ZK)(a:Nat):Int:=if ms=[]then (a:Int)else ms.getD (a % ms.length) 0+(a:Int)/(ms.length:Int)*31
def bJ(ms:ZK)(a:Nat)(many:Int):Int:=NW ms a*48271 % 1000003 % many
abbrev c8(ms:ZK)(a:Nat):D:=.list [iL ms,.int (a:Int)]
section
variable {sc:Int}
def fD(h:0<many):0<=bJ ms a many/\bJ ms a many<many:=⟨Int.emod_nonneg _ ∅,Int.emod_lt_of_pos _ h⟩
def cF(hm:ms.length<=1000)(h:0<many):aL [c8 ms a,.int many]=.ok (.int (bJ ms a many)) [some (c8 ms (a+1))]:=by
 refine aK (os:=[c8 ms (a+1)]) ?_;show bO yR [some (c8 ms a),some (.int many),none,none] _ _ _ _;unfold yR;have e1:((a:Int)+1)=((a+1:Nat):Int):=by lia
 dsimp? [aK4,e1,Ä,decide_eq_true_eq];by_cases hz:ms=[]
 .subst hz
  have:NW [] a=a:=rfl;dsimp? [ô,TD,Int.reduceLT,h,bJ,this,Int.natCast_zero,Int.lt_irrefl];exact(by ac_nf)
 .have hp:0<ms.length:=by
   cases ms with
   |nil=>exact absurd rfl hz
   |cons x xs=>simp
  have hp':(0:Int)<(ms.length:Int):=by lia
  have em:(a:Int) % (ms.length:Int)=((a % ms.length:Nat):Int):=by simp
  have hc:NW ms a=ms.getD (a % ms.length) 0+(a:Int)/(ms.length:Int)*31:=by unfold NW;rw[Ã hz]
  dsimp? [hp',TD hp',em,aBV (ns:=ms) (k:=a % ms.length) (Nat.mod_lt _ hp),aGP hp' (show (ms.length:Int)<4611686018427387904 by lia),TD,Int.reduceLT,h,bJ,hc,Ä];exact⟨by ac_nf,by ac_nf⟩
def aL0(h0:0<=k)(h:k<4):∃y:Str,fC (.str "abcd") (.int k)=some (.str y)/\bE y:=by
 have:k=0\/k=1\/k=2\/k=3:=by lia
 rcases this with rfl|rfl|rfl|rfl<;>exact⟨_,rfl,⋯,by decide +kernel⟩
def XJ{w:Str}(hw:w="pqr"\/w="klm")(h0:0<=k)(h:k<3):∃y:Str,fC (.str w) (.int k)=some (.str y)/\bE y/\uM y=true:=by
 have:k=0\/k=1\/k=2:=by lia
 rcases hw with rfl|rfl<;>rcases this with rfl|rfl|rfl<;>exact⟨_,rfl,⟨⋯,by decide +kernel⟩,by decide +kernel⟩
def QS(n:Nat):Str:=⟨#[97+n]⟩
def KZ{n:Nat}(h:n<8):fC (.str "abcdefgh") (.int (n:Int))=some (.str (QS n))/\bE (QS n)/\uM (QS n)=true:=by
 have:n=0\/n=1\/n=2\/n=3\/n=4\/n=5\/n=6\/n=7:=by lia
 rcases this with rfl|rfl|rfl|rfl|rfl|rfl|rfl|rfl<;>exact⟨by with_unfolding_all rfl,⟨⋯,by decide +kernel⟩,by decide +kernel⟩
def EO(h:QS n=QS m):n=m:=by
 have:=congrArg (λz:Str=>z.cps.toList) h;simp![QS,List.cons.injEq,and_true]at this;lia
def jG(hs:0<=sc)(h0:0<=x)(h:x<=n):0<=sc*x/\sc*x<=n*sc:=⟨ê hs h0,by rw[Int.mul_comm n];exact Int.mul_le_mul_of_nonneg_left h hs⟩
def aD5(hs:0<=sc)(h:1<=x):sc<=sc*x:=by
 have:=Int.mul_le_mul_of_nonneg_left h hs;lia
structure œ(sc:Int)(t:Tk):Prop where
 g:zF t
 r:0<=t.r/\t.r<=60*sc
def NX(hm:ms.length<=1000)(h1:1<=sc)(h2:sc<=1000000)(k0:0<=k)(k1:k<4):∃r os,k9 [c8 ms a,.int sc,.int k]=.ok r (os.map some)/\∃t a',r=s8 t/\os=[c8 ms a']/\œ sc t:=by
 have s0:0<=sc:=by lia
 refine CZ ?_;show bO yS [some (c8 ms a),some (.int sc),some (.int k),none] _ _ _ _;unfold yS;let⟨y,ey,gy⟩:=aL0 k0 k1;have d1:=fD (ms:=ms) (a:=a) (many:=81) ⋯;have d2:=fD (ms:=ms) (a:=a+1) (many:=81) ⋯;have d3:=fD (ms:=ms) (a:=a+1+1) (many:=5) ⋯;have d4:=fD (ms:=ms) (a:=a+1+1+1) (many:=60) ⋯;dsimp? [cF hm,Int.reduceLT,ey,lH,Ó,ô,List.cons_append,List.nil_append];have q:=jG (x:=1+bJ ms (a+1+1+1) 60) (n:=60) s0 ∅ ∅;exact⟨by ac_nf,⟨y,_,_,_,_⟩,_,rfl,rfl,⟨gy,lD ∅ ∅,lD ∅ ∅,lD ∅ ∅,q.1,by have:=q.2;lia⟩,q⟩
structure Ŕ(sc:Int)(n:Nat)(b:Bx):Prop where
 nm:b.nm=QS n
 p:bE b.p/\uM b.p=true
 k:bE b.k/\uM b.k=true
 w:1<=b.w/\b.w<=20*sc
 b:0<=b.b
def aIA{n:Nat}(hm:ms.length<=1000)(h1:1<=sc)(h2:sc<=1000000)(hn:n<8):∃r os,DZ [c8 ms a,.int sc,.int (n:Int)]=.ok r (os.map some)/\∃b a',r=gE b/\os=[c8 ms a']/\Ŕ sc n b:=by
 have s0:0<=sc:=by lia
 refine CZ ?_;show bO DY [some (c8 ms a),some (.int sc),some (.int (n:Int)),none,none] _ _ _ _;unfold DY;have d1:=fD (ms:=ms) (a:=a) (many:=3) ⋯;have d2:=fD (ms:=ms) (a:=a+1) (many:=3) ⋯;have d3:=fD (ms:=ms) (a:=a+1+1) (many:=12) ⋯;have d4:=fD (ms:=ms) (a:=a+1+1+1) (many:=60) ⋯;have d6:=fD (ms:=ms) (a:=a+1+1+1+1+1) (many:=20) ⋯;let⟨p,ep,gp⟩:=XJ (w:="pqr") (.inl rfl) d1.1 d1.2;let⟨k,ek,gk⟩:=XJ (w:="klm") (.inr rfl) d2.1 d2.2;let⟨en,_,_⟩:=KZ hn;have q:=jG (x:=1+bJ ms (a+1+1+1+1+1) 20) (n:=20) s0 ∅ ∅;have q':=aD5 (x:=1+bJ ms (a+1+1+1+1+1) 20) s0 ∅;obtain⟨v,ev,v0,v1⟩:∃v:Int,∃e:ũ [.bool (decide (bJ ms (a+1+1+1+1) 4<3))]=some (.int (if bJ ms (a+1+1+1+1) 4<3 then 1 else 0)),fC (.list [.int (bJ ms (a+1+1) 12),.int (60+bJ ms (a+1+1+1) 60)]) (.int (if bJ ms (a+1+1+1+1) 4<3 then 1 else 0))=some (.int v)/\0<=v/\v<=200:=by
  by_cases c:bJ ms (a+1+1+1+1) 4<3
  .rw[Â c,decide_eq_true c]
   exact⟨_,rfl,rfl,∅,∅⟩
  .rw[Ã c,decide_eq_false c]
   exact⟨_,rfl,rfl,∅,∅⟩
 have qv:=jG (x:=v) (n:=200) s0 v1.1 v1.2;dsimp? [cF hm,Int.reduceLT,ep,ek,en,ev,v0,lH,Ó,ô,List.cons_append,List.nil_append];exact⟨by ac_nf,by ac_nf,⟨QS n,_,p,k,_⟩,_,rfl,rfl,rfl,gp,gk,⟨∅,q.2⟩,qv.1⟩
end
section
abbrev ï(x:Int):Prop:=-40<=x/\x<=40
structure aO5(sc:Int)(own:Q4)(b:vE):Prop where
 w:1<=own.1/\own.1<=120*sc
 o:ï own.2.1/\ï own.2.2.1/\ï own.2.2.2
 bb:ï b.b0/\ï b.b1/\ï b.b2/\ï b.b3/\ï b.b4
 b5:0<=b.b5/\b.b5<=400*sc
structure ŕ(sc:Int)(own:Q4)(b:vE)(ss:List St)(ts:List Tk)(as:List Ap):Prop extends aO5 sc own b where
 ls:1<=ss.length/\ss.length<=4
 lt:ts.length<=3
 gs:∀s∈ss,zE s
 gt:∀t∈ts,œ sc t
 la:as.length<=1
 ga:∀a∈as,bE a.x/\bE a.y
def kl(h0:0<=k)(h:k<2):∃y:Str,fC (.list [.str "k",.str "l"]) (.int k)=some (.str y)/\bE y:=by
 have:k=0\/k=1:=by lia
 rcases this with rfl|rfl<;>exact⟨_,rfl,⋯,by decide +kernel⟩
def aP0:bE "k":=⟨⋯,cB _⟩
def i4q{v w x y:Int}(h:0<=v/\v<x)(g:0<=w/\w<y)(a:x<=20)(b:y<=20):ï (v-3)/\ï (v-2)/\ï v/\ï (0-v-w)/\ï (0-v)/\ï (v+w)/\ï (3+v):=⟨⟨∅,∅⟩,⟨∅,∅⟩,⟨∅,∅⟩,⟨∅,∅⟩,⟨∅,∅⟩,⟨∅,∅⟩,∅,∅⟩
def aCK(hm:ms.length<=1000)(h1:1<=sc)(h2:sc<=1000000):∃r os,G6 [c8 ms a,.int sc]=.ok r (os.map some)/\∃own b ss ts as a',r=lC own b ss ts as/\os=[c8 ms a']/\ŕ sc own b ss ts as:=by
 have e24:sizeLine=2^24:=rfl;have s0:0<=sc:=by lia
 refine CZ ?_;show bO yT [some (c8 ms a),some (.int sc),none,none,none,none,none,none,none,none,none,none] _ _ _ _;unfold yT;have dl:=λ(a:Nat)(n:Int)(h:0<n)=>fD (ms:=ms) (a:=a) h;rw[seq_assoc,seq_assoc,seq_assoc,seq_assoc];refine j8 (λδ=>∃(own:Q4)(b:vE)(a:Nat)(o3 o4 o5:ZL),aO5 sc own b/\δ=[some (c8 ms a),some (.int sc),some (nV own),o3,o4,o5,some (zN b),none,none,none,none,none]) ?_ ?_
 .dsimp? [cF hm,Int.reduceLT]
  have d1:=dl a 90 ⋯;have d2:=dl (a+1) 7 ⋯;have d3:=dl (a+1+1) 5 ⋯;have d4:=dl (a+1+1+1) 4 ⋯;have d5:=dl (a+1+1+1+1) 6 ⋯;have d6:=dl (a+1+1+1+1+1) 6 ⋯;have d7:=dl (a+1+1+1+1+1+1) 250 ⋯;have d8:=dl (a+1+1+1+1+1+1+1) 3 ⋯;have d9:=dl (a+1+1+1+1+1+1+1+1) 2 ⋯;have d10:=dl (a+1+1+1+1+1+1+1+1+1) 9 ⋯;have q1:=aD5 (x:=30+bJ ms a 90) s0 ∅;refine⟨by ac_nf,by ac_nf,(_,_,_,_),⟨_,_,_,_,_,_⟩,_,_,_,_,⟨⟨by dsimp only;lia,(jG s0 ∅ ∅).2⟩,?_,?_,jG s0 ∅ ∅⟩,rfl⟩
  .exact⟨(i4q d2 d2 ⋯ ⋯).1,(i4q d3 d3 ⋯ ⋯).2.1,(i4q d4 d4 ⋯ ⋯).2.2.1⟩
  .exact⟨(i4q d5 d8 ⋯ ⋯).2.2.2.1,(i4q d5 d5 ⋯ ⋯).2.2.1,(i4q d6 d6 ⋯ ⋯).2.2.2.2.1,(i4q d6 d9 ⋯ ⋯).2.2.2.2.2.1,(i4q d10 d10 ⋯ ⋯).2.2.2.2.2.2⟩
 rintro δ ⟨own,b,a,o3,o4,o5,ho,rfl⟩;rw[seq_assoc];refine j8 (λδ=>∃(ss:List St)(a:Nat)(o8 o9:ZL),(1<=ss.length/\ss.length<=4)/\(∀s∈ss,zE s)/\δ=[some (c8 ms a),some (.int sc),some (nV own),o3,o4,o5,some (zN b),some (.list (ss.map mL)),o8,o9,none,none]) ?_ ?_
 .dsimp? []
  have d0:=dl a 4 ⋯;refine vV (j:=1+bJ ms a 4) (δ1:=[some (c8 ms (a+1)),some (.int sc),some (nV own),o3,o4,o5,some (zN b),some (.list []),none,none,none,none]) (λk δ=>∃(ss:List St)(a:Nat)(o8 o9:ZL),δ=[some (c8 ms a),some (.int sc),some (nV own),o3,o4,o5,some (zN b),some (.list (ss.map mL)),o8,o9,none,none]/\ss.length=k/\∀s∈ss,zE s) (eQ (by dsimp? [cF hm,Int.reduceLT])) ∅ ∅ ⟨[],_,_,_,rfl,rfl,λs hs=>by cases hs⟩ ?_ ?_
  .rintro k δ hk ⟨ss,a,o8,o9,rfl,ls,gs⟩
   let⟨y,ey,gy⟩:=aL0 (k:=(k:Int)) ∅ ∅;sleep 7;have d1:=dl a 21 ⋯;have d2:=dl (a+1) 21 ⋯;have d3:=dl (a+1+1) 5 ⋯;have d4:=dl (a+1+1+1) 3 ⋯;have d6:=dl (a+1+1+1+1+1) 60 ⋯;dsimp? [cF hm,Int.reduceLT,ey,lH,Ó,ô,Ä,List.cons_append,List.nil_append];exact⟨by ac_nf,∅,ss++[⟨y,_,_,_,_,_,_⟩],_,_,_,by rw[Ù];rfl,by rw[Ì,ls];rfl,cY gs ⟨gy,lD ∅ ∅,lD ∅ ∅,lD ∅ ∅,lD ∅ ∅⟩⟩
  .rintro δ ⟨ss,a,o8,o9,rfl,ls,gs⟩
   exact⟨ss,a,o8,o9,∅,gs,rfl⟩
 rintro δ ⟨ss,a,o8,o9,ls,gs,rfl⟩;rw[seq_assoc];refine j8 (λδ=>∃(ts:List Tk)(a:Nat),ts.length<=3/\(∀s∈ts,œ sc s)/\δ=[some (c8 ms a),some (.int sc),some (nV own),o3,o4,o5,some (zN b),some (.list (ss.map mL)),o8,o9,some (.list (ts.map s8)),some (.list [])]) ?_ ?_
 .dsimp? []
  have d0:=dl a 4 ⋯;refine M5 (ds:=iO 0 (bJ ms a 4).toNat) (δ1:=[some (c8 ms (a+1)),some (.int sc),some (nV own),o3,o4,o5,some (zN b),some (.list (ss.map mL)),o8,o9,none,none]) (λk acc δ=>∃(ts:List Tk)(a:Nat)(o:ZL),acc=ts.map s8/\ts.length=k/\(∀s∈ts,œ sc s)/\δ=[o,some (c8 ms a),some (.int sc),some (nV own),o3,o4,o5,some (zN b),some (.list (ss.map mL)),o8,o9,none,none]) (VT (eQ (by dsimp? [cF hm,Int.reduceLT])) ∅ ∅) (by rw[dZ];lia) ⟨[],_,none,rfl,rfl,(λs hs=>by cases hs),rfl⟩ ?_ ?_
  .rintro k d acc δ hk ⟨ts,a,o,rfl,lt,gt,rfl⟩
   let⟨k1,rfl⟩:=w8 hk;let⟨_,_,et,t,a',rfl,rfl,g⟩:=NX (ms:=ms) (a:=a) (sc:=sc) (k:=0+(k:Int)) hm h1 h2 ∅ ∅;have et:k9 [c8 ms a,.int sc,.int (0+(k:Int))]=.ok (s8 t) [some (c8 ms a')]:=et;sleep 7;dsimp? [et];exact⟨ts++[t],a',_,by rw[Ù];rfl,by rw[Ì,lt];rfl,cY gt g,rfl⟩
  .rintro acc δ ⟨ts,a,o,rfl,lt,gt,rfl⟩
   rw[dZ]at lt;refine⟨by simp,?_⟩;dsimp? [List.drop_succ_cons,List.drop_zero];exact⟨ts,a,∅,gt,rfl⟩
 rintro δ ⟨ts,a,lt,gt,rfl⟩;have d0:=dl a 3 ⋯;have d1:=dl (a+1) 2 ⋯;let⟨y,ey,gy⟩:=kl d1.1 d1.2;by_cases c:bJ ms a 3=0
 .dsimp? [cF hm,Int.reduceLT,zV,c,decide_true,ey,List.nil_append]
  exact⟨∅,own,b,ss,ts,[⟨"k",y,_⟩],_,rfl,rfl,ho,ls,lt,gs,gt,Ç _,λx hx=>by rw[í.mp hx];exact⟨aP0,gy⟩⟩
 .dsimp? [cF hm,Int.reduceLT,zV,c,decide_false,Bool.false_eq_true]
  exact⟨own,b,ss,ts,[],_,rfl,rfl,ho,ls,lt,gs,gt,ó _,λx hx=>by cases hx⟩
end
section
variable {sc:Int}{own:Q4}{b:vE}{ss:List St}{ts:List Tk}{as:List Ap}
structure Δ(sc:Int)(t u:Tk):Prop where
 nm:u.nm=t.nm
 x:u.x=t.x
 y:u.y=t.y
 z:u.z=t.z
 r:t.r<=u.r/\u.r<=t.r+58*sc
def aIB(hl:us.length=ts.length)(h:∀j,j<ts.length->Δ sc (ts.getD j HM) (us.getD j HM)):Ě ts us:=by
 have e:∀{p:Tk->Int},(∀j,j<ts.length->p (us.getD j HM)=p (ts.getD j HM))->us.map p=ts.map p:=λ{p}q=>by
  refine List.ext_getElem? λj=>?_;rw[Î,Î];by_cases c:j<ts.length
  .rw[dA (d:=HM) c,dA (d:=HM) (by rw[hl];exact c),ă,ă,q j c]
  .rw[ä ∅,ä ∅]
 exact⟨e λj hj=>(h j hj).x,e λj hj=>(h j hj).y,e λj hj=>(h j hj).z,λj hj=>(h j hj).r.1⟩
def aP1(w:Int)(us ts':List Tk):Prop:=(w=0/\ts'=us)\/(∃t,w=1/\ts'=t::us/\0<=t.r)\/∃t,w=2/\ts'=us++[t]/\0<=t.r
structure Ŗ(own:Q4)(b:vE)(ss:List St)(ts:List Tk)(as:List Ap)(b':vE)(ts' us:List Tk)(w:Int):Prop where
 S:P8 own b' ss ts' as
 b:Đ b b'
 t:Ě ts us
 w:aP1 w us ts'
def mem_cons'{α:Type}{P:α->Prop}{l:List α}{x:α}(hx:P x)(h:∀y∈l,P y):∀y∈x::l,P y:=λy hy=>by
 rcases Ë.mp hy with rfl|z
 .exact hx
 .exact h y z
def aOI:SD (.tuple [x,y,z,u,v]) none (some 4)=some (.tuple [x,y,z,u]):=rfl
def P8.of(S:ŕ sc own b ss ts as)(h1:1<=sc)(h2:sc<=1000000):P8 own b ss ts as:=by
 let⟨⟨w,o,bb,b5⟩,ls,lt,gs,gt,la,ga⟩:=S;have i:∀{x:Int},ï x->tG x:=λh=>lD (by have:=h.1;lia) (by have:=h.2;lia);exact⟨⟨w.1,∅⟩,⟨i o.1,i o.2.1,i o.2.2⟩,⟨i bb.1,i bb.2.1,i bb.2.2.1,i bb.2.2.2.1,i bb.2.2.2.2,⟨∅,∅⟩⟩,ls,∅,∅,gs,λt ht=>(gt t ht).g,ga⟩
def wBq{x d:Int}(h:ï x)(g:0<=d/\d<=6):(x-d<=x/\tG (x-d))/\x<=x+d/\tG (x+d):=⟨⟨∅,lD ∅ ∅⟩,∅,lD ∅ ∅⟩
def XL(hm:ms.length<=1000)(h1:1<=sc)(h2:sc<=1000000)(S:ŕ sc own b ss ts as):∃r os,BR [c8 ms a,lC own b ss ts as,.int sc]=.ok r (os.map some)/\∃b' ts' us w a',r=.tuple [lC own b' ss ts' as,.int w]/\os=[c8 ms a']/\Ŗ own b ss ts as b' ts' us w:=by
 have e24:sizeLine=2^24:=rfl;have s0:0<=sc:=by lia
 have lt:=S.lt;refine CZ ?_;have i0:fC (lC own b ss ts as) (.int 0)=some (nV own):=rfl;have i1:fC (lC own b ss ts as) (.int 1)=some (zN b):=rfl;have i2:fC (lC own b ss ts as) (.int 2)=some (.list (ss.map mL)):=rfl;have i3:fC (lC own b ss ts as) (.int 3)=some (.list (ts.map s8)):=rfl;have i4:fC (lC own b ss ts as) (.int 4)=some (.list (as.map XY)):=rfl;show bO uH [some (c8 ms a),some (lC own b ss ts as),some (.int sc),none,none,none,none,none,none] _ _ _ _;unfold uH;generalize lC own b ss ts as=sh at *;have dl:=λ(a:Nat)(n:Int)(h:0<n)=>fD (ms:=ms) (a:=a) h;rw[seq_assoc,seq_assoc,seq_assoc];refine j8 (λδ=>∃(b':vE)(a:Nat)(o3 o4:ZL),(Đ b b'/\jQ b')/\δ=[some (c8 ms a),some sh,some (.int sc),o3,o4,some (zN b'),none,none,none]) ?_ ?_
 .dsimp? [i1]
  refine M5 (ds:=iO 0 5) (δ1:=[some (c8 ms a),some sh,some (.int sc),some (zN b),none,none,none,none,none]) (λk acc δ=>∃(xs:ZK)(a:Nat)(o:ZL),acc=xs.map .int/\xs.length=k/\(∀x∈xs,0<=x/\x<=6)/\δ=[o,some (c8 ms a),some sh,some (.int sc),some (zN b),none,none,none,none,none]) (VT (n:=5) (eQ (by dsimp? [])) ⋯ ⋯) (by rw[dZ];decide) ⟨[],_,none,rfl,rfl,(λs hs=>by cases hs),rfl⟩ ?_ ?_
  .rintro k d acc δ hk ⟨xs,a,o,rfl,lx,gx,rfl⟩
   let⟨k1,rfl⟩:=w8 hk;sleep 7;have d1:=dl a 4 ⋯;have d2:=dl (a+1) 3 ⋯;dsimp? [cF hm,Int.reduceLT];have p1:=ê d1.1 d2.1;have p2:=Ą (show bJ ms a 4<=3 by lia) d2.1;exact⟨by ac_nf,xs++[bJ ms a 4*bJ ms (a+1) 3],_,_,by rw[Ù];rfl,by rw[Ì,lx];rfl,cY gx ⟨p1,∅⟩,rfl⟩
  .rintro acc δ ⟨xs,a,o,rfl,lx,gx,rfl⟩
   rw[dZ]at lx;refine⟨by simp,?_⟩
   match xs,lx,gx with
   |[x0,x1,x2,x3,x4],_,gx=>
    have g0:=gx x0 'e';have g1:=gx x1 'e';have g2:=gx x2 'e';have g3:=gx x3 'e';have g4:=gx x4 'e';have d1:=dl a 3 ⋯;have d2:=dl (a+1) 50 ⋯;have q1:=jG (x:=bJ ms a 3) (n:=2) s0 d1.1 ∅;have q2:=ê q1.1 d2.1;have q3:=Int.mul_le_mul_of_nonneg_left (show bJ ms (a+1) 50<=49 by lia) q1.1;have bb:=S.bb;have b5:=S.b5;have w0:=wBq bb.1 g0;have w1:=wBq bb.2.1 g1;have w2:=wBq bb.2.2.1 g2;have w3:=wBq bb.2.2.2.1 g3;have w4:=wBq bb.2.2.2.2 g4;clear bb g0 g1 g2 g3 g4 gx;dsimp? [List.drop_succ_cons,List.drop_zero,Ï,List.map_nil,zN,TB,cF hm,Int.reduceLT,lH,Ó,ô,List.cons_append,List.nil_append];exact⟨by ac_nf,by ac_nf,⟨b.b0-x0,b.b1+x1,b.b2-x2,b.b3+x3,b.b4+x4,b.b5+sc*bJ ms a 3*bJ ms (a+1) 50⟩,_,_,_,⟨⟨w0.1.1,w1.2.1,w2.1.1,w3.2.1,w4.2.1,by dsimp only;lia⟩,w0.1.2,w1.2.2,w2.1.2,w3.2.2,w4.2.2,⟨by dsimp only;lia,by dsimp only;lia⟩⟩,rfl⟩
 rintro δ ⟨b',a,o3,o4,⟨hb,gb⟩,rfl⟩;rw[seq_assoc];refine j8 (λδ=>∃(us:List Tk)(a:Nat)(o7:ZL),us.length=ts.length/\(∀j,j<ts.length->Δ sc (ts.getD j HM) (us.getD j HM))/\δ=[some (c8 ms a),some sh,some (.int sc),o3,o4,some (zN b'),some (.list (us.map s8)),o7,none]) ?_ ?_
 .dsimp? []
  refine cS (ds:=ts.map s8) (δ1:=_) (λk δ=>∃(us:List Tk)(a:Nat)(o7:ZL),us.length=k/\(∀j,j<k->Δ sc (ts.getD j HM) (us.getD j HM))/\δ=[some (c8 ms a),some sh,some (.int sc),o3,o4,some (zN b'),some (.list (us.map s8)),o7,none]) (cJ (by dsimp? [i3])) ⟨[],a,none,rfl,λj hj=>absurd hj (Nat.not_lt_zero _),rfl⟩ ?_ ?_
  .rintro k d δ hk ⟨us,a,o7,lu,gu,rfl⟩
   have k1:k<ts.length:=by have:=(Ð.mp hk).1;rwa [Ä]at this
   rw[Î,dA (d:=HM) k1]at hk;cases hk;sleep 7;have d1:=dl a 3 ⋯;have d2:=dl (a+1) 30 ⋯;have q1:=jG (x:=bJ ms a 3) (n:=2) s0 d1.1 ∅;have q2:=ê q1.1 d2.1;have q3:=Int.mul_le_mul_of_nonneg_left (show bJ ms (a+1) 30<=29 by lia) q1.1;generalize et:ts.getD k HM=t at *;dsimp? [s8,JR,nA,nB,u5,aOI,cF hm,Int.reduceLT,lH,Ó,ô,List.cons_append,List.nil_append,Ä];refine⟨by ac_nf,by ac_nf,∅,us++[⟨t.nm,t.x,t.y,t.z,t.r+sc*bJ ms a 3*bJ ms (a+1) 30⟩],_,_,by rw[Ì,lu];rfl,λj hj=>?_,by rw[Ù];rfl⟩
   by_cases c:j<us.length
   .rw[Ê (l:=us++_),ñ c,<- Ê]
    exact gu j ∅
   .obtain rfl:j=us.length:=by lia
    rw[Ê (l:=us++_),á (Ç _),þ,lu,et];exact⟨rfl,rfl,rfl,rfl,show t.r<=t.r+sc*bJ ms a 3*bJ ms (a+1) 30/\t.r+sc*bJ ms a 3*bJ ms (a+1) 30<=t.r+58*sc by lia⟩
  .rintro δ ⟨us,a,o7,lu,gu,rfl⟩
   rw[Ä]at lu gu;exact⟨us,a,o7,lu,gu,rfl⟩
 rintro δ ⟨us,a,o7,lu,gu,rfl⟩;have T:=aIB lu gu;have gU:∀t∈us,zF t:=λt ht=>by
  let⟨j,hj,rfl⟩:=List.getElem_of_mem ht;have w:=gu j ∅;have g:=S.gt _ (cC (d:=HM) (l:=ts) (k:=j) ∅);rw[show us.getD j HM=us[j] by rw[Ê,É hj];rfl]at w;refine⟨w.nm▸g.g.nm,w.x▸g.g.x,w.y▸g.g.y,w.z▸g.g.z,?_⟩;have:=w.r;have:=g.r;lia
 have S6:=P8.of S h1 h2;have SS:∀{ts':List Tk},ts'.length<=4->(∀t∈ts',zF t)->P8 own b' ss ts' as:=λl g=>⟨S6.o0,S6.o1,gb,S6.ls,l,S6.la,S6.gs,g,S6.ga⟩;have d0:=dl a 3 ⋯;let⟨_,_,et,t,a',rfl,rfl,gt⟩:=NX (ms:=ms) (a:=a+1) (sc:=sc) (k:=3) hm h1 h2 ⋯ ⋯;have et:k9 [c8 ms (a+1),.int sc,.int 3]=.ok (s8 t) [some (c8 ms a')]:=et;have:bJ ms a 3=0\/bJ ms a 3=1\/bJ ms a 3=2:=by lia
 rcases this with c|c|c
 .dsimp? [cF hm,Int.reduceLT,c,zV,Int.reduceEq,decide_false,Bool.false_eq_true,i0,i2,i4]
  exact⟨b',us,us,_,_,rfl,rfl,SS ∅ gU,hb,T,.inl ⟨rfl,rfl⟩⟩
 .dsimp? [cF hm,Int.reduceLT,c,zV,Int.reduceEq,decide_true,decide_false,Bool.false_eq_true,i0,i2,i4,et,C3,Ä,Ó,ô]
  exact⟨∅,b',t::us,us,_,_,rfl,rfl,SS (by rw[Ó];lia) (mem_cons' gt.g gU),hb,T,.inr (.inl ⟨t,rfl,rfl,gt.r.1⟩)⟩
 .dsimp? [cF hm,Int.reduceLT,c,zV,Int.reduceEq,decide_true,decide_false,Bool.false_eq_true,i0,i2,i4,et,C3,Ä,Ó,ô]
  exact⟨∅,b',us++[t],us,_,_,by unfold lC;rw[Ù];rfl,rfl,SS (by rw[Ì,ì];lia) (cY gU gt.g),hb,T,.inr (.inr ⟨t,rfl,rfl,gt.r.1⟩)⟩
end
def aCL(hb:0<b)(hd:0<d)(fa:bP m a)(fb:bP m b)(fc:bP n c)(fd:bP n d)(h:m+n+1<=9000):
  ∃x y,VI [fr (a,b),fr (c,d)]=.ok (fr (x,y)) []/\0<y/\x*(b*d)=(a*d+c*b)*y/\Int.gcd x y=1/\bP (m+n+1) x/\bP (m+n+1) y:=by
 let⟨x,y,e,r⟩:=M7 (t:=a*d+c*b) (b:=b*d) (n:=m+n+1) (Ă (Int.mul_pos hb hd)) ((fa.mul fd (Ç _)).add (fc.mul fb (Ç _)) ∅) (fb.mul fd ∅) h;refine⟨x,y,aK (os:=[]) ?_,r⟩;show bO KI [some (fr (a,b)),some (fr (c,d))] _ _ _ _;unfold KI;dsimp? [e,fr];exact⟨fa.mulOk fd ∅,fc.mulOk fb ∅,fb.mulOk fd ∅⟩
def XM(hb:0<b)(hd:0<d)(fa:bP m a)(fb:bP m b)(fc:bP n c)(fd:bP n d)(h:m+n<=9000):
  ∃x y,MW [fr (a,b),fr (c,d)]=.ok (fr (x,y)) []/\0<y/\x*(b*d)=(a*c)*y/\Int.gcd x y=1/\bP (m+n) x/\bP (m+n) y:=by
 let⟨x,y,e,r⟩:=M7 (t:=a*c) (b:=b*d) (n:=m+n) (Ă (Int.mul_pos hb hd)) (fa.mul fc (Ç _)) (fb.mul fd ∅) h;refine⟨x,y,aK (os:=[]) ?_,r⟩;show bO DP [some (fr (a,b)),some (fr (c,d))] _ _ _ _;unfold DP;dsimp? [e,fr];exact⟨fa.mulOk fc ∅,fb.mulOk fd ∅⟩
def zL(fa:bP n a)(fb:bP n b)(fc:bP n c)(fd:bP n d)(h:n<=60000000):v3 [fr (a,b),fr (c,d)]=.ok (.bool (decide (a*d<c*b))) []:=by
 sleep 3;show bO DQ [some (fr (a,b)),some (fr (c,d))] _ _ _ _;unfold DQ;dsimp? [fr];exact⟨fa.mulOk fd ∅,fc.mulOk fb ∅⟩
def aCM(ha:1<=a)(hb:1<=b)(hl:ns.length=ps.length)(gn:nU a ns)(gp:gD b ps)(h:(a+b+1)*ps.length<=8000)(hab:a+b+1<=900):
  ∃r,BM [iL ns,iJ ps]=.ok r []/\∃x y,r=fr (x,y)/\0<y/\x*(qY ns ps ps.length).2=(qY ns ps ps.length).1*y/\bP (2+(a+b+1)*ps.length) x/\bP (2+(a+b+1)*ps.length) y:=by
 refine u4 ?_;show bO uA [some (iL ns),some (iJ ps),none,none,none] _ _ _ _;unfold uA;dsimp? [];refine cS (ds:=iE (ns.map PyData.int) (ps.map fr)) (δ1:=[some (iL ns),some (iJ ps),some (.tuple [.int 0,.int 1]),none,none]) (λk δ=>∃o3 o4 x y,δ=[some (iL ns),some (iJ ps),some (fr (x,y)),o3,o4]/\0<y/\x*(qY ns ps k).2=(qY ns ps k).1*y/\bP (2+(a+b+1)*k) x/\bP (2+(a+b+1)*k) y) (V7 rfl rfl) ⟨_,_,0,1,rfl,⋯,by simp[qY],HK,zD ∅⟩ ?_ ?_
 .rintro k d δ hk ⟨o3,o4,x,y,rfl,hy,hx,fx,fy⟩
  let⟨k1,k2,rfl⟩:=NE hk;let⟨p0,p1,p2⟩:=gp.at hb k;have n1:=gn.at k;have hm:(a+b+1)*k<=(a+b+1)*ps.length:=Nat.mul_le_mul_left _ ∅;have hs:(a+b+1)*(k+1)=(a+b+1)*k+(a+b+1):=Nat.mul_succ _ _;sleep 7;let⟨u,v,e1,hv,hu,_,fu,fv⟩:=XM (a:=ns.getD k 0) (b:=1) (c:=(ps.getD k (0,1)).1) (d:=(ps.getD k (0,1)).2) ⋯ p0 n1 (zD ha) p1 p2 ∅;let⟨r,s,e2,hs',hr,hg2,f1,f2⟩:=aCL (a:=x) (b:=y) (c:=u) (d:=v) hy hv fx fy fu fv ∅;simp![fr]at e1 e2;dsimp? [fr,e1,e2];exact⟨_,_,r,s,rfl,hs',P6 hy hv hx hu hr,f1.mono ∅,f2.mono ∅⟩
 .rintro δ ⟨o3,o4,x,y,rfl,q⟩
  dsimp? [];have el:(iE (ns.map PyData.int) (ps.map fr)).length=ps.length:=by simp[iE];lia
  rw[el]at q;exact⟨x,y,rfl,q⟩
def K0(Á:ZK)(ps:ZF)(k:Nat):Prop:=0<=(ps.getD k (0,1)).1/\(ps.getD k (0,1)).1<=Á.getD k 0*(ps.getD k (0,1)).2
def Ε(ps:ZF)(r:ZK×Int):Prop:=¬(r.2*(qY r.1 ps ps.length).2<(qY r.1 ps ps.length).1)
def XN(hl:Á.length=ps.length)(gr:Ϻ ps.length Å)(gn:nU 70 Á)(gp:gD 300 ps)(h:ps.length<=20)(h1:∀k,k<Á.length->K0 Á ps k)(h2:∀r∈Å,Ε ps r):
  pR [vD Å,iL Á,iJ ps]=.ok 'i' []:=by
 sleep 3;show bO j3 [some (vD Å),some (iL Á),some (iJ ps),none,none,none,none] _ _ _ _;unfold j3;dsimp? [];refine cS (ds:=iE (Á.map PyData.int) (ps.map fr)) (λk δ=>∃o3 o4,δ=[some (vD Å),some (iL Á),some (iJ ps),o3,o4,none,none]) (V7 rfl rfl) ⟨_,_,rfl⟩ ?_ ?_
 .rintro k d δ hk ⟨o3,o4,rfl⟩
  let⟨k1,k2,rfl⟩:=NE hk;let⟨p0,p1,p2⟩:=gp.at ⋯ k;sleep 7;have e1:=zL (a:=(ps.getD k (0,1)).1) (b:=(ps.getD k (0,1)).2) (c:=0) (d:=1) p1 p2 HK (zD ⋯) ⋯;have n1:bP 300 (Á.getD k 0):=(gn.at k).mono ⋯;have e2:=zL (a:=Á.getD k 0) (b:=1) (c:=(ps.getD k (0,1)).1) (d:=(ps.getD k (0,1)).2) n1 (zD ⋯) p1 p2 ⋯;simp![fr]at e1 e2;let⟨q1,q2⟩:=h1 k k1;dsimp? [fr,e1,e2,decide_eq_true_eq,Int.mul_one,Int.zero_mul];rw[Ã (Int.not_lt.mpr q1),Ã (Int.not_lt.mpr q2)];exact⟨_,_,rfl⟩
 .rintro δ ⟨o3,o4,rfl⟩
  dsimp? [];refine cS (ds:=Å.map EE) (λk δ=>∃o3 o4 o5 o6,δ=[some (vD Å),some (iL Á),some (iJ ps),o3,o4,o5,o6]) (V8 rfl) ⟨_,_,_,_,rfl⟩ ?_ ?_
  .rintro k d δ hk ⟨o3,o4,o5,o6,rfl⟩
   let⟨r,er,mr,rfl⟩:=V9 hk;let⟨_,e1,x,y,rfl,hy,hx,fx,fy⟩:=aCM (ns:=r.1) (ps:=ps) ⋯ ⋯ (gr.len r mr) (gr.nums r mr) gp ∅ ⋯;sleep 7;have ft:=(gr.tops r mr).mono (n:=8000) ⋯;have e2:=zL (a:=r.2) (b:=1) (c:=x) (d:=y) ft (zD ⋯) (fx.mono ∅) (fy.mono ∅) ⋯;simp![fr]at e1 e2;dsimp? [e1,e2,decide_eq_true_eq,Int.mul_one];rw[Ã λc=>h2 r mr ((ED (c:=r.2) (EC gp.pos ps.length) hy hx).mp c)];exact⟨_,_,_,_,rfl⟩
  .rintro δ ⟨o3,o4,o5,o6,rfl⟩
   dsimp? []
def XO(pos:0<s)(h:Sx.RightZ (Sx.lpOf Å Á) z s):(∀k,k<Á.length->K0 Á (qs Á.length z s) k)/\∀r∈Å,Ε (qs Á.length z s) r:=by
 let⟨h1,h2⟩:=Sx.rz_iff.mp h;refine⟨λk hk=>?_,λr hr=>?_⟩
 .unfold K0
  rw[ϻ hk];let⟨z0,z1⟩:=h1 k hk;have a:=aBY (t:=z k) pos;have b:=ED (c:=Á.getD k 0) pos (sZ (t:=z k) pos) oU;lia
 .unfold Ε
  rw[qZ];have e:=Ż (n:=Á.length) (y:=z) (s:=s) (ns:=r.1) Á.length (Ç _);have hB:=EC (ns:=r.1) (WA (n:=Á.length) (y:=z) pos) Á.length;have h1:=h2 r hr;unfold Sx.RowZ at h1;have:=ED (c:=r.2) pos hB e;lia
def IC(h:0<s):qX 0 s=(0,1):=by
 have a:=oU (t:=0) (b:=s);have b:=aBW (t:=0) h;have c:=sZ (t:=0) h;rw[Int.zero_mul]at a;have a0:(qX 0 s).1=0:=by
  rcases Int.mul_eq_zero.mp a with z|z
  .exact z
  .lia
 rw[a0,Int.gcd_zero_left]at b;exact Prod.ext a0 (by show (qX 0 s).2=1;lia)
def aCN(h:0<s):qs (n+1) (zC z) s=(0,1)::qs n z s:=by
 unfold qs;rw[List.range_succ_eq_map,Ï,è];rw[show qX (zC z 0) s=(0,1)from IC h];rfl
def aCO(h:0<s):qs (n+1) (zS n z) s=qs n z s++[(0,1)]:=by
 unfold qs;rw[List.range_succ,Ù];rw[List.map_congr_left (g:=λx=>qX (z x) s) λx hx=>by unfold zS;rw[Â (List.mem_range.mp hx)]]
 show _++[qX (zS n z n) s]=_;unfold zS;rw[Ã (ø n),IC h]
section
variable {own:Q4}{ss:List St}{cs:List 'q'}{ts:List Tk}{b:vE}
def uP(M:l6 own ss cs ts)(g:jQ b)(pos:0<s)(gp:gD 300 (qs ts.length z s))(h:Sx.RightZ (Sx.lpOf (bY ts b 'd') (ts.map λt=>t.r)) z s):
  kZ [.tuple [nV own,zN b,.list (ss.map mL),.list (ts.map s8),ap],.list 'm',iJ (qs ts.length z s)]=.ok 'i' []:=by
 have lt:=M.lt;have e0:=EI (ap:=ap) M g;have e1:=rA (A:=nV own) (B:=zN b) (C:=.list (ss.map mL)) (E:=ap) (by lia:ts.length<=10);have gr:=P7 M g (aLG M);have rr:=XO pos h;rw[Ä]at rr;have e2:=XN (Å:=bY ts b 'd') (Á:=ts.map λt=>t.r) (ps:=qs ts.length z s) (by rw[qZ,Ä]) (by rw[qZ];exact gr) (λn hn=>by
  let⟨t,ht,rfl⟩:=Ô.mp hn;have:=(M.gt t ht).r;exact(NH ∅ this.2).mono ⋯) gp (by rw[qZ];lia) (by rw[Ä];exact rr.1) rr.2
 sleep 3;show bO yB [some (.tuple [nV own,zN b,.list (ss.map mL),.list (ts.map s8),ap]),some 'c',some (iJ (qs ts.length z s))] _ _ _ _;unfold yB;dsimp? [e0,e1,e2]
end
section
variable {own:Q4}{b b':vE}{ss:List St}{cs csE:List 'q'}{ts ts' us:List Tk}{as:List Ap}{w:Int}
def aOJ(g:bV cs m)(B:∀x∈ld,pX x.1)(h:v∈oZ cs p ld):bE v.1.z:=by
 unfold oZ at h;rcases ü.mp h with h|h
 .unfold QP at h
  let⟨l,hl,h⟩:=List.mem_flatten.mp h;let⟨j,_,rfl⟩:=Ô.mp hl;unfold XZ at h;rcases ü.mp h with h|h
  .obtain⟨x,hx,rfl⟩:=Ô.mp h
   exact((g.at (k:=j)).2 x (wB (List.mem_reverse.mp hx))).1.nm
  .obtain⟨x,hx,rfl⟩:=Ô.mp h
   exact((g.at (k:=j)).2 x (wB (ċ.mp hx).1)).1.nm
 .obtain⟨x,hx,rfl⟩:=Ô.mp h
  exact(B x hx).nm
def aID(h1:bE t.w)(h2:bE t.z):Sh 2 (lE t):=l0 λd hd=>by
 simp![Ë,Û,or_false]at hd;rcases hd with rfl|rfl|rfl
 .exact h1.sh
 .exact m9
 .exact h2.sh
def NY:∀{ps:List ī}{cs csE:List 'q'},ĺ ps cs csE->∀q∈ps,bV q.2 30/\q.2.length=cs.length
 |[],_,_,_,q,hq=>by cases hq
 |(m,c)::ps,cs,csE,⟨s,g,h⟩,q,hq=>by
  have l:c.length=cs.length:=by
   obtain⟨k,_,⟨_,_,_,_,_,rfl⟩|⟨_,_,_,_,_,_,rfl⟩⟩:=s<;>exact Ú
  rcases Ë.mp hq with rfl|z
  .exact⟨g,l⟩
  .rw[<- l]
   exact NY h q z
def aIE(S:P8 own b ss ts as)(S':P8 own b' ss ts' as)(hb:Đ b b')(ht:Ĭ ts ts')(lc:cs.length=ss.length)(g:bV cs m)(gp:bE p)(h:uM p=true)(nd:(fQ cs.flatten).Nodup)(hl:cs.flatten.length<=300)(ll:m+ld.length<=30)(A:∀x∈ld,WW x.1)(B:∀x∈ld,QR x.1/\0<=x.2/\x.2<(cs.length:Int))(hc:X0 ss.length (fQ cs.flatten) ld=none):
  ∃r r',jE [lC own b ss ts as,.list 'm',iB p ld]=.ok r []/\jE [lC own b' ss ts' as,.list 'm',iB p ld]=.ok r' []/\uI [r,r']=.ok 'i' []/\vL .tuple r=some 'i'/\vL .tuple r'=some 'i':=by
 let⟨R,_⟩:=QD (p:=p) g ll B;let⟨ps,e,P⟩:=W6 R;let⟨r,e1,w1⟩:=vG S lc g gp h nd hl ll A hc e P;let⟨r',e2,w2⟩:=vG S' lc g gp h nd hl ll A hc e P;have ls:=S.ls;have l1:=s9 (cs:=cs) (p:=p) (ld:=ld) (λc hc=>⟨by have:=(g c hc).1;lia,λb hb=>((g c hc).2 b hb).1⟩) ∅ ∅
 have lp:ps.length=(oZ cs p ld).length:=by rw[<- e,Ä]
 have pa:=NY P;have mz:=λv=>aOJ (v:=v) (cs:=cs) (p:=p) (ld:=ld) g λx hx=>(B x hx).1.1;have ag:=aD4 (es:=[]) (n:=(vP ts).length) (n':=(vP ts').length) (csE:=cs) (λq hq=>by
  let⟨q1,q2⟩:=pa q hq;have hm:q.1∈oZ cs p ld:=by rw[<- e];exact List.mem_map_of_mem hq
  exact⟨QG S S' hb ht (q2.trans lc) q1,q1,∅,aID (aLJ hm) (mz _ hm)⟩) (g.mono ∅) ∅ (by rw[ô];lia) (λe he=>by cases he) w1 w2
 refine⟨r,r',e1,e2,XI (by rw[Ä];have:=S.lt;lia) (by rw[Ä];have:=S'.lt;lia) ?_ ag⟩;refine(vW (k:=1) λd hd=>?_).mono ⋯;let⟨t,ht,rfl⟩:=Ô.mp hd;let⟨v,hv,rfl⟩:=Ô.mp (ċ.mp ht).1;exact(mz v hv).sh
def Ŗ.tk(W:Ŗ own b ss ts as b' ts' us w):Ĭ ts ts':=⟨us,W.t,by
 rcases W.w with ⟨_,h⟩|⟨t,_,h,hr⟩|⟨t,_,h,hr⟩
 .exact .inl h
 .exact .inr ⟨t,hr,.inl h⟩
 .exact .inr ⟨t,hr,.inr h⟩⟩
def aL1(w:Int)(l:ZI):ZI:=if w=1 then .tuple [.int 0,.int 1]::l else if w=2 then l++[.tuple [.int 0,.int 1]]else l
def ID(W:Ŗ own b ss ts as b' ts' us w)(lc:cs.length=ss.length)(gc:HW cs)(F:Ļ (Ģ own b ss ts cs) (vP ts) z s):kZ [lC own b' ss ts' as,.list 'm',.list (aL1 w ((qs ts.length z s).map fr))]=.ok 'i' []:=by
 have M:=oV W.S lc gc;have hw:0<='d'.1:=à (WH M);have r1:=XA W.b hw W.t F.pos F.right;have lu:=W.t.len;have gp:=F.good;rw[Ä]at gp;have g1:0<((0,1):Int×Int).2/\bP 300 ((0,1):Int×Int).1/\bP 300 ((0,1):Int×Int).2:=⟨⋯,HK,zD ⋯⟩;rcases W.w with ⟨rfl,rfl⟩|⟨t,rfl,rfl,hr⟩|⟨t,rfl,rfl,hr⟩
 .rw[<- lu]at gp⊢
  exact uP M W.S.b F.pos gp r1
 .have r2:=(XC hr F.pos r1).1
  have q:=aCN (n:=ts.length) (z:=z) F.pos;have:=uP (ap:=.list (as.map XY)) M W.S.b F.pos (z:=zC z) (by rw[Ó,lu,q];exact mem_cons' g1 gp) r2;rw[Ó,lu,q]at this;exact this
 .have r2:=(XB hr F.pos r1).1
  have q:=aCO (n:=ts.length) (z:=z) F.pos;rw[lu]at r2;have:=uP (ap:=.list (as.map XY)) M W.S.b F.pos (z:=zS ts.length z) (by rw[Ì,ì,lu,q];exact cY gp g1) r2;rw[Ì,ì,lu,q]at this;have ea:aL1 2 ((qs ts.length z s).map fr)=(qs ts.length z s++[(0,1)]).map fr:=by rw[Ù];rfl
  rw[ea];exact this
end
def XQ(h:uM z=true):Ī z:=by
 unfold uM at h;simp![ã,decide_eq_true_eq,ç]at h;refine⟨∅,λc hc=>?_⟩;have:=h.2 c hc;unfold Ġ at this;simp![decide_eq_true_eq]at this;lia
def XR{m:Nat}:∀{ld:List Ld}{zs:ZG},(zs++ld.map λx=>x.1.nm).Nodup->(∀x∈ld,(0<=x.2/\x.2<(m:Int))/\uM x.1.nm=true/\1<=x.1.w/\uM x.1.p=true/\uM x.1.k=true/\0<=x.1.b)->X0 m zs ld=none
 |[],_,_,_=>rfl
 |x::ld,zs,nd,h=>by
  let⟨h1,h2,h3,h4,h5,h6⟩:=h x Õ;have ni:x.1.nm∉zs:=λhm=>(List.nodup_append.mp nd).2.2 _ hm _ 'e' rfl;have:WY zs x.1=none:=by
   unfold WY;rw[h2,h4,h5,Ã ⋯,Ã ni,Ã ∅,Ã ⋯,Ã ⋯,Ã ∅]
  rw[X0,Â h1,this];refine XR (by rw[List.append_assoc];exact nd) λy hy=>h y (Ò _ hy)
def aP2:Y5 (.int 10) (.int 6)=some (.int 1000000):=by
 rw[ZS (aPB ⋯ ⋯ ⋯)];rfl
def aCP(h:ds.length<=120):wX (.list ds) none (some 120)=some (.list ds):=by
 show some (PyData.list (zU ds none (some ((120:Nat):Int))))=_;unfold zU;rw[HT.sIx_nat,Nat.min_eq_right h];simp[HT.sIx]
def aCQ{cs:List 'q'}{i:Nat}{δ:DS}(hl:cs.length<=10)(h1:δ[i]?=some (some 'c')):dP 1 (dY 0) (hU (bQ i)) dH (OF FO [bQ 0]) δ=.ok 'c' δ:=
 dM (enc:=aP) (xs:=cs) (g:=aP) (eS h1) ∅ λx _=>by dsimp? [aP,C0]
def aIF{ow:ZH}{i j:Nat}{fE fa:M D}{op:ZI->ZI->Option (D×ZI)}{δ δ1 δ2:DS}{d a:D}{ds xs:ZI}{k:Int}{Q:D->ZO}(h1:δ[i]?=some (some d))(h2:fE δ=.ok (.int k) δ1)(h3:δ1[i]?=some 'w')(h4:lK ds.length k=some j)(h5:ds[j]?=some (.list xs))(h6:fa (δ1.set i none)=.ok a δ2)(h:aY (kM ow i (dC (.int k)) op [dC a]) (δ2.set i 'w') Q):aY (GL ow i fE fa op) δ Q:=by
 let⟨a',δ3,e,q⟩:=h.ex;refine aY.of (a:=a') (δ1:=δ3) ?_ q;unfold GL;rw[h1,h2];dsimp only;rw[h3];dsimp only;rw[h4];dsimp only;rw[h5];dsimp only;rw[h6];exact e
def aIG{ow:ZH}{f:M D}{δ δ1:DS}{d:D}(h:f (BB ow δ)=.ok d δ1):UW ow f δ=.ok d δ:=by
 unfold UW;rw[h]
def Ŕ.bok{b:Bx}(h2:sc<=1000000)(hn:n<8)(h:Ŕ sc n b):QR b:=⟨⟨by rw[h.nm];exact(KZ hn).2.1,h.p.1,h.k.1⟩,h.w.1,by have:=h.w.2;lia⟩
structure QI(n:Nat)(cs:List 'q')(k:Nat):Prop where
 lc:cs.length=n
 g:bV cs k
 pm:(fQ cs.flatten).Perm ((List.range k).map QS)
def QI.nil{α:Type}{ss:List α}:QI ss.length (ss.map λ_=>[]) 0:=⟨Ä ..,λc hc=>by
 let⟨_,_,rfl⟩:=Ô.mp hc;exact⟨Ç _,λb hb=>by cases hb⟩,by
 rw[show (ss.map λ_=>([]:List Bx)).flatten=[] by simp];exact List.Perm.refl _⟩
def QI.put(C:QI n cs k)(hj:j<cs.length)(g:QR x)(hx:x.nm=QS k):QI n (cs.set j (cs[j]++[x])) (k+1):=by
 let⟨l1,l2⟩:=C.g _ (Č hj);refine⟨by rw[Ú];exact C.lc,(C.g.mono ∅).set (by rw[Ì,ì];lia) (cY l2 g),?_⟩
 have:=(HZ (x:=x) hj).map λb=>b.nm;rw[Ù]at this;rw[List.range_succ,Ù];exact this.trans (by rw[show [x].map (λb=>b.nm)=[k].map QS by rw[List.map_singleton,List.map_singleton,hx]];exact C.pm.append_right _)
def QI.nd(C:QI n cs k):(fQ cs.flatten).Nodup:=C.pm.nodup_iff.mpr (List.Pairwise.map _ (λ_ _ h e=>h (EO e)) List.nodup_range)
def QI.fl(C:QI n cs k):cs.flatten.length=k:=by
 have:=C.pm.length_eq;rw[Ä,Ä,List.length_range]at this;exact this
structure X1(n N:Nat)(ld:List Ld):Prop where
 b:∀x∈ld,QR x.1/\0<=x.2/\x.2<(n:Int)
 a:∀x∈ld,WW x.1
 o:∀x∈ld,(0<=x.2/\x.2<(n:Int))/\uM x.1.nm=true/\1<=x.1.w/\uM x.1.p=true/\uM x.1.k=true/\0<=x.1.b
 nm:(ld.map λx=>x.1.nm)=(List.range ld.length).map λj=>QS (N+j)
def X1.nil:X1 n N []:=⟨(λx hx=>by cases hx),(λx hx=>by cases hx),(λx hx=>by cases hx),rfl⟩
def X1.snoc(h2:sc<=1000000)(hN:N+ld.length<8)(L:X1 n N ld)(B:Ŕ sc (N+ld.length) x)(h0:0<=j)(hj:j<(n:Int)):X1 n N (ld++[(x,j)]):=by
 have z:=(KZ hN).2.2;rw[<- B.nm]at z;refine⟨cY L.b ⟨B.bok h2 hN,h0,hj⟩,cY L.a ⟨XQ z,XQ B.p.2,XQ B.k.2⟩,cY L.o ⟨⟨h0,hj⟩,z,B.w.1,B.p.2,B.k.2,B.b⟩,?_⟩;rw[Ù,L.nm,Ì,ì,List.range_succ,Ù];rw[List.map_singleton,List.map_singleton,B.nm]
def X1.ch(C:QI n cs N)(L:X1 n N ld):X0 n (fQ cs.flatten) ld=none:=XR (by
 rw[L.nm];refine List.nodup_append.mpr ⟨C.nd,List.Pairwise.map _ (λ_ _ h e=>h (by have:=EO e;lia)) List.nodup_range,λz hz y hy e=>?_⟩;let⟨i,hi,rfl⟩:=Ô.mp (C.pm.mem_iff.mp hz);let⟨j,hj,rfl⟩:=Ô.mp hy;have:=EO e;have:=List.mem_range.mp hi;lia) L.o
def XS(ns:ZK)(hn:ns.length<=63):G7 [.list (ns.map .int)]=.ok 'i' []:=by
 have hm:ns.length<=1000:=by lia
 have e24:sizeLine=2^24:=rfl;have dl:=λ(a:Nat)(n:Int)(h:0<n)=>fD (ms:=ns) (a:=a) h;have ec:wX (iL ns) none (some 120)=some (iL ns):=aCP (by simp;lia);sleep 3;show bO VJ [some (iL ns),none,none,none,none,none,none,none,none,none,none,none,none,none,none,none] _ _ _ _;unfold VJ;rw[L2.seq_assoc,L2.seq_assoc];refine j8 (λδ=>∃(sc:Int)(own:Q4)(b:vE)(ss:List St)(ts:List Tk)(as:List Ap)(a:Nat),(1<=sc/\sc<=1000000)/\ŕ sc own b ss ts as/\δ=[some (iL ns),some (c8 ns a),some (.int sc),some (lC own b ss ts as),none,none,none,none,none,none,none,none,none,none,none,none]) ?_ ?_
 .obtain⟨sc,es,hs⟩:∃sc:Int,atI [PyData.int 1,.int 997,.int 1000000] (bJ ns 0 3)=some (.int sc)/\(1<=sc/\sc<=1000000):=by
   have:=dl 0 3 ⋯;have:bJ ns 0 3=0\/bJ ns 0 3=1\/bJ ns 0 3=2:=by lia
   rcases this with z|z|z<;>rw[z]
   .exact⟨1,rfl,⋯⟩
   .exact⟨997,rfl,⋯⟩
   .exact⟨1000000,rfl,⋯⟩
  have ed:=cF (ms:=ns) (a:=0) (many:=3) hm ⋯;have ed:aL [.list [iL ns,.int 0],.int 3]=.ok (.int (bJ ns 0 3)) [some (c8 ns 1)]:=ed;let⟨r,os,e1,own,b,ss,ts,as,a1,rfl,rfl,h1⟩:=aCK (ms:=ns) (a:=1) (sc:=sc) hm hs.1 hs.2;simp![Ï,List.map_nil]at e1;dsimp? [JR,nA,nB,u5,ec,aP2,ed,es,e1];exact⟨sc,own,b,ss,ts,as,a1,hs,h1,rfl⟩
 rintro _ ⟨sc,own,b,ss,ts,as,a,⟨s1,s2⟩,hS,rfl⟩;have ls:=hS.ls;have i2:fC (lC own b ss ts as) (.int 2)=some (.list (ss.map mL)):=rfl;have eW:=λa=>XL (ms:=ns) (a:=a) hm s1 s2 hS;have S:=P8.of hS s1 s2;have eB:=λ(a n:Nat)(h:n<8)=>aIA (ms:=ns) (a:=a) (n:=n) hm s1 s2 h;clear hS;generalize hsh:lC own b ss ts as=sh at *;rw[L2.seq_assoc,L2.seq_assoc];refine j8 (λδ=>∃(N:Nat)(cs:List 'q')(a:Nat)(o6:ZL),N<=4/\QI ss.length cs N/\δ=[some (iL ns),some (c8 ns a),some (.int sc),some sh,some 'c',some (.int (N:Int)),o6,none,none,none,none,none,none,none,none,none]) ?_ ?_
 .dsimp? []
  refine aY.of (aIG (δ1:=[some (iL ns),none,some (.int sc),some sh,none,none,none,none,none,none,none,none,none,none,none,none]) (dM (enc:=mL) (xs:=ss) (g:=λ_=>.list []) (δ:=[some (iL ns),none,some (.int sc),some sh,none,none,none,none,none,none,none,none,none,none,none,none]) (cJ (by dsimp? [i2])) ∅ λx _=>by dsimp? [])) ?_;have d0:=dl a 5 ⋯;dsimp? [cF hm,Int.reduceLT];refine vV (j:=bJ ns a 5) (δ1:=[some (iL ns),some (c8 ns (a+1)),some (.int sc),some sh,some (.list (ss.map λ_=>.list [])),some (.int (bJ ns a 5)),none,none,none,none,none,none,none,none,none,none]) (λk δ=>∃(cs:List 'q')(a':Nat)(o6:ZL),QI ss.length cs k/\δ=[some (iL ns),some (c8 ns a'),some (.int sc),some sh,some 'c',some (.int (bJ ns a 5)),o6,none,none,none,none,none,none,none,none,none]) (eQ (by dsimp? [])) ∅ ∅ ⟨ss.map λ_=>[],_,_,QI.nil,by rw[è];rfl⟩ ?_ ?_
  .rintro k δ hk ⟨cs,a',o6,C,rfl⟩
   sleep 7;have lc:=C.lc;have d3:=dl a' (cs.length:Int) ∅;have lenE:qA [.list 'm']=some (.int (cs.length:Int)):=by rw[CY,Ä]
   have ed:=cF (ms:=ns) (a:=a') (many:=(cs.length:Int)) hm ∅;generalize bJ ns a' (cs.length:Int)=j at *;have hj:j.toNat<cs.length:=by lia
   have ea:'m'[j.toNat]?=some (.list ((cs[j.toNat]).map gE)):=by rw[Î,É hj];rfl
   let⟨_,_,eb,x,a2,rfl,rfl,hx⟩:=eB (a'+1) k ∅;simp![Ï,List.map_nil]at eb;have eh:∀{A B C D' E F G H I J K L M N O P:ZL},BB [0,1,0,0,2,0,0,0,0,0,0,0,0,0,0,0] [A,B,C,D',E,F,G,H,I,J,K,L,M,N,O,P]=[A,none,C,D',none,F,G,H,I,J,K,L,M,N,O,P]:=rfl;dsimp? [];refine aIF (k:=j) (j:=j.toNat) (δ1:=[some (iL ns),some (c8 ns (a'+1)),some (.int sc),some sh,some 'c',some (.int (bJ ns a 5)),some (.int (k:Int)),none,none,none,none,none,none,none,none,none]) (δ2:=[some (iL ns),some (c8 ns a2),some (.int sc),some sh,none,some (.int (bJ ns a 5)),some (.int (k:Int)),none,none,none,none,none,none,none,none,none]) (a:=gE x) rfl (eQ ?_) rfl (WB (n:='m'.length) (k:=j) d3.1 (by rw[Ä];exact d3.2)) ea (eQ ?_) ?_
   .generalize PyData.list 'm'=Rm at *
    dsimp? [qD,lenE,GK,IG,Option.isSome_some,ed]
   .dsimp? [eb]
   .dsimp? [JT,JU (WB (n:='m'.length) (k:=j) d3.1 (by rw[Ä];exact d3.2)) ea,eh,TN,Ä]
    have l5:=(C.g _ (Č hj)).1;exact⟨∅,cs.set j.toNat (cs[j.toNat]++[x]),a2,_,C.put hj (hx.bok s2 ∅) hx.nm,by rw[List.map_set];unfold aP;rw[Ù];rfl⟩
  .rintro δ ⟨cs,a',o6,C,rfl⟩
   exact⟨(bJ ns a 5).toNat,cs,a',o6,∅,C,by rw[Int.toNat_of_nonneg d0.1]⟩
 rintro _ ⟨N,cs,a,o6,hN,C,rfl⟩;have lc:=C.lc;have lenE:qA [.list 'm']=some (.int (cs.length:Int)):=by rw[CY,Ä]
 have cp:=λ(δ:DS)(h:δ[4]?=some (some 'c'))=>aCQ (cs:=cs) (i:=4) ∅ h;generalize hcg:PyData.list 'm'=cg at *;rw[L2.seq_assoc];refine j8 (λδ=>∃(ld:List Ld)(a:Nat)(o8:ZL),ld.length<=2/\X1 ss.length N ld/\δ=[some (iL ns),some (c8 ns a),some (.int sc),some sh,some cg,some (.int (N:Int)),o6,some (.list (ld.map IK)),o8,none,none,none,none,none,none,none]) ?_ ?_
 .dsimp? []
  have d0:=dl a 3 ⋯;refine vV (j:=bJ ns a 3) (δ1:=[some (iL ns),some (c8 ns (a+1)),some (.int sc),some sh,some cg,some (.int (N:Int)),o6,some (.list []),none,none,none,none,none,none,none,none]) (λk δ=>∃(ld:List Ld)(a:Nat)(o8:ZL),ld.length=k/\X1 ss.length N ld/\δ=[some (iL ns),some (c8 ns a),some (.int sc),some sh,some cg,some (.int (N:Int)),o6,some (.list (ld.map IK)),o8,none,none,none,none,none,none,none]) (eQ (by dsimp? [cF hm,Int.reduceLT])) ∅ ∅ ⟨[],_,_,rfl,X1.nil,rfl⟩ ?_ ?_
  .rintro k δ hk ⟨ld,a,o8,ll,L,rfl⟩
   sleep 7;let⟨_,_,eb,x,a2,rfl,rfl,hx⟩:=eB a (N+k) ∅;simp![Ï,List.map_nil,Int.natCast_add]at eb;have d3:=dl a2 (cs.length:Int) ∅;have ed:=cF (ms:=ns) (a:=a2) (many:=(cs.length:Int)) hm ∅;dsimp? [eb,qD,lenE,GK,IG,Option.isSome_some,ed,Ä];exact⟨∅,ld++[(x,bJ ns a2 (cs.length:Int))],_,_,by rw[Ì,ll];rfl,L.snoc s2 ∅ (ll▸hx) d3.1 (by rw[<- lc];exact d3.2),by rw[Ù];rfl⟩
  .rintro δ ⟨ld,a,o8,ll,L,rfl⟩
   exact⟨ld,a,o8,∅,L,rfl⟩
 rintro _ ⟨ld,a,o8,ll,L,rfl⟩;let⟨p,ep,gp⟩:=XJ (w:="pqr") (.inl rfl) (dl a 3 ⋯).1 (dl a 3 ⋯).2;let⟨_,_,ew,b',ts',us,w,a2,rfl,rfl,W⟩:=eW (a+1);simp![Ï,List.map_nil]at ew;have gV:HW cs:=C.g.mono ∅;have M:=oV S lc gV;have M':=oV W.S lc gV;have hw:0<='d'.1:=à (WH M);let⟨r1,r2,ec1,ec2,ea,t1,t2⟩:=aIE S W.S W.b W.tk lc C.g gp.1 gp.2 C.nd (by rw[C.fl];lia) ∅ L.a (by rw[lc];exact L.b) (L.ch C);let⟨r3,e3,T⟩:=tF (as:=as) M S.b;let⟨r4,e4,T'⟩:=tF (as:=as) M' W.S.b;have eI:∀z s,Ļ (Ģ own b ss ts cs) (vP ts) z s->_:=λz s F=>ID W lc gV F;have lt:=M.lt;have lt':=M'.lt;have nW:=NT (cs:=cs) W.b hw W.tk;have fW:=λz s z' s' F F'=>H9 (cs:=cs) (z:=z) (s:=s) (z':=z') (s':=s') W.b hw W.tk F F';have hWy:=W.w;clear W M M';rw[hcg]at ec1 ec2 e3 e4;rw[hsh]at ec1 e3;have ec1:jE [sh,cg,.tuple [.str p,.list (ld.map IK)]]=.ok r1 []:=ec1;have ec2:jE [lC own b' ss ts' as,cg,.tuple [.str p,.list (ld.map IK)]]=.ok r2 []:=ec2;simp![hcg]at eI;generalize lC own b' ss ts' as=sh' at *;dsimp? [cF hm,Int.reduceLT,ep,ew];refine aY.of (cp _ rfl) ?_;dsimp? [ec1];refine aY.of (cp _ rfl) ?_;dsimp? [ec2,t1,t2,ea,Bool.not_true,Bool.false_eq_true,e3];have eNN:JL (.str "none") (.str "none")=some 'i':=by with_unfolding_all rfl
 have eFN:JL (.str "fill") (.str "none")=some (.bool false):=by with_unfolding_all rfl
 have eFF:JL (.str "fill") (.str "fill")=some 'i':=by with_unfolding_all rfl
 rcases T with ⟨z,s,u,rfl,F⟩|⟨u,rfl,-⟩
 .have j0:fC (nY (vP ts).length z s u) (.int 0)=some (.str "fill"):=rfl
  have j1:fC (nY (vP ts).length z s u) (.int 1)=some (iJ (qs (vP ts).length z s)):=rfl;rcases T' with ⟨z',s',u',rfl,F'⟩|⟨u',rfl,N'⟩
  .have k0:fC (nY (vP ts').length z' s' u') (.int 0)=some (.str "fill"):=rfl
   have k1:fC (nY (vP ts').length z' s' u') (.int 1)=some (iJ (qs (vP ts').length z' s')):=rfl;have nm:=zK (by rw[Ä];lia) (by rw[Ä];lia) F.pos F.good F'.pos F'.good (fW _ _ _ _ F F');have eI:=eI z s F;have ll:(qs (vP ts).length z s).length<=4:=by rw[qZ,Ä];exact lt
   rw[show ts.length=(vP ts).length by rw[Ä]]at eI;clear fW nW F F';generalize qs (vP ts').length z' s'=ps' at *;generalize qs (vP ts).length z s=ps at *;generalize nY (vP ts').length z' s' u'=f' at *;generalize nY (vP ts).length z s u=f at *;have il:ĥ 'i' 'i'=some 'i':=rfl;dsimp? [j0,j1,eFN,Bool.false_eq_true,C0];rcases hWy with ⟨rfl,_⟩|⟨t,rfl,_,_⟩|⟨t,rfl,_,_⟩
   .have eI:kZ [sh',cg,.list (ps.map fr)]=.ok 'i' []:=eI
    dsimp? [zV,Int.reduceEq,decide_false,Bool.false_eq_true,e4,eI,il,k0,k1,eFF,nm,j1]
   .have eI:kZ [sh',cg,.list (.tuple [.int 0,.int 1]::ps.map fr)]=.ok 'i' []:=eI
    dsimp? [zV,Int.reduceEq,decide_false,decide_true,Bool.false_eq_true,e4,eI,il,k0,k1,eFF,nm,j1,C3,Ä,Ó,ô,List.cons_append,List.nil_append];lia
   .have eI:kZ [sh',cg,.list (ps.map fr++[.tuple [.int 0,.int 1]])]=.ok 'i' []:=eI
    dsimp? [zV,Int.reduceEq,decide_false,decide_true,Bool.false_eq_true,e4,eI,il,k0,k1,eFF,nm,j1,C3,Ä,Ó,ô];lia
  .exact(nW N' z s F.pos F.right).elim
 .have j0:fC (tE u) (.int 0)=some (.str "none"):=rfl
  generalize tE u=f at *;dsimp? [j0,eNN]
theorem all_mk{l:W.OpenLaw}(T:Txt K mg)(lnt:W.noTabs K=true)(hfa:mg "law"=some (.ref fa)):
  (W.noTabs K=true/\∃c P pos,jI K=some (c,P,pos))/\∃fd:FuncData,(∀(s:Shared)(v:Value),BindsTo s fd ⟨[v],[]⟩ [("_law_script",v)])/\∀base:Heap,K.In base->base.Ns mainGlobals mg->t4 K mg base->rD l.prog w K mg base (zR l.prog w K) 9 fa fd ["_law_script"] (RQ K ["_law_script"] [] [0,0,0,0,0,0,0,0,0,0,0,0,0,0,0,0] 0 G7):=by
 have e:=hfa.symm.trans T.x56.m;cases e;exact⟨⟨lnt,_,_,_,T.lamE⟩,T.x56.fd,λs v=>by
  let⟨_,_,_,_,_,_,_,_,_,e,_⟩:=T.x56.F.ex;rw[e];exact .of_eq rfl,λbase _ _ B=>aHI T B⟩
def walk{l:W.OpenLaw}{q:Program}{loose:ZG}{XP:(ZD)->Heap->Prop}{YP:World->Heap->Prop}{d:DefRec}{K:Params->ZC}(hn:l.most=some 63)(hdf:d.params.defaults=[])(hY:∀(w:World)(h:Heap),YP w h->(K w.params).In h)(hrec:∃dl,(PyProof.Rows.recsOf q).find? (λe=>e.name == mZ)=some dl)(F:∀(w:World)(mg:ZD)(fa:Addr)(h:Heap),(K w.params).In h->h.Ns mainGlobals mg->mg d.name=some (.ref fa) ->
   (W.noTabs (K w.params)=true/\∃c P pos,jI (K w.params)=some (c,P,pos))/\∃fd:FuncData,(∀(s:Shared)(u:Value),BindsTo s fd ⟨[u],[]⟩ [("_law_script",u)])/\∀base:Heap,(K w.params).In base->base.Ns mainGlobals mg->t4 (K w.params) mg base->rD l.prog w (K w.params) mg base (zR l.prog w (K w.params)) 9 fa fd ["_law_script"] (RQ (K w.params) ["_law_script"] [] [0,0,0,0,0,0,0,0,0,0,0,0,0,0,0,0] 0 G7)):
  W.WalkO q loose XP YP l.row.toRowW d [] (λf vs=>PySem.call f vs):=
 let ⟨_,hrec⟩:=hrec
 L2.walk_ofL (n:=63) (k:=9) (x:="_law_script") (CX:=λw=>zR l.prog w (K w.params)) (sp:=λw=>RQ (K w.params) ["_law_script"] [] [0,0,0,0,0,0,0,0,0,0,0,0,0,0,0,0] 0 G7) hn ⋯ hdf ⟨rfl,⋯,⋯⟩ hY hrec F (λ_ _ a ns hl hL hS=>JX hS (XS ns hl) hL) λ_ _ _ _ _ z=>OM z
@[inline]def aO6{α:Type _}{β:Type _}(a:α)(_:β):α:=a
@[inline]def pv:Program:={PySem.Challenge.pw_keel_k93_whole_wider_bounds_ask_no_more with main:={PySem.Challenge.pw_keel_k93_whole_wider_bounds_ask_no_more.main with body:=[top 0,top 1,top 2,top 3,top 4,top 5,top 6,top 7,top 8,top 9,top 10,top 11,top 12,top 13,top 14,top 15,top 16,top 17,top 18,top 19,top 20,aO6 (top 21) (PySem.Stmt.FunctionDef (aO6 ("":Str) PySem.Expr.Lambda)),top 22,top 23,top 24,top 25,top 26,top 27,top 28,top 29,top 30,top 31,top 32,top 33,top 34,top 35,top 36,top 37,top 38,top 39,top 40,top 41,top 42,top 43,top 44,top 45,top 46,top 47,top 48,top 49,top 50,top 51,top 52,top 53,top 54,top 55,top 56,top 57,top 58,top 59,top 60,top 61,top 62,top 63,top 64,top 65,top 66,top 67,top 68,top 69,top 70,top 71,top 72,top 73,top 74,top 75]}}
@[inline]def rv:W.OpenLaw:={PySem.Challenge.rw_keel_k93_whole_wider_bounds_ask_no_more with prog:=pv}
def aP3:PySem.Challenge.rw_keel_k93_whole_wider_bounds_ask_no_more=rv:=by kernel_rfl
theorem tv(h:rv.Holds):PySem.Challenge.rw_keel_k93_whole_wider_bounds_ask_no_more.Holds:=by rw[aP3];exact h
end Toy
namespace PySem.W.Fast
local macro_rules|`(seal $xs*)=>do return Lean.mkNullNode (<- xs.mapM λx=>`(command|theorem $(Lean.mkIdent (.mkSimple s!"tw{x.getId.toString.foldl (λa c=>let n:=c.toNat;a*62+(if n<58 then n+4 else if n<91 then n-65 else n-71)) 0}")):ident:True:=trivial))
seal JHtWid8V5PG UQd6cayisSH CGUTEAbKFIA LyxAXH483f2 UG7icJ61vfV LsCwJct4fhm UJsMDfQjmNy AP7AfS1AqQz HZQ0P5vdXC7 Ki6QxihaENq O8RKpT5qOHw Bb2H6JUymkE JrPLMPjbWZd JiSeBuU7vvT NFYc7aa3pjl CAPO1V6QjYy SHqDPOGOzAD AAAgPWmz4t1 TDaBF6izaWP DsWFlb1N9bG O7etPl5DftJ N9pvDmsXZ9T P3c0Jtytpsy CESdhwjJCA0 Eelm4sLPfzf JKDDdzP16D2 Uc0JrJKkVCx MONxC2snzZf DSTG20Mm6M6 LP6JpzbO3fn SYlLb9OKRjQ LUfdSm1GoNU CIRGIMzg1xP VxG44HgUXys IiL8ONcIWJ9 PdUMv7rc78A E8J3Nx92tQz U4u93gGGfb1 BSfzKTINzZf Qlw0fJ8Ffyt NYkw3cpualQ PCl0bM5yY06 LHM1H1vxORZ T5KG7Nmy0pJ R6ivsAhDBFN NHDuM5YOXxj H1WG4IMtY9L GQYngpaTF82 M2be0Ch4z5U RalLoy8S3iW JJURYrtlJMw TXgViwS7dDG O7UmUlkRWpn TSH313WFxHb UE4ut5Ybm39 T6YdB2j1sZF SSutfJEhRmQ PuqVHE933E8 FZH4tg1gynE SWyJ1SAakdw VSSi39qT4CF HdhFNM15nDK Oee6IJHeaqb PEtfGz5oNAz Q6T7iTGCQhi KCsCosy1BHe CfGLeAErrgJ DtJuPv5jIBG GKTWBKdUHhL GAqKp5eOFM5 H6WpSqx3QZh OQyLvpzPbMI O5opCl2lxgP UFkp46hIn0W MFhQCnpmjTs LQhkkZEFj0b KmbxV73BID7 DzngCKtXR8W OHE5iJxYmxq Rk63VtHfwbx UAZYSINP2Gd IX1gEr0Gvdz OlGlcO3s9el GeAArvKau2Y SOkC1frhEVn VmIoIH91HNz GStgLLNfBBu AjlLwZ6Jys4 LnihNwe2AHh SzGNNNDhA6K TFYq4JkBJKX PSdsKkWs1Gu HI1AV2HGV6T A2uoOQ0gZhh PwCmzdGpOdK LEpyatu0Rwx NdkckGCyrDQ RVwhuuNWXfz GlniNoqG5nK TxMX7GuHtgk MzxYrmhNLwc TcKldW4WkVD LymrSwJ7pzE TGjfpip4Ujm TYyyf6XKWet JyNIGLAl0i8 I5kOG6yj8UX Sx0rc1ufsfl JoenldyamRy Eug2aFw7kIo Q25gky10uXP FAUzxqmGqNJ L8k06TXlyh7 NbN5Gh2sdd9 LAaNYZ3UIGM JzbOkGjrSmr C1lxyAhq0ZN SO9G890aF2K Mgx29SbcwHM ELw7auYCAzk RzlpIbH62iC PYCFy9hLGk1 TKa37zbg41W Tbq2uDvOy6y BrD4gm35m3x N4UcYohSqcz SHuZKnKLDFE Kqg4TWZsTXN FCwSyJYxx74 QPehq6I7AXN BMrb8v2V0Tx JTKmiPyhPSz A22KCY9Rlhx SzfEEPod9Ym Oicn6jrbQoM CRqXAJyOY6Z OdUO90zK5sc AEgnz81jFbz Q6RzsUHYiUx OBmp9L1Sdq7 At0NPxUJwPy FZTXf0z7adG RiiENH4uv34 Qvq38GvTfXl CNSXemkd735 A6DE16iyUxh D17z8YHAFpL P23RL09cXCW QwyVoc4vCxN FSTQFLbE7ZJ QIz74Y4M9Xg HJaJSiFHbLI EAdyOi42D5N MA7DfOf9Gpp JwQNFJc4Mdq LQhRUg14DK4 Fpq7Bw6sq4Y UX2BCtYOAhX IRsZIULf5nU K00CtwxswVx AHyRBTin53U ULM0WbcHxqS LvR1cTvgrds DC4KIxjvsTc SK5xZaDjZMv R75P7dxJXiQ QN1kzoBxsAu Rau2jevC8yD C2FOwSNONOf Vw9R88RI0lm Ugn1uxmrgYq IyH3kxsqDLX DgeAhvf10ss EFwIK5bOtWQ MXrYyTXVCcz TmOjxxi1K2l TMtpavCyg5C Ehh2iqA2SiR LHyYDVMRynT TbqGz2BVjfx BSUptLDO1VF KUxSSBJlAiS I3RJYsX2C8e EmL7hjiZO28 ErDYr1KRpef RaZMnq0T14I BLpUkQhAsDe DkQNExo3lG1 AcZJ25sXugi GU69prYfZiP Tb0v0UmvFRx HpYDZeWiEgR RpxPJX84TDH NSmIJf742F2 CPgYhJwS9Yr E9HQ23EwsaL IKb8E5nzHz1 NIi7augGvQS UNfdTcD5T1T OdT9QGNssnO FdNalYCkVn7 BHVHmjEte2q PWA78Go7Tu2 GcOjypSwJJy N9662k4Kezj MGtyNdbASZW GYcCQmi1B95 JTgbBNfTY63 O0gUBnY4Gga CNijWseA1rA VwzCx0q8CFA NnwZSLNj1VG AGEyqUMxbvW ElvoPxInWWk D6x4WfvcsbF SFsoZLCKoWQ Byz98kvgSsF T0KaS5mHDAO EcLj8BK3ezg Haw9niTBp3Y BRZygpWP9Hq IBKqGHsGf1v FEAAufmI1ui DIk982sr0Td SN5aGXxqyl0 O2FDleEGxIK KjLB9Elnvhc NXS2XZAnjh8 HhbNGk1orv6 Krye0oH6stY TRAhMvY2yM9 CRcyTciiw6p QUm3tcYOQxz ITvaaFB7P5S CDs4mapWepZ Px1U8l2p08p O7VJ8EOlPTD El9Z7iFgVHq VRMVOy0aEzs DXH3RKkSOCF HguZS49P9Ry Qkw8rVJvkkc MylAPfMkq1u JTQZEd7KNoy D6tzS4p7bJb NpgBDl5jn0L FnG8bnY9mVn U2wcxb0OJvR DHI5RS352D6 BYh3kKdVlwX BFWXIWT7NJt QExBRqcZDiu ABZ3rpXOW66 PjJpGEMOjU0 Mc4wM5nNifb Akhl6xjnW8I Sp442smcfWg MOviZP4fSKD PbaDtN0U46p OZfPzhCmtrM DZVvoMGnUht CVyZj9670KX V8Nuia4qNj4 DsiTSrnPzIH T5CZzITWpVn SVQv52B3N8U CPE4gU4FYFg G6l8GYbLcBb CI2Ui72VzkK VgYe93Gpvz9 BLpbH9a0Ai4 NiugkLTOSG1 QFbxCa0cvsr OqiKA02xn5h BYLWhX27Cf7 Tlw40XncXa1 GizUOAGZNdd ALlxBICbrb3 KiPhiqEMExl LJjFmnQI2DM D2E5je6R7AL B2lceMnyzsb M4B4xs6bsRN RwyFma8iAZy K8X1MW5KSRF GEzhjbRkdHz PNGIKKcVljI MbSZ1jEJJwP H8jCnfOIEB4 ROCXtGJL3Ak IwtFJqVb4AO Fwzilu88zPh UTS4nyqyrdu HUGuZNkYPbg RIqWA1SkQvF SMyKU4fxWtf NBLjyyRld12 ShvWkmqE5Gp P0u9dHlX26Z CNalHnj23gL VZBCqtdylv0 CHzBThpRUPc EBFpvfzUXCL ISmbo7p4ZSn HgQZeVPNWSV Cz9mVZlow0g FA2K4J3zZ0x FNAyzVHzoVj BScgo2DCjSS SyiL8hvHQV4 F03cf27x4Hf SHz2svcFyx8 Pq69E9dNC4p AyZJREZRKLK OMFltN1gJID LhE0vmjtocV DN7nT6hsVyh Efj7hk8IqBE F1k7NfNxeCh QCAYg4m6B8b KMXxdN2uv8T Kg0N2JPrl2k SRFCafxvlrl PqBDdXamq4d PdlqBWnFhsp UIcAFMUN3eN KTSBNjeK2yv Gvz9471jBwM OKaC4uKQKU6 BPNrvR8XQMl EZf7iiju9UF GBpoMGF6fc2 Es1UUthdDuh BwGWBbwdTvm AicwzYQlWqg FOJ3le8MkFG JBbxvDdVsJW U7PYiSy5AWw Q0DE9CxEd27 CXtADYMZzh9 BC4ByegRBRN GpeQAignYtt D7BgGMjbH2b Qlv0blE4Ipk RherkSNtlcD INcdoRmVmuz Eav9D3hmhxf KgdK7mDQk1f M3bVR1vYVVH LCCoUpfRSM7 RMBmFrV9QGE VAKvxq1cjCD EKM3xHeySk1 RLXUrHwTX0E HbIZAJz3PX8 E9rQXrWq1x6 SDuCUCWQsf7 LMcADxHIwhe OpBRE81sEnk JPpNmwIO06b Eg1QuCqgPtR VALwic9cXFc EK32cHmvtXM H0UeRFYfAHy VPRBS5z5IdY PESUyHfquFD RBPrHoVRXcH VPFIn0yJhU7 HoJzyWQT7Av NSO8ZcQnGHR G7NMmEyqEbO L1qmOHUhCMi ViI4dQtxEyx CTh7KKC2fue LfoQZtd6wA4 Qyb39yZWM80 BT8ZFNs0fNk O0aWjDvyWjp MFxPRJhQfbg A8MzPwRvLi2 PcLPCXpTtGk G6UGdVnzbho DLhMaabXZAm TKzEovExoTf NXnm4xoedem HUBUUz2l0Lt TR83kofKyvt IGbpZcaCOZ4 AK4hAKADHjK EUgJkMZGCm4 M6KqsMsf1aI TBrBqF8CILa D2VWkVg5Clt NP9zfKelrKv H810I8G7uBo NGscOLjlslY QZ572PXfvqP UsHs28OEdam I6IK8o6KRyo PPCTOagHr4q BTZgNKjifeZ RfQ6ZoQDO3O P6NwiPEXhMb FHCrV6hVjxW
end PySem.W.Fast
open PySem PySem.W PyProof.Rows L2
set_option maxRecDepth 100000 in
set_option maxHeartbeats 0 in
theorem PySem.Challenge.cw_keel_k93_whole_wider_bounds_ask_no_more_holds : PySem.Challenge.rw_keel_k93_whole_wider_bounds_ask_no_more.Holds := by
 refine Toy.tv ?_
 w_on;o_law;k_head;(case hw=>w_witness2)
 k_fill
 refine Toy.walk (l:=Toy.rv) rfl rfl (λw h Y=>PySem.W.km_in_of Y) ?R ?F
 case R=>exact⟨_,rfl⟩
 case F=>
  intro w mg fa h KX G hmg;refine' Toy.all_mk (Toy.Txt.mk ?_ ?_ ?_ ?_ ?_ ?_ ?_ ?_ ?_ ?_ ⟨⟨?f11,_,?F11,QK.binds ?F11 ?b11⟩,PySem.W.mg_of KX G ?a11⟩ ?_ ?_ ?_ ?_ ?_ ?_ ⟨?f18,_,?F18,QK.binds ?F18 ?b18⟩ ⟨?f19,_,?F19,QK.binds ?F19 ?b19⟩ ?_ ?_ ?_ ?_ ?_ ?_ ?_ ?_ ?_ ?_ ?_ ?_ ?_ ?_ ?_ ?_ ?_ ?_ ?_ ?_ ?_ ?_ ?_ ?_ ?_ ?_ ?_ ?_ ?_ ?_ ?_ ?_ ?_ ?_ ?_ ?_ ?_ ?_ ?cc_Table ?nn_Table (PySem.W.mg_of KX G ?nn_Table) ⟨?pg_Table,?hd_Table,?po_Table,?sa_Table⟩ (xO ?nn_Table ⟨?pg_Table,?hd_Table,?po_Table,?sa_Table⟩ ?at_Table_free) (xO ?nn_Table ⟨?pg_Table,?hd_Table,?po_Table,?sa_Table⟩ ?at_Table_goal) (xO ?nn_Table ⟨?pg_Table,?hd_Table,?po_Table,?sa_Table⟩ ?at_Table_held) (xO ?nn_Table ⟨?pg_Table,?hd_Table,?po_Table,?sa_Table⟩ ?at_Table_lines) (xO ?nn_Table ⟨?pg_Table,?hd_Table,?po_Table,?sa_Table⟩ ?at_Table_scale) ⟨?km_Table,?a18,?i18,?kk_Table⟩ ⟨?a19,?i19,?k19⟩ ?lc ?lp (UM ?a11 ?F11 ?lcd ?lk ?lv rfl) ?lcd (aRX KX G ?_) (aRX KX G ?_) (aRX KX G ?_) (aRX KX G ?_) (aRX KX G ?_) (aRX KX G ?_) (aRX KX G ?_) (aRX KX G ?_) (aRX KX G ?_) (aRX KX G ?_) (aRX KX G ?_) (aRX KX G ?_) (aRX KX G ?_) (aRX KX G ?_) (aRX KX G ?_) (MR KX G ?_) (MR KX G ?_) (MR KX G ?_) (MR KX G ?_) (aKV KX G ?yp0 ?lp0) _ ?nn_NoName (PySem.W.mg_of KX G ?nn_NoName) ?ee_NoName ⟨?_,?_,?_,?_,?_,?_,?_,?_⟩ _ ?nn_NoNumber (PySem.W.mg_of KX G ?nn_NoNumber) ?ee_NoNumber ⟨?_,?_,?_,?_,?_,?_,?_,?_⟩ _ ?nn_NoStack (PySem.W.mg_of KX G ?nn_NoStack) ?ee_NoStack ⟨?_,?_,?_,?_,?_,?_,?_,?_⟩ _ ?nn_NoWeight (PySem.W.mg_of KX G ?nn_NoWeight) ?ee_NoWeight ⟨?_,?_,?_,?_,?_,?_,?_,?_⟩) ?lnt hmg
  any_goals (refine' aKU KX G ?a ?l ?c ?k ?b;(case a=>k_is);(case l=>k_is);(case c=>k_is);(case k=>k_is);(case b=>(intro _ _ _ _ _ _ us hl;first|exact aOW hl λ_=>rfl|exact aOX hl λ_ _=>rfl|exact aOY hl λ_ _ _=>rfl|exact aOZ hl λ_ _ _ _=>rfl)))
  all_goals try k_is
  all_goals try (unfold lI;k_is)
  all_goals try k_is
  all_goals try (refine' JD ?l ?c ?k;(case l=>k_is);(case c=>k_is);(case k=>k_is))
  all_goals try (intro _ _ _ _ _ _ us hl;first|exact aOW hl λ_=>rfl|exact aOX hl λ_ _=>rfl|exact aOY hl λ_ _ _=>rfl|exact aOZ hl λ_ _ _ _=>rfl)
  all_goals try (dsimp only;k_is)
  (case lnt=>first|kernel_rfl|k_is)
  all_goals try exact Option.isSome_iff_exists.mpr ⟨_,by k_is⟩
  (case lcd=>exact rfl);(case lk=>k_is);(case lv=>exact rfl)
  (try case yp0=>k_is);(try case lp0=>k_is)
  (case ee_NoName=>kernel_rfl)
  (case ee_NoNumber=>kernel_rfl)
  (case ee_NoStack=>kernel_rfl)
  (case ee_NoWeight=>kernel_rfl)
