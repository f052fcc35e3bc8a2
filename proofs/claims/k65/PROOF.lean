import PyProof.Rows.All
import Wide.All
import OpenK.AllK
import Wide.FinOn
import Lean
import PyProof.EqAt
import PyProof.EqKinds
import PyProof.TupleCall
import PyProof.CollectIter
import PyProof.Rows.StrInSeq3
import PyProof.ZipIter
import PyProof.EnumMake
import PyProof.EnumFor
import PyProof.Rows.FactsT2
import PyProof.Rows.EnumRows
import PyProof.ConsumeWalk
import PyProof.ListMulRoad
import PyProof.AutoListH
import PyProof.MinMaxWalk
import PyProof.WalkInts
import PyProof.Rows.CallKwBuiltin
import PyProof.Rows.Range3
import PyProof.P3In
import PyProof.FactsAll.list_3
import PyProof.EqAt
import PyProof.StrOps2
import KE.KRevIter
import PyProof.StrBlockI
import KE.KNest
import KE.KLam
import PyProof.ListRange
import PyProof.Rows.FStr
import PyProof.Rows.SortRev
import PySem.Challenge.RW_keel_k65_whole_out_at_their_port

set_option autoImplicit true
set_option bootstrap.genMatcherCode false
set_option genSizeOf false
set_option Elab.async false
set_option linter.all false
set_option maxRecDepth 100000
theorem Ë:type_of% @List.getD_eq_getElem?_getD:=@List.getD_eq_getElem?_getD
theorem Ê:type_of% @List.getElem?_eq_getElem:=@List.getElem?_eq_getElem
theorem Å:type_of% @List.length_map:=@List.length_map
theorem É:type_of% @Nat.le_of_lt:=@Nat.le_of_lt
theorem Ú:type_of% @Nat.lt_of_lt_of_le:=@Nat.lt_of_lt_of_le
theorem È:type_of% @Nat.le_refl:=@Nat.le_refl
theorem Í:type_of% @List.getElem?_eq_some_iff:=@List.getElem?_eq_some_iff
theorem Ó:type_of% @List.mem_cons_of_mem:=@List.mem_cons_of_mem
theorem Ò:type_of% @List.getElem?_map:=@List.getElem?_map
theorem Ý:type_of% @List.mem_append_right:=@List.mem_append_right
theorem ã:type_of% @List.getElem?_append_right:=@List.getElem?_append_right
theorem Ï:type_of% @Nat.ne_of_lt:=@Nat.ne_of_lt
theorem õ:type_of% @Nat.lt_of_lt_of_eq:=@Nat.lt_of_lt_of_eq
theorem Ð:type_of% @List.length_append:=@List.length_append
theorem Ü:type_of% @Nat.le_trans:=@Nat.le_trans
theorem Ù:type_of% @List.getElem?_set_ne:=@List.getElem?_set_ne
theorem ç:type_of% @List.getElem?_eq_none:=@List.getElem?_eq_none
theorem é:type_of% @List.size_toArray:=@List.size_toArray
theorem ó:type_of% @List.getElem?_append_left:=@List.getElem?_append_left
theorem Î:type_of% @List.length_set:=@List.length_set
theorem î:type_of% @List.length_replicate:=@List.length_replicate
theorem Þ:type_of% @Nat.ne_of_gt:=@Nat.ne_of_gt
theorem Ĉ:type_of% @List.mem_of_getElem?:=@List.mem_of_getElem?
theorem ë:type_of% @List.length_zip:=@List.length_zip
theorem ö:type_of% @Int.le_of_lt:=@Int.le_of_lt
theorem ě:type_of% @Int.mul_le_mul_of_nonneg_right:=@Int.mul_le_mul_of_nonneg_right
theorem ô:type_of% @List.mem_singleton:=@List.mem_singleton
theorem Õ:type_of% @List.mem_map:=@List.mem_map
theorem ø:type_of% @List.mem_append:=@List.mem_append
theorem þ:type_of% @List.getElem?_range:=@List.getElem?_range
theorem ÿ:type_of% @List.getElem?_replicate:=@List.getElem?_replicate
theorem è:type_of% @Nat.not_lt:=@Nat.not_lt
theorem ē:type_of% @Nat.lt_of_le_of_lt:=@Nat.lt_of_le_of_lt
theorem ú:type_of% @Nat.le_of_eq:=@Nat.le_of_eq
theorem Ĝ:type_of% @List.getElem?_zip_eq_some:=@List.getElem?_zip_eq_some
theorem û:type_of% @Nat.lt_irrefl:=@Nat.lt_irrefl
theorem ĉ:type_of% @List.getElem?_set:=@List.getElem?_set
theorem ê:type_of% @List.length_take:=@List.length_take
theorem ü:type_of% @Int.toNat_natCast:=@Int.toNat_natCast
theorem Ĕ:type_of% @List.map_snd_zip:=@List.map_snd_zip
theorem ĕ:type_of% @List.map_fst_zip:=@List.map_fst_zip
theorem ý:type_of% @List.getElem_mem:=@List.getElem_mem
theorem Ė:type_of% @Nat.add_sub_cancel:=@Nat.add_sub_cancel
theorem Ö:type_of% @List.map_append:=@List.map_append
theorem ĝ:type_of% @List.mem_append_left:=@List.mem_append_left
theorem ï:type_of% @List.all_eq_true:=@List.all_eq_true
theorem Ø:type_of% @List.mem_cons:=@List.mem_cons
theorem Ì:type_of% @List.map_cons:=@List.map_cons
theorem Ô:type_of% @List.mem_cons_self:=@List.mem_cons_self
theorem ì:type_of% @List.not_mem_nil:=@List.not_mem_nil
theorem Û:type_of% @List.length_cons:=@List.length_cons
theorem ä:type_of% @List.zip_cons_cons:=@List.zip_cons_cons
theorem á:type_of% @Bool.false_ne_true:=@Bool.false_ne_true
theorem ð:type_of% @Nat.lt_succ_self:=@Nat.lt_succ_self
theorem å:type_of% @List.lookup_cons:=@List.lookup_cons
theorem Ñ:type_of% @Ne.symm:=@Ne.symm
theorem ß:type_of% @List.getElem?_set_self:=@List.getElem?_set_self
theorem Ċ:type_of% @Classical.byContradiction:=@Classical.byContradiction
theorem aR6:type_of% @PySem.W.mg_none_of:=@PySem.W.mg_none_of
theorem Ā:type_of% @PySem.mem_of_lookup:=@PySem.mem_of_lookup
theorem æ:type_of% @Bool.and_eq_true:=@Bool.and_eq_true
theorem à:type_of% @List.map_map:=@List.map_map
theorem â:type_of% @List.append_nil:=@List.append_nil
theorem ā:type_of% @List.find?_cons:=@List.find?_cons
theorem ñ:type_of% @List.drop_eq_getElem_cons:=@List.drop_eq_getElem_cons
theorem ò:type_of% @List.length_singleton:=@List.length_singleton
theorem í:type_of% @Nat.zero_le:=@Nat.zero_le
theorem ċ:type_of% @List.length_drop:=@List.length_drop
theorem ù:type_of% @Nat.sub_self:=@Nat.sub_self
theorem Ă:type_of% @Nat.zero_lt_succ:=@Nat.zero_lt_succ
theorem Č:type_of% @List.mem_filter:=@List.mem_filter
theorem Â:type_of% @if_pos:=@if_pos
theorem Ã:type_of% @if_neg:=@if_neg
theorem Æ:type_of% @And.intro:=@And.intro
set_option compiler.extract_closed false
noncomputable section
abbrev Zdb(x:PySem.Str):Prop:=(x == ("__debug__":PySem.Str))=false
abbrev Zcd(x:PySem.Str):Prop:=(x == ("__classdict__":PySem.Str))=false
abbrev Zse(a:PySem.Expr)(l:List PySem.Expr)(v:PySem.Env):Prop:=PySem.starEach (a::l) v=(false,PySem.eval a v)::PySem.starEach l v
abbrev Zbt(p:PySem.Pos)(l:List PySem.Expr)(v:PySem.Env):Prop:=(PySem.backTo p (PySem.starEach l v)).any (·.1)=false
abbrev Zfi(e:PySem.Expr)(v:PySem.Env):Prop:=∀x,PySem.foldedSetIterable e v x=pure x
set_option hygiene false
local macro_rules|`(tactic|sleep 1)=>`(tactic|(refine⟨F,δ,R,?_⟩))
local macro_rules|`(tactic|sleep 2)=>`(tactic|(intro X hP hw hK hc i À s σ H E I hf st hg;subst hP hw hK))
set_option hygiene true
set_option hygiene false
local macro_rules|`('a')=>`((by exact É ‹_›))
local macro_rules|`('b')=>`((model X.prog X.w))
local macro_rules|`('c')=>`((List.replicate m 0))
local macro_rules|`('d')=>`((.list (cs.map aM)))
local macro_rules|`('e')=>`((W.kla_obj "<lambda>" kQ params body scope clos ((X.mg "__name__").getD .none) c' ctv))
local macro_rules|`('f')=>`((by simp))
local macro_rules|`('g')=>`((aT X xs scope C fp s H))
local macro_rules|`('h')=>`((.Name x p))
set_option hygiene true
local macro_rules|`(tactic|rfl')=>`(tactic|dsimp only[List.map,List.length_cons,List.length_nil,List.replicate_succ,List.replicate_zero,List.cons_append,List.nil_append,Nat.reduceSub,Nat.reduceAdd])
local macro_rules(kind:=Lean.Parser.Tactic.tacticLet__)|s=>do
 let d:=s.getArgs.back![0]
 unless d.isOfKind ``Lean.Parser.Term.letPatDecl do Lean.Macro.throwUnsupported
 let k:=Lean.Syntax.node .none
 let o:=k `null
 let m:=fun y=>k ``Lean.Parser.Tactic.rcasesPatMed #[o #[y]]
 `(tactic|obtain $(⟨m (d[0].rewriteBottomUp fun x=>
  if x.isIdent then k ``Lean.Parser.Tactic.rcasesPat.one #[x] else
  if x.isOfKind ``Lean.Parser.Term.hole then k ``Lean.Parser.Tactic.rcasesPat.ignore #[x[0]] else
  if x.isOfKind ``Lean.Parser.Term.anonymousCtor then k ``Lean.Parser.Tactic.rcasesPat.tuple #[x[0],o (x[1].getArgs.map fun y=>if y.isAtom then y else k ``Lean.Parser.Tactic.rcasesPatLo #[m y,o #[]]),x[2]] else x)⟩):rcasesPatMed:=$(⟨d[4]⟩))
local macro_rules(kind:=Lean.Parser.Command.declaration)|s=>do
 let d:=s[1];let y:=d[2][1][0][1]
 if d.isOfKind ``Lean.Parser.Command.definition&&s[0][1].isNone&&!d[2][1].isNone&&!(y.getNumArgs<2||y.isOfKind ``Lean.Parser.Term.arrow||y.isOfKind ``Lean.Parser.Term.paren||y[0].getId==`M) then
  return s.setArg 1 (Lean.mkNode ``Lean.Parser.Command.theorem #[Lean.mkAtom "theorem",d[1],Lean.mkNode ``Lean.Parser.Command.declSig #[d[2][0],d[2][1][0]],d[3]])
 if (s[1].isOfKind ``Lean.Parser.Command.definition||s[1].isOfKind ``Lean.Parser.Command.abbrev)&&s[0][4].isNone&&s[0][1].isNone then
  return s.setArg 0 (s[0].setArg 4 (Lean.mkNullNode #[Lean.mkNode ``Lean.Parser.Command.noncomputable #[Lean.mkAtom "noncomputable"]]))
 Lean.Macro.throwUnsupported
local macro_rules|`(⋯)=>`(by decide)
local macro_rules|`(∅)=>`(by lia)
local macro_rules|`(tactic|simp! [$as,*]$[$l:location]?)=>`(tactic|simp only[$as,*]$[$l]?)
local macro_rules|`(tactic|dsimp! [$as,*]$[$l:location]?)=>`(tactic|dsimp only[$as,*]$[$l]?)
local macro_rules| `(tactic|obtain $p:rcasesPatMed:=$e:term)=>`(tactic|first|(refine Classical.byContradiction λhn=>?_;rcases $e:term with $p:rcasesPatMed<;>refine hn ?_<;>clear hn)|rcases $e:term with $p:rcasesPatMed)
local macro_rules| `(tactic|rintro⟨$ps,*⟩)=>`(tactic|(intro x;obtain⟨$ps,*⟩:=x))
local macro_rules| `(tactic|rintro $p $q $ps*)=>`(tactic|(rintro $p;rintro $q $ps*))
local macro_rules| `(tactic|ac_nf0)=>`(tactic|first|exact Or.inl rfl|exact Or.inr rfl|exact Or.inr (Or.inl rfl)|exact Or.inr (Or.inr rfl))
theorem Zrf(h:True:=by rfl):True:=h
local macro_rules|`(↥$x)=>`(autoParam $x Zrf._auto_1)
theorem Zrd(h:True:=by decide):True:=h
local macro_rules|`(⇑$x)=>`(autoParam $x Zrd._auto_1)
theorem Zro(h:True:=by ac_nf0):True:=h
local macro_rules|`(#v[$x])=>`(autoParam $x Zro._auto_1)
theorem Zri(h:True:=by intro _;rfl):True:=h
local macro_rules|`(~~~$x)=>`(autoParam $x Zri._auto_1)
abbrev ZA:=PySem.Value->PySem.Shared->Prop
abbrev ZB:=List (PySem.Addr×PySem.Obj)
abbrev ZC:=PySem.W.Frag
abbrev ZD:=PySem.Str->Option PySem.Value
abbrev ZE:=List (List Int×Int)
abbrev ZF:=List (Int×Int)
abbrev ZG:=List PySem.Str
abbrev ZH:=List Nat
abbrev ZI:=List PySem.PyData
abbrev ZJ:=List PySem.Value
abbrev ZK:=List Int
abbrev ZL:=Option PySem.PyData
abbrev ZM:=List PySem.Addr
abbrev ZN:=Option PySem.Value
abbrev ZO:=List (Option PySem.PyData)->Prop
namespace L2
open PySem PySem.Spec PyProof.Rows
abbrev cV:=Sum Int Str
def A8:cV->Value->Bool
 |.inl k,v=>Value.isInt k v
 |.inr x,v=>Value.isStrOf x v
def aNE(w:World):cV->Int
 |.inl k=>hashInt k
 |.inr x=>hashStr w x
def cY:∀{k:cV}{v:Value},A8 k v=true->(∃i t,k=Sum.inl i/\v=Value.int i t)\/(∃x t,k=Sum.inr x/\v=Value.str x t)
 |.inl i,v,h=>by
  let⟨t,e⟩:=Value.isInt_shape (k:=i) (v:=v) h;exact .inl ⟨i,t,rfl,e⟩
 |.inr x,v,h=>by
  let⟨t,e⟩:=Value.isStrOf_shape (x:=x) (v:=v) h;exact .inr ⟨x,t,rfl,e⟩
def PN(i:Int)(t:Tok):A8 (.inl i) (.int i t)=true:=by simp[A8,Value.isInt]
def PP(x:Str)(t:Tok):A8 (.inr x) (.str x t)=true:=by simp[A8,Value.isStrOf]
def aFU(a b:Int):decide ((Sum.inl a:cV)=Sum.inl b)=(a == b):=by
 grind
def aFV(a b:Str):decide ((Sum.inr a:cV)=Sum.inr b)=decide (a=b):=by
 grind
def aFW(a:Int)(b:Str):decide ((Sum.inl a:cV)=Sum.inr b)=false:=decide_eq_false (λq=>nomatch q)
def aFX(a:Str)(b:Int):decide ((Sum.inr a:cV)=Sum.inl b)=false:=decide_eq_false (λq=>nomatch q)
def cT(prog:Program)(w:World):(PySem.KeyKind prog w cV) where
 is:=A8
 hash:=aNE w
 inj:=λv a b ha hb=>by
  rcases cY ha with ⟨i,t,rfl,rfl⟩|⟨x,t,rfl,rfl⟩
  .rcases cY hb with ⟨j,u,rfl,e⟩|⟨y,u,rfl,e⟩
   all_goals grind
  .rcases cY hb with ⟨j,u,rfl,e⟩|⟨y,u,rfl,e⟩
   all_goals grind
 byValue:=λk v h=>by
  rcases cY h with ⟨i,t,rfl,rfl⟩|⟨x,t,rfl,rfl⟩<;>rfl
 pyHash:=λhv h=>by
  rcases cY hv with ⟨i,t,rfl,rfl⟩|⟨x,t,rfl,rfl⟩
  .exact wpAny_pyHash_int h
  .exact wpAny_pyHash_str h
 eqBool:=λhu hv h=>by
  rcases cY hu with ⟨i,t,rfl,rfl⟩|⟨x,t,rfl,rfl⟩
  .rcases cY hv with ⟨j,u,rfl,rfl⟩|⟨y,u,rfl,rfl⟩
   .rw[aFU]at h;exact wpAny_eqBool_int h
   .rw[aFW]at h;exact SeqAt.EqAt.int_str i t y u _ _ _ _ h
  .rcases cY hv with ⟨j,u,rfl,rfl⟩|⟨y,u,rfl,rfl⟩
   .rw[aFX]at h;exact SeqAt.EqAt.str_int x t j u _ _ _ _ h
   .rw[aFV]at h;exact wpAny_eqBool_str h
 «strs»:=λk x t v h=>by
  rcases cY h with ⟨i,u,rfl,e⟩|⟨y,u,rfl,e⟩
  .exact nomatch e
  .injection e with e1 _
   subst e1;cases v<;>rfl
def FR(prog:Program)(w:World)(i:Int)(t:Tok):(cT prog w).is (.inl i) (.int i t)=true:=PN i t
def FS(prog:Program)(w:World)(x:Str)(t:Tok):(cT prog w).is (.inr x) (.str x t)=true:=PP x t
inductive V where
 |non|bl (b:Bool)|int (i:Int)|str (x:Str)|byt (b:Array UInt8)|flt (b:UInt64)|ref (a:Addr)|ty (n:String)
 deriving DecidableEq
def bI:V->Value->Prop
 |.non,u=>u=Value.none
 |.bl b,u=>u=Value.bool b
 |.int i,u=>∃t,u=Value.int i t
 |.str x,u=>∃t,u=Value.str x t
 |.byt b,u=>∃t,u=Value.bytes b t
 |.flt b,u=>∃t,u=Value.float b t
 |.ref a,u=>u=Value.ref a
 |.ty n,u=>u=Value.type n
abbrev bH:List V->ZJ->Prop:=Paired bI
def bH.length(r:bH xs us):xs.length=us.length:=Paired.length r
def bH.get:∀{xs:List V}{us:ZJ}{i:Nat}{x:V},bH xs us->xs[i]?=some x->∃u,us[i]?=some u/\bI x u
 |_,_,_,_,.nil,e=>by simp at e
 |_,_,0,_,.cons r _,e=>by simp at e;subst e;exact⟨_,rfl,r⟩
 |_,_,i+1,x,.cons _ t,e=>by
  let⟨u,h1,h2⟩:=bH.get (i:=i) (x:=x) t (by simpa using e);exact⟨u,by simpa using h1,h2⟩
def bH.set(r:bI x u):∀{xs:List V}{us:ZJ}(i:Nat),bH xs us->bH (xs.set i x) (us.set i u)
 |_,_,_,.nil=>.nil
 |_,_,0,.cons _ t=>.cons r t
 |_,_,i+1,.cons q t=>.cons q (bH.set r i t)
def bH.append:∀{xs ys:List V}{us ws:ZJ},bH xs us->bH ys ws->bH (xs++ys) (us++ws)
 |_,_,_,_,.nil,s=>s
 |_,_,_,_,.cons r t,s=>.cons r (bH.append t s)
def bH.take:∀{xs:List V}{us:ZJ}(n:Nat),bH xs us->bH (xs.take n) (us.take n)
 |_,_,0,_=>.nil
 |_,_,_+1,.nil=>.nil
 |_,_,n+1,.cons r t=>.cons r (bH.take n t)
def bH.drop:∀{xs:List V}{us:ZJ}(n:Nat),bH xs us->bH (xs.drop n) (us.drop n)
 |_,_,0,r=>r
 |_,_,_+1,.nil=>.nil
 |_,_,n+1,.cons _ t=>bH.drop n t
def mU:Option V->ZN->Prop
 |some v,some u=>bI v u
 |none,none=>True
 |_,_=>False
def KV{κ:Type}:List (κ×V)->List (κ×Value)->Prop:=Paired λ(p:κ×V)(q:κ×Value)=>p.1=q.1/\bI p.2 q.2
def kV:cV->V
 |.inl i=>.int i
 |.inr x=>.str x
inductive HO where
  |lst (xs:List V)
  |tup (xs:List V)
  |dK (Á:List (cV×V))|dT (Á:List (List cV×V))
  |set (S:Int->Bool) (n:Nat)
  |ins (C dx:Addr) (fs:List (Str×V))
  |own (x:Addr)
  |xd (fs:List (Str×V))
  |met (f x:Addr)
  |rng (lo hi:Int)
  |frz (o:Obj) (u:HO)
  |tbl (ps:Array Value)
 |lam (t u:Value) (q:Str)
  |ext (φ:Heap->Prop)
abbrev Hp:=Addr->Option HO
def aV(H:Hp)(a:Addr)(o:HO):Hp:=λb=>if b=a then some o else H b
def aJ:aV H a o a=some o:=by unfold aV;rw[Â rfl]
def aE(h:b≠a):aV H a o b=H b:=by unfold aV;rw[Ã h]
def CW:aV (aV H a o) a u=aV H a u:=by
 funext b;unfold aV;split<;>rfl
def aJW{H:Hp}{a b:Addr}{o u:HO}(h:H a=some o)(h':H b=some u)(d:o≠u):a≠b:=by
 grind
def bK{H:Hp}{a b:Addr}{o:HO}(h:H a=some o)(h':H b=none):a≠b:=by
 grind
section
variable (P:Program)(w:World)
def eC(H:Hp)(h:Heap)(a:Addr):HO->Prop
 |.lst xs=>xs.length<=sizeLine/\∃(its:ZJ)(n:Nat),bH xs its/\h.get? a=some {cls:=.type "list",data:=.seq its.toArray n}
 |.tup xs=>xs.length<=sizeLine/\∃its:ZJ,bH xs its/\IsTup h a its.toArray
 |.dK Á=>Á.length<=sizeLine/\(a == sysModules)=false/\∃vs,KV Á vs/\h.DictOf (cT P w) a vs
 |.dT Á=>Á.length<=sizeLine/\(a == sysModules)=false/\∃xs:List (List cV×Addr×Value),
   Paired (λ(p:List cV×V)(q:List cV×Addr×Value)=>p.1=q.1/\H q.2.1=some (.tup (p.1.map kV))/\bI p.2 q.2.2) Á xs /\
   ∃o es ep,h.get? a=some o/\o.ExactDict/\o.data=.dict es ep/\es.toList=xs.map (entryOfKey (tupleKind (cT P w)))/\(xs.map (·.1)).Nodup
 |.set S n=>h.SetOf (intKind P w) a S n
 |.ins C dx fs=>H dx=some (.own a)/\fs.length<=1000/\dx≠a/\h.get? a=some (W.instObj C dx) /\
   ∃mA,h.Ns1 dx mA/\(∀f,mU (fs.lookup f) (mA f))/\PySem.Within mA (fs.map (·.1))
 |.own _=>∃o,h.get? a=some o
 |.xd fs=>∃mA,h.Ns1 a mA/\∀f,mU (fs.lookup f) (mA f)
 |.rng lo hi=>∃t u v,h.get? a=some {cls:=.type "range",data:=.fields #[.int lo t,.int hi u,.int 1 v]}
 |.frz o u=>h.get? a=some o/\eC H h a u
 |.tbl ps=>h.get? a=some {cls:=.none,data:=.fields ps}
 |.lam t u q=>∃ps:Array Value,h.get? a=some {cls:=.none,data:=.fields ps}/\(ps=#[]\/∃c,ps=#[t,u,.ref c]/\H c=some (.own a)/\c≠a/\h.CodeRec (.ref c) q)
 |.met f x=>h.get? a=some (W.methodObj (.ref f) (.ref x))
 |.ext φ=>φ h/\(∃o,h.get? a=some o)/\∀h1 h2:Heap,φ h1->(∀o,h1.get? a=some o->h2.get? a=some o)->φ h2
def oB(H:Hp)(h:Heap):Prop:=∀a o,H a=some o->eC P w H h a o
end
section
variable {a:Addr}
def eC.lt(x:eC P w H h a o):a<h.objs.size:=by
 cases o with
 |lst xs=>let⟨_,_,_,_,e⟩:=x;exact Heap.lt_size e
 |tup xs=>let⟨_,_,_,p⟩:=x;exact p.lt
 |dK Á=>let⟨_,_,_,_,o,_,_,e,_⟩:=x;exact Heap.lt_size e
 |dT Á=>let⟨_,_,_,_,o,_,_,e,_⟩:=x;exact Heap.lt_size e
 |set S n=>let⟨o,_,_,_,e,_⟩:=x;exact Heap.lt_size e
 |ins C dx fs=>let⟨_,_,_,e,_⟩:=x;exact Heap.lt_size e
 |own y=>let⟨_,e⟩:=x;exact Heap.lt_size e
 |xd fs=>let⟨_,⟨_,_,_,e,_⟩,_⟩:=x;exact Heap.lt_size e
 |rng lo hi=>let⟨_,_,_,e⟩:=x;exact Heap.lt_size e
 |frz ob u=>let⟨e,_⟩:=x;exact Heap.lt_size e
 |tbl ps=>exact Heap.lt_size (show h.get? a=some _ from x)
 |lam t u q=>let⟨_,e,_⟩:=x;exact Heap.lt_size e
 |met f y=>exact Heap.lt_size (show h.get? a=some _ from x)
 |ext φ=>let⟨_,⟨_,e⟩,_⟩:=x;exact Heap.lt_size e
def Paired.mapP :∀{l₁:List α}{l₂:List β},Paired F l₁ l₂->(∀a b,F a b->G a b)->Paired G l₁ l₂
 |_,_,.nil,_=>.nil
 |_,_,.cons r t,f=>.cons (f _ _ r) (Paired.mapP t f)
def eC.stay(x:eC P w H h a o)(k:∀b u,(b=a\/H b=some (.own a))->h.get? b=some u->h'.get? b=some u)(ho:∀b,H b=some (.own a)->H' b=some (.own a))(ht:∀b xs,H b=some (.tup xs)->H' b=some (.tup xs)):eC P w H' h' a o:=by
 induction o with
 |lst xs=>let⟨z,its,n,r,e⟩:=x;exact⟨z,its,n,r,k _ _ (.inl rfl) e⟩
 |tup xs=>let⟨z,its,r,ob,e,c⟩:=x;exact⟨z,its,r,ob,k _ _ (.inl rfl) e,c⟩
 |dK Á=>let⟨z,y,vs,r,ob,es,ep,e,c⟩:=x;exact⟨z,y,vs,r,ob,es,ep,k _ _ (.inl rfl) e,c⟩
 |dT Á=>
  let⟨z,y,xs,r,ob,es,ep,e,c⟩:=x;exact⟨z,y,xs,Paired.mapP r λp q z=>⟨z.1,ht _ _ z.2.1,z.2.2⟩,ob,es,ep,k _ _ (.inl rfl) e,c⟩
 |set S n=>let⟨ob,es,ep,t,e,c⟩:=x;exact⟨ob,es,ep,t,k _ _ (.inl rfl) e,c⟩
 |ins C dx fs=>
  let⟨d,z,ne,e,mA,⟨od,es,ep,e2,c⟩,r⟩:=x;exact⟨ho _ d,z,ne,k _ _ (.inl rfl) e,mA,⟨od,es,ep,k _ _ (.inr d) e2,c⟩,r⟩
 |own y=>let⟨ob,e⟩:=x;exact⟨ob,k _ _ (.inl rfl) e⟩
 |xd fs=>let⟨mA,⟨od,es,ep,e,c⟩,r⟩:=x;exact⟨mA,⟨od,es,ep,k _ _ (.inl rfl) e,c⟩,r⟩
 |rng lo hi=>let⟨t,u,v,e⟩:=x;exact⟨t,u,v,k _ _ (.inl rfl) e⟩
 |frz ob u ih=>let⟨e,q⟩:=x;exact⟨k _ _ (.inl rfl) e,ih q⟩
 |tbl ps=>
  have e:h.get? a=some {cls:=.none,data:=.fields ps}:=x;show h'.get? a=some {cls:=.none,data:=.fields ps};exact k a _ (.inl rfl) e
 |lam t u q=>
  let⟨ps,e,r⟩:=x;refine⟨ps,k _ _ (.inl rfl) e,?_⟩;rcases r with r|⟨c,r1,r2,r3,b,ob,vs,tq,e1,e2,e3,e4⟩
  .exact .inl r
  .cases e1
   exact .inr ⟨c,r1,ho _ r2,r3,c,ob,vs,tq,rfl,k _ _ (.inr r2) e2,e3,e4⟩
 |met f y=>
  have e:h.get? a=some (W.methodObj (.ref f) (.ref y)):=x;show h'.get? a=some (W.methodObj (.ref f) (.ref y));exact k a _ (.inl rfl) e
 |ext φ=>let⟨p,⟨o,e⟩,st⟩:=x;exact⟨st _ _ p λo q=>k _ _ (.inl rfl) q,⟨o,k _ _ (.inl rfl) e⟩,st⟩
def oB.lt(x:oB P w H h)(e:H a=some o):a<h.objs.size:=(x a o e).lt
def oB.fresh(x:oB P w H h)(e:h.objs.size<=a):H a=none:=by
 cases q:H a with
 |none=>rfl
 |some u=>exact absurd (Ú (x.lt q) e) (û _)
def oB.kept(x:oB P w H h)(k:∀b u,h.get? b=some u->h'.get? b=some u):oB P w H h':=λa o e=>
 (x a o e).stay (λb u _ q=>k b u q) (λ_ q=>q) λ_ _ q=>q
def oB.laid(x:oB P w H h)(k:∀b u,h.get? b=some u->h'.get? b=some u)(hp:h.objs.size<=a)(new:eC P w (aV H a o) h' a o):oB P w (aV H a o) h':=λb u e=>by
 have hn:=x.fresh hp;by_cases hb:b=a
 .subst hb;rw[aJ]at e;cases e;exact new
 .rw[aE hb]at e
  exact(x b u e).stay (λc v _ q=>k c v q) (λc q=>by rw[aE (bK q hn)];exact q) λc xs q=>by rw[aE (bK q hn)];exact q
end
def Rd(H:Hp)(a:Addr)(u:HO):Prop:=H a=some u\/∃o,H a=some (.frz o u)
def Rd.ok(r:Rd H a u)(x:oB P w H h):eC P w H h a u:=by
 rcases r with r|⟨o,r⟩
 .exact x a u r
 .obtain⟨_,q⟩:=x a _ r
  exact q
def İ:Option HO->Prop
 |some (.lst _)=>True
 |some (.dK _)=>True
 |some (.dT _)=>True
 |some (.set _ _)=>True
 |some (.ins _ _ _)=>True
 |some (.ext _)=>True
 |_=>False
section
def oB.write(ok:oB P w H h)(mu:İ (H x))(he:e=x\/H e=some (.own x))(k:∀b u,b≠e->h.get? b=some u->h'.get? b=some u)(heo:∃u,h'.get? e=some u)(new:eC P w (aV H x o') h' x o'):oB P w (aV H x o') h':=λb u q=>by
 have nown:∀c y,H c=some (.own y)->c≠x:=λc y r z=>by subst z;rw[r]at mu;exact mu
 have ntup:∀c xs,H c=some (.tup xs)->c≠x:=λc xs r z=>by subst z;rw[r]at mu;exact mu
 by_cases hb:b=x
 .subst hb;rw[aJ]at q;cases q;exact new
 .rw[aE hb]at q
  by_cases hbe:b=e
  .have q':H b=some (.own x):=by
    rcases he with z|z
    .grind
    .rw[hbe];exact z
   rw[q]at q';cases q';let⟨v,hv⟩:=heo;exact⟨v,by rw[hbe];exact hv⟩
  .refine(ok b u q).stay (λc v hc r=>k c v ?_ r) (λc r=>by rw[aE (nown c b r)];exact r) λc xs r=>by rw[aE (ntup c xs r)];exact r
   grind
end
structure Un(fs ex:ZM)(H H':Hp)(h h':Heap):Prop where
 keep:∀b o,h.get? b=some o->H b=none->b∉fs->b∉ex->h'.get? b=some o
 slot:∀b o,h.get? b=some o->H b=none->b∈fs->b∉ex->∃sl,h'.get? b=some {o with slots:=sl}
 free:∀b o,h.get? b=some o->H b=none->b∉ex->H' b=none
 there:∀b o,h.get? b=some o->b∉ex->∃o',h'.get? b=some o'
 tups:∀b xs,H b=some (.tup xs)->H' b=some (.tup xs)
 frzs:∀b o u,H b=some (.frz o u)->H' b=some (.frz o u)
 tbls:∀b ps,H b=some (.tbl ps)->∃more,H' b=some (.tbl (ps++more))
section
variable {fs ex:ZM}{H:Hp}{h h':Heap}{a:Addr}{o:HO}
def Un.any(u:Un fs ex H H1 h h1)(q:h.get? b=some ob)(n:H b=none)(hx:b∉ex):∃sl,h1.get? b=some {ob with slots:=sl}:=by
 by_cases hb:b∈fs
 .exact u.slot b ob q n hb hx
 .exact⟨ob.slots,u.keep b ob q n hb hx⟩
def Un.kept(k:∀b u,h.get? b=some u->h'.get? b=some u):Un fs ex H H h h':=
 ⟨λb ob q _ _ _=>k b ob q,λb ob q _ _ _=>⟨ob.slots,k b ob q⟩,λ_ _ _ n _=>n,λb ob q _=>⟨ob,k b ob q⟩,λ_ _ q=>q,λ_ _ _ q=>q,λ_ ps q=>⟨#[],by rw[q];simp⟩⟩
def Un.refl:Un fs ex H H h h:=Un.kept λ_ _ q=>q
def Un.laid(k:∀b u,h.get? b=some u->h'.get? b=some u)(hp:h.objs.size<=a)(hn:H a=none):Un fs ex H (aV H a o) h h' where
 keep:=λb u q _ _ _=>k b u q
 slot:=λb u q _ _ _=>⟨u.slots,k b u q⟩
 free:=λb u q n _=>by rw[aE (Ï (Ú (Heap.lt_size q) hp))];exact n
 there:=λb u q _=>⟨u,k b u q⟩
 tups:=λb xs q=>by rw[aE (bK q hn)];exact q
 frzs:=λb u xs q=>by rw[aE (bK q hn)];exact q
 tbls:=λb ps q=>⟨#[],by rw[aE (bK q hn),q];simp⟩
def Un.write(mu:İ (H x))(he:e=x\/H e=some (.own x))(k:∀b u,b≠e->h.get? b=some u->h'.get? b=some u)(heo:∃u,h'.get? e=some u):Un fs ex H (aV H x o) h h':=by
 have hx:∀b,H b=none->b≠x:=λb n z=>by subst z;rw[n]at mu;exact mu
 have hb:∀b,H b=none->b≠e:=λb n z=>by
  grind
 have hm:∀b u,H b=some u->¬İ (some u)->b≠x:=λb u q nm z=>by grind
 refine⟨λb u q n _ _=>k b u (hb b n) q,λb u q n _ _=>⟨u.slots,k b u (hb b n) q⟩,λb u q n _=>by rw[aE (hx b n)];exact n,λb u q _=>?_,
  λb xs q=>by rw[aE (hm b _ q λz=>z)];exact q,λb u xs q=>by rw[aE (hm b _ q λz=>z)];exact q,λb ps q=>⟨#[],by rw[aE (hm b _ q λz=>z),q];simp⟩⟩
 grind
end
def ľ(h:Heap)(H:Hp):ZM:=(List.range h.objs.size).filter λa=>(H a).isSome
def AL(h:Heap)(H:Hp):Heap:=W.hideAll h (ľ h H)
def PQ(h:Heap)(H:Hp):(AL h H).objs.size=h.objs.size:=W.hideAll_size _ _
def S4{h:Heap}{H:Hp}{b:Addr}{o:Obj}(e:h.get? b=some o)(n:H b=none):(AL h H).get? b=some o:=
 W.hideAll_get _ e λhm=>by
  have q:(H b).isSome=true:=(Č.mp hm).2;rw[n]at q;simp at q
def aAF(e:(AL h H).get? b=some o):h.get? b=some o/\H b=none:=by
 have e':h.get? b=some o:=W.of_hideAll (ľ h H) e;refine⟨e',?_⟩;cases q:H b with
 |none=>rfl
 |some x=>
  have hm:b∈ľ h H:=Č.mpr ⟨List.mem_range.mpr (Heap.lt_size e'),by simp[q]⟩;have z:(AL h H).get? b=none:=W.hideAll_none (ľ h H) hm;rw[z]at e;cases e
def aAG(g h:Heap)(L:Addr):ZB:=(List.range h.objs.size).filterMap λa=>if a=L\/(g.get? a).isSome=true then none else (h.get? a).map λo=>(a,o)
def rest(g h:Heap)(L d:Addr):ZB:=(aAG g h L).filter λp=>decide (p.1≠d)
structure Mod(K:ZC)(mg:ZD)(base:Heap):Prop where
 kin:K.In base
 glob:base.Ns mainGlobals mg
 blt:∃mb,base.Ns builtinsNs mb/\∀x:Str,x≠"__name__"->mb x=bootBuiltins x
 nolimit:base.NoLimit
structure Cx where
 prog:Program
 w:World
 K:ZC
 mg:ZD
 base:Heap
 A:Around
 N:ZG
 s₀:Shared
 H₀:Hp
 env:Env
 outer:List Env
 stack:List Env
 ex:ZM
 fn:Str->Bool
 calm:Bool
 pn:ZB
 xe:ZA
def PR(l:List Env):ZM:=l.filterMap (·.frame)
abbrev Cx.fs(X:Cx):ZM:=PR X.outer
def AI(sc:Scope)(x:Str):Prop:=sc.names.lookup x=some .local\/sc.names.lookup x=some .cell\/sc.names.lookup x=some .free
def S5(sc:Scope)(x:Str):Prop:=sc.names.lookup x=some .local\/sc.names.lookup x=some .cell
def aNF(env:Env)(h:Heap)(m:ZD)(x:Str)(u:Value):Prop:=
 (env.kindOf x=some .local/\m x=some u)\/((env.kindOf x=some .cell\/env.kindOf x=some .free)/\∃c,env.cells.lookup x=some c/\h.IsCell c (some u))
structure Cx.Ok(X:Cx):Prop where
 mod:Mod X.K X.mg X.base
 kind:X.env.scope.kind=.function
 glob:X.env.globals=mainGlobals
 blt:X.env.builtins=builtinsNs
 above:X.s₀.heap.objs.size<=X.env.locals
 inj:∀x y c,X.env.cells.lookup x=some c->X.env.cells.lookup y=some c->x=y
 has:∀x,(X.env.kindOf x=some .cell\/X.env.kindOf x=some .free)->∃c,X.env.cells.lookup x=some c
 cab:∀x c,X.fn x=true->X.env.cells.lookup x=some c->X.s₀.heap.objs.size<=c
 hd:X.calm=true->X.A.handled=none
 frames:X.A.frames=some X.stack
 stk:X.stack=X.outer\/(X.stack=X.env::X.outer/\X.env.frame=some X.env.locals)
 exf:∀b∈X.ex,b≠X.env.locals/\∀x c,X.env.cells.lookup x=some c->c≠b
 bs:∀b o,X.base.get? b=some o->X.s₀.heap.get? b=some o/\X.H₀ b=none
 bsz:X.base.objs.size<=X.s₀.heap.objs.size
 noex:∀b o,X.base.get? b=some o->b∉X.ex
 exfs:∀b∈X.ex,b∉X.fs
 funs:X.s₀.heap.FunFrames X.base X.outer
 frf:∀b∈X.fs,X.H₀ b=none
structure Inv(X:Cx)(À:ZB)(σ:List (Option V))(H:Hp)(s:Shared):Prop where
 ok:X.Ok
 os:s.os=X.s₀.os
 bare:AllBare s.gens
 base:Un X.fs X.ex X.H₀ H X.s₀.heap s.heap
 loc:∃m,s.heap.Ns X.env.locals m/\∀(i:Nat)(x:Str)(v:V),X.N[i]?=some x->σ[i]?=some (some v)->AI X.env.scope x->∃u,bI v u/\aNF X.env s.heap m x u
 cell:∀x c,X.env.cells.lookup x=some c->∃v,s.heap.IsCell c v
 free:H X.env.locals=none
 freeC:∀x c,X.env.cells.lookup x=some c->H c=none
 pin:∀p∈X.pn++À,s.heap.get? p.1=some p.2/\H p.1=none/\p.1≠X.env.locals/\p.1∉X.fs/\∀v,p.2.data≠.cell v
 hok:oB X.prog X.w H s.heap
 len:σ.length=X.N.length
section
variable {X:Cx}
def Cx.Ok.nofr(ok:X.Ok)(e:X.base.get? b=some o):b∉X.fs:=λhb=>by
 have:=(ok.funs.mem hb).1;rw[e]at this;cases this
def Inv.bs(I:Inv X À σ H s):∀b o,X.base.get? b=some o->s.heap.get? b=some o/\H b=none:=λb o e=>
 ⟨I.base.keep b o (I.ok.bs b o e).1 (I.ok.bs b o e).2 (I.ok.nofr e) (I.ok.noex b o e),I.base.free b o (I.ok.bs b o e).1 (I.ok.bs b o e).2 (I.ok.noex b o e)⟩
def Inv.bk(I:Inv X À σ H s):∀b o,X.base.get? b=some o->s.heap.get? b=some o:=λb o e=>(I.bs b o e).1
def Inv.mod(I:Inv X À σ H s):Mod X.K X.mg X.base:=I.ok.mod
def Inv.kIn(I:Inv X À σ H s):X.K.In s.heap:=I.ok.mod.kin.keeps I.bk
theorem Inv.nolimit(I:Inv X À σ H s):s.heap.NoLimit:=I.ok.mod.nolimit.keeps I.bk
def Inv.lt(I:Inv X À σ H s):X.env.locals<s.heap.objs.size:=let ⟨_,hn,_⟩:=I.loc;hn.lt
def Inv.sz(I:Inv X À σ H s):X.s₀.heap.objs.size<=s.heap.objs.size:=Ü I.ok.above (É I.lt)
def Inv.nofs(I:Inv X À σ H s){a:Addr}(h:s.heap.objs.size<=a):a∉X.fs:=λhb=>by
 let⟨_,o,ho,_⟩:=I.ok.funs.mem hb;exact absurd (Ú (Heap.lt_size ho) (Ü I.sz h)) (û _)
def Inv.cne(I:Inv X À σ H s):∀x c,X.env.cells.lookup x=some c->c≠X.env.locals:=λx c e z=>by
 let⟨v,o,ho,hd⟩:=I.cell x c e;let⟨m,⟨o',es,ep,ho',hd',_⟩,_⟩:=I.loc
 grind
def Inv.funs(I:Inv X À σ H s):s.heap.FunFrames X.base X.outer:=by
 have all:∀(l:List Env),(∀b∈PR l,b∈X.fs)->X.s₀.heap.FunFrames X.base l->s.heap.FunFrames X.base l:=by
  intro l
  induction l with
  |nil=>intro _ _;trivial
  |cons env r ih=>
   intro hs hl;let⟨hk,⟨L,o,hf,hn,ho,hd⟩,hr⟩:=hl;have hL:L∈X.fs:=hs L (by unfold PR;rw[List.filterMap_cons,hf];exact Ô)
   let⟨sl,e⟩:=I.base.slot L o ho (I.ok.frf L hL) hL λz=>I.ok.exfs L z hL;exact⟨hk,⟨L,_,hf,hn,e,hd⟩,ih (λb hb=>hs b (by unfold PR;rw[List.filterMap_cons,hf];exact Ó _ hb)) hr⟩
 exact all X.outer (λ_ hb=>hb) I.ok.funs
def Inv.stack(I:Inv X À σ H s):s.heap.FunFrames X.base X.stack:=by
 rcases I.ok.stk with e|⟨e,hf⟩
 .rw[e];exact I.funs
 .rw[e]
  let⟨m,hn,_⟩:=I.loc;refine .cons (by rw[I.ok.kind];decide) hf hn ?_ I.funs;exact Heap.get?_none_of_le (Ü I.ok.bsz I.ok.above)
def Inv.stkSub(I:Inv X À σ H s):∀b∈PR X.stack,b∈X.env.locals::X.fs:=λb hb=>by
 rcases I.ok.stk with e|⟨e,hf⟩
 .grind
 .rw[e]at hb
  unfold PR at hb;rw[List.filterMap_cons,hf]at hb;exact hb
def Inv.stkFree(I:Inv X À σ H s):∀b∈PR X.stack,H b=none:=λb hb=>by
 rcases Ø.mp (I.stkSub b hb)with e|hb
 .rw[e];exact I.free
 .obtain⟨_,o,ho,_⟩:=I.ok.funs.mem hb
  exact I.base.free b o ho (I.ok.frf b hb) λz=>I.ok.exfs b z hb
def Inv.step{ch:ZM}(I:Inv X À σ H s)(hch:∀b∈ch,(b∈X.ex\/X.s₀.heap.objs.size<=b)/\b≠X.env.locals/\(∀x c,X.env.cells.lookup x=some c->c≠b)/\∀p∈X.pn++À,p.1≠b)(keep:∀b o,b≠X.env.locals->b∉X.fs->b∉ch->s.heap.get? b=some o->H b=none->h'.get? b=some o)(slot:∀b o,b≠X.env.locals->b∈X.fs->b∉ch->s.heap.get? b=some o->H b=none->∃sl,h'.get? b=some {o with slots:=sl})(free:∀b o,b∉ch->s.heap.get? b=some o->H b=none->H' b=none)(there:∀b o,b∉ch->s.heap.get? b=some o->∃o',h'.get? b=some o')(tups:∀b xs,H b=some (.tup xs)->H' b=some (.tup xs))(frzs:∀b o u,H b=some (.frz o u)->H' b=some (.frz o u))(tbls:∀b ps,H b=some (.tbl ps)->∃more,H' b=some (.tbl (ps++more)))(ns:∀m,s.heap.Ns X.env.locals m->h'.Ns X.env.locals m)(hok:oB X.prog X.w H' h')(hg:AllBare g'):
  Inv X À σ H' {s with heap:=h',gens:=g',drawn:=d',toks:=t'}:=by
 have neL:∀b o,X.s₀.heap.get? b=some o->b≠X.env.locals:=λb o e=>Ï (Ú (Heap.lt_size e) I.ok.above);have neC:∀b o,X.s₀.heap.get? b=some o->b∉X.ex->b∉ch:=λb o e hx hb=>by
  rcases(hch b hb).1 with z|z
  .exact hx z
  .exact absurd (Ú (Heap.lt_size e) z) (û _)
 have cellK:∀x c,X.env.cells.lookup x=some c->∀v,s.heap.IsCell c v->h'.IsCell c v:=λx c e v⟨o,ho,hd⟩=>by
  have nch:c∉ch:=λz=>(hch c z).2.2.1 x c e rfl;by_cases hc:c∈X.fs
  .obtain⟨sl,q⟩:=slot c o (I.cne x c e) hc nch ho (I.freeC x c e)
   exact⟨_,q,hd⟩
  .exact⟨o,keep c o (I.cne x c e) hc nch ho (I.freeC x c e),hd⟩
 refine⟨I.ok,I.os,hg,⟨λb o e n hb hx=>?_,λb o e n hb hx=>?_,λb o e n hx=>?_,λb o e hx=>?_,λb xs e=>tups b xs (I.base.tups b xs e),λb o xs e=>frzs b o xs (I.base.frzs b o xs e),λb ps e=>?_⟩,?_,λx c e=>?_,?_,λx c e=>?_,λp hp=>?_,hok,I.len⟩
 .exact keep b o (neL b o e) hb (neC b o e hx) (I.base.keep b o e n hb hx) (I.base.free b o e n hx)
 .obtain⟨sl,e1⟩:=I.base.slot b o e n hb hx
  let⟨sl',e2⟩:=slot b _ (neL b o e) hb (neC b o e hx) e1 (I.base.free b o e n hx);exact⟨sl',e2⟩
 .obtain⟨o',e1⟩:=I.base.there b o e hx
  exact free b o' (neC b o e hx) e1 (I.base.free b o e n hx)
 .obtain⟨o',e1⟩:=I.base.there b o e hx
  exact there b o' (neC b o e hx) e1
 .obtain⟨m1,e1⟩:=I.base.tbls b ps e
  let⟨m2,e2⟩:=tbls b _ e1;exact⟨m1++m2,by rw[e2,Array.append_assoc]⟩
 .obtain⟨m,hn,hl⟩:=I.loc
  refine⟨m,ns m hn,λi x v e1 e2 e3=>?_⟩;let⟨u,r,l⟩:=hl i x v e1 e2 e3;refine⟨u,r,?_⟩;rcases l with l|⟨k,c,e,z⟩
  .exact .inl l
  .exact .inr ⟨k,c,e,cellK x c e _ z⟩
 .obtain⟨v,z⟩:=I.cell x c e
  exact⟨v,cellK x c e v z⟩
 .obtain⟨m,⟨o,_,_,ho,_⟩,_⟩:=I.loc
  exact free _ o (λz=>(hch _ z).2.1 rfl) ho I.free
 .obtain⟨v,o,ho,hd⟩:=I.cell x c e
  exact free c o (λz=>(hch c z).2.2.1 x c e rfl) ho (I.freeC x c e)
 .obtain⟨e,n,ne,nf,d⟩:=I.pin p hp
  have nch:p.1∉ch:=λz=>(hch p.1 z).2.2.2 p hp rfl;exact⟨keep p.1 p.2 ne nf nch e n,free p.1 p.2 nch e n,ne,nf,d⟩
def Inv.un(I:Inv X À σ H s)(u:Un X.fs [] H H' s.heap h')(hok:oB X.prog X.w H' h'):Inv X À σ H' {s with heap:=h',toks:=t'}:=by
 let⟨m,⟨o,es,ep,ho,r⟩,_⟩:=id I.loc;let⟨sl,hL⟩:=u.any ho I.free 'f';exact I.step (g':=s.gens) (d':=s.drawn) (ch:=[]) (λ_ z=>nomatch z) (λb o _ hb _ e n=>u.keep b o e n hb 'f') (λb o _ hb _ e n=>u.slot b o e n hb 'f') (λb o _ e n=>u.free b o e n 'f') (λb o _ e=>u.there b o e 'f') u.tups u.frzs u.tbls (λm' hm=>by
  let⟨o',es',ep',ho',r'⟩:=hm;rw[ho]at ho';cases ho';exact⟨_,es',ep',hL,r'⟩) hok I.bare
def Inv.call(I:Inv X À σ H s)(u:Un (PR X.stack) ch H H' s.heap h')(hok:oB X.prog X.w H' h')(hg:AllBare g')(hch:∀b∈ch,(b∈X.ex\/X.s₀.heap.objs.size<=b)/\b≠X.env.locals/\(∀x c,X.env.cells.lookup x=some c->c≠b)/\∀p∈X.pn++À,p.1≠b):
  Inv X À σ H' {s with heap:=h',gens:=g',drawn:=d',toks:=t'}:=by
 let⟨m,⟨o,es,ep,ho,r⟩,_⟩:=id I.loc;let⟨sl,hL⟩:=u.any ho I.free λz=>(hch _ z).2.1 rfl;exact I.step (ch:=ch) hch (λb o hL hb hc e n=>u.keep b o e n (λz=>(Ø.mp (I.stkSub b z)).elim hL hb) hc) (λb o _ _ hc e n=>u.any e n hc) (λb o hc e n=>u.free b o e n hc) (λb o hc e=>u.there b o e hc) u.tups u.frzs u.tbls (λm' hm=>by
  let⟨o',es',ep',ho',r'⟩:=hm;rw[ho]at ho';cases ho';exact⟨_,es',ep',hL,r'⟩) hok hg
def Inv.turned(I:Inv X À σ H s)(k:∀b o,b≠it->s.heap.get? b=some o->h'.get? b=some o)(hn:H it=none)(hL:it≠X.env.locals)(h1:it∈X.ex\/X.s₀.heap.objs.size<=it)(h2:∀x c,X.env.cells.lookup x=some c->c≠it)(h3:∀p∈X.pn++À,p.1≠it):Inv X À σ H {s with heap:=h',toks:=t'}:=by
 have nit:∀b u,H b=some u->b≠it:=λb u e z=>by rw[z,hn]at e;cases e
 refine I.step (g':=s.gens) (d':=s.drawn) (ch:=[it]) (λb hb=>?_) (λb o _ _ hc e _=>k b o (λz=>hc (by simp[z])) e) (λb o _ _ hc e _=>⟨o.slots,k b o (λz=>hc (by simp[z])) e⟩) (λ_ _ _ _ n=>n)
  (λb o hc e=>⟨o,k b o (λz=>hc (by simp[z])) e⟩) (λ_ _ e=>e) (λ_ _ _ e=>e) (λb ps e=>⟨#[],by rw[e];simp⟩) (λm hm=>?_) (λb u e=>?_) I.bare
 .have e:b=it:=by simpa using hb
  subst e;exact⟨h1,hL,h2,h3⟩
 .obtain⟨o,es,ep,ho,r⟩:=hm
  exact⟨o,es,ep,k _ o (Ñ hL) ho,r⟩
 .refine(I.hok b u e).stay (λc v hc q=>k c v ?_ q) (λ_ q=>q) λ_ _ q=>q
  rcases hc with z|z
  .rw[z];exact nit b u e
  .exact nit c _ z
def Inv.tok(I:Inv X À σ H s)(t:Nat):Inv X À σ H {s with toks:=t}:=I.un (h':=s.heap) (t':=t) Un.refl I.hok
def Inv.kept(I:Inv X À σ H s)(k:∀b u,s.heap.get? b=some u->h'.get? b=some u):Inv X À σ H {s with heap:=h',toks:=t'}:=I.un (Un.kept k) (I.hok.kept k)
def Inv.laid(I:Inv X À σ H s)(k:∀b u,s.heap.get? b=some u->h'.get? b=some u)(hp:s.heap.objs.size<=a)(new:eC X.prog X.w (aV H a o) h' a o):
  Inv X À σ (aV H a o) {s with heap:=h',toks:=t'}:=I.un (Un.laid k hp (I.hok.fresh hp)) (I.hok.laid k hp new)
def Inv.write(I:Inv X À σ H s)(mu:İ (H x))(he:e=x\/H e=some (.own x))(k:∀b u,b≠e->s.heap.get? b=some u->h'.get? b=some u)(heo:∃u,h'.get? e=some u)(new:eC X.prog X.w (aV H x o) h' x o):Inv X À σ (aV H x o) {s with heap:=h',toks:=t'}:=I.un (Un.write mu he k heo) (I.hok.write mu he k heo new)
def Inv.pins_of(I:Inv X À σ H s)(h:∀p∈pins',s.heap.get? p.1=some p.2/\H p.1=none/\p.1≠X.env.locals/\p.1∉X.fs/\∀v,p.2.data≠.cell v):Inv X pins' σ H s:=
 ⟨I.ok,I.os,I.bare,I.base,I.loc,I.cell,I.free,I.freeC,λp hp=>(ø.mp hp).elim (λz=>I.pin p (ĝ _ z)) (h p),I.hok,I.len⟩
def FT{N:ZG}(hN:N.Nodup){i j:Nat}(a:N[i]?=some x)(b:N[j]?=some x):i=j:=by
 let⟨h1,e1⟩:=Í.mp a;let⟨h2,e2⟩:=Í.mp b;exact(List.getElem_inj hN).mp (e1.trans e2.symm)
def A9{M:Model}{A:Around}{E:ZA}{i:Nat}{x:Str}{v:V}{u:Value}{Q:Unit->Shared->Prop}(I:Inv X À σ H s)(hN:X.N.Nodup)(hi:X.N[i]?=some x)(hx:S5 X.env.scope x)(r:bI v u)(h:∀s',Inv X À (σ.set i (some v)) H s'->(∃a,Heap.SameBut a s.heap s'.heap/\(a=X.env.locals\/X.env.cells.lookup x=some a))->Q () s')(hf:X.fn x=true\/X.env.scope.names.lookup x=some .local:=by first|exact .inl rfl|exact .inr rfl|assumption):wpAny M A (storeName X.env x u) Q E s:=by
 let⟨m,hn,hl⟩:=id I.loc;have hcls:(X.env.scope.kind == .class || (X.env.scope.kind == .module && X.env.locals != X.env.globals))=false:=by rw[I.ok.kind];rfl
 have hiσ:i<σ.length:=by rw[I.len];exact(Í.mp hi).1
 have cne:=I.cne;have tracked:∀{a:Addr}{h':Heap},(∃o,s.heap.get? a=some o/\H a=none)->Heap.SameBut a s.heap h'->oB X.prog X.w H h':=λ{a h'}ha hs b ob e=>by
  let⟨_,_,hfree⟩:=ha;refine(I.hok b ob e).stay (λc w' hc q=>(hs.2 c ?_).trans q) (λ_ q=>q) λ_ _ q=>q
  grind
 rcases hx with hk|hk
 .refine wpAny_storeName_local hk hn (λh' hn' hs=>?_) hcls
  let⟨oL,_,_,hoL,_⟩:=id hn;refine h _ ⟨I.ok,I.os,I.bare,⟨λb o e n hb hx=>?_,λb o e n hb hx=>?_,I.base.free,λb o e hx=>?_,I.base.tups,I.base.frzs,I.base.tbls⟩,⟨_,hn',λj y v' e1 e2 e3=>?_⟩,λy c e=>?_,I.free,I.freeC,λp hp=>?_,tracked ⟨oL,hoL,I.free⟩ hs,by simpa using I.len⟩ ⟨_,hs,.inl rfl⟩
  .exact(hs.2 b (Ï (Ú (Heap.lt_size e) I.ok.above))).trans (I.base.keep b o e n hb hx)
  .obtain⟨sl,e1⟩:=I.base.slot b o e n hb hx
   exact⟨sl,(hs.2 b (Ï (Ú (Heap.lt_size e) I.ok.above))).trans e1⟩
  .obtain⟨o',e1⟩:=I.base.there b o e hx
   exact⟨o',(hs.2 b (Ï (Ú (Heap.lt_size e) I.ok.above))).trans e1⟩
  .by_cases hj:j=i
   .subst hj
    rw[hi]at e1;cases e1;rw[ß hiσ]at e2;cases e2;exact⟨u,r,.inl ⟨hk,by simp⟩⟩
   .rw[Ù (Ñ hj)]at e2
    let⟨u',r',q⟩:=hl j y v' e1 e2 e3;refine⟨u',r',?_⟩;rcases q with ⟨k,e⟩|⟨k,c,e,z⟩
    .refine .inl ⟨k,?_⟩
     have:y≠x:=λe=>hj (FT hN e1 (e▸hi));simp[this,e]
    .exact .inr ⟨k,c,e,z.sameBut hs (cne y c e)⟩
  .obtain⟨w',z⟩:=I.cell y c e
   exact⟨w',z.sameBut hs (cne y c e)⟩
  .obtain⟨e,n,ne,nf,d⟩:=I.pin p hp
   exact⟨(hs.2 p.1 ne).trans e,n,ne,nf,d⟩
 .have hfn:X.fn x=true:=by
   rcases hf with z|z
   .exact z
   .rw[z]at hk;cases hk
  let⟨c,hc⟩:=I.ok.has x (.inl hk);let⟨w',z⟩:=I.cell x c hc;refine wpAny_storeName_cell I.ok.kind hk hc z (λh' hc' hs=>?_);let⟨oc,hoc,hocd⟩:=id z;refine h {s with heap:=h'} ⟨I.ok,I.os,I.bare,⟨λb o e n hb hx=>?_,λb o e n hb hx=>?_,I.base.free,λb o e hx=>?_,I.base.tups,I.base.frzs,I.base.tbls⟩,⟨m,hn.sameBut hs (Ñ (cne x c hc)),λj y v' e1 e2 e3=>?_⟩,λy c' e=>?_,I.free,I.freeC,λp hp=>?_,tracked ⟨oc,hoc,I.freeC x c hc⟩ hs,by simpa using I.len⟩ ⟨c,hs,.inr hc⟩
  .exact(hs.2 b (Ï (Ú (Heap.lt_size e) (I.ok.cab x c hfn hc)))).trans (I.base.keep b o e n hb hx)
  .obtain⟨sl,e1⟩:=I.base.slot b o e n hb hx
   exact⟨sl,(hs.2 b (Ï (Ú (Heap.lt_size e) (I.ok.cab x c hfn hc)))).trans e1⟩
  .obtain⟨o',e1⟩:=I.base.there b o e hx
   exact⟨o',(hs.2 b (Ï (Ú (Heap.lt_size e) (I.ok.cab x c hfn hc)))).trans e1⟩
  .by_cases hj:j=i
   .subst hj
    rw[hi]at e1;cases e1;rw[ß hiσ]at e2;cases e2;exact⟨u,r,.inr ⟨.inl hk,c,hc,hc'⟩⟩
   .rw[Ù (Ñ hj)]at e2
    let⟨u',r',q⟩:=hl j y v' e1 e2 e3;refine⟨u',r',?_⟩;rcases q with q|⟨k,c',e,z'⟩
    .exact .inl q
    .refine .inr ⟨k,c',e,z'.sameBut hs ?_⟩
     rintro rfl;exact hj (FT hN e1 (I.ok.inj _ _ _ e hc▸hi))
  .by_cases hcc:c'=c
   .grind
   .obtain⟨w2,z2⟩:=I.cell y c' e
    exact⟨w2,z2.sameBut hs hcc⟩
  .obtain⟨e,n,ne,nf,d⟩:=I.pin p hp
   refine⟨(hs.2 p.1 ?_).trans e,n,ne,nf,d⟩
   grind
def FU{M:Model}{A:Around}{E:ZA}{i:Nat}{x:Str}{v:V}{u:Value}{Q:Unit->Shared->Prop}(I:Inv X À σ H s)(hN:X.N.Nodup)(hi:X.N[i]?=some x)(hx:S5 X.env.scope x)(r:bI v u)(h:∀s',Inv X À (σ.set i (some v)) H s'->Q () s')(hf:X.fn x=true\/X.env.scope.names.lookup x=some .local:=by first|exact .inl rfl|exact .inr rfl|assumption):wpAny M A (storeName X.env x u) Q E s:=
 A9 I hN hi hx r (λs' I' _=>h s' I') hf
def Inv.call'(I:Inv X À σ H s)(ho:s'.os=s.os)(u:Un (PR X.stack) ch H H' s.heap s'.heap)(hok:oB X.prog X.w H' s'.heap)(hg:AllBare s'.gens)(hch:∀b∈ch,(b∈X.ex\/X.s₀.heap.objs.size<=b)/\b≠X.env.locals/\(∀x c,X.env.cells.lookup x=some c->c≠b)/\∀p∈X.pn++À,p.1≠b):Inv X À σ H' s':=by
 let⟨h',g',d',t',o'⟩:=s';have e:o'=s.os:=ho;subst e;exact I.call (g':=g') (t':=t') (d':=d') u hok hg hch
end
abbrev XK:=Value->Option Addr->Hp->Prop
abbrev St:=List (Option V)
abbrev VK:=V->Hp->Prop
abbrev TE:=St->Hp->VK->Prop
abbrev TT:=St->Hp->(Bool->Hp->Prop)->Prop
abbrev TA:=St->Hp->(List V->Hp->Prop)->Prop
structure AM where
 nx:St->Hp->Prop
 rt:VK
 bk:St->Hp->Prop:=λ_ _=>False
 ct:St->Hp->Prop:=λ_ _=>False
abbrev TS:=AM->St->Hp->Prop
def EP(X:Cx)(À:ZB)(σ:St)(Q:VK)(u:Value)(s':Shared):Prop:=∃v H',Inv X À σ H' s'/\bI v u/\Q v H'
def TP(X:Cx)(À:ZB)(σ:St)(Q:Bool->Hp->Prop)(b:Bool)(s':Shared):Prop:=∃H',Inv X À σ H' s'/\Q b H'
def AP(X:Cx)(À:ZB)(σ:St)(Q:List V->Hp->Prop)(us:ZJ)(s':Shared):Prop:=∃vs H',Inv X À σ H' s'/\bH vs us/\Q vs H'
def SP(X:Cx)(À:ZB)(D:AM)(f:Flow)(s':Shared):Prop:=
 match f with
 |.next=>∃σ' H',Inv X À σ' H' s'/\D.nx σ' H'
 |.brk=>∃σ' H',Inv X À σ' H' s'/\D.bk σ' H'
 |.cont=>∃σ' H',Inv X À σ' H' s'/\D.ct σ' H'
 |.ret u=>∃v σ' H',Inv X À σ' H' s'/\bI v u/\D.rt v H'
def PE(X:Cx)(e:Expr)(t:TE):Prop:=
 ∀(À:ZB)(s:Shared)(σ:St)(H:Hp)(Q:VK),Inv X À σ H s->t σ H Q->wpAny 'b' X.A (eval e X.env) (EP X À σ Q) X.xe s
def PT(X:Cx)(e:Expr)(t:TT):Prop:=
 ∀(À:ZB)(s:Shared)(σ:St)(H:Hp)(Q:Bool->Hp->Prop),Inv X À σ H s->t σ H Q->wpAny 'b' X.A (isTrue e X.env (eval e X.env)) (TP X À σ Q) X.xe s
def PW(X:Cx)(e:Expr)(t:TT):Prop:=
 ∀(whole:Sem Value)(À:ZB)(s:Shared)(σ:St)(H:Hp)(Q:Bool->Hp->Prop),Inv X À σ H s->t σ H Q->wpAny 'b' X.A (isTrue e X.env whole) (TP X À σ Q) X.xe s
def PW.pt(h:PW X e t):PT X e t:=h _
def PA(X:Cx)(es:List Expr)(t:TA):Prop:=
 ∀(pos:Pos)(À:ZB)(s:Shared)(σ:St)(H:Hp)(Q:List V->Hp->Prop),Inv X À σ H s->t σ H Q->wpAny 'b' X.A (spliced (backTo pos (starEach es X.env))) (AP X À σ Q) X.xe s
def PS(X:Cx)(st:Stmt)(t:TS):Prop:=
 ∀(À:ZB)(s:Shared)(σ:St)(H:Hp)(D:AM),Inv X À σ H s->t D σ H->wpAny 'b' X.A (exec st X.env) (SP X À D) X.xe s
def CY(X:Cx)(st:List Stmt)(t:TS):Prop:=
 ∀(À:ZB)(s:Shared)(σ:St)(H:Hp)(D:AM),Inv X À σ H s->t D σ H->wpAny 'b' X.A (execs st X.env) (SP X À D) X.xe s
def cA{Q Q':α->Shared->Prop}(h:wpAny M A t Q E s)(hQ:∀a s,Q a s->Q' a s):wpAny M A t Q' E s:=wpAny_mono h hQ λ_ _ x=>x
section
variable {X:Cx}
def FV(i:Nat):TE:=λσ H Q=>∃v,σ[i]?=some (some v)/\Q v H
def tC(v:V):TE:=λ_ H Q=>Q v H
def c9{pos:Pos}(hN:X.N[i]?=some x)(hv:AI X.env.scope x)(hd:⇑(Zdb x))(hcd:⇑(Zcd x)):PE X (.Name x pos) (FV i):=by
 intro À s σ H Q I h;let⟨v,e,h⟩:=h;let⟨m,hn,hl⟩:=I.loc;let⟨u,r,l⟩:=hl i x v hN e hv;have fin:EP X À σ Q u s:=⟨v,H,I,r,h⟩;rcases l with ⟨hk,hm⟩|⟨hk,c,hc,hcell⟩
 .exact wpAny_Name (wpAny_loadName_local I.ok.kind hk hn hm fin) hd
 .rcases hk with hk|hk
  .exact wpAny_Name (wpAny_loadName_cell I.ok.kind hk hc hcell fin) hd
  .exact wpAny_Name (wpAny_loadName_free I.ok.kind hk hc hcell fin hcd) hd
def aFY:PE X (.Constant (.int i) j pos) (tC (.int i)):=λ_ _ _ H _ I h=>wpAny_Constant_int ⟨.int i,H,I.tok _,⟨_,rfl⟩,h⟩
def ML:PE X (.Constant (.bool b) j pos) (tC (.bl b)):=λ_ _ _ H _ I h=>Constant_bool ⟨.bl b,H,I,rfl,h⟩
def aFZ:PE X (.Constant .none j pos) (tC .non):=λ_ _ _ H _ I h=>Constant_none ⟨.non,H,I,rfl,h⟩
def CZ:PE X (.Constant (.str x) j pos) (tC (.str x)):=λ_ _ _ H _ I h=>Calls.Constant_str ⟨.str x,H,I.tok _,⟨_,rfl⟩,h⟩
def Gl(X:Cx)(x:Str):Prop:=X.env.kindOf x=some .globalImplicit
def C0{E:ZA}{À:ZB}{s:Shared}{σ:St}{H:Hp}{x:Str}{u:Value}{pos:Pos}{Q:ZA}(I:Inv X À σ H s)(hg:Gl X x)(hm:X.mg x=some u)(h:Q u s)(hd:⇑(Zdb x)):wpAny 'b' X.A (eval (.Name x pos) X.env) Q E s:=
 Calls.Name_function_global I.ok.kind hg (Calls.loadGlobal_global (by rw[I.ok.glob];exact I.mod.glob.keeps I.bk) hm h) hd
def hW{E:ZA}{À:ZB}{s:Shared}{σ:St}{H:Hp}{x:Str}{u:Value}{pos:Pos}{Q:ZA}(I:Inv X À σ H s)(hg:Gl X x)(hm:X.mg x=none)(hv:bootBuiltins x=some u)(h:Q u s)(hn:⇑(x≠"__name__"))(hd:⇑(Zdb x)):wpAny 'b' X.A (eval (.Name x pos) X.env) Q E s:=by
 let⟨mb,h1,h2⟩:=I.mod.blt;exact Calls.Name_function_global I.ok.kind hg (Calls.loadGlobal_builtin (by rw[I.ok.glob];exact I.mod.glob.keeps I.bk) hm (by rw[I.ok.blt];exact h1.keeps I.bk) ((h2 x hn).trans hv) h) hd
def aAH(hg:Gl X x)(hm:X.mg x=some u)(r:bI v u)(hd:⇑(Zdb x)):PE X (.Name x pos) (tC v):=
 λ_ _ _ H _ I h=>C0 I hg hm ⟨v,H,I,r,h⟩ hd
def aAI{pos:Pos}(hg:Gl X x)(hm:X.mg x=none)(hv:bootBuiltins x=some u)(r:bI v u)(hn:⇑(x≠"__name__"))(hd:⇑(Zdb x)):PE X (.Name x pos) (tC v):=
 λ_ _ _ H _ I h=>hW I hg hm hv ⟨v,H,I,r,h⟩ hn hd
variable {a b:Expr}{ta tb:TE}{pos:Pos}
def PC(X:Cx)(op:CmpOp)(a b:Expr)(t:TE):Prop:=
 ∀(À:ZB)(s:Shared)(σ:St)(H:Hp)(Q:VK),Inv X À σ H s->t σ H Q ->
  wpAny 'b' X.A (eval a X.env) (λv s₁=>wpAny 'b' X.A (eval b X.env) (λu s₂=>wpAny 'b' X.A (compareOp op v u) (EP X À σ Q) X.xe s₂) X.xe s₁) X.xe s
def S6(b:Expr)(h:op≠.In)(h2:op≠.NotIn):behindInMarks op b=false:=by
 have e1:(op == CmpOp.In)=false:=by cases op<;>first|rfl|exact absurd rfl h
 have e2:(op == CmpOp.NotIn)=false:=by cases op<;>first|rfl|exact absurd rfl h2
 cases b<;>simp[behindInMarks,e1,e2]
def tB(t:TE):TT:=λσ H Q=>t σ H λx H1=>∃c,x=.bl c/\Q c H1
def S7(h:PC X op a b t)(h1:behindInMarks op b=false:=by first|exact S6 _ ⋯ ⋯|rfl):PT X (.Compare a [op] [b] pos) (tB t):=by
 intro À s σ H Q I hw;refine wpAny_isTrue_Compare1 (cA (h À s σ H _ I hw) λv s1 h1=>cA h1 λu s2 h2=>cA h2 λc s3 zQ=>?_) h1;let⟨x,H1,I1,r1,q1⟩:=zQ;let⟨d,rfl,q⟩:=q1;cases r1;exact wpAny_truthy_bool ⟨H1,I1,q⟩
def aF0(h:PE X e t)(he: ~~~(∀whole,isTrue e X.env whole=(do let v <- whole;standAt e.pos;holding [v] (truthy v)))):PT X e (tB t):=by
 intro À s σ H Q I hw;refine isTrue_plain (cA (h À s σ H _ I hw) λv s1 zQ=>?_) (he _);let⟨x,H1,I1,r1,q1⟩:=zQ;let⟨d,rfl,q⟩:=q1;cases r1;exact wpAny_truthy_bool ⟨H1,I1,q⟩
variable {tA tB':TT}{rest:List Expr}
def aNG(t u:TT):TT:=λσ H Q=>t σ H λc H1=>if c=true then u σ H1 Q else Q false H1
def aPM(t u:TT):TT:=λσ H Q=>t σ H λc H1=>if c=true then Q true H1 else u σ H1 Q
def aNH(t:TT):TT:=λσ H Q=>t σ H λc H1=>Q (!c) H1
def aAJ(ha:PT X a tA):PW X (.BoolOp .And [a] pos) tA:=by
 intro wh À s σ H Q I h;refine isTrue_and (cA (ha À s σ H Q I h) λc s1 e=>?_);cases c with
 |true=>exact isTrue_and_nil e
 |false=>exact e
def aF1(ha:PT X a tA):PW X (.BoolOp .Or [a] pos) tA:=by
 intro wh À s σ H Q I h;refine isTrue_or (cA (ha À s σ H Q I h) λc s1 e=>?_);cases c with
 |false=>exact isTrue_or_nil e
 |true=>exact e
def aF2(ha:PT X a tA)(hb:PW X (.BoolOp .And (b::rest) pos) tB'):PW X (.BoolOp .And (a::b::rest) pos) (aNG tA tB'):=by
 intro wh À s σ H Q I h;refine isTrue_and (cA (ha À s σ H _ I h) λc s1 zQ=>?_);let⟨H1,I1,q1⟩:=zQ;cases c with
 |true=>exact hb wh À s1 σ H1 Q I1 q1
 |false=>exact⟨H1,I1,q1⟩
def aJY(ha:PT X a tA)(hb:PW X (.BoolOp .Or (b::rest) pos) tB'):PW X (.BoolOp .Or (a::b::rest) pos) (aPM tA tB'):=by
 intro wh À s σ H Q I h;refine isTrue_or (cA (ha À s σ H _ I h) λc s1 zQ=>?_);let⟨H1,I1,q1⟩:=zQ;cases c with
 |true=>exact⟨H1,I1,q1⟩
 |false=>exact hb wh À s1 σ H1 Q I1 q1
def aF3(ha:PT X a tA):PT X (.UnaryOp .Not a pos) (aNH tA):=by
 intro À s σ H Q I h;exact isTrue_not (ha À s σ H (λc H1=>Q (!c) H1) I h)
def aJZ(ta tb:TE):TE:=λσ H Q=>ta σ H λx H1=>∃c,x=.bl c/\if c=true then tb σ H1 Q else Q (.bl false) H1
def aNI(ta tb:TE):TE:=λσ H Q=>ta σ H λx H1=>∃c,x=.bl c/\if c=true then Q (.bl true) H1 else tb σ H1 Q
def aJ0(ta:TE):TE:=λσ H Q=>ta σ H λx H1=>∃c,x=.bl c/\Q (.bl (!c)) H1
def aF4(h:PE X a t):PE X (.BoolOp op [a] pos) t:=λÀ s σ H Q I hw=>BoolOp_one (h À s σ H Q I hw)
def aF5(ha:PE X a ta)(hb:PE X (.BoolOp .And (b::rest) pos) tb):PE X (.BoolOp .And (a::b::rest) pos) (aJZ ta tb):=by
 intro À s σ H Q I h;refine BoolOp_and (cA (ha À s σ H _ I h) λv s1 zQ=>?_);let⟨x,H1,I1,r1,q1⟩:=zQ;let⟨c,rfl,q1⟩:=q1;cases r1;refine wpAny_truthy_bool ?_;cases c with
 |true=>exact hb À s1 σ H1 Q I1 q1
 |false=>exact⟨.bl false,H1,I1,rfl,q1⟩
def aJ1(ha:PE X a ta)(hb:PE X (.BoolOp .Or (b::rest) pos) tb):PE X (.BoolOp .Or (a::b::rest) pos) (aNI ta tb):=by
 intro À s σ H Q I h;refine BoolOp_or (cA (ha À s σ H _ I h) λv s1 zQ=>?_);let⟨x,H1,I1,r1,q1⟩:=zQ;let⟨c,rfl,q1⟩:=q1;cases r1;refine wpAny_truthy_bool ?_;cases c with
 |false=>exact hb À s1 σ H1 Q I1 q1
 |true=>exact⟨.bl true,H1,I1,rfl,q1⟩
def aF6(ha:PE X a ta):PE X (.UnaryOp .Not a pos) (aJ0 ta):=by
 intro À s σ H Q I h;refine UnaryOp_ (cA (ha À s σ H _ I h) λv s1 zQ=>?_);let⟨x,H1,I1,r1,q1⟩:=zQ;let⟨c,rfl,q1⟩:=q1;cases r1;exact not_of (wpAny_truthy_bool ⟨.bl (!c),H1,I1,rfl,q1⟩)
def aPN(t:TT)(ta tb:TE):TE:=λσ H Q=>t σ H λc H1=>if c=true then ta σ H1 Q else tb σ H1 Q
def S8(hc:PT X c tA)(ha:PE X a ta)(hb:PE X b tb):PE X (.IfExp c a b pos) (aPN tA ta tb):=by
 intro À s σ H Q I h;refine wpAny_IfExp (cA (hc À s σ H _ I h) λd s1 zQ=>?_);let⟨H1,I1,q1⟩:=zQ;cases d with
 |true=>exact ha À s1 σ H1 Q I1 q1
 |false=>exact hb À s1 σ H1 Q I1 q1
end
def d8(K:ZC)(H:Hp)(a:Addr)(xs:List V):Prop:=
 Rd H a (.lst xs) \/
  ∃(o:Obj)(its:Array Value)(n:Nat),K.lookup a=some o/\o.cls=.type "list"/\o.dict=none/\o.data=.seq its n/\its.size<=sizeLine/\bH xs its.toList
def rN(K:ZC)(H:Hp)(a:Addr)(xs:List V):Prop:=
 Rd H a (.tup xs) \/
  ∃(o:Obj)(its:Array Value)(n:Nat),K.lookup a=some o/\o.cls=.type "tuple"/\o.data=.seq its n/\its.size<=sizeLine/\bH xs its.toList
def aNJ:Value->Option V
 |.none=>some .non
 |.bool b=>some (.bl b)
 |.int i _=>some (.int i)
 |.str x _=>some (.str x)
 |.bytes b _=>some (.byt b)
 |.float b _=>some (.flt b)
 |.ref a=>some (.ref a)
 |.type n=>some (.ty n)
 |_=>none
def bI.abs(r:bI x u):aNJ u=some x:=by
 cases x with
 |non=>cases r;rfl
 |bl _=>cases r;rfl
 |int _=>let⟨t,rfl⟩:=r;rfl
 |str _=>let⟨t,rfl⟩:=r;rfl
 |byt _=>let⟨t,rfl⟩:=r;rfl
 |flt _=>let⟨t,rfl⟩:=r;rfl
 |ref _=>cases r;rfl
 |ty _=>cases r;rfl
def bI.inj(r:bI x u)(q:bI y u):x=y:=Option.some.inj (r.abs.symm.trans q.abs)
def bH.inj:∀{xs ys:List V}{us:ZJ},bH xs us->bH ys us->xs=ys
 |_,_,_,.nil,.nil=>rfl
 |_,_,_,.cons r t,.cons r' t'=>by rw[r.inj r',bH.inj t t']
section
variable {X:Cx}{À:ZB}{σ:St}{H:Hp}{s:Shared}{a:Addr}{xs ys:List V}
def d8.of{K:ZC}(h:H a=some (.lst xs)):d8 K H a xs:=.inl (.inl h)
def rN.of{K:ZC}(h:H a=some (.tup xs)):rN K H a xs:=.inl (.inl h)
def Inv.list(I:Inv X À σ H s)(h:d8 X.K H a xs):∃its:ZJ,bH xs its/\PlainL s.heap a its.toArray/\xs.length<=sizeLine:=by
 rcases h with h|⟨o,its,n,hk,hc,hd,hs,hz,r⟩
 .obtain⟨z,its,n,r,e⟩:=h.ok I.hok
  exact⟨its,r,⟨_,n,e,rfl,rfl,rfl⟩,z⟩
 .refine⟨its.toList,r,⟨o,n,I.kIn a o hk,hc,hd,by simpa using hs⟩,?_⟩
  have e:=r.length
  grind
def Inv.tuple(I:Inv X À σ H s)(h:rN X.K H a xs):∃its:ZJ,bH xs its/\IsTup s.heap a its.toArray/\xs.length<=sizeLine:=by
 rcases h with h|⟨o,its,n,hk,hc,hs,hz,r⟩
 .obtain⟨z,its,r,p⟩:=h.ok I.hok
  exact⟨its,r,p,z⟩
 .refine⟨its.toList,r,⟨o,I.kIn a o hk,hc,n,by simpa using hs⟩,?_⟩
  have e:=r.length
  grind
def Inv.list_inj(I:Inv X À σ H s)(h:d8 X.K H a xs)(h':d8 X.K H a ys):xs=ys:=by
 let⟨its,r,⟨o,n,e,_,_,d⟩,_⟩:=I.list h;let⟨its',r',⟨o',n',e',_,_,d'⟩,_⟩:=I.list h';rw[e]at e';cases e';rw[d]at d';injection d' with d1 _;have:its=its':=by simpa using congrArg Array.toList d1
 subst this;exact r.inj r'
def Inv.tuple_inj(I:Inv X À σ H s)(h:rN X.K H a xs)(h':rN X.K H a ys):xs=ys:=by
 let⟨its,r,⟨o,e,_,n,d⟩,_⟩:=I.tuple h;let⟨its',r',⟨o',e',_,n',d'⟩,_⟩:=I.tuple h';rw[e]at e';cases e';rw[d]at d';injection d' with d1 _;have:its=its':=by simpa using congrArg Array.toList d1
 subst this;exact r.inj r'
end
section
end
section
variable {X:Cx}{st:Stmt}{rest:List Stmt}{t u:TS}
def S9:TS:=λD σ H=>D.nx σ H
def PU(t u:TS):TS:=λD σ H=>t {D with nx:=u D} σ H
def C1:CY X [] S9:=λ_ _ σ H _ I h=>wpAny_execs_nil ⟨σ,H,I,h⟩
def kL(h1:PS X st t)(h2:CY X rest u):CY X (st::rest) (PU t u):=by
 intro À s σ H D I h;refine wpAny_execs_cons (cA (h1 À s σ H {D with nx:=u D} I h) λf s1 q=>?_);cases f with
 |next=>
  let⟨σ',H',I',q⟩:=q;exact h2 À s1 σ' H' D I' q
 |ret v=>exact q
 |brk=>exact q
 |cont=>exact q
def rP(h1:PS X st t):CY X [st] t:=by
 intro À s σ H D I h;refine wpAny_execs_cons (cA (h1 À s σ H D I h) λf s1 q=>?_);cases f with
 |next=>exact wpAny_execs_nil q
 |ret v=>exact q
 |brk=>exact q
 |cont=>exact q
def Inv.quiet(I:Inv X À σ H s):interactive X.env=false:=by simp[interactive,I.ok.kind]
def Ξ(te:TE):TS:=λD σ H=>te σ H λ_ H1=>D.nx σ H1
def MM(he:PE X e te)(hs:↥(swapsWith e none pos.line X.env=pure false)):PS X (.Expr e pos) (Ξ te):=by
 intro À s σ H D I h;exact wpAny_Expr_any (cA (he À s σ H _ I h) λv s1 zQ=>by let⟨x,H1,I1,r1,q1⟩:=zQ;exact ⟨σ,H1,I1,q1⟩) I.quiet hs
def Ŀ(te:TE):TS:=λD σ H=>te σ H D.rt
def C2(he:PE X e te):PS X (.Return (some e) pos) (Ŀ te):=by
 intro À s σ H D I h;exact wpAny_Return_some (cA (he À s σ H _ I h) λv s1 zQ=>by let⟨x,H1,I1,r1,q1⟩:=zQ;exact ⟨x,σ,H1,I1,r1,q1⟩)
def Ŧ(c:TT)(t u:TS):TS:=λD σ H=>c σ H λb H1=>if b=true then t D σ H1 else u D σ H1
def TB(hc:PT X c tc)(ha:CY X a t)(hb:CY X b u):PS X (.If c a b pos) (Ŧ tc t u):=by
 intro À s σ H D I h;refine wpAny_If (cA (hc À s σ H _ I h) λd s1 zQ=>?_);let⟨H1,I1,q1⟩:=zQ;cases d with
 |true=>exact ha À s1 σ H1 D I1 q1
 |false=>exact hb À s1 σ H1 D I1 q1
def aF8:TS:=λ_ _ _=>False
def TC:PS X st aF8:=λ_ _ _ _ _ _ h=>h.elim
end
abbrev TG:=V->St->Hp->(St->Hp->Prop)->Prop
abbrev TD:=List V->St->Hp->(St->Hp->Prop)->Prop
def PG(X:Cx)(target:Expr)(t:TG):Prop:=
 ∀(À:ZB)(s:Shared)(σ:St)(H:Hp)(v:V)(u:Value)(Q:St->Hp->Prop),Inv X À σ H s->bI v u->t v σ H Q ->
  wpAny 'b' X.A (assign target X.env u) (λ_ s'=>∃σ' H',Inv X À σ' H' s'/\Q σ' H') X.xe s
def ı(X:Cx)(ts:List Expr)(t:TD):Prop:=
 ∀(À:ZB)(s:Shared)(σ:St)(H:Hp)(vs:List V)(us:ZJ)(Q:St->Hp->Prop),Inv X À σ H s->bH vs us->t vs σ H Q ->
  wpAny 'b' X.A (assignInOrder ((assignEach ts X.env).map (·.2)) us) (λ_ s'=>∃σ' H',Inv X À σ' H' s'/\Q σ' H') X.xe s
abbrev Ο:=V->V->V->Hp->(Hp->Prop)->Prop
def Ρ(X:Cx)(t:Ο):Prop:=
 ∀(À:ZB)(s:Shared)(σ:St)(H:Hp)(o i v:V)(ov iv u:Value)(Q:Hp->Prop),Inv X À σ H s->bI o ov->bI i iv->bI v u->t o i v H Q ->
  wpAny 'b' X.A (setItem ov iv u) (λ_ s'=>∃H',Inv X À σ H' s'/\Q H') X.xe s
section
variable {X:Cx}{pos:Pos}
def kM(i:Nat):TG:=λv σ H Q=>Q (σ.set i (some v)) H
def cK(hN:X.N.Nodup)(hi:X.N[i]?=some x)(hx:S5 X.env.scope x)(hf:X.fn x=true\/X.env.scope.names.lookup x=some .local:=by first|exact .inl rfl|exact .inr rfl|assumption):PG X (.Name x pos) (kM i):=by
 intro À s σ H v u Q I r h;exact wpAny_assign_Name (FU I hN hi hx r (λs' I'=>⟨_,H,I',h⟩) hf)
def TF:TD:=λvs σ H Q=>vs=[]/\Q σ H
def FW(t:TG)(u:TD):TD:=λvs σ H Q=>∃v r,vs=v::r/\t v σ H λσ' H'=>u r σ' H' Q
def oC:ı X [] TF:=by
 intro À s σ H vs us Q I r h;let⟨e,h⟩:=h;subst e;cases r;exact assignInOrder_nil ⟨σ,H,I,h⟩
def dX(h1:PG X e t)(h2:ı X es u)(hs:↥((assignEach (e::es) X.env).map (·.2)=assign e X.env::(assignEach es X.env).map (·.2))):ı X (e::es) (FW t u):=by
 intro À s σ H vs us Q I r h;let⟨v,vr,e1,h⟩:=h;subst e1;cases r with
 |cons r rr=>
  rw[hs];refine assignInOrder_cons (cA (h1 À s σ H _ _ _ I r h) λ_ s1 zQ=>?_);let⟨σ1,H1,I1,q1⟩:=zQ;exact h2 À s1 σ1 H1 _ _ Q I1 rr q1
def ŧ(K:ZC)(n:Nat)(t:TD):TG:=λv σ H Q=>∃a xs,v=.ref a/\rN K H a xs/\xs.length=n/\t xs σ H Q
def t8{k:Nat}(hc:X.calm=true)(h:ı X es t)(hn:↥((assignEach es X.env).length=n))(hst:↥((assignEach es X.env).findIdx? (·.1)=none)):PG X (.Tuple es k pos) (ŧ X.K n t):=by
 intro À s σ H v u Q I r hw;let⟨a,xs,e1,hq,hl,hw⟩:=hw;subst e1;cases r;let⟨its,rv,ht,hz⟩:=I.tuple hq;refine assign_Tuple_tuple (I.ok.hd hc) ht (by simp[hn,<- hl,rv.length]) hst λh' hx=>?_;have I1:Inv X À σ H {s with heap:=h'}:=I.kept (t':=s.toks) λb o e=>hx b o (Ï (Heap.lt_size e)) e;exact h À _ σ H xs _ Q I1 (by simpa using rv) hw
def aNK(to ti:TE)(t:Ο):TG:=λv σ H Q=>to σ H λo H1=>ti σ H1 λi H2=>t o i v H2 λH3=>Q σ H3
def TH(ho:PE X o to)(hi:PE X i ti)(hs:Ρ X t)(ha: ~~~(∀v,assign (.Subscript o i pos) X.env v=(do
   let ov <- holding [v] (eval o X.env);let iv <- holding [v,ov] (eval i X.env)
   standAt pos
   holding [v,ov,iv] (setItem ov iv v)
   release [v,ov,iv] []))):PG X (.Subscript o i pos) (aNK to ti t):=by
 intro À s σ H v u Q I r h;rw[ha];refine wpAny_bind (wpAny_holding (cA (ho À s σ H _ I h) λov s1 zQ=>?_));let⟨x,H1,I1,r1,q1⟩:=zQ;refine wpAny_bind (wpAny_holding (cA (hi À s1 σ H1 _ I1 q1) λiv s2 zQ=>?_));let⟨y,H2,I2,r2,q2⟩:=zQ;refine wpAny_bind (wpAny_standAt (wpAny_bind (wpAny_holding (cA (hs À s2 σ H2 x y v ov iv u _ I2 r1 r2 r q2) λ_ s3 zQ=>?_))));let⟨H3,I3,q3⟩:=zQ;exact wpAny_release ⟨σ,H3,I3,q3⟩
def PV(te:TE)(g:TG):TS:=λD σ H=>te σ H λx H1=>g x σ H1 D.nx
def TJ(he:PE X e te)(hg:PG X tg g)(hs:↥(swapsWithSole [tg] e pos.line X.env=pure false))(hw:↥(swappedStores [tg] e X.env=pure none))(h1:↥((assignEach [tg] X.env).map (·.2)=[assign tg X.env])):PS X (.Assign [tg] e pos) (PV te g):=by
 intro À s σ H D I h;refine wpAny_Assign_stores (cA (he À s σ H _ I h) λv s1 zQ=>?_) hs hw;let⟨x,H1,I1,r1,q1⟩:=zQ;rw[h1];exact cA (hg À s1 σ H1 x v _ I1 r1 q1) λ_ s2 q=>q
def J4(hN:X.N.Nodup)(hi:X.N[i]?=some x)(hx:S5 X.env.scope x)(he:PE X e te)(hs:↥(swapsWith e (some (.Name x pos')) pos.line X.env=pure false))(hf:X.fn x=true\/X.env.scope.names.lookup x=some .local:=by first|exact .inl rfl|exact .inr rfl|assumption):
  PS X (.Assign [.Name x pos'] e pos) (PV te (kM i)):=by
 intro À s σ H D I h;refine wpAny_Assign_Name (cA (he À s σ H _ I h) λv s1 zQ=>?_) hs;let⟨y,H1,I1,r1,q1⟩:=zQ;exact FU I1 hN hi hx r1 (λs2 I2=>⟨_,H1,I2,q1⟩) hf
end
section
def aGB(c:TT)(tb:TS):TS:=λD σ H=>∃W:Nat->St->Hp->Prop,(∃m,W m σ H)/\∀m σ H,W m σ H ->
 c σ H λb H1=>if b=true then ∃N:St->Hp->Prop,(∀σ' H',N σ' H'->∃m',m'<m/\W m' σ' H')/\tb {D with nx:=N,ct:=N,bk:=D.nx} σ H1 else D.nx σ H1
def TK(hp:PassesOwn 'b' X.A X.env X.xe)(hc:PT X c tc)(hb:CY X body tb):PS X (.While c body [] pos) (aGB tc tb):=by
 intro À s σ H D I h;let⟨W,⟨m0,w0⟩,turn⟩:=h;refine wpAny_While (codeAny_whileLoop (λn s'=>∃σ' H',Inv X À σ' H' s'/\W n σ' H') ?_ m0 ⟨σ,H,I,w0⟩);rintro n s1 ⟨σ1,H1,I1,w1⟩;refine wpAny_passesOwn hp (cA (hc À s1 σ1 H1 _ I1 (turn n σ1 H1 w1)) λb s2 zQ=>?_);let⟨H2,I2,q2⟩:=zQ;cases b with
 |true=>
  let⟨N,hN,q2⟩:=q2;rw[Â rfl];refine wpAny_passesOwn hp (cA (hb À s2 σ1 H2 _ I2 q2) λf s3 q3=>?_);cases f with
  |next=>
   let⟨σ3,H3,I3,n3⟩:=q3;let⟨m',hm,w3⟩:=hN σ3 H3 n3;exact⟨m',hm,σ3,H3,I3,w3⟩
  |cont=>
   let⟨σ3,H3,I3,n3⟩:=q3;let⟨m',hm,w3⟩:=hN σ3 H3 n3;exact⟨m',hm,σ3,H3,I3,w3⟩
  |brk=>exact q3
  |ret v=>exact q3
 |false=>
  rw[Ã á];exact wpAny_execs_nil ⟨σ1,H2,I2,q2⟩
end
structure It where
 go:Nat->Hp->Prop
 yld:Nat->Hp->V->Hp->Prop
 stop:Nat->Hp->Prop
def v3(X:Cx)(À:ZB)(H:Hp)(b:Addr):Prop:=
 H b=none/\b≠X.env.locals/\b∉X.fs/\(b∈X.ex\/X.s₀.heap.objs.size<=b)/\(∀x c,X.env.cells.lookup x=some c->c≠b)/\∀p∈X.pn++À,p.1≠b
def Inv.fpOk{X:Cx}{À:ZB}{σ:St}{H H':Hp}{s:Shared}{b:Addr}(I:Inv X À σ H s)(hb:s.heap.objs.size<=b)(hn:H' b=none):v3 X À H' b:=by
 refine⟨hn,Þ (Ú I.lt hb),I.nofs hb,.inr (Ü I.sz hb),λx c e z=>?_,λp hp z=>?_⟩
 .obtain⟨v,q⟩:=I.cell x c e
  exact absurd (Ú q.lt (by rw[z];exact hb)) (û _)
 .exact absurd (Ú (Heap.lt_size (I.pin p hp).1) (by rw[z];exact hb)) (û _)
structure FX(P:Program)(w:World)(K:ZC)(tg:Expr)(J:It)(fp:ZM)(it:Addr)(tn:Nat->Heap->Prop):Prop where
 mem:it∈fp
 obj:∀i h,tn i h->∀b∈fp,∃o,h.get? b=some o/\∀v,o.data≠.cell v
 keep:∀i h h',tn i h->(∀b∈fp,∀o,h.get? b=some o->h'.get? b=some o)->tn i h'
 item:∀(X:Cx),X.prog=P->X.w=w->X.K=K->X.calm=true->∀(i:Nat)(À:ZB)(s:Shared)(σ:St)(H:Hp)(E:ZA),Inv X À σ H s->(∀b∈fp,v3 X À H b)->tn i s.heap->J.go i H ->
  wpAny (model P w) X.A (pyNext (.ref it)) (λr s1=>∃u,r=some u /\
   wpAny (model P w) X.A (letOwnedTupleGo tg (.ref it) u) (λ_ s2=>∃x H',Inv X À σ H' s2/\bI x u/\J.yld i H x H'/\tn (i+1) s2.heap/\∀b∈fp,H' b=none) E s1) E s
 done:∀(X:Cx),X.prog=P->X.w=w->X.K=K->X.calm=true->∀(i:Nat)(À:ZB)(s:Shared)(σ:St)(H:Hp)(E:ZA),Inv X À σ H s->(∀b∈fp,v3 X À H b)->tn i s.heap->J.stop i H ->
  wpAny (model P w) X.A (pyNext (.ref it)) (λr s1=>r=none/\Inv X À σ H s1) E s
 self:∀(A:Around)(i:Nat)(s:Shared)(Q:ZA)(E:ZA),tn i s.heap->Q (.ref it) s->wpAny (model P w) A (pyIter (.ref it)) Q E s
abbrev TI:=St->Hp->(It->Hp->Prop)->Prop
def Ũ(X:Cx)(À:ZB)(σ:St)(tg:Expr)(R:It->Hp->Prop)(itv:Value)(s2:Shared):Prop:=
 ∃(it:Addr)(fp:ZM)(tn:Nat->Heap->Prop)(J:It)(H':Hp),itv=.ref it/\Inv X À σ H' s2/\FX X.prog X.w X.K tg J fp it tn/\tn 0 s2.heap/\(∀b∈fp,v3 X À H' b)/\R J H'
def PI(X:Cx)(tg iter:Expr)(wi:TI):Prop:=
 ∀(À:ZB)(s:Shared)(σ:St)(H:Hp)(R:It->Hp->Prop),Inv X À σ H s->wi σ H R ->
  wpAny 'b' X.A (eval iter X.env) (λv s1=>wpAny 'b' X.A (pyIter v) (Ũ X À σ tg R) X.xe s1) X.xe s
def FY{M:Model}{A:Around}{E:ZA}{s:Shared}{tg:Expr}{it:Addr}{u:Value}{o:Obj}{n:String}{vs:Array Value}{Q:Unit->Shared->Prop}(ho:s.heap.get? it=some o)(hc:o.cls=.type n)(hd:o.data=.fields vs)(hn:["enumerate","zip","dict_itemiterator","dict_reverseitemiterator","odict_iterator","itertools.zip_longest","itertools.pairwise"].contains n=false)(hQ:Q () s):wpAny M A (letOwnedTupleGo tg (.ref it) u) Q E s:=by
 unfold letOwnedTupleGo;cases tg<;>first
  |exact wpAny_pure hQ
  | (cases u<;>first
    |exact wpAny_pure hQ
    | (refine wpAny_bind (wpAny_load ho ?_)
       rw[hc,hd];show wpAny M A (if (["enumerate","zip","dict_itemiterator","dict_reverseitemiterator","odict_iterator","itertools.zip_longest","itertools.pairwise"].contains n && vs[0]? == some (rawInt _))=true then _ else _) Q E s;rw[Ã (by grind)];exact wpAny_pure hQ))
def Ħ(K:ZC)(a:Addr):It:=
 ⟨λi H=>∃xs x,d8 K H a xs/\xs[i]?=some x,λi H x H'=>H'=H/\∀xs,d8 K H a xs->xs[i]?=some x,λi H=>∃xs,d8 K H a xs/\xs.length<=i⟩
def ũ(K:ZC)(a:Addr):It:=
 ⟨λi H=>∃xs x,rN K H a xs/\xs[i]?=some x,λi H x H'=>H'=H/\∀xs,rN K H a xs->xs[i]?=some x,λi H=>∃xs,rN K H a xs/\xs.length<=i⟩
def Ĳ(lo:Int)(n:Nat):It:=⟨λi _=>i<n,λi H x H'=>H'=H/\x=.int (lo+i),λi _=>n<=i⟩
def PX{P:Program}{w:World}{K:ZC}{tg:Expr}(a it:Addr):FX P w K tg (Ħ K a) [it] it (λi h=>h.IsListIter it a i) where
 mem:=by simp
 obj:=λi h st b hb=>by
  have e:b=it:=by simpa using hb
  subst e;let⟨o,e,c,d⟩:=st;exact⟨o,e,λv z=>by rw[d]at z;cases z⟩
 keep:=λi h h' st k=>st.at λo e=>k it 'f' o e
 item:=by
  sleep 2;let⟨xs,x,hq,hx⟩:=hg;let⟨its,rv,p,hz⟩:=I.list hq;let⟨u,hu,ru⟩:=rv.get hx;let⟨f0,f1,f2,f3,f4,f5⟩:=hf it 'f';refine wpAny_pyNext_list_item st p.isList (x:=u) (by simpa using hu) λh' st' sb=>?_;have I1:Inv X À σ H {s with heap:=h'}:=I.turned (t':=s.toks) (λb o hb e=>(sb.2 b hb).trans e) f0 f1 f3 f4 f5;let⟨o,e,c,d⟩:=id st';exact⟨u,rfl,FY (s:={s with heap:=h'}) e c d ⋯ ⟨x,H,I1,ru,⟨rfl,λys hy=>by rw[I.list_inj hy hq];exact hx⟩,st',λb hb=>(hf b hb).1⟩⟩
 done:=by
  sleep 2;let⟨xs,hq,hx⟩:=hg;let⟨its,rv,p,hz⟩:=I.list hq;let⟨f0,f1,f2,f3,f4,f5⟩:=hf it 'f';have hl:=rv.length;exact wpAny_pyNext_list_end (I.ok.hd hc) st p.isList (by simp;lia) λh' eb=>⟨rfl,I.turned (t':=s.toks) (λb o hb e=>eb b o hb e) f0 f1 f3 f4 f5⟩
 self:=λ_ _ _ _ _ st h=>wpAny_pyIter_listiter st h
def J5{P:Program}{w:World}{K:ZC}{tg:Expr}(a it:Addr):FX P w K tg (ũ K a) [it] it (λi h=>h.IsTupleIter it a i) where
 mem:=by simp
 obj:=λi h st b hb=>by
  have e:b=it:=by simpa using hb
  subst e;let⟨o,e,c,d⟩:=st
  grind
 keep:=λi h h' st k=>st.at λo e=>k it 'f' o e
 item:=by
  sleep 2;let⟨xs,x,hq,hx⟩:=hg;let⟨its,rv,p,hz⟩:=I.tuple hq;let⟨u,hu,ru⟩:=rv.get hx;let⟨f0,f1,f2,f3,f4,f5⟩:=hf it 'f';refine wpAny_pyNext_tuple_item st (show s.heap.IsTuple a its.toArray from p) (x:=u) (by simpa using hu) λh' st' sb=>?_;have I1:Inv X À σ H {s with heap:=h'}:=I.turned (t':=s.toks) (λb o hb e=>(sb.2 b hb).trans e) f0 f1 f3 f4 f5;let⟨o,e,c,d⟩:=id st';exact⟨u,rfl,FY (s:={s with heap:=h'}) e c d ⋯ ⟨x,H,I1,ru,⟨rfl,λys hy=>by rw[I.tuple_inj hy hq];exact hx⟩,st',λb hb=>(hf b hb).1⟩⟩
 done:=by
  sleep 2;let⟨xs,hq,hx⟩:=hg;let⟨its,rv,p,hz⟩:=I.tuple hq;let⟨f0,f1,f2,f3,f4,f5⟩:=hf it 'f';have hl:=rv.length;exact wpAny_pyNext_tuple_end (I.ok.hd hc) st (show s.heap.IsTuple a its.toArray from p) (by simp;lia) λh' eb=>⟨rfl,I.turned (t':=s.toks) (λb o hb e=>eb b o hb e) f0 f1 f3 f4 f5⟩
 self:=λ_ _ _ _ _ st h=>wpAny_pyIter_tupleiter st h
def J6{P:Program}{w:World}{K:ZC}{tg:Expr}(it:Addr)(lo:Int)(n:Nat):FX P w K tg (Ĳ lo n) [it] it (λi h=>IsRangeIter h it (lo+(i:Nat)*1) ((n:Int)-(i:Nat)) 1) where
 mem:=by simp
 obj:=λi h st b hb=>by
  grind
 keep:=λi h h' st k=>k it 'f' _ st
 item:=by
  sleep 2;let⟨f0,f1,f2,f3,f4,f5⟩:=hf it 'f';have W:=Walks.range (prog:=X.prog) (w:=X.w) (I.ok.hd hc) it lo 1 n;refine W.item i s _ _ hg st λv h' tk hv st' kk=>?_;let⟨t,rfl⟩:=hv;have I1:Inv X À σ H {s with heap:=h',toks:=tk}:=I.turned (λb o hb e=>kk b o (by simpa using hb) e) f0 f1 f3 f4 f5;refine⟨_,rfl,FY (s:={s with heap:=h',toks:=tk}) (n:="range_iterator") st' rfl rfl ⋯ ⟨.int (lo+i),H,I1,⟨t,?_⟩,⟨rfl,rfl⟩,st',λb hb=>(hf b hb).1⟩⟩;rw[Int.mul_one]
 done:=by
  sleep 2;let⟨f0,f1,f2,f3,f4,f5⟩:=hf it 'f';exact wpAny_pyNext_range_end (I.ok.hd hc) st (by have:n<=i:=hg;lia) λh' eb=>⟨rfl,I.turned (t':=s.toks) (λb o hb e=>eb b o hb e) f0 f1 f3 f4 f5⟩
 self:=λ_ _ _ _ _ st h=>wpAny_pyIter_rangeiter st h
section
variable {X:Cx}{tg:Expr}
def FZ{À:ZB}{σ:St}{H:Hp}{s:Shared}{R:It->Hp->Prop}{E:ZA}{lo hi:Int}{t u v:Tok}{tk:Nat}(I:Inv X À σ H s)(h1:-(2^62)<=lo)(h2:lo<2^62)(h3:-(2^62)<=hi)(h4:hi<2^62)(q:R (Ĳ lo (hi-lo).toNat) H):wpAny 'b' X.A (pyIter (.ref s.heap.objs.size)) (Ũ X À σ tg R) E {s with heap:=s.heap.push {cls:=.type "range",data:=.fields #[.int lo t,.int hi u,.int 1 v]},toks:=tk}:=by
 refine wpAny_pyIter_range (IsRange.new ..) (small_one h1 h2 h3 h4) ?_;have I1:Inv X À σ H {s with heap:=s.heap.push {cls:=.type "range",data:=.fields #[.int lo t,.int hi u,.int 1 v]},toks:=tk}:=I.kept λb o e=>Heap.get?_push_of_some _ e;refine⟨(s.heap.push {cls:=.type "range",data:=.fields #[.int lo t,.int hi u,.int 1 v]}).objs.size,[(s.heap.push {cls:=.type "range",data:=.fields #[.int lo t,.int hi u,.int 1 v]}).objs.size],_,_,H,rfl,
  I1.kept (t':=tk) λb o e=>Heap.get?_push_of_some _ e,J6 _ lo (hi-lo).toNat,?_,λb hb=>?_,q⟩
 .have e1:lo+((0:Nat):Int)*1=lo:=by simp
  have e2:(((hi-lo).toNat:Nat):Int)-((0:Nat):Int)=Builtin.Range.rangeSize lo hi 1:=by rw[rangeSize_one];split<;>lia
  show IsRangeIter _ _ (lo+((0:Nat):Int)*1) ((((hi-lo).toNat:Nat):Int)-((0:Nat):Int)) 1;rw[e1,e2];exact Heap.get?_push_size _ rfl
 .have e:b=(s.heap.push {cls:=.type "range",data:=.fields #[.int lo t,.int hi u,.int 1 v]}).objs.size:=by simpa using hb
  subst e;exact I1.fpOk (È _) (I1.hok.fresh (È _))
def aJ5(ta:TA):TI:=λσ H R=>ta σ H λvs H1=>∃j:Int,vs=[.int j]/\-(2^62)<=j/\j<2^62/\R (Ĳ 0 j.toNat) H1
def aJ6(ta:TA):TI:=λσ H R=>ta σ H λvs H1=>∃i j:Int,vs=[.int i,.int j]/\(-(2^62)<=i/\i<2^62/\-(2^62)<=j/\j<2^62)/\R (Ĳ i (j-i).toNat) H1
def PY(hg:Gl X "range")(hm:X.mg "range"=none)(ha:PA X [a] ta)(hs:↥(starEach [a] X.env=[(false,eval a X.env)])):PI X tg (.Call (.Name "range" p) [a] [] pos) (aJ5 ta):=by
 intro À s σ H R I h;refine Call_ (hW I hg hm boot_range (PyProof.Rows.callWith_type1 (cA (ha pos À s σ H _ I h) λus s1 zQ=>?_) hs rfl));let⟨vs,H1,I1,r1,q1⟩:=zQ;let⟨j,e,q1,q2,q⟩:=q1;subst e;cases r1 with
 |cons r rr=>
  cases rr;let⟨t,rfl⟩:=r;exact call_range_1 (FZ I1 ⋯ ⋯ q1 q2 (by simpa using q))
def PZ{p pos:Pos}(hg:Gl X "range")(hm:X.mg "range"=none)(ha:PA X [a,b] ta)(hs:↥(starEach [a,b] X.env=[(false,eval a X.env),(false,eval b X.env)]))(hs2:↥(starEach [b] X.env=[(false,eval b X.env)])):
  PI X tg (.Call (.Name "range" p) [a,b] [] pos) (aJ6 ta):=by
 intro À s σ H R I h;refine Call_ (hW I hg hm boot_range (PyProof.Rows.callWith_type1 (cA (ha pos À s σ H _ I h) λus s1 zQ=>?_) (by rw[hs,hs2]) (by rw[hs2];rfl)));let⟨vs,H1,I1,r1,q1⟩:=zQ;let⟨i,j,e,⟨q1,q2,q3,q4⟩,q⟩:=q1;subst e;cases r1 with
 |cons r rr=>
  cases rr with
  |cons r' rr=>
   cases rr;let⟨t,rfl⟩:=r;let⟨t',rfl⟩:=r';exact call_range_2 (FZ I1 q1 q2 q3 q4 q)
def Τ(wi:TI)(g:TG)(tb:TS):TS:=λD σ H=>wi σ H λJ H1=>∃W:Nat->Nat->St->Hp->Prop,(∃m,W 0 m σ H1)/\∀i m σ H,W i m σ H ->
 (J.stop i H/\D.nx σ H)\/(J.go i H/\∃N:St->Hp->Prop,(∀σ' H',N σ' H'->∃m',m'<m/\W (i+1) m' σ' H')/\∀x H',J.yld i H x H'->g x σ H' λσ2 H2=>tb {D with nx:=N,ct:=N,bk:=D.nx} σ2 H2)
def wR(fp:ZM)(h:Heap):ZB:=fp.filterMap λb=>(h.get? b).map λo=>(b,o)
def qF(hb:b∈fp)(e:h.get? b=some o):(b,o)∈wR fp h:=List.mem_filterMap.mpr ⟨b,hb,by rw[e];rfl⟩
def P0(hp:p∈wR fp h):p.1∈fp/\h.get? p.1=some p.2:=by
 let⟨b,hb,e⟩:=List.mem_filterMap.mp hp;cases q:h.get? b with
 |none=>rw[q]at e;cases e
 |some o=>
  grind
def Inv.pinned(I:Inv X À σ H s)(hf:∀b∈fp,v3 X À H b)(ho:∀b∈fp,∃o,s.heap.get? b=some o/\∀v,o.data≠.cell v):Inv X (À++wR fp s.heap) σ H s:=
 I.pins_of λp hp=>(ø.mp hp).elim (λz=>I.pin p (Ý _ z)) λz=>by
  let⟨hb,e⟩:=P0 z;let⟨f0,f1,f2,_⟩:=hf p.1 hb
  grind
def Inv.unpinned(I:Inv X (À++pl) σ H s):Inv X À σ H s:=I.pins_of λp hp=>I.pin p (Ý _ (ĝ _ hp))
def TL(hp:PassesOwn 'b' X.A X.env X.xe)(hc:X.calm=true)(hi:PI X tg iter wi)(hg:PG X tg g)(hb:CY X body tb)(hs: ~~~(Zfi iter X.env)):PS X (.For tg iter body [] pos) (Τ wi g tb):=by
 intro À s σ H D I h;refine wpAny_For (cA (hi À s σ H _ I h) λv s1 h1=>cA h1 λitv s2 h2=>?_) hs;let⟨it,fp,tn,J,H2,e,I2,T,st2,f2,W,⟨m0,w0⟩,turn⟩:=h2;subst e
 -- what stays true of the iterator's objects through the loop
 have stat:∀{H':Hp},(∀b∈fp,H' b=none)->∀b∈fp,v3 X À H' b:=λhn b hb=>⟨hn b hb,(f2 b hb).2⟩;refine codeAny_forLoop_any (λn s'=>∃i σ' H',Inv X À σ' H' s'/\tn i s'.heap/\(∀b∈fp,H' b=none)/\W i n σ' H') ?_ m0 ⟨0,σ,H2,I2,st2,λb hb=>(f2 b hb).1,w0⟩;rintro n s3 ⟨i,σ3,H3,I3,st3,fr3,w3⟩;rcases turn i n σ3 H3 w3 with ⟨stop,qn⟩|⟨go,N,hN,step⟩
 .refine wpAny_passesOwn hp (cA (T.done X rfl rfl rfl hc i À s3 σ3 H3 X.xe I3 (stat fr3) st3 stop) λr s4 zQ=>?_);let⟨hr,I4⟩:=zQ
  subst hr;exact wpAny_execs_nil ⟨σ3,H3,I4,qn⟩
 .refine wpAny_passesOwn hp (cA (T.item X rfl rfl rfl hc i À s3 σ3 H3 X.xe I3 (stat fr3) st3 go) λr s4 zQ=>?_);let⟨u,hr,h4⟩:=zQ
  subst hr;refine wpAny_passesOwn hp (cA h4 λ_ s5 zQ=>?_);let⟨x,H5,I5,r5,y5,st5,fr5⟩:=zQ;have I5':=I5.pinned (stat fr5) (T.obj _ _ st5);refine wpAny_passesOwn hp (cA (hg _ s5 σ3 H5 x u _ I5' r5 (step x H5 y5)) λ_ s6 zQ=>?_);let⟨σ6,H6,I6,q6⟩:=zQ;refine wpAny_passesOwn hp (cA (hb _ s6 σ6 H6 _ I6 q6) λf s7 q7=>?_);have again:∀{σ7:St}{H7:Hp},Inv X (À++wR fp s5.heap) σ7 H7 s7->N σ7 H7->∃m,m<n/\∃i σ' H',Inv X À σ' H' s7/\tn i s7.heap/\(∀b∈fp,H' b=none)/\W i m σ' H':=λ{σ7 H7}I7 n7=>by
   let⟨m',hm,w7⟩:=hN σ7 H7 n7;refine⟨m',hm,i+1,σ7,H7,I7.unpinned,T.keep _ _ _ st5 λb hb o e=>(I7.pin (b,o) (Ý _ (Ý _ (qF hb e)))).1,λb hb=>?_,w7⟩;let⟨o,e,d⟩:=T.obj _ _ st5 b hb;exact(I7.pin (b,o) (Ý _ (Ý _ (qF hb e)))).2.1
  cases f with
  |next=>let⟨σ7,H7,I7,n7⟩:=q7;exact again I7 n7
  |cont=>let⟨σ7,H7,I7,n7⟩:=q7;exact again I7 n7
  |brk=>let⟨σ7,H7,I7,q7⟩:=q7;exact⟨σ7,H7,I7.unpinned,q7⟩
  |ret v=>let⟨x7,σ7,H7,I7,r7,q7⟩:=q7;exact⟨x7,σ7,H7,I7.unpinned,r7,q7⟩
end
def TM{K:ZC}{a:Addr}{xs:List V}{g:TG}{tb:TS}{D:AM}{σ:St}{H:Hp}(Pv:Nat->St->Hp->Prop)(h0:Pv 0 σ H)(hl:∀i σ H,i<=xs.length->Pv i σ H->d8 K H a xs)(hs:∀i x σ H,xs[i]?=some x->Pv i σ H->g x σ H λσ2 H2=>tb {D with nx:=Pv (i+1),ct:=Pv (i+1),bk:=D.nx} σ2 H2)(hd:∀σ H,Pv xs.length σ H->D.nx σ H):
  ∃W:Nat->Nat->St->Hp->Prop,(∃m,W 0 m σ H)/\∀i m σ H,W i m σ H ->
   ((Ħ K a).stop i H/\D.nx σ H)\/((Ħ K a).go i H/\∃N:St->Hp->Prop,(∀σ' H',N σ' H'->∃m',m'<m/\W (i+1) m' σ' H')/\∀x H',(Ħ K a).yld i H x H'->g x σ H' λσ2 H2=>tb {D with nx:=N,ct:=N,bk:=D.nx} σ2 H2):=by
 refine⟨λi m σ H=>m=xs.length-i/\i<=xs.length/\Pv i σ H,⟨xs.length,by simp,í _,h0⟩,?_⟩;rintro i m σ H ⟨rfl,hi,p⟩;have q:=hl i σ H hi p;by_cases hlt:i<xs.length
 .refine .inr ⟨⟨xs,xs[i],q,by simp[hlt]⟩,Pv (i+1),λσ' H' p'=>⟨xs.length-(i+1),∅,rfl,hlt,p'⟩,λx H' y=>?_⟩
  let⟨e,y⟩:=y
  grind
 .have e:i=xs.length:=by lia
  subst e;exact .inl ⟨⟨xs,q,È _⟩,hd σ H p⟩
abbrev R2:=V->V->Hp->VK->Prop
def j7(X:Cx)(f:Value->Value->Sem Value)(r:R2):Prop:=
 ∀(À:ZB)(s:Shared)(σ:St)(H:Hp)(x y:V)(v u:Value)(Q:VK),Inv X À σ H s->bI x v->bI y u->r x y H Q ->
  wpAny 'b' X.A (f v u) (EP X À σ Q) X.xe s
def Ū(X:Cx)(f:Value->Sem Value)(r:V->Hp->VK->Prop):Prop:=
 ∀(À:ZB)(s:Shared)(σ:St)(H:Hp)(x:V)(v:Value)(Q:VK),Inv X À σ H s->bI x v->r x H Q ->
  wpAny 'b' X.A (f v) (EP X À σ Q) X.xe s
def gU(X:Cx)(f:Value)(r:List V->Hp->VK->Prop):Prop:=
 ∀(À:ZB)(s:Shared)(σ:St)(H:Hp)(xs:List V)(us:ZJ)(Q:VK),Inv X À σ H s->bH xs us->r xs H Q ->
  wpAny 'b' X.A (call f us) (EP X À σ Q) X.xe s
def aNO(X:Cx)(r:V->Hp->(Bool->Hp->Prop)->Prop):Prop:=
 ∀(À:ZB)(s:Shared)(σ:St)(H:Hp)(x:V)(v:Value)(Q:Bool->Hp->Prop),Inv X À σ H s->bI x v->r x H Q ->
  wpAny 'b' X.A (truthy v) (TP X À σ Q) X.xe s
def ĳ(r:R2)(ta tb:TE):TE:=λσ H Q=>ta σ H λx H1=>tb σ H1 λy H2=>r x y H2 Q
def aPO(r:V->Hp->VK->Prop)(ta:TE):TE:=λσ H Q=>ta σ H λx H1=>r x H1 Q
def rI(C:Int->Int->Prop)(g:Int->Int->V):R2:=λx y H Q=>∃i j,x=.int i/\y=.int j/\C i j/\Q (g i j) H
def TN(g:Int->Int->V):R2:=λx y H Q=>∃i j,x=.int i/\y=.int j/\Q (g i j) H
def rU(g:Int->V):V->Hp->VK->Prop:=λx H Q=>∃i,x=.int i/\Q (g i) H
section
def ū(ha:PE X a ta)(hb:PE X b tb){R:V->V->Hp->Prop}(I:Inv X À σ H s)(h:ta σ H λx H1=>tb σ H1 λy H2=>R x y H2){f:Value->Value->Sem Value}(hf:∀v u s2 x y H2,Inv X À σ H2 s2->bI x v->bI y u->R x y H2->wpAny 'b' X.A (f v u) Q X.xe s2):
  wpAny 'b' X.A (eval a X.env) (λv s₁=>wpAny 'b' X.A (eval b X.env) (λu s₂=>wpAny 'b' X.A (f v u) Q X.xe s₂) X.xe s₁) X.xe s:=by
 refine cA (ha À s σ H _ I h) λv s1 zQ=>?_;let⟨x,H1,I1,r1,q1⟩:=zQ;refine cA (hb À s1 σ H1 _ I1 q1) λu s2 zQ=>?_;let⟨y,H2,I2,r2,q2⟩:=zQ;exact hf v u s2 x y H2 I2 r1 r2 q2
def aJ9(ho:j7 X (binaryOp op) r)(ha:PE X a ta)(hb:PE X b tb):PE X (.BinOp a op b pos) (ĳ r ta tb):=by
 intro À s σ H Q I h;exact wpAny_BinOp (ū ha hb I h λv u s2 x y H2 I2 rx ry q=>ho À s2 σ H2 x y v u Q I2 rx ry q)
def aKA(ho:Ū X (unaryOp op) r)(ha:PE X a ta):PE X (.UnaryOp op a pos) (aPO r ta):=by
 intro À s σ H Q I h;exact UnaryOp_ (cA (ha À s σ H _ I h) λv s1 zQ=>by let⟨x,H1,I1,r1,q1⟩:=zQ;exact ho À s1 σ H1 x v Q I1 r1 q1)
def ŀ{f:Value->Value->Sem Value}{C:Int->Int->Prop}{g:Int->Int->Int}(rule:∀(i j:Int)(t u:Tok)(s:Shared)(Q:ZA)(E:ZA),C i j->Q (.int (g i j) s.toks) {s with toks:=s.toks+1}->wpAny 'b' X.A (f (.int i t) (.int j u)) Q E s):
  j7 X f (rI C λi j=>.int (g i j)):=by
 intro À s σ H x y v u Q I rx ry h;let⟨i,j,rfl,rfl,hc,q⟩:=h;let⟨t,rfl⟩:=rx;let⟨t',rfl⟩:=ry;exact rule i j t t' s _ _ hc ⟨.int (g i j),H,I.tok _,⟨_,rfl⟩,q⟩
def Υ{f:Value->Value->Sem Value}{g:Int->Int->Int}(rule:∀(i j:Int)(t u:Tok)(s:Shared)(Q:ZA)(E:ZA),Q (.int (g i j) s.toks) {s with toks:=s.toks+1}->wpAny 'b' X.A (f (.int i t) (.int j u)) Q E s):
  j7 X f (TN λi j=>.int (g i j)):=by
 intro À s σ H x y v u Q I rx ry h;let⟨i,j,rfl,rfl,q⟩:=h;let⟨t,rfl⟩:=rx;let⟨t',rfl⟩:=ry;exact rule i j t t' s _ _ ⟨.int (g i j),H,I.tok _,⟨_,rfl⟩,q⟩
def Ŭ{f:Value->Value->Sem Value}{g:Int->Int->Bool}(rule:∀(i j:Int)(t u:Tok)(s:Shared)(Q:ZA)(E:ZA),Q (.bool (g i j)) s->wpAny 'b' X.A (f (.int i t) (.int j u)) Q E s):
  j7 X f (TN λi j=>.bl (g i j)):=by
 intro À s σ H x y v u Q I rx ry h;let⟨i,j,rfl,rfl,q⟩:=h;let⟨t,rfl⟩:=rx;let⟨t',rfl⟩:=ry;exact rule i j t t' s _ _ ⟨.bl (g i j),H,I,rfl,q⟩
def Ł(i j:Int):Prop:=0<=j/\j<=1000000/\i.natAbs<2^64
def aGE:j7 X (binaryOp .Add) (TN λi j=>.int (i+j)):=Υ λ_ _ _ _ _ _ _ q=>add_int q
def aGF:j7 X (binaryOp .Sub) (TN λi j=>.int (i-j)):=Υ λ_ _ _ _ _ _ _ q=>sub_int q
def aAM:j7 X (binaryOp .Mod) (rI (λ_ j=>j≠0) λi j=>.int (i.fmod j)):=ŀ λ_ _ _ _ _ _ _ hc q=>mod_int' hc q
def aGG:j7 X (binaryOp .Pow) (rI Ł λi j=>.int (i^j.toNat)):=ŀ λ_ _ _ _ _ _ _ hc q=>pow_int_small hc.1 hc.2.1 hc.2.2 q
def aPP{f:Value->Sem Value}{g:Int->Int}(rule:∀(i:Int)(t:Tok)(s:Shared)(Q:ZA)(E:ZA),Q (.int (g i) s.toks) {s with toks:=s.toks+1}->wpAny 'b' X.A (f (.int i t)) Q E s):
  Ū X f (rU λi=>.int (g i)):=by
 intro À s σ H x v Q I rx h;let⟨i,rfl,q⟩:=h;let⟨t,rfl⟩:=rx;exact rule i t s _ _ ⟨.int (g i),H,I.tok _,⟨_,rfl⟩,q⟩
def aGH:Ū X (unaryOp .USub) (rU λi=>.int (-i)):=aPP λ_ _ _ _ _ q=>neg_int q
end
section
def mV{À:ZB}{σ:St}{H:Hp}{s:Shared}{Q:VK}{k k':Bool}(I:Inv X À σ H s)(q:Q (.bl k) H)(e:k=k'):EP X À σ Q (.bool k') s:=by
 subst e;exact⟨.bl k,H,I,rfl,q⟩
def pN:j7 X (compareOp .Lt) (TN λi j=>.bl (decide (i<j))):=Ŭ λ_ _ _ _ _ _ _ q=>lt_int q
def TQ:j7 X (compareOp .LtE) (TN λi j=>.bl (decide (i<=j))):=Ŭ λ_ _ _ _ _ _ _ q=>le_int q
def BB:j7 X (compareOp .Gt) (TN λi j=>.bl (decide (j<i))):=Ŭ λ_ _ _ _ _ _ _ q=>gt_int q
def TR:j7 X (compareOp .Is) (λx y H Q=>y=.non/\Q (.bl (decide (x=.non))) H):=by
 intro À s σ H x y v u Q I rx ry h;let⟨rfl,q⟩:=h;cases ry;refine is_none_gen (mV I q ?_);cases x<;>first
  |(cases rx;rfl)
  |(let⟨t,rfl⟩:=rx;rfl)
def aAN:j7 X (compareOp .IsNot) (λx y H Q=>y=.non/\Q (.bl (!decide (x=.non))) H):=by
 intro À s σ H x y v u Q I rx ry h;let⟨rfl,q⟩:=h;cases ry;refine isnot_none_gen (mV I q ?_);cases x<;>first
  |(cases rx;rfl)
  |(let⟨t,rfl⟩:=rx;rfl)
def j7.or(h:j7 X f r)(h':j7 X f r'):j7 X f (λx y H Q=>r x y H Q\/r' x y H Q):=by
 intro À s σ H x y v u Q I rx ry q;rcases q with q|q
 .exact h À s σ H x y v u Q I rx ry q
 .exact h' À s σ H x y v u Q I rx ry q
def bB(b:Expr)(h:⇑(op≠.In))(h2:⇑(op≠.NotIn)):behindInMarks op b=false:=by
 have e1:(op == CmpOp.In)=false:=by cases op<;>first|rfl|exact absurd rfl h
 have e2:(op == CmpOp.NotIn)=false:=by cases op<;>first|rfl|exact absurd rfl h2
 cases b<;>simp[behindInMarks,e1,e2]
def aAO(ho:j7 X (compareOp op) r)(ha:PE X a ta)(hb:PE X b tb)(hm:behindInMarks op b=false):PE X (.Compare a [op] [b] pos) (ĳ r ta tb):=by
 intro À s σ H Q I h;exact wpAny_Compare1 (ū ha hb I h λv u s2 x y H2 I2 rx ry q=>ho À s2 σ H2 x y v u Q I2 rx ry q) hm
def Φ(t:TE):TT:=λσ H Q=>t σ H λx H'=>∃k,x=.bl k/\Q k H'
def aAP(ho:j7 X (compareOp op) r)(ha:PE X a ta)(hb:PE X b tb)(hm:behindInMarks op b=false):PT X (.Compare a [op] [b] pos) (Φ (ĳ r ta tb)):=by
 intro À s σ H Q I h;refine wpAny_isTrue_Compare1 (cA (ha À s σ H _ I h) λv s1⟨x,H1,I1,r1,q1⟩=>cA (hb À s1 σ H1 _ I1 q1) λu s2⟨y,H2,I2,r2,q2⟩=>
  cA (ho À s2 σ H2 x y v u _ I2 r1 r2 q2) λc s3⟨z,H3,I3,r3,k,e,q3⟩=>?_) hm
 subst e;cases r3;exact wpAny_truthy_bool ⟨H3,I3,q3⟩
def J7(r r':R2)(ta tb tc:TE):TE:=λσ H Q=>ta σ H λx H1=>tb σ H1 λy H2=>r x y H2 λz H3=>∃k,z=.bl k /\
 (if k=true then tc σ H3 λw' H4=>r' y w' H4 Q else Q (.bl false) H3)
def TU(ho:j7 X (compareOp op) r)(ho':j7 X (compareOp op') r')(ha:PE X a ta)(hb:PE X b tb)(hc:PE X c tc)(hm:lastMarks [op,op'] [b,c]=false:=by with_unfolding_all rfl):PE X (.Compare a [op,op'] [b,c] pos) (J7 r r' ta tb tc):=by
 intro À s σ H Q I h;refine Compare_chain (cA (ha À s σ H _ I h) λv s1⟨x,H1,I1,r1,q1⟩=>chain_link (cA (hb À s1 σ H1 _ I1 q1) λu s2⟨y,H2,I2,r2,q2⟩=>
  cA (ho À s2 σ H2 x y v u _ I2 r1 r2 q2) λd s3⟨z,H3,I3,r3,k,e,q3⟩=>?_)) hm
 subst e;cases r3;refine wpAny_truthy_bool ?_;cases k with
 |false=>exact ite_ff ⟨.bl false,H3,I3,rfl,q3⟩
 |true=>exact ite_tt (chain_last (cA (hc À s3 σ H3 _ I3 q3) λw' s4 zQ=>by let⟨z',H4,I4,r4,q4⟩:=zQ;exact ho' À s4 σ H4 y z' u w' Q I4 r2 r4 q4))
def TV(ho:j7 X (compareOp op) r)(ho':j7 X (compareOp op') r')(ha:PE X a ta)(hb:PE X b tb)(hc:PE X c tc)(hm:lastMarks [op,op'] [b,c]=false:=by with_unfolding_all rfl):PT X (.Compare a [op,op'] [b,c] pos) (Φ (J7 r r' ta tb tc)):=by
 intro À s σ H Q I h;refine isTrue_chain (cA (ha À s σ H _ I h) λv s1⟨x,H1,I1,r1,q1⟩=>test_link (cA (hb À s1 σ H1 _ I1 q1) λu s2⟨y,H2,I2,r2,q2⟩=>
  cA (ho À s2 σ H2 x y v u _ I2 r1 r2 q2) λd s3⟨z,H3,I3,r3,k,e,q3⟩=>?_)) hm
 subst e;cases r3;refine wpAny_truthy_bool ?_;cases k with
 |false=>
  let⟨k',e',q'⟩:=q3;cases e';exact ite_ff ⟨H3,I3,q'⟩
 |true=>
  refine ite_tt (test_last (cA (hc À s3 σ H3 _ I3 q3) λw' s4⟨z',H4,I4,r4,q4⟩=>cA (ho' À s4 σ H4 y z' u w' _ I4 r2 r4 q4) λd' s5 zQ=>?_));let⟨z2,H5,I5,r5,k2,e2,q5⟩:=zQ;subst e2;cases r5;exact wpAny_truthy_bool ⟨H5,I5,q5⟩
def Χ(K:ZC)(x:V)(H:Hp)(k:Bool):Prop:=
 match x with
 |.non=>k=false
 |.bl b=>k=b
 |.int i=>k=(i != 0)
 |.str y=>y.length<=sizeLine/\k=((y.length:Int) != 0)
 |.byt y=>y.size<=sizeLine/\k=((y.size:Int) != 0)
 |.ref p=>(∃xs,d8 K H p xs/\k=!xs.isEmpty)\/(∃xs,rN K H p xs/\k=!xs.isEmpty)\/∃Á,H p=some (.dK Á)/\k=!Á.isEmpty
 |_=>False
def J8{vs:List (κ×Value)}(r:KV Á vs):(!vs.isEmpty)=!Á.isEmpty:=by
 cases r<;>rfl
def wS(r:bH xs its):(!its.toArray.isEmpty)=!xs.isEmpty:=by
 cases r<;>simp
def qG:(sizeLine:Nat)<2^63:=by rw[sizeLine_eq];decide
def aGI:aNO X (λx H Q=>∃k,Χ X.K x H k/\Q k H):=by
 intro À s σ H x v Q I rx h;let⟨k,e,q⟩:=h;have hl:=qG;have hs:sizeLine=16777216:=sizeLine_eq;cases x with
 |non=>
  cases rx;have e':k=false:=e;subst e';exact truthy_none ⟨H,I,q⟩
 |bl b=>
  cases rx;have e':k=b:=e;subst e';exact wpAny_truthy_bool ⟨H,I,q⟩
 |int i=>
  let⟨t,rfl⟩:=rx;have e':k=(i != 0):=e;subst e';exact PySem.P.truthy_int ⟨H,I,q⟩
 |str y=>
  let⟨t,rfl⟩:=rx;obtain⟨hy,e'⟩:y.length<=sizeLine/\k=((y.length:Int) != 0):=e;subst e';exact PySem.P.truthy_str ∅ ⟨H,I.tok _,q⟩
 |byt y=>
  let⟨t,rfl⟩:=rx;obtain⟨hy,e'⟩:y.size<=sizeLine/\k=((y.size:Int) != 0):=e;subst e';exact W.truthy_bytes ∅ ⟨H,I.tok _,q⟩
 |ref p=>
  cases rx;have e':(∃xs,d8 X.K H p xs/\k=!xs.isEmpty)\/(∃xs,rN X.K H p xs/\k=!xs.isEmpty)\/∃Á,H p=some (.dK Á)/\k=!Á.isEmpty:=e;rcases e' with ⟨xs,hx,e'⟩|⟨xs,hx,e'⟩|⟨Á,hx,e'⟩
  .subst e'
   let⟨its,r,pl,hz⟩:=I.list hx;have hlen:=r.length;exact wpAny_truthy_list pl.isList (by grind) ⟨H,I.tok _,by rw[wS r];exact q⟩
  .subst e'
   let⟨its,r,pl,hz⟩:=I.tuple hx;have hlen:=r.length;exact truthy_tuple pl (by grind) ⟨H,I.tok _,by rw[wS r];exact q⟩
  .subst e'
   obtain⟨hz,hS,vs,r,m⟩:Á.length<=sizeLine/\(p == sysModules)=false/\∃vs,KV Á vs/\s.heap.DictOf (cT X.prog X.w) p vs:=I.hok p _ hx;have hlen:Á.length=vs.length:=Paired.length r;exact wpAny_truthy_dict hS m ∅ ⟨H,I.tok _,by rw[J8 r];exact q⟩
 |_=>exact(show False from e).elim
def TW(ha:PE X a ta)(he:∀whole,isTrue a X.env whole=(do let v <- whole;standAt a.pos;holding [v] (truthy v))):
  PT X a (λσ H Q=>ta σ H λx H'=>∃k,Χ X.K x H' k/\Q k H'):=by
 intro À s σ H Q I h;exact isTrue_plain (cA (ha À s σ H _ I h) λv s1 zQ=>by let⟨x,H1,I1,r1,q1⟩:=zQ;exact aGI À s1 σ H1 x v Q I1 r1 q1) (he _)
def J9:j7 X (binaryOp .Add) (λx y H Q=>∃i j,x=.str i/\y=.str j/\i.length+j.length<=sizeLine/\Q (.str (i++j)) H):=by
 intro À s σ H x y v u Q I rx ry h;let⟨i,j,rfl,rfl,hz,q⟩:=h;let⟨t,rfl⟩:=rx;let⟨t',rfl⟩:=ry;exact add_str (λt' tk=>⟨.str (i++j),H,I.tok _,⟨_,rfl⟩,q⟩) hz
def pO(r:bH [x] us):∃u,us=[u]/\bI x u:=by
 cases r with
 |cons r1 r2=>cases r2;exact⟨_,rfl,r1⟩
def TX(r:bH [x,y] us):∃u w',us=[u,w']/\bI x u/\bI y w':=by
 cases r with
 |cons r1 r2=>
  cases r2 with
  |cons r3 r4=>cases r4;exact⟨_,_,rfl,r1,r3⟩
def rQ:gU X (.builtin "abs") (λxs H Q=>∃i,xs=[.int i]/\Q (.int (if i<0 then -i else i)) H):=by
 intro À s σ H xs us Q I r h;let⟨i,rfl,q⟩:=h;let⟨u,rfl,t,rfl⟩:=pO r;exact call_abs_int λu tk=>⟨.int (if i<0 then -i else i),H,I.tok _,⟨_,rfl⟩,q⟩
end
structure KA(h:Heap)(x dx C:Addr)(mA:ZD):Prop where
 obj:h.get? x=some (W.instObj C dx)
 ns:h.Ns1 dx mA
 ne:dx≠x
def P1{h:Heap}(n:h.Ns1 dx mA):∃od,h.get? dx=some od/\∀name,W.lookIn name od=some (mA name):=by
 let⟨o,es,ep,ho,hd,hk,_,hm⟩:=n;refine⟨o,ho,λname=>?_⟩;have e:=hm name;unfold nsFind findBy at e;rw[<- Array.find?_toList]at e;unfold W.lookIn;rw[hd];dsimp only;split
 .grind
 .rename_i q
  rw[q]at e;have a:es.toList.any (·.refKey)=false:=by
   rw[List.any_eq_false];intro y hy;let⟨z,t,hkey⟩:=hk y (Array.mem_toList_iff.mp hy);simp[DictEntry.refKey,hkey]
  grind
def KA.look(I:KA h x dx C mA):∃od,W.InstAt h x (W.instObj C dx) C (some od)/\∀name,W.lookIn name od=some (mA name):=
 let ⟨od,ho,hl⟩:=P1 I.ns
 ⟨od,⟨I.obj,rfl,rfl,ho⟩,hl⟩
section
variable {prog:Program}{w:World}{A:Around}{E:ZA}{s:Shared}{K:ZC}{x dx C f:Addr}{mA:ZD}{name:Str}{v:Value}
def aAQ{expr:Bool}{Q:ZA}(X:K.In s.heap)(I:KA s.heap x dx C mA)(hg:W.plainGet K C name=true)(hh:W.hasDictIn K C=true)(ha:W.findIn K (.ref C) name=some none)(hv:mA name=some v)(hv':W.handedIn v=true)(h:Q v {s with toks:=s.toks+1}):
  wpAny (model prog w) A (getAttr (.ref x) name expr) Q E s:=by
 let⟨od,J,hl⟩:=I.look;exact W.get_value X J (W.plainGet_of hg).1 (W.findObj_own hh ha rfl (by rw[hl,hv])) hv' h
def TY{pl:Sem Bool}{Q:Value×ZJ->Shared->Prop}(X:K.In s.heap)(I:KA s.heap x dx C mA)(hg:W.plainGet K C name=true)(hf:W.findIn K (.ref C) name=some (some (.ref f)))(ht:W.isFn K (.ref f)=true)(hv:mA name=none)(h:Q (.ref f,[.ref x]) s):
  wpAny (model prog w) A (getMethod (.ref x) name pl) Q E s:=by
 let⟨od,J,hl⟩:=I.look;exact W.method_fn X J (W.plainGet_of hg).1 (W.plainGet_of hg).2 hf (beq_iff_eq.mp ht) (by show (W.lookIn name od).map (·.isSome)=some false;rw[hl,hv];rfl) h
def aAR{ns:ZG}{Q:Unit->Shared->Prop}(X:K.In s.heap)(I:KA s.heap x dx C mA)(hs:W.findIn K (.ref C) "__setattr__"=some (some (.builtin "object.__setattr__")))(hp:W.plainOver K C=true)(ht:W.takerIn K C name=some none)(hh:W.hasDictIn K C=true)(hw:PySem.Within mA ns)(hsz:ns.length<=sizeLine)(h:∀h',KA h' x dx C (λy=>if y=name then some v else mA y)->Heap.SameBut dx s.heap h'->Q () {s with heap:=h',toks:=s.toks+2}):
  wpAny (model prog w) A (setAttr (.ref x) name v) Q E s:=by
 let⟨od,J,hl⟩:=I.look;refine W.set_plain X J hs (W.osa_open (s:={s with toks:=s.toks+1}) (r:=none) X J hp ht λb=>?_);let⟨cd,hc,hd'⟩:=W.any_some hh;have hx:s.heap.get? x=some ⟨.ref C,some dx,.plain,#[]⟩:=I.obj;refine wpAny_bind (wpAny_pure (wpAny_bind (wpAny_bind (wpAny_loadPart hx (wpAny_bind (W.Looks.here (s:={s with toks:=s.toks+1}) (W.looks_clsIn X hc) ?_))))));rw[hd'];refine wpAny_pure (a:=some dx) (wpAny_bind (wpAny_pure (wpAny_bind ?_)));refine wpAny_nsSet1 (s:={s with toks:=s.toks+1}) I.ns λh' hn2 hs2=>?_;let⟨oD,esD,epD,hoD,hdD,hcD⟩:=hn2.count (PySem.Within.cons name v hw);refine wpAny_bind (wpAny_lookBehind hoD (by rw[hdD];exact pastItsLine_dict (Ü hcD (by grind))) ?_)
 exact wpAny_pure (h _ ⟨(hs2.2 _ (Ñ I.ne)).trans I.obj,hn2,I.ne⟩ hs2)
def TZ(X:K.In s.heap)(hm:W.makesIn K C=true)(hi:W.findIn K (.ref C) "__init__"=some (some (.ref f)))(hf:W.typeIn K (.ref f)=some (.type "function"))(h:codeAny (model prog w) (A.under (.builtin "type.__call__" ⟨.ref C::vs,kw⟩)) (.call (.ref f) ⟨.ref (s.heap.objs.size+1)::vs,kw⟩) (W.InitBack (s.heap.objs.size+1) R)
   {s with heap:=(s.heap.push W.emptyDict).push (W.instObj C s.heap.objs.size)}):
  codeAny (model prog w) A (.call (.ref C) ⟨vs,kw⟩) R s:=by
 let⟨hh,g,d,t,os⟩:=s;exact W.make_core (W.makes_of X hm) (W.looks_findIn X hi) (λself=>W.bind_fn X self hf) (.inl rfl) h
end
def kP(f:Str)(v:V):List (Str×V)->List (Str×V)
 |[]=>[(f,v)]
 |(g,x)::r=>if g=f then (g,v)::r else (g,x)::kP f v r
def vJ(f g:Str)(v:V):∀fs:List (Str×V),(kP f v fs).lookup g=if g=f then some v else fs.lookup g
 |[]=>by
  show List.lookup g [(f,v)]=_
  grind
 |(k,x)::r=>by
  have ih:=vJ f g v r;rw[show kP f v ((k,x)::r)=(if k=f then (k,v)::r else (k,x)::kP f v r)from rfl]
  grind
def t9(f:Str)(v:V):∀fs:List (Str×V),f∈(kP f v fs).map (·.1)/\∀g,g∈fs.map (·.1)->g∈(kP f v fs).map (·.1)
 |[]=>⟨by simp[kP],λg h=>by simp at h⟩
 |(k,x)::r=>by
  let⟨i1,i2⟩:=t9 f v r;rw[show kP f v ((k,x)::r)=(if k=f then (k,v)::r else (k,x)::kP f v r)from rfl]
  grind
def vK(f:Str)(v:V):∀fs:List (Str×V),(kP f v fs).length<=fs.length+1
 |[]=>by simp[kP]
 |(k,x)::r=>by
  have ih:=vK f v r;rw[show kP f v ((k,x)::r)=(if k=f then (k,v)::r else (k,x)::kP f v r)from rfl]
  grind
def mU.some_of(r:mU (some v) o):∃u,o=some u/\bI v u:=by
 cases o with
 |none=>exact(show False from r).elim
 |some u=>exact⟨u,rfl,r⟩
def mU.none_of(r:mU none o):o=none:=by
 cases o with
 |none=>rfl
 |some u=>exact(show False from r).elim
def P3(r:bI v u):W.handedIn u=true:=by
 cases v with
 |non=>cases (show u=Value.none from r);rfl
 |bl b=>cases (show u=Value.bool b from r);rfl
 |int i=>let⟨t,e⟩:=(show ∃t,u=Value.int i t from r);cases e;rfl
 |str x=>let⟨t,e⟩:=(show ∃t,u=Value.str x t from r);cases e;rfl
 |byt b=>let⟨t,e⟩:=(show ∃t,u=Value.bytes b t from r);cases e;rfl
 |flt b=>let⟨t,e⟩:=(show ∃t,u=Value.float b t from r);cases e;rfl
 |ref a=>cases (show u=Value.ref a from r);rfl
 |ty n=>cases (show u=Value.type n from r);rfl
section
def C3(hok:oB P w H h)(e:H a=some (.ins C dx fs)):∃mA,KA h a dx C mA/\(∀f,mU (fs.lookup f) (mA f))/\PySem.Within mA (fs.map (·.1))/\fs.length<=1000/\H dx=some (.own a):=by
 let⟨d,z,ne,ob,mA,n,r,q⟩:=(show eC P w H h a (.ins C dx fs)from hok a _ e);exact⟨mA,⟨ob,n,ne⟩,r,q,z,d⟩
end
structure SQ(K:ZC)(C:Addr):Prop where
 pg:W.plainGet K C Str.empty=true
 hd:W.hasDictIn K C=true
 po:W.plainOver K C=true
 sa:W.findIn K (.ref C) "__setattr__"=some (some (.builtin "object.__setattr__"))
def SQ.get{K:ZC}(c:SQ K C)(f:Str):W.plainGet K C f=true:=c.pg
def lM(K:ZC)(C:Addr)(f:Str):Prop:=W.findIn K (.ref C) f=some none
def lM.taker{K:ZC}(n:lM K C f):W.takerIn K C f=some none:=by
 unfold W.takerIn;rw[show W.findIn K (.ref C) f=some none from n];rfl
structure ł(K:ZC)(C:Addr)(m:Str)(f:Addr):Prop where
 at_:W.findIn K (.ref C) m=some (some (.ref f))
 fn:W.isFn K (.ref f)=true
 kp:W.keepIn K (.ref f)=true
section
variable {X:Cx}{À:ZB}{σ:St}{H:Hp}{s:Shared}{a C dx:Addr}{fs:List (Str×V)}{f:Str}{v:V}{A:Around}{E:ZA}
def KB(I:Inv X À σ H s)(e:H a=some (.ins C dx fs))(c:SQ X.K C)(n:lM X.K C f)(l:fs.lookup f=some v)(h:∀u s',Inv X À σ H s'->bI v u->Q u s'):wpAny 'b' A (getAttr (.ref a) f b) Q E s:=by
 let⟨mA,O,r,_,_,_⟩:=C3 I.hok e;let⟨u,hu,ru⟩:=mU.some_of (v:=v) (o:=mA f) (by rw[<- l];exact r f);exact aAQ I.kIn O (c.get f) c.hd n hu (P3 ru) (h u _ (I.tok _) ru)
def KC{m:Str}{g:Addr}{pl:Sem Bool}{Q:Value×ZJ->Shared->Prop}(I:Inv X À σ H s)(e:H a=some (.ins C dx fs))(c:SQ X.K C)(k:ł X.K C m g)(l:fs.lookup m=none)(h:Q (.ref g,[.ref a]) s):wpAny 'b' A (getMethod (.ref a) m pl) Q E s:=by
 let⟨mA,O,r,_,_,_⟩:=C3 I.hok e;have hn:mA m=none:=mU.none_of (by rw[<- l];exact r m);exact TY I.kIn O (c.get m) k.at_ k.fn hn h
def KD{y:V}{u:Value}{Q:Unit->Shared->Prop}(I:Inv X À σ H s)(e:H a=some (.ins C dx fs))(c:SQ X.K C)(n:lM X.K C f)(hl:fs.length<1000)(ry:bI y u)(h:∀s',Inv X À σ (aV H a (.ins C dx (kP f y fs))) s'->Q () s'):wpAny 'b' A (setAttr (.ref a) f u) Q E s:=by
 let⟨mA,O,r,wi,_,ho⟩:=C3 I.hok e;have hz:(fs.map (·.1)).length<=sizeLine:=by rw[Å,sizeLine_eq];lia
 refine aAR I.kIn O c.sa c.po n.taker c.hd wi hz λh' O' sb=>h _ ?_;have hd:∃o,h'.get? dx=some o:=let ⟨o,_,_,e',_⟩:=O'.ns;⟨o,e'⟩
 refine I.write (x:=a) (e:=dx) (by rw[e];exact True.intro) (.inr ho) (λb q hb z=>(sb.2 b hb).trans z) hd ?_;refine⟨by rw[aE O.ne];exact ho,?_,O.ne,O'.obj,_,O'.ns,λg=>?_,λg hg=>?_⟩
 .have:=vK f y fs;exact Ü ‹_› ‹_›
 .show mU ((kP f y fs).lookup g) (if g=f then some u else mA g)
  rw[vJ];by_cases q:g=f
  .rw[Â q,Â q];exact ry
  grind
 .by_cases q:g=f
  .rw[q];exact(t9 f y fs).1
  .refine(t9 f y fs).2 g (wi g λz=>hg ?_)
   grind
def Inv.made(I:Inv X À σ H s):Inv X À σ (aV (aV H s.heap.objs.size (.own (s.heap.objs.size+1))) (s.heap.objs.size+1) (.ins C s.heap.objs.size []))
  {s with heap:=(s.heap.push W.emptyDict).push (W.instObj C s.heap.objs.size)}:=by
 have e1:(s.heap.push W.emptyDict).get? s.heap.objs.size=some W.emptyDict:=Heap.get?_push_size s.heap rfl;have e2:((s.heap.push W.emptyDict).push (W.instObj C s.heap.objs.size)).get? (s.heap.objs.size+1)=some (W.instObj C s.heap.objs.size):=by
  have:=Heap.get?_push_size (s.heap.push W.emptyDict) (o:=W.instObj C s.heap.objs.size) rfl
  rwa [Heap.size_push]at this
 have e3:(s.heap.push W.emptyDict).Ns s.heap.objs.size (λ_=>none):=⟨W.emptyDict,#[],_,e1,rfl,(λe he=>absurd he 'f'),λ_=>rfl⟩;have I1:=I.laid (a:=s.heap.objs.size) (o:=.own (s.heap.objs.size+1)) (h':=s.heap.push W.emptyDict) (t':=s.toks) (λb u q=>Heap.get?_push_of_some _ q) (È _) ⟨_,e1⟩;refine I1.laid (a:=s.heap.objs.size+1) (o:=.ins C s.heap.objs.size []) (t':=s.toks) (λb u q=>Heap.get?_push_of_some _ q) (ú (Heap.size_push _ _)) ?_;have ne:s.heap.objs.size≠s.heap.objs.size+1:=Ï (ð _);refine⟨by rw[aE ne,aJ],í _,ne,e2,λ_=>none,(Heap.Ns1.of_empty e3).at λo q=>Heap.get?_push_of_some _ q,λ_=>True.intro,λy hy=>absurd rfl hy⟩
def aAT(hb:attributeBase e f env (eval e env)=eval e env)(h:wpAny (model prog w) A (eval e env) (λo s₁=>wpAny (model prog w) A (getAttr o f true) Q E s₁) E s):wpAny (model prog w) A (eval (.Attribute e f pos) env) Q E s:=
 Attribute_any_ h (by rw[arm_eval_Attribute,hb])
end
def aNP(K:ZC)(ta:TE)(f:Str):TE:=λσ H Q=>ta σ H λx H1=>∃a C dx fs v,x=.ref a/\H1 a=some (.ins C dx fs)/\SQ K C/\lM K C f/\fs.lookup f=some v/\Q v H1
def aNQ(K:ZC)(ta tv:TE)(f:Str):TS:=λD σ H=>tv σ H λy H1=>ta σ H1 λx H2=>∃a C dx fs,x=.ref a/\H2 a=some (.ins C dx fs)/\SQ K C/\lM K C f/\fs.length<1000 /\
 D.nx σ (aV H2 a (.ins C dx (kP f y fs)))
section
def C4(he:PE X e ta)(hb:attributeBase e f X.env (eval e X.env)=eval e X.env):PE X (.Attribute e f pos) (aNP X.K ta f):=by
 intro À s σ H Q I h;refine aAT hb (cA (he À s σ H _ I h) λu s1 zQ=>?_);let⟨x,H1,I1,rx,a,C,dx,fs,v,ex,ea,c,n,l,q⟩:=zQ;subst ex;obtain rfl:u=Value.ref a:=rx;exact KB I1 ea c n l λu' s2 I2 ru=>⟨v,H1,I2,ru,q⟩
def aGJ(ha:PE X o ta)(hv:PE X value tv)(hs:swapsWith value (some (.Attribute o f pos')) pos.line X.env=pure false):PS X (.Assign [.Attribute o f pos'] value pos) (aNQ X.K ta tv f):=by
 intro À s σ H D I h;refine plainObj_wpAny_Assign_Attribute (cA (hv À s σ H _ I h) λu s1⟨y,H1,I1,ry,q⟩=>cA (ha À s1 σ H1 _ I1 q) λov s2 zQ=>?_) hs;let⟨x,H2,I2,rx,a,C,dx,fs,ex,ea,c,n,l,q2⟩:=zQ;subst ex;obtain rfl:ov=Value.ref a:=rx;exact KD I2 ea c n l ry λs3 I3=>⟨σ,_,I3,q2⟩
end
section
end
structure fD(k:Nat)(A:Around):Prop where
 hd:A.handled=none
 dp:A.depth+3*k+5<recursionLimit
 un:A.units+16*k+200<cLine
def fD.mono(r:fD k A)(h:j<=k):fD j A:=⟨r.hd,by have:=r.dp;lia,by have:=r.un;lia⟩
def fD.deeper(r:fD (k+1) A)(env:Env):fD k (A.deeper env):=
 ⟨r.hd,by have:=r.dp;show A.depth+1+3*k+5<_;lia,by have:=r.un;show A.units+3+16*k+200<_;lia⟩
def KF{A:Around}:(A.under (.builtin "type.__call__" ⟨.ref C::us,kw⟩)).depth=A.depth+1:=by
 first|rfl|simp[Around.under,Code.weight,Code.isCreation,Code.isGuard,Code.isCaller,Code.frames,Code.isFrame,guardIds]
def KG{A:Around}:(A.under (.builtin "type.__call__" ⟨.ref C::us,kw⟩)).units=A.units+1:=by
 first|rfl|simp[Around.under,Code.cUnits,Code.frames,Code.isFrame]
def fD.make(r:fD (k+1) A)(C:Addr)(us:ZJ)(kw:List (Str×Value)):fD k (A.under (.builtin "type.__call__" ⟨.ref C::us,kw⟩)):=
 ⟨r.hd,by have:=r.dp;rw[KF];lia,by have:=r.un;rw[KG];lia⟩
def fD.depth(r:fD k A):A.depth<recursionLimit:=by have:=r.dp;lia
def fD.units(r:fD k A):A.units+64<cLine:=by have:=r.un;lia
def Ń:TA:=λ_ H Q=>Q [] H
def MN(ta:TE)(tr:TA):TA:=λσ H Q=>ta σ H λx H1=>tr σ H1 λxs H2=>Q (x::xs) H2
section
def iP:PA X [] Ń:=λ_ _ _ _ H Q I h=>Calls.spliced_nil ⟨[],H,I,.nil,h⟩
def dO(ha:PE X e te)(hr:PA X es t)(hs:↥(Zse e es X.env)):PA X (e::es) (MN te t):=by
 intro pos À s σ H Q I h;rw[hs];show wpAny _ _ (spliced ((false,eval e X.env)::backTo pos (starEach es X.env))) _ _ s;refine Calls.spliced_cons (cA (ha À s σ H _ I h) λu s1 zQ=>?_);let⟨x,H1,I1,r1,q1⟩:=zQ;exact cA (hr pos À s1 σ H1 _ I1 q1) λus s2 zQ=>by let⟨xs,H2,I2,r2,q2⟩:=zQ;exact ⟨x::xs,H2,I2,.cons r1 r2,q2⟩
def aNR(t:TA):TE:=λσ H Q=>t σ H λxs H1=>xs.length<=sizeLine/\∀p,H1 p=none->Q (.ref p) (aV H1 p (.tup xs))
def aNS(t:TA):TE:=λσ H Q=>t σ H λxs H1=>xs.length<=sizeLine/\∀p,H1 p=none->Q (.ref p) (aV H1 p (.lst xs))
def T0(h:PA X es t):PE X (.Tuple es x1 pos) (aNR t):=by
 intro À s σ H Q I hq;refine wpAny_Tuple_spliced (cA (h pos À s σ H _ I hq) λus s1⟨xs,H1,I1,r,z,q⟩=>⟨by rw[<- r.length];exact z,?_⟩);have hf:H1 s1.heap.objs.size=none:=I1.hok.fresh (È _);refine⟨.ref s1.heap.objs.size,aV H1 s1.heap.objs.size (.tup xs),I1.laid (t':=s1.toks) (λb u e=>Heap.get?_push_of_some _ e) (È _) ?_,rfl,q _ hf⟩;exact⟨z,us,r,⟨_,Heap.get?_push_size _ rfl,rfl,_,rfl⟩⟩
def aGK(h:PA X es t):PE X (.List es pos) (aNS t):=by
 intro À s σ H Q I hq;refine wpAny_List_spliced (cA (h pos À s σ H _ I hq) λus s1⟨xs,H1,I1,r,z,q⟩=>⟨by rw[<- r.length];exact z,?_⟩);have hf:H1 s1.heap.objs.size=none:=I1.hok.fresh (È _);refine⟨.ref s1.heap.objs.size,aV H1 s1.heap.objs.size (.lst xs),I1.laid (t':=s1.toks) (λb u e=>Heap.get?_push_of_some _ e) (È _) ?_,rfl,q _ hf⟩;exact⟨z,us,0,r,Heap.get?_push_size _ rfl⟩
end
abbrev Sp:=List V->Hp->VK->XK->Prop
abbrev SR:=List Env->Hp->Shared->XK->ZA
structure KH(P:Program)(w:World)(K:ZC)(mg:ZD)(base:Heap)(A:Around)(outer:List Env)(s:Shared)(H:Hp):Prop where
 frames:A.frames=some outer
 mod:Mod K mg base
 bs:∀b o,base.get? b=some o->s.heap.get? b=some o/\H b=none
 bsz:base.objs.size<=s.heap.objs.size
 funs:s.heap.FunFrames base outer
 frf:∀b∈PR outer,H b=none
 hok:oB P w H s.heap
 bare:AllBare s.gens
def CE(outer:List Env)(P:Program)(w:World)(H:Hp)(s:Shared)(Q:VK)(u:Value)(s':Shared):Prop:=
 ∃v H',s'.os=s.os/\AllBare s'.gens/\Un (PR outer) [] H H' s.heap s'.heap/\oB P w H' s'.heap/\bI v u/\Q v H'
def CR(CX:SR)(outer:List Env)(P:Program)(w:World)(H:Hp)(s:Shared)(Q:VK)(E:XK)(r:Result)(s':Shared):Prop:=
 match r with
 |.ok (.ret u)=>CE outer P w H s Q u s'
 |.ok _=>False
 |.error e=>CX outer H s E e s'
structure qH(P:Program)(w:World)(K:ZC)(mg:ZD)(base:Heap)(CX:SR)(k:Nat)(f:Addr)(fd:FuncData)(ps:ZG)(sp:Sp):Prop where
 len:∀vs H Q E,sp vs H Q E->vs.length=ps.length
 run:∀(A:Around)(outer:List Env)(s:Shared)(H:Hp)(args:Args)(us:ZJ)(vs:List V)(Q:VK)(E:XK),fD k A->KH P w K mg base A outer s H->BindsTo s fd args (ps.zip us)->bH vs us->sp vs H Q E ->
  codeAny (model P w) A (.call (.ref f) args) (CR CX outer P w H s Q E) s
def KH.make{K:ZC}(e:KH P w K mg base A outer s H)(C:Addr)(us:ZJ)(kw:List (Str×Value)):
  KH P w K mg base (A.under (.builtin "type.__call__" ⟨.ref C::us,kw⟩)) outer s H:=⟨by first|exact e.frames|(simpa[Around.under,Code.envs,Code.isFrame,pushEnvs]using e.frames),e.mod,e.bs,e.bsz,e.funs,e.frf,e.hok,e.bare⟩
section
variable {X:Cx}{À:ZB}{σ:St}{H:Hp}{s s':Shared}
def Inv.env0(I:Inv X À σ H s):KH X.prog X.w X.K X.mg X.base X.A X.stack s H:=
 ⟨I.ok.frames,I.ok.mod,I.bs,Ü I.ok.bsz I.sz,I.stack,I.stkFree,I.hok,I.bare⟩
def Inv.after(I:Inv X À σ H s)(h:CE X.stack X.prog X.w H s Q u s'):EP X À σ Q u s':=by
 let⟨v,H',os,bare,un,hok,r,q⟩:=h;let⟨hh,g,d,t,os'⟩:=s';obtain rfl:os'=s.os:=os;exact⟨v,H',I.call (h':=hh) (g':=g) (d':=d) (t':=t) (ch:=[]) un hok bare (λb z=>absurd z 'f'),r,q⟩
end
def pQ(K:ZC)(fd:FuncData)(ps:ZG)(ds:ZJ):Prop:=
 ∀(s:Shared)(us:ZJ),K.In s.heap->(us++ds).length=ps.length->BindsTo s fd ⟨us,[]⟩ (ps.zip (us++ds))
def pQ.all{K:ZC}(h:∀us:ZJ,us.length=ps.length->bindArgs fd ⟨us,[]⟩=pure (ps.zip us)):pQ K fd ps []:=λs us _ hl=>by
 rw[â]at hl⊢;exact .of_eq (h us hl)
section
structure Mk(K:ZC)(C f:Addr):Prop where
 makes:W.makesIn K C=true
 init:W.findIn K (.ref C) "__init__"=some (some (.ref f))
 fn:W.isFn K (.ref f)=true
 kp:W.keepIn K (.ref C)=true
end
section
end
structure jM(N P:ZG)(sc:Scope):Prop where
 kind:sc.kind=.function
 co:sc.isCoroutine=false
 gen:sc.isGenerator=false
 nd:N.Nodup
 pre:N.take P.length=P
 par:∀x∈P,sc.names.lookup x=some .local\/sc.names.lookup x=some .cell
 nofree:∀y∈sc.names,y.2≠.free
def BC{kindOf:Str->Option NameKind}:∀{binds:List (Str×Value)}{m:ZD},(∀v,(x,v)∉binds)->bindL kindOf binds m x=m x
 |[],_,_=>rfl
 |(n,v)::r,m,h=>by
  unfold bindL;rw[BC λw hw=>h w (Ó _ hw)];split
  all_goals grind
def BD{kindOf:Str->Option NameKind}:∀{binds:List (Str×Value)}{m:ZD},(∀v,(x,v)∉binds)->bindC kindOf binds m x=m x
 |[],_,_=>rfl
 |(n,v)::r,m,h=>by
  unfold bindC;rw[BD λw hw=>h w (Ó _ hw)];split
  all_goals grind
def BE{kindOf:Str->Option NameKind}{x:Str}{v:Value}:∀{P:ZG}{vs:ZJ}{i:Nat}{m:ZD},P.Nodup->P[i]?=some x->vs[i]?=some v->kindOf x=some .local ->
  bindL kindOf (P.zip vs) m x=some v
 |[],_,_,_,_,h,_,_=>by simp at h
 |_::_,[],_,_,_,_,h,_=>by simp at h
 |p::P,w::vs,0,m,nd,h1,h2,hk=>by
  simp at h1 h2;subst h1;subst h2;show bindL kindOf ((p,w)::P.zip vs) m p=_;unfold bindL;rw[BC λv hv=>(List.nodup_cons.mp nd).1 (List.of_mem_zip hv).1,Â hk];simp
 |p::P,w::vs,i+1,m,nd,h1,h2,hk=>by
  show bindL kindOf ((p,w)::P.zip vs) m x=_;unfold bindL;exact BE (i:=i) (List.nodup_cons.mp nd).2 (by simpa using h1) (by simpa using h2) hk
def BF{kindOf:Str->Option NameKind}{x:Str}{v:Value}:∀{P:ZG}{vs:ZJ}{i:Nat}{m:ZD},P.Nodup->P[i]?=some x->vs[i]?=some v->kindOf x≠some .local ->
  bindC kindOf (P.zip vs) m x=some v
 |[],_,_,_,_,h,_,_=>by simp at h
 |_::_,[],_,_,_,_,h,_=>by simp at h
 |p::P,w::vs,0,m,nd,h1,h2,hk=>by
  simp at h1 h2;subst h1;subst h2;show bindC kindOf ((p,w)::P.zip vs) m p=_;unfold bindC;rw[BD λv hv=>(List.nodup_cons.mp nd).1 (List.of_mem_zip hv).1,Ã hk];simp
 |p::P,w::vs,i+1,m,nd,h1,h2,hk=>by
  show bindC kindOf ((p,w)::P.zip vs) m x=_;unfold bindC;exact BF (i:=i) (List.nodup_cons.mp nd).2 (by simpa using h1) (by simpa using h2) hk
def start(N:ZG)(vs:List V):St:=vs.map some++List.replicate (N.length-vs.length) none
def v4(CX:SR)(P:Program)(w:World)(K:ZC)(mg:ZD)(base:Heap)(N:ZG)(qual:Str)(scope:Scope)(f:Addr)(cd:Value)(A:Around)(outer:List Env)(s:Shared)(H:Hp)(E:XK):Cx where
 prog:=P
 w:=w
 K:=K
 mg:=mg
 base:=base
 A:=A.deeper (envOfC qual scope s.heap.objs.size f cd)
 N:=N
 s₀:=s
 H₀:=H
 env:=envOfC qual scope s.heap.objs.size f cd
 outer:=outer
 stack:=envOfC qual scope s.heap.objs.size f cd::outer
 ex:=[]
 calm:=true
 fn:=λ_=>true
 pn:=[]
 xe:=λe s'=>wpAny (model P w) (A.deeper (envOfC qual scope s.heap.objs.size f cd)) (leaving (envOfC qual scope s.heap.objs.size f cd) e) (λ_ s''=>CX outer H s E e s'') (λe' s''=>CX outer H s E e' s'') s'
def F8{sc:Scope}(h:sc.names.lookup x=some .cell):∃c,(cellsFrom n sc.names []).lookup x=some c:=by
 have q:=W.cellsFrom_some sc.names n [] (.inl h);exact Option.isSome_iff_exists.mp q
def P4{K:ZC}{outer:List Env}{s s1:Shared}{H:Hp}{E:XK}{us:ZJ}{vs:List V}(S:jM N ps scope)(hd:A.handled=none)(e0:KH P w K mg base A outer s H)(hl:vs.length=ps.length)(r:bH vs us)(x:InCallC s s.heap.objs.size (bindL (envOfC qual scope s.heap.objs.size f cd).kindOf (ps.zip us) λ_=>none) (cellsFrom (s.heap.objs.size+1) scope.names []) (bindC (envOfC qual scope s.heap.objs.size f cd).kindOf (ps.zip us) λ_=>none) s1):
  Inv (v4 CX P w K mg base N qual scope f cd A outer s H E) [] (start N vs) H s1:=by
 have hpl:ps.length<=N.length:=by have:=congrArg List.length S.pre;rw[ê]at this;lia
 let⟨h1,tk,rfl,hk⟩:=x.done;have noA:∀b:Addr,b∉(v4 CX P w K mg base N qual scope f cd A outer s H E).ex:=λb z=>absurd (show b∈([]:ZM)from z) 'f';refine⟨⟨e0.mod,S.kind,rfl,rfl,È _,λy z c h1 h2=>?_,λy hy=>?_,λy c _ h=>?_,λ_=>hd,Around.frames_deeper e0.frames,.inr ⟨rfl,rfl⟩,λb z=>absurd z (noA b),e0.bs,e0.bsz,λb _ _=>noA b,λb z=>absurd z (noA b),e0.funs,e0.frf⟩,
  rfl,e0.bare,Un.kept hk,⟨_,x.toInCall.ns,λi y v h1 h2 h3=>?_⟩,λy c h=>⟨_,x.cell y c h⟩,e0.hok.fresh (È _),λy c h=>?_,λp hp=>absurd (show p∈([]:ZB)from hp) 'f',e0.hok.kept hk,?_⟩
 .exact name_of_addr x.apart (Ā h1) (Ā h2)
 .have hy:scope.names.lookup y=some .cell\/scope.names.lookup y=some .free:=hy
  rcases hy with hy|hy
  .exact F8 hy
  .exact absurd rfl (S.nofree _ (Ā hy))
 .exact É (x.above y c (Ā h))
 .have hi:i<vs.length:=by
   unfold start at h2;by_cases hi:i<vs.length
   .exact hi
   .rw[ã (by simpa using hi)]at h2
    rw[ÿ]at h2;split at h2<;>cases h2
  have ha:vs[i]?=some v:=by
   unfold start at h2;rw[ó (by simpa using hi),Ò]at h2;cases e:vs[i]? with
   |none=>rw[e]at h2;cases h2
   |some a=>rw[e]at h2;cases h2;rfl
  let⟨u,hu,rv⟩:=r.get ha;have hp:ps[i]?=some y:=by
   rw[<- S.pre,List.getElem?_take_of_lt (by exact õ ‹_› ‹_›)];exact h1
  have ndP:ps.Nodup:=by rw[<- S.pre];exact S.nd.sublist (List.take_sublist _ _)
  refine⟨u,rv,?_⟩;rcases S.par y (Ĉ hp)with k|k
  .exact .inl ⟨k,BE ndP hp hu k⟩
  .obtain⟨c,e⟩:=F8 (n:=s.heap.objs.size+1) k
   refine .inr ⟨.inl k,c,e,?_⟩;have q:=x.cell y c e;rw[BF ndP hp hu (by show scope.names.lookup y≠_;rw[k];decide)]at q
   exact q
 .exact e0.hok.fresh (É (x.above y c (Ā h)))
 .unfold start
  show _=N.length;rw[Ð,Å,î];lia
def aKD{K:ZC}{dV kV doc pm cdv ct oc:Value}{an od:Option Addr}{osl:Array (ZN)}{N ps:ZG}{sp:Sp}(lk:K.lookup f=some ⟨oc,od,.func (W.fnOf name qual params body scope dV kV doc pm an cdv ct),osl⟩)(hcd:W.codeIn K cdv qual=true)(S:jM N ps scope)(len:∀vs H Q E,sp vs H Q E->vs.length=ps.length)(hbody:∀(A:Around)(outer:List Env)(s:Shared)(H:Hp)(vs:List V)(Q:VK)(E:XK),fD k (A.deeper (envOfC qual scope s.heap.objs.size f cdv))->sp vs H Q E ->
   ∃t,CY (v4 CX P w K mg base N qual scope f cdv A outer s H E) body t/\t {nx:=λ_ H'=>Q .non H',rt:=Q} (start N vs) H):
  qH P w K mg base CX (k+1) f (W.fnOf name qual params body scope dV kV doc pm an cdv ct) ps sp:=by
 refine⟨len,λA outer s H args us vs Q E hr e0 hb r hsp=>?_⟩;have hl:=len _ _ _ _ hsp;have KX:K.In s.heap:=e0.mod.kin.keeps λb o e=>(e0.bs b o e).1;have lim:s.heap.NoLimit:=e0.mod.nolimit.keeps λb o e=>(e0.bs b o e).1;have hkind:∀y∈ps.zip us,scope.names.lookup y.1=some .local\/(scope.names.lookup y.1=some .cell/\((cellsFrom (s.heap.objs.size+1) scope.names []).lookup y.1).isSome=true):=λ⟨n,v⟩hy=>by
  rcases S.par n (List.of_mem_zip hy).1 with q|q
  .exact .inl q
  .exact .inr ⟨q,W.cellsFrom_some _ _ _ (.inl q)⟩
 refine codeAny_call_function hr.depth (KX _ _ lk) rfl S.co S.gen rfl (W.codeRec_of KX hcd) (hb _ _ _ _ ?_);refine wpAny_newFunctionEnv_cells S.kind hkind λenv he s1 x=>?_;subst he;refine⟨lim.keeps x.toInCall.keep,codeAny_func ?_⟩;let⟨t,ht,hq⟩:=hbody A outer s H vs Q E (hr.deeper _) hsp;have I:Inv (v4 CX P w K mg base N qual scope f cdv A outer s H E) [] (start N vs) H s1:=P4 S hr.hd e0 hl r x;refine wpAny_mono (ht [] s1 (start N vs) H _ I hq) (λfl s' hs=>?_) λe s' hs=>hs;have fin:∀{σ':St}{H':Hp}{v:V}{u:Value},Inv (v4 CX P w K mg base N qual scope f cdv A outer s H E) [] σ' H' s'->bI v u->Q v H'->CE outer P w H s Q u s':=
  λ{σ' H' v u}J rv q=>⟨v,H',J.os,J.bare,J.base,J.hok,rv,q⟩
 cases fl with
 |ret u=>
  let⟨v,σ',H',J,rv,q⟩:=hs;exact fin J rv q
 |next=>
  let⟨σ',H',J,q⟩:=hs;exact fin (v:=V.non) (u:=Value.none) J rfl q
 |brk=>
  let⟨_,_,_,q⟩:=hs;exact False.elim q
 |cont=>
  let⟨_,_,_,q⟩:=hs;exact False.elim q
section
variable {X:Cx}{x:Str}{p pos:Pos}{e:Expr}{es:List Expr}{t:TA}{id T:String}{r:List V->Hp->VK->Prop}
def ŭ(r:List V->Hp->VK->Prop)(t:TA):TE:=λσ H Q=>t σ H λvs H1=>r vs H1 Q
def rR(hc:gU X (.builtin id) r)(hg:Gl X x)(hm:X.mg x=none)(hv:bootBuiltins x=some (.builtin id))(ha:PA X (e::es) t)(hn:⇑(x≠"__name__"))(hdb:⇑(Zdb x))(he:↥(Zse e es X.env))(hpl:↥(Zbt pos es X.env)):PE X (.Call 'h' (e::es) [] pos) (ŭ r t):=by
 intro À s σ H Q I h;refine wpAny_Call_Name_kw (hW I hg hm hv ?_ hn hdb);exact PyProof.Rows.callWith_builtin1 (cA (ha pos À s σ H _ I h) λus s1 zQ=>by let⟨vs,H1,I1,r1,q1⟩:=zQ;exact hc À s1 σ H1 vs us Q I1 r1 q1) he hpl
def uA(hc:gU X (.type T) r)(hg:Gl X x)(hm:X.mg x=none)(hv:bootBuiltins x=some (.type T))(ha:PA X (e::es) t)(hn:⇑(x≠"__name__"))(hdb:⇑(Zdb x))(he:↥(Zse e es X.env))(hpl:↥(Zbt pos es X.env)):PE X (.Call 'h' (e::es) [] pos) (ŭ r t):=by
 intro À s σ H Q I h;refine wpAny_Call_Name_kw (hW I hg hm hv ?_ hn hdb);exact PyProof.Rows.callWith_type1 (cA (ha pos À s σ H _ I h) λus s1 zQ=>by let⟨vs,H1,I1,r1,q1⟩:=zQ;exact hc À s1 σ H1 vs us Q I1 r1 q1) he hpl
end
end L2
namespace HT
open PySem PyProof.Rows
section
open PySem.SeqAt
open PySem.AutoSeq1 (wpAny_loadPart')
open PySem.MeetsSeq PySem.MeetsSeq2 PySem.MeetsSeq3
end
section
variable {prog:Program}{w:World}{A:Around}{E:ZA}{s:Shared}
def cat_tup{t b:Addr}{vs ws:ZJ}{Q:ZA}(ht:IsTup s.heap t vs.toArray)(hb:IsTup s.heap b ws.toArray)(hv:vs≠[])(h1:ws=[]->Q (.ref t) s)(h2:ws≠[]->Q (.ref s.heap.objs.size) {s with heap:=s.heap.push {cls:=.type "tuple",data:=.seq (vs++ws).toArray}})(hsz:vs.length+ws.length<=sizeLine):wpAny (model prog w) A (binaryOp .Add (.ref t) (.ref b)) Q E s:=by
 let⟨⟨cls,dd,data,sl⟩,ho,hc,n,hd⟩:=id ht;let⟨⟨cls2,dd2,data2,sl2⟩,ho2,hc2,n2,hd2⟩:=id hb;simp only at hc hd hc2 hd2;subst hc hd hc2 hd2;have e:vs.toArray++ws.toArray=(vs++ws).toArray:=by simp
 by_cases hw:ws=[]
 .exact concat_meets ⟨_,ho,rfl⟩ ⟨_,ho2,rfl⟩ noFill_tuple_add seq_tuple_add PySem.F.slot_tuple_add PySem.F.entry_tuple_add (PySem.F.args_tuple_add_2 _ _)
   (tuple_addW1 t b vs.toArray ws.toArray n n2 dd dd2 sl sl2 (by simpa using hv) (by simp[hw])) ⟨ho,ho2,h1 hw⟩
 .refine concat_meets ⟨_,ho,rfl⟩ ⟨_,ho2,rfl⟩ noFill_tuple_add seq_tuple_add PySem.F.slot_tuple_add PySem.F.entry_tuple_add (PySem.F.args_tuple_add_2 _ _)
   (tuple_addW2 t b vs.toArray ws.toArray n n2 dd dd2 sl sl2 (by simpa using hv) (by simpa using hw) (by grind)) ⟨ho,ho2,?_⟩
  rw[e];exact h2 hw
def sIx(n d:Nat):Option Int->Nat
 |none=>d
 |some v=>if v<0 then (v+(n:Int)).toNat else min v.toNat n
def sIx_none(n d:Nat):sIx n d none=d:=rfl
def sIx_nat(n d k:Nat):sIx n d (some (k:Int))=min k n:=by
 show (if (k:Int)<0 then ((k:Int)+(n:Int)).toNat else min (k:Int).toNat n)=min k n;rw[Ã ∅,ü]
def aGL(n d:Nat)(hd:d<=n)(o:Option Int):sIx n d o<=n:=by
 cases o with
 |none=>exact hd
 |some v=>
  show (if v<0 then (v+(n:Int)).toNat else min v.toNat n)<=n;by_cases hv:v<0
  .rw[Â hv];lia
  .rw[Ã hv];exact Nat.min_le_right _ _
def MO(v:Int)(n d:Nat):(if v<0 then max (v+(n:Int)) 0 else min v (n:Int))=((sIx n d (some v):Nat):Int):=by
 show (if v<0 then max (v+(n:Int)) 0 else min v (n:Int))=(((if v<0 then (v+(n:Int)).toNat else min v.toNat n):Nat):Int)
 grind
def KI(lo hi:Option Int)(n:Nat):Builtin.Slice.sliceAdjust lo hi 1 (n:Int)=(((sIx n 0 lo:Nat):Int),((sIx n n hi:Nat):Int)):=by
 have h1:¬((1:Int)<0):=by decide
 unfold Builtin.Slice.sliceAdjust;simp![h1,if_false];refine Prod.ext ?_ ?_
 .cases lo with
  |none=>rfl
  |some v=>exact MO v n 0
 .cases hi with
  |none=>rfl
  |some v=>exact MO v n n
def KJ(i j:Nat):Builtin.Slice.slicePlaces (i:Int) (j:Int) 1=j-i:=by
 unfold Builtin.Slice.slicePlaces;have h1:(1:Int)>0:=by decide
 simp![h1,if_true,Int.ediv_one];split<;>lia
def wT{v:Value}{o:Option Int}{Q:Option Int->Shared->Prop}(p:IsPart v o)(h:Q o s):wpAny (model prog w) A (Builtin.Slice.slicePartIndex v) Q E s:=by
 cases p with
 |none=>exact slicePart_none h
 |int i t=>exact slicePart_int h
def uB{sl:Addr}{vl vu:Value}{lo hi:Option Int}{n:Nat}{Q:Int×Int×Nat->Shared->Prop}(hs:s.heap.IsSliceOf sl vl vu .none)(pl:IsPart vl lo)(pu:IsPart vu hi)(h:Q (((sIx n 0 lo:Nat):Int),1,sIx n n hi-sIx n 0 lo) s):wpAny (model prog w) A (Builtin.Slice.sliceApplied (.ref sl) (pure (n:Int))) Q E s:=by
 let⟨os,hos,hcs,hds⟩:=id hs;unfold Builtin.Slice.sliceApplied Builtin.Slice.sliceFields;refine wpAny_bind (wpAny_bind (wpAny_field hos hds (x:=vl) rfl (wpAny_bind (wpAny_field hos hds (x:=vu) rfl (wpAny_bind (wpAny_field hos hds (x:=.none) rfl (wpAny_pure ?_)))))));refine wpAny_bind (slicePart_none ?_);show wpAny _ _ (if ((1:Int) == 0)=true then _ else _) _ _ s;rw[Ã ⋯];refine wpAny_bind (wT pl (wpAny_bind (wT pu (wpAny_bind (wpAny_pure ?_)))));show wpAny _ _ (match Builtin.Slice.sliceAdjust lo hi 1 (n:Int)with|(lo,hi)=>pure (lo,(1:Int),Builtin.Slice.slicePlaces lo hi 1)) _ _ s;rw[KI lo hi n];show wpAny _ _ (pure (((sIx n 0 lo:Nat):Int),(1:Int),Builtin.Slice.slicePlaces ((sIx n 0 lo:Nat):Int) ((sIx n n hi:Nat):Int) 1)) _ _ s;rw[KJ];exact wpAny_pure h
def T1(xs:Array Value)(i k:Nat):((List.range k).filterMap λ(m:Nat)=>xs[((i:Int)+(m:Int)*1).toNat]?).toArray=((xs.toList.drop i).take k).toArray:=by
 have e:(λ(m:Nat)=>xs[((i:Int)+(m:Int)*1).toNat]?)=λm=>xs[i+m]?:=by
  funext m;have:((i:Int)+(m:Int)*1).toNat=i+m:=by lia
  rw[this]
 rw[e];have:=pick_run xs i k;rw[List.filterMap_map]at this;have e2:((λx=>xs[x]?)∘λx=>i+x)=λm=>xs[i+m]?:=rfl;rw[e2]at this;rw[this]
def getItem_tuple_cut{t sl:Addr}{items:Array Value}{vl vu:Value}{lo hi:Option Int}{Q:ZA}(ht:IsTup s.heap t items)(hs:s.heap.IsSliceOf sl vl vu .none)(pl:IsPart vl lo)(pu:IsPart vu hi)(hw:¬(sIx items.size 0 lo=0/\sIx items.size items.size hi=items.size))(h:Q (.ref s.heap.objs.size) {s with heap:=s.heap.push {cls:=.type "tuple",data:=.seq ((items.toList.drop (sIx items.size 0 lo)).take (sIx items.size items.size hi-sIx items.size 0 lo)).toArray}})(hsz:items.size<=sizeLine):wpAny (model prog w) A (getItem (.ref t) (.ref sl)) Q E s:=by
 have htake:sizeOk (.seq ((items.toList.drop (sIx items.size 0 lo)).take (sIx items.size items.size hi-sIx items.size 0 lo)).toArray):=by
  show ((items.toList.drop (sIx items.size 0 lo)).take (sIx items.size items.size hi-sIx items.size 0 lo)).toArray.size<=sizeLine;rw[é,ê,ċ,Array.length_toList];lia
 have hj:sIx items.size items.size hi<=items.size:=aGL _ _ (È _) hi;let⟨os,hos,hcs,hds⟩:=id hs;have hTs:s.TypeIs (.ref sl) "slice":=⟨os,hos,hcs⟩;unfold getItem
 try with_reducible refine wpAny_holding ?_
 first|refine wpAny_bind (wpAny_pure ?_)|skip
 refine wpAny_bind (wpAny_sequenceKey ht.typeIs ⋯ ?_);refine wpAny_bind (wpAny_callSpecial?_slot (name:=Str.ofString "__getitem__") ht.typeIs PyProof.Rows.slot_tuple_getitem
  (wpAny_call_entry PyProof.Rows.slot_tuple_getitem ht.typeIs entry_tuple_getitem ?_ (args_tuple_getitem _ _)))
 show wpAny _ _ (Builtin.Tuple.tupleItemsOf (.ref t) >>= _) _ _ s;refine wpAny_bind (tupleItemsOf_ ht ?_);refine wpAny_bind (wpAny_typeOf hTs ?_);rw[Â ⋯];refine wpAny_bind (uB hs pl pu ?_);have hno:¬((((sIx items.size 0 lo:Nat):Int) == 0 && (1:Int) == 1 && (sIx items.size items.size hi-sIx items.size 0 lo) == items.size)=true):=by
  intro q;rw[æ,æ]at q;have q1:((sIx items.size 0 lo:Nat):Int)=0:=eq_of_beq q.1.1;have q2:sIx items.size items.size hi-sIx items.size 0 lo=items.size:=eq_of_beq q.2;exact hw ⟨∅,∅⟩
 show wpAny _ _ (if (((sIx items.size 0 lo:Nat):Int) == 0 && (1:Int) == 1 && (sIx items.size items.size hi-sIx items.size 0 lo) == items.size)=true then _ else _) _ _ s;rw[Ã hno,T1]
 first
  |exact wpAny_bind (m:=Builtin.Tuple.tupleExact _) (wpAny_newObj_type (wpAny_pure ⟨_,rfl,wpAny_pure h⟩) htake)
  |exact wpAny_bind (m:=Builtin.Tuple.tupleExact _) (wpAny_newObj_type (wpAny_bind (wpAny_pure (wpAny_pure ⟨_,rfl,wpAny_pure h⟩))) htake)
  |exact wpAny_bind (wpAny_bind (m:=Builtin.Tuple.tupleExact _) (wpAny_newObj_type (wpAny_pure (wpAny_pure ⟨_,rfl,wpAny_pure h⟩)) htake))
  |exact wpAny_bind (wpAny_bind (m:=Builtin.Tuple.tupleExact _) (wpAny_newObj_type (wpAny_pure ⟨_,rfl,wpAny_pure h⟩) htake))
end
end HT
namespace L2
open PySem PySem.Spec PyProof.Rows
abbrev TO:=St->Hp->(Option Int->Hp->Prop)->Prop
def PO(X:Cx)(e:Option Expr)(t:TO):Prop:=
 ∀(À:ZB)(s:Shared)(σ:St)(H:Hp)(Q:Option Int->Hp->Prop),Inv X À σ H s->t σ H Q ->
  wpAny 'b' X.A (evalPart e X.env) (λu s'=>∃o H',Inv X À σ H' s'/\IsPart u o/\Q o H') X.xe s
def aAV:TO:=λ_ H Q=>Q none H
def aKE(t:TE):TO:=λσ H Q=>t σ H λx H1=>∃i,x=.int i/\Q (some i) H1
section
variable {X:Cx}{e:Expr}{te:TE}{lo hi:Option Expr}{tl th:TO}{pos p2:Pos}
def aAW:PO X none aAV:=by
 intro À s σ H Q I h;rw[evalPart_none];exact wpAny_pure ⟨none,H,I,.none,h⟩
def aAX(h:PE X e te):PO X (some e) (aKE te):=by
 intro À s σ H Q I hw;rw[evalPart_some];refine cA (h À s σ H _ I hw) λu s1 zQ=>?_;let⟨x,H1,I1,r1,q1⟩:=zQ;let⟨i,rfl,q⟩:=q1;let⟨t,rfl⟩:=r1;exact⟨some i,H1,I1,.int i t,q⟩
def ń(X:Cx)(r:V->Option Int->Option Int->Hp->VK->Prop):Prop:=
 ∀(À:ZB)(s:Shared)(σ:St)(H:Hp)(x:V)(v vl vu:Value)(lo hi:Option Int)(sl:Addr)(Q:VK),Inv X À σ H s->bI x v->s.heap.IsSliceOf sl vl vu .none->IsPart vl lo->IsPart vu hi->r x lo hi H Q ->
  ∃T id,typeLookup (.type T) "__getitem__"=pure (some (.builtin id))/\s.TypeIs v T/\wpAny 'b' X.A (getItem v (.ref sl)) (EP X À σ Q) X.xe s
def aPQ(r:V->Option Int->Option Int->Hp->VK->Prop)(te:TE)(tl th:TO):TE:=λσ H Q=>te σ H λx H1=>tl σ H1 λl H2=>th σ H2 λu H3=>r x l u H3 Q
def F9(hr:ń X r)(he:PE X e te)(hl:PO X lo tl)(hu:PO X hi th):PE X (.Subscript e (.Slice lo hi none p2) pos) (aPQ r te tl th):=by
 intro À s σ H Q I h;refine Subscript_ (cA (he À s σ H _ I h) λv s1 zQ=>?_);let⟨x,H1,I1,r1,q1⟩:=zQ;refine wpAny_Slice (cA (hl À s1 σ H1 _ I1 q1) λvl s2⟨l,H2,I2,pl,q2⟩=>cA (hu À s2 σ H2 _ I2 q2) λvu s3 zQ=>?_);let⟨u,H3,I3,pu,q3⟩:=zQ;rw[evalPart_none];refine wpAny_pure ?_;have I4:Inv X À σ H3 {s3 with heap:=s3.heap.push {cls:=.type "slice",data:=.fields #[vl,vu,.none]}}:=I3.kept (t':=s3.toks) λb ob q=>Heap.get?_push_of_some _ q;let⟨T,id,hT,ht,hg⟩:=hr À {s3 with heap:=s3.heap.push {cls:=.type "slice",data:=.fields #[vl,vu,.none]}} σ H3 x v vl vu l u s3.heap.objs.size Q I4 r1 (Heap.IsSliceOf.new ..) pl pu q3;show wpAny 'b' X.A (subscriptTail e (.Slice lo hi none p2) v (.ref s3.heap.objs.size)) (EP X À σ Q) X.xe {s3 with heap:=s3.heap.push {cls:=.type "slice",data:=.fields #[vl,vu,.none]}};exact tail_any (ops:=[.ref s3.heap.objs.size,v]) ht hT hg (by with_unfolding_all rfl)
def C5(xs:List V)(lo hi:Option Int):(List V):=(xs.drop (HT.sIx xs.length 0 lo)).take (HT.sIx xs.length xs.length hi-HT.sIx xs.length 0 lo)
def vL(xs:List V)(lo hi:Option Int):(C5 xs lo hi).length<=xs.length:=by
 unfold C5;rw[ê,ċ];lia
def Ψ(K:ZC):V->Option Int->Option Int->Hp->VK->Prop:=λx lo hi H Q=>∃a xs,x=.ref a/\rN K H a xs /\
 ¬(HT.sIx xs.length 0 lo=0/\HT.sIx xs.length xs.length hi=xs.length)/\∀p,H p=none->Q (.ref p) (aV H p (.tup (C5 xs lo hi)))
def T2:ń X (Ψ X.K):=by
 intro À s σ H x v vl vu lo hi sl Q I rx hs pl pu h;let⟨a,xs,rfl,hx,hw,q⟩:=h;cases rx;let⟨its,r,ht,hz⟩:=I.tuple hx;have hlen:its.toArray.size=xs.length:=by rw[é];exact r.length.symm
 refine⟨"tuple",_,PyProof.Rows.slot_tuple_getitem.lookup,ht.typeIs,?_⟩;refine HT.getItem_tuple_cut ht hs pl pu (by rw[hlen];exact hw) ?_ (by rw[hlen];exact hz);rw[hlen];refine⟨.ref s.heap.objs.size,_,I.laid (t':=s.toks) (o:=.tup (C5 xs lo hi)) (λb ob q=>Heap.get?_push_of_some _ q) (È _) ?_,rfl,q _ (I.hok.fresh (È _))⟩;exact⟨Ü (vL xs lo hi) hz,_,(r.drop (HT.sIx xs.length 0 lo)).take (HT.sIx xs.length xs.length hi-HT.sIx xs.length 0 lo),IsTup.new _ _⟩
def Ω(K:ZC):R2:=λx y H Q=>∃a b xs ys,x=.ref a/\y=.ref b/\rN K H a xs/\rN K H b ys/\xs≠[]/\xs.length+ys.length<=sizeLine /\
 (ys=[]->Q (.ref a) H)/\(ys≠[]->∀p,H p=none->Q (.ref p) (aV H p (.tup (xs++ys))))
def bH.nil_iff(r:bH xs us):us=[]↔xs=[]:=by
 cases r with
 |nil=>simp
 |cons _ _=>simp
def aAY:j7 X (binaryOp .Add) (Ω X.K):=by
 intro À s σ H x y v u Q I rx ry h;let⟨a,b,xs,ys,rfl,rfl,ha,hb,hx,hz,q1,q2⟩:=h;cases rx;cases ry;let⟨its,r1,p1,_⟩:=I.tuple ha;let⟨its2,r2,p2,_⟩:=I.tuple hb;refine HT.cat_tup p1 p2 (λz=>hx (r1.nil_iff.mp z)) (λz=>⟨.ref a,H,I,rfl,q1 (r2.nil_iff.mp z)⟩) (λz=>?_) (by rw[<- r1.length,<- r2.length];exact hz);refine⟨.ref s.heap.objs.size,_,I.laid (t':=s.toks) (o:=.tup (xs++ys)) (λb ob q=>Heap.get?_push_of_some _ q) (È _) ?_,rfl,q2 (λw=>z (r2.nil_iff.mpr w)) _ (I.hok.fresh (È _))⟩;exact⟨by rw[Ð];exact hz,_,r1.append r2,IsTup.new _ _⟩
end
def oE(n:Nat)(i:Int):(Option Nat):=if 0<=i then (if i<n then some i.toNat else none)else if -(n:Int)<=i then some (i+n).toNat else none
def atI{α:Type}(xs:List α)(i:Int):(Option α):=(oE xs.length i).bind λj=>xs[j]?
def MP(h:oE n i=some j):seqIndex? i n=some j/\j<n/\-(n:Int)<=i/\i<n:=by
 unfold oE at h;by_cases h0:0<=i
 .rw[Â h0]at h
  by_cases h1:i<n
  .rw[Â h1]at h
   have e:i.toNat=j:=Option.some.inj h;exact⟨by rw[seqIndex_of h0 h1,e],∅,∅,h1⟩
  grind
 .rw[Ã h0]at h
  by_cases h1:-(n:Int)<=i
  .rw[Â h1]at h
   have e:(i+n).toNat=j:=Option.some.inj h;exact⟨by rw[seqIndex_neg (by exact Int.not_le.mp ‹_›) h1,e],∅,h1,∅⟩
  grind
def C6{v:α}(h:atI xs i=some v):∃j,seqIndex? i xs.length=some j/\xs[j]?=some v/\j<xs.length/\-(xs.length:Int)<=i/\i<xs.length:=by
 unfold atI at h;cases e:oE xs.length i with
 |none=>rw[e]at h;cases h
 |some j=>
  rw[e]at h;let⟨h1,h2,h3,h4⟩:=MP e;exact⟨j,h1,h,h2,h3,h4⟩
def dP{j:Nat}{v:α}(h:xs[j]?=some v):atI xs (j:Int)=some v:=by
 have hj:j<xs.length:=(Í.mp h).1;have e:oE xs.length (j:Int)=some j:=by
  unfold oE;rw[Â ∅,Â ∅];simp
 unfold atI;rw[e];exact h
def oF(b:Expr):Prop:=∀o i,subscripted b false o i=operate [o,i] (getItem o i)
def č(X:Cx)(r:R2):Prop:=
 ∀(value slice:Expr)(À:ZB)(s:Shared)(σ:St)(H:Hp)(x y:V)(v u:Value)(Q:VK),Inv X À σ H s->bI x v->bI y u->r x y H Q ->
  subscripted slice false v u=operate [v,u] (getItem v u)->wpAny 'b' X.A (subscriptTail value slice v u) (EP X À σ Q) X.xe s
def Ĵ(X:Cx)(id:String)(r:V->List V->Hp->VK->Prop):Prop:=
 ∀(À:ZB)(s:Shared)(σ:St)(H:Hp)(x:V)(xs:List V)(v:Value)(us:ZJ)(Q:VK),Inv X À σ H s->bI x v->bH xs us->r x xs H Q ->
  wpAny 'b' X.A (call (.builtin id) (v::us)) (EP X À σ Q) X.xe s
section
variable {X:Cx}
def č.or(h:č X r)(h':č X r'):č X (λx y H Q=>r x y H Q\/r' x y H Q):=by
 intro value slice À s σ H x y v u Q I rx ry q hs;rcases q with q|q
 .exact h value slice À s σ H x y v u Q I rx ry q hs
 .exact h' value slice À s σ H x y v u Q I rx ry q hs
def GB(hr:č X r)(ha:PE X a ta)(hb:PE X b tb)(hs:oF b):PE X (.Subscript a b pos) (ĳ r ta tb):=by
 intro À s σ H Q I h;exact Subscript_ (ū ha hb I h λv u s2 x y H2 I2 rx ry q=>hr a b À s2 σ H2 x y v u Q I2 rx ry q (hs _ _))
def Ů(K:ZC):R2:=λx y H Q=>∃p xs i v,x=.ref p/\y=.int i/\d8 K H p xs/\atI xs i=some v/\Q v H
def γ(K:ZC):R2:=λx y H Q=>∃p xs i v,x=.ref p/\y=.int i/\rN K H p xs/\atI xs i=some v/\Q v H
def ε:R2:=λx y H Q=>∃z i c,x=.str z/\y=.int i/\z.length<=sizeLine/\atI z.cps.toList i=some c/\Q (.str ⟨#[c]⟩) H
def rS:č X (Ů X.K):=by
 intro value slice À s σ H x y v u Q I rx ry h hs;let⟨p,xs,i,z,rfl,rfl,hq,he,q⟩:=h;cases rx;let⟨t,rfl⟩:=ry;let⟨its,r,pl,hz⟩:=I.list hq;let⟨j,h1,h2,h3,h4,h5⟩:=C6 he;let⟨w,ew,rw'⟩:=r.get h2;have hl:=r.length;have hn:=qG;have fin:EP X À σ Q w s:=⟨z,H,I,rw',q⟩;by_cases h0:0<=i
 .have hj:i.toNat=j:=by
   rw[seqIndex_of h0 h5]at h1;exact Option.some.inj h1
  exact item_listR pl.isList h0 ∅ (by rw[hj];simpa using ew) fin hs
 .have hj:(i+(its.toArray.size:Int)).toNat=j:=by
   rw[seqIndex_neg (by exact Int.not_le.mp ‹_›) h4]at h1;rw[é,<- hl];exact Option.some.inj h1
  exact subscriptTail_builtinR (x:=w) pl.isList.typeIs slot_list_getitem.lookup
   (wpAny_getItem_list_neg (Q:=λr s'=>r=w/\EP X À σ Q r s') pl.isList (by exact Int.not_le.mp ‹_›) (by grind) ∅ (by rw[hj];simpa using ew) ⟨rfl,fin⟩) hs
def aGN:č X (γ X.K):=by
 intro value slice À s σ H x y v u Q I rx ry h hs;let⟨p,xs,i,z,rfl,rfl,hq,he,q⟩:=h;cases rx;let⟨t,rfl⟩:=ry;let⟨its,r,pl,hz⟩:=I.tuple hq;let⟨j,h1,h2,h3,h4,h5⟩:=C6 he;let⟨w,ew,rw'⟩:=r.get h2;have hl:=r.length;have hn:=qG;have fin:EP X À σ Q w s:=⟨z,H,I,rw',q⟩;exact subscriptTail_builtinR (x:=w) pl.typeIs slot_tuple_getitem.lookup
  (getItem_tuple (j:=j) (Q:=λr s'=>r=w/\EP X À σ Q r s') pl ∅ ∅ (by grind) (by simpa using ew) ⟨rfl,fin⟩) hs
def aGO:č X ε:=by
 intro value slice À s σ H x y v u Q I rx ry h hs;let⟨z,i,c,rfl,rfl,hz,he,q⟩:=h;let⟨t,rfl⟩:=rx;let⟨t',rfl⟩:=ry;let⟨j,h1,h2,h3,h4,h5⟩:=C6 he;have hl:z.cps.toList.length=z.length:=by simp[Str.length]
 rw[hl]at h1 h4 h5;have hn:=qG;exact tail_any (typeIs_str s z t) slot_str_getitem.lookup (getItem_str (c:=c) (by
  grind) (by rw[h1];simpa using h2) ⟨.str ⟨#[c]⟩,H,I.tok _,⟨_,rfl⟩,q⟩) hs
def ζ(K:ZC):R2:=λx y H Q=>Ů K x y H Q\/γ K x y H Q\/ε x y H Q
def aGP:č X (ζ X.K):=rS.or (aGN.or aGO)
def KK(its:ZJ)(n j:Nat)(u:Value):Obj.mapSeq (·.setIfInBounds j u) {cls:=.type "list",data:=.seq its.toArray n}={cls:=.type "list",data:=.seq (its.set j u).toArray n}:=by
 simp[Obj.mapSeq]
def Inv.lst(I:Inv X À σ H s)(h:H p=some (.lst xs)):
  ∃(its:ZJ)(n:Nat),bH xs its/\s.heap.get? p=some {cls:=.type "list",data:=.seq its.toArray n}/\xs.length<=sizeLine:=by
 let⟨z,its,n,r,e⟩:=I.hok p _ h;exact⟨its,n,r,e,z⟩
def Inv.lstUpd{À:ZB}{σ:St}{H:Hp}{s:Shared}{p:Addr}{xs ys:List V}{its its':ZJ}{n n':Nat}{f:Obj->Obj}(I:Inv X À σ H s)(h:H p=some (.lst xs))(ho:s.heap.get? p=some {cls:=.type "list",data:=.seq its.toArray n})(hf:f {cls:=.type "list",data:=.seq its.toArray n}={cls:=.type "list",data:=.seq its'.toArray n'})(r:bH ys its')(hz:ys.length<=sizeLine)(t:Nat):
  Inv X À σ (aV H p (.lst ys)) {s with heap:=s.heap.update p f,toks:=t}:=by
 have e:(s.heap.update p f).get? p=some {cls:=.type "list",data:=.seq its'.toArray n'}:=by
  rw[Heap.get?_update_self f ho (by rw[hf]<;>rfl),hf]
 refine I.write (x:=p) (e:=p) (by rw[h];trivial) (.inl rfl) (λb u hb q=>(Heap.get?_update_other _ _ (Ñ hb)).trans q) ⟨_,e⟩ ?_;exact⟨hz,its',n',r,e⟩
def aKJ:V->V->V->Hp->(Hp->Prop)->Prop:=λo i v H Q=>∃p xs k j,o=.ref p/\i=.int k/\H p=some (.lst xs)/\oE xs.length k=some j/\Q (aV H p (.lst (xs.set j v)))
def GC:Ρ X aKJ:=by
 intro À s σ H o i v ov iv u Q I ro ri rv h;let⟨p,xs,k,j,rfl,rfl,hp,hj,q⟩:=h;cases ro;let⟨t,rfl⟩:=ri;let⟨its,n,r,ho,hz⟩:=I.lst hp;let⟨h1,h2,h3,h4⟩:=MP hj;have hl:=r.length;have hn:=qG;have I':Inv X À σ (aV H p (.lst (xs.set j v))) {s with heap:=s.heap.update p (Obj.mapSeq (·.setIfInBounds j u))}:=
  I.lstUpd hp ho (KK its n j u) (r.set rv j) (by rw[Î];exact hz) s.toks
 by_cases h0:0<=k
 .have hk:k.toNat=j:=by
   rw[seqIndex_of h0 h4]at h1;exact Option.some.inj h1
  exact W.ki_setAt ho h0 ∅ (by rw[é,<- hl];exact h4) (by rw[hk];exact⟨_,I',q⟩)
 .have hk:(k+(its.toArray.size:Int)).toNat=j:=by
   rw[seqIndex_neg (by exact Int.not_le.mp ‹_›) h3]at h1;rw[é,<- hl];exact Option.some.inj h1
  exact W.ki_setBack ho (by exact Int.not_le.mp ‹_›) (by rw[é,<- hl];exact h3) ∅ (by rw[hk];exact⟨_,I',q⟩)
def C7(lo hi:Option Int)(n:Nat):(sliceBounds lo hi none n).1=((HT.sIx n 0 lo:Nat):Int)/\(sliceBounds lo hi none n).2.1=((HT.sIx n n hi:Nat):Int)/\(sliceBounds lo hi none n).2.2=1:=by
 refine⟨?_,?_,rfl⟩
 .cases lo with
  |none=>simp[sliceBounds,HT.sIx]
  |some i=>
   simp![sliceBounds,HT.sIx,Option.getD_none,show (1:Int)>0 by decide,if_true]
   grind
 .cases hi with
  |none=>simp[sliceBounds,HT.sIx]
  |some i=>
   simp![sliceBounds,HT.sIx,Option.getD_none,show (1:Int)>0 by decide,if_true]
   grind
def AN(its:ZJ)(lo hi:Option Int):slicePick its.toArray lo hi none=((its.drop (HT.sIx its.length 0 lo)).take (HT.sIx its.length its.length hi-HT.sIx its.length 0 lo)).toArray:=by
 let⟨h1,h2,h3⟩:=C7 lo hi its.toArray.size;unfold slicePick;rw[h1,h2,h3];simp![sliceRange_one,pick_run,é]<;>rfl
def η(K:ZC):V->Option Int->Option Int->Hp->VK->Prop:=λx lo hi H Q=>∃a xs,x=.ref a/\d8 K H a xs/\∀p,H p=none->Q (.ref p) (aV H p (.lst (C5 xs lo hi)))
def v9:ń X (η X.K):=by
 intro À s σ H x v vl vu lo hi sl Q I rx hs pl pu h;let⟨a,xs,rfl,hx,q⟩:=h;cases rx;let⟨its,r,ht,hz⟩:=I.list hx;have hlen:=r.length;refine⟨"list",_,slot_list_getitem.lookup,ht.isList.typeIs,?_⟩;refine wpAny_getItem_list_slice ht.isList hs pl pu .none 'f' ?_ (by grind);rw[AN,<- hlen];refine⟨.ref s.heap.objs.size,_,I.laid (t':=s.toks) (o:=.lst (C5 xs lo hi)) (λb ob q=>Heap.get?_push_of_some _ q) (È _) ?_,rfl,q _ (I.hok.fresh (È _))⟩;exact⟨Ü (vL xs lo hi) hz,_,0,(r.drop (HT.sIx xs.length 0 lo)).take (HT.sIx xs.length xs.length hi-HT.sIx xs.length 0 lo),Heap.get?_push_size _ rfl⟩
def pR:V->Bool
 |.non=>true
 |.bl _=>true
 |.int _=>true
 |.str _=>true
 |_=>false
def ė:V->V->Bool
 |.non,.non=>true
 |.bl a,.bl b=>a == b
 |.bl a,.int b=>(if a then 1 else 0) == b
 |.int a,.bl b=>a == (if b then 1 else 0)
 |.int a,.int b=>a == b
 |.str a,.str b=>a == b
 |_,_=>false
def aGQ(ry:bI y u)(rx:bI x v)(fy:pR y=true)(fx:pR x=true):SeqAt.EqAt A s u v (ė y x):=by
 cases y with
 |non=>
  cases ry;cases x with
  |non=>cases rx;exact SeqAt.EqAt.same _
  |bl b=>cases rx;exact SeqAt.EqAt.none_bool b
  |int b=>let⟨t,rfl⟩:=rx;exact SeqAt.EqAt.none_int b t
  |str b=>let⟨t,rfl⟩:=rx;exact SeqAt.EqAt.none_str b t
  |_=>exact absurd (show false=true from fx) á
 |bl a=>
  cases ry;cases x with
  |non=>cases rx;exact SeqAt.EqAt.bool_none a
  |bl b=>cases rx;exact SeqAt.EqAt.bool_bool a b
  |int b=>let⟨t,rfl⟩:=rx;exact SeqAt.EqAt.bool_int a b t
  |str b=>let⟨t,rfl⟩:=rx;exact SeqAt.EqAt.bool_str a b t
  |_=>exact absurd (show false=true from fx) á
 |int a=>
  let⟨t',rfl⟩:=ry;cases x with
  |non=>cases rx;exact SeqAt.EqAt.int_none a t'
  |bl b=>cases rx;exact SeqAt.EqAt.int_bool a t' b
  |int b=>let⟨t,rfl⟩:=rx;exact SeqAt.EqAt.int_int a t' b t
  |str b=>let⟨t,rfl⟩:=rx;exact SeqAt.EqAt.int_str a t' b t
  |_=>exact absurd (show false=true from fx) á
 |str a=>
  let⟨t',rfl⟩:=ry;cases x with
  |non=>cases rx;exact SeqAt.EqAt.str_none a t'
  |bl b=>cases rx;exact SeqAt.EqAt.str_bool a t' b
  |int b=>let⟨t,rfl⟩:=rx;exact SeqAt.EqAt.str_int a t' b t
  |str b=>let⟨t,rfl⟩:=rx;exact SeqAt.EqAt.str_str a t' b t
  |_=>exact absurd (show false=true from fx) á
 |_=>exact absurd (show false=true from fy) á
def Ď(x:V)(u:Value):Bool:=match u with
 |.none=>ė .non x
 |.bool b=>ė (.bl b) x
 |.int i _=>ė (.int i) x
 |.str z _=>ė (.str z) x
 |_=>false
def T3(r:bI y u)(f:pR y=true):Ď x u=ė y x:=by
 cases y with
 |non=>cases r;rfl
 |bl b=>cases r;rfl
 |int i=>let⟨t,rfl⟩:=r;rfl
 |str z=>let⟨t,rfl⟩:=r;rfl
 |_=>exact absurd (show false=true from f) á
def C8 :∀{xs:List V}{us:ZJ},bH xs us->xs.all pR=true->us.any (Ď x)=xs.any λy=>ė y x
 |_,_,.nil,_=>rfl
 |y::xs,u::us,.cons r t,f=>by
  rw[List.all_cons,æ]at f;rw[List.any_cons,List.any_cons,T3 r f.1,C8 t f.2]
def wU(rx:bI x v)(fx:pR x=true):∀{xs:List V}{us:ZJ},bH xs us->xs.all pR=true->∀u∈us,SeqAt.EqAt A s u v (Ď x u)
 |_,_,.nil,_=>λu hu=>by cases hu
 |y::xs,u::us,.cons r t,f=>λu' hu=>by
  rw[List.all_cons,æ]at f;rcases Ø.mp hu with rfl|hu
  .rw[T3 r f.1];exact aGQ r rx f.1 fx
  .exact wU rx fx t f.2 u' hu
def Ę(x:V)(xs:List V):Bool:=xs.any λy=>ė y x
def θ(K:ZC)(neg:Bool):R2:=λx y H Q=>∃p xs,y=.ref p/\(d8 K H p xs\/rN K H p xs)/\pR x=true/\xs.all pR=true/\Q (.bl (if neg then !Ę x xs else Ę x xs)) H
def C9:j7 X (compareOp .NotIn) (θ X.K true):=by
 intro À s σ H x y v u Q I rx ry h;let⟨p,xs,rfl,hq,fx,fs,q⟩:=h;cases ry;rcases hq with hq|hq
 .obtain⟨its,r,pl,hz⟩:=I.list hq
  refine SeqAt.notIn_listAt (Ď x) pl.isList (λw hw=>wU rx fx r fs w (by simpa using hw)) ⟨.bl _,H,I,rfl,?_⟩;rw[show its.toArray.any (Ď x)=its.any (Ď x) by simp,C8 r fs];exact q
 .obtain⟨its,r,pl,hz⟩:=I.tuple hq
  refine SeqAt.notIn_tupleAt (Ď x) pl (λw hw=>wU rx fx r fs w (by simpa using hw)) ⟨.bl _,H,I,rfl,?_⟩;rw[show its.toArray.any (Ď x)=its.any (Ď x) by simp,C8 r fs];exact q
def rT:gU X (.builtin "len") (λxs H Q=>∃p ys,xs=[.ref p]/\(d8 X.K H p ys\/rN X.K H p ys)/\Q (.int ys.length) H):=by
 intro À s σ H xs us Q I r h;let⟨p,ys,rfl,hq,q⟩:=h;let⟨u,rfl,rx⟩:=pO r;cases rx;have hn:=qG;rcases hq with hq|hq
 .obtain⟨its,r',pl,hz⟩:=I.list hq
  have hlen:=r'.length;exact Calls.call_len_list pl.isList (by grind) ⟨.int ys.length,H,I.tok _,⟨s.toks+1,by grind⟩,q⟩
 .obtain⟨its,r',pl,hz⟩:=I.tuple hq
  have hlen:=r'.length;exact len_tuple pl (by grind) ⟨.int ys.length,H,I.tok _,⟨s.toks+1,by grind⟩,q⟩
def DB:gU X (.builtin "len") (λxs H Q=>∃z,xs=[.str z]/\z.length<=sizeLine/\Q (.int z.length) H):=by
 intro À s σ H xs us Q I r h;let⟨z,rfl,hz,q⟩:=h;let⟨u,rfl,t,rfl⟩:=pO r;have hn:=qG;exact len_str ∅ ⟨.int z.length,H,I.tok _,⟨_,rfl⟩,q⟩
def gU.or(h:gU X f r)(h':gU X f r'):gU X f (λxs H Q=>r xs H Q\/r' xs H Q):=by
 intro À s σ H xs us Q I rs q;rcases q with q|q
 .exact h À s σ H xs us Q I rs q
 .exact h' À s σ H xs us Q I rs q
def lO:gU X (.type "list") (λxs H Q=>∃p ys,xs=[.ref p]/\(d8 X.K H p ys\/rN X.K H p ys)/\∀l,H l=none->Q (.ref l) (aV H l (.lst ys))):=by
 intro À s σ H xs us Q I r h;let⟨p,ys,rfl,hq,q⟩:=h;let⟨u,rfl,rx⟩:=pO r;cases rx;have fin:∀(its:ZJ),bH ys its->ys.length<=sizeLine->∀(h':Heap)(c':Nat),(∀b o',s.heap.get? b=some o'->h'.get? b=some o') ->
   h'.get? s.heap.objs.size=some {cls:=.type "list",dict:=none,data:=.seq its.toArray c',slots:=#[]}->EP X À σ Q (.ref s.heap.objs.size) {s with heap:=h'}:=λits r' hz h' c' kp e=>
  ⟨.ref s.heap.objs.size,_,I.laid (t':=s.toks) kp (È _) (show eC X.prog X.w _ h' _ (.lst ys)from⟨hz,its,c',r',e⟩),rfl,q _ (I.hok.fresh (È _))⟩
 rcases hq with hq|hq
 .obtain⟨its,r',pl,hz⟩:=I.list hq
  have hlen:=r'.length;let⟨o,ho,hc,n,hd⟩:=pl.isList;exact call_list_seq p (.inl rfl) ho hc hd (λh' c' kp e=>fin its r' hz h' c' kp e) (by grind)
 .obtain⟨its,r',pl,hz⟩:=I.tuple hq
  have hlen:=r'.length;let⟨o,ho,hc,n,hd⟩:=pl;exact call_list_seq p (.inr rfl) ho hc hd (λh' c' kp e=>fin its r' hz h' c' kp e) (by grind)
def Ņ(K:ZC)(T:String)(x:V)(H:Hp):Prop:=match x with
 |.str _=>T="str"
 |.int _=>T="int"
 |.ref p=>(T="list"/\∃xs,d8 K H p xs)\/(T="tuple"/\∃o,K.lookup p=some o/\o.cls=.type "tuple"/\o.dict=none) \/
   (T="dict"/\((∃Á,H p=some (.dK Á))\/∃Á,H p=some (.dT Á)))\/(T="set"/\∃S n,H p=some (.set S n))
 |_=>False
theorem T5(I:Inv X À σ H s)(r:bI x v)(ty:Ņ X.K T x H):
  s.TypeIs v T/\∀a,v=.ref a->∃ob,s.heap.get? a=some ob/\ob.dict=none:=by
 cases x with
 |str z=>
  let⟨t,rfl⟩:=r;cases (show T="str"from ty);exact⟨typeIs_str s z t,λ_ e=>nomatch e⟩
 |int i=>
  let⟨t,rfl⟩:=r;cases (show T="int"from ty);exact⟨typeIs_int s i t,λ_ e=>nomatch e⟩
 |ref p=>
  cases r;rcases ty with ⟨rfl,xs,hq⟩|⟨rfl,o,hk,hc,hd⟩|⟨rfl,hk⟩|⟨rfl,S,n,hk⟩
  .obtain⟨its,_,pl,_⟩:=I.list hq
   refine⟨pl.isList.typeIs,λa e=>?_⟩;cases e;let⟨o,n,e,c,hd,_⟩:=pl;exact⟨o,e,hd⟩
  .refine⟨⟨o,I.kIn p o hk,hc⟩,λa e=>?_⟩
   cases e;exact⟨o,I.kIn _ o hk,hd⟩
  .have z:∃o,s.heap.get? p=some o/\o.ExactDict:=by
    rcases hk with ⟨Á,hk⟩|⟨Á,hk⟩
    .obtain⟨_,_,_,_,o,_,_,e,ex,_⟩:=I.hok p _ hk
     exact⟨o,e,ex⟩
    .obtain⟨_,_,_,_,o,_,_,e,ex,_⟩:=I.hok p _ hk
     exact⟨o,e,ex⟩
   let⟨o,e,ex⟩:=z;refine⟨⟨o,e,ex.1⟩,λa e2=>?_⟩;cases e2;exact⟨o,e,ex.2.1⟩
  .obtain⟨o,_,_,_,e,ex,_⟩:=I.hok p _ hk
   refine⟨⟨o,e,ex.1⟩,λa e2=>?_⟩;cases e2;exact⟨o,e,ex.2.1⟩
 |_=>exact False.elim ty
def aNU(K:ZC)(T:String)(r:V->List V->Hp->VK->Prop)(to:TE):TE:=λσ H Q=>to σ H λx H1=>Ņ K T x H1/\r x [] H1 Q
def ů(K:ZC)(T:String)(r:V->List V->Hp->VK->Prop)(to:TE)(t:TA):TE:=λσ H Q=>to σ H λx H1=>Ņ K T x H1/\t σ H1 λxs H2=>r x xs H2 Q
variable {o e:Expr}{es:List Expr}{to:TE}{t:TA}{name:Str}{apos cpos:Pos}{T id:String}{r:V->List V->Hp->VK->Prop}
def aGR(pa:PlainAttrs T)(slot:Slot T name id)(hty:typeOf (.builtin id)=pure (.type "method_descriptor"))(hm:Ĵ X id r)(ho:PE X o to)(hbase:↥(attributeBase o name X.env (eval o X.env)=eval o X.env))(hline:↥((apos.endLine == cpos.line)=true)):PE X (.Call (.Attribute o name apos) [] [] cpos) (aNU X.K T r to):=by
 intro À s σ H Q I h;refine wpAny_Call_method0_late hbase hline (cA (ho À s σ H _ I h) λv s1 zQ=>?_);let⟨x,H1,I1,r1,ty,q1⟩:=zQ;let⟨h1,h2⟩:=T5 I1 r1 ty;exact⟨T,id,pa,slot,hty,h1,h2,Calls.callWith_builtin rfl (PySem.evalArgs_none (hm À s1 σ H1 x [] v [] Q I1 r1 .nil q1))⟩
def T6(pa:PlainAttrs T)(slot:Slot T name id)(hty:typeOf (.builtin id)=pure (.type "method_descriptor"))(hm:Ĵ X id r)(ho:PE X o to)(ha:PA X (e::es) t)(hbase:↥(attributeBase o name X.env (eval o X.env)=eval o X.env))(hfew:↥(((backTo cpos (starEach (e::es) X.env)).all (λx=>!x.1) && (backToKw cpos (keywordEach [] X.env)).all (λx=>x.1.isSome)
   && decide ((e::es).length+([]:List Keyword).length+(if ([]:List Keyword).isEmpty then 0 else 1)<30))=true))(hline:↥((apos.endLine == cpos.line)=true))(hs:↥(Zse e es X.env))(hplain:↥(Zbt cpos es X.env)):
  PE X (.Call (.Attribute o name apos) (e::es) [] cpos) (ů X.K T r to t):=by
 intro À s σ H Q I h;refine wpAny_Call_method_late hbase hfew hline rfl (cA (ho À s σ H _ I h) λv s1 zQ=>?_);let⟨x,H1,I1,r1,ty,q1⟩:=zQ;let⟨h1,h2⟩:=T5 I1 r1 ty;refine⟨T,id,pa,slot,hty,h1,h2,?_⟩;have hA:=ha cpos À s1 σ H1 _ I1 q1;rw[hs]at hA⊢;refine Calls.callWith_builtin (by show (false || (backTo cpos (starEach es X.env)).any (·.1))=false;rw[hplain]<;>rfl) (Calls.evalArgs_plain ?_)
 exact cA hA λus s2 zQ=>by let⟨vs,H2,I2,r2,q2⟩:=zQ;exact hm À s2 σ H2 x vs v us Q I2 r1 r2 q2
end
def ņ(X:Cx)(id:String)(r:V->List V->Hp->VK->Prop):Prop:=
 ∀(À:ZB)(s:Shared)(σ:St)(H:Hp)(x:V)(xs:List V)(v:Value)(us:ZJ)(Q:VK),Inv X À σ H s->bI x v->bH xs us->r x xs H Q ->
  wpAny 'b' X.A (call (.builtin id) (v::us)) (EP X À σ Q) X.xe s
def bH.one:∀{x:V}{us:ZJ},bH [x] us->∃u,us=[u]/\bI x u:=λh=>pO h
def bH.zero:∀{us:ZJ},bH [] us->us=[]
 |_,.nil=>rfl
def bH.dropLast(h:bH xs us):bH xs.dropLast us.dropLast:=by
 induction h with
 |nil=>exact .nil
 |cons r t ih=>
  cases t with
  |nil=>exact .nil
  |cons q t'=>exact .cons r ih
def bH.eraseIdx:∀{xs:List V}{us:ZJ}(i:Nat),bH xs us->bH (xs.eraseIdx i) (us.eraseIdx i)
 |_,_,_,.nil=>.nil
 |_,_,0,.cons _ t=>t
 |_,_,i+1,.cons r t=>.cons r (bH.eraseIdx i t)
def KL{α:Type}(l:List α):l.eraseIdx (l.length-1)=l.dropLast:=by
 grind
section
variable {X:Cx}{À:ZB}{σ:St}{H:Hp}{s:Shared}{l:Addr}{xs ys:List V}
def Inv.lset{its its':ZJ}{n:Nat}{f:Array Value->Array Value}{t':Nat}(I:Inv X À σ H s)(hH:H l=some (.lst xs))(e:s.heap.get? l=some {cls:=.type "list",data:=.seq its.toArray n})(hf:f its.toArray=its'.toArray)(hv:bH ys its')(hz:ys.length<=sizeLine):
  Inv X À σ (aV H l (.lst ys)) {s with heap:=s.heap.update l (Obj.mapSeq f),toks:=t'}:=by
 have q:=PySem.IsL.update e f;rw[hf]at q;refine I.write (x:=l) (e:=l) (by rw[hH];exact trivial) (.inl rfl) (λb' u hb hu=>(Heap.get?_update_other s.heap (Obj.mapSeq f) (Ñ hb)).trans hu) ⟨_,q⟩ ?_;exact⟨hz,its',_,hv,q⟩
def Inv.lnew(I:Inv X À σ H s)(hv:bH ys its)(hz:ys.length<=sizeLine):
  Inv X À σ (aV H s.heap.objs.size (.lst ys)) {s with heap:=s.heap.push {cls:=.type "list",data:=.seq its.toArray},toks:=t'}:=
 I.laid (λ_ _ q=>Heap.get?_push_of_some _ q) (È _) ⟨hz,its,0,hv,Heap.get?_push_size _ rfl⟩
def Inv.fresh(I:Inv X À σ H s):H s.heap.objs.size=none:=I.hok.fresh (È _)
def Inv.lstM(I:Inv X À σ H s)(hH:H l=some (.lst xs)):xs.length<=sizeLine/\∃(its:ZJ)(n:Nat),bH xs its/\xs.length=its.length/\s.heap.get? l=some {cls:=.type "list",data:=.seq its.toArray n}:=by
 let⟨z,its,n,r,e⟩:=I.hok l _ hH;exact⟨z,its,n,r,r.length,e⟩
def T7(h:n<=sizeLine):Builtin.List.listTooLong n=false:=by
 unfold Builtin.List.listTooLong
 grind
end
section
def MQ:V->List V->Hp->VK->Prop:=λx vs H Q=>∃l xs y,x=.ref l/\vs=[y]/\H l=some (.lst xs)/\xs.length<sizeLine/\Q .non (aV H l (.lst (xs++[y])))
def uC:ņ X "list.append" MQ:=by
 intro À s σ H x vs v us Q I rx rv h;let⟨l,xs,y,rfl,rfl,hH,hz,q⟩:=h;cases rx;let⟨u,rfl,ru⟩:=rv.one;let⟨z,its,n,r,hl,e⟩:=I.lstM hH;refine call_meets F.slot_list_append ⟨_,e,rfl⟩ F.entry_list_append (F.args_list_append_2 _ _) (PySem.list_append l its.toArray n u (by rw[é];lia)) ⟨e,?_⟩;refine⟨.non,_,I.lset (its':=its++[u]) hH e 'f' (r.append (.cons ru .nil)) ?_,rfl,q⟩;rw[Ð,ò];assumption
def ι:V->List V->Hp->VK->Prop:=λx vs H Q=>∃l xs y,x=.ref l/\vs=[]/\H l=some (.lst xs)/\xs[xs.length-1]?=some y/\Q y (aV H l (.lst xs.dropLast))
def aGS:ņ X "list.pop" ι:=by
 intro À s σ H x vs v us Q I rx rv h;let⟨l,xs,y,rfl,rfl,hH,hy,q⟩:=h;cases rx;have hus:=rv.zero;subst hus;let⟨z,its,n,r,hl,e⟩:=I.lstM hH;let⟨u,hu,ru⟩:=r.get hy;have hy':its.toArray[its.toArray.size-1]?=some u:=by
  show its.toArray[its.length-1]?=some u;rw[<- Array.getElem?_toList,<- hl];exact hu
 refine call_meets F.slot_list_pop ⟨_,e,rfl⟩ F.entry_list_pop (F.args_list_pop_1 _) (MeetsSeq.list_pop_last l its.toArray n u hy' (by rw[é];lia)) ⟨e,?_⟩;refine⟨y,_,I.lset (its':=its.dropLast) hH e ?_ r.dropLast ?_,ru,q⟩
 .show its.toArray.eraseIdxIfInBounds (its.toArray.size-1)=its.dropLast.toArray
  rw[é,List.eraseIdxIfInBounds_toArray,KL]
 .rw[List.length_dropLast]
  lia
end
section
end
section
end
end L2
namespace Att
open PySem PySem.W PySem.Calls PyProof.Rows
def v5 :∀(ns:ZK)(vs:ZJ),WellAll P h vs (ns.map WData.int)->IntsAre vs ns:=by
 intro ns
 induction ns with
 |nil=>
  intro vs w;rw[List.map_nil]at w;cases w;exact .nil
 |cons n ns ih=>
  intro vs w;rw[Ì]at w;cases w with
  |cons a b=>
   cases a;exact .cons _ _ (ih _ b)
def P5{l:OpenLaw}(hn:l.most=some n){vals:ZJ}(hpre:l.row.toRowW.claim.pre args=true)(hwl:WellAll P h vals args):
  ∃a vs ns,vals=[Value.ref a]/\args=[WData.list (ns.map WData.int)]/\h.get? a=some {cls:=.type "list",data:=.seq vs.toArray}/\IntsAre vs ns/\ns.length<=n:=by
 have hsh:WShape.hasAll [] args [.list .int]=true:=(pre_splitW hpre).1;have hc:l.pre.holds [] {args:=args}=true:=(pre_splitW hpre).2;let⟨d,r,rfl,h1,h2⟩:=hasAllW_cons hsh;obtain rfl:=hasAllW_nil h2;let⟨xs,rfl,h3⟩:=hasW_list h1;let⟨ns,rfl⟩:=items_int h3;have hlen:ns.length<=n:=by
  unfold OpenLaw.pre at hc;have h4:(WTm.not (.lt (.lit (.int (n:Int))) (.len (.arg 0)))).holds [] {args:=[.list (ns.map .int)]}=true:=by
   have h4:=(holds_andW hc).1;rw[hn]at h4;exact h4
  have h5:=condW_of h4 (w_not (w_lt w_lit (w_len_list (w_arg rfl))));rw[Å]at h5;refine Nat.le_of_not_lt λq=>?_;have q':(n:Int)<((ns.length:Nat):Int):=by lia
  first
   |grind
   |(simp at h5;lia)
 cases hwl with
 |cons w1 w2=>
  cases w2;cases w1 with
  |list ho hall=>exact⟨_,_,ns,rfl,rfl,ho,v5 ns _ hall,hlen⟩
def P6(l:OpenLaw)(args:List WData):l.row.toRowW.claim.post args (.bool true) args=true:=
 postW_of (r:=l.row.toRowW) (X:=(true == true))
  (show WShape.has [] (.bool true) .bool=true by first|rfl|decide|simp[WShape.has,WShape.arms,WShape.armsAll])
  (show (WTm.eq .res (.lit (.bool true))).value [] {args:=args,res:=some (.bool true),after:=args}=some (.bool (true == true))from w_eq_bool (w_res rfl) w_lit) rfl
def attach_call{l:OpenLaw}{n:Nat}{q:Program}{loose:ZG}{XP:(ZD)->Heap->Prop}{YP:World->Heap->Prop}{d:DefRec}(hn:l.most=some n)(hdf:d.params.defaults=[])(call:∀(w:World)(s₀ s₁:Shared)(mg mb:ZD)(fa:Addr)(o:Obj)(pm cd doc:Value)(a:Addr)(vs:ZJ)(ns:ZK),
   Ground q loose [] XP w s₀ mg mb s₁.heap->YP w s₁.heap ->
   s₁.heap.get? fa=some o->o.data=.func (docDef d.name d.params d.body d.scope pm cd doc)->s₁.heap.CodeRec cd d.name->mg d.name=some (.ref fa) ->
   s₁.heap.get? a=some {cls:=.type "list",data:=.seq vs.toArray}->IntsAre vs ns->ns.length<=n->s₁.gens=#[] ->
   codeAny (model l.prog w) callerA (.call (.ref fa) ⟨[.ref a],[]⟩) (λr s'=>r=.ok (.ret (.bool true))/\OldK s₁.heap s'.heap/\s'.os=s₁.os/\AllBare s'.gens) s₁):
  WalkO q loose XP YP l.row.toRowW d [] (λf vs=>PySem.call f vs):=by
 intro w s₀ s₁ mg mb G Y fa o pm cd doc dV kV ho hd hcd hD hmg hg args vals as hpre hlay hrd hwl hlo;obtain rfl:dV=.none:=Dflts.none hD hdf;obtain rfl:kV=.none:=Dflts.noKw hD;let⟨a,vs,ns,rfl,rfl,hobj,hints,hlen⟩:=P5 hn hpre hwl;refine enter_call (codeAny_mono (call w s₀ s₁ mg mb fa o pm cd doc a vs ns G Y ho (fd_plain hd) hcd hmg hobj hints hlen hg) λr s' hq=>?_);let⟨rfl,h2,h3,h4⟩:=hq;exact⟨.inl ⟨.bool true,.bool true,[],rfl,λ_=>rfl,.bool true,P6 l _,λ_=>⟨List.Pairwise.nil,λ_ hm=>(nomatch hm)⟩⟩,h2,h3,h4⟩
section
end
end Att
namespace L2
open PySem PySem.Spec PyProof.Rows
def BG:∀{vs:ZJ}{ns:ZK},IntsAre vs ns->bH (ns.map V.int) vs
 |_,_,.nil=>.nil
 |_,_,.cons n t h=>.cons ⟨t,rfl⟩ (BG h)
def oG(s:Stmt):Arguments:=match s with
 |.FunctionDef _ a _ _ _ _ _ _ _ _=>a
 |_=>{posonlyargs:=[],args:=[],vararg:=none,kwonlyargs:=[],kw_defaults:=[],kwarg:=none,defaults:=[]}
def dQ(s:Stmt):(List Stmt):=match s with
 |.FunctionDef _ _ b _ _ _ _ _ _ _=>b
 |_=>[]
def bC(s:Stmt):Scope:=match s with
 |.FunctionDef _ _ _ _ _ _ sc _ _ _=>sc
 |_=>{kind:=.function,names:=[],isGenerator:=false,isCoroutine:=false}
structure SU(K:ZC)(x qual:Str)(st:Stmt)(f:Addr)(fd:FuncData):Prop where
 ex:∃(oc:Value)(od:Option Addr)(kV doc pm:Value)(an:Option Addr)(cdv ct:Value)(osl:Array (ZN)),
  fd=W.fnOf x qual (oG st) (dQ st) (bC st) .none kV doc pm an cdv ct/\K.lookup f=some ⟨oc,od,.func fd,osl⟩/\W.codeIn K cdv qual=true
 kp:W.keepIn K (.ref f)=true
section
variable {K:ZC}
def SU.binds{st:Stmt}(F:SU K x qual st f fd)(h:∀(kV doc pm:Value)(an:Option Addr)(cdv ct:Value)(us:ZJ),us.length=ps.length->bindArgs (W.fnOf x qual (oG st) (dQ st) (bC st) .none kV doc pm an cdv ct) ⟨us,[]⟩=pure (ps.zip us)):pQ K fd ps []:=by
 let⟨oc,od,kV,doc,pm,an,cdv,ct,osl,rfl,lk,hcd⟩:=F.ex;exact .all (h kV doc pm an cdv ct)
def KM{st:Stmt}{kV doc pm cdv ct:Value}(l:K.lookup f=some ⟨oc,od,.func (W.fnOf x qual (oG st) (dQ st) (bC st) .none kV doc pm an cdv ct),osl⟩)(c:W.codeIn K cdv qual=true)(k:W.keepIn K (.ref f)=true):SU K x qual st f (W.fnOf x qual (oG st) (dQ st) (bC st) .none kV doc pm an cdv ct):=⟨⟨oc,od,kV,doc,pm,an,cdv,ct,osl,rfl,l,c⟩,k⟩
end
section
variable {X:Cx}
def pv(i:Nat){pos:Pos}(hN:↥(X.N[i]?=some x))(hv:#v[AI X.env.scope x])(hd:⇑(Zdb x))(hcd:⇑(Zcd x)):PE X (.Name x pos) (FV i):=c9 hN hv hd hcd
end
def aI(H H':Hp):Prop:=∀b o,H b=some o->H' b=some o
def aI.refl(H:Hp):aI H H:=λ_ _ h=>h
def aI.seq{K:ZC}(e:aI H H')(h:d8 K H a xs):d8 K H' a xs:=by
 rcases h with (h|⟨o,h⟩)|h
 .exact .inl (.inl (e _ _ h))
 .exact .inl (.inr ⟨o,e _ _ h⟩)
 .exact .inr h
def T8:bootBuiltins "len"=some (.builtin "len"):=by decide +kernel
def DC:bootBuiltins "abs"=some (.builtin "abs"):=by decide +kernel
def pT:bootBuiltins "isinstance"=some (.builtin "isinstance"):=by decide +kernel
def aGT:bootBuiltins "all"=some (.builtin "all"):=by decide +kernel
def iJ:bootBuiltins "list"=some (.type "list"):=by decide +kernel
def mW:bootBuiltins "tuple"=some (.type "tuple"):=by decide +kernel
def KN:bootBuiltins "str"=some (.type "str"):=by decide +kernel
def aGU:bootBuiltins "int"=some (.type "int"):=by decide +kernel
def aA1:bootBuiltins "bool"=some (.type "bool"):=by decide +kernel
def fK(n:Nat)(x:Int):Prop:=x.natAbs<2^n
def fK.le(h:fK n y)(e:x.natAbs<=y.natAbs):fK n x:=ē e h
def fK.mono(h:fK m x)(e:m<=n):fK n x:=Ú h (Nat.pow_le_pow_right ⋯ e)
def fK.neg(h:fK n x):fK n (-x):=h.le ∅
def fK.add(h:fK m x)(g:fK n y)(e:max m n+1<=k):fK k (x+y):=by
 have a:fK (max m n) x:=h.mono (Nat.le_max_left ..);have b:fK (max m n) y:=g.mono (Nat.le_max_right ..);have c:2^(max m n+1)=2^max m n+2^max m n:=by rw[Nat.pow_succ];lia
 have d:(x+y).natAbs<2^(max m n+1):=by
  rw[c];have:=Int.natAbs_add_le x y;unfold fK at a b;lia
 exact fK.mono (m:=max m n+1) d e
def fK.sub(h:fK m x)(g:fK n y)(e:max m n+1<=k):fK k (x-y):=by
 rw[Int.sub_eq_add_neg];exact h.add g.neg e
def fK.mul(h:fK m x)(g:fK n y)(e:m+n<=k):fK k (x*y):=by
 have d:(x*y).natAbs<2^(m+n):=by
  rw[Int.natAbs_mul,Nat.pow_add];exact Nat.mul_lt_mul'' h g
 exact fK.mono (m:=m+n) d e
def fK.mulOk(h:fK m x)(g:fK n y)(e:⇑(m+n<=134217728)):IntMulOk x y:=.of_le (intBits_le_iff.mpr h) (intBits_le_iff.mpr g) e
def fK.log2(h:fK n x)(e:⇑(n<=9000)):x.natAbs.log2<9000:=by
 by_cases h0:x.natAbs=0
 .rw[h0];decide
 .exact Ú ((Nat.log2_lt h0).mpr h) e
def aKM(h1:-(2^64)<i)(h2:i<2^64):IntMulOk i j:=.of_left (intBits_le_64 h1 h2)
def aKN(h1:-(2^64)<j)(h2:j<2^64):IntMulOk i j:=.of_right (intBits_le_64 h1 h2)
section
def aA2:j7 X (binaryOp .Mult) (rI IntMulOk λi j=>.int (i*j)):=ŀ λ_ _ _ _ _ _ _ hc q=>mul_int q hc
def μ(_ j:Int):Prop:=j≠0/\j.natAbs.log2<9000
def T9:j7 X (binaryOp .FloorDiv) (rI μ λi j=>.int (i.fdiv j)):=ŀ λ_ _ _ _ _ _ _ hc q=>floordiv_int hc.1 q (.inl (PyProof.noPylong_of_log2 hc.2))
def UA:j7 X (compareOp .Is) (λx y H Q=>∃c d,x=.bl c/\y=.bl d/\Q (.bl (c == d)) H):=by
 intro À s σ H x y v u Q I rx ry h;let⟨c,d,rfl,rfl,q⟩:=h;cases rx;cases ry;exact is_bool (mV I q rfl)
def aA3:j7 X (compareOp .IsNot) (λx y H Q=>∃c d,x=.bl c/\y=.bl d/\Q (.bl (c != d)) H):=by
 intro À s σ H x y v u Q I rx ry h;let⟨c,d,rfl,rfl,q⟩:=h;cases rx;cases ry;exact isnot_bool (mV I q rfl)
def UB{pos:Pos}(hg:Gl X x)(hm:X.mg x=none)(hv:bootBuiltins x=some (.type n))(hn:⇑(x≠"__name__"))(hd:⇑(Zdb x)):PE X (.Name x pos) (tC (.ty n)):=aAI (v:=.ty n) hg hm hv rfl hn hd
end
def FO:cV->PyData
 |.inl i=>.int i
 |.inr x=>.str x
def aKO(K:ZC)(H:Hp)(a:Addr)(ks:List PyData)(xs:List V):Prop:=
 ∃(nm:Str)(fs:ZG)(C dx:Addr)(vs:List V),xs=.str nm::vs/\ks=.none::fs.map PyData.str/\fs.length=vs.length/\H a=some (.ins C dx (fs.zip vs))/\H dx=some (.own a)/\W.nsIn K mainGlobals nm=some (some (.ref C))
def aKP(H:Hp)(a:Addr)(ks:List PyData)(xs:List V):Prop:=∃(ms:List cV),ks=ms.map FO/\ms.length=xs.length/\H a=some (.dK (ms.zip xs))
mutual
def bD(K:ZC)(H:Hp):PyData->V->Prop
 |.none,v=>v=.non
 |.bool b,v=>v=.bl b
 |.int i,v=>v=.int i
 |.str x,v=>v=.str x
 |.list ds,v=>∃(a:Addr)(xs:List V),v=.ref a/\d8 K H a xs/\aD K H ds xs
 |.tuple ds,v=>∃(a:Addr)(xs:List V),v=.ref a/\rN K H a xs/\aD K H ds xs
 |.dict Á,v=>∃(a:Addr)(xs:List V),v=.ref a/\(aKO K H a (Á.map Prod.fst) xs\/aKP H a (Á.map Prod.fst) xs)/\iE K H Á xs
def aD(K:ZC)(H:Hp):List PyData->List V->Prop
 |[],xs=>xs=[]
 |d::ds,xs=>∃(x:V)(r:List V),xs=x::r/\bD K H d x/\aD K H ds r
def iE(K:ZC)(H:Hp):List (PyData×PyData)->List V->Prop
 |[],xs=>xs=[]
 |(_,d)::ds,xs=>∃(x:V)(r:List V),xs=x::r/\bD K H d x/\iE K H ds r
end
section
mutual
def bD.reads(I:Inv X À σ H s):∀(d:PyData)(v:V)(u:Value),d.canLay0=true->bD X.K H d v->bI v u->∃as,Reads s.heap u d as
 |.none,v,u,_,h,r=>by
  unfold bD at h;subst h;cases (show u=Value.none from r);exact⟨_,.none⟩
 |.bool b,v,u,_,h,r=>by
  unfold bD at h;subst h;cases (show u=Value.bool b from r);exact⟨_,.bool b⟩
 |.int i,v,u,_,h,r=>by
  unfold bD at h;subst h;let⟨t,rfl⟩:=(show ∃t,u=Value.int i t from r);exact⟨_,.int i t⟩
 |.str x,v,u,_,h,r=>by
  unfold bD at h;subst h;let⟨t,rfl⟩:=(show ∃t,u=Value.str x t from r);exact⟨_,.str x t⟩
 |.list ds,v,u,l,h,r=>by
  unfold bD at h;let⟨a,xs,rfl,hs,ha⟩:=h;cases (show u=Value.ref a from r);let⟨its,rv,p,_⟩:=I.list hs;let⟨as,q⟩:=aD.reads I ds xs its (by simpa[PyData.canLay0]using l) ha rv;let⟨o,ho,hc,n,hd⟩:=p.isList;exact⟨_,.list ho hc hd (by simpa using q)⟩
 |.tuple ds,v,u,l,h,r=>by
  unfold bD at h;let⟨a,xs,rfl,hs,ha⟩:=h;cases (show u=Value.ref a from r);let⟨its,rv,p,_⟩:=I.tuple hs;let⟨as,q⟩:=aD.reads I ds xs its (by simpa[PyData.canLay0]using l) ha rv;let⟨o,ho,hc,n,hd⟩:=p;exact⟨_,.tuple ho hc hd (by simpa using q)⟩
 |.dict _,v,u,l,h,r=>by
  simp[PyData.canLay0]at l
def aD.reads(I:Inv X À σ H s):∀(ds:List PyData)(xs:List V)(us:ZJ),PyData.canLayAll0 ds=true->aD X.K H ds xs->bH xs us->∃as,ReadsAll s.heap us ds as
 |[],xs,us,_,h,r=>by
  unfold aD at h;subst h;cases r;exact⟨_,.nil⟩
 |d::ds,xs,us,l,h,r=>by
  unfold aD at h;let⟨x,t,rfl,hx,ht⟩:=h;simp![PyData.canLayAll0,æ]at l;cases r with
  |cons rx rt=>
   let⟨as,p⟩:=bD.reads I d x _ l.1 hx rx;let⟨bs,q⟩:=aD.reads I ds t _ l.2 ht rt;exact⟨_,.cons p q⟩
end
end
def gE(h:SeqAt.shaped d=true):d.canLay0=true:=by
 unfold SeqAt.shaped at h;rw[æ]at h;exact h.1
section
def fE(hu:X.A.units+64<cLine):j7 X (compareOp .Eq) (λx y H Q=>∃d e,bD X.K H d x/\bD X.K H e y/\SeqAt.shaped d=true/\SeqAt.shaped e=true/\Q (.bl (PyData.eqv d e)) H):=by
 intro À s σ H x y v u Q I rx ry h;let⟨d,e,hd,he,sd,se,q⟩:=h;let⟨as,ra⟩:=bD.reads I d x v (gE sd) hd rx;let⟨bs,rb⟩:=bD.reads I e y u (gE se) he ry;exact SeqAt.compareEq_shaped ra rb sd se hu (mV I q rfl)
def lQ(hu:X.A.units+64<cLine):j7 X (compareOp .NotEq) (λx y H Q=>∃d e,bD X.K H d x/\bD X.K H e y/\SeqAt.shaped d=true/\SeqAt.shaped e=true/\Q (.bl (!PyData.eqv d e)) H):=by
 intro À s σ H x y v u Q I rx ry h;let⟨d,e,hd,he,sd,se,q⟩:=h;let⟨as,ra⟩:=bD.reads I d x v (gE sd) hd rx;let⟨bs,rb⟩:=bD.reads I e y u (gE se) he ry;exact SeqAt.compareNe_reads ra rb (SeqAt.canLay_of_shaped sd) (SeqAt.canLay_of_shaped se) (SeqAt.room_of_shaped sd hu) (mV I q rfl)
end
def bW{H:Hp}{p:Addr}(h:H p=none)(o:HO):aI H (aV H p o):=λb u q=>by rw[aE (bK q h)];exact q
def aI.seqT{K:ZC}(e:aI H H')(h:rN K H a xs):rN K H' a xs:=by
 rcases h with (h|⟨o,h⟩)|h
 .exact .inl (.inl (e _ _ h))
 .exact .inl (.inr ⟨o,e _ _ h⟩)
 .exact .inr h
mutual
def aI.rep{K:ZC}{H H':Hp}(e:aI H H'):∀(d:PyData)(v:V),bD K H d v->bD K H' d v
 |.none,v,h=>by unfold bD at h⊢;exact h
 |.bool b,v,h=>by unfold bD at h⊢;exact h
 |.int i,v,h=>by unfold bD at h⊢;exact h
 |.str x,v,h=>by unfold bD at h⊢;exact h
 |.list ds,v,h=>by
  unfold bD at h⊢;let⟨a,xs,rfl,hs,ha⟩:=h;exact⟨a,xs,rfl,e.seq hs,aI.repAll e ds xs ha⟩
 |.tuple ds,v,h=>by
  unfold bD at h⊢;let⟨a,xs,rfl,hs,ha⟩:=h;exact⟨a,xs,rfl,e.seqT hs,aI.repAll e ds xs ha⟩
 |.dict Á,v,h=>by
  unfold bD at h⊢;let⟨a,xs,rfl,hs,ha⟩:=h;refine⟨a,xs,rfl,?_,aI.repKV e Á xs ha⟩;rcases hs with ⟨nm,fs,C,dx,vs,h1,h2,h3,h4,h5,h6⟩|⟨ms,h1,h2,h3⟩
  .exact .inl ⟨nm,fs,C,dx,vs,h1,h2,h3,e _ _ h4,e _ _ h5,h6⟩
  .exact .inr ⟨ms,h1,h2,e _ _ h3⟩
def aI.repAll{K:ZC}{H H':Hp}(e:aI H H'):∀(ds:List PyData)(xs:List V),aD K H ds xs->aD K H' ds xs
 |[],xs,h=>by unfold aD at h⊢;exact h
 |d::ds,xs,h=>by
  unfold aD at h⊢;let⟨x,t,rfl,hx,ht⟩:=h;exact⟨x,t,rfl,aI.rep e d x hx,aI.repAll e ds t ht⟩
def aI.repKV{K:ZC}{H H':Hp}(e:aI H H'):∀(ds:List (PyData×PyData))(xs:List V),iE K H ds xs->iE K H' ds xs
 |[],xs,h=>by unfold iE at h⊢;exact h
 |(_,d)::ds,xs,h=>by
  unfold iE at h⊢;let⟨x,t,rfl,hx,ht⟩:=h;exact⟨x,t,rfl,aI.rep e d x hx,aI.repKV e ds t ht⟩
end
def wV{K:ZC}:∀{ks ds:List PyData}{xs:List V},ks.length=ds.length->aD K H ds xs->iE K H (ks.zip ds) xs
 |[],[],xs,_,h=>by unfold aD at h;unfold List.zip List.zipWith iE;exact h
 |k::ks,d::ds,xs,l,h=>by
  unfold aD at h;let⟨x,t,rfl,hx,ht⟩:=h;rw[ä];unfold iE;exact⟨x,t,rfl,hx,wV (by simpa using l) ht⟩
def iE.all{K:ZC}:∀{Á:List (PyData×PyData)}{xs:List V},iE K H Á xs->aD K H (Á.map Prod.snd) xs
 |[],xs,h=>by unfold iE at h;unfold List.map aD;exact h
 |(_,d)::ds,xs,h=>by
  unfold iE at h;let⟨x,t,rfl,hx,ht⟩:=h;rw[Ì];unfold aD;exact⟨x,t,rfl,hx,iE.all ht⟩
def ν(h:0<=j)(h1:j<=1000000)(h2:i.natAbs<2^64):Ł i j:=⟨h,h1,h2⟩
def DD{j:Nat}{v:α}(e:k=(j:Int))(h:xs[j]?=some v):atI xs k=some v:=by
 rw[e];exact dP h
def Ň:(10:Int)^(9:Int).toNat=1000000000:=by decide +kernel
def ň(t b x:Int):Int:=if b<0 then -(x/(Int.gcd t b:Int))else x/(Int.gcd t b:Int)
def GD:Int.gcd b (a % b)=Int.gcd a b:=by
 rw[Int.emod_def,Int.gcd_sub_mul_left_right,Int.gcd_comm]
def GE(d:(Int.gcd t b:Int)∣x):x.fdiv (if b<0 then -(Int.gcd t b:Int)else (Int.gcd t b:Int))=ň t b x:=by
 unfold ň;split
 .rw[Int.fdiv_eq_ediv_of_dvd ((Int.neg_dvd).mpr d),Int.ediv_neg]
 .rw[Int.fdiv_eq_ediv_of_dvd d]
end L2
set_option maxRecDepth 100000
set_option maxHeartbeats 4000000
namespace L2
open PySem PySem.Spec PyProof.Rows
def gB(cells:List (Str×Addr)):List (Str×NameKind)->List (Str×Addr)->List (Str×Addr)
 |[],acc=>acc
 |(n,k)::r,acc=>if k == .free then (match cells.lookup n with|some a=>gB cells r ((n,a)::acc)|none=>gB cells r acc)else gB cells r acc
def freeIn(cells:List (Str×Addr))(names:List (Str×NameKind)):Prop:=∀n,(n,NameKind.free)∈names->∃c,cells.lookup n=some c
def uD :∀(names:List (Str×NameKind))(acc:List (Str×Addr)),freeIn env.cells names ->
  (forIn names acc λ(x:Str×NameKind)(cs:List (Str×Addr))=>(if x.2 == .free then do let c <- cellOf env x.1;pure (ForInStep.yield ((x.1,c)::cs))else pure (ForInStep.yield cs):Sem (ForInStep (List (Str×Addr)))))=pure (gB env.cells names acc)
 |[],acc,_=>by rfl
 |(n,k)::r,acc,h=>by
  have hr:freeIn env.cells r:=λm hm=>h m (Ó _ hm);rw[List.forIn_cons];unfold gB;cases hk:k == NameKind.free with
  |false=>
   rw[Ã (by simp[hk]),Ã 'f'];exact uD r acc hr
  |true=>
   rw[Â (by simp[hk]),Â rfl];have e:k=.free:=by cases k<;>first|rfl|exact absurd hk ⋯
   let⟨c,hc⟩:=h n (by rw[e];exact Ô);rw[hc];have e2:cellOf env n=pure c:=by unfold cellOf;rw[hc]
   rw[show cellOf env (n,k).1=pure c from e2];exact uD r ((n,c)::acc) hr
def MR(h:freeIn env.cells scope.names):closureFor scope env=pure (gB env.cells scope.names []):=by
 have e:=uD (env:=env) scope.names [] h;unfold closureFor;exact(congrArg (λm=>m >>= λcs=>(pure cs:Sem (List (Str×Addr)))) e).trans rfl
def oH :∀(names:List (Str×NameKind))(acc:List (Str×Addr)),(∀n c,(n,c)∈acc->cells.lookup n=some c)->(n,c)∈gB cells names acc->cells.lookup n=some c
 |[],acc,ha,h=>ha _ _ h
 |(m,k)::r,acc,ha,h=>by
  unfold gB at h;split at h
  .split at h
   .rename_i a hm
    refine oH r _ (λn' c' hn=>?_) h;rcases Ø.mp hn with e|hn
    .cases e;exact hm
    .exact ha _ _ hn
   .exact oH r _ ha h
  .exact oH r _ ha h
def rV{scope:Scope}(h:(gB cells scope.names []).lookup n=some c):cells.lookup n=some c:=
 oH scope.names [] (λ_ _ h=>absurd h 'f') (Ā h)
def oJ :∀(names:List (Str×NameKind))(acc:List (Str×Addr)),(n,c)∈acc->(n,c)∈gB cells names acc
 |[],_,h=>h
 |(m,k)::r,acc,h=>by
  unfold gB;split
  .split
   .exact oJ r _ (Ó _ h)
   .exact oJ r _ h
  .exact oJ r _ h
def rW(hc:cells.lookup n=some c):∀(names:List (Str×NameKind))(acc:List (Str×Addr)),(n,NameKind.free)∈names->(n,c)∈gB cells names acc
 |(m,k)::r,acc,h=>by
  unfold gB;rcases Ø.mp h with e|h
  .cases e
   rw[Â ⋯,hc];exact oJ r _ Ô
  .split
   .split
    .exact rW hc r _ h
    .exact rW hc r _ h
   .exact rW hc r _ h
def pU{α:Type}{c:α}:∀{l:List (Str×α)},(n,c)∈l->∃d,l.lookup n=some d
 |(m,d)::r,h=>by
  rw[å];cases e:n == m with
  |true=>exact⟨d,rfl⟩
  |false=>
   rcases Ø.mp h with q|q
   .cases q;simp at e
   .exact pU q
def wW{scope:Scope}(h:scope.names.lookup n=some .free)(hc:cells.lookup n=some c):(gB cells scope.names []).lookup n=some c:=by
 let⟨d,hd⟩:=pU (rW hc scope.names [] (Ā h));have:=rV hd;rw[hc]at this;cases this;exact hd
def lR:(relabel scope env).names.lookup x=(scope.names.lookup x).map λk=>if (k == .free && env.scope.kind == .function && env.kindOf x == some .cell)then .cell else k:=by
 unfold relabel;show List.lookup x (scope.names.map _)=_
 induction scope.names with
 |nil=>rfl
 |cons p r ih=>
  let⟨n,k⟩:=p;show List.lookup x ((if (k == NameKind.free && env.scope.kind == .function && env.kindOf n == some .cell)=true then (n,NameKind.cell)else (n,k))::_)=_;cases hx:x == n with
  |true=>
   have e:x=n:=by simpa using hx
   subst e;cases hc:(k == NameKind.free && env.scope.kind == .function && env.kindOf x == some .cell)with
   |true=>rw[Â rfl,å,å];simp![beq_self_eq_true,Option.map_some,hc,if_true]
   |false=>rw[Ã 'f',å,å];simp![beq_self_eq_true,Option.map_some,hc];rfl
  |false=>
   have e:∀k',List.lookup x ((n,k')::(r.map λ(n,k)=>if (k == NameKind.free && env.scope.kind == .function && env.kindOf n == some .cell)=true then (n,NameKind.cell)else (n,k)))=List.lookup x (r.map λ(n,k)=>if (k == NameKind.free && env.scope.kind == .function && env.kindOf n == some .cell)=true then (n,NameKind.cell)else (n,k)):=λk'=>by rw[å,hx]
   have e2:List.lookup x ((n,k)::r)=List.lookup x r:=by rw[å,hx]
   rw[e2,<- ih];split<;>exact e _
def mX(xs N:ZG):ZG:=N.map λn=>if xs.contains n then (".":Str)++n else n
def dR(N xs:ZG)(names onames:List (Str×NameKind)):Bool:=
 (names.all λp=>p.2 != .cell) && (names.all λp=>p.2 != .local || names.lookup p.1 == some .local) && (names.all λp=>p.2 != .free || (onames.lookup p.1 == some .cell || onames.lookup p.1 == some .free)) &&
  xs.all (λx=>names.lookup x == some .local) && ((mX xs N).zip N).all λp=>names.lookup p.1 == none || names.lookup p.1 == some .globalImplicit || (names.lookup p.1 == some .free && p.1 == p.2)
abbrev aT(X:Cx)(xs:ZG)(scope:Scope)(C:Addr)(fp:ZM)(s:Shared)(H:Hp):Cx:=
 {X with N:=xs++mX xs X.N,s₀:=s,H₀:=H,env:=compEnvC scope (gB X.env.cells scope.names []) C X.env,outer:=X.stack,ex:=fp,fn:=λ_=>false,pn:=[],xe:=λ_ _=>False}
section
variable {X:Cx}{À:ZB}{σ:St}{H H':Hp}{s s':Shared}{a:Addr}{o:HO}
def oB.adopt(x:oB P w H h)(hn:H a=none)(new:eC P w (aV H a o) h a o):oB P w (aV H a o) h:=λb u e=>by
 by_cases hb:b=a
 .subst hb;rw[aJ]at e;cases e;exact new
 .rw[aE hb]at e
  exact(x b u e).stay (λ_ _ _ q=>q) (λc q=>by rw[aE (bK q hn)];exact q) λc xs q=>by rw[aE (bK q hn)];exact q
def Inv.adopt(I:Inv X À σ H s)(hn:H a=none)(ha:X.s₀.heap.objs.size<=a)(hL:a≠X.env.locals)(hc:∀x c,X.env.cells.lookup x=some c->c≠a)(hp:∀p∈X.pn++À,p.1≠a)(new:eC X.prog X.w (aV H a o) s.heap a o):Inv X À σ (aV H a o) s:=by
 refine⟨I.ok,I.os,I.bare,⟨I.base.keep,I.base.slot,λb u e n hx=>?_,I.base.there,λb xs e=>?_,λb u v e=>?_,λb ps e=>?_⟩,I.loc,I.cell,?_,λx c e=>?_,λp h=>?_,I.hok.adopt hn new,I.len⟩
 .rw[aE (Ï (Ú (Heap.lt_size e) ha))];exact I.base.free b u e n hx
 .have q:=I.base.tups b xs e;rw[aE (bK q hn)];exact q
 .have q:=I.base.frzs b u v e;rw[aE (bK q hn)];exact q
 .obtain⟨more,q⟩:=I.base.tbls b ps e;exact⟨more,by rw[aE (bK q hn)];exact q⟩
 .rw[aE (Ñ hL)];exact I.free
 .rw[aE (hc x c e)];exact I.freeC x c e
 .obtain⟨e,n,ne,nf,d⟩:=I.pin p h
  exact⟨e,by rw[aE (hp p h)];exact n,ne,nf,d⟩
def vM(h:dR N xs names on=true):∀y∈names,y.2≠.cell:=λy hy e=>by
 unfold dR at h;simp![æ,ï]at h;have:=h.1.1.1.1 y hy;rw[e]at this;exact absurd this ⋯
def rX(h:dR N xs names on=true):∀y∈names,y.2=.local->names.lookup y.1=some .local:=λy hy e=>by
 unfold dR at h;simp![æ,ï]at h;have:=h.1.1.1.2 y hy;rw[e]at this;simpa using this
def vN(h:dR N xs names on=true):∀n,(n,NameKind.free)∈names->on.lookup n=some .cell\/on.lookup n=some .free:=λn hn=>by
 unfold dR at h;simp![æ,ï]at h;have:=h.1.1.2 _ hn;simpa using this
def GF(h:dR N xs names on=true){i:Nat}(e:(mX xs N)[i]?=some y):(names.lookup y=some .free/\N[i]?=some y)\/names.lookup y=none\/names.lookup y=some .globalImplicit:=by
 unfold dR at h;simp![æ]at h;have hl:(mX xs N).length=N.length:=by unfold mX;rw[Å]
 let⟨hi,ei⟩:=Í.mp e;have hz:((mX xs N).zip N)[i]?=some (y,N[i]):=by
  rw[Ĝ];exact⟨e,Ê (by exact õ ‹_› ‹_›)⟩
 have q:=ï.mp h.2 _ (Ĉ hz);simp![Bool.or_eq_true,æ,beq_iff_eq]at q;rcases q with (q|q)|⟨q,q2⟩
 .exact .inr (.inl q)
 .exact .inr (.inr q)
 .exact .inl ⟨q,by rw[Ê (by exact õ ‹_› ‹_›),<- q2]⟩
def Inv.freeIn{scope:Scope}(I:Inv X À σ H s)(hok:dR X.N xs scope.names X.env.scope.names=true):freeIn X.env.cells scope.names:=λn hn=>I.ok.has n (vN hok n hn)
def GG(h:(relabel scope env).names.lookup x=some .cell\/(relabel scope env).names.lookup x=some .free)(hc:∀y∈scope.names,y.2≠.cell):scope.names.lookup x=some .free:=by
 rw[lR]at h;cases e:scope.names.lookup x with
 |none=>rw[e]at h;simp at h
 |some k=>
  rw[e]at h;cases k with
  |free=>rfl
  |cell=>exact absurd rfl (hc _ (Ā e))
  |_=>simp at h
def Inv.block(I:Inv X À σ H s)(hok:dR X.N xs scope.names X.env.scope.names=true)(hk:scope.kind=.function)(hfp:∀b∈fp,v3 X À H b)(hobj:∀b∈fp,∃o,s.heap.get? b=some o)(hC:s.heap.objs.size<=C)(hns:s'.heap.Ns C m)(keep:∀b o,s.heap.get? b=some o->s'.heap.get? b=some o)(hos:s'.os=s.os)(hg:AllBare s'.gens):
  Inv 'g' [] (List.replicate xs.length none++σ) H s':=by
 have hcell:=vM hok;have hno:∀x c,(gB X.env.cells scope.names []).lookup x=some c->X.env.cells.lookup x=some c:=λx c h=>rV h;have ltf:∀b∈fp,b<s.heap.objs.size:=λb hb=>let ⟨_,e⟩:=hobj b hb;Heap.lt_size e
 refine⟨⟨I.ok.mod,hk,I.ok.glob,I.ok.blt,hC,λx y c h1 h2=>I.ok.inj x y c (hno _ _ h1) (hno _ _ h2),λx hx=>?_,λx c h _=>absurd h 'f',I.ok.hd,I.ok.frames,.inl rfl,λb hb=>⟨?_,λx c h=>(hfp b hb).2.2.2.2.1 x c (hno _ _ h)⟩,I.bs,Ü I.ok.bsz I.sz,λb u e hb=>?_,λb hb hf=>?_,I.stack,I.stkFree⟩,
  hos,hg,Un.kept keep,⟨m,hns,λi x v e1 e2 e3=>?_⟩,λx c h=>?_,I.hok.fresh hC,λx c h=>I.freeC x c (hno _ _ h),λp hp=>absurd (show p∈([]:ZB)from hp) 'f',I.hok.kept keep,?_⟩
 .have hf:=GG (show (relabel scope X.env).names.lookup x=some .cell\/(relabel scope X.env).names.lookup x=some .free from hx) hcell
  let⟨c,hc⟩:=I.freeIn hok x (Ā hf);exact⟨c,wW hf hc⟩
 .exact Ï (Ú (ltf b hb) hC)
 .rcases(hfp b hb).2.2.2.1 with z|z
  .exact I.ok.noex b u e z
  .exact absurd (Ú (Heap.lt_size e) (Ü I.ok.bsz z)) (û _)
 .rcases Ø.mp (I.stkSub b hf)with z|z
  .exact(hfp b hb).2.1 z
  .exact(hfp b hb).2.2.1 z
 .have e1:(xs++mX xs X.N)[i]?=some x:=e1
  by_cases hi:i<xs.length
  .rw[ó (by simpa using hi),ÿ,Â hi]at e2
   cases e2
  .rw[ã (by exact è.mp ‹_›)]at e1
   rw[ã (by rw[î];exact è.mp ‹_›),î]at e2;rcases GF hok e1 with ⟨q1,q2⟩|q|q
   .have kd:=vN hok x (Ā q1)
    let⟨m0,_,hl⟩:=I.loc;let⟨u,ru,lk⟩:=hl _ x v q2 e2 (by rcases kd with z|z;exact .inr (.inl z);exact .inr (.inr z))
    refine⟨u,ru,.inr ⟨?_,?_⟩⟩
    .show (relabel scope X.env).names.lookup x=some .cell\/(relabel scope X.env).names.lookup x=some .free
     rw[lR,q1];by_cases hc:(NameKind.free == NameKind.free && X.env.scope.kind == .function && X.env.kindOf x == some .cell)=true
     .left;rw[Option.map_some,Â hc]
     .right;rw[Option.map_some,Ã hc]
    .rcases lk with ⟨z,_⟩|⟨_,c,hc,hcell⟩
     .have z:X.env.scope.names.lookup x=some .local:=z
      rw[z]at kd;rcases kd with kd|kd<;>cases kd
     .refine⟨c,wW q1 hc,?_⟩
      let⟨oc,hoc,hd⟩:=hcell;exact⟨oc,keep _ _ hoc,hd⟩
   all_goals
    have e3:(relabel scope X.env).names.lookup x=some .local\/(relabel scope X.env).names.lookup x=some .cell\/(relabel scope X.env).names.lookup x=some .free:=e3;rw[lR,q]at e3;simp at e3
 .obtain⟨v,oc,hoc,hd⟩:=I.cell x c (hno _ _ h)
  exact⟨v,oc,keep _ _ hoc,hd⟩
 .show (List.replicate xs.length none++σ).length=(xs++mX xs X.N).length
  rw[Ð,Ð,î,I.len];unfold mX;rw[Å]
def Inv.unblock(I:Inv X À σ H s)(hfp:∀b∈fp,v3 X À H b)(J:Inv 'g' pins' σ' H' s'):Inv X À σ H' s':=
 I.call' (ch:=fp) J.os J.base J.hok J.bare λb hb=>⟨(hfp b hb).2.2.2.1,(hfp b hb).2.1,(hfp b hb).2.2.2.2.1,(hfp b hb).2.2.2.2.2⟩
end
def mY{prog:Program}{w:World}{A:Around}{R:Result->Shared->Prop}{s:Shared}{elt target iter:Expr}{ifs:List Expr}{scope:Scope}{pos:Pos}{it acc:Value}{env:Env}(I:Nat->Shared->Prop)(turn:∀n s,I n s->wpAny (model prog w) A (pyNext it) (λr s₁=>match r with
   |none=>R (.ok .next) s₁
   |some v=>wpAny (model prog w) A (letOwnedTupleGo target it v) (λ_ s₁'=>wpAny (model prog w) A (assign target env v) (λ_ s₂=>
     wpAny (model prog w) A (forIn ifs true λc r=>if r=true then do let ok <- isTrue c env (eval c env);pure (ForInStep.yield ok)else pure (ForInStep.yield r)) (λok s₃=>
      if ok=true then wpAny (model prog w) A (eval elt env) (λx s₄=>
       wpAny (model prog w) A (call (.builtin "list.append") [acc,x]) (λ_ s₅=>∃m,m<n/\I m s₅) (λ_ _=>False) s₄) (λ_ _=>False) s₃
      else ∃m,m<n/\I m s₃) (λ_ _=>False) s₂) (λ_ _=>False) s₁') (λ_ _=>False) s₁) (λ_ _=>False) s)(n:Nat)(h:I n s):codeAny (model prog w) A (.compLoop (.ListComp elt [⟨target,iter,ifs,0⟩] scope pos) 0 it acc env) R s:=by
 refine codeAny_loop rfl I (λn s hI=>?_) n h;show wpAny _ A ((compTurn (.ListComp elt [⟨target,iter,ifs,0⟩] scope pos) 0 it acc env).onRaise (λx=>do noteFrame x env;theTreesLotGoes x)) _ _ s;refine wpAny_noted ?_;rw[compTurn_list];refine wpAny_bind (wpAny_standAt (wpAny_bind (wpAny_mono (turn n s hI) (λr s₁ h₁=>?_) λ_ _ h'=>h'.elim)));cases r with
 |none=>exact wpAny_pure h₁
 |some v=>
  refine wpAny_bind (wpAny_mono h₁ (λ_ s₁' h₁'=>?_) λ_ _ h'=>h'.elim);refine wpAny_bind (wpAny_mono h₁' (λ_ s₂ h₂=>wpAny_bind (wpAny_mono h₂ (λok s₃ h₃=>?_) λ_ _ h'=>h'.elim)) λ_ _ h'=>h'.elim);cases ok with
  |false=>exact wpAny_pure ⟨rfl,h₃⟩
  |true=>
   exact wpAny_bind (wpAny_bind (wpAny_mono h₃ (λx s₄ h₄=>wpAny_bind (wpAny_mono h₄ (λ_ s₅ h₅=>wpAny_pure (wpAny_pure ⟨rfl,h₅⟩)) λ_ _ h'=>h'.elim)) λ_ _ h'=>h'.elim))
def SV(X:Cx)(ifs:List Expr)(t:TT):Prop:=
 ∀(À:ZB)(s:Shared)(σ:St)(H:Hp)(Q:Bool->Hp->Prop),Inv X À σ H s->t σ H Q ->
  wpAny 'b' X.A (forIn ifs true λc r=>if r=true then do let ok <- isTrue c X.env (eval c X.env);pure (ForInStep.yield ok)else pure (ForInStep.yield r)) (TP X À σ Q) X.xe s
def DF:SV X [] (λ_ H Q=>Q true H):=λ_ _ _ H _ I h=>wpAny_tests_nil ⟨H,I,h⟩
def aA4(h:PT X c t):SV X [c] t:=λÀ s σ H Q I hq=>wpAny_tests_one (h À s σ H Q I hq)
def MS(k:Nat)(wi:TI)(g:TG)(ti:TT)(te:TE):TE:=λσ H Q=>wi σ H λJ H1=>∃W:Nat->Nat->List V->St->Hp->Prop,(∃m,W 0 m [] (List.replicate k none++σ) H1)/\∀i m ys σ' H',W i m ys σ' H' ->
 (J.stop i H'/\∀p,H' p=none->Q (.ref p) (aV H' p (.lst ys))) \/
 (J.go i H'/\ys.length<sizeLine/\∃N:List V->St->Hp->Prop,(∀zs σ'' H'',N zs σ'' H''->∃m',m'<m/\W (i+1) m' zs σ'' H'') /\
  ∀x H2,J.yld i H' x H2->g x σ' H2 λσ2 H3=>ti σ2 H3 λb H4=>if b=true then te σ2 H4 λy H5=>N (ys++[y]) σ2 H5 else N ys σ2 H4)
section
variable {X:Cx}{pos:Pos}{tg elt iter:Expr}{ifs:List Expr}{scope:Scope}{xs:ZG}{wi:TI}{g:TG}{ti:TT}{te:TE}
def wX{À:ZB}{σ:St}{s:Shared}{Q:VK}{itv:Value}{E:ZA}{R:Value->Addr->Result->Shared->Prop}(hc:X.calm=true)(hk:scope.kind=.function)(hok:dR X.N xs scope.names X.env.scope.names=true)(hg:∀C fp s H,PG 'g' tg g)(hif:∀C fp s H,SV 'g' ifs ti)(he:∀C fp s H,PE 'g' elt te)(h:Ũ X À σ tg (λJ H1=>∃W:Nat->Nat->List V->St->Hp->Prop,(∃m,W 0 m [] (List.replicate xs.length none++σ) H1)/\∀i m ys σ' H',W i m ys σ' H' ->
   (J.stop i H'/\∀p,H' p=none->Q (.ref p) (aV H' p (.lst ys))) \/
   (J.go i H'/\ys.length<sizeLine/\∃N:List V->St->Hp->Prop,(∀zs σ'' H'',N zs σ'' H''->∃m',m'<m/\W (i+1) m' zs σ'' H'') /\
    ∀x H2,J.yld i H' x H2->g x σ' H2 λσ2 H3=>ti σ2 H3 λb H4=>if b=true then te σ2 H4 λy H5=>N (ys++[y]) σ2 H5 else N ys σ2 H4)) itv s)(hR:∀D C H' m s',Inv X À σ H' s'->Q (.ref D) H'->s'.heap.Ns C m->H' C=none->X.s₀.heap.objs.size<=C->C≠X.env.locals->(∀x c,X.env.cells.lookup x=some c->c≠C)->(∀p∈X.pn++À,p.1≠C)->R (.ref D) C (.ok .next) s'):
  wpAny 'b' X.A (newList []) (λacc s₃=>wpAny 'b' X.A (newFunctionEnv scope X.env.globals (gB X.env.cells scope.names []) [] X.env.qual none .none (some X.env)) (λcenv s₄=>
   codeAny 'b' X.A (.compStart (.ListComp elt [⟨tg,iter,ifs,0⟩] scope pos) 0 itv acc {cenv with scope:=relabel scope X.env}) (R acc cenv.locals) s₄) E s₃) E s:=by
 let⟨it,fp,tn,J,H1,rfl,I,T,st0,hfp,W,⟨m0,w0⟩,turn⟩:=h;have hcell:=vM hok;refine wpAny_newObj_type (wpAny_newFunctionEnv hcell (by intro y hy;simp at hy) (λh₁ hns₁ hsb₁=>?_) hk);dsimp only at hns₁ hsb₁⊢;generalize hH2:s.heap.push {cls:=.type "list",dict:=none,data:=.seq ([]:ZJ).toArray}=G2 at hns₁ hsb₁⊢;have hC:G2.objs.size=s.heap.objs.size+1:=by rw[<- hH2,Heap.size_push]
 have hDC:s.heap.objs.size≠G2.objs.size:=by rw[hC];exact Ï (ð _)
 have hCle:s.heap.objs.size<=G2.objs.size:=by rw[hC];exact Nat.le_succ _
 have old:∀b o,s.heap.get? b=some o->h₁.get? b=some o:=λb o e=>hsb₁.extBut b o (Ï (Ú (Heap.lt_size e) hCle)) (Heap.get?_push_of_some _ (hH2▸Heap.get?_push_of_some _ e));have hacc:h₁.get? s.heap.objs.size=some {cls:=.type "list",data:=.seq ([]:ZJ).toArray 0}:=hsb₁.extBut _ _ hDC (Heap.get?_push_of_some _ (hH2▸Heap.get?_push_size _ rfl));have objs:∀b∈fp,∃o,s.heap.get? b=some o:=λb hb=>let ⟨o,e,_⟩:=T.obj 0 _ st0 b hb;⟨o,e⟩
 have ltf:∀b∈fp,b<s.heap.objs.size:=λb hb=>let ⟨_,e⟩:=objs b hb;Heap.lt_size e
 generalize hD:s.heap.objs.size=D at hC hDC hCle hacc ltf⊢;generalize hCC:G2.objs.size=C at hC hDC hCle hns₁ hsb₁⊢;have J0:Inv (aT X xs scope C fp s H1) [] (List.replicate xs.length none++σ) H1 {s with heap:=h₁,toks:=s.toks+([]:List (Str×Value)).length}:=
  I.block hok hk hfp objs (by rw[hD];exact hCle) hns₁ old rfl I.bare
 have cD:∀x c,X.env.cells.lookup x=some c->c≠D/\c≠C:=λx c h=>by
  let⟨v,q⟩:=I.cell x c h;have:=q.lt;rw[hD]at this;exact⟨Ï this,Ï (Ú this hCle)⟩
 have pD:∀p∈X.pn++À,p.1≠D/\p.1≠C:=λp hp=>by
  have:=Heap.lt_size (I.pin p hp).1;rw[hD]at this;exact⟨Ï this,Ï (Ú this hCle)⟩
 have lL:=I.lt;have lS:=I.sz;rw[hD]at lL lS;have lSC:X.s₀.heap.objs.size<=C:=Ü lS hCle;have lLD:D≠X.env.locals:=Þ lL;have lLC:C≠X.env.locals:=Þ (Ú lL hCle);have Dfs:D∉PR X.stack:=λz=>by
  let⟨_,o,ho,_⟩:=(I.stack).mem z;have:=Heap.lt_size ho;rw[hD]at this;exact û _ this
 have fpb:∀{H':Hp}{ob:Obj},(∀b∈fp,H' b=none)->∀b∈fp,v3 (aT X xs scope C fp s H1) [(D,ob)] H' b:=λ{H' ob}hn b hb=>
  ⟨hn b hb,Ï (Ú (ltf b hb) hCle),λz=>by
   rcases Ø.mp (I.stkSub b z)with z|z
   .exact(hfp b hb).2.1 z
   .exact(hfp b hb).2.2.1 z,.inl hb,λx c h=>(hfp b hb).2.2.2.2.1 x c (rV h),λp hp=>by
    have e:p=(D,ob):=by simpa using hp
    rw[e];exact Þ (ltf b hb)⟩
 have loop:∀s₃:Shared,s₃={s with heap:=h₁,toks:=s.toks+([]:List (Str×Value)).length} ->
   codeAny 'b' X.A (.compLoop (.ListComp elt [⟨tg,iter,ifs,0⟩] scope pos) 0 (.ref it) (.ref D) (compEnvC scope (gB X.env.cells scope.names []) C X.env)) (R (.ref D) C) s₃:=by
  rintro s₃ rfl;refine mY (λn s'=>∃i σ' H' ys its k,Inv (aT X xs scope C fp s H1) [] σ' H' s'/\tn i s'.heap/\(∀b∈fp,H' b=none)/\W i n ys σ' H'/\bH ys its/\ys.length<=sizeLine /\
   s'.heap.get? D=some {cls:=.type "list",data:=.seq its.toArray k}/\H' D=none) ?_ m0 ⟨0,_,H1,[],[],0,J0,T.keep _ _ _ st0 λb hb o e=>old b o e,λb hb=>(hfp b hb).1,w0,.nil,í _,hacc,I.hok.fresh (by rw[hD];exact È _)⟩
  rintro n s1 ⟨i,σ1,K1,ys,its,k,I1,st1,fr1,w1,rv,hz,hd,nd⟩;have lys:=rv.length;generalize hob:({cls:=.type "list",data:=.seq its.toArray k}:Obj)=ob at hd;have I1':Inv (aT X xs scope C fp s H1) [(D,ob)] σ1 K1 s1:=I1.pins_of λp hp=>by
   have e:p=(D,ob):=by simpa using hp
   rw[e];exact⟨hd,nd,hDC,Dfs,λv=>by rw[<- hob];exact λz=>by cases z⟩
  rcases turn i n ys σ1 K1 w1 with ⟨stop,qn⟩|⟨go,hlt,N,hN,step⟩
  .refine cA (T.done (aT X xs scope C fp s H1) rfl rfl rfl hc i [(D,ob)] s1 σ1 K1 (λ_ _=>False) I1' (fpb fr1) st1 stop) λr s2 zQ=>?_;let⟨hr,I2⟩:=zQ
   subst hr;have un:=I.unblock hfp I2;have hd2:=(I2.pin (D,ob) 'f').1;let⟨m2,hn2,_⟩:=I2.loc;refine hR D C (aV K1 D (.lst ys)) m2 s2 (un.adopt nd lS lLD (λx c h=>(cD x c h).1) (λp hp=>(pD p hp).1) ⟨hz,its,k,rv,by rw[hob];exact hd2⟩) (qn D nd) hn2 ?_ lSC lLC (λx c h=>(cD x c h).2) λp hp=>(pD p hp).2;rw[aE (Ñ hDC)];exact I2.free
  .refine cA (T.item (aT X xs scope C fp s H1) rfl rfl rfl hc i [(D,ob)] s1 σ1 K1 (λ_ _=>False) I1' (fpb fr1) st1 go) λr s2 zQ=>?_;let⟨u,hr,h2⟩:=zQ
   subst hr;refine cA h2 λ_ s3 zQ=>?_;let⟨x,H3,I3,r3,y3,st3,fr3⟩:=zQ;have I3':=I3.pinned (fpb fr3) (T.obj _ _ st3);have again:∀{σ7:St}{H7:Hp}{s7:Shared},Inv (aT X xs scope C fp s H1) ([(D,ob)]++wR fp s3.heap) σ7 H7 s7->Inv (aT X xs scope C fp s H1) [] σ7 H7 s7/\tn (i+1) s7.heap/\(∀b∈fp,H7 b=none)/\s7.heap.get? D=some ob/\H7 D=none:=λ{σ7 H7 s7}I7=>by
    have pi:∀b∈fp,∀o,s3.heap.get? b=some o->s7.heap.get? b=some o/\H7 b=none:=λb hb o e=>by
     have q:=I7.pin (b,o) (Ý _ (Ý _ (qF hb e)));exact⟨q.1,q.2.1⟩
    have pd:=I7.pin (D,ob) (Ý _ (ĝ _ 'f'));refine⟨I7.pins_of λp hp=>absurd hp 'f',T.keep _ _ _ st3 λb hb o e=>(pi b hb o e).1,λb hb=>?_,pd.1,pd.2.1⟩;let⟨o,e,_⟩:=T.obj _ _ st3 b hb;exact(pi b hb o e).2
   refine cA (hg C fp s H1 _ s3 σ1 H3 x u _ I3' r3 (step x H3 y3)) λ_ s4 zQ=>?_;let⟨σ4,H4,I4,q4⟩:=zQ;refine cA (hif C fp s H1 _ s4 σ4 H4 _ I4 q4) λb s5 zQ=>?_;let⟨H5,I5,q5⟩:=zQ;cases b with
   |false=>
    rw[Ã á]at q5⊢;let⟨m',hm,w5⟩:=hN _ _ _ q5;let⟨a1,a2,a3,a4,a5⟩:=again I5;exact⟨m',hm,i+1,σ4,H5,ys,its,k,a1,a2,a3,w5,rv,hz,by rw[hob];exact a4,a5⟩
   |true=>
    rw[Â rfl]at q5⊢;refine cA (he C fp s H1 _ s5 σ4 H5 _ I5 q5) λy s6 zQ=>?_;let⟨yv,H6,I6,r6,q6⟩:=zQ;let⟨m',hm,w6⟩:=hN _ _ _ q6;let⟨a1,a2,a3,a4,a5⟩:=again I6;rw[<- hob]at a4;refine call_meets F.slot_list_append ⟨_,a4,rfl⟩ F.entry_list_append (F.args_list_append_2 _ _) (PySem.list_append D its.toArray k y (by rw[é];lia)) ⟨a4,?_⟩;have qd:∃k',(s6.heap.update D (Obj.mapSeq λz=>z.push y)).get? D=some {cls:=.type "list",data:=.seq (its++[y]).toArray k'}:=by
     have e:(its++[y]).toArray=its.toArray.push y:=by simp
     rw[e];exact⟨_,PySem.IsL.update a4 λz=>z.push y⟩
    let⟨k',qd⟩:=qd;refine⟨m',hm,i+1,σ4,H6,ys++[yv],its++[y],k',a1.turned (it:=D) (t':=s6.toks) (λb o hb e=>(Heap.get?_update_other s6.heap _ (Ñ hb)).trans e) a5 hDC (.inr (ú hD)) (λx c h=>(cD x c (rV h)).1) (λp hp=>absurd (show p∈([]:ZB)from hp) 'f'),?_,a3,w6,rv.append (.cons r6 .nil),by rw[Ð];exact hlt,qd,a5⟩;exact T.keep _ _ _ a2 λb hb o e=>(Heap.get?_update_other s6.heap _ (λz=>by rw[<- z]at hb;exact absurd (ltf D hb) (û _))).trans e
 exact codeAny_compStart_list (loop _ rfl) (T.self _ 0 _ _ _ (T.keep _ _ _ st0 λb hb o e=>old b o e) (loop _ rfl))
def GH(hc:X.calm=true)(hi:PI X tg iter wi)(hg:∀C fp s H,PG 'g' tg g)(hif:∀C fp s H,SV 'g' ifs ti)(he:∀C fp s H,PE 'g' elt te)(hk:↥(scope.kind=.function))(hok:↥(dR X.N xs scope.names X.env.scope.names=true))(hs: ~~~(Zfi iter X.env)):
  PE X (.ListComp elt [⟨tg,iter,ifs,0⟩] scope pos) (MS xs.length wi g ti te):=by
 intro À s σ H Q I h;rw[eval_ListComp];refine wpAny_comprehension_free (use:=none) rfl hs (MR (I.freeIn hok)) hk (rX hok) (cA (hi À s σ H _ I h) λv s1 h1=>cA h1 λitv s2 h2=>?_);refine wX (Q:=Q) hc hk hok hg hif he h2 λD C H' m s' I' q hn c1 c2 c3 c4 c5=>?_;exact⟨m,hn,λh' sb=>⟨.ref D,H',I'.turned (it:=C) (t':=s'.toks) (λb o hb e=>(sb.2 b hb).trans e) c1 c3 (.inr c2) c4 c5,rfl,q⟩⟩
def rY{pos' spos:Pos}(hc:X.calm=true)(hN:X.N.Nodup)(hx:X.N[i]?=some x)(hl:X.env.scope.names.lookup x=some .local)(hi:PI X tg iter wi)(hg:∀C fp s H,PG 'g' tg g)(hif:∀C fp s H,SV 'g' ifs ti)(he:∀C fp s H,PE 'g' elt te)(hsw:↥(swapsWith (.ListComp elt [⟨tg,iter,ifs,0⟩] scope pos) (some (.Name x pos')) spos.line X.env=pure true))(hk:↥(scope.kind=.function))(hok:↥(dR X.N xs scope.names X.env.scope.names=true))(hs: ~~~(Zfi iter X.env)):
  PS X (.Assign [.Name x pos'] (.ListComp elt [⟨tg,iter,ifs,0⟩] scope pos) spos) (PV (MS xs.length wi g ti te) (kM i)):=by
 intro À s σ H D I h;rw[exec_Assign_Name_used _ _ _ _ hsw];refine wpAny_bind (wpAny_standAt (wpAny_bind ?_));show wpAny _ X.A (do let _ <- comprehension (.ListComp elt [⟨tg,iter,ifs,0⟩] scope pos) scope X.env _ (newList []) false (eval iter X.env) (some (assign (.Name x pos') X.env))) _ _ s;refine wpAny_bind (wpAny_mono (wpAny_comprehension_free (use:=some (assign (.Name x pos') X.env)) (Q:=λ_ s'=>SP X À D .next s') rfl hs (MR (I.freeIn hok)) hk (rX hok)
  (cA (hi À s σ H _ I h) λv s1 h1=>cA h1 λitv s2 h2=>?_)) (λ_ s' hq=>wpAny_pure (wpAny_pure hq)) λ_ _ e=>e)
 refine wX (Q:=λv H'=>D.nx (σ.set i (some v)) H') hc hk hok hg hif he h2 λD' C H' m s' I' q hn c1 c2 c3 c4 c5=>?_;show wpAny _ X.A (assign (.Name x pos') X.env (.ref D')) _ _ _;refine wpAny_assign_Name (A9 I' hN hx (.inl hl) (v:=.ref D') rfl (λs'' I'' zQ=>?_) (.inr hl));let⟨a,sb,ha⟩:=zQ;have hCa:C≠a:=by
  rcases ha with e|e
  .rw[e];exact c3
  .exact Ñ (c4 _ _ e)
 exact⟨m,hn.sameBut sb hCa,λh' sb'=>⟨_,H',I''.turned (it:=C) (t':=s''.toks) (λb o hb e=>(sb'.2 b hb).trans e) c1 c3 (.inr c2) c4 c5,q⟩⟩
end
abbrev D:=PyData
abbrev DS:=List (ZL)
inductive Res(α:Type) where
 |ok (a:α) (δ:DS)
 |stuck
def Res.bind{α β:Type}:Res α->(α->DS->Res β)->Res β
 |.ok a δ,k=>k a δ
 |.stuck,_=>.stuck
abbrev M(α:Type):=DS->Res α
structure cN where
 F0:Hp
 H0:Hp
 g0:Addr->Option (Nat×ZH)
 ps:ZH
 σ0:St
 owp:ZH
 wf:∀a i q,g0 a=some (i,q)->i∈ps
abbrev Ű:=Nat×ZH
abbrev ZP:=Addr->Option Ű
def kd:Nat->Nat
 |20=>2
 |30=>3
 |_=>0
def ch:Nat->Nat->Nat
 |20,1=>1
 |20,2=>1
 |20,_=>0
 |30,_=>0
 |n,_=>n-1
def dN(nm:Str)(fs:ZG)(ds:ZI):D:=.dict ((.none,.str nm)::(fs.map PyData.str).zip ds)
def j8(ms:List cV)(ds:ZI):D:=.dict ((ms.map FO).zip ds)
abbrev UC:=Addr×ZH×HO
def Nd(K:ZC)(k:Nat)(d:D)(ds:ZI)(v:V)(vs:List V)(cs:List UC):Prop:=match k with
 |0=>∃a,d=.list ds/\v=.ref a/\cs=[(a,[],.lst vs)]
 |1=>∃a,d=.tuple ds/\v=.ref a/\cs=[(a,[],.tup vs)]
 |2=>∃a nm fs C dx,d=dN nm fs ds/\v=.ref a/\fs.length=ds.length/\W.nsIn K mainGlobals nm=some (some (.ref C))/\cs=[(a,[],.ins C dx (fs.zip vs)),(dx,[1000],.own a)]
 |_=>∃a ms,d=j8 ms ds/\v=.ref a/\ms.length=ds.length/\cs=[(a,[],.dK (ms.zip vs))]
def iQ(K:ZC)(F H:Hp)(g:ZP)(i:Nat):Nat->Nat->ZH->D->V->Prop
 |_,0,_,d,v=>bD K F d v
 |0,_+1,_,_,_=>False
 |f+1,c+1,p,d,v=>∃(ds:ZI)(vs:List V)(cs:List UC),Nd K (kd (c+1)) d ds v vs cs/\(∀x∈cs,g x.1=some (i,p++x.2.1)/\H x.1=some x.2.2/\F x.1=none)/\ds.length=vs.length /\
   ∀(k:Nat)(d':D)(v':V),ds[k]?=some d'->vs[k]?=some v'->iQ K F H g i f (ch (c+1) k) (p++[k]) d' v'
def bE(K:ZC)(F H:Hp)(g:ZP)(i:Nat)(n:Nat)(p:ZH)(d:D)(v:V):Prop:=iQ K F H g i n n p d v
def mZ:Str:="place_below"
def kQ:Str:="place_below.<locals>.<lambda>"
def DG:List Stmt->Option Pos
 |[_,.Return (some (.Call _ _ (⟨_,.Lambda _ _ _ pos,_⟩::_) _)) _]=>some pos
 |_=>none
def jN(K:ZC):(Option (Addr×Addr×Pos)):=match W.nsIn K mainGlobals mZ with
 |some (some (.ref f))=>(match K.lookup f with
  |some ⟨_,_,.func fd,_⟩=>(match fd.body,W.tabIn K mZ with
   |.stmts b,some (c,P)=>(match DG b with
    |some pos=>some (c,P,pos)
    |none=>none)
   |_,_=>none)
  |_=>none)
 |_=>none
def Z7(K:ZC)(F:Hp):Prop:=∀c P pos,jN K=some (c,P,pos)->F P=some (.lam (rawInt pos.line) (rawInt pos.col) kQ)
def Z7.mono{K:ZC}(h:Z7 K F)(s:aI F F'):Z7 K F':=λc P pos e=>s _ _ (h c P pos e)
def BH(K:ZC)(F0 F:Hp):Prop:=Z7 K F0/\aI F0 F
def BH.trans'{K:ZC}(a:BH K H H1)(b:aI H1 H2):BH K H H2:=⟨a.1,λc o h=>b c o (a.2 c o h)⟩
def BH.lm{K:ZC}(a:BH K H H1):Z7 K H1:=a.1.mono a.2
structure cX(K:ZC)(Z:cN)(ow:ZH)(g:ZP)(F H:Hp)(σ:St)(δ:DS):Prop where
 sub:aI F H
 f0:BH K Z.F0 F
 kept:∀b o,Z.g0 b=none->Z.H0 b=some o->H b=some o
 new:∀a,Z.F0 a=none->Z.H0 a≠none->F a=none
 there:∀b,Z.H0 b≠none->H b≠none
 lab:∀a i p,g a=some (i,p)->Z.H0 a=none\/∃q,Z.g0 a=some (i,q)
 len:δ.length=σ.length
 par:∀i∈Z.ps,σ[i]?=Z.σ0[i]?/\ow.getD i 0=Z.owp.getD i 0
 slot:∀(i:Nat)(d:D),δ[i]?=some (some d)->∃v,σ[i]?=some (some v)/\bE K F H g i (ow.getD i 0) [] d v
def cB(K:ZC)(Z:cN)(ow:ZH)(F H:Hp)(σ:St)(δ:DS):Prop:=∃g,cX K Z ow g F H σ δ
def gF(K:ZC)(Z:cN)(ow:ZH)(n:Nat)(d:D)(v:V)(F H:Hp)(σ:St)(δ:DS):Prop:=∃g,cX K Z ow g F H σ δ/\bE K F H g 1000 n [] d v
def aI.trans'(a:aI H H1)(b:aI H1 H2):aI H H2:=λc o h=>b c o (a c o h)
def aD.len{K:ZC}:∀{ds:ZI}{vs:List V},aD K F ds vs->ds.length=vs.length
 |[],vs,h=>by unfold aD at h;rw[h];rfl
 |d::ds,vs,h=>by
  unfold aD at h;let⟨x,r,rfl,_,h⟩:=h;rw[Û,Û,aD.len h]
def aD.get{K:ZC}:∀{ds:ZI}{vs:List V}{i:Nat}{d:D},aD K F ds vs->ds[i]?=some d->∃v,vs[i]?=some v/\bD K F d v
 |d::ds,vs,0,d',h,e=>by
  unfold aD at h
  grind
 |d::ds,vs,i+1,d',h,e=>by
  unfold aD at h;let⟨x,r,rfl,hx,h⟩:=h;exact aD.get (i:=i) h e
def aD.of{K:ZC}{ds:ZI}(hl:ds.length=vs.length)(h:∀(k:Nat)(d:D)(v:V),ds[k]?=some d->vs[k]?=some v->bD K F d v):aD K F ds vs:=by
 induction ds generalizing vs with
 |nil=>
  cases vs with
  |nil=>unfold aD;rfl
  |cons v vs=>cases hl
 |cons d ds ih=>
  cases vs with
  |nil=>cases hl
  |cons v vs=>
   unfold aD;exact⟨v,vs,rfl,h 0 d v rfl rfl,ih (Nat.succ.inj hl) λk d' v' e1 e2=>h (k+1) d' v' e1 e2⟩
def aD.both{K:ZC}{ds:ZI}(h:aD K F ds vs)(k:Nat)(d:D)(v:V)(e1:ds[k]?=some d)(e2:vs[k]?=some v):bD K F d v:=by
 let⟨v',e,r⟩:=h.get e1
 grind
def iR{K:ZC}:aD K F [] []:=by unfold aD;rfl
def fS{K:ZC}(h:bD K F d v)(t:aD K F ds vs):aD K F (d::ds) (v::vs):=by unfold aD;exact⟨v,vs,rfl,h,t⟩
def aD.app{K:ZC}:∀{ds es:ZI}{vs ws:List V},aD K F ds vs->aD K F es ws->aD K F (ds++es) (vs++ws)
 |[],es,vs,ws,h,t=>by unfold aD at h;rw[h];exact t
 |d::ds,es,vs,ws,h,t=>by
  unfold aD at h;let⟨x,r,rfl,hx,h⟩:=h;exact fS hx (aD.app h t)
def aD.take{K:ZC}(n:Nat)(h:aD K F ds vs):aD K F (ds.take n) (vs.take n):=
 aD.of (by rw[ê,ê,h.len]) λk d v e1 e2=>by
  rw[List.getElem?_take]at e1 e2;split at e1
  .rw[Â (by assumption)]at e2;exact h.both k d v e1 e2
  .cases e1
def aD.drop{K:ZC}(n:Nat)(h:aD K F ds vs):aD K F (ds.drop n) (vs.drop n):=
 aD.of (by rw[ċ,ċ,h.len]) λk d v e1 e2=>by
  rw[List.getElem?_drop]at e1 e2;exact h.both _ d v e1 e2
def MT:∀{c k:Nat},ch (c+1) k<=c:=by
 intro c k;unfold ch;split<;>lia
def iQ.trans{K:ZC}{g g':ZP}(hF:aI F F')(h:∀a p o,g a=some (i,p)->H a=some o->F a=none->g' a=some (j,q++p)/\H' a=some o/\F' a=none)(r:iQ K F H g i f c p d v):iQ K F' H' g' j f c (q++p) d v:=by
 induction f generalizing c p d v with
 |zero=>
  cases c with
  |zero=>exact hF.rep d v r
  |succ c=>exact r.elim
 |succ f ih=>
  cases c with
  |zero=>exact hF.rep d v r
  |succ c=>
   let⟨ds,vs,cs,nd,hc,hl,r⟩:=r;refine⟨ds,vs,cs,nd,λx hx=>?_,hl,λk d' v' q1 q2=>?_⟩
   .obtain⟨a1,a2,a3⟩:=hc x hx
    rw[List.append_assoc];exact h _ _ _ a1 a2 a3
   .rw[List.append_assoc]
    exact ih (r k d' v' q1 q2)
def iQ.fuel{K:ZC}(h1:c<=f)(h2:c<=f')(r:iQ K F H g i f c p d v):iQ K F H g i f' c p d v:=by
 induction f generalizing c f' p d v with
 |zero=>
  cases c with
  |zero=>unfold iQ at r⊢;exact r
  |succ c=>exact r.elim
 |succ f ih=>
  cases c with
  |zero=>unfold iQ at r⊢;exact r
  |succ c=>
   cases f' with
   |zero=>exact absurd h2 (Nat.not_succ_le_zero _)
   |succ f'=>
    let⟨ds,vs,cs,nd,hc,hl,r⟩:=r;exact⟨ds,vs,cs,nd,hc,hl,λk d' v' q1 q2=>ih (Ü MT (Nat.le_of_succ_le_succ h1)) (Ü MT (Nat.le_of_succ_le_succ h2)) (r k d' v' q1 q2)⟩
def bE.open{K:ZC}(h:bE K F H g i (c+1) p d v):
  ∃(ds:ZI)(vs:List V)(cs:List UC),Nd K (kd (c+1)) d ds v vs cs/\(∀x∈cs,g x.1=some (i,p++x.2.1)/\H x.1=some x.2.2/\F x.1=none)/\ds.length=vs.length /\
   ∀(k:Nat)(d':D)(v':V),ds[k]?=some d'->vs[k]?=some v'->bE K F H g i (ch (c+1) k) (p++[k]) d' v':=by
 let⟨ds,vs,cs,nd,hc,hl,r⟩:=h;exact⟨ds,vs,cs,nd,hc,hl,λk d' v' q1 q2=>iQ.fuel MT (È _) (r k d' v' q1 q2)⟩
def bE.shut{K:ZC}{F H:Hp}{g:ZP}{i c:Nat}{p:ZH}{d:D}{v:V}{ds:ZI}{vs:List V}{cs:List UC}(nd:Nd K (kd (c+1)) d ds v vs cs)(hc:∀x∈cs,g x.1=some (i,p++x.2.1)/\H x.1=some x.2.2/\F x.1=none)(hl:ds.length=vs.length)(r:∀(k:Nat)(d':D)(v':V),ds[k]?=some d'->vs[k]?=some v'->bE K F H g i (ch (c+1) k) (p++[k]) d' v'):bE K F H g i (c+1) p d v:=
 ⟨ds,vs,cs,nd,hc,hl,λk d' v' q1 q2=>iQ.fuel (È _) MT (r k d' v' q1 q2)⟩
def bE.lst{K:ZC}{i c m:Nat}(h:bE K F H g i (c+1) p d v)(hk:↥(kd (c+1)=0))(hm:∀k,ch (c+1) k=m:=by intro k;rfl):
  ∃(a:Addr)(ds:ZI)(vs:List V),d=.list ds/\v=.ref a/\g a=some (i,p)/\H a=some (.lst vs)/\F a=none/\ds.length=vs.length /\
   ∀(k:Nat)(d':D)(v':V),ds[k]?=some d'->vs[k]?=some v'->bE K F H g i m (p++[k]) d' v':=by
 let⟨ds,vs,cs,nd,hc,hl,r⟩:=h.open;rw[hk]at nd;let⟨a,rfl,rfl,rfl⟩:=nd;let⟨a1,a2,a3⟩:=hc _ (ô.mpr rfl);exact⟨a,ds,vs,rfl,rfl,by simpa using a1,a2,a3,hl,λk d' v' q1 q2=>by rw[<- hm k];exact r k d' v' q1 q2⟩
def bE.mkL{K:ZC}{g:ZP}(h:∃(a:Addr)(ds:ZI)(vs:List V),d=.list ds/\v=.ref a/\g a=some (i,p)/\H a=some (.lst vs)/\F a=none/\ds.length=vs.length /\
   ∀(k:Nat)(d':D)(v':V),ds[k]?=some d'->vs[k]?=some v'->bE K F H g i m (p++[k]) d' v')(hk:↥(kd (c+1)=0))(hm:∀k,ch (c+1) k=m:=by intro k;rfl):bE K F H g i (c+1) p d v:=by
 let⟨a,ds,vs,e1,e2,e3,e4,e5,e6,h⟩:=h;refine bE.shut (ds:=ds) (vs:=vs) (cs:=[(a,[],.lst vs)]) (by rw[hk];exact⟨a,e1,e2,rfl⟩) (λx hx=>?_) e6 λk d' v' q1 q2=>by rw[hm k];exact h k d' v' q1 q2
 rw[ô.mp hx];exact⟨by simpa using e3,e4,e5⟩
def bE.keepJ{K:ZC}{g g':ZP}(hF:aI F F')(h:∀a p o,g a=some (i,p)->H a=some o->F a=none->g' a=some (j,p)/\H' a=some o/\F' a=none)(r:bE K F H g i n p d v):bE K F' H' g' j n p d v:=
 iQ.trans (q:=[]) hF h r
def bE.mono{K:ZC}(hF:aI F F')(hg:∀a l,l.1=i->g a=some l->g' a=some l)(hn:∀a l,l.1=i->g a=some l->F a=none->F' a=none)(hH:∀a l o,l.1=i->g a=some l->H a=some o->H' a=some o)(r:bE K F H g i n p d v):bE K F' H' g' i n p d v:=r.keepJ hF λa p o e1 e2 e3=>⟨hg a _ rfl e1,hH a _ _ rfl e1 e2,hn a _ rfl e1 e3⟩
def bE.relab{K:ZC}{g g':ZP}(hg:∀a p,g a=some (i,p)->g' a=some (j,p))(r:bE K F H g i n p d v):bE K F H g' j n p d v:=
 r.keepJ (λ_ _ z=>z) λa p o e1 e2 e3=>⟨hg a p e1,e2,e3⟩
def Nd.rep{K:ZC}{F:Hp}{k:Nat}{d:D}{ds:ZI}{v:V}{vs:List V}{cs:List UC}(nd:Nd K k d ds v vs cs)(hc:∀x∈cs,F x.1=some x.2.2)(hl:ds.length=vs.length)(r:aD K F ds vs):bD K F d v:=by
 unfold Nd at nd;split at nd
 .obtain⟨a,rfl,rfl,rfl⟩:=nd
  unfold bD;exact⟨a,vs,rfl,d8.of (hc _ (ô.mpr rfl)),r⟩
 .obtain⟨a,rfl,rfl,rfl⟩:=nd
  unfold bD;exact⟨a,vs,rfl,rN.of (hc _ (ô.mpr rfl)),r⟩
 .obtain⟨a,nm,fs,C,dx,rfl,rfl,hfl,hC,rfl⟩:=nd
  have h1:=hc _ (Ô);have h2:=hc _ (Ó _ (ô.mpr rfl));unfold dN bD;refine⟨a,.str nm::vs,rfl,.inl ⟨nm,fs,C,dx,vs,rfl,?_,by grind,h1,h2,hC⟩,?_⟩
  .rw[Ì,ĕ (by grind)]
  .unfold iE
   exact⟨_,_,rfl,by unfold bD;rfl,wV (by grind) r⟩
 .obtain⟨a,ms,rfl,rfl,hm,rfl⟩:=nd
  unfold j8 bD;refine⟨a,vs,rfl,.inr ⟨ms,?_,by grind,hc _ (ô.mpr rfl)⟩,wV (by grind) r⟩;rw[ĕ (by grind)]
def iQ.froze{K:ZC}{g:ZP}(hF:aI F F')(h:∀a p o,g a=some (i,p)->H a=some o->F a=none->F' a=some o):
  ∀{f c:Nat}{p:ZH}{d:D}{v:V},iQ K F H g i f c p d v->bD K F' d v
 |0,0,_,d,v,r=>hF.rep d v r
 |_+1,0,_,d,v,r=>hF.rep d v r
 |_+1,_+1,p,d,v,⟨ds,vs,cs,nd,hc,hl,r⟩=>nd.rep (λx hx=>by
   let⟨a1,a2,a3⟩:=hc x hx;exact h _ _ _ a1 a2 a3) hl (aD.of hl λk d' v' q1 q2=>iQ.froze hF h (r k d' v' q1 q2))
def Z8(g:ZP)(i:Nat)(F H:Hp):Hp:=λb=>open Classical in if ∃p,g b=some (i,p)then (if F b=none then H b else F b)else F b
def aGV{g:ZP}{i:Nat}{F H:Hp}{b:Addr}{p:ZH}(h:g b=some (i,p))(hn:F b=none):Z8 g i F H b=H b:=by
 unfold Z8;rw[Â ⟨p,h⟩,Â hn]
def MU{g:ZP}{i:Nat}{F H:Hp}{b:Addr}(h:∀p,g b≠some (i,p)):Z8 g i F H b=F b:=by
 unfold Z8;rw[Ã λzQ=>by let⟨p,e⟩:=zQ;exact h p e]
def m5:aI F (Z8 g i F H):=λb o e=>by
 unfold Z8
 simp_all
def aA5(hs:aI F H):aI (Z8 g i F H) H:=λb o e=>by
 unfold Z8 at e;split at e
 .split at e
  .exact e
  .exact hs b o e
 .exact hs b o e
def bE.freeze{K:ZC}(r:bE K F H g i n p d v):bD K (Z8 g i F H) d v:=
 iQ.froze m5 (λa p o e1 e2 e3=>by rw[aGV e1 e3];exact e2) r
section
variable {K:ZC}{Z:cN}{ow:ZH}{g:ZP}{F H:Hp}{σ:St}{δ:DS}
def Ğ(g:ZP)(i:Nat):ZP:=λb=>open Classical in if ∃p,g b=some (i,p)then none else g b
def KO{g:ZP}{i:Nat}{a:Addr}{l:Ű}(h:l.1≠i)(e:g a=some l):Ğ g i a=some l:=by
 unfold Ğ
 grind
def KP(e:Ğ g i a=some l):g a=some l/\l.1≠i:=by
 unfold Ğ at e;split at e
 all_goals grind
def cX.freeze(R:cX K Z ow g F H σ δ)(i:Nat)(hP:i∉Z.ps):cX K Z (ow.set i 0) (Ğ g i) (Z8 g i F H) H σ δ:=by
 refine⟨aA5 R.sub,R.f0.trans' m5,R.kept,λa h1 h2=>?_,R.there,λa j p e=>R.lab a j p (KP e).1,R.len,λj hj=>⟨(R.par j hj).1,?_⟩,λj d e=>?_⟩
 .have q:∀p,g a≠some (i,p):=λp e=>(R.lab a i p e).elim h2 λ⟨q,z⟩=>hP (Z.wf a i q z)
  rw[MU q];exact R.new a h1 h2
 .have:j≠i:=λe=>hP (by rw[<- e];exact hj)
  rw[Ë,Ù (Ñ this),<- Ë];exact(R.par j hj).2
 .obtain⟨v,e1,o⟩:=R.slot j d e
  refine⟨v,e1,?_⟩;by_cases hj:j=i
  .subst hj
   have:(ow.set j 0).getD j 0=0:=by
    rw[Ë,ĉ];split
    .split<;>rfl
    .grind
   rw[this];exact o.freeze
  .have:(ow.set i 0).getD j 0=ow.getD j 0:=by rw[Ë,Ë,Ù (Ñ hj)]
   rw[this];exact o.mono m5 (λa l hl e=>KO (by rw[hl];exact hj) e) (λa l hl e hn=>by rw[MU (λp q=>by grind)];exact hn) λ_ _ _ _ _ h=>h
structure aP(Z:cN)(ow:ZH):Prop where
 ow:ow.length<=1000
 ps:1000∉Z.ps
def gF.freeze(S:aP Z ow)(R:gF K Z ow n d v F H σ δ):∃F',aI F F'/\gF K Z ow 0 d v F' H σ δ:=by
 let⟨g,R,o⟩:=R;have R':=R.freeze 1000 S.ps;rw[List.set_eq_of_length_le S.ow]at R';exact⟨_,m5,_,R',o.freeze⟩
def gF.rel(R:gF K Z ow n d v F H σ δ):cB K Z ow F H σ δ:=let ⟨g,R,_⟩:=R;⟨g,R⟩
def gF.rep(R:gF K Z ow 0 d v F H σ δ):bD K F d v:=let ⟨_,_,o⟩:=R;o
def cB.x(R:cB K Z ow F H σ δ)(h:bD K F d v):gF K Z ow 0 d v F H σ δ:=let ⟨g,R⟩:=R;⟨g,R,h⟩
def cB.sub(R:cB K Z ow F H σ δ):aI F H:=let ⟨_,R⟩:=R;R.sub
def cX.laid(R:cX K Z ow g F H σ δ)(hp:H p=none):cX K Z ow g (aV F p o) (aV H p o) σ δ:=by
 have fp:F p=none:=by
  cases e:F p with
  |none=>rfl
  |some u=>rw[R.sub p u e]at hp;cases hp
 have z:Z.H0 p=none:=by
  cases e:Z.H0 p with
  |none=>rfl
  |some u=>exact absurd hp (R.there p (by rw[e];simp))
 refine⟨λb u e=>?_,R.f0.trans' (bW fp o),λb u n e=>?_,λa h1 h2=>?_,λb h=>?_,R.lab,R.len,R.par,λi d e=>?_⟩
 .by_cases hb:b=p
  .subst hb;rw[aJ]at e⊢;exact e
  .rw[aE hb]at e⊢;exact R.sub b u e
 .have:b≠p:=λq=>by rw[q,z]at e;cases e
  rw[aE this];exact R.kept b u n e
 .have:a≠p:=λq=>h2 (by rw[q,z])
  rw[aE this];exact R.new a h1 h2
 .have:b≠p:=λq=>h (by rw[q,z])
  rw[aE this];exact R.there b h
 .obtain⟨v,e1,ho⟩:=R.slot i d e
  refine⟨v,e1,?_⟩;refine ho.keepJ (bW fp o) λa q u e1 e2 e3=>?_;have:a≠p:=λz=>by rw[z,hp]at e2;cases e2
  exact⟨e1,by rw[aE this];exact e2,by rw[aE this];exact e3⟩
def cB.laid(R:cB K Z ow F H σ δ)(hp:H p=none):cB K Z ow (aV F p o) (aV H p o) σ δ:=let ⟨g,R⟩:=R;⟨g,R.laid hp⟩
def cB.fnone(R:cB K Z ow F H σ δ)(hp:H p=none):F p=none:=by
 cases e:F p with
 |none=>rfl
 |some u=>rw[R.sub p u e]at hp;cases hp
def cB.newList(S:aP Z ow)(R:cB K Z ow F H σ δ)(hp:H p=none)(h:aD K F ds vs):gF K Z ow 1 (.list ds) (.ref p) F (aV H p (.lst vs)) σ δ:=by
 have fp:=R.fnone hp;let⟨g,R⟩:=R;have z:Z.H0 p=none:=by
  cases e:Z.H0 p with
  |none=>rfl
  |some u=>exact absurd hp (R.there p (by rw[e];simp))
 refine⟨λb=>if b=p then some (1000,[])else Ğ g 1000 b,⟨R.sub.trans' (bW hp _),R.f0,λb u n e=>?_,R.new,λb h=>?_,λa i q e=>?_,R.len,R.par,λi d e=>?_⟩,?_⟩
 .have:b≠p:=λq=>by rw[q,z]at e;cases e
  rw[aE this];exact R.kept b u n e
 .have:b≠p:=λq=>h (by rw[q,z])
  rw[aE this];exact R.there b h
 .split at e
  .rename_i q;rw[q];exact .inl z
  .exact R.lab a i q (KP e).1
 .obtain⟨v,e1,o⟩:=R.slot i d e
  refine⟨v,e1,?_⟩;by_cases hi:ow.getD i 0=0
  .rw[hi]at o⊢;exact o
  .have hi':i<1000:=by
    by_cases hl:i<ow.length
    .exact Ú hl S.ow
    .exact absurd (by rw[Ë,ç (by exact è.mp ‹_›)];rfl) hi
   refine o.keepJ (λ_ _ z=>z) λa q u e1 e2 e3=>?_;have:a≠p:=λz=>by rw[z,hp]at e2;cases e2
   exact⟨by rw[Ã this];exact KO (by show i≠1000;exact Ï ‹_›) e1,by rw[aE this];exact e2,e3⟩
 .refine bE.mkL (m:=0) ?_
  exact⟨p,ds,vs,rfl,rfl,by rw[Â rfl],aJ,fp,h.len,λk d' v' q1 q2=>h.both k d' v' q1 q2⟩
end
def PE.mono(h:PE X e t)(hm:∀σ H Q,t' σ H Q->t σ H Q):PE X e t':=λÀ s σ H Q I q=>h À s σ H Q I (hm σ H Q q)
def PT.mono(h:PT X e t)(hm:∀σ H Q,t' σ H Q->t σ H Q):PT X e t':=λÀ s σ H Q I q=>h À s σ H Q I (hm σ H Q q)
def PA.mono(h:PA X es t)(hm:∀σ H Q,t' σ H Q->t σ H Q):PA X es t':=λpos À s σ H Q I q=>h pos À s σ H Q I (hm σ H Q q)
def PS.mono{st:Stmt}(h:PS X st t)(hm:∀D σ H,t' D σ H->t D σ H):PS X st t':=λÀ s σ H D I q=>h À s σ H D I (hm D σ H q)
def CY.mono{st:List Stmt}(h:CY X st t)(hm:∀D σ H,t' D σ H->t D σ H):CY X st t':=λÀ s σ H D I q=>h À s σ H D I (hm D σ H q)
section
end
def kD(X:Cx)(Z:cN)(ow:ZH)(n:Nat)(r:Res D)(F:Hp)(σ:St)(Q:VK):Prop:=match r with
 |.ok d δ=>∀v H' F',gF X.K Z ow n d v F' H' σ δ->aI F F'->Q v H'
 |.stuck=>False
def tD(X:Cx)(Z:cN)(ow:ZH)(n:Nat)(f:M D):TE:=λσ H Q=>∃F δ,cB X.K Z ow F H σ δ/\kD X Z ow n (f δ) F σ Q
def DE(X:Cx)(Z:cN)(ow:ZH)(n:Nat)(e:Expr)(f:M D):Prop:=PE X e (tD X Z ow n f)
def kT(X:Cx)(Z:cN)(ow:ZH)(r:Res Bool)(F:Hp)(σ:St)(Q:Bool->Hp->Prop):Prop:=match r with
 |.ok b δ=>∀H' F',cB X.K Z ow F' H' σ δ->aI F F'->Q b H'
 |.stuck=>False
def tT(X:Cx)(Z:cN)(ow:ZH)(f:M Bool):TT:=λσ H Q=>∃F δ,cB X.K Z ow F H σ δ/\kT X Z ow (f δ) F σ Q
def DT(X:Cx)(Z:cN)(ow:ZH)(e:Expr)(f:M Bool):Prop:=PT X e (tT X Z ow f)
inductive Arg where
 |own (i:Nat)
 |val (f:M D)
def rZ(K:ZC)(F:Hp)(σ:St):List Arg->List (ZL)->List V->Prop
 |[],[],[]=>True
 |.own i::as,none::ds,v::vs=>σ[i]?=some (some v)/\rZ K F σ as ds vs
 |.val _::as,some d::ds,v::vs=>bD K F d v/\rZ K F σ as ds vs
 |_,_,_=>False
def dH:List Arg->M (List (ZL))
 |[]=>λδ=>.ok [] δ
 |.own i::as=>λδ=>match δ[i]? with
  |some (some _)=>(dH as δ).bind λds δ'=>.ok (none::ds) δ'
  |_=>.stuck
 |.val f::as=>λδ=>(f δ).bind λd δ1=>(dH as δ1).bind λds δ2=>.ok (some d::ds) δ2
def kA(X:Cx)(Z:cN)(ow:ZH)(as:List Arg)(r:Res (List (ZL)))(F:Hp)(σ:St)(Q:List V->Hp->Prop):Prop:=match r with
 |.ok ds δ=>∀vs H' F',cB X.K Z ow F' H' σ δ->aI F F'->rZ X.K F' σ as ds vs->Q vs H'
 |.stuck=>False
def ŉ(X:Cx)(Z:cN)(ow:ZH)(as:List Arg):TA:=λσ H Q=>∃F δ,cB X.K Z ow F H σ δ/\kA X Z ow as (dH as δ) F σ Q
def DA(X:Cx)(Z:cN)(ow:ZH)(es:List Expr)(as:List Arg):Prop:=PA X es (ŉ X Z ow as)
section
variable {X:Cx}{Z:cN}{ow:ZH}{pos:Pos}
def kD.mono(h:kD X Z ow n r F σ Q)(s:aI F F1)(q:∀v H',Q v H'->Q' v H'):kD X Z ow n r F1 σ Q':=by
 cases r with
 |ok d δ=>exact λv H' F' R s'=>q v H' (h v H' F' R (s.trans' s'))
 |stuck=>exact h
def kT.mono{Q Q':Bool->Hp->Prop}(h:kT X Z ow r F σ Q)(s:aI F F1)(q:∀v H',Q v H'->Q' v H'):kT X Z ow r F1 σ Q':=by
 cases r with
 |ok d δ=>exact λH' F' R s'=>q _ H' (h H' F' R (s.trans' s'))
 |stuck=>exact h
def bF(i:Nat):M D:=λδ=>match δ[i]? with
 |some (some d)=>.ok d δ
 |_=>.stuck
def dC(d:D):M D:=λδ=>.ok d δ
def dA(i:Nat){x:Str}(ho:↥(ow.getD i 0=0))(hN:↥(X.N[i]?=some x))(hv:#v[AI X.env.scope x])(hd:⇑(Zdb x))(hcd:⇑(Zcd x)):DE X Z ow 0 (.Name x pos) (bF i):=
 (c9 hN hv hd hcd).mono λσ H Q h=>by
  let⟨F,δ,R,h⟩:=h;unfold bF at h;cases e:δ[i]? with
  |none=>rw[e]at h;exact h.elim
  |some o=>
   cases o with
   |none=>rw[e]at h;exact h.elim
   |some d=>
    rw[e]at h;let⟨g,R⟩:=R;let⟨v,e1,o⟩:=R.slot i d e;rw[ho]at o;exact⟨v,e1,h v H F ⟨g,R,o⟩ λ_ _ z=>z⟩
def m6(h:PE X e (tC v))(hr:∀F,bD X.K F d v):DE X Z ow 0 e (dC d):=h.mono λσ H Q h=>by
 let⟨F,δ,⟨g,R⟩,h⟩:=h;exact h v H F ⟨g,R,hr F⟩ λ_ _ z=>z
def aK:DE X Z ow 0 (.Constant (.int i) j pos) (dC (.int i)):=m6 aFY λF=>by unfold bD;rfl
def mN{b:Bool}:DE X Z ow 0 (.Constant (.bool b) j pos) (dC (.bool b)):=m6 ML λF=>by unfold bD;rfl
def wY:DE X Z ow 0 (.Constant .none j pos) (dC .none):=m6 aFZ λF=>by unfold bD;rfl
def fU:DE X Z ow 0 (.Constant (.str x) j pos) (dC (.str x)):=m6 CZ λF=>by unfold bD;rfl
def iF(op:D->D->ZL)(f g:M D):M D:=λδ=>(f δ).bind λx δ1=>(g δ1).bind λy δ2=>match op x y with
 |some z=>.ok z δ2
 |none=>.stuck
def oK(X:Cx)(r:R2)(n:Nat)(op:D->D->ZL):Prop:=∀(Z:cN)(ow:ZH)(F H:Hp)(σ:St)(δ:DS)(a b:D)(x y:V)(d:D)(Q:VK),aP Z ow->cB X.K Z ow F H σ δ->bD X.K F a x->bD X.K F b y->op a b=some d ->
 (∀v H' F',gF X.K Z ow n d v F' H' σ δ->aI F F'->Q v H')->r x y H Q
def DH(S:aP Z ow)(os:oK X r n op)(h:tD X Z ow n (iF op f g) σ H Q):ĳ r (tD X Z ow 0 f) (tD X Z ow 0 g) σ H Q:=by
 let⟨F,δ,R,h⟩:=h;unfold iF at h;sleep 1;cases e:f δ with
 |stuck=>rw[e]at h;exact h.elim
 |ok d1 δ1=>
  rw[e]at h;intro x H1 F1 R1 s1;refine⟨F1,δ1,R1.rel,?_⟩;simp![Res.bind]at h;cases e2:g δ1 with
  |stuck=>rw[e2]at h;exact h.elim
  |ok d2 δ2=>
   rw[e2]at h;simp![Res.bind]at h;intro y H2 F2 R2 s2;cases e3:op d1 d2 with
   |none=>rw[e3]at h;exact h.elim
   |some d=>
    rw[e3]at h;exact os Z ow F2 H2 σ δ2 d1 d2 x y d Q S R2.rel (s2.rep _ _ R1.rep) R2.rep e3 λv H' F' R' s'=>h v H' F' R' (s1.trans' (s2.trans' s'))
def vO(S:aP Z ow)(ho:j7 X (binaryOp o) r)(os:oK X r n op)(ha:DE X Z ow 0 a f)(hb:DE X Z ow 0 b g):DE X Z ow n (.BinOp a o b pos) (iF op f g):=
 (aJ9 ho ha hb).mono λ_ _ _ h=>DH S os h
def m7(S:aP Z ow)(ho:j7 X (compareOp o) r)(os:oK X r 0 op)(ha:DE X Z ow 0 a f)(hb:DE X Z ow 0 b g)(hm:behindInMarks o b=false):DE X Z ow 0 (.Compare a [o] [b] pos) (iF op f g):=
 (aAO ho ha hb hm).mono λ_ _ _ h=>DH S os h
def dB(f:M D):M Bool:=λδ=>(f δ).bind λd δ1=>match d with
 |.bool b=>.ok b δ1
 |_=>.stuck
def GI{Q:Bool->Hp->Prop}(h:tT X Z ow (dB f) σ H Q):tD X Z ow 0 f σ H (λx H'=>∃k,x=.bl k/\Q k H'):=by
 let⟨F,δ,R,h⟩:=h;unfold dB at h;sleep 1;cases e:f δ with
 |stuck=>rw[e]at h;exact h.elim
 |ok d1 δ1=>
  rw[e]at h;intro x H1 F1 R1 s1;simp![Res.bind]at h;cases d1 with
  |bool k=>
   have q:=R1.rep;unfold bD at q;exact⟨k,q,h H1 F1 R1.rel s1⟩
  |_=>exact h.elim
def bL(S:aP Z ow)(ho:j7 X (compareOp o) r)(os:oK X r 0 op)(ha:DE X Z ow 0 a f)(hb:DE X Z ow 0 b g)(hm:behindInMarks o b=false):DT X Z ow (.Compare a [o] [b] pos) (dB (iF op f g)):=
 (aAP ho ha hb hm).mono λ_ _ _ h=>DH S os (GI h)
def dS(h:DE X Z ow 0 e f)(he: ~~~(∀whole,isTrue e X.env whole=(do let v <- whole;standAt e.pos;holding [v] (truthy v)))):DT X Z ow e (dB f):=(aF0 h he).mono λ_ _ _ h=>GI h
def pV(f:M Bool):M Bool:=λδ=>(f δ).bind λb δ1=>.ok (!b) δ1
def fL{f:M Bool}(h:DT X Z ow e f):DT X Z ow (.UnaryOp .Not e pos) (pV f):=(aF3 h).mono λσ H Q h=>by
 let⟨F,δ,R,h⟩:=h;unfold pV at h;sleep 1;cases e:f δ with
 |stuck=>rw[e]at h;exact h.elim
 |ok b δ1=>rw[e]at h;exact h
def GJ(f g:M Bool):M Bool:=λδ=>(f δ).bind λb δ1=>if b=true then g δ1 else .ok false δ1
def P7(f g:M Bool):M Bool:=λδ=>(f δ).bind λb δ1=>if b=true then .ok true δ1 else g δ1
def PW.mono(h:PW X e t)(hm:∀σ H Q,t' σ H Q->t σ H Q):PW X e t':=λwh À s σ H Q I q=>h wh À s σ H Q I (hm σ H Q q)
def aGX{f g:M Bool}{rest:List Expr}(ha:DT X Z ow a f)(hb:PW X (.BoolOp .And (b::rest) pos) (tT X Z ow g)):PW X (.BoolOp .And (a::b::rest) pos) (tT X Z ow (GJ f g)):=(aF2 ha hb).mono λσ H Q h=>by
 let⟨F,δ,R,h⟩:=h;unfold GJ at h;sleep 1;cases e:f δ with
 |stuck=>rw[e]at h;exact h.elim
 |ok k δ1=>
  rw[e]at h;simp![Res.bind]at h;intro H1 F1 R1 s1;cases k with
  |true=>rw[Â rfl]at h⊢;exact⟨F1,δ1,R1,h.mono s1 λ_ _ z=>z⟩
  |false=>rw[Ã á]at h⊢;exact h H1 F1 R1 s1
def pW{f g:M Bool}{rest:List Expr}(ha:DT X Z ow a f)(hb:PW X (.BoolOp .Or (b::rest) pos) (tT X Z ow g)):PW X (.BoolOp .Or (a::b::rest) pos) (tT X Z ow (P7 f g)):=(aJY ha hb).mono λσ H Q h=>by
 let⟨F,δ,R,h⟩:=h;unfold P7 at h;sleep 1;cases e:f δ with
 |stuck=>rw[e]at h;exact h.elim
 |ok k δ1=>
  rw[e]at h;simp![Res.bind]at h;intro H1 F1 R1 s1;cases k with
  |true=>rw[Â rfl]at h⊢;exact h H1 F1 R1 s1
  |false=>rw[Ã á]at h⊢;exact⟨F1,δ1,R1,h.mono s1 λ_ _ z=>z⟩
def ħ(c:M Bool)(f g:M D):M D:=λδ=>(c δ).bind λb δ1=>if b=true then f δ1 else g δ1
def aKQ(hc:DT X Z ow c h)(ha:DE X Z ow n a f)(hb:DE X Z ow n b g):DE X Z ow n (.IfExp c a b pos) (ħ h f g):=(S8 hc ha hb).mono λσ H Q q=>by
 let⟨F,δ,R,q⟩:=q;unfold ħ at q;sleep 1;cases e:h δ with
 |stuck=>rw[e]at q;exact q.elim
 |ok k δ1=>
  rw[e]at q;simp![Res.bind]at q;intro H1 F1 R1 s1;cases k with
  |true=>rw[Â rfl]at q⊢;exact⟨F1,δ1,R1,q.mono s1 λ_ _ z=>z⟩
  |false=>rw[Ã á]at q⊢;exact⟨F1,δ1,R1,q.mono s1 λ_ _ z=>z⟩
def cC(S:aP Z ow)(h:DE X Z ow n e f):DE X Z ow 0 e f:=PE.mono h λσ H Q h=>by
 let⟨F,δ,R,h⟩:=h;sleep 1;cases e:f δ with
 |stuck=>rw[e]at h;exact h.elim
 |ok d δ1=>
  rw[e]at h;intro v H1 F1 R1 s1;let⟨F2,s2,R2⟩:=R1.freeze S;exact h v H1 F2 R2 (s1.trans' s2)
end
def bA:List (M D)->M (ZI)
 |[]=>λδ=>.ok [] δ
 |f::fs=>λδ=>(f δ).bind λd δ1=>(bA fs δ1).bind λds δ2=>.ok (d::ds) δ2
def kV'(X:Cx)(Z:cN)(ow:ZH)(r:Res (ZI))(F:Hp)(σ:St)(Q:List V->Hp->Prop):Prop:=match r with
 |.ok ds δ=>∀vs H' F',cB X.K Z ow F' H' σ δ->aI F F'->aD X.K F' ds vs->Q vs H'
 |.stuck=>False
def tV(X:Cx)(Z:cN)(ow:ZH)(fs:List (M D)):TA:=λσ H Q=>∃F δ,cB X.K Z ow F H σ δ/\kV' X Z ow (bA fs δ) F σ Q
def DV(X:Cx)(Z:cN)(ow:ZH)(es:List Expr)(fs:List (M D)):Prop:=PA X es (tV X Z ow fs)
section
variable {X:Cx}{Z:cN}{ow:ZH}{n:Nat}{pos:Pos}{e:Expr}{es:List Expr}{fs:List (M D)}
def aX:DV X Z ow [] []:=iP.mono λσ H Q h=>by
 let⟨F,δ,R,h⟩:=h;exact h [] H F R (aI.refl _) iR
def aF(he:DE X Z ow 0 e f)(hs:DV X Z ow es fs)(hst:↥(Zse e es X.env)):DV X Z ow (e::es) (f::fs):=(dO he hs hst).mono λσ H Q h=>by
 let⟨F,δ,R,h⟩:=h;unfold bA at h;sleep 1;cases e1:f δ with
 |stuck=>rw[e1]at h;exact h.elim
 |ok d δ1=>
  rw[e1]at h;simp![Res.bind]at h;intro x H1 F1 R1 s1;refine⟨F1,δ1,R1.rel,?_⟩;cases e2:bA fs δ1 with
  |stuck=>rw[e2]at h;exact h.elim
  |ok ds δ2=>
   rw[e2]at h;intro vs H2 F2 R2 s2 z;exact h (x::vs) H2 F2 R2 (s1.trans' s2) (fS (s2.rep _ _ R1.rep) z)
def cL:DA X Z ow [] []:=iP.mono λσ H Q h=>by
 let⟨F,δ,R,h⟩:=h;exact h [] H F R (aI.refl _) trivial
def aO(he:DE X Z ow 0 e f)(hs:DA X Z ow es as)(hst:↥(Zse e es X.env)):DA X Z ow (e::es) (.val f::as):=(dO he hs hst).mono λσ H Q h=>by
 let⟨F,δ,R,h⟩:=h;unfold dH at h;sleep 1;cases e1:f δ with
 |stuck=>rw[e1]at h;exact h.elim
 |ok d δ1=>
  rw[e1]at h;simp![Res.bind]at h;intro x H1 F1 R1 s1;refine⟨F1,δ1,R1.rel,?_⟩;cases e2:dH as δ1 with
  |stuck=>rw[e2]at h;exact h.elim
  |ok ds δ2=>
   rw[e2]at h;intro vs H2 F2 R2 s2 z;exact h (x::vs) H2 F2 R2 (s1.trans' s2) ⟨s2.rep _ _ R1.rep,z⟩
def UD(i:Nat)(hs:DA X Z ow es as)(hst:↥(starEach (.Name x p::es) X.env=(false,eval 'h' X.env)::starEach es X.env))(hN:↥(X.N[i]?=some x))(hv:#v[AI X.env.scope x])(hd:⇑(Zdb x))(hcd:⇑(Zcd x)):DA X Z ow (.Name x p::es) (.own i::as):=
 (dO (c9 hN hv hd hcd) hs hst).mono λσ H Q h=>by
  let⟨F,δ,R,h⟩:=h;unfold dH at h;cases e:δ[i]? with
  |none=>rw[e]at h;exact h.elim
  |some o=>
   cases o with
   |none=>rw[e]at h;exact h.elim
   |some d=>
    rw[e]at h;let⟨g,R'⟩:=id R;let⟨v,e1,_⟩:=R'.slot i d e;refine⟨v,e1,F,δ,R,?_⟩;cases e2:dH as δ with
    |stuck=>simp![e2]at h;exact h.elim
    |ok ds δ2=>
     simp![e2]at h;intro vs H2 F2 R2 s2 z;exact h (v::vs) H2 F2 R2 s2 ⟨e1,z⟩
def P8(fs:List (M D)):M D:=λδ=>(bA fs δ).bind λds δ1=>if ds.length<=sizeLine then .ok (.tuple ds) δ1 else .stuck
def KQ(fs:List (M D)):M D:=λδ=>(bA fs δ).bind λds δ1=>if ds.length<=sizeLine then .ok (.list ds) δ1 else .stuck
def qI{K:ZC}{F:Hp}{p:Addr}{ds:ZI}{vs:List V}(hp:F p=none)(h:aD K F ds vs):bD K (aV F p (.tup vs)) (.tuple ds) (.ref p):=by
 unfold bD;exact⟨p,vs,rfl,rN.of aJ,(bW hp _).repAll ds vs h⟩
def dJ(h:DV X Z ow es fs):DE X Z ow 0 (.Tuple es x1 pos) (P8 fs):=(T0 h).mono λσ H Q h=>by
 let⟨F,δ,R,h⟩:=h;unfold P8 at h;sleep 1;cases e:bA fs δ with
 |stuck=>rw[e]at h;exact h.elim
 |ok ds δ1=>
  rw[e]at h;simp![Res.bind]at h;intro vs H1 F1 R1 s1 z;split at h
  .rename_i hl
   refine⟨by rw[<- z.len];exact hl,λp hp=>?_⟩;have fp:=R1.fnone hp;exact h _ _ (aV F1 p (.tup vs)) ((R1.laid hp).x (qI fp z)) (s1.trans' (bW fp _))
  .exact h.elim
def cI(S:aP Z ow)(h:DV X Z ow es fs):DE X Z ow 1 (.List es pos) (KQ fs):=(aGK h).mono λσ H Q h=>by
 let⟨F,δ,R,h⟩:=h;unfold KQ at h;sleep 1;cases e:bA fs δ with
 |stuck=>rw[e]at h;exact h.elim
 |ok ds δ1=>
  rw[e]at h;simp![Res.bind]at h;intro vs H1 F1 R1 s1 z;split at h
  .rename_i hl
   exact⟨by rw[<- z.len];exact hl,λp hp=>h _ _ F1 (R1.newList S hp z) s1⟩
  .exact h.elim
def JW(op:ZI->ZL)(fs:List (M D)):M D:=λδ=>(bA fs δ).bind λds δ1=>match op ds with
 |some d=>.ok d δ1
 |none=>.stuck
def ę(X:Cx)(r:List V->Hp->VK->Prop)(n:Nat)(op:ZI->ZL):Prop:=∀(Z:cN)(ow:ZH)(F H:Hp)(σ:St)(δ:DS)(ds:ZI)(vs:List V)(d:D)(Q:VK),aP Z ow->cB X.K Z ow F H σ δ->aD X.K F ds vs->op ds=some d ->
 (∀v H' F',gF X.K Z ow n d v F' H' σ δ->aI F F'->Q v H')->r vs H Q
def UE(S:aP Z ow)(os:ę X r n op)(h:tD X Z ow n (JW op fs) σ H Q):ŭ r (tV X Z ow fs) σ H Q:=by
 let⟨F,δ,R,h⟩:=h;unfold JW at h;sleep 1;cases e:bA fs δ with
 |stuck=>rw[e]at h;exact h.elim
 |ok ds δ1=>
  rw[e]at h;simp![Res.bind]at h;intro vs H1 F1 R1 s1 z;cases e3:op ds with
  |none=>rw[e3]at h;exact h.elim
  |some d=>
   rw[e3]at h;exact os Z ow F1 H1 σ δ1 ds vs d Q S R1 z e3 λv H' F' R' s'=>h v H' F' R' (s1.trans' s')
def iS{id:String}{p:Pos}(S:aP Z ow)(hc:gU X (.builtin id) r)(os:ę X r n op)(hg:Gl X x)(hm:X.mg x=none)(hv:bootBuiltins x=some (.builtin id))(ha:DV X Z ow (e::es) fs)(hn:⇑(x≠"__name__"))(hdb:⇑(Zdb x))(he:↥(Zse e es X.env))(hpl:↥(Zbt pos es X.env)):
  DE X Z ow n (.Call 'h' (e::es) [] pos) (JW op fs):=PE.mono (rR hc hg hm hv ha hn hdb he hpl) λ_ _ _ h=>UE S os h
def uE{p:Pos}(S:aP Z ow)(hc:gU X (.type T) r)(os:ę X r n op)(hg:Gl X x)(hm:X.mg x=none)(hv:bootBuiltins x=some (.type T))(ha:DV X Z ow (e::es) fs)(hn:⇑(x≠"__name__"))(hdb:⇑(Zdb x))(he:↥(Zse e es X.env))(hpl:↥(Zbt pos es X.env)):
  DE X Z ow n (.Call 'h' (e::es) [] pos) (JW op fs):=PE.mono (uA hc hg hm hv ha hn hdb he hpl) λ_ _ _ h=>UE S os h
end
inductive Fl where
 |next|brk|cont
 |ret (d:D)
def kS(X:Cx)(Z:cN)(ow' ol ox:ZH)(rm:Nat)(r:Res Fl)(F:Hp)(Dn:AM):Prop:=match r with
 |.ok .next δ=>∀σ' H' F',cB X.K Z ow' F' H' σ' δ->aI F F'->Dn.nx σ' H'
 |.ok .brk δ=>∀σ' H' F',cB X.K Z ol F' H' σ' δ->aI F F'->Dn.bk σ' H'
 |.ok .cont δ=>∀σ' H' F',cB X.K Z ol F' H' σ' δ->aI F F'->Dn.ct σ' H'
 |.ok (.ret d) δ=>∀v σ' H' F' owr,gF X.K Z owr rm d v F' H' σ' δ->aI F F'->Dn.rt v H'
 |.stuck=>False
def tS(X:Cx)(Z:cN)(ow ow' ol ox:ZH)(rm:Nat)(f:M Fl):TS:=λDn σ H=>∃F δ,cB X.K Z ow F H σ δ/\kS X Z ow' ol ox rm (f δ) F Dn
def DJ(X:Cx)(Z:cN)(ow ow' ol ox:ZH)(rm:Nat)(st:Stmt)(f:M Fl):Prop:=PS X st (tS X Z ow ow' ol ox rm f)
def BI(X:Cx)(Z:cN)(ow ow' ol ox:ZH)(rm:Nat)(st:List Stmt)(f:M Fl):Prop:=CY X st (tS X Z ow ow' ol ox rm f)
section
variable {X:Cx}{Z:cN}{ow ow' ow1 ol ox:ZH}{n rm:Nat}{pos:Pos}{e:Expr}{f:M D}{st:Stmt}{sts:List Stmt}{u v:M Fl}{F:Hp}
def kS.mono(h:kS X Z ow' ol ox rm r F Dn)(s:aI F F1):kS X Z ow' ol ox rm r F1 Dn:=by
 cases r with
 |ok fl δ=>
  cases fl with
  |next=>exact λσ' H' F' R s'=>h σ' H' F' R (s.trans' s')
  |brk=>exact λσ' H' F' R s'=>h σ' H' F' R (s.trans' s')
  |cont=>exact λσ' H' F' R s'=>h σ' H' F' R (s.trans' s')
  |ret d=>exact λv σ' H' F' owr R s'=>h v σ' H' F' owr R (s.trans' s')
 |stuck=>exact h
def wZ:M Fl:=λδ=>.ok .next δ
def aZ:BI X Z ow ow ol ox rm [] wZ:=CY.mono C1 λDn σ H h=>by
 let⟨F,δ,R,h⟩:=h;exact h σ H F R (aI.refl _)
def eK(u v:M Fl):M Fl:=λδ=>(u δ).bind λfl δ1=>match fl with
 |.next=>v δ1
 |fl=>.ok fl δ1
def aA(h1:DJ X Z ow ow1 ol ox rm st u)(h2:BI X Z ow1 ow' ol ox rm sts v):BI X Z ow ow' ol ox rm (st::sts) (eK u v):=CY.mono (kL h1 h2) λDn σ H h=>by
 let⟨F,δ,R,h⟩:=h;unfold eK at h;sleep 1;cases e:u δ with
 |stuck=>rw[e]at h;exact h.elim
 |ok fl δ1=>
  rw[e]at h;simp![Res.bind]at h;cases fl with
  |next=>exact λσ' H' F' R' s'=>⟨F',δ1,R',h.mono s'⟩
  |brk=>exact h
  |cont=>exact h
  |ret d=>exact h
def aC(h1:DJ X Z ow ow' ol ox rm st u):BI X Z ow ow' ol ox rm [st] u:=CY.mono (rP h1) λDn σ H h=>h
def pF(f:M D):M Fl:=λδ=>(f δ).bind λd δ1=>.ok (.ret d) δ1
def aN(h:DE X Z ow rm e f):DJ X Z ow ow' ol ox rm (.Return (some e) pos) (pF f):=PS.mono (C2 h) λDn σ H h=>by
 let⟨F,δ,R,h⟩:=h;unfold pF at h;sleep 1;cases e:f δ with
 |stuck=>rw[e]at h;exact h.elim
 |ok d δ1=>
  rw[e]at h;exact λv H' F' R' s'=>h v σ H' F' ow R' s'
def BJ(f:M D):M Fl:=λδ=>(f δ).bind λ_ δ1=>.ok .next δ1
def bR(h:DE X Z ow n e f)(hs:↥(swapsWith e none pos.line X.env=pure false)):DJ X Z ow ow ol ox rm (.Expr e pos) (BJ f):=PS.mono (MM h hs) λDn σ H h=>by
 let⟨F,δ,R,h⟩:=h;unfold BJ at h;sleep 1;cases e:f δ with
 |stuck=>rw[e]at h;exact h.elim
 |ok d δ1=>
  rw[e]at h;exact λv H' F' R' s'=>h σ H' F' R'.rel s'
def qJ(c:M Bool)(u v:M Fl):M Fl:=λδ=>(c δ).bind λb δ1=>if b=true then u δ1 else v δ1
def bX(hc:DT X Z ow c k)(ha:BI X Z ow ow' ol ox rm sa u)(hb:BI X Z ow ow' ol ox rm sb v):DJ X Z ow ow' ol ox rm (.If c sa sb pos) (qJ k u v):=PS.mono (TB hc ha hb) λDn σ H h=>by
 let⟨F,δ,R,h⟩:=h;unfold qJ at h;sleep 1;cases e:k δ with
 |stuck=>rw[e]at h;exact h.elim
 |ok d δ1=>
  rw[e]at h;simp![Res.bind]at h;intro H1 F1 R1 s1;cases d with
  |true=>rw[Â rfl]at h⊢;exact⟨F1,δ1,R1,h.mono s1⟩
  |false=>rw[Ã á]at h⊢;exact⟨F1,δ1,R1,h.mono s1⟩
def cB.freeze(i:Nat)(R:cB X.K Z ow F H σ δ)(hi:i∉Z.ps):∃F',aI F F'/\cB X.K Z (ow.set i 0) F' H σ δ:=let ⟨_,R⟩:=R;⟨_,m5,_,R.freeze i hi⟩
def cP{l:ZH}(h:l.contains i=false):i∉l:=λm=>by rw[List.contains_iff_mem.mpr m]at h;cases h
def bS(i:Nat)(h:BI X Z (ow.set i 0) ow' ol ox rm sts u)(hi:↥(Z.ps.contains i=false)):BI X Z ow ow' ol ox rm sts u:=CY.mono h λDn σ H h=>by
 let⟨F,δ,R,h⟩:=h;let⟨F',s,R'⟩:=R.freeze i (cP hi);exact⟨F',δ,R',h.mono s⟩
def gF.store{v:V}(S:aP Z ow)(R:gF X.K Z ow n d v F H σ δ)(hi:i<δ.length)(hps:i∉Z.ps)(hl:i<ow.length):cB X.K Z (ow.set i n) F H (σ.set i (some v)) (δ.set i (some d)):=by
 let⟨g,R,o⟩:=R;have i1:i<1000:=Ú hl S.ow;have hg:∀(a:Addr)(l:Ű),l.1≠i->l.1≠1000->g a=some l->(λb=>match g b with|some (j,p)=>if j=1000 then some (i,p)else if j=i then none else some (j,p)|none=>none:ZP) a=some l:=λa l h1 h2 e=>by
  let⟨j,p⟩:=l;dsimp only;rw[e];dsimp only;rw[Ã h2,Ã h1]
 refine⟨λb=>match g b with|some (j,p)=>if j=1000 then some (i,p)else if j=i then none else some (j,p)|none=>none,R.sub,R.f0,R.kept,R.new,R.there,λa j p e=>?_,by rw[Î,Î];exact R.len,λj hj=>?_,λj d' e=>?_⟩
 .cases q:g a with
  |none=>rw[q]at e;cases e
  |some l=>
   let⟨j',p'⟩:=l;rw[q]at e;have e:(if j'=1000 then some (i,p')else if j'=i then none else some (j',p'))=some (j,p):=e;split at e
   .rename_i z
    refine .inl ((R.lab a j' p' q).elim id λzQ=>by let⟨q',w⟩:=zQ;exact absurd (Z.wf a j' q' w) (by rw[z];exact S.ps))
   .split at e
    .cases e
    .cases e;exact R.lab a j p q
 .have ne:j≠i:=λz=>hps (by rw[<- z];exact hj)
  rw[Ù (Ñ ne),Ë,Ù (Ñ ne),<- Ë];exact R.par j hj
 .by_cases hj:j=i
  .subst hj
   rw[ß hi]at e;cases e;refine⟨v,ß (by rw[<- R.len];exact hi),?_⟩;have:(ow.set j n).getD j 0=n:=by rw[Ë,ß hl];rfl
   rw[this];exact o.relab λa p e=>by rw[e];exact Â rfl
  .rw[Ù (Ñ hj)]at e
   let⟨w,e1,o1⟩:=R.slot j d' e;refine⟨w,by rw[Ù (Ñ hj)];exact e1,?_⟩;have:(ow.set i n).getD j 0=ow.getD j 0:=by rw[Ë,Ë,Ù (Ñ hj)]
   rw[this];by_cases hz:ow.getD j 0=0
   .rw[hz]at o1⊢;exact o1
   .have j1:j<1000:=by
     by_cases hl:j<ow.length
     .exact Ú hl S.ow
     .exact absurd (by rw[Ë,ç (by exact è.mp ‹_›)];rfl) hz
    exact o1.mono (aI.refl _) (λa l hl e=>hg a l (by rw[hl];exact hj) (by rw[hl];exact Ï ‹_›) e) (λ_ _ _ _ h=>h) λ_ _ _ _ _ h=>h
def jG(i:Nat)(f:M D):M Fl:=λδ=>(f δ).bind λd δ1=>if i<δ1.length then .ok .next (δ1.set i (some d))else .stuck
def DK(S:aP Z ow)(hps:i∉Z.ps)(hl:i<ow.length)(h:tS X Z ow (ow.set i n) ol ox rm (jG i f) Dn σ H):PV (tD X Z ow n f) (kM i) Dn σ H:=by
 let⟨F,δ,R,h⟩:=h;unfold jG at h;sleep 1;cases e:f δ with
 |stuck=>rw[e]at h;exact h.elim
 |ok d δ1=>
  rw[e]at h;simp![Res.bind]at h;intro v H1 F1 R1 s1;split at h
  .rename_i hi
   exact h _ H1 F1 (R1.store S hi hps hl) s1
  .exact h.elim
def aH(i:Nat){pos':Pos}(S:aP Z ow)(h:DE X Z ow n e f)(hN:X.N.Nodup)(hi:↥(X.N[i]?=some x))(hx:#v[S5 X.env.scope x])(hps:↥(Z.ps.contains i=false))(hl:⇑(i<ow.length))(hs:↥(swapsWith e (some (.Name x pos')) pos.line X.env=pure false))(hf:X.fn x=true\/X.env.scope.names.lookup x=some .local:=by first|exact .inl rfl|exact .inr rfl|assumption):
  DJ X Z ow (ow.set i n) ol ox rm (.Assign [.Name x pos'] e pos) (jG i f):=PS.mono (J4 hN hi hx h hs hf) λDn σ H h=>DK S (cP hps) hl h
end
def iT(set:D->DS->Option DS)(body:M Fl):ZI->M Fl
 |[]=>λδ=>.ok .next δ
 |d::ds=>λδ=>match set d δ with
  |none=>.stuck
  |some δ1=>(body δ1).bind λfl δ2=>match fl with
   |.next=>iT set body ds δ2
   |.cont=>iT set body ds δ2
   |.brk=>.ok .next δ2
   |.ret d=>.ok (.ret d) δ2
def ĵ(X:Cx)(Z:cN)(ow:ZH)(g:TG)(set:D->DS->Option DS):Prop:=∀(F H:Hp)(σ:St)(δ δ':DS)(d:D)(v:V)(Q:St->Hp->Prop),cB X.K Z ow F H σ δ->bD X.K F d v->set d δ=some δ'->(∀σ',cB X.K Z ow F H σ' δ'->Q σ' H)->g v σ H Q
def setN(i:Nat):D->DS->Option DS:=λd δ=>if i<δ.length then some (δ.set i (some d))else none
def uF(is:ZH):D->DS->Option DS:=λd δ=>match d with
 |.tuple ds=>if ds.length=is.length then (is.zip ds).foldl (λ(o:Option DS)(p:Nat×D)=>o.bind λδ=>setN p.1 p.2 δ) (some δ)else none
 |_=>none
section
variable {X:Cx}{Z:cN}{ow:ZH}{n:Nat}{u:M Fl}{set:D->DS->Option DS}
def ű(h:ow.getD i 0=0):ow.set i 0=ow:=by
 by_cases hi:i<ow.length
 .apply List.ext_getElem?
  intro j;by_cases hj:j=i
  .subst hj
   rw[ß hi];rw[Ë,Ê hi]at h;rw[Ê hi];exact congrArg some h.symm
  .rw[Ù (Ñ hj)]
 .exact List.set_eq_of_length_le (by exact è.mp ‹_›)
def DL(S:aP Z ow)(hps:i∉Z.ps)(hl:i<ow.length)(h0:ow.getD i 0=0):ĵ X Z ow (kM i) (setN i):=λF H σ δ δ' d v Q R r e q=>by
 unfold setN at e;split at e
 .rename_i hi
  cases e;have:=(R.x r).store S hi hps hl;rw[ű h0]at this;exact q _ this
 .cases e
def BK(S:aP Z ow):∀(is:ZH)(t:TD),(∀i∈is,i∉Z.ps/\i<ow.length/\ow.getD i 0=0)->t=is.foldr (λi u=>FW (kM i) u) TF ->
  ∀(F H:Hp)(σ:St)(δ δ':DS)(ds:ZI)(vs:List V)(Q:St->Hp->Prop),cB X.K Z ow F H σ δ->aD X.K F ds vs->ds.length=is.length->(is.zip ds).foldl (λ(o:Option DS)(p:Nat×D)=>o.bind λδ=>setN p.1 p.2 δ) (some δ)=some δ' ->
   (∀σ',cB X.K Z ow F H σ' δ'->Q σ' H)->t vs σ H Q
 |[],t,_,ht,F,H,σ,δ,δ',ds,vs,Q,R,r,hl,e,q=>by
  cases ds with
  |cons _ _=>cases hl
  |nil=>
   unfold aD at r;subst ht r;cases e;exact⟨rfl,q σ R⟩
 |i::is,t,hi,ht,F,H,σ,δ,δ',ds,vs,Q,R,r,hl,e,q=>by
  cases ds with
  |nil=>cases hl
  |cons d ds=>
   unfold aD at r;let⟨x,rest,rfl,rx,r⟩:=r;subst ht;rw[ä,List.foldl_cons]at e;have no:∀(l:List (Nat×D)),l.foldl (λ(o:Option DS)(p:Nat×D)=>o.bind λδ=>setN p.1 p.2 δ) none=none:=λl=>by
    induction l with
    |nil=>rfl
    |cons p l ih=>rw[List.foldl_cons];exact ih
   cases e1:setN i d δ with
   |none=>
    rw[show ((some δ:Option DS).bind λδ=>setN (i,d).1 (i,d).2 δ)=none from e1,no]at e;cases e
   |some δ1=>
    rw[show ((some δ:Option DS).bind λδ=>setN (i,d).1 (i,d).2 δ)=some δ1 from e1]at e;let⟨h1,h2,h3⟩:=hi i Ô;refine⟨x,rest,rfl,DL S h1 h2 h3 F H σ δ δ1 d x _ R rx e1 λσ' R'=>?_⟩;exact BK S is _ (λj hj=>hi j (Ó _ hj)) rfl F H σ' δ1 δ' ds rest Q R' r (by simpa using hl) e q
def aGZ(S:aP Z ow)(hi:∀i∈is,i∉Z.ps/\i<ow.length/\ow.getD i 0=0)(ht:t=is.foldr (λi u=>FW (kM i) u) TF):ĵ X Z ow (ŧ X.K is.length t) (uF is):=λF H σ δ δ' d v Q R r e q=>by
 unfold uF at e;cases d with
 |tuple ds=>
  dsimp only at e;split at e
  .rename_i hl
   unfold bD at r;let⟨a,xs,rfl,hq,ra⟩:=r;exact⟨a,xs,rfl,R.sub.seqT hq,by rw[<- ra.len];exact hl,BK S is t hi ht F H σ δ δ' ds xs Q R ra hl e q⟩
  .cases e
 |_=>cases e
def aA6{ds:ZI}{d:D}(hg:ĵ X Z ow g set)(R:cB X.K Z ow F H σ δ)(s1:aI F1 F)(hk:kS X Z ow ol ox rm (iT set u (ds.drop k) δ) F Dn)(hd:ds[k]?=some d)(rx:bD X.K F d x)(Pv:Nat->St->Hp->Prop)(hP:∀k σ H F δ,cB X.K Z ow F H σ δ->aI F1 F->kS X Z ow ol ox rm (iT set u (ds.drop k) δ) F Dn->Pv k σ H):
  g x σ H λσ2 H2=>tS X Z ow ow ow ox rm u {Dn with nx:=Pv (k+1),ct:=Pv (k+1),bk:=Dn.nx} σ2 H2:=by
 have e:ds.drop k=d::ds.drop (k+1):=by
  let⟨hlt,rfl⟩:=Í.mp hd;exact ñ hlt
 rw[e]at hk;unfold iT at hk;cases e1:set d δ with
 |none=>simp![e1]at hk;exact hk.elim
 |some δ1=>
  simp![e1]at hk;refine hg F H σ δ δ1 d x _ R rx e1 λσ' R'=>⟨F,δ1,R',?_⟩;cases e2:u δ1 with
  |stuck=>rw[e2]at hk;exact hk.elim
  |ok fl δ2=>
   rw[e2]at hk;simp![Res.bind]at hk;cases fl with
   |next=>exact λσ2 H2 F2 R2 s2=>hP _ σ2 H2 F2 δ2 R2 (s1.trans' s2) (hk.mono s2)
   |cont=>exact λσ2 H2 F2 R2 s2=>hP _ σ2 H2 F2 δ2 R2 (s1.trans' s2) (hk.mono s2)
   |brk=>exact hk
   |ret d=>exact hk
def ξ(K:ZC)(tl:TE):TI:=λσ H R=>tl σ H λx H1=>(∃a,x=.ref a/\(∃xs,d8 K H1 a xs)/\R (Ħ K a) H1)\/(∃a,x=.ref a/\(∃xs,rN K H1 a xs)/\R (ũ K a) H1)
def UF(hl:PE X l tl):PI X tg l (ξ X.K tl):=by
 intro À s σ H R I h;refine cA (hl À s σ H _ I h) λv s1 zQ=>?_;let⟨x,H1,I1,r1,q1⟩:=zQ;rcases q1 with ⟨a,e,⟨xs,hq⟩,q⟩|⟨a,e,⟨xs,hq⟩,q⟩
 .subst e
  cases r1;let⟨its,rv,p,hz⟩:=I1.list hq;refine wpAny_pyIter_list p.isList ?_;refine⟨s1.heap.objs.size,[s1.heap.objs.size],_,_,H1,rfl,I1.kept (t':=s1.toks) λb o e=>Heap.get?_push_of_some _ e,PX a _,⟨_,Heap.get?_push_size _ rfl,rfl,rfl⟩,λb hb=>?_,q⟩;have e:b=s1.heap.objs.size:=by simpa using hb
  subst e;exact I1.fpOk (È _) (I1.hok.fresh (È _))
 .subst e
  cases r1;let⟨its,rv,p,hz⟩:=I1.tuple hq;refine wpAny_pyIter_tuple (show s1.heap.IsTuple a its.toArray from p) ?_;refine⟨s1.heap.objs.size,[s1.heap.objs.size],_,_,H1,rfl,I1.kept (t':=s1.toks) λb o e=>Heap.get?_push_of_some _ e,J5 a _,⟨_,Heap.get?_push_size _ rfl,rfl,rfl⟩,λb hb=>?_,q⟩;have e:b=s1.heap.objs.size:=by simpa using hb
  subst e;exact I1.fpOk (È _) (I1.hok.fresh (È _))
def jH(lo:Int)(n:Nat):ZI:=(List.range n).map λ(k:Nat)=>PyData.int (lo+(k:Int))
def DM{lo:Int}(h:k<n):(jH lo n)[k]?=some (.int (lo+(k:Int))):=by
 unfold jH;rw[Ò,þ h];rfl
def fV{lo:Int}:(jH lo n).length=n:=by unfold jH;rw[Å,List.length_range]
def kR:ZI->Option (Int×Nat)
 |[.int j]=>if -(2^62)<=j/\j<2^62 then some (0,j.toNat)else none
 |[.int i,.int j]=>if -(2^62)<=i/\i<2^62/\-(2^62)<=j/\j<2^62 then some (i,(j-i).toNat)else none
 |_=>none
def kU:∀{fs:List (M D)}{δ δ1:DS}{ds:ZI},bA fs δ=.ok ds δ1->ds.length=fs.length
 |[],δ,δ1,ds,h=>by cases h;rfl
 |f::fs,δ,δ1,ds,h=>by
  unfold bA at h;cases e:f δ with
  |stuck=>rw[e]at h;cases h
  |ok d δ2=>
   rw[e]at h;simp![Res.bind]at h;cases e2:bA fs δ2 with
   |stuck=>rw[e2]at h;cases h
   |ok ds' δ3=>
    rw[e2]at h;cases h;rw[Û,Û,kU e2]
def GK{lo:Int}(h:kR ds=some (lo,n))(hl:ds.length=1):∃j:Int,ds=[.int j]/\-(2^62)<=j/\j<2^62/\lo=0/\n=j.toNat:=by
 rcases ds with _|⟨d,_|⟨_,_⟩⟩<;>try cases hl
 cases d<;>try cases h
 unfold kR at h;dsimp only at h;split at h
 .rename_i hj;cases h;exact⟨_,rfl,hj.1,hj.2,rfl,rfl⟩
 .cases h
def GL{lo:Int}(h:kR ds=some (lo,n))(hl:ds.length=2):∃i j:Int,ds=[.int i,.int j]/\(-(2^62)<=i/\i<2^62/\-(2^62)<=j/\j<2^62)/\lo=i/\n=(j-i).toNat:=by
 rcases ds with _|⟨a,_|⟨b,_|⟨_,_⟩⟩⟩<;>try cases hl
 cases a<;>try cases h
 cases b<;>try cases h
 unfold kR at h;dsimp only at h;split at h
 .rename_i hj;cases h;exact⟨_,_,rfl,hj,rfl,rfl⟩
 .cases h
def w8{K:ZC}(h:aD K F [.int j] vs):vs=[.int j]:=by
 unfold aD at h;let⟨x,r,rfl,rx,h⟩:=h;unfold aD at h;unfold bD at rx;rw[h,rx]
def GM{K:ZC}(h:aD K F [.int i,.int j] vs):vs=[.int i,.int j]:=by
 unfold aD at h;let⟨x,r,rfl,rx,h⟩:=h;unfold bD at rx;rw[rx,w8 h]
def vP(c:M Bool)(u:M Fl):Nat->M Fl
 |0=>λ_=>.stuck
 |n+1=>λδ=>(c δ).bind λb δ1=>if b=true then (u δ1).bind λfl δ2=>(match fl with
   |.next=>vP c u n δ2
   |.cont=>vP c u n δ2
   |.brk=>.ok .next δ2
   |.ret d=>.ok (.ret d) δ2)else .ok .next δ1
def fF(c:M Bool)(u:M Fl):M Fl:=λδ=>open Classical in if h:∃n,vP c u n δ≠.stuck then vP c u h.choose δ else .stuck
def w9 :∀{n:Nat}{δ:DS},vP c u n δ≠.stuck->vP c u (n+1) δ=vP c u n δ
 |0,δ,h=>absurd rfl h
 |n+1,δ,h=>by
  have e:∀m,vP c u (m+1) δ=(c δ).bind λb δ1=>if b=true then (u δ1).bind λfl δ2=>(match fl with
   |.next=>vP c u m δ2
   |.cont=>vP c u m δ2
   |.brk=>.ok .next δ2
   |.ret d=>.ok (.ret d) δ2)else .ok .next δ1:=λm=>rfl
  rw[e n]at h;rw[e (n+1),e n];cases e1:c δ with
  |stuck=>rfl
  |ok b δ1=>
   rw[e1]at h;simp![Res.bind]at h⊢;cases b with
   |false=>rfl
   |true=>
    rw[Â rfl]at h⊢;rw[Â rfl];cases e2:u δ1 with
    |stuck=>rfl
    |ok fl δ2=>
     rw[e2]at h;simp only at h⊢;cases fl with
     |next=>exact w9 h
     |cont=>exact w9 h
     |brk=>rfl
     |ret d=>rfl
def UG(h:vP c u n δ≠.stuck)(l:n<=m):vP c u m δ=vP c u n δ:=by
 induction l with
 |refl=>rfl
 |step l ih=>rw[w9 (by rw[ih];exact h),ih]
def oM(n:Nat)(h:vP c u n δ≠.stuck):fF c u δ=vP c u n δ:=by
 have ex:∃n,vP c u n δ≠.stuck:=⟨n,h⟩;unfold fF;rw[dif_pos ex];rcases Nat.le_total n ex.choose with l|l
 .exact UG h l
 .exact(UG ex.choose_spec l).symm
def eQ:fF c u δ=(c δ).bind λb δ1=>if b=true then (u δ1).bind λfl δ2=>(match fl with
   |.next=>fF c u δ2
   |.cont=>fF c u δ2
   |.brk=>.ok .next δ2
   |.ret d=>.ok (.ret d) δ2)else .ok .next δ1:=by
 have e:∀m,vP c u (m+1) δ=(c δ).bind λb δ1=>if b=true then (u δ1).bind λfl δ2=>(match fl with
   |.next=>vP c u m δ2
   |.cont=>vP c u m δ2
   |.brk=>.ok .next δ2
   |.ret d=>.ok (.ret d) δ2)else .ok .next δ1:=λm=>rfl
 have go:∀(δ2:DS),(∀m,vP c u m δ2=.stuck)->fF c u δ2=.stuck:=λδ2 h=>by
  unfold fF;rw[dif_neg λzQ=>by let⟨n,q⟩:=zQ;exact q (h n)]
 by_cases ex:∃n,vP c u n δ≠.stuck
 .obtain⟨n,h⟩:=ex
  cases n with
  |zero=>exact absurd rfl h
  |succ n=>
   rw[oM (n+1) h,e n];rw[e n]at h;cases e1:c δ with
   |stuck=>rfl
   |ok b δ1=>
    rw[e1]at h;simp![Res.bind]at h⊢;cases b with
    |false=>rfl
    |true=>
     rw[Â rfl]at h⊢;rw[Â rfl];cases e2:u δ1 with
     |stuck=>rfl
     |ok fl δ2=>
      rw[e2]at h;simp only at h⊢;cases fl with
      |next=>exact(oM n h).symm
      |cont=>exact(oM n h).symm
      |brk=>rfl
      |ret d=>rfl
 .have all:∀n,vP c u n δ=.stuck:=λn=>Ċ λq=>ex ⟨n,q⟩
  rw[go δ all];have a1:=λm=>(e m).symm.trans (all (m+1));cases e1:c δ with
  |stuck=>rfl
  |ok b δ1=>
   simp![Res.bind];cases b with
   |false=>have:=a1 0;rw[e1]at this;simp![Res.bind]at this;cases this
   |true=>
    rw[Â rfl];cases e2:u δ1 with
    |stuck=>rfl
    |ok fl δ2=>
     cases fl with
     |next=>exact(go δ2 λm=>by have:=a1 m;rw[e1]at this;simp![Res.bind,if_true,e2]at this;exact this).symm
     |cont=>exact(go δ2 λm=>by have:=a1 m;rw[e1]at this;simp![Res.bind,if_true,e2]at this;exact this).symm
     |brk=>have:=a1 0;rw[e1]at this;simp![Res.bind,if_true,e2]at this;cases this
     |ret d=>have:=a1 0;rw[e1]at this;simp![Res.bind,if_true,e2]at this;cases this
def GN(hp:PassesOwn 'b' X.A X.env X.xe)(hc:DT X Z ow e k)(hb:BI X Z ow ow ow ox rm sts u):DJ X Z ow ow ol ox rm (.While e sts [] pos) (fF k u):=PS.mono (TK hp hc hb) λDn σ H h=>by
 let⟨F,δ,R,h⟩:=h;have ex:∃n,vP k u n δ≠.stuck:=Ċ λq=>by
  unfold fF at h;rw[dif_neg q]at h;exact h
 let⟨n0,hn⟩:=ex;rw[oM n0 hn]at h;refine⟨λm σ H=>∃F2 δ2,cB X.K Z ow F2 H σ δ2/\kS X Z ow ol ox rm (vP k u m δ2) F2 Dn,⟨n0,F,δ,R,h⟩,?_⟩;rintro m σ1 H1 ⟨F1,δ1,R1,k1⟩;cases m with
 |zero=>exact k1.elim
 |succ m=>
  unfold vP at k1;refine⟨F1,δ1,R1,?_⟩;cases e1:k δ1 with
  |stuck=>rw[e1]at k1;exact k1.elim
  |ok b δ2=>
   rw[e1]at k1;simp![Res.bind]at k1;intro H2 F2 R2 s2;cases b with
   |false=>rw[Ã á]at k1⊢;exact k1 σ1 H2 F2 R2 s2
   |true=>
    rw[Â rfl]at k1⊢;refine⟨λσ3 H3=>∃F3 δ3,cB X.K Z ow F3 H3 σ3 δ3/\kS X Z ow ol ox rm (vP k u m δ3) F3 Dn,λσ' H'⟨F3,δ3,R3,k3⟩=>⟨m,ð _,F3,δ3,R3,k3⟩,F2,δ2,R2,?_⟩;cases e2:u δ2 with
    |stuck=>rw[e2]at k1;exact k1.elim
    |ok fl δ3=>
     rw[e2]at k1;simp only at k1;cases fl with
     |next=>exact λσ3 H3 F3 R3 s3=>⟨F3,δ3,R3,k1.mono (s2.trans' s3)⟩
     |cont=>exact λσ3 H3 F3 R3 s3=>⟨F3,δ3,R3,k1.mono (s2.trans' s3)⟩
     |brk=>exact kS.mono (r:=.ok .next δ3) k1 s2
     |ret d=>exact kS.mono (r:=.ok (.ret d) δ3) k1 s2
end
structure Ų(K:ZC)(ps owp:ZH)(rm:Nat)(F H:Hp)(g:ZP)(vs:List V)(F' H':Hp)(g':ZP)(outs:ZI)(d:D)(v:V):Prop where
 s:aI F F'
 sub:aI F' H'
 kept:∀b o,g b=none->H b=some o->H' b=some o
 new:∀a,F a=none->H a≠none->F' a=none
 there:∀b,H b≠none->H' b≠none
 lab:∀a i p,g' a=some (i,p)->H a=none\/∃q,g a=some (i,q)
 ret:bE K F' H' g' 1000 rm [] d v
 olen:outs.length=ps.length
 out:∀(k i:Nat)(d':D),ps[k]?=some i->outs[k]?=some d'->∃v',vs[i]?=some v'/\bE K F' H' g' i (owp.getD i 0) [] d' v'
def aNW(K:ZC)(ps owp:ZH)(rm:Nat)(F H:Hp)(g:ZP)(vs:List V)(Q:VK)(E:XK):Res D->Prop
 |.ok d outs=>∀v H' F' g',Ų K ps owp rm F H g vs F' H' g' (outs.filterMap id) d v->Q v H'
 |.stuck=>False
def ų(K:ZC)(ps owp:ZH)(rm:Nat)(f:ZI->Res D):Sp:=λvs H Q E=>∃F g ds,Z7 K F/\aI F H/\ds.length=vs.length/\(∀a i p,g a=some (i,p)->i∈ps) /\
 (∀(i:Nat)(d:D)(v:V),ds[i]?=some d->vs[i]?=some v->bE K F H g i (owp.getD i 0) [] d v)/\aNW K ps owp rm F H g vs Q E (f ds)
def FP(P:Program)(w:World)(K:ZC):SR:=λ_ _ _ _ _ _=>False
def h7(δ:DS):ZH->Option (ZI)
 |[]=>some []
 |i::is=>match δ[i]?,h7 δ is with
  |some (some d),some ds=>some (d::ds)
  |_,_=>none
def BL :∀{is:ZH}{ds:ZI},h7 δ is=some ds->ds.length=is.length/\∀(k i:Nat)(d:D),is[k]?=some i->ds[k]?=some d->δ[i]?=some (some d)
 |[],ds,h=>by cases h;exact⟨rfl,λk i d e=>by simp at e⟩
 |i::is,ds,h=>by
  unfold h7 at h;split at h
  .rename_i d ds' e1 e2
   cases h;let⟨h1,h2⟩:=BL e2;refine⟨by simp[h1],λk j d' q1 q2=>?_⟩;cases k with
   |zero=>cases q1;cases q2;exact e1
   |succ k=>exact h2 k j d' (by simpa using q1) (by simpa using q2)
  .cases h
def aR(m:Nat)(ps:ZH)(rm:Nat)(body:M Fl):ZI->Res D:=λds=>match body (ds.map some++List.replicate (m-ds.length) none)with
 |.ok (.ret d) δ=>(match h7 δ ps with
  |some outs=>.ok d (outs.map some)
  |none=>.stuck)
 |.ok .next δ=>if rm=0 then (match h7 δ ps with
  |some outs=>.ok .none (outs.map some)
  |none=>.stuck)else .stuck
 |.ok _ _=>.stuck
 |.stuck=>.stuck
section
variable {P:Program}{w:World}{K:ZC}{mg:ZD}{base:Heap}
def SU.okG{st:Stmt}(F:SU K x qual st f fd)(S:jM N ps (bC st))(len:∀vs H Q E,sp vs H Q E->vs.length=ps.length)(hbody:∀(cdv:Value)(_:fd.code=cdv)(A:Around)(outer:List Env)(s:Shared)(H:Hp)(vs:List V)(Q:VK)(E:XK),fD k (A.deeper (envOfC qual (bC st) s.heap.objs.size f cdv))->sp vs H Q E ->
   ∃t,CY (v4 CX P w K mg base N qual (bC st) f cdv A outer s H E) (dQ st) t/\t {nx:=λ_ H'=>Q .non H',rt:=Q} (start N vs) H):qH P w K mg base CX (k+1) f fd ps sp:=by
 let⟨oc,od,kV,doc,pm,an,cdv,ct,osl,rfl,lk,hcd⟩:=F.ex;exact aKD lk hcd S len λA outer s H vs Q E hr hsp=>hbody cdv rfl A outer s H vs Q E hr hsp
def SU.okD{st:Stmt}(Fn:SU K x qual st f fd)(S:jM N pn (bC st))(hN:owp.length=N.length)(hb:∀(cdv:Value)(_:fd.code=cdv)(A:Around)(outer:List Env)(s:Shared)(H:Hp)(E:XK)(F0:Hp)(g0:ZP)(σ0:St)(wf:∀a i q,g0 a=some (i,q)->i∈ps),fD k (A.deeper (envOfC qual (bC st) s.heap.objs.size f cdv)) ->
   ∃ow',BI (v4 (FP P w K) P w K mg base N qual (bC st) f cdv A outer s H E) ⟨F0,H,g0,ps,σ0,owp,wf⟩ owp ow' ow' ow' rm (dQ st) body):qH P w K mg base (FP P w K) (k+1) f fd pn (λvs H Q E=>vs.length=pn.length/\ų K ps owp rm (aR N.length ps rm body) vs H Q E):=by
 refine Fn.okG S (λvs H Q E h=>h.1) λcdv ec A outer s H vs Q E hr h=>?_;let⟨hl,F,g,ds,hL,hs,hd,hg,hv,q⟩:=h;let Z:cN:=⟨F,H,g,ps,start N vs,owp,hg⟩;let⟨ow',hB⟩:=hb cdv ec A outer s H E F g (start N vs) hg hr;refine⟨_,hB,F,ds.map some++List.replicate (N.length-ds.length) none,⟨g,hs,⟨hL,aI.refl _⟩,λ_ _ _ e=>e,λ_ h _=>h,λ_ h=>h,λa i p e=>.inr ⟨p,e⟩,?_,λi _=>⟨rfl,rfl⟩,λi d' e=>?_⟩,?_⟩
 .have hpl:pn.length<=N.length:=by have:=congrArg List.length S.pre;rw[ê]at this;lia
  unfold start;simp![Ð,Å,î,hd]
 .have hi:i<ds.length:=by
   by_cases hi:i<ds.length
   .exact hi
   .rw[ã (by simpa using hi),ÿ]at e
    split at e<;>cases e
  rw[ó (by simpa using hi),Ò,Ê hi]at e;have ed:ds[i]?=some d':=by
   rw[Ê hi];simpa using e
  have hi':i<vs.length:=by exact õ ‹_› ‹_›
  refine⟨vs[i],?_,hv i d' _ ed (Ê hi')⟩;unfold start;rw[ó (by simpa using hi'),Ò,Ê hi'];rfl
 .have fin:∀{rm:Nat}{d0:D}{δ:DS}{v:V}{σ':St}{H' F':Hp}{owr:ZH}{os:ZI},gF K Z owr rm d0 v F' H' σ' δ->h7 δ ps=some os->∃g',Ų K ps owp rm F H g vs F' H' g' ((os.map some).filterMap id) d0 v:=λ{rm d0 δ v σ' H' F' owr os}R ho=>by
   have eo:(os.map some).filterMap id=os:=by rw[List.filterMap_map];exact List.filterMap_some
   rw[eo];let⟨g',R,o⟩:=R;let⟨ol,oa⟩:=BL ho;refine⟨g',R.f0.2,R.sub,R.kept,R.new,R.there,R.lab,o,ol,λk i d' h1 h2=>?_⟩;let⟨v',e1,o1⟩:=R.slot i d' (oa k i d' h1 h2);let⟨p1,p2⟩:=R.par i (Ĉ h1);rw[show Z.owp=owp from rfl]at p2;rw[p2]at o1;refine⟨v',?_,o1⟩;rw[p1]at e1;have e1:(start N vs)[i]?=some (some v'):=e1;unfold start at e1;by_cases hi:i<vs.length
   .rw[ó (by simpa using hi),Ò,Ê hi]at e1
    rw[Ê hi];simpa using e1
   .rw[ã (by simpa using hi),ÿ]at e1
    split at e1<;>cases e1
  unfold aR at q;cases e:body (ds.map some++List.replicate (N.length-ds.length) none)with
  |stuck=>rw[e]at q;exact q.elim
  |ok fl δ=>
   rw[e]at q;cases fl with
   |brk=>exact q.elim
   |cont=>exact q.elim
   |ret d0=>
    dsimp only at q;intro v σ' H' F' owr R _;cases ho:h7 δ ps with
    |none=>rw[ho]at q;exact q.elim
    |some os=>
     rw[ho]at q;let⟨g',T⟩:=fin R ho;exact q v H' F' g' T
   |next=>
    dsimp only at q;intro σ' H' F' R _;by_cases hrm:rm=0
    .rw[Â hrm]at q
     cases ho:h7 δ ps with
     |none=>rw[ho]at q;exact q.elim
     |some os=>
      rw[ho]at q;let⟨g',R⟩:=R;have RX:gF K Z ow' rm .none .non F' H' σ' δ:=⟨g',R,by rw[hrm];show bD K F' .none .non;unfold bD;rfl⟩;let⟨g2,T⟩:=fin RX ho;exact q .non H' F' g2 T
    .rw[Ã hrm]at q;exact q.elim
end
def aY:List Arg->ZH
 |[]=>[]
 |.own i::as=>i::aY as
 |.val _::as=>aY as
def fW:Nat->List Arg->ZH
 |_,[]=>[]
 |k,.own _::as=>k::fW (k+1) as
 |k,.val _::as=>fW (k+1) as
def eZ(δ:DS):List Arg->List (ZL)->Option (ZI)
 |[],[]=>some []
 |.own i::as,none::ds=>match δ[i]?,eZ δ as ds with
  |some (some d),some r=>some (d::r)
  |_,_=>none
 |.val _::as,some d::ds=>(eZ δ as ds).map (d::·)
 |_,_=>none
def dG:ZH->ZI->DS->DS
 |i::is,d::ds,δ=>dG is ds (δ.set i (some d))
 |_,_,δ=>δ
def iU(fn:ZI->Res D)(as:List Arg):M D:=λδ=>(dH as δ).bind λods δ1=>match eZ δ1 as ods with
 |none=>.stuck
 |some ds=>match fn ds with
  |.ok d outs=>.ok d (dG (aY as) (outs.filterMap id) δ1)
  |.stuck=>.stuck
def iV:Nat->List Arg->Nat->Option Nat
 |_,[],_=>none
 |k,.own i::as,j=>if i=j then some k else iV (k+1) as j
 |k,.val _::as,j=>iV (k+1) as j
def kW:∀{k:Nat}{as:List Arg}{i m:Nat},iV k as i=some m->∃q,as[q]?=some (.own i)/\m=k+q/\m∈fW k as
 |k,.own s::as,i,m,h=>by
  unfold iV at h;split at h
  .rename_i e;cases h;exact⟨0,by rw[e];rfl,rfl,Ô⟩
  .obtain⟨q,e1,e2,e3⟩:=kW h
   exact⟨q+1,e1,∅,Ó _ e3⟩
 |k,.val _::as,i,m,h=>by
  let⟨q,e1,e2,e3⟩:=kW (k:=k+1) (as:=as) h;exact⟨q+1,e1,∅,e3⟩
def uG:∀{k:Nat}{as:List Arg}{t m i:Nat},(fW k as)[t]?=some m->(aY as)[t]?=some i->as[m-k]?=some (.own i)/\k<=m
 |k,.own s::as,0,m,i,h1,h2=>by cases h1;cases h2;exact⟨by rw[ù];rfl,È _⟩
 |k,.own s::as,t+1,m,i,h1,h2=>by
  let⟨e1,e2⟩:=uG (k:=k+1) (as:=as) (t:=t) h1 h2;exact⟨by rw[show m-k=(m-(k+1))+1 by lia];exact e1,by exact É ‹_›⟩
 |k,.val _::as,t,m,i,h1,h2=>by
  let⟨e1,e2⟩:=uG (k:=k+1) (as:=as) (t:=t) h1 h2;exact⟨by rw[show m-k=(m-(k+1))+1 by lia];exact e1,by exact É ‹_›⟩
def r9:∀{as:List Arg}{q i:Nat},as[q]?=some (.own i)->i∈aY as
 |.own s::as,0,i,h=>by cases h;exact Ô
 |.own s::as,q+1,i,h=>Ó _ (r9 (as:=as) (q:=q) h)
 |.val _::as,0,i,h=>by cases h
 |.val _::as,q+1,i,h=>r9 (as:=as) (q:=q) h
def uH:∀{k:Nat}{as:List Arg}{q i:Nat},(aY as).Nodup->as[q]?=some (.own i)->iV k as i=some (k+q)
 |k,.own s::as,0,i,_,h=>by cases h;unfold iV;rw[Â rfl];rfl
 |k,.own s::as,q+1,i,nd,h=>by
  have nd':=List.nodup_cons.mp (show (s::aY as).Nodup from nd);have h:as[q]?=some (.own i):=h;have hm:i∈aY as:=r9 h;have ne:¬s=i:=λe=>nd'.1 (by rw[e];exact hm);unfold iV;rw[Ã ne,uH nd'.2 h];congr 1;lia
 |k,.val _::as,0,i,_,h=>by cases h
 |k,.val _::as,q+1,i,nd,h=>by
  have e:iV (k+1) as i=some (k+1+q):=uH (q:=q) nd h;show iV (k+1) as i=_;rw[e];congr 1;lia
def kX{K:ZC}:∀{as:List Arg}{ods:List (ZL)}{ds:ZI}{vs:List V},eZ δ as ods=some ds->rZ K F σ as ods vs->ds.length=as.length/\vs.length=as.length /\
  ∀(q:Nat)(d:D)(v:V),ds[q]?=some d->vs[q]?=some v->(∃i,as[q]?=some (.own i)/\δ[i]?=some (some d)/\σ[i]?=some (some v))\/((∃f,as[q]?=some (.val f))/\bD K F d v)
 |[],[],ds,[],h,_=>by cases h;exact⟨rfl,rfl,λq d v e=>by simp at e⟩
 |.own i::as,none::ods,ds,v::vs,h,⟨z1,z2⟩=>by
  unfold eZ at h;split at h
  .rename_i d r e1 e2
   cases h;let⟨h1,h2,h3⟩:=kX e2 z2;refine⟨by simp[h1],by simp[h2],λq d' v' q1 q2=>?_⟩;cases q with
   |zero=>cases q1;cases q2;exact .inl ⟨i,rfl,e1,z1⟩
   |succ q=>exact h3 q d' v' q1 q2
  .cases h
 |.val f::as,some d::ods,ds,v::vs,h,⟨z1,z2⟩=>by
  unfold eZ at h;cases e:eZ δ as ods with
  |none=>rw[e]at h;cases h
  |some r=>
   rw[e]at h;cases h;let⟨h1,h2,h3⟩:=kX e z2;refine⟨by simp[h1],by simp[h2],λq d' v' q1 q2=>?_⟩;cases q with
   |zero=>cases q1;cases q2;exact .inr ⟨⟨f,rfl⟩,z1⟩
   |succ q=>exact h3 q d' v' q1 q2
def vQ:∀{is:ZH}{ds:ZI}{δ:DS},(dG is ds δ).length=δ.length
 |[],_,_=>by unfold dG;rfl
 |_::_,[],_=>by unfold dG;rfl
 |i::is,d::ds,δ=>by
  unfold dG;rw[vQ,Î]
def m8:∀{is:ZH}{ds:ZI}{δ:DS}{j:Nat},j∉is->(dG is ds δ)[j]?=δ[j]?
 |[],_,_,_,_=>by unfold dG;rfl
 |_::_,[],_,_,_=>by unfold dG;rfl
 |i::is,d::ds,δ,j,h=>by
  unfold dG;rw[m8 λm=>h (Ó _ m),Ù λe=>h (by rw[e];exact Ô)]
def xA:∀{is:ZH}{ds:ZI}{δ:DS}{j:Nat}{d:D},is.Nodup->is.length=ds.length->j∈is->(dG is ds δ)[j]?=some (some d)->∃t:Nat,is[t]?=some j/\ds[t]?=some d
 |i::is,d::ds,δ,j,d',nd,hl,hm,h=>by
  unfold dG at h;have nd:=List.nodup_cons.mp nd;by_cases e:j=i
  .subst e
   rw[m8 nd.1,ĉ]at h;split at h
   .split at h
    .cases h;exact⟨0,rfl,rfl⟩
    .cases h
   .rename_i z;exact absurd rfl z
  .obtain⟨t,t1,t2⟩:=xA nd.2 (by simpa using hl) ((Ø.mp hm).resolve_left e) h
   exact⟨t+1,t1,t2⟩
section
variable {X:Cx}{Z:cN}{ow:ZH}{pos:Pos}{as:List Arg}{F H:Hp}{σ:St}{δ:DS}{g:ZP}
def DN(as:List Arg)(g:ZP):ZP:=λa=>match g a with
 |some (i,p)=>(iV 0 as i).map λj=>(j,p)
 |none=>none
def UH(as:List Arg)(g g':ZP):ZP:=λa=>match g' a with
 |some (j,p)=>if j=1000 then some (1000,p)else (match as[j]? with|some (.own i)=>some (i,p)|_=>none)
 |none=>match g a with
  |some (i,p)=>if i=1000\/(iV 0 as i).isSome=true then none else some (i,p)
  |none=>none
def aKT{a:Addr}{i j:Nat}{p:ZH}(h:g a=some (i,p))(e:iV 0 as i=some j):DN as g a=some (j,p):=by
 unfold DN;rw[h];dsimp only;rw[e];rfl
def MV(h:DN as g a=some (j,p)):∃i,g a=some (i,p)/\iV 0 as i=some j:=by
 unfold DN at h;cases e:g a with
 |none=>rw[e]at h;cases h
 |some l=>
  let⟨i,q⟩:=l;rw[e]at h;dsimp only at h;cases e2:iV 0 as i with
  |none=>rw[e2]at h;cases h
  |some m=>rw[e2]at h;cases h;exact⟨i,rfl,e2⟩
def UI(S:aP Z ow)(R:cX X.K Z ow g F H σ δ)(hA:rZ X.K F σ as ods vs)(hf:eZ δ as ods=some ds)(hps:fW 0 as=ps)(nd:(aY as).Nodup)(hm:∀q i,as[q]?=some (.own i)->owp.getD q 0=ow.getD i 0)(hlt:as.length<=1000)(T:Ų X.K ps owp rm F H (DN as g) vs F' H' g' outs d v):gF X.K Z ow rm d v F' H' σ (dG (aY as) outs δ):=by
 let⟨l1,l2,hat⟩:=kX hf hA;have keepOut:∀{a:Addr}{i:Nat}{p:ZH},g a=some (i,p)->i∉aY as->DN as g a=none:=λ{a i p}e hi=>by
  cases e1:DN as g a with
  |none=>rfl
  |some l=>
   let⟨j,r⟩:=l;let⟨i',e2,e3⟩:=MV e1;rw[e]at e2;cases e2;let⟨q,e4,_⟩:=kW e3;exact absurd (r9 e4) hi
 have h0:∀a,H a=none->Z.H0 a=none:=λa e=>by
  cases e1:Z.H0 a with
  |none=>rfl
  |some o=>exact absurd e (R.there a (by rw[e1];simp))
 refine⟨UH as g g',⟨T.sub,R.f0.trans' T.s,λb o n e=>?_,λa z1 z2=>T.new a (R.new a z1 z2) (R.there a z2),λb z=>T.there b (R.there b z),λa i p e=>?_,by rw[vQ];exact R.len,R.par,λi d' e=>?_⟩,?_⟩
 .refine T.kept b o ?_ (R.kept b o n e)
  cases e1:DN as g b with
  |none=>rfl
  |some l=>
   let⟨j,r⟩:=l;let⟨i',e2,e3⟩:=MV e1;rcases R.lab b i' r e2 with z|⟨q',z⟩
   .rw[z]at e;cases e
   .rw[z]at n;cases n
 .unfold UH at e
  cases e1:g' a with
  |some l=>
   let⟨j,r⟩:=l;rw[e1]at e;dsimp only at e;rcases T.lab a j r e1 with z|⟨q',z⟩
   .exact .inl (h0 a z)
   .obtain⟨i',z1,z2⟩:=MV z
    let⟨q2,z3,z4,_⟩:=kW z2;have:j=q2:=by lia
    subst this;have hj:j≠1000:=λw=>by
     have:=(Í.mp z3).1;lia
    rw[Ã hj,z3]at e;cases e;exact R.lab a i q' z1
  |none=>
   rw[e1]at e;dsimp only at e;cases e2:g a with
   |none=>rw[e2]at e;cases e
   |some l=>
    let⟨j,r⟩:=l;rw[e2]at e;dsimp only at e;split at e
    .cases e
    .cases e;exact R.lab a i p e2
 .by_cases hi:i∈aY as
  .have hl:(aY as).length=outs.length:=by
    rw[T.olen,<- hps];have:∀(k:Nat)(as:List Arg),(aY as).length=(fW k as).length:=by
     intro k as
     induction as generalizing k with
     |nil=>rfl
     |cons a as ih=>
      cases a with
      |own i=>exact congrArg Nat.succ (ih (k+1))
      |val f=>exact ih (k+1)
    exact this 0 as
   let⟨t,t1,t2⟩:=xA nd hl hi e;have hpos:∃m,ps[t]?=some m:=by
    have:t<ps.length:=by rw[<- T.olen];exact(Í.mp t2).1
    exact⟨ps[t],Ê this⟩
   let⟨m,hm1⟩:=hpos;let⟨v',o1,o2⟩:=T.out t m d' hm1 t2;have e3:=(uG (k:=0) (by rw[hps];exact hm1) t1).1;rw[Nat.sub_zero]at e3;have hlm:m<ds.length:=by
    have:=(Í.mp e3).1;exact õ ‹_› (Eq.symm ‹_›)
   rcases hat m ds[m] v' (Ê hlm) o1 with ⟨s,a1,a2,a3⟩|⟨⟨f,a1⟩,a2⟩
   .rw[e3]at a1;cases a1
    refine⟨v',a3,?_⟩;rw[hm m i e3]at o2;refine o2.relab λa p e4=>?_;unfold UH;rw[e4];dsimp only;have hj:m≠1000:=λw=>by
     have:=(Í.mp e3).1;lia
    rw[Ã hj,e3]
   .rw[e3]at a1;cases a1
  .rw[m8 hi]at e
   let⟨w,w1,o⟩:=R.slot i d' e;refine⟨w,w1,?_⟩;by_cases hz:ow.getD i 0=0
   .rw[hz]at o⊢;exact T.s.rep _ _ o
   .have i1:i<1000:=by
     by_cases hl:i<ow.length
     .exact Ú hl S.ow
     .exact absurd (by rw[Ë,ç (by exact è.mp ‹_›)];rfl) hz
    refine bE.keepJ T.s (λa q u e3 e4 e5=>?_) o;have gn:=keepOut e3 hi;have g'n:g' a=none:=by
     cases e7:g' a with
     |none=>rfl
     |some l=>
      let⟨j,r⟩:=l;rcases T.lab a j r e7 with z|⟨q',z⟩
      .rw[e4]at z;cases z
      .rw[gn]at z;cases z
    refine⟨?_,T.kept a _ gn e4,T.new a e5 (by rw[e4];simp)⟩;unfold UH;rw[g'n,e3];dsimp only;rw[Ã];rintro(z|z)
    .lia
    .cases e8:iV 0 as i with
     |none=>rw[e8]at z;cases z
     |some m=>let⟨q,e9,_⟩:=kW e8;exact hi (r9 e9)
 .refine T.ret.relab λa p e=>?_
  unfold UH;rw[e];exact Â rfl
def MW{fn:ZI->Res D}{ps owp:ZH}{rm:Nat}{ods:List (ZL)}{ds:ZI}{vs:List V}{Q:VK}{E:XK}(S:aP Z ow)(R:cB X.K Z ow F H σ δ)(hA:rZ X.K F σ as ods vs)(hf:eZ δ as ods=some ds)(hps:fW 0 as=ps)(nd:(aY as).Nodup)(hm:∀q i,as[q]?=some (.own i)->owp.getD q 0=ow.getD i 0)(hv:∀q f,as[q]?=some (.val f)->owp.getD q 0=0)(hlt:as.length<=1000)(q:match fn ds with
   |.ok d outs=>∀v H' F',gF X.K Z ow rm d v F' H' σ (dG (aY as) (outs.filterMap id) δ)->aI F F'->Q v H'
   |.stuck=>False):ų X.K ps owp rm fn vs H Q E:=by
 let⟨g,R⟩:=R;let⟨l1,l2,hat⟩:=kX hf hA;refine⟨F,DN as g,ds,R.f0.lm,R.sub,∅,λa i p e=>?_,λi d' v' e1 e2=>?_,?_⟩
 .obtain⟨j,_,e2⟩:=MV e
  let⟨_,_,_,e3⟩:=kW e2;rw[<- hps];exact e3
 .rcases hat i d' v' e1 e2 with ⟨s,a1,a2,a3⟩|⟨⟨f,a1⟩,a2⟩
  .rw[hm i s a1]
   let⟨w,w1,o⟩:=R.slot s d' a2;rw[a3]at w1;cases w1;exact o.relab λa p e=>aKT e (by rw[uH nd a1];simp)
  .rw[hv i f a1];exact a2
 .cases e:fn ds with
  |stuck=>rw[e]at q;exact q
  |ok d outs=>
   rw[e]at q;exact λv H' F' g' T=>q v H' F' (UI S R hA hf hps nd hm hlt T) T.s
def fI(owp ow:ZH):Nat->List Arg->Bool
 |_,[]=>true
 |k,.own i::as=>(owp.getD k 0 == ow.getD i 0) && fI owp ow (k+1) as
 |k,.val _::as=>(owp.getD k 0 == 0) && fI owp ow (k+1) as
def lU :∀{k:Nat}{as:List Arg},fI owp ow k as=true->(∀q i,as[q]?=some (.own i)->owp.getD (k+q) 0=ow.getD i 0)/\(∀q f,as[q]?=some (.val f)->owp.getD (k+q) 0=0)
 |k,[],_=>⟨λq i e=>by simp at e,λq f e=>by simp at e⟩
 |k,.own s::as,h=>by
  unfold fI at h;rw[æ,beq_iff_eq]at h;let⟨h1,h2⟩:=lU h.2;refine⟨λq i e=>?_,λq f e=>?_⟩
  .cases q with
   |zero=>cases e;exact h.1
   |succ q=>have:=h1 q i e;rw[show k+(q+1)=k+1+q by lia];exact this
  .cases q with
   |zero=>cases e
   |succ q=>have:=h2 q f e;rw[show k+(q+1)=k+1+q by lia];exact this
 |k,.val _::as,h=>by
  unfold fI at h;rw[æ,beq_iff_eq]at h;let⟨h1,h2⟩:=lU h.2;refine⟨λq i e=>?_,λq f e=>?_⟩
  .cases q with
   |zero=>cases e
   |succ q=>have:=h1 q i e;rw[show k+(q+1)=k+1+q by lia];exact this
  .cases q with
   |zero=>exact h.1
   |succ q=>have:=h2 q f e;rw[show k+(q+1)=k+1+q by lia];exact this
abbrev SW(K:ZC)(pn:ZG)(ps owp:ZH)(rm:Nat)(fn:ZI->Res D):Sp:=λvs H Q E=>vs.length=pn.length/\ų K ps owp rm fn vs H Q E
def UJ(sp:Sp)(E:St->XK)(t:TA):TE:=λσ H Q=>t σ H λvs H1=>sp vs H1 Q (E σ)
def EX(X:Cx)(σ:St):XK:=λ_ _ _=>False
def UK{p:Pos}(Fk:qH X.prog X.w X.K X.mg X.base (FP X.prog X.w X.K) k f fd pn sp)(hr:fD k X.A)(hg:Gl X x)(hmg:X.mg x=some (.ref f))(hk:W.keepIn X.K (.ref f)=true)(hb:pQ X.K fd pn [])(ha:PA X (e::es) t)(hdb:⇑(Zdb x))(he:↥(Zse e es X.env))(hpl:↥(Zbt pos es X.env)):
  PE X (.Call 'h' (e::es) [] pos) (UJ sp (EX X) t):=by
 intro À s σ H Q I h;refine wpAny_Call_Name_kw (C0 I hg hmg ?_ hdb);refine W.callWith_K (h₀:=X.base) I.ok.mod.kin hk (cA (ha pos À s σ H _ I h) λus s1⟨vs,H1,I1,r,q⟩=>⟨I1.kIn,?_⟩) he hpl;have hl:us.length=pn.length:=by rw[<- r.length];exact Fk.len _ _ _ _ q
 have hb':=hb s1 us I1.kIn (by rw[â];exact hl);rw[â]at hb';refine wpAny_call (codeAny_mono (Fk.run X.A X.stack s1 H1 ⟨us,[]⟩ us vs Q (EX X σ) hr I1.env0 hb' r q) λr s' hq=>?_);cases r with
 |error e=>exact hq.elim
 |ok fl=>
  cases fl with
  |ret u=>exact I1.after hq
  |next=>exact False.elim hq
  |brk=>exact False.elim hq
  |cont=>exact False.elim hq
def GO(S:aP Z ow)(hl:as.length=pn.length)(hps:fW 0 as=ps)(nd:decide (aY as).Nodup=true)(hm:fI owp ow 0 as=true)(hlt:as.length<=1000)(h:tD X Z ow rm (iU fn as) σ H Q):UJ (SW X.K pn ps owp rm fn) (EX X) (ŉ X Z ow as) σ H Q:=by
 let⟨F,δ,R,h⟩:=h;unfold iU at h;sleep 1;let⟨m1,m2⟩:=lU hm;cases e:dH as δ with
 |stuck=>rw[e]at h;exact h.elim
 |ok ods δ1=>
  rw[e]at h;simp![Res.bind]at h;intro vs H1 F1 R1 s1 z;cases e2:eZ δ1 as ods with
  |none=>rw[e2]at h;exact h.elim
  |some ds=>
   rw[e2]at h;dsimp only at h;have l2:=(kX e2 z).2.1;refine⟨by exact Eq.trans ‹_› ‹_›,MW S R1 z e2 hps (of_decide_eq_true nd) (λq i e=>by have:=m1 q i e;rwa [Nat.zero_add]at this) (λq f e=>by have:=m2 q f e;rwa [Nat.zero_add]at this) hlt ?_⟩
   cases e3:fn ds with
   |stuck=>rw[e3]at h;exact h.elim
   |ok d outs=>
    rw[e3]at h;dsimp only at h⊢;exact λv H' F' R' s'=>h v H' F' R' (s1.trans' s')
def aA7{p:Pos}(S:aP Z ow)(Fk:qH X.prog X.w X.K X.mg X.base (FP X.prog X.w X.K) k f fd pn (SW X.K pn ps owp rm fn))(hr:fD k X.A)(hg:Gl X x)(hmg:X.mg x=some (.ref f))(hk:W.keepIn X.K (.ref f)=true)(hb:pQ X.K fd pn [])(ha:DA X Z ow (e::es) as)(hl:↥(as.length=pn.length))(hps:↥(fW 0 as=ps))(nd:↥(decide (aY as).Nodup=true))(hm:↥(fI owp ow 0 as=true))(hlt:⇑(as.length<=1000))(hdb:⇑(Zdb x))(he:↥(Zse e es X.env))(hpl:↥(Zbt pos es X.env)):
  DE X Z ow rm (.Call 'h' (e::es) [] pos) (iU fn as):=PE.mono (UK Fk hr hg hmg hk hb ha hdb he hpl) λ_ _ _ h=>GO S hl hps nd hm hlt h
end
section
variable {X:Cx}{Z:cN}{ow ol ox:ZH}{n rm:Nat}{pos:Pos}{e a b:Expr}{f h:M D}{F H:Hp}{σ:St}{δ:DS}{g:ZP}{K:ZC}
def bE.relabP{g':ZP}(hg:∀a p,g a=some (i,p)->g' a=some (j,q++p))(r:bE K F H g i n p d v):bE K F H g' j n (q++p) d v:=
 iQ.trans (λ_ _ z=>z) (λa p o e1 e2 e3=>⟨hg a p e1,e2,e3⟩) r
def cB.rewrite{a:Addr}(S:aP Z ow)(R:cB K Z ow F H σ δ)(ho:ow.getD i 0=1)(hd:δ[i]?=some (some (.list ds)))(hs:σ[i]?=some (some (.ref a)))(hr:aD K F ds' vs'):
  cB K Z ow F (aV H a (.lst vs')) σ (δ.set i (some (.list ds'))):=by
 let⟨g,R⟩:=R;let⟨v,e1,o⟩:=R.slot i _ hd;rw[hs]at e1;cases e1;rw[ho]at o;let⟨a',ds0,vs0,q1,q2,q3,q4,q5,q6,q7⟩:=o.lst (m:=0);cases q1;cases q2;have hi:i<δ.length:=(Í.mp hd).1;refine⟨g,λb u e=>?_,R.f0,λb u n e=>?_,R.new,λb z=>?_,R.lab,by rw[Î];exact R.len,R.par,λj d e=>?_⟩
 .have:b≠a:=λz=>by rw[z,q5]at e;cases e
  rw[aE this];exact R.sub b u e
 .have:b≠a:=λz=>by
   subst z;rcases R.lab b i [] q3 with w|⟨q,w⟩
   all_goals grind
  rw[aE this];exact R.kept b u n e
 .by_cases hb:b=a
  .subst hb;rw[aJ];simp
  .rw[aE hb];exact R.there b z
 .by_cases hj:j=i
  .subst hj
   rw[ß hi]at e;cases e;refine⟨_,hs,?_⟩;rw[ho];exact bE.mkL (m:=0) ⟨a,ds',vs',rfl,rfl,q3,aJ,q5,hr.len,λk d' v' z1 z2=>hr.both k d' v' z1 z2⟩
  .rw[Ù (Ñ hj)]at e
   let⟨v,e1,o⟩:=R.slot j d e;refine⟨v,e1,o.mono (aI.refl _) (λ_ _ _ e=>e) (λ_ _ _ _ h=>h) λa' l u hl e h=>?_⟩;have:a'≠a:=λz=>by grind
   rw[aE this];exact h
def cB.ownAt{d:D}(R:cB K Z ow F H σ δ)(ho:ow.getD i 0=1)(hd:δ[i]?=some (some d)):∃a ds vs,d=.list ds/\σ[i]?=some (some (.ref a))/\H a=some (.lst vs)/\aD K F ds vs:=by
 let⟨g,R⟩:=R;let⟨v,e1,o⟩:=R.slot i _ hd;rw[ho]at o;let⟨a,ds0,vs0,q1,q2,q3,q4,q5,q6,q7⟩:=o.lst (m:=0);exact⟨a,ds0,vs0,q1,by rw[e1,q2],q4,aD.of q6 q7⟩
def KR(i:Nat)(op:ZI->ZI->Option (D×ZI))(fs:List (M D)):M D:=λδ=>match δ[i]? with
 |some (some _)=>(bA fs δ).bind λargs δ1=>(match δ1[i]? with
  |some (some (.list ds))=>(match op ds args with
   |some (ret,ds')=>.ok ret (δ1.set i (some (.list ds')))
   |none=>.stuck)
  |_=>.stuck)
 |_=>.stuck
def GP(X:Cx)(r:V->List V->Hp->VK->Prop)(op:ZI->ZI->Option (D×ZI)):Prop:=∀(F H:Hp)(l:Addr)(xs vs:List V)(ds args:ZI)(ret:D)(ds':ZI),H l=some (.lst xs)->aI F H->aD X.K F ds xs->aD X.K F args vs->op ds args=some (ret,ds') ->
 ∃xs' rv,aD X.K F ds' xs'/\bD X.K F ret rv/\∀Q:VK,Q rv (aV H l (.lst xs'))->r (.ref l) vs H Q
def aA8(S:aP Z ow)(ho:ow.getD i 0=1)(hm:GP X r op)(h:tD X Z ow 0 (KR i op fs) σ H Q):ů X.K "list" r (FV i) (tV X Z ow fs) σ H Q:=by
 let⟨F,δ,R,h⟩:=h;unfold KR at h;cases e0:δ[i]? with
 |none=>rw[e0]at h;exact h.elim
 |some o=>
  cases o with
  |none=>rw[e0]at h;exact h.elim
  |some d0=>
   rw[e0]at h;dsimp only at h;let⟨a,ds0,vs0,q1,q2,q3,q4⟩:=R.ownAt ho e0;refine⟨_,q2,.inl ⟨rfl,vs0,d8.of q3⟩,F,δ,R,?_⟩;cases e:bA fs δ with
   |stuck=>rw[e]at h;exact h.elim
   |ok args δ1=>
    rw[e]at h;simp![Res.bind]at h;intro vs H1 F1 R1 s1 z;cases e1:δ1[i]? with
    |none=>rw[e1]at h;exact h.elim
    |some o=>
     cases o with
     |none=>rw[e1]at h;exact h.elim
     |some d1=>
      rw[e1]at h;let⟨a',ds1,vs1,p1,p2,p3,p4⟩:=R1.ownAt ho e1;rw[q2]at p2;cases p2;subst p1;dsimp only at h;cases e2:op ds1 args with
      |none=>rw[e2]at h;exact h.elim
      |some rr=>
       let⟨ret,ds'⟩:=rr;rw[e2]at h;dsimp only at h;let⟨xs',rv,w1,w2,w3⟩:=hm F1 H1 a vs1 vs ds1 args ret ds' p3 R1.sub p4 z e2;exact w3 Q (h _ _ F1 ((R1.rewrite S ho e1 q2 w1).x w2) s1)
def qK(i:Nat){x:Str}{p q:Pos}{id:String}(S:aP Z ow)(slot:Slot "list" name id)(hty:typeOf (.builtin id)=pure (.type "method_descriptor"))(hmr:Ĵ X id r)(hm:GP X r op)(ha:DV X Z ow (e::es) fs)(ho:↥(ow.getD i 0=1))(hN:↥(X.N[i]?=some x))(hv:#v[AI X.env.scope x])(hd:⇑(Zdb x))(hcd:⇑(Zcd x))(hbase:↥(attributeBase 'h' name X.env (eval 'h' X.env)=eval 'h' X.env))(hfew:↥(((backTo pos (starEach (e::es) X.env)).all (λx=>!x.1) && (backToKw pos (keywordEach [] X.env)).all (λx=>x.1.isSome)
   && decide ((e::es).length+([]:List Keyword).length+(if ([]:List Keyword).isEmpty then 0 else 1)<30))=true))(hline:↥((q.endLine == pos.line)=true))(hs:↥(Zse e es X.env))(hplain:↥(Zbt pos es X.env)):
  DE X Z ow 0 (.Call (.Attribute 'h' name q) (e::es) [] pos) (KR i op fs):=PE.mono (T6 PySem.F.plainAttrs_list slot hty hmr (c9 hN hv hd hcd) ha hbase hfew hline hs hplain) λ_ _ _ h=>aA8 S ho hm h
def KS:ZI->ZI->Option (D×ZI)
 |ds,[d]=>if ds.length<sizeLine then some (.none,ds++[d])else none
 |_,_=>none
def DP:bD K F .none .non:=by unfold bD;rfl
def qL:GP X MQ KS:=λF H l xs vs ds args ret ds' hl hs h1 h2 e=>by
 unfold KS at e;split at e
 .rename_i d
  split at e
  .rename_i hlt
   cases e;unfold aD at h2;let⟨x,r,rfl,hx,h2⟩:=h2;unfold aD at h2;subst h2;exact⟨xs++[x],.non,h1.app (fS hx iR),DP,λQ q=>⟨l,xs,x,rfl,rfl,hl,by rw[<- h1.len];exact hlt,q⟩⟩
  .cases e
 .cases e
def cE(i:Nat){x:Str}{p q:Pos}(S:aP Z ow)(ha:DE X Z ow 0 e f)(ho:↥(ow.getD i 0=1))(hN:↥(X.N[i]?=some x))(hv:#v[AI X.env.scope x])(hd:⇑(Zdb x))(hcd:⇑(Zcd x))(hbase:↥(attributeBase 'h' "append" X.env (eval 'h' X.env)=eval 'h' X.env))(hfew:↥(((backTo pos (starEach [e] X.env)).all (λx=>!x.1) && (backToKw pos (keywordEach [] X.env)).all (λx=>x.1.isSome)
   && decide ([e].length+([]:List Keyword).length+(if ([]:List Keyword).isEmpty then 0 else 1)<30))=true))(hline:↥((q.endLine == pos.line)=true))(hs:↥(Zse e [] X.env))(hplain:↥(Zbt pos [] X.env)):
  DE X Z ow 0 (.Call (.Attribute 'h' "append" q) [e] [] pos) (KR i KS [f]):=qK i S PySem.F.slot_list_append PySem.F.type_list_append uC qL (aF ha aX hs) ho hN hv hd hcd hbase hfew hline hs hplain
def UL(i:Nat)(fk fv:M D):M Fl:=λδ=>(fv δ).bind λv δ1=>match δ1[i]? with
 |some (some _)=>(fk δ1).bind λk δ2=>(match δ2[i]?,k with
  |some (some (.list ds)),.int k=>(match oE ds.length k with
   |some j=>.ok .next (δ2.set i (some (.list (ds.set j v))))
   |none=>.stuck)
  |_,_=>.stuck)
 |_=>.stuck
def aD.set(h:aD K F ds vs)(j:Nat)(r:bD K F d v):aD K F (ds.set j d) (vs.set j v):=
 aD.of (by rw[Î,Î,h.len]) λk d' v' e1 e2=>by
  by_cases hk:j=k
  .grind
  .rw[Ù hk]at e1 e2
   exact h.both k d' v' e1 e2
def DQ(i:Nat){x:Str}{p:Pos}{spos tpos:Pos}(S:aP Z ow)(hv:DE X Z ow 0 ev fv)(hk:DE X Z ow 0 ek fk)(ho:↥(ow.getD i 0=1))(hN:↥(X.N[i]?=some x))(hvi:#v[AI X.env.scope x])(hd:⇑(Zdb x))(hcd:⇑(Zcd x))(ha: ~~~(∀v,assign (.Subscript 'h' ek tpos) X.env v=(do
   let ov <- holding [v] (eval 'h' X.env);let iv <- holding [v,ov] (eval ek X.env)
   standAt tpos
   holding [v,ov,iv] (setItem ov iv v)
   release [v,ov,iv] [])))(hs:↥(swapsWithSole [.Subscript 'h' ek tpos] ev spos.line X.env=pure false))(hw:↥(swappedStores [.Subscript 'h' ek tpos] ev X.env=pure none))(h1:↥((assignEach [.Subscript 'h' ek tpos] X.env).map (·.2)=[assign (.Subscript 'h' ek tpos) X.env])):
  DJ X Z ow ow ol ox rm (.Assign [.Subscript 'h' ek tpos] ev spos) (UL i fk fv):=PS.mono (TJ hv (TH (c9 hN hvi hd hcd) hk GC ha) hs hw h1) λDn σ H h=>by
 let⟨F,δ,R,h⟩:=h;unfold UL at h;sleep 1;cases e:fv δ with
 |stuck=>rw[e]at h;exact h.elim
 |ok dv δ1=>
  rw[e]at h;simp![Res.bind]at h;intro v H1 F1 R1 s1;cases e0:δ1[i]? with
  |none=>rw[e0]at h;exact h.elim
  |some o=>
   cases o with
   |none=>rw[e0]at h;exact h.elim
   |some d0=>
    rw[e0]at h;dsimp only at h;let⟨a,ds0,vs0,q1,q2,q3,q4⟩:=R1.rel.ownAt ho e0;refine⟨_,q2,F1,δ1,R1.rel,?_⟩;cases e1:fk δ1 with
    |stuck=>rw[e1]at h;exact h.elim
    |ok dk δ2=>
     rw[e1]at h;dsimp only at h;intro kv H2 F2 R2 s2;cases e2:δ2[i]? with
     |none=>rw[e2]at h;exact h.elim
     |some o=>
      cases o with
      |none=>rw[e2]at h;exact h.elim
      |some d1=>
       rw[e2]at h;let⟨a',ds1,vs1,p1,p2,p3,p4⟩:=R2.rel.ownAt ho e2;rw[q2]at p2;cases p2;subst p1;cases dk with
       |int k=>
        dsimp only at h;cases e3:oE ds1.length k with
        |none=>rw[e3]at h;exact h.elim
        |some j=>
         rw[e3]at h;have rk:=R2.rep;unfold bD at rk;subst rk;refine⟨a,vs1,k,j,rfl,rfl,p3,by rw[<- p4.len];exact e3,?_⟩;exact h σ _ F2 (R2.rel.rewrite S ho e2 q2 (p4.set j (s2.rep _ _ R1.rep))) (s1.trans' s2)
       |_=>exact h.elim
def fM(a b:D):ZL:=match b with
 |.int i=>(match a with
  |.list ds=>atI ds i
  |.tuple ds=>atI ds i
  |.str z=>if z.length<=sizeLine then (atI z.cps.toList i).map λc=>.str ⟨#[c]⟩else none
  |_=>none)
 |_=>none
def aD.atI{d:D}(h:aD K F ds vs)(e:L2.atI ds i=some d):∃v,L2.atI vs i=some v/\bD K F d v:=by
 unfold L2.atI at e⊢;rw[<- h.len];cases q:oE ds.length i with
 |none=>rw[q]at e;cases e
 |some j=>
  rw[q]at e;exact h.get e
def aKU:oK X (ζ X.K) 0 fM:=λZ ow F H σ δ a b x y d Q S R ra rb e q=>by
 unfold fM at e;split at e<;>try cases e
 split at e<;>try cases e
 .rename_i i _ ds
  unfold bD at ra rb;let⟨p,xs,rfl,hq,rs⟩:=ra;subst rb;let⟨v,e1,r⟩:=rs.atI e;exact .inl ⟨p,xs,i,v,rfl,rfl,R.sub.seq hq,e1,q v H F (R.x r) (aI.refl _)⟩
 .rename_i i _ ds
  unfold bD at ra rb;let⟨p,xs,rfl,hq,rs⟩:=ra;subst rb;let⟨v,e1,r⟩:=rs.atI e;exact .inr (.inl ⟨p,xs,i,v,rfl,rfl,R.sub.seqT hq,e1,q v H F (R.x r) (aI.refl _)⟩)
 .rename_i i _ z
  unfold bD at ra rb;subst ra rb;split at e
  .rename_i hz
   cases e1:atI z.cps.toList i with
   |none=>rw[e1]at e;cases e
   |some c=>
    rw[e1]at e;cases e;exact .inr (.inr ⟨z,i,c,rfl,rfl,hz,e1,q _ H F (R.x (by unfold bD;rfl)) (aI.refl _)⟩)
  .cases e
def fG(S:aP Z ow)(ha:DE X Z ow 0 a f)(hb:DE X Z ow 0 b h)(hs:oF b:=by exact λ_ _=>rfl):DE X Z ow 0 (.Subscript a b pos) (iF fM f h):=PE.mono (GB aGP ha hb hs) λ_ _ _ q=>DH S aKU q
def UM(i:Nat)(fk:M D):M D:=λδ=>match δ[i]? with
 |some (some _)=>(fk δ).bind λk δ1=>(match δ1[i]? with
  |some (some d)=>(match fM d k with
   |some r=>.ok r δ1
   |none=>.stuck)
  |_=>.stuck)
 |_=>.stuck
def aG1(i:Nat){x:Str}{p:Pos}(hb:DE X Z ow 0 b h)(ho:↥(ow.getD i 0=1))(hN:↥(X.N[i]?=some x))(hv:#v[AI X.env.scope x])(hd:⇑(Zdb x))(hcd:⇑(Zcd x))(hs:oF b:=by exact λ_ _=>rfl):
  DE X Z ow 0 (.Subscript 'h' b pos) (UM i h):=PE.mono (GB rS (c9 hN hv hd hcd) hb hs) λσ H Q q=>by
 let⟨F,δ,R,q⟩:=q;unfold UM at q;cases e0:δ[i]? with
 |none=>rw[e0]at q;exact q.elim
 |some o=>
  cases o with
  |none=>rw[e0]at q;exact q.elim
  |some d0=>
   rw[e0]at q;dsimp only at q;let⟨a,ds0,vs0,q1,q2,q3,q4⟩:=R.ownAt ho e0;refine⟨_,q2,F,δ,R,?_⟩;cases e1:h δ with
   |stuck=>rw[e1]at q;exact q.elim
   |ok dk δ2=>
    rw[e1]at q;simp![Res.bind]at q;intro kv H2 F2 R2 s2;cases e2:δ2[i]? with
    |none=>rw[e2]at q;exact q.elim
    |some o=>
     cases o with
     |none=>rw[e2]at q;exact q.elim
     |some d1=>
      rw[e2]at q;let⟨a',ds1,vs1,p1,p2,p3,p4⟩:=R2.rel.ownAt ho e2;rw[q2]at p2;cases p2;subst p1;cases dk with
      |int k=>
       dsimp![fM]at q;cases e3:atI ds1 k with
       |none=>rw[e3]at q;exact q.elim
       |some r=>
        rw[e3]at q;have rk:=R2.rep;unfold bD at rk;subst rk;let⟨v,w1,w2⟩:=p4.atI e3;exact⟨a,vs1,k,v,rfl,rfl,d8.of p3,w1,q v H2 F2 (R2.rel.x w2) s2⟩
      |_=>exact q.elim
def lV:ZI->ZL
 |[d]=>(match d with
  |.list ds=>some (.int ds.length)
  |.tuple ds=>some (.int ds.length)
  |.str z=>if z.length<=sizeLine then some (.int z.length)else none
  |_=>none)
 |_=>none
def GQ(i:Nat):M D:=λδ=>match δ[i]? with
 |some (some d)=>(match lV [d]with
  |some r=>.ok r δ
  |none=>.stuck)
 |_=>.stuck
def MX(i:Nat){x:Str}{p p2:Pos}(hg:Gl X "len")(hm:X.mg "len"=none)(ho:↥(ow.getD i 0=1))(hN:↥(X.N[i]?=some x))(hv:#v[AI X.env.scope x])(hd:⇑(Zdb x))(hcd:⇑(Zcd x))(he:↥(starEach [.Name x p] X.env=(false,eval 'h' X.env)::starEach [] X.env))(hpl:↥(Zbt pos [] X.env)):DE X Z ow 0 (.Call (.Name "len" p2) [.Name x p] [] pos) (GQ i):=
 PE.mono (rR rT hg hm T8 (dO (c9 hN hv hd hcd) iP he) ⋯ ⋯ he hpl) λσ H Q q=>by
  let⟨F,δ,R,q⟩:=q;unfold GQ at q;cases e0:δ[i]? with
  |none=>rw[e0]at q;exact q.elim
  |some o=>
   cases o with
   |none=>rw[e0]at q;exact q.elim
   |some d0=>
    rw[e0]at q;let⟨a,ds0,vs0,rfl,q2,q3,q4⟩:=R.ownAt ho e0;refine⟨_,q2,a,vs0,rfl,.inl (d8.of q3),?_⟩;dsimp![lV]at q;rw[q4.len]at q;exact q _ H F (R.x (by unfold bD;rfl)) (aI.refl _)
end
section
variable {a:Expr}{h:M D}{F:Hp}{K:ZC}
def gG(h:bD K F (.int i) v):v=.int i:=by unfold bD at h;exact h
def h8(h:bD K F (.str x) v):v=.str x:=by unfold bD at h;exact h
def jO(h:bD K F (.bool x) v):v=.bl x:=by unfold bD at h;exact h
def m9(h:bD K F .none v):v=.non:=by unfold bD at h;exact h
def jI(h:bD K F (.list ds) v):∃(a:Addr)(xs:List V),v=.ref a/\d8 K F a xs/\aD K F ds xs:=by unfold bD at h;exact h
def AO(h:bD K F (.tuple ds) v):∃(a:Addr)(xs:List V),v=.ref a/\rN K F a xs/\aD K F ds xs:=by unfold bD at h;exact h
def gD:bD K F (.int i) (.int i):=by unfold bD;rfl
def BM:bD K F (.str i) (.str i):=by unfold bD;rfl
def iK:bD K F (.bool i) (.bl i):=by unfold bD;rfl
def iD(C:Int->Int->Prop)(g:Int->Int->D):D->D->ZL
 |.int i,.int j=>open Classical in if C i j then some (g i j)else none
 |_,_=>none
def DR(hg:∀F i j,bD X.K F (g' i j) (g i j)):oK X (rI C g) 0 (iD C g'):=λZ ow F H σ δ a b x y d Q S R ra rb e q=>by
 unfold iD at e;split at e
 .rename_i i j
  split at e
  .rename_i hc
   cases e;exact⟨i,j,gG ra,gG rb,hc,q _ H F (R.x (hg F i j)) (aI.refl _)⟩
  .cases e
 .cases e
def Z9(g:Int->Int->D):D->D->ZL
 |.int i,.int j=>some (g i j)
 |_,_=>none
def sA(hg:∀F i j,bD X.K F (g' i j) (g i j)):oK X (TN g) 0 (Z9 g'):=λZ ow F H σ δ a b x y d Q S R ra rb e q=>by
 unfold Z9 at e;split at e
 .rename_i i j
  cases e;exact⟨i,j,gG ra,gG rb,q _ H F (R.x (hg F i j)) (aI.refl _)⟩
 .cases e
def oK.or(h:oK X r n o)(h':oK X r' n o'):oK X (λx y H Q=>r x y H Q\/r' x y H Q) n (λa b=>(o a b).or (o' a b)):=λZ ow F H σ δ a b x y d Q S R ra rb e q=>by
 dsimp only at e;cases e1:o a b with
 |some d'=>
  rw[e1,Option.some_or]at e;cases e;exact .inl (h Z ow F H σ δ a b x y d Q S R ra rb e1 q)
 |none=>
  rw[e1,Option.none_or]at e;exact .inr (h' Z ow F H σ δ a b x y d Q S R ra rb e q)
def DU:D->D->ZL
 |.str i,.str j=>if i.length+j.length<=sizeLine then some (.str (i++j))else none
 |_,_=>none
def KU:D->D->ZL
 |.tuple i,.tuple j=>if i≠[]/\i.length+j.length<=sizeLine then some (.tuple (i++j))else none
 |_,_=>none
def GR:D->D->ZL
 |.list i,.list j=>if i.length+j.length<=sizeLine then some (.list (i++j))else none
 |_,_=>none
instance{l:ZI}:Decidable (l≠[]):=match l with
 |[]=>.isFalse λh=>h rfl
 |_::_=>.isTrue λh=>by cases h
def aG2:oK X (λx y H Q=>∃i j,x=.str i/\y=.str j/\i.length+j.length<=sizeLine/\Q (.str (i++j)) H) 0 DU:=λZ ow F H σ δ a b x y d Q S R ra rb e q=>by
 unfold DU at e;split at e
 .rename_i i j
  split at e
  .rename_i hc
   cases e;exact⟨i,j,h8 ra,h8 rb,hc,q _ H F (R.x BM) (aI.refl _)⟩
  .cases e
 .cases e
def aG3:oK X (Ω X.K) 0 KU:=λZ ow F H σ δ a b x y d Q S R ra rb e q=>by
 unfold KU at e;split at e
 .rename_i i j
  split at e
  .rename_i hc
   cases e;let⟨p,xs,rfl,hp,ha⟩:=AO ra;let⟨p',ys,rfl,hp',hb⟩:=AO rb;refine⟨p,p',xs,ys,rfl,rfl,R.sub.seqT hp,R.sub.seqT hp',λz=>?_,by rw[<- ha.len,<- hb.len];exact hc.2,λz=>?_,λz t ht=>?_⟩
   .have:=ha.len;rw[z]at this;exact hc.1 (List.length_eq_zero_iff.mp this)
   .have hj:j=[]:=by have:=hb.len;rw[z]at this;exact List.length_eq_zero_iff.mp this
    rw[hj,â]at q;exact q _ H F (R.x ra) (aI.refl _)
   .have ft:=R.fnone ht
    exact q _ _ (aV F t (.tup (xs++ys))) ((R.laid ht).x (qI ft (ha.app hb))) (bW ft _)
  .cases e
 .cases e
def P9(l:Addr)(items:Array Value)(n:Nat)(sl:Array (ZN))(b:Addr)(fO:Array Value)(n2:Nat)(sl2:Array (ZN))(hc0:items.size+fO.size<=sizeLine):
  Meets (Builtin.«list.__add__» ⟨[.ref l,.ref b],[]⟩) (λ_ R s=>s.heap.get? l=some ⟨.type "list",none,.seq items n,sl⟩/\s.heap.get? b=some ⟨.type "list",none,.seq fO n2,sl2⟩/\R (.ok (.ret (Value.ref s.heap.objs.size))) {s with heap:=s.heap.push {cls:=Value.type "list",data:=Data.seq (items++fO)},toks:=s.toks}):=
 .of_wp λprog w A R s h=>by
  let⟨hp,g,d,tk,os⟩:=s;let⟨hl,hb,h⟩:=h;have f1:=PySem.AutoSeq1.idx_int;have f2:=PySem.AutoSeq1.sub_tuple_tuple;have f3:=PySem.AutoSeq1.sub_list_list;have f4:=PySem.AutoSeq1.sub_tuple_list;have f5:=PySem.AutoSeq1.sub_list_tuple
  wp_walk using PySem.AutoSeq1.wpAny_loadPart' hl,PySem.AutoSeq1.wpAny_loadPart' hb
  exact⟨_,rfl,h⟩
def QA{prog:Program}{w:World}{A:Around}{E:ZA}{s:Shared}{l b:Addr}{items fO:Array Value}{n n2:Nat}{sl sl2:Array (ZN)}{Q:ZA}(hl:s.heap.get? l=some ⟨.type "list",none,.seq items n,sl⟩)(hb:s.heap.get? b=some ⟨.type "list",none,.seq fO n2,sl2⟩)(h:Q (.ref s.heap.objs.size) {s with heap:=s.heap.push {cls:=.type "list",data:=.seq (items++fO)}})(hsz:items.size+fO.size<=sizeLine):wpAny (model prog w) A (binaryOp .Add (.ref l) (.ref b)) Q E s:=
 concat_meets ⟨_,hl,rfl⟩ ⟨_,hb,rfl⟩ noFill_list_add seq_list_add F.slot_list_add F.entry_list_add (F.args_list_add_2 _ _) (P9 l items n sl b fO n2 sl2 hsz) ⟨hl,hb,h⟩
def ο(K:ZC):R2:=λx y H Q=>∃l b xs zs,x=.ref l/\y=.ref b/\d8 K H l xs/\d8 K H b zs/\xs.length+zs.length<=sizeLine/\∀p,H p=none->Q (.ref p) (aV H p (.lst (xs++zs)))
def MY:j7 X (binaryOp .Add) (ο X.K):=by
 intro À s σ H x y v u Q I rx ry h;let⟨l,b,xs,zs,rfl,rfl,hH,hB,hz,q⟩:=h;cases rx;cases ry;let⟨its,r,⟨o,n,e,c,dn,dd⟩,z⟩:=I.list hH;let⟨its2,r2,⟨o2,n2,e2,c2,dn2,dd2⟩,z2⟩:=I.list hB;let⟨oc,od,oda,osl⟩:=o;let⟨oc2,od2,oda2,osl2⟩:=o2;cases c;cases c2;cases dn;cases dn2;cases dd;cases dd2;have hl:=r.length;have hl2:=r2.length;refine QA e e2 ?_ (by grind);have ea:its.toArray++its2.toArray=(its++its2).toArray:=by simp
 rw[ea];exact⟨.ref _,_,I.lnew (t':=s.toks) (r.append r2) (by grind),rfl,q _ I.fresh⟩
def MZ:oK X (ο X.K) 1 GR:=λZ ow F H σ δ a b x y d Q S R ra rb e q=>by
 unfold GR at e;split at e
 .rename_i i j
  split at e
  .rename_i hc
   cases e;let⟨p,xs,rfl,hp,ha⟩:=jI ra;let⟨p',ys,rfl,hp',hb⟩:=jI rb;exact⟨p,p',xs,ys,rfl,rfl,R.sub.seq hp,R.sub.seq hp',by rw[<- ha.len,<- hb.len];exact hc,λt ht=>q _ _ F (R.newList S ht (ha.app hb)) (aI.refl _)⟩
  .cases e
 .cases e
def oK.fz(h:oK X r n o):oK X r 0 o:=λZ ow F H σ δ a b x y d Q S R ra rb e q=>h Z ow F H σ δ a b x y d Q S R ra rb e λv H' F' R' s=>by
 let⟨F2,s2,R2⟩:=R'.freeze S;exact q v H' F2 R2 (s.trans' s2)
def KW:D->D->ZL:=λa b=>(Z9 (λi j=>.int (i+j)) a b).or ((DU a b).or ((KU a b).or (GR a b)))
def bM(S:aP Z ow)(ha:DE X Z ow 0 a f)(hb:DE X Z ow 0 b h):DE X Z ow 0 (.BinOp a .Add b pos) (iF KW f h):=
 vO S (aGE.or (J9.or (aAY.or MY))) ((sA λ_ _ _=>gD).or (aG2.or (aG3.or MZ.fz))) ha hb
def UN(S:aP Z ow)(ha:DE X Z ow 0 a f)(hb:DE X Z ow 0 b h):DE X Z ow 1 (.BinOp a .Add b pos) (iF GR f h):=vO S MY MZ ha hb
def Ŵ:D->D->ZL:=Z9 λi j=>.int (i-j)
def lW(S:aP Z ow)(ha:DE X Z ow 0 a f)(hb:DE X Z ow 0 b h):DE X Z ow 0 (.BinOp a .Sub b pos) (iF Ŵ f h):=vO S aGF (sA λ_ _ _=>gD) ha hb
def QB:D->D->ZL:=iD IntMulOk λi j=>.int (i*j)
def gH(S:aP Z ow)(ha:DE X Z ow 0 a f)(hb:DE X Z ow 0 b h):DE X Z ow 0 (.BinOp a .Mult b pos) (iF QB f h):=vO S aA2 (DR λ_ _ _=>gD) ha hb
def GS:D->D->ZL:=iD μ λi j=>.int (i.fdiv j)
def DW(S:aP Z ow)(ha:DE X Z ow 0 a f)(hb:DE X Z ow 0 b h):DE X Z ow 0 (.BinOp a .FloorDiv b pos) (iF GS f h):=vO S T9 (DR λ_ _ _=>gD) ha hb
def DX:D->D->ZL:=iD (λ_ j=>j≠0) λi j=>.int (i.fmod j)
def iW(S:aP Z ow)(ha:DE X Z ow 0 a f)(hb:DE X Z ow 0 b h):DE X Z ow 0 (.BinOp a .Mod b pos) (iF DX f h):=vO S aAM (DR λ_ _ _=>gD) ha hb
def UO:D->D->ZL:=iD Ł λi j=>.int (i^j.toNat)
def DY(S:aP Z ow)(ha:DE X Z ow 0 a f)(hb:DE X Z ow 0 b h):DE X Z ow 0 (.BinOp a .Pow b pos) (iF UO f h):=vO S aGG (DR λ_ _ _=>gD) ha hb
def sC(op:D->ZL)(f:M D):M D:=λδ=>(f δ).bind λd δ1=>match op d with
 |some r=>.ok r δ1
 |none=>.stuck
def ŵ:D->ZL
 |.int i=>some (.int (-i))
 |_=>none
def j9(ha:DE X Z ow 0 a f):DE X Z ow 0 (.UnaryOp .USub a pos) (sC ŵ f):=PE.mono (aKA aGH ha) λσ H Q q=>by
 let⟨F,δ,R,q⟩:=q;unfold sC at q;sleep 1;cases e:f δ with
 |stuck=>rw[e]at q;exact q.elim
 |ok d δ1=>
  rw[e]at q;simp![Res.bind]at q;intro v H1 F1 R1 s1;cases d with
  |int i=>exact⟨i,gG R1.rep,q _ H1 F1 (R1.rel.x gD) s1⟩
  |_=>exact q.elim
def BN(f:M D):M D:=λδ=>(f δ).bind λd δ1=>match d with
 |.bool b=>.ok (.bool (!b)) δ1
 |_=>.stuck
def aG6(ha:DE X Z ow 0 a f):DE X Z ow 0 (.UnaryOp .Not a pos) (BN f):=PE.mono (aF6 ha) λσ H Q q=>by
 let⟨F,δ,R,q⟩:=q;unfold BN at q;sleep 1;cases e:f δ with
 |stuck=>rw[e]at q;exact q.elim
 |ok d δ1=>
  rw[e]at q;simp![Res.bind]at q;intro v H1 F1 R1 s1;cases d with
  |bool i=>exact⟨i,jO R1.rep,q _ H1 F1 (R1.rel.x iK) s1⟩
  |_=>exact q.elim
def mO(f g:M D):M D:=λδ=>(f δ).bind λd δ1=>match d with
 |.bool b=>if b=true then g δ1 else .ok (.bool false) δ1
 |_=>.stuck
def UP(f g:M D):M D:=λδ=>(f δ).bind λd δ1=>match d with
 |.bool b=>if b=true then .ok (.bool true) δ1 else g δ1
 |_=>.stuck
def uI(h:DE X Z ow 0 a f):DE X Z ow 0 (.BoolOp op [a] pos) f:=PE.mono (aF4 h) λ_ _ _ q=>q
def uJ{rest:List Expr}(ha:DE X Z ow 0 a f)(hb:DE X Z ow 0 (.BoolOp .And (b::rest) pos) h):DE X Z ow 0 (.BoolOp .And (a::b::rest) pos) (mO f h):=PE.mono (aF5 ha hb) λσ H Q q=>by
 let⟨F,δ,R,q⟩:=q;unfold mO at q;sleep 1;cases e:f δ with
 |stuck=>rw[e]at q;exact q.elim
 |ok d δ1=>
  rw[e]at q;simp![Res.bind]at q;intro v H1 F1 R1 s1;cases d with
  |bool i=>
   refine⟨i,jO R1.rep,?_⟩;dsimp only at q;cases i with
   |true=>rw[Â rfl]at q⊢;exact⟨F1,δ1,R1.rel,q.mono s1 λ_ _ z=>z⟩
   |false=>rw[Ã á]at q⊢;exact q _ H1 F1 (R1.rel.x iK) s1
  |_=>exact q.elim
def aKV{rest:List Expr}(ha:DE X Z ow 0 a f)(hb:DE X Z ow 0 (.BoolOp .Or (b::rest) pos) h):DE X Z ow 0 (.BoolOp .Or (a::b::rest) pos) (UP f h):=PE.mono (aJ1 ha hb) λσ H Q q=>by
 let⟨F,δ,R,q⟩:=q;unfold UP at q;sleep 1;cases e:f δ with
 |stuck=>rw[e]at q;exact q.elim
 |ok d δ1=>
  rw[e]at q;simp![Res.bind]at q;intro v H1 F1 R1 s1;cases d with
  |bool i=>
   refine⟨i,jO R1.rep,?_⟩;dsimp only at q;cases i with
   |true=>rw[Â rfl]at q⊢;exact q _ H1 F1 (R1.rel.x iK) s1
   |false=>rw[Ã á]at q⊢;exact⟨F1,δ1,R1.rel,q.mono s1 λ_ _ z=>z⟩
  |_=>exact q.elim
def aA9{f:M Bool}(ha:DT X Z ow a f):PW X (.BoolOp .And [a] pos) (tT X Z ow f):=aAJ ha
def qM{f:M Bool}(ha:DT X Z ow a f):PW X (.BoolOp .Or [a] pos) (tT X Z ow f):=aF1 ha
def jP{f:M Bool}(h:PW X e (tT X Z ow f)):DT X Z ow e f:=h.pt
def SX:D->D->ZL:=λa b=>if SeqAt.shaped a=true/\SeqAt.shaped b=true then some (.bool (PyData.eqv a b))else none
def DZ:D->D->ZL:=λa b=>if SeqAt.shaped a=true/\SeqAt.shaped b=true then some (.bool (!PyData.eqv a b))else none
def iG:oK X (λx y H Q=>∃d e,bD X.K H d x/\bD X.K H e y/\SeqAt.shaped d=true/\SeqAt.shaped e=true/\Q (.bl (PyData.eqv d e)) H) 0 SX:=λZ ow F H σ δ a b x y d Q S R ra rb e q=>by
 unfold SX at e;split at e
 .rename_i hc
  cases e;exact⟨a,b,R.sub.rep _ _ ra,R.sub.rep _ _ rb,hc.1,hc.2,q _ H F (R.x iK) (aI.refl _)⟩
 .cases e
def sD:oK X (λx y H Q=>∃d e,bD X.K H d x/\bD X.K H e y/\SeqAt.shaped d=true/\SeqAt.shaped e=true/\Q (.bl (!PyData.eqv d e)) H) 0 DZ:=λZ ow F H σ δ a b x y d Q S R ra rb e q=>by
 unfold DZ at e;split at e
 .rename_i hc
  cases e;exact⟨a,b,R.sub.rep _ _ ra,R.sub.rep _ _ rb,hc.1,hc.2,q _ H F (R.x iK) (aI.refl _)⟩
 .cases e
def Ŋ:D->D->ZL:=Z9 λi j=>.bool (decide (i<j))
def Ĩ:D->D->ZL:=Z9 λi j=>.bool (decide (i<=j))
def π:D->D->ZL:=Z9 λi j=>.bool (decide (j<i))
def aPR:D->D->ZL:=Z9 λi j=>.bool (decide (j<=i))
def pX:oK X (TN λi j=>.bl (decide (i<j))) 0 Ŋ:=sA λ_ _ _=>iK
def UQ:oK X (TN λi j=>.bl (decide (i<=j))) 0 Ĩ:=sA λ_ _ _=>iK
def BO:oK X (TN λi j=>.bl (decide (j<i))) 0 π:=sA λ_ _ _=>iK
def Ķ(a b:D):ZL:=match b with
 |.none=>(match a with
  |.none=>some (.bool true)
  |.dict _=>none
  |_=>some (.bool false))
 |.bool d=>(match a with
  |.bool c=>some (.bool (c == d))
  |_=>none)
 |_=>none
def xB(a b:D):ZL:=match b with
 |.none=>(match a with
  |.none=>some (.bool false)
  |.dict _=>none
  |_=>some (.bool true))
 |.bool d=>(match a with
  |.bool c=>some (.bool (c != d))
  |_=>none)
 |_=>none
def ς{d:D}(h:bD K F d v)(hd:d≠.none):v≠.non:=λz=>by
 subst z;cases d with
 |none=>exact hd rfl
 |bool b=>exact absurd (jO h) 'f'
 |int b=>exact absurd (gG h) 'f'
 |str b=>exact absurd (h8 h) 'f'
 |list b=>let⟨_,_,z,_⟩:=jI h;cases z
 |tuple b=>let⟨_,_,z,_⟩:=AO h;cases z
 |dict b=>unfold bD at h;let⟨_,_,z,_⟩:=h;cases z
def τ:oK X (λx y H Q=>(∃c d,x=.bl c/\y=.bl d/\Q (.bl (c == d)) H)\/(y=.non/\Q (.bl (decide (x=.non))) H)) 0 Ķ:=λZ ow F H σ δ a b x y d Q S R ra rb e q=>by
 unfold Ķ at e;split at e
 .split at e
  .cases e
   refine .inr ⟨m9 rb,?_⟩;rw[decide_eq_true (m9 ra)];exact q _ H F (R.x iK) (aI.refl _)
  .cases e
  .cases e
   refine .inr ⟨m9 rb,?_⟩;rw[decide_eq_false (ς ra ‹_›)];exact q _ H F (R.x iK) (aI.refl _)
 .split at e
  .cases e;exact .inl ⟨_,_,jO ra,jO rb,q _ H F (R.x iK) (aI.refl _)⟩
  .cases e
 .cases e
def UR:oK X (λx y H Q=>(∃c d,x=.bl c/\y=.bl d/\Q (.bl (c != d)) H)\/(y=.non/\Q (.bl (!decide (x=.non))) H)) 0 xB:=λZ ow F H σ δ a b x y d Q S R ra rb e q=>by
 unfold xB at e;split at e
 .split at e
  .cases e
   refine .inr ⟨m9 rb,?_⟩;rw[decide_eq_true (m9 ra)];exact q _ H F (R.x iK) (aI.refl _)
  .cases e
  .cases e
   refine .inr ⟨m9 rb,?_⟩;rw[decide_eq_false (ς ra ‹_›)];exact q _ H F (R.x iK) (aI.refl _)
 .split at e
  .cases e;exact .inl ⟨_,_,jO ra,jO rb,q _ H F (R.x iK) (aI.refl _)⟩
  .cases e
 .cases e
def h9(o o':D->D->ZL)(f g k:M D):M D:=λδ=>(f δ).bind λx δ1=>(g δ1).bind λy δ2=>match o x y with
 |some (.bool true)=>(k δ2).bind λz δ3=>(match o' y z with
  |some r=>.ok r δ3
  |none=>.stuck)
 |some (.bool false)=>.ok (.bool false) δ2
 |_=>.stuck
def BP(S:aP Z ow)(os:oK X r 0 o)(os':oK X r' 0 o')(q:tD X Z ow 0 (h9 o o' f h k) σ H Q):J7 r r' (tD X Z ow 0 f) (tD X Z ow 0 h) (tD X Z ow 0 k) σ H Q:=by
 let⟨F,δ,R,q⟩:=q;unfold h9 at q;sleep 1;cases e:f δ with
 |stuck=>rw[e]at q;exact q.elim
 |ok d1 δ1=>
  rw[e]at q;simp![Res.bind]at q;intro x H1 F1 R1 s1;refine⟨F1,δ1,R1.rel,?_⟩;cases e2:h δ1 with
  |stuck=>rw[e2]at q;exact q.elim
  |ok d2 δ2=>
   rw[e2]at q;dsimp only at q;intro y H2 F2 R2 s2;cases e3:o d1 d2 with
   |none=>rw[e3]at q;exact q.elim
   |some d=>
    refine os Z ow F2 H2 σ δ2 d1 d2 x y d _ S R2.rel (s2.rep _ _ R1.rep) R2.rep e3 λv H3 F3 R3 s3=>?_;cases d with
    |bool bb=>
     refine⟨bb,jO R3.rep,?_⟩;cases bb with
     |false=>
      rw[e3]at q;rw[Ã á];exact q _ H3 F3 (R3.rel.x iK) (s1.trans' (s2.trans' s3))
     |true=>
      rw[e3]at q;rw[Â rfl];dsimp only at q;refine⟨F3,δ2,R3.rel,?_⟩;cases e4:k δ2 with
      |stuck=>rw[e4]at q;exact q.elim
      |ok d3 δ3=>
       rw[e4]at q;dsimp only at q;intro z H4 F4 R4 s4;cases e5:o' d2 d3 with
       |none=>rw[e5]at q;exact q.elim
       |some r0=>
        rw[e5]at q;exact os' Z ow F4 H4 σ δ3 d2 d3 y z r0 Q S R4.rel ((s3.trans' s4).rep _ _ R2.rep) R4.rep e5 λv' H' F' R' s'=>q v' H' F' R' (s1.trans' (s2.trans' (s3.trans' (s4.trans' s'))))
    |_=>rw[e3]at q;exact q.elim
def GT(S:aP Z ow)(ho:j7 X (compareOp o1) r)(os:oK X r 0 o)(ho':j7 X (compareOp o2) r')(os':oK X r' 0 o')(ha:DE X Z ow 0 a f)(hb:DE X Z ow 0 b h)(hc:DE X Z ow 0 c k)(hm:lastMarks [o1,o2] [b,c]=false:=by with_unfolding_all rfl):DE X Z ow 0 (.Compare a [o1,o2] [b,c] pos) (h9 o o' f h k):=PE.mono (TU ho ho' ha hb hc hm) λ_ _ _ q=>BP S os os' q
def US(S:aP Z ow)(ho:j7 X (compareOp o1) r)(os:oK X r 0 o)(ho':j7 X (compareOp o2) r')(os':oK X r' 0 o')(ha:DE X Z ow 0 a f)(hb:DE X Z ow 0 b h)(hc:DE X Z ow 0 c k)(hm:lastMarks [o1,o2] [b,c]=false:=by with_unfolding_all rfl):DT X Z ow (.Compare a [o1,o2] [b,c] pos) (dB (h9 o o' f h k)):=PT.mono (TV ho ho' ha hb hc hm) λ_ _ _ q=>BP S os os' (GI q)
end
structure SY(K:ZC)(F:Hp)(J:It)(ds:ZI):Prop where
 go:∀i H,aI F H->i<ds.length->J.go i H
 yld:∀i H x H' d,aI F H->J.yld i H x H'->ds[i]?=some d->(H'=H/\bD K F d x)\/∃p o,H p=none/\H'=aV H p o/\∀F2,aI F F2->F2 p=none->bD K (aV F2 p o) d x
 stop:∀H,aI F H->J.stop ds.length H
def kI(X:Cx)(Z:cN)(ow:ZH)(r:Res (ZI))(F:Hp)(σ:St)(R:It->Hp->Prop):Prop:=match r with
 |.ok ds δ=>∀J H' F',cB X.K Z ow F' H' σ δ->aI F F'->SY X.K F' J ds->R J H'
 |.stuck=>False
def tI(X:Cx)(Z:cN)(ow:ZH)(f:M (ZI)):TI:=λσ H R=>∃F δ,cB X.K Z ow F H σ δ/\kI X Z ow (f δ) F σ R
def DI(X:Cx)(Z:cN)(ow:ZH)(tg e:Expr)(f:M (ZI)):Prop:=PI X tg e (tI X Z ow f)
def PI.mono(h:PI X tg e t)(hm:∀σ H R,t' σ H R->t σ H R):PI X tg e t':=λÀ s σ H R I q=>h À s σ H R I (hm σ H R q)
section
variable {X:Cx}{Z:cN}{ow ol ox:ZH}{n rm:Nat}{pos:Pos}{e tg a b:Expr}{f f':M D}{g:TG}{set:D->DS->Option DS}{K:ZC}{F H:Hp}{σ:St}{δ:DS}
def UT{a:Addr}{xs:List V}{ds:ZI}(h:d8 K F a xs)(r:aD K F ds xs):SY K F (Ħ K a) ds where
 go:=λi H s hi=>⟨xs,xs[i]'(by rw[<- r.len];exact hi),s.seq h,Ê _⟩
 yld:=λi H x H' d s y e=>.inl ⟨y.1,by
  let⟨v,e1,q⟩:=r.get e;have:=y.2 xs (s.seq h);rw[e1]at this;cases this;exact q⟩
 stop:=λH s=>⟨xs,s.seq h,by rw[<- r.len];exact È _⟩
def aBA{a:Addr}{xs:List V}{ds:ZI}(h:rN K F a xs)(r:aD K F ds xs):SY K F (ũ K a) ds where
 go:=λi H s hi=>⟨xs,xs[i]'(by rw[<- r.len];exact hi),s.seqT h,Ê _⟩
 yld:=λi H x H' d s y e=>.inl ⟨y.1,by
  let⟨v,e1,q⟩:=r.get e;have:=y.2 xs (s.seqT h);rw[e1]at this;cases this;exact q⟩
 stop:=λH s=>⟨xs,s.seqT h,by rw[<- r.len];exact È _⟩
def M0{lo:Int}{m:Nat}:SY K F (Ĳ lo m) (jH lo m) where
 go:=λi H s hi=>by rw[fV]at hi;exact hi
 yld:=λi H x H' d s y e=>.inl ⟨y.1,by
  have hi:i<m:=by have:=(Í.mp e).1;rwa [fV]at this
  rw[DM hi]at e;cases e;rw[y.2];exact gD⟩
 stop:=λH s=>by rw[fV];exact È _
def lY(f:M D):M (ZI):=λδ=>(f δ).bind λd δ1=>match d with
 |.list ds=>.ok ds δ1
 |.tuple ds=>.ok ds δ1
 |_=>.stuck
def bO(h:DE X Z ow 0 e f):DI X Z ow tg e (lY f):=(UF h).mono λσ H R q=>by
 let⟨F,δ,Rl,q⟩:=q;unfold lY at q;refine⟨F,δ,Rl,?_⟩;cases e1:f δ with
 |stuck=>rw[e1]at q;exact q.elim
 |ok d δ1=>
  rw[e1]at q;simp![Res.bind]at q;intro v H1 F1 R1 s1;have rp:=R1.rep;cases d with
  |list ds=>
   let⟨a,xs,rfl,hq,ra⟩:=jI rp;exact .inl ⟨a,rfl,⟨xs,R1.rel.sub.seq hq⟩,q _ H1 F1 R1.rel s1 (UT hq ra)⟩
  |tuple ds=>
   let⟨a,xs,rfl,hq,ra⟩:=AO rp;exact .inr ⟨a,rfl,⟨xs,R1.rel.sub.seqT hq⟩,q _ H1 F1 R1.rel s1 (aBA hq ra)⟩
  |_=>exact q.elim
def pG(fs:List (M D)):M (ZI):=λδ=>(bA fs δ).bind λds δ1=>match kR ds with
 |some (lo,n)=>.ok (jH lo n) δ1
 |none=>.stuck
def dL(hgl:Gl X "range")(hm:X.mg "range"=none)(hi:DE X Z ow 0 b f)(hst:↥(Zse b [] X.env)):DI X Z ow tg (.Call (.Name "range" p2) [b] [] p3) (pG [f]):=
 (PY hgl hm (aF hi aX hst) hst).mono λσ H R q=>by
  let⟨F,δ,Rl,q⟩:=q;unfold pG at q;refine⟨F,δ,Rl,?_⟩;cases e1:bA [f] δ with
  |stuck=>rw[e1]at q;exact q.elim
  |ok ds δ1=>
   rw[e1]at q;simp![Res.bind]at q;intro vs H1 F1 R1 s1 ra;cases e2:kR ds with
   |none=>rw[e2]at q;exact q.elim
   |some p=>
    let⟨lo,m⟩:=p;rw[e2]at q;let⟨j,rfl,h1,h2,rfl,rfl⟩:=GK e2 (kU e1);exact⟨j,w8 ra,h1,h2,q _ H1 F1 R1 s1 M0⟩
def QC{p2 p3:Pos}(hgl:Gl X "range")(hm:X.mg "range"=none)(ha:DE X Z ow 0 a f')(hi:DE X Z ow 0 b f)(hst:↥(starEach [a,b] X.env=(false,eval a X.env)::starEach [b] X.env))(hst2:↥(Zse b [] X.env)):
  DI X Z ow tg (.Call (.Name "range" p2) [a,b] [] p3) (pG [f',f]):=
 (PZ hgl hm (aF ha (aF hi aX hst2) hst) (hst.trans (by rw[hst2];rfl)) hst2).mono λσ H R q=>by
  let⟨F,δ,Rl,q⟩:=q;unfold pG at q;refine⟨F,δ,Rl,?_⟩;cases e1:bA [f',f] δ with
  |stuck=>rw[e1]at q;exact q.elim
  |ok ds δ1=>
   rw[e1]at q;simp![Res.bind]at q;intro vs H1 F1 R1 s1 ra;cases e2:kR ds with
   |none=>rw[e2]at q;exact q.elim
   |some p=>
    let⟨lo,m⟩:=p;rw[e2]at q;let⟨i,j,rfl,h1,rfl,rfl⟩:=GL e2 (kU e1);exact⟨lo,j,GM ra,h1,q _ H1 F1 R1 s1 M0⟩
def SY.turn{d:D}(T:SY X.K F1 J ds)(R:cB X.K Z ow F H σ δ)(s:aI F1 F)(y:J.yld i H x H')(e:ds[i]?=some d):∃F',aI F F'/\cB X.K Z ow F' H' σ δ/\bD X.K F' d x:=by
 rcases T.yld i H x H' d (s.trans' R.sub) y e with ⟨rfl,r⟩|⟨p,o,hp,rfl,r⟩
 .exact⟨F,aI.refl _,R,s.rep _ _ r⟩
 .have fp:=R.fnone hp
  exact⟨aV F p o,bW fp o,R.laid hp,r F s fp⟩
def nA(set:D->DS->Option DS)(f:M (ZI))(u:M Fl):M Fl:=λδ=>(f δ).bind λds δ1=>iT set u ds δ1
def D0{f:M (ZI)}(hp:PassesOwn 'b' X.A X.env X.xe)(hc:X.calm=true)(hi:DI X Z ow tg e f)(hg:PG X tg g)(hs:ĵ X Z ow g set)(hb:BI X Z ow ow ow ox rm sts u)(hf: ~~~(Zfi e X.env)):DJ X Z ow ow ol ox rm (.For tg e sts [] pos) (nA set f u):=PS.mono (TL hp hc hi hg hb hf) λDn σ H h=>by
 let⟨F,δ,R,h⟩:=h;unfold nA at h;sleep 1;cases e1:f δ with
 |stuck=>rw[e1]at h;exact h.elim
 |ok ds δ1=>
  rw[e1]at h;simp![Res.bind]at h;intro J H1 F1 R1 s1 T;refine⟨λi m σ H=>m=ds.length-i/\i<=ds.length/\∃F2 δ,cB X.K Z ow F2 H σ δ/\aI F1 F2/\kS X Z ow ol ox rm (iT set u (ds.drop i) δ) F2 Dn,⟨ds.length,rfl,í _,F1,δ1,R1,aI.refl _,h.mono s1⟩,?_⟩;rintro i m σ2 H2 ⟨rfl,hi,F2,δ2,R2,s2,k2⟩;by_cases hlt:i<ds.length
  .refine .inr ⟨T.go i H2 (s2.trans' R2.sub) hlt,λσ' H'=>∃F3 δ,cB X.K Z ow F3 H' σ' δ/\aI F1 F3/\kS X Z ow ol ox rm (iT set u (ds.drop (i+1)) δ) F3 Dn,λσ' H' q=>⟨ds.length-(i+1),∅,rfl,hlt,q⟩,λx H' y=>?_⟩
   have ed:=Ê hlt;let⟨F3,s3,R3,r3⟩:=T.turn R2 s2 y ed;exact aA6 (Pv:=λj σ' H'=>∃F3 δ,cB X.K Z ow F3 H' σ' δ/\aI F1 F3/\kS X Z ow ol ox rm (iT set u (ds.drop j) δ) F3 Dn) hs R3 (s2.trans' s3) (k2.mono s3) ed r3 λk σ H F δ q1 q2 q3=>⟨F,δ,q1,q2,q3⟩
  .have e:i=ds.length:=by lia
   subst e;rw[List.drop_length]at k2;exact .inl ⟨T.stop H2 (s2.trans' R2.sub),k2 σ2 H2 F2 R2 (aI.refl _)⟩
def UU(k:Nat)(g:ZP):ZP:=λa=>match g a with
 |some (i,p)=>if i=1000 then none else some (i+k,p)
 |none=>none
def KY{g:ZP}{a:Addr}(h:UU k g a=some (i,p)):∃j,g a=some (j,p)/\i=j+k/\j≠1000:=by
 unfold UU at h;cases e:g a with
 |none=>rw[e]at h;cases h
 |some l=>
  let⟨j,q⟩:=l;rw[e]at h;dsimp only at h;split at h
  .cases h
  .rename_i hj;cases h;exact⟨j,rfl,rfl,hj⟩
def KZ{k:Nat}{g:ZP}{a:Addr}{j:Nat}{p:ZH}(h:g a=some (j,p))(hj:j≠1000):UU k g a=some (j+k,p):=by
 unfold UU;rw[h];exact Ã hj
def cN.sh(Z:cN)(k:Nat):cN:=⟨Z.F0,Z.H0,UU k Z.g0,Z.ps.map (·+k),List.replicate k none++Z.σ0,List.replicate k 0++Z.owp,λa i q h=>by
 let⟨j,e1,e2,_⟩:=KY h;rw[e2];exact Õ.mpr ⟨j,Z.wf a j q e1,rfl⟩⟩
def lZ:(List.replicate k 0++ow).getD (i+k) 0=ow.getD i 0:=by
 rw[Ë,Ë,ã 'f',î,Ė]
def aP.lt(S:aP Z ow)(h:ow.getD i 0≠0):i<1000:=by
 by_cases hl:i<ow.length
 .exact Ú hl S.ow
 .exact absurd (by rw[Ë,ç (by exact è.mp ‹_›)];rfl) h
def bE.sh{g:ZP}(hi:n=0\/i≠1000)(h:bE K F H g i n p d v):bE K F H (UU k g) (i+k) n p d v:=by
 rcases hi with rfl|hi
 .exact h
 .exact h.relab λa p e=>KZ e hi
def cB.sh(S:aP Z ow)(R:cB K Z ow F H σ δ):cB K (Z.sh k) (List.replicate k 0++ow) F H (List.replicate k none++σ) (List.replicate k none++δ):=by
 let⟨g,R⟩:=R;refine⟨UU k g,R.sub,R.f0,λb o n e=>R.kept b o ?_ e,R.new,R.there,λa i p e=>?_,by simp[R.len],λi hi=>?_,λi d e=>?_⟩
 .cases e1:Z.g0 b with
  |none=>rfl
  |some l=>
   let⟨j,q⟩:=l;have n:UU k Z.g0 b=none:=n;rw[KZ e1 λz=>S.ps (by rw[<- z];exact Z.wf b j q e1)]at n;cases n
 .obtain⟨j,e1,e2,e3⟩:=KY e
  rcases R.lab a j p e1 with z|⟨q,z⟩
  .exact .inl z
  .exact .inr ⟨q,by rw[e2];exact KZ z e3⟩
 .obtain⟨j,hj,rfl⟩:=Õ.mp (show i∈Z.ps.map (·+k)from hi)
  let⟨p1,p2⟩:=R.par j hj;refine⟨?_,?_⟩
  .show (List.replicate k none++σ)[j+k]?=(List.replicate k none++Z.σ0)[j+k]?
   rw[ã 'f',ã 'f',î,Ė];exact p1
  .show (List.replicate k 0++ow).getD (j+k) 0=(List.replicate k 0++Z.owp).getD (j+k) 0
   rw[lZ,lZ];exact p2
 .by_cases hi:i<k
  .rw[ó (by simpa using hi),ÿ]at e
   split at e<;>cases e
  .rw[ã (by simp;exact è.mp ‹_›),î]at e
   let⟨v,e1,o⟩:=R.slot _ d e;obtain⟨j,rfl⟩:∃j,i=j+k:=⟨i-k,∅⟩;rw[Ė]at e1 o;refine⟨v,by rw[ã 'f',î,Ė];exact e1,?_⟩;rw[lZ];refine o.sh ?_;by_cases hz:ow.getD j 0=0
   .exact .inl hz
   .exact .inr (Ï (S.lt hz))
def cB.unsh(S:aP Z ow)(hs:aP (Z.sh k) (List.replicate k 0++ow))(R:cB K (Z.sh k) (List.replicate k 0++ow) F H σ' δ')(hσ:∀i,σ'[i+k]?=σ[i]?)(hl:σ'.length=σ.length+k)(hk:k<=δ'.length):cB K Z ow F H σ (δ'.drop k):=by
 let⟨g,R⟩:=R;have un:∀a i p,(λb=>match g b with|some (j,q)=>if j<k\/j-k=1000 then none else some (j-k,q)|none=>none:ZP) a=some (i,p)->g a=some (i+k,p):=λa i p e=>by
  dsimp only at e;cases e1:g a with
  |none=>rw[e1]at e;cases e
  |some l=>
   let⟨j,q⟩:=l;rw[e1]at e;dsimp only at e;split at e
   .cases e
   .rename_i hj
    cases e;have:j-k+k=j:=by lia
    rw[this]
 have ins:∀a i p,i≠1000->g a=some (i+k,p)->(λb=>match g b with|some (j,q)=>if j<k\/j-k=1000 then none else some (j-k,q)|none=>none:ZP) a=some (i,p):=λa i p hi e=>by
  dsimp only;rw[e];dsimp only;rw[Ã ∅,Ė]
 refine⟨λb=>match g b with|some (j,q)=>if j<k\/j-k=1000 then none else some (j-k,q)|none=>none,R.sub,R.f0,λb o n e=>R.kept b o ?_ e,R.new,R.there,λa i p e=>?_,?_,λi hi=>?_,λi d e=>?_⟩
 .show UU k Z.g0 b=none
  unfold UU;rw[n]
 .rcases R.lab a (i+k) p (un a i p e)with z|⟨q,z⟩
  .exact .inl z
  .obtain⟨j,e1,e2,_⟩:=KY (show UU k Z.g0 a=some (i+k,q)from z)
   have:i=j:=by lia
   rw[this];exact .inr ⟨q,e1⟩
 .rw[ċ,R.len,hl];lia
 .obtain⟨p1,p2⟩:=R.par (i+k) (Õ.mpr ⟨i,hi,rfl⟩)
  have p1:σ'[i+k]?=(List.replicate k none++Z.σ0)[i+k]?:=p1;have p2:(List.replicate k 0++ow).getD (i+k) 0=(List.replicate k 0++Z.owp).getD (i+k) 0:=p2;rw[hσ,ã 'f',î,Ė]at p1;rw[lZ,lZ]at p2;exact⟨p1,p2⟩
 .rw[List.getElem?_drop,Nat.add_comm]at e
  let⟨v,e1,o⟩:=R.slot _ d e;rw[hσ]at e1;rw[lZ]at o;refine⟨v,e1,?_⟩;by_cases hz:ow.getD i 0=0
  .rw[hz]at o⊢;exact o
  .exact o.relab λa p e=>ins a i p (Ï (S.lt hz)) e
def ď(X:Cx)(Z:cN)(ow:ZH)(k:Nat)(g:TG)(set:D->DS->Option DS):Prop:=∀(F H:Hp)(σ:St)(δ δ':DS)(d:D)(v:V)(Q:St->Hp->Prop),cB X.K Z ow F H σ δ->bD X.K F d v->set d δ=some δ'->(∀σ',cB X.K Z ow F H σ' δ'->σ'.length=σ.length->δ'.length=δ.length->(∀i,σ'[i+k]?=σ[i+k]?)->Q σ' H)->g v σ H Q
def nB(S:aP Z ow)(hk:i<k)(hps:i∉Z.ps)(hl:i<ow.length)(h0:ow.getD i 0=0):ď X Z ow k (kM i) (setN i):=λF H σ δ δ' d v Q R r e q=>by
 unfold setN at e;split at e
 .rename_i hi
  cases e;have:=(R.x r).store S hi hps hl;rw[ű h0]at this;exact q _ this 'f' 'f' λj=>Ù ∅
 .cases e
def bP(set:D->DS->Option DS)(t:M Bool)(e:M D):ZI->ZI->DS->Res (ZI)
 |[],acc,δ=>.ok acc δ
 |d::ds,acc,δ=>match set d δ with
  |none=>.stuck
  |some δ1=>(t δ1).bind λb δ2=>if b=true then (e δ2).bind λy δ3=>(if acc.length<sizeLine then bP set t e ds (acc++[y]) δ3 else .stuck)else (if acc.length<sizeLine then bP set t e ds acc δ2 else .stuck)
def eD(k:Nat)(set:D->DS->Option DS)(f:M (ZI))(t:M Bool)(e:M D):M D:=λδ=>(f δ).bind λds δ1=>match bP set t e ds [] (List.replicate k none++δ1)with
 |.ok acc δ2=>if k<=δ2.length then .ok (.list acc) (δ2.drop k)else .stuck
 |_=>.stuck
def aPS(X:Cx)(Z:cN)(ow:ZH)(n:Nat)(r:Res D)(F:Hp)(σ:St)(Q:VK):Prop:=match r with
 |.ok d δ=>∀v H' F',gF X.K Z ow n d v F' H' σ δ->aI F F'->Q v H'
 |_=>False
def ğ(X:Cx)(Z:cN)(ow:ZH)(n:Nat)(f:M D):TE:=λσ H Q=>∃F δ,cB X.K Z ow F H σ δ/\aPS X Z ow n (f δ) F σ Q
def aPT(X:Cx)(Z:cN)(ow:ZH)(r:Res Bool)(F:Hp)(σ:St)(Q:Bool->Hp->Prop):Prop:=match r with
 |.ok b δ=>∀H' F',cB X.K Z ow F' H' σ δ->aI F F'->Q b H'
 |_=>False
def ŋ(X:Cx)(Z:cN)(ow:ZH)(f:M Bool):TT:=λσ H Q=>∃F δ,cB X.K Z ow F H σ δ/\aPT X Z ow (f δ) F σ Q
def GU{k:Nat}{wi:TI}{fi:M (ZI)}{t:M Bool}{fe:M D}{Q:VK}(S:aP Z ow)(Sk:aP (Z.sh k) (List.replicate k 0++ow))(hs:ď X (Z.sh k) (List.replicate k 0++ow) k g set)(q:tD X Z ow 1 (eD k set fi t fe) σ H Q):MS k (tI X Z ow fi) g (ŋ X (Z.sh k) (List.replicate k 0++ow) t) (ğ X (Z.sh k) (List.replicate k 0++ow) 0 fe) σ H Q:=by
 let⟨F,δ,R,q⟩:=q;unfold eD at q;sleep 1;cases e1:fi δ with
 |stuck=>rw[e1]at q;exact q.elim
 |ok ds δ1=>
  rw[e1]at q;simp![Res.bind]at q;intro J H1 F1 R1 s1 T;have hcase:∃acc δ2,bP set t fe ds [] (List.replicate k none++δ1)=.ok acc δ2/\k<=δ2.length/\kD X Z ow 1 (.ok (.list acc) (δ2.drop k)) F σ Q:=by
   cases e2:bP set t fe ds [] (List.replicate k none++δ1)with
   |stuck=>rw[e2]at q;exact q.elim
   |ok acc δ2=>
    rw[e2]at q;dsimp only at q;split at q
    .rename_i hk;exact⟨acc,δ2,rfl,hk,q⟩
    .exact q.elim
  let⟨acc,δ2,e2,hk2,q⟩:=hcase;refine⟨λi m ys σ' H'=>m=ds.length-i/\i<=ds.length/\σ'.length=σ.length+k/\(∀i,σ'[i+k]?=σ[i]?)/\∃F2 δ' acc',cB X.K (Z.sh k) (List.replicate k 0++ow) F2 H' σ' δ'/\aI F1 F2/\aD X.K F2 acc' ys/\bP set t fe (ds.drop i) acc' δ'=.ok acc δ2,
   ⟨ds.length,rfl,í _,by simp;exact Nat.add_comm _ _,λi=>by rw[ã 'f',î,Ė],F1,_,[],R1.sh S,aI.refl _,iR,e2⟩,?_⟩
  rintro i m ys σ2 H2 ⟨rfl,hi,hl2,hσ2,F2,δ',acc',R2,s2,ra,e3⟩;by_cases hlt:i<ds.length
  .have ed:=Ê hlt
   have ee:ds.drop i=ds[i]::ds.drop (i+1):=ñ hlt;rw[ee]at e3;unfold bP at e3;cases e4:set ds[i] δ' with
   |none=>simp![e4]at e3;cases e3
   |some δ3=>
    simp![e4]at e3;have small:acc'.length<sizeLine:=by
     cases e5:t δ3 with
     |stuck=>rw[e5]at e3;cases e3
     |ok bb δ4=>
      rw[e5]at e3;simp![Res.bind]at e3;cases bb with
      |false=>
       rw[Ã á]at e3;split at e3
       .assumption
       .cases e3
      |true=>
       rw[Â rfl]at e3;cases e6:fe δ4 with
       |stuck=>rw[e6]at e3;cases e3
       |ok y δ5=>
        rw[e6]at e3;dsimp only at e3;split at e3
        .assumption
        .cases e3
    refine .inr ⟨T.go i H2 (s2.trans' R2.sub) hlt,by rw[<- ra.len];exact small,λzs σ'' H''=>σ''.length=σ.length+k/\(∀i,σ''[i+k]?=σ[i]?)/\∃F3 δ' acc',cB X.K (Z.sh k) (List.replicate k 0++ow) F3 H'' σ'' δ'/\aI F1 F3/\aD X.K F3 acc' zs/\bP set t fe (ds.drop (i+1)) acc' δ'=.ok acc δ2,λzs σ'' H'' z=>⟨ds.length-(i+1),∅,rfl,hlt,z⟩,λx H3 y=>?_⟩
    let⟨F3,s3,R3,r3⟩:=T.turn R2 s2 y ed;refine hs F3 H3 σ2 δ' δ3 ds[i] x _ R3 r3 e4 λσ3 R4 l3 _ hσ3=>⟨F3,δ3,R4,?_⟩;have hl3:σ3.length=σ.length+k:=by exact Eq.trans ‹_› ‹_›
    have hσ4:∀i,σ3[i+k]?=σ[i]?:=λi=>(hσ3 i).trans (hσ2 i);cases e5:t δ3 with
    |stuck=>rw[e5]at e3;cases e3
    |ok bb δ4=>
     rw[e5]at e3;simp![Res.bind]at e3;intro H5 F5 R5 s5;cases bb with
     |false=>
      rw[Ã á,Â small]at e3;rw[Ã á];exact⟨hl3,hσ4,F5,δ4,acc',R5,s2.trans' (s3.trans' s5),(s3.trans' s5).repAll _ _ ra,e3⟩
     |true=>
      rw[Â rfl]at e3;rw[Â rfl];refine⟨F5,δ4,R5,?_⟩;cases e6:fe δ4 with
      |stuck=>rw[e6]at e3;cases e3
      |ok yd δ5=>
       rw[e6]at e3;dsimp only at e3;rw[Â small]at e3;intro yv H6 F6 R6 s6;exact⟨hl3,hσ4,F6,δ5,acc'++[yd],R6.rel,s2.trans' (s3.trans' (s5.trans' s6)),((s3.trans' (s5.trans' s6)).repAll _ _ ra).app (fS R6.rep iR),e3⟩
  .have e:i=ds.length:=by lia
   subst e;rw[List.drop_length]at e3;unfold bP at e3;cases e3;refine .inl ⟨T.stop H2 (s2.trans' R2.sub),λp hp=>?_⟩;have R7:cB X.K Z ow F2 H2 σ (δ2.drop k):=R2.unsh S Sk hσ2 hl2 hk2;exact q _ _ F2 (R7.newList S hp ra) (s1.trans' s2)
def M1(hK:X'.K=X.K)(h:ğ X Z ow n f σ H Q):tD X' Z ow n f σ H Q:=by
 let⟨F,δ,R,h⟩:=h;refine⟨F,δ,by rw[hK];exact R,?_⟩;cases e:f δ with
 |stuck=>rw[e]at h;exact h
 |ok d δ1=>rw[e]at h;exact λv H' F' R' s=>h v H' F' (by rw[<- hK];exact R') s
def υ{f:M Bool}(hK:X'.K=X.K)(h:ŋ X Z ow f σ H Q):tT X' Z ow f σ H Q:=by
 let⟨F,δ,R,h⟩:=h;refine⟨F,δ,by rw[hK];exact R,?_⟩;cases e:f δ with
 |stuck=>rw[e]at h;exact h
 |ok d δ1=>rw[e]at h;exact λH' F' R' s=>h H' F' (by rw[<- hK];exact R') s
def eE:M Bool:=λδ=>.ok true δ
def bV:SV X [] (tT X Z ow eE):=λÀ s σ H Q I h=>by
 let⟨F,δ,R,h⟩:=h;exact DF À s σ H Q I (h H F R (aI.refl _))
def l0(h:DT X Z ow c t):SV X [c] (tT X Z ow t):=aA4 h
def sE(S:aP Z ow)(Sk:aP (Z.sh xs.length) (List.replicate xs.length 0++ow))(hc:X.calm=true)(hi:DI X Z ow tg iter fi)(hg:∀C fp s H,PG 'g' tg g)(hs:ď X (Z.sh xs.length) (List.replicate xs.length 0++ow) xs.length g set)(hif:∀C fp s H,SV 'g' ifs (tT 'g' (Z.sh xs.length) (List.replicate xs.length 0++ow) t))(he:∀C fp s H,DE 'g' (Z.sh xs.length) (List.replicate xs.length 0++ow) 0 elt fe)(hk:↥(scope.kind=.function))(hok:↥(dR X.N xs scope.names X.env.scope.names=true))(hfs: ~~~(Zfi iter X.env)):
  DE X Z ow 1 (.ListComp elt [⟨tg,iter,ifs,0⟩] scope pos) (eD xs.length set fi t fe):=
 PE.mono (GH (ti:=ŋ X (Z.sh xs.length) (List.replicate xs.length 0++ow) t) (te:=ğ X (Z.sh xs.length) (List.replicate xs.length 0++ow) 0 fe) hc hi hg (λC fp s H À s' σ H' Q I h=>hif C fp s H À s' σ H' Q I (υ (X:=X) (X':=aT X xs scope C fp s H) rfl h)) (λC fp s H=>PE.mono (he C fp s H) λ_ _ _ h=>M1 (X:=X) (X':=aT X xs scope C fp s H) rfl h) hk hok hfs)
  λ_ _ _ q=>GU (wi:=tI X Z ow fi) S Sk hs q
def l5(i:Nat){pos' spos:Pos}(S:aP Z ow)(Sk:aP (Z.sh xs.length) (List.replicate xs.length 0++ow))(hc:X.calm=true)(hN:X.N.Nodup)(hi:DI X Z ow tg iter fi)(hg:∀C fp s H,PG 'g' tg g)(hs:ď X (Z.sh xs.length) (List.replicate xs.length 0++ow) xs.length g set)(hif:∀C fp s H,SV 'g' ifs (tT 'g' (Z.sh xs.length) (List.replicate xs.length 0++ow) t))(he:∀C fp s H,DE 'g' (Z.sh xs.length) (List.replicate xs.length 0++ow) 0 elt fe)(hx:↥(X.N[i]?=some x))(hl:↥(X.env.scope.names.lookup x=some .local))(hps:↥(Z.ps.contains i=false))(hlo:⇑(i<ow.length))(hsw:↥(swapsWith (.ListComp elt [⟨tg,iter,ifs,0⟩] scope pos) (some (.Name x pos')) spos.line X.env=pure true))(hk:↥(scope.kind=.function))(hok:↥(dR X.N xs scope.names X.env.scope.names=true))(hfs: ~~~(Zfi iter X.env)):
  DJ X Z ow (ow.set i 1) ol ox rm (.Assign [.Name x pos'] (.ListComp elt [⟨tg,iter,ifs,0⟩] scope pos) spos) (jG i (eD xs.length set fi t fe)):=
 PS.mono (rY (ti:=ŋ X (Z.sh xs.length) (List.replicate xs.length 0++ow) t) (te:=ğ X (Z.sh xs.length) (List.replicate xs.length 0++ow) 0 fe) hc hN hx hl hi hg (λC fp s H À s' σ H' Q I h=>hif C fp s H À s' σ H' Q I (υ (X:=X) (X':=aT X xs scope C fp s H) rfl h)) (λC fp s H=>PE.mono (he C fp s H) λ_ _ _ h=>M1 (X:=X) (X':=aT X xs scope C fp s H) rfl h) hsw hk hok hfs)
  λDn σ H h=>GU (wi:=tI X Z ow fi) S Sk hs (DK S (cP hps) hlo h)
end
section
variable {X:Cx}{Z:cN}{ow:ZH}{pos:Pos}{e:Expr}{f h:M D}{F:Hp}{K:ZC}
def AQ(h:aD K F [d] vs):∃v,vs=[v]/\bD K F d v:=by
 unfold aD at h;let⟨x,r,rfl,rx,h⟩:=h;unfold aD at h;exact⟨x,by rw[h],rx⟩
def aG8:ę X (λxs H Q=>(∃p ys,xs=[.ref p]/\(d8 X.K H p ys\/rN X.K H p ys)/\Q (.int ys.length) H)\/(∃z,xs=[.str z]/\z.length<=sizeLine/\Q (.int z.length) H)) 0 lV:=λZ ow F H σ δ ds vs d Q S R ra e q=>by
 unfold lV at e;split at e<;>try cases e
 split at e<;>try cases e
 .obtain⟨v,rfl,r⟩:=AQ ra
  let⟨p,xs,rfl,hp,hr⟩:=jI r;rw[hr.len]at q;exact .inl ⟨p,xs,rfl,.inl (R.sub.seq hp),q _ H F (R.x gD) (aI.refl _)⟩
 .obtain⟨v,rfl,r⟩:=AQ ra
  let⟨p,xs,rfl,hp,hr⟩:=AO r;rw[hr.len]at q;exact .inl ⟨p,xs,rfl,.inr (R.sub.seqT hp),q _ H F (R.x gD) (aI.refl _)⟩
 .split at e
  .rename_i hz
   cases e;let⟨v,rfl,r⟩:=AQ ra;obtain rfl:=h8 r;exact .inr ⟨_,rfl,hz,q _ H F (R.x gD) (aI.refl _)⟩
  .cases e
def bQ{p:Pos}(S:aP Z ow)(hg:Gl X "len")(hm:X.mg "len"=none)(ha:DE X Z ow 0 e f)(hs:↥(Zse e [] X.env))(hpl:↥(Zbt pos [] X.env)):DE X Z ow 0 (.Call (.Name "len" p) [e] [] pos) (JW lV [f]):=
 iS S (rT.or DB) aG8 hg hm T8 (aF ha aX hs) ⋯ ⋯ hs hpl
def Ŷ:ZI->ZL
 |[.int i]=>some (.int (if i<0 then -i else i))
 |_=>none
def D1:ę X (λxs H Q=>∃i,xs=[.int i]/\Q (.int (if i<0 then -i else i)) H) 0 Ŷ:=λZ ow F H σ δ ds vs d Q S R ra e q=>by
 unfold Ŷ at e;split at e
 .cases e
  let⟨v,rfl,r⟩:=AQ ra;exact⟨_,by rw[gG r],q _ H F (R.x gD) (aI.refl _)⟩
 .cases e
def M3:ZI->ZL
 |[.list ds]=>some (.list ds)
 |[.tuple ds]=>some (.list ds)
 |_=>none
def D2:ę X (λxs H Q=>∃p ys,xs=[.ref p]/\(d8 X.K H p ys\/rN X.K H p ys)/\∀l,H l=none->Q (.ref l) (aV H l (.lst ys))) 1 M3:=λZ ow F H σ δ ds vs d Q S R ra e q=>by
 unfold M3 at e;split at e
 .cases e
  let⟨v,rfl,r⟩:=AQ ra;let⟨p,xs,rfl,hp,hr⟩:=jI r;exact⟨p,xs,rfl,.inl (R.sub.seq hp),λl hl=>q _ _ F (R.newList S hl hr) (aI.refl _)⟩
 .cases e
  let⟨v,rfl,r⟩:=AQ ra;let⟨p,xs,rfl,hp,hr⟩:=AO r;exact⟨p,xs,rfl,.inr (R.sub.seqT hp),λl hl=>q _ _ F (R.newList S hl hr) (aI.refl _)⟩
 .cases e
inductive Ty where|int|bool|str|list|tuple
def Ty.name:Ty->String
 |.int=>"int"|.bool=>"bool"|.str=>"str"|.list=>"list"|.tuple=>"tuple"
def gA:Ty->D->ZL
 |.int,.int _=>some (.bool true)|.int,.bool _=>some (.bool true)|.bool,.bool _=>some (.bool true)|.str,.str _=>some (.bool true)|.list,.list _=>some (.bool true)|.tuple,.tuple _=>some (.bool true)
 |_,.dict _=>none
 |_,_=>some (.bool false)
def QD(T:Ty):gU X (.builtin "isinstance") (λxs H Q=>∃(x:V)(d:D)(b:Bool),xs=[x,.ty T.name]/\bD X.K H d x/\gA T d=some (.bool b)/\Q (.bl b) H):=by
 intro À s σ H xs us Q I r h;let⟨x,d,b,rfl,rd,hb,q⟩:=h;let⟨u,v,rfl,rx,rc⟩:=TX r;obtain rfl:v=Value.type T.name:=rc;obtain⟨t,G,Z,p,⟨c,e2,e⟩,hx⟩:∃t G,W.KitX X.K u t G/\G s.heap/\(∃c,gA T d=some (.bool c)/\W.kitOne X.K t (.type T.name)=some c)/\u≠.builtin "__main__.__loader__#opaque":=by
  cases d with
  |none=>obtain rfl:=m9 rd;cases (show u=Value.none from rx);exact⟨_,_,W.kitx_none,trivial,by cases T<;>exact⟨_,rfl,rfl⟩,nofun⟩
  |bool y=>obtain rfl:=jO rd;cases (show u=Value.bool y from rx);exact⟨_,_,W.kitx_bool,trivial,by cases T<;>exact⟨_,rfl,rfl⟩,nofun⟩
  |int i=>obtain rfl:=gG rd;let⟨t,q'⟩:=(show ∃t,u=Value.int i t from rx);cases q';exact⟨_,_,W.kitx_int,trivial,by cases T<;>exact⟨_,rfl,rfl⟩,nofun⟩
  |str i=>obtain rfl:=h8 rd;let⟨t,q'⟩:=(show ∃t,u=Value.str i t from rx);cases q';exact⟨_,_,W.kitx_str,trivial,by cases T<;>exact⟨_,rfl,rfl⟩,nofun⟩
  |list ds=>
   let⟨a,xs,rfl,hp,_⟩:=jI rd;cases (show u=Value.ref a from rx);let⟨_,_,⟨o,_,h1,h2,_⟩,_⟩:=I.list hp;exact⟨_,_,W.kitx_list,⟨o,h1,h2⟩,by cases T<;>exact⟨_,rfl,rfl⟩,nofun⟩
  |tuple ds=>
   let⟨a,xs,rfl,hp,_⟩:=AO rd;cases (show u=Value.ref a from rx);let⟨_,_,⟨o,h1,h2,_⟩,_⟩:=I.tuple hp;exact⟨_,_,W.kitx_tuple,⟨o,h1,h2⟩,by cases T<;>exact⟨_,rfl,rfl⟩,nofun⟩
  |dict _=>cases T<;>cases hb
 cases hb.symm.trans e2;exact W.kia_one Z I.kIn p e hx λtk=>⟨.bl b,H,I.tok tk,rfl,q⟩
def iA(T:Ty){x:Str}{p p2:Pos}(hx:x=T.name)(hg:Gl X "isinstance")(hm:X.mg "isinstance"=none)(ă:Gl X x)(hmt:X.mg x=none)(hbt:bootBuiltins x=some (.type T.name))(ha:DE X Z ow 0 e f)(hn:⇑(x≠"__name__"))(hd:⇑(Zdb x))(hs:↥(starEach [e,.Name x p2] X.env=(false,eval e X.env)::starEach [.Name x p2] X.env))(hs2:↥(starEach [.Name x p2] X.env=(false,eval (.Name x p2) X.env)::starEach [] X.env))(hpl:↥((backTo pos (starEach [.Name x p2] X.env)).any (·.1)=false)):
  DE X Z ow 0 (.Call (.Name "isinstance" p) [e,.Name x p2] [] pos) (sC (gA T) f):=
 PE.mono (rR (QD T) hg hm pT (dO ha (dO (UB ă hmt hbt hn hd) iP hs2) hs) ⋯ ⋯ hs hpl) λσ H Q q=>by
  let⟨F,δ,R,q⟩:=q;unfold sC at q;sleep 1;cases e:f δ with
  |stuck=>rw[e]at q;exact q.elim
  |ok d δ1=>
   rw[e]at q;simp![Res.bind]at q;intro v H1 F1 R1 s1;have hb:∀r,gA T d=some r->∃b,r=.bool b:=λr h=>by
    cases T<;>cases d<;>cases h<;>exact⟨_,rfl⟩
   cases e1:gA T d with
   |none=>rw[e1]at q;exact q.elim
   |some r=>
    rw[e1]at q;let⟨b,rfl⟩:=hb r e1;exact⟨v,d,b,rfl,R1.rel.sub.rep _ _ R1.rep,e1,q _ H1 F1 (R1.rel.x iK) s1⟩
def GV(xs:ZI)(lo hi:Option Int):ZI:=(xs.drop (HT.sIx xs.length 0 lo)).take (HT.sIx xs.length xs.length hi-HT.sIx xs.length 0 lo)
def aD.cut(r:aD K F ds vs)(lo hi:Option Int):aD K F (GV ds lo hi) (C5 vs lo hi):=by
 unfold GV C5;rw[r.len];exact(r.drop _).take _
def kB:Option (M D)->M (Option Int)
 |none=>λδ=>.ok none δ
 |some f=>λδ=>(f δ).bind λd δ1=>match d with
  |.int i=>.ok (some i) δ1
  |_=>.stuck
def kO(X:Cx)(Z:cN)(ow:ZH)(r:Res (Option Int))(F:Hp)(σ:St)(Q:Option Int->Hp->Prop):Prop:=match r with
 |.ok o δ=>∀H' F',cB X.K Z ow F' H' σ δ->aI F F'->Q o H'
 |.stuck=>False
def aPU(X:Cx)(Z:cN)(ow:ZH)(f:Option (M D)):TO:=λσ H Q=>∃F δ,cB X.K Z ow F H σ δ/\kO X Z ow (kB f δ) F σ Q
def DO(X:Cx)(Z:cN)(ow:ZH)(e:Option Expr)(f:Option (M D)):Prop:=PO X e (aPU X Z ow f)
def PO.mono(h:PO X o t)(hm:∀σ H Q,t' σ H Q->t σ H Q):PO X o t':=λÀ s σ H Q I q=>h À s σ H Q I (hm σ H Q q)
def oN:DO X Z ow none none:=PO.mono aAW λσ H Q q=>by
 let⟨F,δ,R,q⟩:=q;exact q H F R (aI.refl _)
def jQ(h:DE X Z ow 0 e f):DO X Z ow (some e) (some f):=PO.mono (aAX h) λσ H Q q=>by
 let⟨F,δ,R,q⟩:=q;have q:kO X Z ow ((f δ).bind λd δ1=>match d with|.int i=>.ok (some i) δ1|_=>.stuck) F σ Q:=q;sleep 1;cases e:f δ with
 |stuck=>rw[e]at q;exact q.elim
 |ok d δ1=>
  rw[e]at q;simp![Res.bind]at q;intro v H1 F1 R1 s1;cases d with
  |int i=>exact⟨i,gG R1.rep,q H1 F1 R1.rel s1⟩
  |_=>exact q.elim
def ĩ(op:D->Option Int->Option Int->ZL)(f:M D)(lo hi:Option (M D)):M D:=λδ=>(f δ).bind λd δ1=>(kB lo δ1).bind λl δ2=>(kB hi δ2).bind λu δ3=>match op d l u with
 |some r=>.ok r δ3
 |none=>.stuck
def Ō(X:Cx)(r:V->Option Int->Option Int->Hp->VK->Prop)(n:Nat)(op:D->Option Int->Option Int->ZL):Prop:=∀(Z:cN)(ow:ZH)(F H:Hp)(σ:St)(δ:DS)(a:D)(x:V)(l u:Option Int)(d:D)(Q:VK),aP Z ow->cB X.K Z ow F H σ δ->bD X.K F a x->op a l u=some d ->
 (∀v H' F',gF X.K Z ow n d v F' H' σ δ->aI F F'->Q v H')->r x l u H Q
def nC{lo hi:Option Expr}(S:aP Z ow)(hr:ń X r)(os:Ō X r n op)(he:DE X Z ow 0 e f)(hl:DO X Z ow lo fl)(hu:DO X Z ow hi fh):
  DE X Z ow n (.Subscript e (.Slice lo hi none p2) pos) (ĩ op f fl fh):=PE.mono (F9 hr he hl hu) λσ H Q q=>by
 let⟨F,δ,R,q⟩:=q;unfold ĩ at q;sleep 1;cases e1:f δ with
 |stuck=>rw[e1]at q;exact q.elim
 |ok d δ1=>
  rw[e1]at q;simp![Res.bind]at q;intro v H1 F1 R1 s1;refine⟨F1,δ1,R1.rel,?_⟩;cases e2:kB fl δ1 with
  |stuck=>rw[e2]at q;exact q.elim
  |ok l δ2=>
   rw[e2]at q;dsimp only at q;intro H2 F2 R2 s2;refine⟨F2,δ2,R2,?_⟩;cases e3:kB fh δ2 with
   |stuck=>rw[e3]at q;exact q.elim
   |ok u δ3=>
    rw[e3]at q;dsimp only at q;intro H3 F3 R3 s3;cases e4:op d l u with
    |none=>rw[e4]at q;exact q.elim
    |some r0=>
     rw[e4]at q;exact os Z ow F3 H3 σ δ3 d v l u r0 Q S R3 ((s2.trans' s3).rep _ _ R1.rep) e4 λv' H' F' R' s'=>q v' H' F' R' (s1.trans' (s2.trans' (s3.trans' s')))
def D3:D->Option Int->Option Int->ZL
 |.list ds,l,u=>some (.list (GV ds l u))
 |_,_,_=>none
def D4:Ō X (η X.K) 1 D3:=λZ ow F H σ δ a x l u d Q S R ra e q=>by
 unfold D3 at e;split at e
 .cases e
  let⟨p,xs,rfl,hp,hr⟩:=jI ra;exact⟨p,xs,rfl,R.sub.seq hp,λt ht=>q _ _ F (R.newList S ht (hr.cut l u)) (aI.refl _)⟩
 .cases e
def ō:D->Option Int->Option Int->ZL
 |.tuple ds,l,u=>if HT.sIx ds.length 0 l=0/\HT.sIx ds.length ds.length u=ds.length then none else some (.tuple (GV ds l u))
 |_,_,_=>none
def UV:Ō X (Ψ X.K) 0 ō:=λZ ow F H σ δ a x l u d Q S R ra e q=>by
 unfold ō at e;split at e
 .split at e
  .cases e
  .rename_i hw
   cases e;let⟨p,xs,rfl,hp,hr⟩:=AO ra;rw[hr.len]at hw;refine⟨p,xs,rfl,R.sub.seqT hp,hw,λt ht=>?_⟩;have ft:=R.fnone ht;exact q _ _ (aV F t (.tup (C5 xs l u))) ((R.laid ht).x (qI ft (hr.cut l u))) (bW ft _)
 .cases e
def aG(h1:↥(decide (ow.length<=1000)=true))(h2:↥(Z.ps.contains 1000=false)):aP Z ow:=⟨of_decide_eq_true h1,cP h2⟩
end
def ŷ(x:Str):It:=⟨λi _=>i<x.cps.size,λi H v H'=>H'=H/\∃c,x.cps[i]?=some c/\v=.str ⟨#[c]⟩,λi _=>i=x.cps.size⟩
def UW{K:ZC}(x:Str)(t:Tok)(it:Addr):FX P w K tg (ŷ x) [it] it (λi h=>h.IsStrIter it (strIterType x) x t i):=by
 have hty:strIterType x="str_ascii_iterator"\/strIterType x="str_iterator":=by
  unfold strIterType;split
  .exact .inl rfl
  .exact .inr rfl
 have W:∀A:Around,A.handled=none->Walks P w A it [it] [it] x.cps.size (SignAt x) (λi h=>h.IsStrIter it (strIterType x) x t i):=λA hh=>by
  rcases hty with e|e
  .rw[e];exact Walks.strAscii hh it x t
  .rw[e];exact Walks.strWide hh it x t
 refine⟨by simp,λi h st b hb=>?_,λi h h' st k=>let ⟨o,ho,r⟩:=st;⟨o,k it 'f' o ho,r⟩,?_,?_,λA i s Q E st h=>?_⟩
 .have e:b=it:=by simpa using hb
  subst e;let⟨o,e,c,d⟩:=st;exact⟨o,e,λv z=>by rw[d]at z;cases z⟩
 .intro X hP hw hK hc i À s σ H E I hf st hg
  subst hP hw hK;let⟨f0,f1,f2,f3,f4,f5⟩:=hf it 'f';refine(W X.A (I.ok.hd hc)).item i s _ E hg st λv h' tk hv st' k=>?_;have I1:Inv X À σ H {s with heap:=h',toks:=tk}:=I.turned (t':=tk) (λb o hb e=>k b o (by simpa using hb) e) f0 f1 f3 f4 f5;let⟨c,u,hx,rfl⟩:=hv;let⟨o,e,cl,d⟩:=id st';refine⟨_,rfl,FY (s:={s with heap:=h',toks:=tk}) e cl d (by rcases hty with e|e<;>rw[e]<;>decide) ⟨.str ⟨#[c]⟩,H,I1,⟨u,rfl⟩,⟨rfl,c,hx,rfl⟩,st',λb hb=>(hf b hb).1⟩⟩
 .intro X hP hw hK hc i À s σ H E I hf st hg
  subst hP hw hK;let⟨f0,f1,f2,f3,f4,f5⟩:=hf it 'f';have hg:i=x.cps.size:=hg;subst hg;exact(W X.A (I.ok.hd hc)).done s _ E st λh' tk k=>⟨rfl,I.turned (t':=tk) (λb o hb e=>k b o (by simpa using hb) e) f0 f1 f3 f4 f5⟩
 .have st:s.heap.IsStrIter it (strIterType x) x t i:=st
  rcases hty with e|e
  .rw[e]at st;exact wpAny_pyIter_striter_ascii st h
  .rw[e]at st;exact wpAny_pyIter_striter_wide st h
section
variable {b:Expr}{F:Hp}{K:ZC}
def aNZ(tl:TE):TI:=λσ H R=>tl σ H λx H1=>∃z,x=.str z/\R (ŷ z) H1
def aHA(hl:PE X l tl):PI X tg l (aNZ tl):=by
 intro À s σ H R I h;refine cA (hl À s σ H _ I h) λv s1 zQ=>?_;let⟨x,H1,I1,r1,q1⟩:=zQ;let⟨z,rfl,q⟩:=q1;let⟨t,rfl⟩:=r1;refine wpAny_pyIter_strU ?_;refine⟨s1.heap.objs.size,[s1.heap.objs.size],_,_,H1,rfl,I1.kept (t':=s1.toks) λb o e=>Heap.get?_push_of_some _ e,UW z t _,⟨_,Heap.get?_push_size _ rfl,rfl,rfl⟩,λb hb=>?_,q⟩;have e:b=s1.heap.objs.size:=by simpa using hb
 subst e;exact I1.fpOk (È _) (I1.hok.fresh (È _))
def mP(z:Str):ZI:=z.cps.toList.map λc=>.str ⟨#[c]⟩
def aBD{z:Str}:SY K F (ŷ z) (mP z) where
 go:=λi H s hi=>by
  have:(mP z).length=z.cps.size:=by unfold mP;simp
  rw[this]at hi;exact hi
 yld:=λi H x H' d s y e=>.inl ⟨y.1,by
  let⟨c,hc,rfl⟩:=y.2;unfold mP at e;rw[Ò]at e;have:z.cps.toList[i]?=some c:=by simpa using hc
  rw[this]at e;cases e;exact BM⟩
 stop:=λH s=>by
  show (mP z).length=z.cps.size;unfold mP;simp
def xC(f:M D):M (ZI):=λδ=>(f δ).bind λd δ1=>match d with
 |.str z=>.ok (mP z) δ1
 |_=>.stuck
def aHB(h:DE X Z ow 0 e f):DI X Z ow tg e (xC f):=(aHA h).mono λσ H R q=>by
 let⟨F,δ,Rl,q⟩:=q;unfold xC at q;refine⟨F,δ,Rl,?_⟩;cases e1:f δ with
 |stuck=>rw[e1]at q;exact q.elim
 |ok d δ1=>
  rw[e1]at q;simp![Res.bind]at q;intro v H1 F1 R1 s1;cases d with
  |str z=>exact⟨z,h8 R1.rep,q _ H1 F1 R1.rel s1 aBD⟩
  |_=>exact q.elim
def BQ:j7 X (compareOp .LtE) (λx y H Q=>∃i j,x=.str i/\y=.str j/\Q (.bl (!decide (j.cps.toList<i.cps.toList))) H):=by
 intro À s σ H x y v u Q I rx ry h;let⟨i,j,rfl,rfl,q⟩:=h;let⟨t,rfl⟩:=rx;let⟨t',rfl⟩:=ry;exact PySem.P.le_str ⟨.bl _,H,I,rfl,q⟩
def Ġ:D->D->ZL
 |.str i,.str j=>some (.bool (!decide (j.cps.toList<i.cps.toList)))
 |_,_=>none
def UX:oK X (λx y H Q=>∃i j,x=.str i/\y=.str j/\Q (.bl (!decide (j.cps.toList<i.cps.toList))) H) 0 Ġ:=λZ ow F H σ δ a b x y d Q S R ra rb e q=>by
 unfold Ġ at e;split at e
 .cases e;exact⟨_,_,h8 ra,h8 rb,q _ H F (R.x iK) (aI.refl _)⟩
 .cases e
def bH.bl_at:∀{bs:List Bool}{us:ZJ}{i:Nat}{u:Value},bH (bs.map V.bl) us->us[i]?=some u->∃b,bs[i]?=some b/\u=.bool b
 |[],us,i,u,r,e=>by cases r;simp at e
 |b::bs,_,0,u,.cons r _,e=>by cases e;exact⟨b,rfl,r⟩
 |b::bs,_,i+1,u,.cons _ r,e=>by
  let⟨b',e1,e2⟩:=bH.bl_at (i:=i) r (by simpa using e);exact⟨b',e1,e2⟩
def QE{bs:List Bool}:(List.range bs.length).all (λi=>bs.getD i true)=bs.all id:=by
 rw[Bool.eq_iff_iff,ï,ï];constructor
 .intro h b hb
  let⟨i,hi,e⟩:=List.mem_iff_getElem.mp hb;have:=h i (List.mem_range.mpr hi);rw[Ë,Ê hi]at this;rw[<- e];exact this
 .intro h i hi
  have hi:=List.mem_range.mp hi;rw[Ë,Ê hi];exact h _ (ý hi)
def GW(hc:X.calm=true):gU X (.builtin "all") (λxs H Q=>∃(p:Addr)(bs:List Bool),xs=[.ref p]/\d8 X.K H p (bs.map V.bl)/\Q (.bl (bs.all id)) H):=by
 intro À s σ H xs us Q I r h;let⟨p,bs,rfl,hq,q⟩:=h;let⟨u,rfl,rx⟩:=pO r;cases rx;let⟨its,rv,pl,hz⟩:=I.list hq;refine call_all_walk (wpAny_pyIter_list pl.isList ?_);have hlen:=rv.length;rw[Å]at hlen;have hne:p≠s.heap.objs.size:=by
  let⟨o,n,e,_⟩:=pl;exact Ï (Heap.lt_size e)
 have ph:Inv X À σ H {s with heap:=s.heap.push {cls:=.type "list_iterator",data:=.fields #[.ref p,.int 0 0]}}:=I.kept (t':=s.toks) λb o e=>Heap.get?_push_of_some _ e;let⟨its',rv',pl',_⟩:=ph.list hq;have e1:its=its':=by
  let⟨o,n,e,c,dn,d⟩:=pl;let⟨o',n',e',c',dn',d'⟩:=pl';have e'':=Heap.get?_push_of_some {cls:=.type "list_iterator",data:=.fields #[.ref p,.int 0 0]} e;rw[e'']at e';cases e';rw[d]at d';injection d' with d1 _;simpa using congrArg Array.toList d1
 subst e1;refine⟨s.heap.objs.size,_,_,_,_,_,λi=>bs.getD i true,rfl,Walks.list (A:=X.A.in1) (show X.A.in1.handled=none from I.ok.hd hc) s.heap.objs.size p hne its.toArray,⟨⟨_,Heap.get?_push_size _ rfl,rfl,rfl⟩,pl'.isList⟩,λi v s' Q' E' hv hQ=>?_,λh' tk k=>?_⟩
 .have hv:its.toArray[i]?=some v:=hv
  let⟨b,hb,rfl⟩:=bH.bl_at (i:=i) rv (by simpa using hv);have hQ:Q' (bs.getD i true) s':=hQ;rw[Ë,hb]at hQ;exact wpAny_truthy_bool hQ
 .have sz:its.toArray.size=bs.length:=by simp;exact Eq.symm ‹_›
  rw[sz,QE];have I2:=ph.turned (it:=s.heap.objs.size) (h':=h') (t':=tk) (λb o hb e=>k b o (by simpa using hb) e) (I.hok.fresh (È _)) (Þ I.lt) (.inr I.sz) (λx c e=>by
   let⟨v,q⟩:=I.cell x c e;exact Ï q.lt) λp hp=>Ï (Heap.lt_size (I.pin p hp).1)
  exact⟨.bl _,H,I2,rfl,q⟩
def sF:ZI->Option (List Bool)
 |[]=>some []
 |.bool b::r=>(sF r).map (b::·)
 |_=>none
def BR:∀{ds:ZI}{bs:List Bool}{vs:List V},sF ds=some bs->aD K F ds vs->vs=bs.map V.bl
 |[],bs,vs,h,r=>by
  cases h;unfold aD at r;rw[r];rfl
 |d::ds,bs,vs,h,r=>by
  unfold aD at r;let⟨x,rest,rfl,rx,r⟩:=r;cases d with
  |bool b=>
   have h:(sF ds).map (b::·)=some bs:=h;cases e:sF ds with
   |none=>rw[e]at h;cases h
   |some bs'=>
    rw[e]at h;cases h;rw[jO rx,BR e r];rfl
  |_=>cases h
def Ÿ:ZI->ZL
 |[.list ds]=>(sF ds).map λbs=>.bool (bs.all id)
 |_=>none
def aHE:ę X (λxs H Q=>∃(p:Addr)(bs:List Bool),xs=[.ref p]/\d8 X.K H p (bs.map V.bl)/\Q (.bl (bs.all id)) H) 0 Ÿ:=λZ ow F H σ δ ds vs d Q S R ra e q=>by
 unfold Ÿ at e;split at e
 .rename_i ds'
  cases e1:sF ds' with
  |none=>rw[e1]at e;cases e
  |some bs=>
   rw[e1]at e;cases e;let⟨v,rfl,r⟩:=AQ ra;let⟨p,xs,rfl,hp,hr⟩:=jI r;rw[BR e1 hr]at hp;exact⟨p,bs,rfl,R.sub.seq hp,q _ H F (R.x iK) (aI.refl _)⟩
 .cases e
def oO(hg:Gl X x)(hm:∃t,X.mg x=some (.int i t))(hd:⇑(Zdb x)):DE X Z ow 0 (.Name x pos) (dC (.int i)):=by
 let⟨t,hm⟩:=hm;exact m6 (aAH hg hm (v:=.int i) ⟨t,rfl⟩ hd) λF=>gD
end
theorem QF{K:ZC}(z:FP P w K outer H s (λ_ _ _=>False) e s'):False:=z
end L2
namespace L2
open PySem PySem.Spec
def D5{C:Int->Int->Prop}{g:Int->Int->D}{i j:Int}(h:C i j):iD C g (.int i) (.int j)=some (g i j):=by
 unfold iD;exact Â h
def GX(h:0<j):DX (.int i) (.int j)=some (.int (i % j)):=by
 rw[DX,D5 (by show j≠0;exact Int.ne_of_gt ‹_›),Int.fmod_eq_emod_of_nonneg i (by exact ö ‹_›)]
def QG(h:0<j)(h2:j.natAbs.log2<9000):GS (.int i) (.int j)=some (.int (i/j)):=by
 rw[GS,D5 ⟨by exact Int.ne_of_gt ‹_›,h2⟩,Int.fdiv_eq_ediv_of_nonneg i (by exact ö ‹_›)]
def aBE(h:IntMulOk i j):QB (.int i) (.int j)=some (.int (i*j)):=by rw[QB,D5 h]
def M4(h:Ł i j):UO (.int i) (.int j)=some (.int (i^j.toNat)):=by rw[UO,D5 h]
def aBF:SX (.int i) (.int j)=some (.bool (i == j)):=rfl
def M5:DZ (.int i) (.int j)=some (.bool (!(i == j))):=rfl
def UY:DZ (.bool i) (.bool j)=some (.bool (!(i == j))):=rfl
def xD{e:M D}{g:D->D}{δ:DS}:∀{ds acc:ZI}{o:ZL},(∀d∈ds,e (some d::δ)=.ok (g d) (some d::δ))->acc.length+ds.length<=sizeLine->∃o',bP (setN 0) eE e ds acc (o::δ)=.ok (acc++ds.map g) (o'::δ)
 |[],acc,o,_,_=>⟨o,by simp[bP]⟩
 |d::ds,acc,o,h,hl=>by
  have hd:=h d Ô;rw[Û]at hl;let⟨o',ih⟩:=xD (ds:=ds) (acc:=acc++[g d]) (o:=some d) (λx hx=>h x (Ó _ hx)) (by simp;lia);refine⟨o',?_⟩;unfold bP;have e1:setN 0 d (o::δ)=some (some d::δ):=by simp[setN]
  rw[e1];show Res.bind (eE (some d::δ)) _=_;simp![eE,Res.bind,if_true,hd];rw[Â ∅,ih];simp
def BS{f:M (ZI)}{e:M D}{g:D->D}{δ δ1:DS}{ds:ZI}(hf:f δ=.ok ds δ1)(he:∀d∈ds,e (some d::δ1)=.ok (g d) (some d::δ1))(hl:ds.length<=sizeLine):eD 1 (setN 0) f eE e δ=.ok (.list (ds.map g)) δ1:=by
 unfold eD;rw[hf];let⟨o',h⟩:=xD (acc:=[]) (o:=none) he (by simpa using hl);simp![Res.bind];rw[show List.replicate 1 (none:ZL)++δ1=none::δ1 from rfl,h];simp
def M6{u v:M Fl}{δ δ1:DS}(h:u δ=.ok .next δ1):eK u v δ=v δ1:=by unfold eK;rw[h];rfl
def UZ{u v:M Fl}{δ δ1:DS}{d:D}(h:u δ=.ok (.ret d) δ1):eK u v δ=.ok (.ret d) δ1:=by unfold eK;rw[h];rfl
def GY{n k:Nat}{d:D}(h:(jH lo n)[k]?=some d):k<n/\d=.int (lo+(k:Int)):=by
 have hk:k<n:=by have:=(Í.mp h).1;rwa [fV]at this
 rw[DM hk]at h;cases h;exact⟨hk,rfl⟩
def U0(h:z.length=n)(hn:n<=sizeLine):lV [.str z]=some (.int n):=by
 show (if z.length<=sizeLine then some (PyData.int z.length)else none)=_;rw[Â (by rw[h];exact hn),h]
def aW{k:α->DS->Res β}:(Res.ok a δ).bind k=k a δ:=rfl
def xE{op:D->D->ZL}{f g:M D}{δ δ1 δ2:DS}{a b c:D}(hf:f δ=.ok a δ1)(hg:g δ1=.ok b δ2)(ho:op a b=some c):iF op f g δ=.ok c δ2:=by
 unfold iF;rw[hf,aW,hg,aW,ho]
def D6{op:ZI->ZL}{f:M D}{δ δ1:DS}{a c:D}(hf:f δ=.ok a δ1)(ho:op [a]=some c):JW op [f] δ=.ok c δ1:=by
 unfold JW;rw[show bA [f] δ=.ok [a] δ1 by simp![bA,hf,aW],aW,ho]
def aHF{op:D->ZL}{f:M D}{δ δ1:DS}{a c:D}(hf:f δ=.ok a δ1)(ho:op a=some c):sC op f δ=.ok c δ1:=by
 unfold sC;rw[hf,aW,ho]
def M7{f:M D}{δ δ1:DS}{b:Bool}(hf:f δ=.ok (.bool b) δ1):dB f δ=.ok b δ1:=by
 unfold dB;rw[hf,aW]
def M8{f:M D}{δ δ1:DS}{d:D}(hf:f δ=.ok d δ1):pF f δ=.ok (.ret d) δ1:=by
 unfold pF;rw[hf,aW]
def aHG{c:M Bool}{u v:M Fl}{δ δ1:DS}(h:c δ=.ok true δ1):qJ c u v δ=u δ1:=by unfold qJ;rw[h,aW,Â rfl]
def U1{c:M Bool}{u v:M Fl}{δ δ1:DS}(h:c δ=.ok false δ1):qJ c u v δ=v δ1:=by unfold qJ;rw[h,aW,Ã á]
def aBG{f g:M D}{δ δ1:DS}(h:f δ=.ok (.bool true) δ1):mO f g δ=g δ1:=by unfold mO;rw[h,aW];exact Â rfl
def aBH{f g:M D}{δ δ1:DS}(h:f δ=.ok (.bool false) δ1):mO f g δ=.ok (.bool false) δ1:=by unfold mO;rw[h,aW];exact Ã á
def U2{f:M Bool}{δ δ1:DS}{b:Bool}(h:f δ=.ok b δ1):pV f δ=.ok (!b) δ1:=by unfold pV;rw[h,aW]
def eY{i:Nat}{δ:DS}{d:D}(h:δ[i]?=some (some d)):bF i δ=.ok d δ:=by unfold bF;rw[h]
def vR:dC d δ=.ok d δ:=rfl
def U3(N B C:ZO)(R:D->ZO):Fl->ZO
 |.next,δ=>N δ
 |.brk,δ=>B δ
 |.cont,δ=>C δ
 |.ret d,δ=>R d δ
structure Wt{α:Type}(a:α):Type where
def bN(m:M Fl)(δ:DS)(N:ZO)(B C:ZO)(R:D->ZO)(_w:Wt (N,B,C,R):=⟨⟩):Prop:=match m δ with
 |.ok .next δ'=>N δ'
 |.ok .brk δ'=>B δ'
 |.ok .cont δ'=>C δ'
 |.ok (.ret d) δ'=>R d δ'
 |_=>False
def aU{α:Type}(f:M α)(δ:DS)(Q:α->ZO)(_w:Wt Q:=⟨⟩):Prop:=match f δ with
 |.ok a δ'=>Q a δ'
 |_=>False
section
variable {u:M Fl}{f k:M D}{δ δ1:DS}{N B C:ZO}{R:D->ZO}
def aU.of{f:M α}{a:α}{Q:α->ZO}(h:f δ=.ok a δ1)(q:Q a δ1):aU f δ Q:=by unfold aU;rw[h];exact q
def aU.ex{f:M α}{Q:α->ZO}(h:aU f δ Q):∃a δ1,f δ=.ok a δ1/\Q a δ1:=by
 unfold aU at h;cases e:f δ with
 |ok a δ1=>rw[e]at h;exact⟨a,δ1,rfl,h⟩
 |stuck=>rw[e]at h;exact h.elim
def bN.of{fl:Fl}(h:m δ=.ok fl δ1)(q:U3 N B C R fl δ1):bN m δ N B C R:=by
 unfold bN;rw[h];cases fl<;>exact q
def bN.ex(h:bN m δ N B C R):∃fl δ1,m δ=.ok fl δ1/\U3 N B C R fl δ1:=by
 unfold bN at h;cases e:m δ with
 |ok fl δ1=>rw[e]at h;exact⟨fl,δ1,rfl,by cases fl<;>exact h⟩
 |stuck=>rw[e]at h;exact h.elim
def U4(h:bN u δ (λδ1=>bN v δ1 N B C R) B C R):bN (eK u v) δ N B C R:=by
 let⟨fl,δ1,e,q⟩:=h.ex;cases fl with
 |next=>
  let⟨fl,δ2,e2,q⟩:=bN.ex q;exact .of ((M6 e).trans e2) q
 |brk=>exact .of (fl:=.brk) (by unfold eK;rw[e];rfl) q
 |cont=>exact .of (fl:=.cont) (by unfold eK;rw[e];rfl) q
 |ret d=>exact .of (fl:=.ret d) (UZ e) q
def aHH(h:aU f δ R):bN (pF f) δ N B C R:=by
 let⟨d,δ1,e,q⟩:=h.ex;exact .of (fl:=.ret d) (M8 e) q
def aKX(h:aU c δ λb δ1=>if b=true then bN u δ1 N B C R else bN v δ1 N B C R):bN (qJ c u v) δ N B C R:=by
 let⟨b,δ1,e,q⟩:=h.ex;cases b with
 |true=>
  rw[Â rfl]at q;let⟨fl,δ2,e2,q⟩:=q.ex;exact .of ((aHG e).trans e2) q
 |false=>
  rw[Ã á]at q;let⟨fl,δ2,e2,q⟩:=q.ex;exact .of ((U1 e).trans e2) q
def aBI{set:D->DS->Option DS}(I:Nat->ZO){ds:ZI}(hs:∀(k:Nat)(d:D)(δ:DS),ds[k]?=some d->I k δ->∃δ1,set d δ=some δ1/\bN u δ1 (I (k+1)) N (I (k+1)) R)(hN:∀δ,I ds.length δ->N δ)(h0:I 0 δ):bN (iT set u ds) δ N B C R:=by
 have main:∀(n k:Nat)(δ:DS),k+n=ds.length->I k δ->bN (iT set u (ds.drop k)) δ N B C R:=by
  intro n
  induction n with
  |zero=>
   intro k δ hk h;have:k=ds.length:=by assumption
   subst this;rw[List.drop_length];exact .of (fl:=.next) rfl (hN δ h)
  |succ n ih=>
   intro k δ hk h;have hlt:k<ds.length:=by lia
   let⟨δ1,e1,w⟩:=hs k ds[k] δ (Ê hlt) h;let⟨fl,δ2,e2,q⟩:=w.ex;rw[ñ hlt];cases fl with
   |next=>
    let⟨fl,δ3,e3,q⟩:=(ih (k+1) δ2 ∅ q).ex;exact .of (by unfold iT;rw[e1];simp![e2,aW];exact e3) q
   |cont=>
    let⟨fl,δ3,e3,q⟩:=(ih (k+1) δ2 ∅ q).ex;exact .of (by unfold iT;rw[e1];simp![e2,aW];exact e3) q
   |brk=>exact .of (fl:=.next) (by unfold iT;rw[e1];simp![e2,aW]) q
   |ret d=>exact .of (fl:=.ret d) (by unfold iT;rw[e1];simp![e2,aW]) q
 have:=main ds.length 0 δ (by exact Nat.add_comm _ _) h0
 rwa [List.drop_zero]at this
def cM{set:D->DS->Option DS}{f:M (ZI)}(I:Nat->ZO){ds:ZI}(hf:f δ=.ok ds δ1)(h0:I 0 δ1)(hs:∀(k:Nat)(d:D)(δ:DS),ds[k]?=some d->I k δ->∃δ1,set d δ=some δ1/\bN u δ1 (I (k+1)) N (I (k+1)) R)(hN:∀δ,I ds.length δ->N δ):bN (nA set f u) δ N B C R:=by
 let⟨fl,δ2,e,q⟩:=(aBI (B:=B) (C:=C) I hs hN h0).ex;exact .of (by unfold nA;rw[hf,aW];exact e) q
def U5{set:D->DS->Option DS}{j:Int}(I:Nat->ZO)(hf:f δ=.ok (.int j) δ1)(hj:-(2^62)<=j)(hj2:j<2^62)(h0:I 0 δ1)(hs:∀(k:Nat)(δ:DS),(k:Int)<j->I k δ->∃δ1,set (.int k) δ=some δ1/\bN u δ1 (I (k+1)) N (I (k+1)) R)(hN:∀δ,I j.toNat δ->N δ):bN (nA set (pG [f]) u) δ N B C R:=by
 refine cM (ds:=jH 0 j.toNat) (δ1:=δ1) I ?_ h0 (λk d δ hd hI=>?_) (λδ h=>hN δ (by rwa [fV]at h))
 .simp![pG,bA,hf,aW,kR]
  rw[Â ⟨hj,hj2⟩]
 .obtain⟨hk,rfl⟩:=GY hd
  rw[Int.zero_add];exact hs k δ ∅ hI
def aQ{os:ZI}(h:bN body (ds.map some++List.replicate (m0-ds.length) none) (λ_=>False) (λ_=>False) (λ_=>False) λr δ=>r=d/\h7 δ ps=some os):aR m0 ps rm body ds=.ok d (os.map some):=by
 let⟨fl,δ1,e,q⟩:=h.ex;cases fl with
 |ret r=>
  let⟨rfl,ho⟩:=q;unfold aR;rw[e];dsimp only;rw[ho]
 |next=>exact q.elim
 |brk=>exact q.elim
 |cont=>exact q.elim
end
end L2
namespace L2
open PySem PySem.Spec PyProof.Rows
section
variable {X:Cx}{Z:cN}{ow:ZH}{k:M D}{F H:Hp}{σ:St}{δ:DS}{K:ZC}
def aHI:M Fl:=λ_=>.stuck
def fX{st:Stmt}:DJ X Z ow ow' ol ox rm st aHI:=PS.mono TC λDn σ H h=>by
 let⟨F,δ,R,h⟩:=h;exact h.elim
def Ź(set:D->DS->Option DS)(f:M D):M Fl:=λδ=>(f δ).bind λd δ1=>match set d δ1 with
 |some δ2=>.ok .next δ2
 |none=>.stuck
def bH.int_at:∀{ns:ZK}{us:ZJ}{i:Nat}{u:Value},bH (ns.map V.int) us->us[i]?=some u->∃m t,ns[i]?=some m/\u=.int m t
 |[],_,i,u,.nil,h=>by simp at h
 |m::ns,_,0,u,.cons r rr,h=>by
  let⟨t,rfl⟩:=r;cases h;exact⟨m,t,rfl,rfl⟩
 |m::ns,_,i+1,u,.cons r rr,h=>by
  let⟨m',t,h1,h2⟩:=bH.int_at (i:=i) rr (by simpa using h);exact⟨m',t,by simpa using h1,h2⟩
def vS{ns:ZK}:∀{j:Nat},j<=ns.length->preSum (λi=>ns.getD i 0) j=(ns.take j).sum
 |0,_=>rfl
 |j+1,h=>by
  show preSum (λi=>ns.getD i 0) j+ns.getD j 0=_;have e1:ns.getD j 0=ns[j]:=by rw[Ë,Ê (by assumption)];rfl
  have e2:ns.take (j+1)=ns.take j++[ns[j]]:=by rw[List.take_add_one,Ê (by assumption)];rfl
  rw[vS (Nat.le_of_succ_le h),e1,e2,List.sum_append];simp![List.sum_cons,List.sum_nil,Int.add_zero]
def D7(hc:X.calm=true):gU X (.builtin "sum") (λxs H Q=>∃(p:Addr)(ns:ZK),xs=[.ref p]/\d8 X.K H p (ns.map V.int)/\Q (.int ns.sum) H):=by
 intro À s σ H xs us Q I r h;let⟨p,ns,rfl,hq,q⟩:=h;let⟨u,rfl,rx⟩:=pO r;cases rx;let⟨its,rv,pl,hz⟩:=I.list hq;refine call_sum_walkAnyS (wpAny_pyIter_list pl.isList ?_);have hlen:=rv.length;rw[Å]at hlen;have hne:p≠s.heap.objs.size:=by
  let⟨o,n,e,_⟩:=pl;exact Ï (Heap.lt_size e)
 have ph:Inv X À σ H {s with heap:=s.heap.push {cls:=.type "list_iterator",data:=.fields #[.ref p,.int 0 0]}}:=I.kept (t':=s.toks) λb o e=>Heap.get?_push_of_some _ e;let⟨its',rv',pl',_⟩:=ph.list hq;have e1:its=its':=by
  let⟨o,n,e,c,dn,d⟩:=pl;let⟨o',n',e',c',dn',d'⟩:=pl';have e'':=Heap.get?_push_of_some {cls:=.type "list_iterator",data:=.fields #[.ref p,.int 0 0]} e;rw[e'']at e';cases e';rw[d]at d';injection d' with d1 _;simpa using congrArg Array.toList d1
 subst e1;refine⟨s.heap.objs.size,_,_,_,_,_,_,λi=>ns.getD i 0,rfl,(Walks.list (A:=X.A.in1) (show X.A.in1.handled=none from I.ok.hd hc) s.heap.objs.size p hne its.toArray).toS,⟨⟨_,Heap.get?_push_size _ rfl,rfl,rfl⟩,pl'.isList⟩,λb hb=>?_,λi v hv=>?_,λs' t' mv=>?_⟩
 .have hb:b∈[s.heap.objs.size,p]:=hb
  have z:(s.heap.push {cls:=.type "list_iterator",data:=.fields #[.ref p,.int 0 0]}).objs.size=s.heap.objs.size+1:=by simp[Heap.push]
  show b<(s.heap.push _).objs.size;rw[z];simp![Ø,ì,or_false]at hb;rcases hb with rfl|rfl
  .exact ð _
  .obtain⟨o,n,e,_⟩:=pl
   exact Nat.lt_succ_of_lt (Heap.lt_size e)
 .have hv:its.toArray[i]?=some v:=hv
  let⟨m,t,hb,rfl⟩:=bH.int_at (i:=i) rv (by simpa using hv);refine⟨t,?_⟩;show _=Value.int (ns.getD i 0) t;rw[Ë,hb];rfl
 .have sz:its.toArray.size=ns.length:=by simp;exact Eq.symm ‹_›
  rw[sz,vS (È _),List.take_length];let⟨h',g',d',t2,o'⟩:=s';obtain rfl:g'=s.gens:=mv.gens;obtain rfl:d'=s.drawn:=mv.drawn;obtain rfl:o'=s.os:=mv.os;have I2:=ph.turned (it:=s.heap.objs.size) (h':=h') (t':=t2) (λb o hb e=>mv.heap b o (by simpa using hb) e) (I.hok.fresh (È _)) (Þ I.lt) (.inr I.sz) (λx c e=>by
   let⟨v,q⟩:=I.cell x c e;exact Ï q.lt) λp hp=>Ï (Heap.lt_size (I.pin p hp).1)
  exact⟨.int _,H,I2,⟨t',rfl⟩,q⟩
def cQ:ZI->Option (ZK)
 |[]=>some []
 |.int i::r=>(cQ r).map (i::·)
 |_=>none
def iX:cQ (l.map .int)=some l:=by
 induction l with
 |nil=>rfl
 |cons a l ih=>show (cQ (l.map .int)).map (a::·)=_;rw[ih];rfl
def iY:∀{ds:ZI}{bs:ZK}{vs:List V},cQ ds=some bs->aD K F ds vs->vs=bs.map V.int
 |[],bs,vs,h,r=>by
  cases h;unfold aD at r;rw[r];rfl
 |d::ds,bs,vs,h,r=>by
  unfold aD at r;let⟨x,rest,rfl,rx,r⟩:=r;cases d with
  |int b=>
   have h:(cQ ds).map (b::·)=some bs:=h;cases e:cQ ds with
   |none=>rw[e]at h;cases h
   |some bs'=>
    rw[e]at h;cases h;rw[gG rx,iY e r];rfl
  |_=>cases h
def Ŏ:ZI->ZL
 |[.list ds]=>(cQ ds).map λbs=>.int bs.sum
 |_=>none
def aHK:ę X (λxs H Q=>∃(p:Addr)(ns:ZK),xs=[.ref p]/\d8 X.K H p (ns.map V.int)/\Q (.int ns.sum) H) 0 Ŏ:=λZ ow F H σ δ ds vs d Q S R ra e q=>by
 unfold Ŏ at e;split at e
 .rename_i ds'
  cases e1:cQ ds' with
  |none=>rw[e1]at e;cases e
  |some bs=>
   rw[e1]at e;cases e;let⟨v,rfl,r⟩:=AQ ra;let⟨p,xs,rfl,hp,hr⟩:=jI r;rw[iY e1 hr]at hp;exact⟨p,bs,rfl,R.sub.seq hp,q _ H F (R.x gD) (aI.refl _)⟩
 .cases e
def K0:D->Option V
 |.int i=>some (.int i)
 |.bool b=>some (.bl b)
 |.str z=>some (.str z)
 |.none=>some .non
 |_=>none
def K2:ZI->Option (List V)
 |[]=>some []
 |d::ds=>match K0 d,K2 ds with
  |some v,some vs=>some (v::vs)
  |_,_=>none
def wA(h:K0 d=some v)(r:bD K F d x):x=v/\pR v=true:=by
 cases d with
 |int i=>cases h;exact⟨gG r,rfl⟩
 |bool b=>cases h;exact⟨jO r,rfl⟩
 |str z=>cases h;exact⟨h8 r,rfl⟩
 |none=>cases h;unfold bD at r;exact⟨r,rfl⟩
 |_=>cases h
def xF:∀{ds:ZI}{vs xs:List V},K2 ds=some vs->aD K F ds xs->xs=vs/\vs.all pR=true
 |[],vs,xs,h,r=>by
  cases h;unfold aD at r;exact⟨r,rfl⟩
 |d::ds,vs,xs,h,r=>by
  unfold aD at r;let⟨x,rest,rfl,rx,r⟩:=r;unfold K2 at h;split at h
  .rename_i v vs' e1 e2
   cases h;let⟨rfl,f1⟩:=wA e1 rx;let⟨rfl,f2⟩:=xF e2 r;exact⟨rfl,by rw[List.all_cons,f1,f2];rfl⟩
  .cases h
def ġ(neg:Bool):D->D->ZL
 |a,.list ds=>match K0 a,K2 ds with
  |some x,some xs=>some (.bool (if neg then !Ę x xs else Ę x xs))
  |_,_=>none
 |a,.tuple ds=>match K0 a,K2 ds with
  |some x,some xs=>some (.bool (if neg then !Ę x xs else Ę x xs))
  |_,_=>none
 |_,_=>none
def aHM:oK X (θ X.K neg) 0 (ġ neg):=λZ ow F H σ δ a b x y d Q S R ra rb e q=>by
 unfold ġ at e;split at e
 .split at e
  .rename_i v vs e1 e2
   cases e;let⟨p,xs,rfl,hp,hr⟩:=jI rb;let⟨rfl,f1⟩:=wA e1 ra;let⟨rfl,f2⟩:=xF e2 hr;exact⟨p,_,rfl,.inl (R.sub.seq hp),f1,f2,q _ H F (R.x iK) (aI.refl _)⟩
  .cases e
 .split at e
  .rename_i v vs e1 e2
   cases e;let⟨p,xs,rfl,hp,hr⟩:=AO rb;let⟨rfl,f1⟩:=wA e1 ra;let⟨rfl,f2⟩:=xF e2 hr;exact⟨p,_,rfl,.inr (R.sub.seqT hp),f1,f2,q _ H F (R.x iK) (aI.refl _)⟩
  .cases e
 .cases e
def xG{k:Nat}(S:aP Z ow):∀(is:ZH)(t:TD),(∀i∈is,i<k/\i∉Z.ps/\i<ow.length/\ow.getD i 0=0)->t=is.foldr (λi u=>FW (kM i) u) TF ->
  ∀(F H:Hp)(σ:St)(δ δ':DS)(ds:ZI)(vs:List V)(Q:St->Hp->Prop),cB X.K Z ow F H σ δ->aD X.K F ds vs->ds.length=is.length ->
   (is.zip ds).foldl (λ(o:Option DS)(p:Nat×D)=>o.bind λδ=>setN p.1 p.2 δ) (some δ)=some δ'->(∀σ',cB X.K Z ow F H σ' δ'->σ'.length=σ.length->δ'.length=δ.length->(∀i,σ'[i+k]?=σ[i+k]?)->Q σ' H)->t vs σ H Q
 |[],t,hi,ht,F,H,σ,δ,δ',ds,vs,Q,R,ra,hl,e,q=>by
  subst ht;cases ds with
  |cons _ _=>simp at hl
  |nil=>
   unfold aD at ra;cases e;exact⟨ra,q σ R rfl rfl λ_=>rfl⟩
 |i::is,t,hi,ht,F,H,σ,δ,δ',ds,vs,Q,R,ra,hl,e,q=>by
  subst ht;cases ds with
  |nil=>simp at hl
  |cons d ds=>
   unfold aD at ra;let⟨x,rest,rfl,rx,r⟩:=ra;rw[ä,List.foldl_cons]at e;cases e1:setN i d δ with
   |none=>
    rw[show ((some δ:Option DS).bind λδ=>setN (i,d).1 (i,d).2 δ)=none from e1]at e;have:∀l:List (Nat×D),l.foldl (λ(o:Option DS)(p:Nat×D)=>o.bind λδ=>setN p.1 p.2 δ) none=none:=λl=>by induction l with|nil=>rfl|cons a l ih=>exact ih
    rw[this]at e;cases e
   |some δ1=>
    rw[show ((some δ:Option DS).bind λδ=>setN (i,d).1 (i,d).2 δ)=some δ1 from e1]at e;let⟨h0,h1,h2,h3⟩:=hi i Ô;refine⟨x,rest,rfl,nB S h0 h1 h2 h3 F H σ δ δ1 d x _ R rx e1 λσ' R' l1 l2 l3=>?_⟩;exact xG S is _ (λj hj=>hi j (Ó _ hj)) rfl F H σ' δ1 δ' ds rest Q R' r (by simpa using hl) e λσ2 R2 m1 m2 m3=>q σ2 R2 (m1.trans l1) (m2.trans l2) λj=>(m3 j).trans (l3 j)
def sG{k:Nat}(S:aP Z ow)(hi:∀i∈is,i<k/\i∉Z.ps/\i<ow.length/\ow.getD i 0=0)(ht:t=is.foldr (λi u=>FW (kM i) u) TF):ď X Z ow k (ŧ X.K is.length t) (uF is):=λF H σ δ δ' d v Q R r e q=>by
 unfold uF at e;cases d with
 |tuple ds=>
  dsimp only at e;split at e
  .rename_i hl
   unfold bD at r;let⟨a,xs,rfl,hq,ra⟩:=r;exact⟨a,xs,rfl,R.sub.seqT hq,by rw[<- ra.len];exact hl,xG S is t hi ht F H σ δ δ' ds xs Q R ra hl e q⟩
  .cases e
 |_=>cases e
end
section
def D8(l:Addr)(items:Array Value)(n:Nat)(b:Addr)(fO:Array Value)(n2:Nat)(sl2:Array (ZN))(hc0:¬(!items.isEmpty && Builtin.List.listTooLong (items.size+fO.size))=true)(hc1:items.size<=sizeLine)(hs2:items.size+fO.size<=sizeLine+1):
  Meets (Builtin.«list.extend» ⟨[.ref l,.ref b],[]⟩) (λ_ R s=>s.heap.get? l=some {cls:=.type "list",dict:=none,data:=.seq items n,slots:=#[]}/\s.heap.get? b=some ⟨.type "list",none,.seq fO n2,sl2⟩/\R (.ok (.ret Value.none)) {s with heap:=s.heap.update l (Obj.mapSeq λx=>x++fO),toks:=s.toks}):=
 .of_wp λprog w A R s h=>by
  let⟨hp,g,d,tk,os⟩:=s;let⟨hl,hb,h⟩:=h;have f1:=PySem.AutoSeq1.idx_int;have f2:=PySem.AutoSeq1.sub_tuple_tuple;have f3:=PySem.AutoSeq1.sub_list_list;have f4:=PySem.AutoSeq1.sub_tuple_list;have f5:=PySem.AutoSeq1.sub_list_tuple;have hz':(items++fO).size<=sizeLine+1:=by rw[Array.size_append];exact hs2
  wp_walk using (wpAny_updateSeq hl rfl (hz:=hc1) (_hz':=hz')),PySem.AutoSeq1.wpAny_loadPart' hl,PySem.AutoSeq1.wpAny_loadPart' hb
  exact⟨_,rfl,h⟩
def χ(K:ZC):V->List V->Hp->VK->Prop:=λx vs H Q=>∃l b xs zs,x=.ref l/\vs=[.ref b]/\H l=some (.lst xs)/\d8 K H b zs/\xs.length+zs.length<=sizeLine/\Q .non (aV H l (.lst (xs++zs)))
def oP:ņ X "list.extend" (χ X.K):=by
 intro À s σ H x vs v us Q I rx rv h;let⟨l,b,xs,zs,rfl,rfl,hH,hB,hz,q⟩:=h;cases rx;let⟨u,rfl,ru⟩:=rv.one;cases ru;let⟨z,its,n,r,hl,e⟩:=I.lstM hH;let⟨its2,r2,⟨o2,n2,e2,c2,dn2,dd2⟩,z2⟩:=I.list hB;let⟨oc2,od2,oda2,osl2⟩:=o2;cases c2;cases dn2;cases dd2;have hl2:=r2.length;have hsz:its.toArray.size+its2.toArray.size<=sizeLine:=by rw[é,é];lia
 have hlong:¬(!its.toArray.isEmpty && Builtin.List.listTooLong (its.toArray.size+its2.toArray.size))=true:=by
  rw[T7 hsz,Bool.and_false];exact á
 refine call_meets F.slot_list_extend ⟨_,e,rfl⟩ F.entry_list_extend (F.args_list_extend_2 _ _)
  (D8 l its.toArray n b its2.toArray n2 osl2 hlong (by rw[é];lia) (by exact Nat.le_succ_of_le ‹_›)) ⟨e,e2,?_⟩
 refine⟨.non,_,I.lset (its':=its++its2) hH e 'f' (r.append r2) ?_,rfl,q⟩;rw[Ð];assumption
def U6:ZI->ZI->Option (D×ZI)
 |ds,[.list zs]=>if ds.length+zs.length<=sizeLine then some (.none,ds++zs)else none
 |_,_=>none
def gJ:GP X (χ X.K) U6:=λF H l xs vs ds args ret ds' hl hs h1 h2 e=>by
 unfold U6 at e;split at e
 .rename_i zs
  split at e
  .rename_i hlt
   cases e;let⟨v,rfl,r⟩:=AQ h2;let⟨p,ys,rfl,hp,hr⟩:=jI r;exact⟨xs++ys,.non,h1.app hr,DP,λQ q=>⟨l,p,xs,ys,rfl,rfl,hl,hs.seq hp,by rw[<- h1.len,<- hr.len];exact hlt,q⟩⟩
  .cases e
 .cases e
end
section
variable {X:Cx}{Z:cN}{ow ol ox:ZH}{rm:Nat}{pos pos' p1 p2:Pos}{e:Expr}{x y:Str}{f:M (ZI)}{u:M Fl}{sts:List Stmt}
def dW(i:Nat)(hN:X.N.Nodup)(hi:DI X Z ow (.Name x pos') e f)(hb:BI X Z ow ow ow ox rm sts u)(hp:PassesOwn 'b' X.A X.env X.xe:=by exact PassesOwn.leaving)(hc:↥(X.calm=true))(hx:↥(X.N[i]?=some x))(hl:#v[S5 X.env.scope x])(hfn:#v[X.fn x=true\/X.env.scope.names.lookup x=some .local])(ok:↥((decide (ow.length<=1000) && !Z.ps.contains 1000 && !Z.ps.contains i && decide (i<ow.length) && (ow.getD i 0 == 0))=true))(hf: ~~~(Zfi e X.env)):DJ X Z ow ow ol ox rm (.For (.Name x pos') e sts [] pos) (nA (setN i) f u):=by
 simp![æ,Bool.not_eq_true',decide_eq_true_eq,beq_iff_eq]at ok;exact D0 hp hc hi (cK hN hx hl hfn) (DL ⟨ok.1.1.1.1,cP ok.1.1.1.2⟩ (cP ok.1.1.2) ok.1.2 ok.2) hb hf
def eG(i j:Nat)(hN:X.N.Nodup)(hi:DI X Z ow (.Tuple [.Name x p1,.Name y p2] k pos') e f)(hb:BI X Z ow ow ow ox rm sts u)(hp:PassesOwn 'b' X.A X.env X.xe:=by exact PassesOwn.leaving)(hc:↥(X.calm=true))(hx:↥(X.N[i]?=some x))(hy:↥(X.N[j]?=some y))(hl:#v[S5 X.env.scope x])(hm:#v[S5 X.env.scope y])(hfn:#v[X.fn x=true\/X.env.scope.names.lookup x=some .local])(hfm:#v[X.fn y=true\/X.env.scope.names.lookup y=some .local])(ok:↥((decide (ow.length<=1000) && !Z.ps.contains 1000 && [i,j].all λi=>!Z.ps.contains i && decide (i<ow.length) && (ow.getD i 0 == 0))=true))(hf: ~~~(Zfi e X.env)):DJ X Z ow ow ol ox rm (.For (.Tuple [.Name x p1,.Name y p2] k pos') e sts [] pos) (nA (uF [i,j]) f u):=by
 simp![æ,Bool.not_eq_true',decide_eq_true_eq,beq_iff_eq,ï]at ok;exact D0 hp hc hi (t8 hc (dX (cK hN hx hl hfn) (dX (cK hN hy hm hfm) oC))) (aGZ (is:=[i,j]) ⟨ok.1.1,cP ok.1.2⟩ (λi hi=>⟨cP (ok.2 i hi).1.1,(ok.2 i hi).1.2,(ok.2 i hi).2⟩) rfl) hb hf
end
section
variable {X:Cx}{Z:cN}{ow ol ox:ZH}{rm:Nat}{pos p1:Pos}{elt iter:Expr}{ifs:List Expr}{scope:Scope}{x:Str}{fi:M (ZI)}{t:M Bool}{fe:M D}
abbrev ŏ(Z:cN)(ow:ZH)(n:Nat):Bool:=decide (ow.length<=1000) && !Z.ps.contains 1000 && decide ((List.replicate n 0++ow).length<=1000) && !(Z.sh n).ps.contains 1000 && (List.range n).all λi=>!(Z.sh n).ps.contains i
def fY(x:Str)(hi:DI X Z ow (.Name x p1) iter fi)(hif:∀C fp s H,SV (aT X [x] scope C fp s H) ifs (tT (aT X [x] scope C fp s H) (Z.sh 1) (List.replicate 1 0++ow) t))(he:∀C fp s H,DE (aT X [x] scope C fp s H) (Z.sh 1) (List.replicate 1 0++ow) 0 elt fe)(nd:↥(decide ([x]++mX [x] X.N).Nodup=true))(hc:↥(X.calm=true))(ok:↥(ŏ Z ow 1=true))(hl:∀C fp s H,(aT X [x] scope C fp s H).env.scope.names.lookup x=some .local:=by intro _ _ _ _;rfl)(hk:↥(scope.kind=.function))(hok:↥(dR X.N [x] scope.names X.env.scope.names=true))(hfs: ~~~(Zfi iter X.env)):
  DE X Z ow 1 (.ListComp elt [⟨.Name x p1,iter,ifs,0⟩] scope pos) (eD 1 (setN 0) fi t fe):=by
 simp![ŏ,æ,Bool.not_eq_true',decide_eq_true_eq,ï,List.mem_range]at ok;exact sE (xs:=[x]) ⟨ok.1.1.1.1,cP ok.1.1.1.2⟩ ⟨ok.1.1.2,cP ok.1.2⟩ hc hi (λC fp s H=>cK (i:=0) (of_decide_eq_true nd) rfl (Or.inl (hl C fp s H)) (Or.inr (hl C fp s H))) (nB ⟨ok.1.1.2,cP ok.1.2⟩ (Ă _) (cP (ok.2 0 ⋯)) (Ă _) rfl) hif he hk hok hfs
def dD(i:Nat)(x:Str){z:Str}{pos' spos:Pos}(hN:X.N.Nodup)(hi:DI X Z ow (.Name x p1) iter fi)(hif:∀C fp s H,SV (aT X [x] scope C fp s H) ifs (tT (aT X [x] scope C fp s H) (Z.sh 1) (List.replicate 1 0++ow) t))(he:∀C fp s H,DE (aT X [x] scope C fp s H) (Z.sh 1) (List.replicate 1 0++ow) 0 elt fe)(nd:↥(decide ([x]++mX [x] X.N).Nodup=true))(hc:↥(X.calm=true))(ok:↥(ŏ Z ow 1=true))(hl:∀C fp s H,(aT X [x] scope C fp s H).env.scope.names.lookup x=some .local:=by intro _ _ _ _;rfl)(hx:↥(X.N[i]?=some z))(hz:↥(X.env.scope.names.lookup z=some .local))(hps:↥(Z.ps.contains i=false))(hlo:⇑(i<ow.length))(hsw:↥(swapsWith (.ListComp elt [⟨.Name x p1,iter,ifs,0⟩] scope pos) (some (.Name z pos')) spos.line X.env=pure true))(hk:↥(scope.kind=.function))(hok:↥(dR X.N [x] scope.names X.env.scope.names=true))(hfs: ~~~(Zfi iter X.env)):
  DJ X Z ow (ow.set i 1) ol ox rm (.Assign [.Name z pos'] (.ListComp elt [⟨.Name x p1,iter,ifs,0⟩] scope pos) spos) (jG i (eD 1 (setN 0) fi t fe)):=by
 simp![ŏ,æ,Bool.not_eq_true',decide_eq_true_eq,ï,List.mem_range]at ok;exact l5 i (xs:=[x]) ⟨ok.1.1.1.1,cP ok.1.1.1.2⟩ ⟨ok.1.1.2,cP ok.1.2⟩ hc hN hi (λC fp s H=>cK (i:=0) (of_decide_eq_true nd) rfl (Or.inl (hl C fp s H)) (Or.inr (hl C fp s H))) (nB ⟨ok.1.1.2,cP ok.1.2⟩ (Ă _) (cP (ok.2 0 ⋯)) (Ă _) rfl) hif he hx hz hps hlo hsw hk hok hfs
end
section
variable {K:ZC}{X:Cx}{Z:cN}{ow:ZH}{n:Nat}{pos:Pos}{F H H':Hp}{σ:St}{δ:DS}{g:ZP}
def JX(g:ZP)(F H:Hp):Hp:=λb=>open Classical in if ∃l,g b=some l then (if F b=none then H b else F b)else F b
def GZ:aI F (JX g F H):=λb o e=>by
 unfold JX;split
 .rw[Ã (by rw[e];simp)];exact e
 .exact e
def aBK(hs:aI F H):aI (JX g F H) H:=λb o e=>by
 unfold JX at e;split at e
 .split at e
  .exact e
  .exact hs b o e
 .exact hs b o e
def bE.freezeA(r:bE K F H g i n p d v):bD K (JX g F H) d v:=
 iQ.froze GZ (λa p o e1 e2 e3=>by unfold JX;rw[Â ⟨_,e1⟩,Â e3];exact e2) r
def cX.grow(R:cX K Z ow g F H σ δ)(h:aI H H'):cX K Z ow g F H' σ δ:=
 ⟨R.sub.trans' h,R.f0,λb o n e=>h b o (R.kept b o n e),R.new,λb z=>by
  cases e:H b with
  |none=>exact absurd e (R.there b z)
  |some o=>rw[h b o e];simp,R.lab,R.len,R.par,λi d e=>by
  let⟨v,e1,o⟩:=R.slot i d e;exact⟨v,e1,o.mono (λ_ _ z=>z) (λ_ _ _ z=>z) (λ_ _ _ _ z=>z) λa l ob _ _ z=>h a ob z⟩⟩
def U7(h:K0 d=some x)(r:bD K F d v):bD K F' d v:=by
 let⟨rfl,_⟩:=wA h r;cases d with
 |int i=>cases h;exact gD
 |bool b=>cases h;exact iK
 |str z=>cases h;exact BM
 |none=>cases h;exact DP
 |_=>cases h
def cU(F H:Hp)(σ:St)(m:Nat):cN:=⟨F,H,λ_=>none,[],σ,List.replicate m 0,λ_ _ _ e=>by cases e⟩
def iZ:'c'.getD i 0=0:=by
 rw[Ë,ÿ];split<;>rfl
def cX.bor(R:cX K Z ow g F H σ δ):cB K (cU (JX g F H) H σ m) 'c' (JX g F H) H σ δ:=
 ⟨λ_=>none,aBK R.sub,⟨R.f0.lm.mono GZ,λ_ _ z=>z⟩,λ_ _ _ e=>e,λ_ h _=>h,λ_ h=>h,λ_ _ _ e=>(by cases e),R.len,λi hi=>(by cases hi),λi d e=>by
  let⟨v,e1,o⟩:=R.slot i d e;refine⟨v,e1,?_⟩;rw[iZ];exact o.freezeA⟩
def QH(f:M D):M D:=λδ=>match f δ with
 |.ok d _=>(match K0 d with|some _=>.ok d δ|none=>.stuck)
 |_=>.stuck
def M9(f:M Bool):M Bool:=λδ=>match f δ with
 |.ok b _=>.ok b δ
 |_=>.stuck
def uK(m:Nat)(h:∀F H σ,DE X (cU F H σ m) 'c' 0 e f):DE X Z ow 0 e (QH f):=λÀ s σ H Q I q=>by
 let⟨F,δ,⟨g,R⟩,q⟩:=q;unfold QH at q;refine h (JX g F H) H σ À s σ H Q I ⟨JX g F H,δ,R.bor,?_⟩;cases e1:f δ with
 |stuck=>rw[e1]at q;exact q.elim
 |ok d δ1=>
  rw[e1]at q;dsimp only at q;cases e2:K0 d with
  |none=>rw[e2]at q;exact q.elim
  |some x=>
   rw[e2]at q;rintro v H' F' ⟨g',R',o⟩ s';exact q v H' F ⟨g,R.grow λb o e=>R'.kept b o rfl e,U7 e2 o⟩ λ_ _ z=>z
def aHN(m:Nat)(h:∀F H σ,DT X (cU F H σ m) 'c' e f):DT X Z ow e (M9 f):=λÀ s σ H Q I q=>by
 let⟨F,δ,⟨g,R⟩,q⟩:=q;unfold M9 at q;refine h (JX g F H) H σ À s σ H Q I ⟨JX g F H,δ,R.bor,?_⟩;cases e1:f δ with
 |stuck=>rw[e1]at q;exact q.elim
 |ok d δ1=>
  rw[e1]at q;rintro H' F' ⟨g',R'⟩ s';exact q H' F ⟨g,R.grow λb o e=>R'.kept b o rfl e⟩ λ_ _ z=>z
def Ő(i:Nat)(lo hi:Option (M D)):M D:=λδ=>match δ[i]? with
 |some (some _)=>(kB lo δ).bind λl δ1=>(kB hi δ1).bind λu δ2=>(match δ2[i]? with
  |some (some (.list ds))=>.ok (.list (GV ds l u)) δ2
  |_=>.stuck)
 |_=>.stuck
def U8(i:Nat){x:Str}{p p2:Pos}{lo hi:Option Expr}(S:aP Z ow)(hl:DO X Z ow lo fl)(hu:DO X Z ow hi fh)(ho:↥(ow.getD i 0=1))(hN:↥(X.N[i]?=some x))(hv:#v[AI X.env.scope x])(hd:⇑(Zdb x))(hcd:⇑(Zcd x)):
  DE X Z ow 1 (.Subscript 'h' (.Slice lo hi none p2) pos) (Ő i fl fh):=PE.mono (F9 v9 (c9 hN hv hd hcd) hl hu) λσ H Q q=>by
 let⟨F,δ,R,q⟩:=q;unfold Ő at q;cases e0:δ[i]? with
 |none=>rw[e0]at q;exact q.elim
 |some o=>
  cases o with
  |none=>rw[e0]at q;exact q.elim
  |some d0=>
   rw[e0]at q;dsimp only at q;let⟨a,ds0,vs0,q1,q2,q3,q4⟩:=R.ownAt ho e0;refine⟨_,q2,F,δ,R,?_⟩;cases e1:kB fl δ with
   |stuck=>rw[e1]at q;exact q.elim
   |ok l δ1=>
    rw[e1]at q;simp![Res.bind]at q;intro H1 F1 R1 s1;refine⟨F1,δ1,R1,?_⟩;cases e2:kB fh δ1 with
    |stuck=>rw[e2]at q;exact q.elim
    |ok u δ2=>
     rw[e2]at q;simp![Res.bind]at q;intro H2 F2 R2 s2;cases e3:δ2[i]? with
     |none=>rw[e3]at q;exact q.elim
     |some o=>
      cases o with
      |none=>rw[e3]at q;exact q.elim
      |some d1=>
       rw[e3]at q;let⟨a',ds1,vs1,p1,p2,p3,p4⟩:=R2.ownAt ho e3;rw[q2]at p2;cases p2;subst p1;exact⟨a,vs1,rfl,d8.of p3,λt ht=>q _ _ F2 (R2.newList S ht (p4.cut l u)) (s1.trans' s2)⟩
end
section
variable {X:Cx}{À:ZB}{σ:St}{H:Hp}{s:Shared}{h':Heap}
def Inv.turns{ch:ZM}(I:Inv X À σ H s)(k:∀b o,b∉ch->s.heap.get? b=some o->h'.get? b=some o)(hc:∀b∈ch,v3 X À H b):
  Inv X À σ H {s with heap:=h',toks:=t'}:=by
 have off:∀b u,H b=some u->b∉ch:=λb u e z=>by have:=(hc b z).1;rw[this]at e;cases e
 refine I.step (g':=s.gens) (d':=s.drawn) (ch:=ch) (λb hb=>⟨(hc b hb).2.2.2.1,(hc b hb).2.1,(hc b hb).2.2.2.2.1,(hc b hb).2.2.2.2.2⟩) (λb o _ _ n e _=>k b o n e) (λb o _ _ n e _=>⟨o.slots,k b o n e⟩)
  (λb o n e z=>z) (λb o n e=>⟨o,k b o n e⟩) (λb ys e=>e) (λb o u e=>e) (λb ps e=>⟨#[],by rw[e];simp⟩) (λm hm=>?_) (λb u e=>?_) I.bare
 .obtain⟨o,es,ep,ho,q⟩:=hm
  exact⟨o,es,ep,k _ o (λz=>(hc _ z).2.1 rfl) ho,q⟩
 .refine(I.hok b u e).stay (λc v z q=>k c v ?_ q) (λc q=>q) λc ys q=>q
  grind
def Inv.pair{ch:ZM}(I:Inv X À σ H s)(k:∀b o,b∉ch->s.heap.get? b=some o->h'.get? b=some o)(hc:∀b∈ch,v3 X À H b)(hT:s.heap.objs.size<=T)(hz:xs.length<=sizeLine)(r:bH xs us)(ht:IsTup h' T us.toArray):
  Inv X À σ (aV H T (.tup xs)) {s with heap:=h',toks:=t'}:=by
 have fT:H T=none:=I.hok.fresh hT;have off:∀b u,H b=some u->b∉ch:=λb u e z=>by have:=(hc b z).1;rw[this]at e;cases e
 have neT:∀b u,H b=some u->b≠T:=λb u e=>bK e fT;refine I.step (g':=s.gens) (d':=s.drawn) (ch:=ch) (λb hb=>⟨(hc b hb).2.2.2.1,(hc b hb).2.1,(hc b hb).2.2.2.2.1,(hc b hb).2.2.2.2.2⟩) (λb o _ _ n e _=>k b o n e) (λb o _ _ n e _=>⟨o.slots,k b o n e⟩)
  (λb o n e z=>?_) (λb o n e=>⟨o,k b o n e⟩) (λb ys e=>?_) (λb o u e=>?_) (λb ps e=>⟨#[],?_⟩) (λm hm=>?_) (λb u e=>?_) I.bare
 .rw[aE (Ï (Ú (Heap.lt_size e) hT))];exact z
 .rw[aE (neT b _ e)];exact e
 .rw[aE (neT b _ e)];exact e
 .rw[aE (neT b _ e),e];simp
 .obtain⟨o,es,ep,ho,q⟩:=hm
  exact⟨o,es,ep,k _ o (λz=>(hc _ z).2.1 rfl) ho,q⟩
 .by_cases hb:b=T
  .subst hb;rw[aJ]at e;cases e;exact⟨hz,us,r,ht⟩
  .rw[aE hb]at e
   refine(I.hok b u e).stay (λc v z q=>k c v ?_ q) (λc q=>by rw[aE (neT c _ q)];exact q) λc ys q=>by rw[aE (neT c _ q)];exact q
   grind
end
def ź(K:ZC)(a b:Addr):It:=
 ⟨λi H=>∃xs ys x y,d8 K H a xs/\d8 K H b ys/\xs[i]?=some x/\ys[i]?=some y,
   λi H v H'=>∃p x y,H p=none/\H'=aV H p (.tup [x,y])/\v=.ref p/\(∀xs,d8 K H a xs->xs[i]?=some x)/\∀ys,d8 K H b ys->ys[i]?=some y,
   λi H=>∃xs ys,d8 K H a xs/\d8 K H b ys/\(xs.length<=i\/ys.length<=i)⟩
structure aKY(z p q i1 i2 a b:Addr)(i:Nat)(h:Heap):Prop where
 z0:IsZip h z p q .none
 p0:IsPair h p (.ref i1) (.ref i2)
 q0:∃u v,IsPair h q u v
 a0:h.IsListIter i1 a i
 b0:h.IsListIter i2 b i
def U9{P:Program}{w:World}{K:ZC}{es:List Expr}{n:Nat}{tp:Pos}(z p q i1 i2 a b:Addr)(D:ZipApart z p q i1 i2 a b):FX P w K (.Tuple es n tp) (ź K a b) [z,p,q,i1,i2] z (aKY z p q i1 i2 a b) where
 mem:=by simp
 obj:=λi h st c hc=>by
  simp![Ø,ì,or_false]at hc;rcases hc with rfl|rfl|rfl|rfl|rfl
  .exact⟨_,st.z0,λv e=>by cases e⟩
  .exact⟨_,st.p0,λv e=>by cases e⟩
  .obtain⟨u,v,e⟩:=st.q0
   grind
  .obtain⟨o,e,_,d⟩:=st.a0
   grind
  .obtain⟨o,e,_,d⟩:=st.b0
   grind
 keep:=λi h h' st k=>⟨k z 'f' _ st.z0,k p 'f' _ st.p0,by
  let⟨u,v,e⟩:=st.q0
  grind,st.a0.at λo e=>k i1 'f' o e,st.b0.at λo e=>k i2 'f' o e⟩
 item:=by
  sleep 2;let⟨xs,ys,x,y,hx,hy,ex,ey⟩:=hg;let⟨ia,ra,pa,_⟩:=I.list hx;let⟨ib,rb,pb,_⟩:=I.list hy;let⟨u,hu,ru⟩:=ra.get ex;let⟨v,hv,rv⟩:=rb.get ey;let⟨c1,c2,hq⟩:=st.q0;refine wpAny_pyNext_zip_item D st.z0 st.p0 hq st.a0 st.b0 pa.isList pb.isList (x:=u) (y:=v) (by simpa using hu) (by simpa using hv) λh1 e1 e2 e3 e4 e5 e6 k1=>⟨_,rfl,?_⟩;refine wpAny_letOwnedTupleGo_zip (s:={s with heap:=h1}) e1 λh2 f1 f2=>?_;have hT:s.heap.objs.size≠z:=Þ (Heap.lt_size st.z0);have tup:IsTup h2 s.heap.objs.size #[u,v]:=⟨_,f2.extBut _ _ hT e5,rfl,_,rfl⟩;have kk:∀c o,c∉[z,q,i1,i2]->s.heap.get? c=some o->h2.get? c=some o:=λc o n e=>by
   simp![Ø,ì,or_false,not_or]at n;exact f2.extBut _ _ n.1 (k1 c o n.1 n.2.1 n.2.2.1 n.2.2.2 e)
  have fp:∀c∈[z,q,i1,i2],v3 X À H c:=λc hc=>hf c (by
   grind)
  have I2:Inv X À σ (aV H s.heap.objs.size (.tup [x,y])) {s with heap:=h2,toks:=s.toks}:=I.pair (us:=[u,v]) kk fp (È _) (show 2<=sizeLine by decide) (.cons ru (.cons rv .nil)) tup;refine⟨.ref s.heap.objs.size,_,I2,rfl,⟨_,x,y,I.hok.fresh (È _),rfl,rfl,λxs' h=>by rw[I.list_inj h hx];exact ex,λys' h=>by rw[I.list_inj h hy];exact ey⟩,⟨f1,f2.extBut _ _ D.TIz (k1 _ _ D.TIz D.TITO D.TIi1 D.TIi2 st.p0),⟨_,_,f2.extBut _ _ D.TOz e2⟩,e3.extBut f2.extBut D.i1z,e4.extBut f2.extBut D.i2z⟩,λc hc=>?_⟩
  rw[aE]
  .exact(hf c hc).1
  .intro z0
   simp![Ø,ì,or_false]at hc;have lt:∀{c o},s.heap.get? c=some o->c≠s.heap.objs.size:=λe=>Ï (Heap.lt_size e);let⟨o1,g1,_⟩:=st.a0;let⟨o2,g2,_⟩:=st.b0;rcases hc with rfl|rfl|rfl|rfl|rfl
   .exact lt st.z0 z0
   .exact lt st.p0 z0
   all_goals grind
 done:=by
  sleep 2;let⟨xs,ys,hx,hy,hl⟩:=hg;let⟨ia,ra,pa,_⟩:=I.list hx;let⟨ib,rb,pb,_⟩:=I.list hy;let⟨c1,c2,hq⟩:=st.q0;have la:=ra.length;have lb:=rb.length;refine wpAny_pyNext_zip_end (I.ok.hd hc) D st.z0 st.p0 hq st.a0 st.b0 pa.isList pb.isList ?_ λh1 k1=>⟨rfl,I.turns (t':=s.toks) (ch:=[z,q,i1,i2]) (λc o n e=>?_) λc hc=>hf c ?_⟩
  all_goals grind
 self:=λ_ _ _ _ _ st h=>wpAny_pyIter_zip st.z0 h
section
def aN1(K:ZC)(ta:TA):TI:=λσ H R=>ta σ H λvs H1=>∃a b,vs=[.ref a,.ref b]/\(∃xs,d8 K H1 a xs)/\(∃ys,d8 K H1 b ys)/\R (ź K a b) H1
def aHO{es:List Expr}{n:Nat}{tp p pos:Pos}(hg:Gl X "zip")(hm:X.mg "zip"=none)(ha:PA X [a,b] ta)(hs:↥(starEach [a,b] X.env=[(false,eval a X.env),(false,eval b X.env)]))(hs2:↥(starEach [b] X.env=[(false,eval b X.env)])):
  PI X (.Tuple es n tp) (.Call (.Name "zip" p) [a,b] [] pos) (aN1 X.K ta):=by
 intro À s σ H R I h;refine Call_ (hW I hg hm boot_zip (callWith_type1 (cA (ha pos À s σ H _ I h) λus s1 zQ=>?_) (by rw[hs,hs2]) (by rw[hs2];rfl)));let⟨vs,H1,I1,r1,q1⟩:=zQ;let⟨l,m,e,⟨xs,hx⟩,⟨ys,hy⟩,q⟩:=q1;subst e;cases r1 with
 |cons r rr=>
  cases rr with
  |cons r' rr=>
   cases rr;cases r;cases r';let⟨ia,ra,pa,_⟩:=I1.list hx;let⟨ib,rb,pb,_⟩:=I1.list hy;refine call_zip_2 pa.isList pb.isList λh1 z1 z2 z3 z4 z5 sz kk=>wpAny_pyIter_zip (s:={s1 with heap:=h1}) z1 ?_;have la:l<s1.heap.objs.size:=by let⟨o,n,e,_⟩:=pa;exact Heap.lt_size e
   have lb:m<s1.heap.objs.size:=by let⟨o,n,e,_⟩:=pb;exact Heap.lt_size e
   have ge:∀c∈[s1.heap.objs.size+4,s1.heap.objs.size+2,s1.heap.objs.size+3,s1.heap.objs.size,s1.heap.objs.size+1],s1.heap.objs.size<=c:=λc hc=>by
    grind
   refine⟨_,_,_,_,H1,rfl,I1.kept (t':=s1.toks) kk,U9 _ _ _ _ _ l m ?_,⟨z1,z2,⟨_,_,z3⟩,z4,z5⟩,λc hc=>I1.fpOk (ge c hc) (I1.hok.fresh (ge c hc)),q⟩;have la:@LT.lt Nat instLTNat l s1.heap.objs.size:=la;have lb:@LT.lt Nat instLTNat m s1.heap.objs.size:=lb;constructor<;>(grind)
end
def pH(as bs:ZI):ZI:=List.zipWith (λa b=>PyData.tuple [a,b]) as bs
def NA{K:ZC}{F:Hp}{p:Addr}{x y:V}{d e:D}(h:F p=some (.tup [x,y]))(rx:bD K F d x)(ry:bD K F e y):bD K F (.tuple [d,e]) (.ref p):=by
 unfold bD;refine⟨p,_,rfl,rN.of h,?_⟩;unfold aD;refine⟨_,_,rfl,rx,?_⟩;unfold aD;refine⟨_,_,rfl,ry,?_⟩;unfold aD;rfl
def aBM{K:ZC}{F:Hp}{a b:Addr}{xs ys:List V}{ds es:ZI}(hx:d8 K F a xs)(hy:d8 K F b ys)(rx:aD K F ds xs)(ry:aD K F es ys):SY K F (ź K a b) (pH ds es) where
 go:=λi H s hi=>by
  have hi:i<min ds.length es.length:=by simpa[pH]using hi
  have l1:=rx.len;have l2:=ry.len;exact⟨xs,ys,xs[i]'∅,ys[i]'∅,s.seq hx,s.seq hy,Ê _,Ê _⟩
 yld:=λi H v H' d s y e=>by
  let⟨p,x,y,hp,rfl,rfl,q1,q2⟩:=y;have hi:=(Í.mp e).1;have hi:i<min ds.length es.length:=by simpa[pH]using hi
  have e1:ds[i]?=some ds[i]:=Ê ∅;have e2:es[i]?=some es[i]:=Ê ∅;have ee:(pH ds es)[i]?=some (.tuple [ds[i],es[i]]):=by unfold pH;rw[List.getElem?_zipWith,e1,e2]
  rw[ee]at e;cases e;let⟨x',f1,g1⟩:=rx.get e1;let⟨y',f2,g2⟩:=ry.get e2;have:=q1 xs (s.seq hx);rw[f1]at this;cases this;have:=q2 ys (s.seq hy);rw[f2]at this;cases this;refine .inr ⟨p,_,hp,rfl,λF2 s2 n=>NA aJ ?_ ?_⟩
  .exact(s2.trans' (bW n _)).rep _ _ g1
  .exact(s2.trans' (bW n _)).rep _ _ g2
 stop:=λH s=>⟨xs,ys,s.seq hx,s.seq hy,by
  have l1:=rx.len;have l2:=ry.len;simp![pH,List.length_zipWith];lia⟩
def AR(f g:M D):M (ZI):=λδ=>(bA [f,g] δ).bind λds δ1=>match ds with
 |[.list as,.list bs]=>.ok (pH as bs) δ1
 |_=>.stuck
section
def D9{es:List Expr}{n:Nat}{tp p2 p3:Pos}(hgl:Gl X "zip")(hm:X.mg "zip"=none)(ha:DE X Z ow 0 a f)(hb:DE X Z ow 0 b g)(hst:↥(starEach [a,b] X.env=(false,eval a X.env)::starEach [b] X.env))(hst2:↥(Zse b [] X.env)):
  DI X Z ow (.Tuple es n tp) (.Call (.Name "zip" p2) [a,b] [] p3) (AR f g):=
 (aHO hgl hm (aF ha (aF hb aX hst2) hst) (hst.trans (by rw[hst2];rfl)) hst2).mono λσ H R q=>by
  let⟨F,δ,Rl,q⟩:=q;unfold AR at q;refine⟨F,δ,Rl,?_⟩;cases e1:bA [f,g] δ with
  |stuck=>rw[e1]at q;exact q.elim
  |ok ds δ1=>
   rw[e1]at q;simp![Res.bind]at q;intro vs H1 F1 R1 s1 ra;split at q
   .rename_i as bs
    unfold aD at ra;let⟨x,t,rfl,rx,ra⟩:=ra;unfold aD at ra;let⟨y,t,rfl,ry,ra⟩:=ra;unfold aD at ra;subst ra;let⟨l,xs,rfl,hx,rx⟩:=jI rx;let⟨m,ys,rfl,hy,ry⟩:=jI ry;exact⟨l,m,rfl,⟨xs,R1.sub.seq hx⟩,⟨ys,R1.sub.seq hy⟩,q _ H1 F1 R1 s1 (aBM hx hy rx ry)⟩
   .exact q.elim
end
def Ż(K:ZC)(a:Addr):It:=
 ⟨λi H=>∃xs x,d8 K H a xs/\xs[i]?=some x,
   λi H v H'=>∃p x,H p=none/\H'=aV H p (.tup [.int i,x])/\v=.ref p/\∀xs,d8 K H a xs->xs[i]?=some x,
   λi H=>∃xs,d8 K H a xs/\xs.length<=i⟩
structure aHP(e it a:Addr)(i:Nat)(h:Heap):Prop where
 e0:∃old,IsEnum h e it (i:Int) old
 a0:h.IsListIter it a i
def QI{P:Program}{w:World}{K:ZC}{es:List Expr}{n:Nat}{tp:Pos}(e it a:Addr)(hne:e≠it):FX P w K (.Tuple es n tp) (Ż K a) [e,it] e (aHP e it a) where
 mem:=by simp
 obj:=λi h st c hc=>by
  simp![Ø,ì,or_false]at hc;rcases hc with rfl|rfl
  .obtain⟨o,x⟩:=st.e0
   exact⟨_,x,λv e=>by cases e⟩
  .obtain⟨o,e,_,d⟩:=st.a0
   exact⟨o,e,λv x=>by rw[d]at x;cases x⟩
 keep:=λi h h' st k=>⟨by
  let⟨o,x⟩:=st.e0;exact⟨o,k e 'f' _ x⟩,st.a0.at λo x=>k it 'f' o x⟩
 item:=by
  sleep 2;let⟨xs,x,hx,ex⟩:=hg;let⟨ia,ra,pa,_⟩:=I.list hx;let⟨u,hu,ru⟩:=ra.get ex;let⟨old,he⟩:=st.e0;refine wpAny_pyNext_enum_item he st.a0 pa.isList (x:=u) (by simpa using hu) hne λh1 e1 e2 e3 e4 k1=>⟨_,rfl,?_⟩;refine wpAny_letOwnedTupleGo_enum (s:={s with heap:=h1,toks:=s.toks+1}) e1 λh2 f1 f2=>?_;have hT:s.heap.objs.size≠e:=Þ (Heap.lt_size he);have tup:IsTup h2 s.heap.objs.size #[.int i s.toks,u]:=⟨_,f2.extBut _ _ hT e3,rfl,_,rfl⟩;have kk:∀c o,c∉[e,it]->s.heap.get? c=some o->h2.get? c=some o:=λc o n x=>by
   simp![Ø,ì,or_false,not_or]at n;exact f2.extBut _ _ n.1 (k1 c o n.1 n.2 x)
  have I2:Inv X À σ (aV H s.heap.objs.size (.tup [.int i,x])) {s with heap:=h2,toks:=s.toks+1}:=I.pair (us:=[.int i s.toks,u]) kk hf (È _) (show 2<=sizeLine by decide) (.cons ⟨_,rfl⟩ (.cons ru .nil)) tup;refine⟨.ref s.heap.objs.size,_,I2,rfl,⟨_,x,I.hok.fresh (È _),rfl,rfl,λxs' h=>by rw[I.list_inj h hx];exact ex⟩,⟨⟨_,by simpa using f1⟩,e2.extBut f2.extBut hne.symm⟩,λc hc=>?_⟩;rw[aE]
  .exact(hf c hc).1
  .intro z0
   simp![Ø,ì,or_false]at hc;have lt:∀{c o},s.heap.get? c=some o->c≠s.heap.objs.size:=λe=>Ï (Heap.lt_size e);let⟨o1,g1,_⟩:=st.a0;rcases hc with rfl|rfl
   .exact lt he z0
   .exact lt g1 z0
 done:=by
  sleep 2;let⟨xs,hx,hl⟩:=hg;let⟨ia,ra,pa,_⟩:=I.list hx;let⟨old,he⟩:=st.e0;have la:=ra.length;refine wpAny_pyNext_enum_end (I.ok.hd hc) he st.a0 pa.isList (Array.getElem?_eq_none (by simp;lia)) λh1 k1=>⟨rfl,I.turns (t':=s.toks) (ch:=[e,it]) (λc o n x=>?_) hf⟩;simp![Ø,ì,or_false,not_or]at n;exact k1 c o n.2 x
 self:=λ_ _ _ _ _ st h=>by
  let⟨old,he⟩:=st.e0;exact wpAny_pyIter_enum he h
section
def aKZ(K:ZC)(ta:TA):TI:=λσ H R=>ta σ H λvs H1=>∃a,vs=[.ref a]/\(∃xs,d8 K H1 a xs)/\R (Ż K a) H1
def aBN(hg:Gl X "enumerate")(hm:X.mg "enumerate"=none)(ha:PA X [a] ta)(hs:↥(starEach [a] X.env=[(false,eval a X.env)])):
  PI X (.Tuple es n tp) (.Call (.Name "enumerate" p) [a] [] pos) (aKZ X.K ta):=by
 intro À s σ H R I h;refine Call_ (hW I hg hm boot_enumerate (callWith_type1 (cA (ha pos À s σ H _ I h) λus s1 zQ=>?_) hs rfl));let⟨vs,H1,I1,r1,q1⟩:=zQ;let⟨l,e,⟨xs,hx⟩,q⟩:=q1;subst e;cases r1 with
 |cons r rr=>
  cases rr;cases r;let⟨ia,ra,pa,_⟩:=I1.list hx;refine call_enumerate_list pa.isList λh1 z1 z2 sz kk=>wpAny_pyIter_enum (s:={s1 with heap:=h1}) z1 ?_;have ge:∀c∈[s1.heap.objs.size+1,s1.heap.objs.size],s1.heap.objs.size<=c:=λc hc=>by
   simp![Ø,ì,or_false]at hc;rcases hc with rfl|rfl<;>lia
  exact⟨_,_,_,_,H1,rfl,I1.kept (t':=s1.toks) kk,QI _ _ l (show ¬(s1.heap.objs.size+1=s1.heap.objs.size) by lia),⟨⟨_,z1⟩,z2⟩,λc hc=>I1.fpOk (ge c hc) (I1.hok.fresh (ge c hc)),q⟩
end
def fB(ds:ZI):ZI:=ds.mapIdx λi d=>PyData.tuple [.int i,d]
def VA{K:ZC}{F:Hp}{a:Addr}{xs:List V}{ds:ZI}(hx:d8 K F a xs)(rx:aD K F ds xs):SY K F (Ż K a) (fB ds) where
 go:=λi H s hi=>by
  have hi:i<ds.length:=by simpa[fB]using hi
  have l1:=rx.len;exact⟨xs,xs[i]'(by exact õ ‹_› ‹_›),s.seq hx,Ê _⟩
 yld:=λi H v H' d s y e=>by
  let⟨p,x,hp,rfl,rfl,q1⟩:=y;have hi:=(Í.mp e).1;have hi:i<ds.length:=by simpa[fB]using hi
  have e1:ds[i]?=some ds[i]:=Ê hi;have ee:(fB ds)[i]?=some (.tuple [.int i,ds[i]]):=by unfold fB;rw[List.getElem?_mapIdx,e1];rfl
  rw[ee]at e;cases e;let⟨x',f1,g1⟩:=rx.get e1;have:=q1 xs (s.seq hx);rw[f1]at this;cases this;exact .inr ⟨p,_,hp,rfl,λF2 s2 n=>NA aJ gD ((s2.trans' (bW n _)).rep _ _ g1)⟩
 stop:=λH s=>⟨xs,s.seq hx,by
  have l1:=rx.len;simp![fB,List.length_mapIdx];lia⟩
def xH(f:M D):M (ZI):=λδ=>(bA [f] δ).bind λds δ1=>match ds with
 |[.list as]=>.ok (fB as) δ1
 |_=>.stuck
section
def gR(hgl:Gl X "enumerate")(hm:X.mg "enumerate"=none)(ha:DE X Z ow 0 a f)(hst:↥(Zse a [] X.env)):
  DI X Z ow (.Tuple es n tp) (.Call (.Name "enumerate" p2) [a] [] p3) (xH f):=
 (aBN hgl hm (aF ha aX hst) hst).mono λσ H R q=>by
  let⟨F,δ,Rl,q⟩:=q;unfold xH at q;refine⟨F,δ,Rl,?_⟩;cases e1:bA [f] δ with
  |stuck=>rw[e1]at q;exact q.elim
  |ok ds δ1=>
   rw[e1]at q;simp![Res.bind]at q;intro vs H1 F1 R1 s1 ra;split at q
   .rename_i as
    unfold aD at ra;let⟨x,t,rfl,rx,ra⟩:=ra;unfold aD at ra;subst ra;let⟨l,xs,rfl,hx,rx⟩:=jI rx;exact⟨l,rfl,⟨xs,R1.sub.seq hx⟩,q _ H1 F1 R1 s1 (VA hx rx)⟩
   .exact q.elim
def aHQ:bootBuiltins "sum"=some (.builtin "sum"):=by decide +kernel
end
section
end
section
end
section
end
abbrev zA(h:Heap)(l1:Addr):Heap:=h.push {cls:=.type "list_iterator",data:=.fields #[.ref l1,.int 0 0]}
abbrev zB(h:Heap)(l1 l2:Addr):Heap:=(zA h l1).push {cls:=.type "tuple_iterator",data:=.fields #[.ref l2,.int 0 0]}
section
end
section
end
section
end
end L2
namespace L2
open PySem PySem.Spec
def SZ(o:ZL)(δ:DS)(Q:D->ZO)(_w:Wt Q:=⟨⟩):Prop:=∃r,o=some r/\Q r δ
def EA(o:Option (ZL))(δ:DS)(Q:D->ZO)(_w:Wt Q:=⟨⟩):Prop:=∃d,o=some (some d)/\Q d δ
def ż(i:Nat)(d:D)(δ:DS)(N:ZO)(_w:Wt N:=⟨⟩):Prop:=i<δ.length/\N (δ.set i (some d))
def BT(d:D)(δ:DS)(Q:Bool->ZO)(_w:Wt Q:=⟨⟩):Prop:=∃b,d=.bool b/\Q b δ
def Ž(o:Option DS)(N:ZO)(_w:Wt N:=⟨⟩):Prop:=∃δ,o=some δ/\N δ
def ő(o:Option (D×ZI))(i:Nat)(δ:DS)(Q:D->ZO)(_w:Wt Q:=⟨⟩):Prop:=∃ret ds',o=some (ret,ds')/\Q ret (δ.set i (some (.list ds')))
def S0:Prop:=aU (λ_=>(.stuck:Res Unit)) [] λ_ _=>bN (λ_=>.stuck) [] (λ_=>False) (λ_=>False) (λ_=>False) λ_ _=>False
def ă:S0=False:=rfl
def Œ:Nat->D->DS->Option DS
 |_,_,[]=>none
 |0,d,_::l=>some (some d::l)
 |n+1,d,a::l=>match Œ n d l with
  |some l=>some (a::l)
  |none=>none
def vT(o:ZL)(δ:DS)(Q:D->ZO)(_w:Wt Q:=⟨⟩):Prop:=match o with
 |some r=>Q r δ
 |none=>S0
def gK(o:Option (ZL))(δ:DS)(Q:D->ZO)(_w:Wt Q:=⟨⟩):Prop:=match o with
 |some (some d)=>Q d δ
 |_=>S0
def EB(i:Nat)(d:D)(δ:DS)(N:ZO)(_w:Wt N:=⟨⟩):Prop:=match Œ i d δ with
 |some l=>N l
 |none=>S0
def xI(d:D)(δ:DS)(Q:Bool->ZO)(_w:Wt Q:=⟨⟩):Prop:=match d with
 |.bool b=>Q b δ
 |_=>S0
def œ(o:Option DS)(N:ZO)(_w:Wt N:=⟨⟩):Prop:=match o with
 |some δ=>N δ
 |none=>S0
def VB(r:Res D)(is:ZH)(δ:DS)(Q:D->ZO)(_w:Wt Q:=⟨⟩):Prop:=match r with
 |.ok d os=>Q d (dG is (os.filterMap id) δ)
 |_=>S0
def VC(o:Option (ZI))(fn:ZI->Res D)(is:ZH)(δ:DS)(Q:D->ZO)(_w:Wt Q:=⟨⟩):Prop:=match o with
 |some ds=>VB (fn ds) is δ Q
 |none=>S0
def EC(o:Option (D×ZI))(i:Nat)(δ:DS)(Q:D->ZO)(_w:Wt Q:=⟨⟩):Prop:=match o with
 |some (ret,ds)=>Q ret (δ.set i (some (.list ds)))
 |none=>S0
def ž(o:Option (ZL))(i:Nat)(op:ZI->ZI->Option (D×ZI))(args:ZI)(δ:DS)(Q:D->ZO)(_w:Wt Q:=⟨⟩):Prop:=match o with
 |some (some (.list ds))=>EC (op ds args) i δ Q
 |_=>S0
def Ŕ(o:Option Nat)(ds:ZI)(v:D)(i:Nat)(δ:DS)(N:ZO)(_w:Wt N:=⟨⟩):Prop:=match o with
 |some j=>N (δ.set i (some (.list (ds.set j v))))
 |none=>S0
def ſ(o:Option (ZL))(k v:D)(i:Nat)(δ:DS)(N:ZO)(_w:Wt N:=⟨⟩):Prop:=match o,k with
 |some (some (.list ds)),.int n=>Ŕ (oE ds.length n) ds v i δ N
 |_,_=>S0
def i6:@vT=@SZ:=by funext o δ Q w;cases o<;>simp[vT,SZ,ă]
def l6:@gK=@EA:=by funext o δ Q w;rcases o with _|_|d<;>simp[gK,EA,ă]
def sH:@xI=@BT:=by funext d δ Q w;cases d<;>simp[xI,BT,ă]
def aBR:@œ=@Ž:=by funext o N w;cases o<;>simp[œ,Ž,ă]
def NB:@EC=@ő:=by
 funext o i δ Q w;rcases o with _|⟨r,ds⟩
 .simp[EC,ő,ă]
 .simp![EC,ő]
  exact propext ⟨λq=>⟨_,_,rfl,q⟩,λ⟨_,_,h,q⟩=>by cases h;exact q⟩
def NC:∀{δ:DS}{i:Nat}{d:D},Œ i d δ=if i<δ.length then some (δ.set i (some d))else none
 |[],i,d=>by cases i<;>rfl
 |a::l,0,d=>rfl
 |a::l,i+1,d=>by
  rw[Œ,NC (δ:=l)];by_cases h:i<l.length
  .rw[Â h,Â (show i+1<(a::l).length from Nat.succ_lt_succ h)];rfl
  .rw[Ã h,Ã (show ¬i+1<(a::l).length from λz=>h (Nat.lt_of_succ_lt_succ z))]
def aHV:@EB=@ż:=by
 funext i d δ N w;unfold EB ż;rw[NC];by_cases h:i<δ.length
 .simp[h]
 .simp[h,ă]
section
variable {δ:DS}{N:ZO}
def ψ:vT (some r) δ Q=Q r δ:=rfl
def aK1:gK (some (some d)) δ Q=Q d δ:=rfl
def aHW{Q:Bool->ZO}:xI (.bool b) δ Q=Q b δ:=rfl
def k_set:œ (some δ) N=N δ:=rfl
def k_fill:VC (some ds) fn is δ Q=VB (fn ds) is δ Q:=rfl
def aHX{os:DS}:VB (.ok d os) [] δ Q=Q d δ:=rfl
def aHY:VB (.ok d [some e]) [i] δ Q=Q d (δ.set i (some e)):=rfl
def aK2:ž (some (some (.list ds))) i op args δ Q=EC (op ds args) i δ Q:=rfl
def ω:EC (some (r,ds)) i δ Q=Q r (δ.set i (some (.list ds))):=rfl
def ϊ:ſ (some (some (.list ds))) (.int n) v i δ N=Ŕ (oE ds.length n) ds v i δ N:=rfl
def ϋ:Ŕ (some j) ds v i δ N=N (δ.set i (some (.list (ds.set j v)))):=rfl
def ό:vT (QB (.int i) (.int j)) δ Q=(IntMulOk i j/\Q (.int (i*j)) δ):=by
 rw[i6];refine propext ⟨λzQ=>?_,λzQ=>by let⟨h,p⟩:=zQ;exact ⟨_,aBE h,p⟩⟩;let⟨r,h,p⟩:=zQ;unfold QB iD at h;dsimp only at h;split at h
 .rename_i hc;cases h;exact⟨hc,p⟩
 .cases h
def ύ{d:D}:EC (KS ds [d]) i δ Q=(ds.length<sizeLine/\Q .none (δ.set i (some (.list (ds++[d]))))):=by
 rw[NB];refine propext ⟨λzQ=>?_,λzQ=>by let⟨h,p⟩:=zQ;exact ⟨_,_,Â h,p⟩⟩;let⟨r,d2,h,p⟩:=zQ;unfold KS at h;dsimp only at h;split at h
 .rename_i hc;cases h;exact⟨hc,p⟩
 .cases h
def VD{a b:ZI}:vT (KW (.list a) (.list b)) δ Q=(a.length+b.length<=sizeLine/\Q (.list (a++b)) δ):=by
 have e:KW (.list a) (.list b)=if a.length+b.length<=sizeLine then some (.list (a++b))else none:=rfl;rw[e];rw[i6];unfold SZ;split
 .rename_i h;simp[h]
 .rename_i h;simp[h]
def aHZ:EB 0 d (a0::δ) N=N (some d::δ):=rfl
def aH0:EB 1 d (a0::a1::δ) N=N (a0::some d::δ):=rfl
def aH1:EB 2 d (a0::a1::a2::δ) N=N (a0::a1::some d::δ):=rfl
def aH2:EB 3 d (a0::a1::a2::a3::δ) N=N (a0::a1::a2::some d::δ):=rfl
def aH3:EB 4 d (a0::a1::a2::a3::a4::δ) N=N (a0::a1::a2::a3::some d::δ):=rfl
def aH4:EB 5 d (a0::a1::a2::a3::a4::a5::δ) N=N (a0::a1::a2::a3::a4::some d::δ):=rfl
def aH5:EB 6 d (a0::a1::a2::a3::a4::a5::a6::δ) N=N (a0::a1::a2::a3::a4::a5::some d::δ):=rfl
def aH6:EB 7 d (a0::a1::a2::a3::a4::a5::a6::a7::δ) N=N (a0::a1::a2::a3::a4::a5::a6::some d::δ):=rfl
def aH7:EB 8 d (a0::a1::a2::a3::a4::a5::a6::a7::a8::δ) N=N (a0::a1::a2::a3::a4::a5::a6::a7::some d::δ):=rfl
def aH8:EB 9 d (a0::a1::a2::a3::a4::a5::a6::a7::a8::a9::δ) N=N (a0::a1::a2::a3::a4::a5::a6::a7::a8::some d::δ):=rfl
def aBS:EB 10 d (a0::a1::a2::a3::a4::a5::a6::a7::a8::a9::a10::δ) N=N (a0::a1::a2::a3::a4::a5::a6::a7::a8::a9::some d::δ):=rfl
def aBT:EB 11 d (a0::a1::a2::a3::a4::a5::a6::a7::a8::a9::a10::a11::δ) N=N (a0::a1::a2::a3::a4::a5::a6::a7::a8::a9::a10::some d::δ):=rfl
def ND:EB 12 d (a0::a1::a2::a3::a4::a5::a6::a7::a8::a9::a10::a11::a12::δ) N=N (a0::a1::a2::a3::a4::a5::a6::a7::a8::a9::a10::a11::some d::δ):=rfl
def NE:EB 13 d (a0::a1::a2::a3::a4::a5::a6::a7::a8::a9::a10::a11::a12::a13::δ) N=N (a0::a1::a2::a3::a4::a5::a6::a7::a8::a9::a10::a11::a12::some d::δ):=rfl
def NF:EB 14 d (a0::a1::a2::a3::a4::a5::a6::a7::a8::a9::a10::a11::a12::a13::a14::δ) N=N (a0::a1::a2::a3::a4::a5::a6::a7::a8::a9::a10::a11::a12::a13::some d::δ):=rfl
def NG:EB 15 d (a0::a1::a2::a3::a4::a5::a6::a7::a8::a9::a10::a11::a12::a13::a14::a15::δ) N=N (a0::a1::a2::a3::a4::a5::a6::a7::a8::a9::a10::a11::a12::a13::a14::some d::δ):=rfl
end
section
def BU:bN (eK u v) δ N B C R=bN u δ (λδ1=>bN v δ1 N B C R) B C R:=by
 refine propext ⟨λh=>?_,U4⟩;unfold bN eK at *;cases e:u δ with
 |stuck=>rw[e]at h;exact h
 |ok fl d=>rw[e]at h;cases fl<;>exact h
def VE:bN wZ δ N B C R=N δ:=rfl
def ώ:bN (λδ=>.ok .brk δ) δ N B C R=B δ:=rfl
def VF:bN (λδ=>.ok .cont δ) δ N B C R=C δ:=rfl
def Ϗ:bN (jG i f) δ N B C R=aU f δ λd δ1=>EB i d δ1 N:=by
 rw[aHV];unfold bN jG aU ż;cases f δ with
 |ok a d=>
  dsimp![Res.bind];by_cases h:i<d.length
  .rw[Â h]
   exact propext ⟨λq=>⟨h,q⟩,And.right⟩
  .rw[Ã h]
   exact propext ⟨False.elim,λq=>h q.1⟩
 |_=>rfl
def ϐ:bN (pF f) δ N B C R=aU f δ R:=by
 unfold bN pF aU;cases f δ<;>rfl
def VG:bN (BJ f) δ N B C R=aU f δ λ_ δ1=>N δ1:=by
 unfold bN BJ aU;cases f δ<;>rfl
def ϑ:bN (qJ c u v) δ N B C R=aU c δ λb δ1=>if b=true then bN u δ1 N B C R else bN v δ1 N B C R:=by
 refine propext ⟨λh=>?_,aKX⟩;unfold bN qJ at h;unfold aU;cases e:c δ with
 |stuck=>rw[e]at h;exact h
 |ok b d=>
  rw[e]at h;cases b
  .exact h
  .exact h
def ϒ{set:D->DS->Option DS}:bN (Ź set f) δ N B C R=aU f δ λd δ1=>œ (set d δ1) N:=by
 rw[aBR];unfold bN Ź aU Ž;cases f δ with
 |stuck=>rfl
 |ok a d=>
  simp![Res.bind];cases set a d<;>simp
def ϓ:aU (bF i) δ Q=gK δ[i]? δ Q:=by
 rw[l6];unfold aU bF EA;cases δ[i]? with
 |none=>simp
 |some o=>cases o<;>simp
def ϔ:aU (dC d) δ Q=Q d δ:=rfl
def ϕ:aU (iF op f g) δ Q=aU f δ λa δ1=>aU g δ1 λb δ2=>vT (op a b) δ2 Q:=by
 rw[i6];unfold aU iF SZ;cases f δ with
 |stuck=>rfl
 |ok a d=>
  simp![Res.bind];cases g d with
  |stuck=>rfl
  |ok b d=>dsimp only;cases op a b<;>simp
def ϖ:aU (sC op f) δ Q=aU f δ λa δ1=>vT (op a) δ1 Q:=by
 rw[i6];unfold aU sC SZ;cases f δ with
 |stuck=>rfl
 |ok a d=>simp![Res.bind];cases op a<;>simp
def NH{Q:ZI->ZO}:aU (bA []) δ Q=Q [] δ:=rfl
def VH{Q:ZI->ZO}:aU (bA (f::fs)) δ Q=aU f δ λa δ1=>aU (bA fs) δ1 λds δ2=>Q (a::ds) δ2:=by
 unfold aU;rw[bA];dsimp only;cases f δ with
 |stuck=>rfl
 |ok a d=>
  simp![Res.bind];cases bA fs d<;>rfl
def ϗ:aU (JW op fs) δ Q=aU (bA fs) δ λds δ1=>vT (op ds) δ1 Q:=by
 rw[i6];unfold aU JW SZ;cases bA fs δ with
 |stuck=>rfl
 |ok a d=>simp![Res.bind];cases op a<;>simp
def Ϙ:aU (P8 fs) δ Q=aU (bA fs) δ λds δ1=>ds.length<=sizeLine/\Q (.tuple ds) δ1:=by
 unfold aU P8;cases bA fs δ with
 |stuck=>rfl
 |ok a d=>
  simp![Res.bind];split
  .rename_i z;split at z
   .rename_i h;cases z;simp[h]
   .cases z
  .rename_i z
   split at z
   .rename_i h
    exact absurd rfl (z _ _)
   .rename_i h;simp[h]
def ϙ:aU (KQ fs) δ Q=aU (bA fs) δ λds δ1=>ds.length<=sizeLine/\Q (.list ds) δ1:=by
 unfold aU KQ;cases bA fs δ with
 |stuck=>rfl
 |ok a d=>
  simp![Res.bind];split
  .rename_i z;split at z
   .rename_i h;cases z;simp[h]
   .cases z
  .rename_i z
   split at z
   .rename_i h
    exact absurd rfl (z _ _)
   .rename_i h;simp[h]
def Ϛ{Q:Bool->ZO}:aU (dB f) δ Q=aU f δ λa δ1=>xI a δ1 Q:=by
 rw[sH];unfold aU dB BT;cases f δ with
 |stuck=>rfl
 |ok a d=>cases a<;>simp[Res.bind]
def VI{Q:Bool->ZO}:aU (pV c) δ Q=aU c δ λb δ1=>Q (!b) δ1:=by
 unfold aU pV;cases c δ<;>rfl
def VJ:aU (BN f) δ Q=aU f δ λa δ1=>xI a δ1 λb δ2=>Q (.bool (!b)) δ2:=by
 rw[sH];unfold aU BN BT;cases f δ with
 |stuck=>rfl
 |ok a d=>cases a<;>simp[Res.bind]
def ϛ{Q:Bool->ZO}:aU (P7 c c') δ Q=aU c δ λb δ1=>if b=true then Q true δ1 else aU c' δ1 Q:=by
 unfold aU P7;cases c δ with
 |stuck=>rfl
 |ok b d=>cases b<;>rfl
def VL{Q:Bool->ZO}:aU (GJ c c') δ Q=aU c δ λb δ1=>if b=true then aU c' δ1 Q else Q false δ1:=by
 unfold aU GJ;cases c δ with
 |stuck=>rfl
 |ok b d=>cases b<;>rfl
def VM:aU (mO f g) δ Q=aU f δ λa δ1=>xI a δ1 λb δ1=>if b=true then aU g δ1 Q else Q (.bool false) δ1:=by
 rw[sH];unfold aU mO BT;cases f δ with
 |stuck=>rfl
 |ok a d=>
  cases a with
  |bool b=>cases b<;>simp[Res.bind]
  |_=>simp[Res.bind]
def Ϝ:aU (UP f g) δ Q=aU f δ λa δ1=>xI a δ1 λb δ1=>if b=true then Q (.bool true) δ1 else aU g δ1 Q:=by
 rw[sH];unfold aU UP BT;cases f δ with
 |stuck=>rfl
 |ok a d=>
  cases a with
  |bool b=>cases b<;>simp[Res.bind]
  |_=>simp[Res.bind]
def VN:aU (iU fn as) δ Q=aU (dH as) δ λods δ1=>VC (eZ δ1 as ods) fn (aY as) δ1 Q:=by
 unfold aU iU VC VB;cases dH as δ with
 |ok ods d=>
  dsimp![Res.bind];cases eZ d as ods with
  |none=>rfl
  |some ds=>
   dsimp only;cases fn ds<;>rfl
 |_=>rfl
def NI{Q:List (ZL)->ZO}:aU (dH []) δ Q=Q [] δ:=rfl
def NJ{Q:List (ZL)->ZO}:aU (dH (.val f::as)) δ Q=aU f δ λa δ1=>aU (dH as) δ1 λds δ2=>Q (some a::ds) δ2:=by
 unfold aU;rw[dH];dsimp only;cases f δ with
 |stuck=>rfl
 |ok a d=>simp![Res.bind];cases dH as d<;>rfl
def NK{Q:List (ZL)->ZO}:aU (dH (.own j::as)) δ Q=gK δ[j]? δ λ_ δ=>aU (dH as) δ λds δ2=>Q (none::ds) δ2:=by
 rw[l6];unfold aU EA;rw[dH];dsimp only;cases δ[j]? with
 |none=>simp
 |some o=>
  cases o with
  |none=>simp
  |some d=>
   simp![Option.some.injEq,exists_eq_left'];cases dH as δ<;>rfl
def ϝ:aU (KR i op fs) δ Q=gK δ[i]? δ λ_ _=>aU (bA fs) δ λargs δ1=>ž δ1[i]? i op args δ1 Q:=by
 unfold aU KR gK ž EC;cases δ[i]? with
 |none=>rfl
 |some o=>
  cases o with
  |none=>rfl
  |some d=>
   dsimp only;cases bA fs δ with
   |ok args δ1=>
    dsimp![Res.bind];cases δ1[i]? with
    |none=>rfl
    |some o=>
     cases o with
     |none=>rfl
     |some d=>
      cases d with
      |list ds=>
       dsimp only;cases op ds args with
       |none=>rfl
       |some p=>rfl
      |_=>rfl
   |_=>rfl
def Ϟ:aU (UM i fk) δ Q=gK δ[i]? δ λ_ _=>aU fk δ λk δ1=>gK δ1[i]? δ1 λd δ1=>vT (fM d k) δ1 Q:=by
 unfold aU UM gK vT;cases δ[i]? with
 |none=>rfl
 |some o=>
  cases o with
  |none=>rfl
  |some d=>
   dsimp only;cases fk δ with
   |ok k δ1=>
    dsimp![Res.bind];cases δ1[i]? with
    |none=>rfl
    |some o=>
     cases o with
     |none=>rfl
     |some d=>
      dsimp only;cases fM d k<;>rfl
   |_=>rfl
def ϟ:bN (UL i fk fv) δ N B C R=aU fv δ λv δ1=>gK δ1[i]? δ1 λ_ δ1=>aU fk δ1 λk δ2=>ſ δ2[i]? k v i δ2 N:=by
 unfold bN UL aU gK ſ Ŕ;cases fv δ with
 |ok w δ1=>
  dsimp![Res.bind];cases δ1[i]? with
  |none=>rfl
  |some o=>
   cases o with
   |none=>rfl
   |some d=>
    dsimp only;cases fk δ1 with
    |ok k δ2=>
     dsimp only;cases δ2[i]? with
     |none=>rfl
     |some o=>
      cases o with
      |none=>rfl
      |some d=>
       cases d with
       |list ds=>
        cases k with
        |int n=>
         dsimp only;cases oE ds.length n<;>rfl
        |_=>rfl
       |_=>rfl
    |_=>rfl
 |_=>rfl
def VO:aU (GQ i) δ Q=gK δ[i]? δ λd δ=>vT (lV [d]) δ Q:=by
 rw[l6,i6];unfold aU GQ EA SZ;cases δ[i]? with
 |none=>simp
 |some o=>
  cases o with
  |none=>simp
  |some d=>
   simp![Option.some.injEq,exists_eq_left'];cases e:lV [d]<;>simp
def Ϡ:aU (ħ c f g) δ Q=aU c δ λb δ1=>if b=true then aU f δ1 Q else aU g δ1 Q:=by
 unfold aU ħ;cases c δ with
 |stuck=>rfl
 |ok b d=>cases b<;>rfl
def aK8{i j:Int}:KW (.int i) (.int j)=some (.int (i+j)):=rfl
def aK9{i j:Int}:Ŵ (.int i) (.int j)=some (.int (i-j)):=rfl
def ϡ{i:Int}:ŵ (.int i)=some (.int (-i)):=rfl
def aN3{i j:Int}:Ŋ (.int i) (.int j)=some (.bool (decide (i<j))):=rfl
def aN4{i j:Int}:Ĩ (.int i) (.int j)=some (.bool (decide (i<=j))):=rfl
def aN5{i j:Int}:π (.int i) (.int j)=some (.bool (decide (j<i))):=rfl
def aN6{i j:Int}:aPR (.int i) (.int j)=some (.bool (decide (j<=i))):=rfl
def K4{i j:Int}:SX (.int i) (.int j)=some (.bool (decide (i=j))):=by rw[aBF];congr 2
def Ϣ{i j:Int}:DZ (.int i) (.int j)=some (.bool (decide (i≠j))):=by
 rw[M5];congr 2;rw[Bool.eq_iff_iff];simp
def ϣ{i j:Bool}:DZ (.bool i) (.bool j)=some (.bool (decide (i≠j))):=by
 rw[UY];congr 2;cases i<;>cases j<;>rfl
def NL{i j:Int}(h:0<j):DX (.int i) (.int j)=some (.int (i % j)):=GX h
def aBU{i j:Int}(h:0<j)(h2:fK 9000 j):GS (.int i) (.int j)=some (.int (i/j)):=QG h (fK.log2 h2)
def Ϥ{i:Int}:Ŷ [.int i]=some (.int (i.natAbs:Int)):=by
 show some (PyData.int (if i<0 then -i else i))=_;congr 2;split<;>lia
def VP:lV [.list ds]=some (.int ds.length):=rfl
def aH9:lV [.tuple ds]=some (.int ds.length):=rfl
def aLB{i:Int}:fM (.list ds) (.int i)=atI ds i:=rfl
def aLC{i:Int}:fM (.tuple ds) (.int i)=atI ds i:=rfl
def xJ{as:List α}:atI (a::as) 0=some a:=dP (j:=0) rfl
def ϥ{as:List α}(h:k<as.length):atI as (k:Int)=some as[k]:=dP (Ê h)
def sI{as:List α}:atI (a::b::as) 1=some b:=dP (j:=1) rfl
def pY{a b c:α}:atI (a::b::c::as) 2=some c:=dP (j:=2) rfl
def BV{a b c d:α}:atI (a::b::c::d::as) 3=some d:=dP (j:=3) rfl
def VQ{a b c d e:α}:atI (a::b::c::d::e::as) 4=some e:=dP (j:=4) rfl
def Ϧ{a b c d e f:α}:atI (a::b::c::d::e::f::as) 5=some f:=dP (j:=5) rfl
def ϧ{a b c d e f g:α}:atI (a::b::c::d::e::f::g::as) 6=some g:=dP (j:=6) rfl
end
def NM(h:n<=1000):(n<=sizeLine)=True:=eq_true (Ü h ⋯)
def aN7:gA .bool (.bool b)=some (.bool true):=rfl
def cZ{d:D}(h:aU f δ λa δ1=>a=d/\δ1=δ):f δ=.ok d δ:=by
 let⟨a,δ1,e,rfl,rfl⟩:=h.ex;exact e
def xK{f e:M D}{δ:DS}{n:Int}{g:Nat->D}(hf:f δ=.ok (.int n) δ)(h0:0<=n)(h1:n<2^20)(he:∀k:Nat,(k:Int)<n->aU e (some (.int k)::δ) λa δ1=>a=g k/\δ1=some (.int k)::δ):eD 1 (setN 0) (pG [f]) eE e δ=.ok (.list ((List.range n.toNat).map g)) δ:=by
 have hr:pG [f] δ=.ok (jH 0 n.toNat) δ:=by
  simp![pG,bA,hf,aW,kR];rw[Â ⟨∅,∅⟩]
 have:=BS (e:=e) (g:=λd=>match d with|.int i=>g i.toNat|_=>.none) hr (λd hd=>by
  let⟨k,hk,rfl⟩:=Õ.mp hd;have hk:=List.mem_range.mp hk;have:=cZ (he k ∅);rw[Int.zero_add];exact this) (by rw[fV];show n.toNat<=2^24;lia)
 rw[this,jH];simp
def wB{set:D->DS->Option DS}{u:M Fl}{f:M D}{δ δ1:DS}{N B C:ZO}{R:D->ZO}{j:Int}(I:Nat->ZO)(hf:f δ=.ok (.int j) δ1)(hj:-1000<=j)(hj2:j<=1000)(h0:I 0 δ1)(hs:∀(k:Nat)(δ:DS),(k:Int)<j->I k δ->∃δ1,set (.int k) δ=some δ1/\bN u δ1 (I (k+1)) N (I (k+1)) R)(hN:∀δ,I j.toNat δ->N δ):bN (nA set (pG [f]) u) δ N B C R:=
 U5 I hf ∅ ∅ h0 hs hN
def xL{set:D->DS->Option DS}{u:M Fl}{f:M D}{δ δ1:DS}{N B C:ZO}{R:D->ZO}{j:Nat}(I:Nat->ZO)(hf:f δ=.ok (.int (j:Int)) δ1)(hj:j<=1000)(h0:I 0 δ1)(hs:∀(k:Nat)(δ:DS),k<j->I k δ->∃δ1,set (.int k) δ=some δ1/\bN u δ1 (I (k+1)) N (I (k+1)) R)(hN:∀δ,I j δ->N δ):bN (nA set (pG [f]) u) δ N B C R:=
 wB I hf ∅ ∅ h0 (λk δ hk=>hs k δ ∅) λδ h=>hN δ (by rwa [ü]at h)
def kY{P:D->Prop}(h:bN body (ds.map some++List.replicate (m0-ds.length) none) (λ_=>False) (λ_=>False) (λ_=>False) λr _=>P r):∃r,aR m0 [] rm body ds=.ok r []/\P r:=by
 let⟨fl,δ1,e,q⟩:=h.ex;cases fl with
 |ret r=>exact⟨r,by unfold aR;rw[e];rfl,q⟩
 |next=>exact q.elim
 |brk=>exact q.elim
 |cont=>exact q.elim
end L2
namespace L2
open PySem
def aLE{α β:Type}{f:α->β}{a:α}:(some a).map f=some (f a):=rfl
def aN8{α β:Type}{f:α->Option β}:List.filterMap f []=[]:=rfl
def aN9{α:Type}{a:α}{l:List α}:(a::l)[i+1]?=l[i]?:=rfl
def aOA{α:Type}{a:α}{l:List α}:(a::l)[0]?=some a:=rfl
def Ϩ{α:Type}{a b:α}:(some a=some b)=(a=b):=by simp
def ϩ{α:Type}{p:α->Prop}{a:α}:(∃x,a=x/\p x)=p a:=by simp
def aOB{α:Type}{a:α}{l:List α}:(a::l).length=l.length+1:=rfl
def aOC{α:Type}:([]:List α).length=0:=rfl
def aOD{α:Type}{a x:α}{l:List α}:(a::l).set (i+1) x=a::l.set i x:=rfl
def aOE{α:Type}{a x:α}{l:List α}:(a::l).set 0 x=x::l:=rfl
def Ϫ{a b:Prop}:(if True then a else b)=a:=by simp
def ϫ{a b:Prop}:(if False then a else b)=b:=by simp
def aPV:type_of% (Æ @BU <| Æ @VE <| Æ @ώ <| Æ @VF <| Æ @Ϗ <| Æ @ϐ <| Æ @VG <| Æ @ϑ <| Æ @ϒ <| Æ @ϓ <| Æ @ϔ <| Æ @ϕ <| Æ @ϖ <| Æ @NH <| Æ @VH <| Æ @ϗ <| Æ @Ϙ <| Æ @ϙ <| Æ @Ϛ <| Æ @VI <| Æ @VJ <| Æ @ϛ <| Æ @VL <| Æ @VM <| Æ @Ϝ <| Æ @VN <| Æ @NI <| Æ @NJ <| Æ @NK <| Æ @ϝ <| Æ @Ϟ <| Æ @ϟ <| Æ @VO <| Æ @Ϡ <| Æ @ϡ <| Æ @K4 <| Æ @Ϣ <| Æ @ϣ <| Æ @Ϥ <| Æ @xJ <| Æ @sI <| Æ @pY <| Æ @BV <| Æ @VQ <| Æ @Ϧ <| Æ @ϧ <| Æ @NM <| Æ @ϊ <| Æ @ϋ <| Æ @ό <| Æ @ύ <| Æ @VD <| Æ @ND <| Æ @NE <| Æ @NF <| Æ @NG <| Æ @Ϩ <| Æ @ϩ <| Æ @Nat.zero_add <| Æ @true_and <| Æ @and_true <| Æ @Res.ok.injEq <| Æ @PySem.PyData.bool.injEq <| Æ @PySem.PyData.int.injEq <| Æ @PySem.PyData.list.injEq <| Æ @PySem.PyData.tuple.injEq <| Æ @Bool.not_true <| Æ @Bool.not_false <| Æ @Bool.false_eq_true <| Æ @Ϫ <| @ϫ):=
 Æ @BU <| Æ @VE <| Æ @ώ <| Æ @VF <| Æ @Ϗ <| Æ @ϐ <| Æ @VG <| Æ @ϑ <| Æ @ϒ <| Æ @ϓ <| Æ @ϔ <| Æ @ϕ <| Æ @ϖ <| Æ @NH <| Æ @VH <| Æ @ϗ <| Æ @Ϙ <| Æ @ϙ <| Æ @Ϛ <| Æ @VI <| Æ @VJ <| Æ @ϛ <| Æ @VL <| Æ @VM <| Æ @Ϝ <| Æ @VN <| Æ @NI <| Æ @NJ <| Æ @NK <| Æ @ϝ <| Æ @Ϟ <| Æ @ϟ <| Æ @VO <| Æ @Ϡ <| Æ @ϡ <| Æ @K4 <| Æ @Ϣ <| Æ @ϣ <| Æ @Ϥ <| Æ @xJ <| Æ @sI <| Æ @pY <| Æ @BV <| Æ @VQ <| Æ @Ϧ <| Æ @ϧ <| Æ @NM <| Æ @ϊ <| Æ @ϋ <| Æ @ό <| Æ @ύ <| Æ @VD <| Æ @ND <| Æ @NE <| Æ @NF <| Æ @NG <| Æ @Ϩ <| Æ @ϩ <| Æ @Nat.zero_add <| Æ @true_and <| Æ @and_true <| Æ @Res.ok.injEq <| Æ @PySem.PyData.bool.injEq <| Æ @PySem.PyData.int.injEq <| Æ @PySem.PyData.list.injEq <| Æ @PySem.PyData.tuple.injEq <| Æ @Bool.not_true <| Æ @Bool.not_false <| Æ @Bool.false_eq_true <| Æ @Ϫ <| @ϫ
end L2
namespace L2
open PySem PySem.Spec
structure Sh(k:Nat)(d:D):Prop where
 lay:d.canLay0=true
 dep:d.depth<=k
def VR :∀{ds:ZI},(∀d∈ds,Sh k d)->PyData.canLayAll0 ds=true/\PyData.depthAll ds<=k
 |[],_=>⟨by simp[PyData.canLayAll0],by simp[PyData.depthAll]⟩
 |d::ds,h=>by
  let⟨h1,h2⟩:=VR (ds:=ds) λx hx=>h x (Ó _ hx);have hd:=h d Ô;refine⟨by simp[PyData.canLayAll0,hd.lay,h1],?_⟩;have:=hd.dep;simp![PyData.depthAll];lia
def VS{ds:ZI}(h:∀d∈ds,Sh k d):Sh (k+1) (.tuple ds):=by
 let⟨h1,h2⟩:=VR h;exact⟨by simpa[PyData.canLay0]using h1,by simp![PyData.depth];exact Nat.lt_succ_of_le ‹_›⟩
def Sh.shaped(h:Sh k d)(e:k<=64):SeqAt.shaped d=true:=by
 unfold SeqAt.shaped;rw[h.lay,decide_eq_true (Ü h.dep e)];rfl
def NO:M3 [.list ds]=some (.list ds):=rfl
def aLI{xs:ZK}:Ŏ [.list (xs.map PyData.int)]=some (.int xs.sum):=by
 show (cQ (xs.map PyData.int)).map _=_;rw[iX];rfl
def sJ{k:Nat}(h:k<=ds.length):D3 (.list ds) (some (k:Int)) none=some (.list (ds.drop k)):=by
 show some (PyData.list (GV ds (some (k:Int)) none))=_;unfold GV;rw[HT.sIx_none,HT.sIx_nat,Nat.min_eq_left h,List.take_of_length_le 'f']
section
def VT:aU (ĩ op f lo hi) δ Q=aU f δ λd δ1=>aU (kB lo) δ1 λl δ2=>aU (kB hi) δ2 λu δ3=>vT (op d l u) δ3 Q:=by
 rw[i6];unfold aU ĩ SZ;cases f δ with
 |stuck=>rfl
 |ok a d=>
  simp![Res.bind];cases kB lo d with
  |stuck=>rfl
  |ok l d=>
   dsimp only;cases kB hi d with
   |stuck=>rfl
   |ok u d=>dsimp only;cases op a l u<;>simp
def ŕ(d:D)(δ:DS)(Q:Option Int->ZO)(_w:Wt Q:=⟨⟩):Prop:=∃i,d=.int i/\Q (some i) δ
def BW{Q:Option Int->ZO}:ŕ (.int i) δ Q=Q (some i) δ:=by unfold ŕ;simp
def uL{Q:Option Int->ZO}:aU (kB none) δ Q=Q none δ:=rfl
def uM{Q:Option Int->ZO}:aU (kB (some f)) δ Q=aU f δ λd δ1=>ŕ d δ1 Q:=by
 unfold aU kB ŕ;dsimp only;cases f δ with
 |stuck=>rfl
 |ok a d=>cases a<;>simp[Res.bind]
end
end L2
namespace L2
open PySem PySem.Spec PyProof.Rows
section
variable {X:Cx}{Z:cN}{ow:ZH}{pos:Pos}
def cB.give{K:ZC}{d:D}(S:aP Z ow)(hps:i∉Z.ps)(R:cB K Z ow F H σ δ)(e:δ[i]?=some (some d)):∃v,σ[i]?=some (some v)/\gF K Z ow (ow.getD i 0) d v F H σ (δ.set i none):=by
 let⟨g,R⟩:=R;let⟨v,e1,o⟩:=R.slot i d e;refine⟨v,e1,λb=>match g b with|some (j,p)=>if j=i then some (1000,p)else if j=1000 then none else some (j,p)|none=>none,⟨R.sub,R.f0,R.kept,R.new,R.there,λa j p e=>?_,by rw[Î];exact R.len,R.par,λj d' e=>?_⟩,?_⟩
 .cases q:g a with
  |none=>rw[q]at e;cases e
  |some l=>
   let⟨j',p'⟩:=l;rw[q]at e;have e:(if j'=i then some (1000,p')else if j'=1000 then none else some (j',p'))=some (j,p):=e;split at e
   .rename_i z
    refine .inl ((R.lab a j' p' q).elim id λzQ=>by let⟨q',w⟩:=zQ;exact absurd (Z.wf a j' q' w) (by rw[z];exact hps))
   .split at e
    .cases e
    .cases e;exact R.lab a j p q
 .have hj:j≠i:=λz=>by
   subst z;by_cases hl:j<δ.length
   .rw[ß hl]at e;cases e
   .rw[ç (by rw[Î];exact è.mp ‹_›)]at e;cases e
  rw[Ù (Ñ hj)]at e;let⟨w,e1,o1⟩:=R.slot j d' e;refine⟨w,e1,?_⟩;by_cases hz:ow.getD j 0=0
  .rw[hz]at o1⊢;exact o1
  .have j1:j<1000:=by
    by_cases hl:j<ow.length
    .exact Ú hl S.ow
    .exact absurd (by rw[Ë,ç (by exact è.mp ‹_›)];rfl) hz
   exact o1.relab λa p e=>by
    rw[e];dsimp only;rw[Ã hj,Ã (by exact Ï ‹_›)]
 .exact o.relab λa p e=>by
   rw[e];exact Â rfl
def NP(i:Nat):M D:=λδ=>match δ[i]? with
 |some (some d)=>.ok d (δ.set i none)
 |_=>.stuck
def ED(i:Nat){x:Str}(S:aP Z ow)(ho:↥(ow.getD i 0=n))(hps:↥(Z.ps.contains i=false))(hN:↥(X.N[i]?=some x))(hv:#v[AI X.env.scope x])(hd:⇑(Zdb x))(hcd:⇑(Zcd x)):DE X Z ow n (.Name x pos) (NP i):=
 (c9 hN hv hd hcd).mono λσ H Q h=>by
  let⟨F,δ,R,h⟩:=h;unfold NP at h;cases e:δ[i]? with
  |none=>rw[e]at h;exact h.elim
  |some o=>
   cases o with
   |none=>rw[e]at h;exact h.elim
   |some d=>
    rw[e]at h;let⟨v,e1,R'⟩:=R.give S (cP hps) e;rw[ho]at R';exact⟨v,e1,h v H F R' λ_ _ z=>z⟩
end
def fZ:Option Int->ZK->Option Int
 |o,[]=>o
 |none,x::xs=>fZ (some x) xs
 |some m,x::xs=>fZ (some (if x>m then x else m)) xs
def Ϭ:ZN->Array Value
 |none=>#[]
 |some v=>#[v,v]
def aLJ(b:Option Int)(o:ZN):Prop:=match b,o with
 |none,none=>True
 |some m,some v=>∃t,v=.int m t
 |_,_=>False
section
variable {prog:Program}{w:World}{A:Around}{E:ZA}{s:Shared}
def G0(a d:Value):argsOk "max" ⟨[a],[("default",d)]⟩:=by unfold argsOk;kernel_rfl
def xM:∀o:ZN,(Ϭ o).size<=sizeLine
 |none=>by show 0<=sizeLine;decide
 |some _=>by show 2<=sizeLine;decide
def aBW{x m:Int}{t t':Tok}{Q:ZA}(h:Q (.bool (decide (x>m))) s):wpAny (model prog w) A (richCompare .Gt (.int x t) (.int m t')) Q E s:=CmpOf.ints_gt (P:=λi v=>∃t,v=.int (if i=0 then x else m) t) (λi=>if i=0 then x else m) (λ_ _ h=>h) 0 1 _ _ s Q E ⟨t,rfl⟩ ⟨t',rfl⟩ (by simpa using h)
def QJ{R:Result->Shared->Prop}{I S:Addr}{fp wr:ZM}{n:Nat}{P:Nat->Value->Prop}{St:Nat->Heap->Prop}{dv:Value}{xs:ZK}(W:Walks prog w A.in1 I fp wr n P St)(hP:∀i v,P i v->∃x t,xs[i]?=some x/\v=.int x t)(hx:xs.length=n)(hSf:S∉fp):
  ∀(k i:Nat)(s:Shared)(b:Option Int)(o:ZN)(c:Nat),n-i=k->i<=n->St i s.heap->aLJ b o->s.heap.get? S=some {cls:=.type "list",dict:=none,data:=.seq (Ϭ o) c,slots:=#[]} ->
  (∀v h' tk,(match fZ b (xs.drop i)with|none=>v=dv|some m=>∃t,v=.int m t)->(∀b o,b∉wr->b≠S->s.heap.get? b=some o->h'.get? b=some o)->R (.ok (.ret v)) {s with heap:=h',toks:=tk}) ->
  codeAny (model prog w) A (.builtin "max.loop" ⟨[.ref I,.none,.ref S],[("default",dv)]⟩) R s:=by
 have hSw:S∉wr:=λh=>hSf (W.sub _ h);have nm:(toString "max"++toString ".loop":String)="max.loop":=by decide
 intro k
 induction k with
 |zero=>
  intro i s b o c hk hi hst hb hS hR;obtain rfl:i=n:=by lia
  rw[List.drop_of_length_le (by exact ú ‹_›),show fZ b []=b by cases b<;>rfl]at hR;refine codeAny_builtin F.entry_max_loop ?_;rw[Around.under_plainId F.plain_max_loop _];refine(show wpAny _ A.in1 (seqItems? (.ref S) >>= _) _ _ s from wpAny_bind (wpAny_seqItems hS rfl ?_));refine(show wpAny _ A.in1 (tryCatch (pyNext (.ref I)) _ >>= _) _ _ s from wpAny_bind (wpAny_tryCatch (W.done s _ _ hst λh' tk hk'=>?_)));cases o with
  |none=>
   cases b with
   |some m=>exact hb.elim
   |none=>exact wpAny_bind (wpAny_rule (wpAny_pure (hR dv h' tk rfl λb o h1 _ e=>hk' b o h1 e)))
  |some v=>
   cases b with
   |none=>exact hb.elim
   |some m=>
    refine(show wpAny _ A.in1 (updateSeq S (λ_=>#[]) >>= _) _ _ _ from wpAny_bind (wpAny_updateSeq (hk' S _ hSw hS) rfl (wpAny_bind (wpAny_letGo (wpAny_pure ?_))) (hz:=xM _) (_hz':=í _)));exact hR v _ tk hb λb o h1 h2 e=>(Heap.get?_update_other _ _ (Ñ h2)).trans (hk' b o h1 e)
 |succ k ih=>
  intro i s b o c hk hi hst hb hS hR;have hlt:i<n:=by lia
  refine codeAny_builtin F.entry_max_loop ?_;rw[Around.under_plainId F.plain_max_loop _];refine(show wpAny _ A.in1 (seqItems? (.ref S) >>= _) _ _ s from wpAny_bind (wpAny_seqItems hS rfl ?_));refine(show wpAny _ A.in1 (tryCatch (pyNext (.ref I)) _ >>= _) _ _ s from wpAny_bind (wpAny_tryCatch (W.item i s _ _ hlt hst λv h' tk hp hst' hk'=>?_)));have hS':=hk' S _ hSw hS;let⟨x,t,ex,rfl⟩:=hP i v hp;have ed:xs.drop i=x::xs.drop (i+1):=by
   let⟨h1,h2⟩:=Í.mp ex;rw[ñ h1,h2]
  rw[ed]at hR;have new:(∀v h' tk,(match fZ (some x) (xs.drop (i+1))with|none=>v=dv|some m=>∃t,v=.int m t)->(∀b o,b∉wr->b≠S->s.heap.get? b=some o->h'.get? b=some o)->R (.ok (.ret v)) {s with heap:=h',toks:=tk})->codeAny (model prog w) A (.builtin "max.loop" ⟨[.ref I,.none,.ref S],[("default",dv)]⟩) R {s with heap:=h'.update S (Obj.mapSeq λ_=>#[.int x t,.int x t]),toks:=tk}:=λhR=>ih (i+1) _ (some x) (some (.int x t)) _ ∅ hlt (W.frame _ _ _ hst' λb hbf o e=>(Heap.get?_update_other _ _ (λh:S=b=>hSf (by rw[h];exact hbf))).trans e) ⟨t,rfl⟩ (Heap.get?_update_self _ hS' rfl) λv h'' tk'' hv hk''=>hR v h'' tk'' hv λb o h1 h2 e=>hk'' b o h1 h2 ((Heap.get?_update_other _ _ (Ñ h2)).trans (hk' b o h1 e));cases o with
  |none=>
   cases b with
   |some m=>exact hb.elim
   |none=>
    refine(show wpAny _ A.in1 (updateSeq S (λ_=>#[.int x t,.int x t]) >>= _) _ _ _ from wpAny_bind (wpAny_updateSeq hS' rfl ?_ (hz:=xM _) (_hz':=(by show 2<=sizeLine+1;decide))));rw[nm];exact wpAny_pure ⟨plainId_quiet F.plain_max_loop _,new hR⟩
  |some vb=>
   cases b with
   |none=>exact hb.elim
   |some m=>
    let⟨t',rfl⟩:=hb;refine(show wpAny _ A.in1 (tryCatch (holding [.int x t,.int x t] (richCompare .Gt (.int x t) (.int m t') >>= _)) _ >>= _) _ _ _ from wpAny_bind (wpAny_tryCatch (wpAny_holding (wpAny_bind (aBW ?_)))));refine wpAny_bind (wpAny_holding (wpAny_truthy_bool (wpAny_bind (wpAny_letGo (wpAny_pure ?_)))));by_cases hg:x>m
    .rw[show fZ (some m) (x::xs.drop (i+1))=fZ (some x) (xs.drop (i+1)) by simp[fZ,hg]]at hR
     simp![hg,decide_true,if_true];refine wpAny_bind (wpAny_updateSeq hS' rfl (wpAny_bind (wpAny_letGo ?_)) (hz:=xM _) (_hz':=(by show 2<=sizeLine+1;decide)));rw[nm];exact wpAny_pure ⟨plainId_quiet F.plain_max_loop _,new hR⟩
    .rw[show fZ (some m) (x::xs.drop (i+1))=fZ (some m) (xs.drop (i+1)) by simp[fZ,hg]]at hR
     simp![hg,decide_false,Bool.false_eq_true,if_false];refine wpAny_bind (wpAny_letGo ?_);rw[nm];exact wpAny_pure ⟨plainId_quiet F.plain_max_loop _,ih (i+1) _ (some m) (some (.int m t')) c ∅ hlt hst' ⟨t',rfl⟩ hS' λv h'' tk'' hv hk''=>hR v h'' tk'' hv λb o h1 h2 e=>hk'' b o h1 h2 (hk' b o h1 e)⟩
def QK{x dv:Value}{xs:ZK}{Q:ZA}(h:wpAny (model prog w) A.in1 (pyIter x) (λit s₂=>∃I fp wr n P St,it=.ref I/\Walks prog w A.in1 I fp wr n P St/\St 0 s₂.heap/\(∀b∈fp,b<s₂.heap.objs.size)/\(∀i v,P i v->∃x t,xs[i]?=some x/\v=.int x t)/\xs.length=n /\
   ∀v h' tk,(match fZ none xs with|none=>v=dv|some m=>∃t,v=.int m t)->(∀b o,b∉wr->s₂.heap.get? b=some o->h'.get? b=some o)->Q v {s₂ with heap:=h',toks:=tk}) E s):wpAny (model prog w) A (call (.builtin "max") [x] [("default",dv)]) Q E s:=by
 have nm:(toString "max"++toString ".loop":String)="max.loop":=by decide
 refine wpAny_call (codeAny_call_builtin F.plain_max F.entry_max ?_);simp![checkBuiltinCall,F.kind_max];have key:wpAny (model prog w) A.in1 (Builtin.«max» ⟨[x],[("default",dv)]⟩) (λfin s'=>match fin with
   |.done f=>(match (Except.ok f:Result)with|.ok (.ret v)=>Q v s'|.ok _=>False|.error e=>E e s')
   |.again c'=>c'.quiet=true/\codeAny (model prog w) A c' (λr s'=>match r with|.ok (.ret v)=>Q v s'|.ok _=>False|.error e=>E e s') s') E s:=by
  refine(show wpAny _ A.in1 (Builtin.Builtins.bindParams "max" ["key","default"] 0 ⟨[],[("default",dv)]⟩ >>= _) _ _ s from wpAny_bind (wpAny_of_eq (show Builtin.Builtins.bindParams "max" ["key","default"] 0 ⟨[],[("default",dv)]⟩=pure [none,some dv]from rfl) ?_));refine wpAny_bind (wpAny_pure (wpAny_bind (wpAny_mono h (λit s₂ h₂=>?_) λ_ _ e=>e)));let⟨I,fp,wr,n,P,St,rfl,W,hst,hfp,hP,hx,hQ⟩:=h₂;refine wpAny_bind (wpAny_newObj_type ?_);have hSf:s₂.heap.objs.size∉fp:=λhm=>û _ (hfp _ hm);rw[nm];refine wpAny_pure ⟨plainId_quiet F.plain_max_loop _,QJ (dv:=dv) W hP hx hSf _ 0 _ none none _ rfl (í _) (W.frame _ _ _ hst λb _ o e=>Heap.get?_push_of_some _ e) trivial (Heap.get?_push_size _ rfl) λv h' tk hv hk=>?_⟩;rw[List.drop_zero]at hv;exact hQ v h' tk hv λb o hbw e=>hk b o hbw (Ï (Heap.lt_size e)) (Heap.get?_push_of_some _ e)
 have ha:=G0 x dv;cases hsig:Manifest.signature? "max"with
 |none=>exact wpAny_pure key
 |some sig=>
  simp![argsOk,hsig]at ha;have h2:Bind.checkArgs "max" sig ⟨[x],[("default",dv)]⟩=pure ():=ha;refine(show wpAny _ A.in1 (Bind.checkArgs "max" sig ⟨[x],[("default",dv)]⟩) _ _ s from ?_);rw[h2];exact wpAny_pure key
end
section
def aLK(X:Cx)(te tc:TE):TE:=λσ H Q=>MN te Ń σ H λvs H1=>tc σ H1 λd H2=>∃(p:Addr)(xs:ZK),vs=[.ref p]/\d8 X.K H2 p (xs.map V.int)/\Q (match fZ none xs with|none=>d|some m=>.int m) H2
def VU{À:ZB}{s:Shared}{σ:St}{H:Hp}{Q:VK}{p:Addr}{xs:ZK}{d:V}{dv:Value}(hc:X.calm=true)(I:Inv X À σ H s)(hq:d8 X.K H p (xs.map V.int))(rd:bI d dv)(q:Q (match fZ none xs with|none=>d|some m=>.int m) H):
  wpAny 'b' X.A (call (.builtin "max") [.ref p] [("default",dv)]) (EP X À σ Q) X.xe s:=by
 let⟨its,rv,pl,hz⟩:=I.list hq;refine QK (xs:=xs) (wpAny_pyIter_list pl.isList ?_);have hlen:=rv.length;rw[Å]at hlen;have hlt:p<s.heap.objs.size:=by
  let⟨o,n,e,_⟩:=pl;exact Heap.lt_size e
 have ph:Inv X À σ H {s with heap:=s.heap.push {cls:=.type "list_iterator",data:=.fields #[.ref p,.int 0 0]}}:=I.kept (t':=s.toks) λb o e=>Heap.get?_push_of_some _ e;let⟨its',rv',pl',_⟩:=ph.list hq;have e1:its=its':=by
  let⟨o,n,e,c,dn,d⟩:=pl;let⟨o',n',e',c',dn',d'⟩:=pl';have e2:=Heap.get?_push_of_some {cls:=.type "list_iterator",data:=.fields #[.ref p,.int 0 0]} e;rw[e2]at e';cases e';rw[d]at d';injection d' with d1 _;simpa using congrArg Array.toList d1
 subst e1;refine⟨s.heap.objs.size,_,_,_,_,_,rfl,Walks.list (A:=X.A.in1) (show X.A.in1.handled=none from I.ok.hd hc) s.heap.objs.size p (Ï hlt) its.toArray,⟨⟨_,Heap.get?_push_size _ rfl,rfl,rfl⟩,pl'.isList⟩,λb hb=>?_,λi v hv=>?_,by simp;assumption,λv h' tk hv k=>?_⟩
 .show b<(s.heap.push _).objs.size
  rw[Heap.size_push]
  grind
 .have hv:its.toArray[i]?=some v:=hv
  exact bH.int_at (i:=i) rv (by simpa using hv)
 .have I2:=ph.turned (it:=s.heap.objs.size) (h':=h') (t':=tk) (λb o hb e=>k b o (by simpa using hb) e) (I.hok.fresh (È _)) (Þ I.lt) (.inr I.sz) (λx c e=>by
   let⟨v,q⟩:=I.cell x c e;exact Ï q.lt) λp hp=>Ï (Heap.lt_size (I.pin p hp).1)
  refine⟨_,H,I2,?_,q⟩;cases eb:fZ none xs with
  |none=>grind
  |some m=>rw[eb]at hv;exact hv
def aBX{p pos kp:Pos}(hc:X.calm=true)(hg:Gl X "max")(hm:X.mg "max"=none)(ha:PE X e te)(hd:PE X c tc)(hs:↥(Zse e [] X.env))(hv:bootBuiltins "max"=some (.builtin "max"):=by decide +kernel):
  PE X (.Call (.Name "max" p) [e] [⟨some "default",c,kp⟩] pos) (aLK X te tc):=by
 intro À s σ H Q I h;refine wpAny_Call_Name_kw (hW I hg hm hv ?_ ⋯ ⋯);have a1:backTo pos (starEach [e] X.env)=(false,eval e X.env)::backTo pos (starEach [] X.env):=by rw[hs];rfl
 refine callWith_kw (cA ((dO ha iP hs) pos À s σ H _ I h) λus s1 zQ=>?_) a1 (by rw[a1];rfl) rfl rfl;let⟨vs,H1,I1,r,q⟩:=zQ;refine kws_cons (cA (hd À s1 σ H1 _ I1 q) λu s2⟨d,H2,I2,rd,q2⟩=>kws_nil ?_);let⟨l,xs,rfl,hq,q2⟩:=q2;let⟨u',rfl,rx⟩:=pO r;cases rx;exact VU hc I2 hq rd q2
def G1(f g:M D):M D:=λδ=>(f δ).bind λd δ1=>(g δ1).bind λe δ2=>match d,e with
 |.list ds,.int n=>(match cQ ds with
  |some xs=>.ok (.int ((fZ none xs).getD n)) δ2
  |none=>.stuck)
 |_,_=>.stuck
def aBY(hc:X.calm=true)(hg:Gl X "max")(hm:X.mg "max"=none)(ha:DE X Z ow 0 e f)(hd:DE X Z ow 0 c g)(hs:↥(Zse e [] X.env)):DE X Z ow 0 (.Call (.Name "max" p) [e] [⟨some "default",c,kp⟩] pos) (G1 f g):=
 (aBX hc hg hm ha hd hs).mono λσ H Q h=>by
  let⟨F,δ,R,h⟩:=h;unfold G1 at h;sleep 1;cases e1:f δ with
  |stuck=>rw[e1]at h;exact h.elim
  |ok d1 δ1=>
   rw[e1]at h;intro x H1 F1 R1 s1;refine⟨F1,δ1,R1.rel,?_⟩;simp![Res.bind]at h;cases e2:g δ1 with
   |stuck=>rw[e2]at h;exact h.elim
   |ok d2 δ2=>
    rw[e2]at h;simp![Res.bind]at h;intro y H2 F2 R2 s2;split at h
    .rename_i ds n
     cases e3:cQ ds with
     |none=>rw[e3]at h;exact h.elim
     |some xs=>
      rw[e3]at h;let⟨l,vs,rfl,hx,rx⟩:=jI R1.rep;rw[iY e3 rx]at hx;have ry:=R2.rep;unfold bD at ry;subst ry;refine⟨l,xs,rfl,R2.rel.sub.seq (s2.seq hx),h _ H2 F2 (R2.rel.x ?_) (s1.trans' s2)⟩;cases fZ none xs with
      |none=>show bD X.K F2 (.int n) (.int n);unfold bD;rfl
      |some m=>show bD X.K F2 (.int m) (.int m);unfold bD;rfl
    .exact h.elim
end
section
end
end L2
namespace L2
open PySem PySem.Spec
section
def NQ:D->D->ZL
 |.list ds,.int n=>(cQ ds).map λxs=>.int ((fZ none xs).getD n)
 |_,_=>none
def aBZ:G1 f g=iF NQ f g:=by
 funext δ;unfold G1 iF;cases f δ with
 |stuck=>rfl
 |ok a d=>
  simp![Res.bind];cases g d with
  |stuck=>rfl
  |ok b d=>
   simp![Res.bind];cases a<;>cases b<;>try rfl
   rename_i ds n;simp![NQ];cases cQ ds<;>rfl
def aIA:aU (G1 f g) δ Q=aU (iF NQ f g) δ Q:=by rw[aBZ]
def EE:aU (NP i) δ Q=gK δ[i]? δ λd δ=>Q d (δ.set i none):=by
 rw[l6];unfold aU NP EA;cases e:δ[i]? with
 |none=>simp
 |some o=>cases o<;>simp
def aLL:aU (Ő i lo hi) δ Q=gK δ[i]? δ λ_ _=>aU (kB lo) δ λl δ1=>aU (kB hi) δ1 λu δ2=>gK δ2[i]? δ2 λd δ2=>vT (D3 d l u) δ2 Q:=by
 unfold aU Ő gK vT;cases δ[i]? with
 |none=>rfl
 |some o=>
  cases o with
  |none=>rfl
  |some d0=>
   dsimp only;cases kB lo δ with
   |ok l δ1=>
    dsimp![Res.bind];cases kB hi δ1 with
    |ok u δ2=>
     dsimp only;cases δ2[i]? with
     |none=>rfl
     |some o=>
      cases o with
      |none=>rfl
      |some d=>cases d<;>rfl
    |_=>rfl
   |_=>rfl
def uO{ds zs:ZI}:EC (U6 ds [.list zs]) i δ Q=(ds.length+zs.length<=sizeLine/\Q .none (δ.set i (some (.list (ds++zs))))):=by
 by_cases h:ds.length+zs.length<=sizeLine
 .have:U6 ds [.list zs]=some (.none,ds++zs):=Â h
  rw[this,ω];simp[h]
 .have:U6 ds [.list zs]=none:=Ã h
  rw[this];simp[h,NB,ő]
def aIB{a b:ZI}:vT (GR (.list a) (.list b)) δ Q=(a.length+b.length<=sizeLine/\Q (.list (a++b)) δ):=by
 by_cases h:a.length+b.length<=sizeLine
 .have:GR (.list a) (.list b)=some (.list (a++b)):=Â h
  rw[this,ψ];simp[h]
 .have:GR (.list a) (.list b)=none:=Ã h
  rw[this];simp[h,i6,SZ]
end
end L2
namespace L2
open PySem PySem.Spec PyProof.Rows
def wC:D->Option (ZI)
 |.list xs=>some xs
 |.tuple xs=>some xs
 |_=>none
def ķ:D->D->ZL:=λa b=>match wC b with
 |some xs=>if SeqAt.shaped a=true/\SeqAt.shaped b=true then some (.bool (xs.any λy=>PyData.eqv y a))else none
 |none=>none
section
def ϭ(K:ZC):R2:=λx y H Q=>∃d e xs,bD K H d x/\bD K H e y/\wC e=some xs/\SeqAt.shaped d=true/\SeqAt.shaped e=true/\Q (.bl (xs.any λy=>PyData.eqv y d)) H
def aIC(hu:X.A.units+64<cLine):j7 X (compareOp .In) (ϭ X.K):=by
 intro À s σ H x y v u Q I rx ry h;let⟨d,e,xs,hd,he,hi,sd,se,q⟩:=h;let⟨as,ra⟩:=bD.reads I d x v (gE sd) hd rx;let⟨bs,rb⟩:=bD.reads I e y u (gE se) he ry;have lay:=SeqAt.canLay_of_shaped se;have dep:=SeqAt.depth_of_shaped se;have ld:=SeqAt.canLay_of_shaped sd;cases e with
 |list ys=>
  cases hi;rw[PyData.depth]at dep;have:min (PyData.depthAll xs) d.depth<=PyData.depthAll xs:=Nat.min_le_left _ _;exact SeqAt.in_list_reads rb ra (by simpa[PyData.canLay0]using lay) ld ∅ (mV I q rfl)
 |tuple ys=>
  cases hi;rw[PyData.depth]at dep;have:min (PyData.depthAll xs) d.depth<=PyData.depthAll xs:=Nat.min_le_left _ _;exact SeqAt.in_tuple_reads rb ra (by simpa[PyData.canLay0]using lay) ld ∅ (mV I q rfl)
 |_=>cases hi
def aID:oK X (ϭ X.K) 0 ķ:=λZ ow F H σ δ a b x y d Q S R ra rb e q=>by
 unfold ķ at e;cases hi:wC b with
 |none=>rw[hi]at e;cases e
 |some xs=>
  rw[hi]at e;dsimp only at e;split at e
  .rename_i hc
   cases e;exact⟨a,b,xs,R.sub.rep _ _ ra,R.sub.rep _ _ rb,hi,hc.1,hc.2,q _ H F (R.x iK) (aI.refl _)⟩
  .cases e
end
section
variable {X:Cx}{Z:cN}{ow ol ox:ZH}{n rm m:Nat}{pos:Pos}{e a b c tg:Expr}{f h:M D}{F F' H H':Hp}{σ:St}{δ δ':DS}{g g':ZP}{K:ZC}
def bE.keep(hF:aI F F')(h:∀a p o,g a=some (i,p)->H a=some o->F a=none->g' a=some (i,p)/\H' a=some o/\F' a=none)(r:bE K F H g i n p d v):bE K F' H' g' i n p d v:=r.keepJ hF h
def iQ.updNe{b:Addr}{i i0:Nat}{q0:ZH}{o:HO}(hb:g b=some (i0,q0)){f c:Nat}{p:ZH}{d:D}{v:V}(hn:i≠i0\/¬p <+: q0)(r:iQ K F H g i f c p d v):iQ K F (aV H b o) g i f c p d v:=by
 induction f generalizing c p d v with
 |zero=>
  cases c with
  |zero=>exact r
  |succ c=>exact r.elim
 |succ f ih=>
  cases c with
  |zero=>exact r
  |succ c=>
   let⟨ds,vs,cs,nd,hc,hl,r⟩:=r;refine⟨ds,vs,cs,nd,λx hx=>?_,hl,λk d' v' z1 z2=>ih (hn.imp id λz w=>z ((List.prefix_append p [k]).trans w)) (r k d' v' z1 z2)⟩;let⟨a1,a2,a3⟩:=hc x hx;have ne:x.1≠b:=λz=>by
    rw[z,hb]at a1;cases a1;exact hn.elim (λz=>z rfl) λz=>z (List.prefix_append _ _)
   exact⟨a1,by rw[aE ne];exact a2,a3⟩
def bE.updNe{b:Addr}{i i0:Nat}{q0:ZH}{o:HO}(hb:g b=some (i0,q0)){n:Nat}{p:ZH}{d:D}{v:V}(hn:i≠i0\/¬p <+: q0)(r:bE K F H g i n p d v):bE K F (aV H b o) g i n p d v:=iQ.updNe hb hn r
def JY:ZH->DS->DS
 |[],δ=>δ
 |_::_,[]=>[]
 |n::ow,o::δ=>(if n=0 then o else none)::JY ow δ
def NR:∀{ow:ZH}{δ:DS},(JY ow δ).length=δ.length
 |[],_=>rfl
 |_::_,[]=>rfl
 |n::ow,o::δ=>by unfold JY;rw[Û,Û,NR]
def VW:∀{ow:ZH}{δ:DS}{i:Nat}{d:D},(JY ow δ)[i]?=some (some d)->ow.getD i 0=0/\δ[i]?=some (some d)
 |[],_,i,_,e=>⟨by simp,e⟩
 |_::_,[],_,_,e=>by unfold JY at e;cases e
 |n::ow,o::δ,0,d,e=>by
  unfold JY at e;rw[List.getElem?_cons_zero]at e;split at e
  .rename_i h;exact⟨h,e⟩
  .cases e
 |n::ow,o::δ,i+1,d,e=>by
  unfold JY at e;rw[List.getElem?_cons_succ]at e;let⟨h1,h2⟩:=VW e;exact⟨by simpa using h1,by simpa using h2⟩
def cX.hide(R:cX K Z ow g F H σ δ):cB K (cU F H σ m) 'c' F H σ (JY ow δ):=
 ⟨λ_=>none,R.sub,⟨R.f0.lm,λ_ _ z=>z⟩,λ_ _ _ e=>e,λ_ h _=>h,λ_ h=>h,λ_ _ _ e=>(by cases e),by rw[NR];exact R.len,λi hi=>(by cases hi),λi d e=>by
  let⟨h0,e⟩:=VW e;let⟨v,e1,o⟩:=R.slot i d e;rw[h0]at o;exact⟨v,e1,by rw[iZ];exact o⟩⟩
def cX.back(R:cX K Z ow g F H σ δ)(R':cX K (cU F H σ m) 'c' g' F' H' σ δ'):cX K Z ow g F' H' σ δ:=by
 have hk:∀b o,H b=some o->H' b=some o:=λb o e=>R'.kept b o rfl e;refine⟨R'.sub,R.f0.trans' R'.f0.2,λb o n e=>hk b o (R.kept b o n e),λa h1 h2=>R'.new a (R.new a h1 h2) (R.there a h2),λb h=>?_,R.lab,R.len,R.par,λi d e=>?_⟩
 .cases e:H b with
  |none=>exact absurd e (R.there b h)
  |some o=>rw[hk b o e];simp
 .obtain⟨v,e1,o⟩:=R.slot i d e
  exact⟨v,e1,o.keep (show aI F F' from R'.f0.2) λa p o e1 e2 e3=>⟨e1,hk a o e2,R'.new a e3 (show H a≠none by rw[e2];simp)⟩⟩
def cX.at2{i j:Nat}{ds inner:ZI}(R:cX K Z ow g F H σ δ)(ho:ow.getD i 0=2)(hd:δ[i]?=some (some (.list ds)))(hj:ds[j]?=some (.list inner)):
  ∃a vs b ws,σ[i]?=some (some (.ref a))/\H a=some (.lst vs)/\ds.length=vs.length/\vs[j]?=some (.ref b)/\H b=some (.lst ws)/\aD K F inner ws:=by
 let⟨v,e1,o⟩:=R.slot i _ hd;rw[ho]at o;let⟨a,ds0,vs,q1,q2,q3,q4,q5,q6,q7⟩:=o.lst (m:=1);cases q1;subst q2;have jl:j<vs.length:=by rw[<- q6];exact(Í.mp hj).1
 let⟨b,inner',ws,w1,w2,w3,w4,w5,w6,w7⟩:=(q7 j _ _ hj (Ê jl)).lst (m:=0);cases w1;exact⟨a,vs,b,ws,e1,q4,q6,by rw[Ê jl,w2],w4,aD.of w6 w7⟩
def cX.rewrite2{a b:Addr}(R:cX K Z ow g F H σ δ)(ho:ow.getD i 0=2)(hd:δ[i]?=some (some (.list ds)))(hs:σ[i]?=some (some (.ref a)))(ha:H a=some (.lst vs))(hb:vs[j]?=some (.ref b))(hr:aD K F inner' vs'):
  cX K Z ow g F (aV H b (.lst vs')) σ (δ.set i (some (.list (ds.set j (.list inner'))))):=by
 let⟨v,e1,o⟩:=R.slot i _ hd;rw[hs]at e1;cases e1;rw[ho]at o;let⟨a',ds0,vs0,q1,q2,q3,q4,q5,q6,q7⟩:=o.lst (m:=1);cases q1;cases q2;rw[ha]at q4;cases q4;have jl:j<vs.length:=(Í.mp hb).1;have jd:j<ds.length:=by exact õ ‹_› (Eq.symm ‹_›)
 let⟨b',inner,ws,w1,w2,w3,w4,w5,w6,w7⟩:=(q7 j _ _ (Ê jd) hb).lst (m:=0);cases w2;have hi:i<δ.length:=(Í.mp hd).1;have nab:a≠b:=λz=>by rw[z,w3]at q3;cases q3
 refine⟨λb' u e=>?_,R.f0,λb' u n e=>?_,R.new,λb' z=>?_,R.lab,by rw[Î];exact R.len,R.par,λk d e=>?_⟩
 .have:b'≠b:=λz=>by rw[z,w5]at e;cases e
  rw[aE this];exact R.sub b' u e
 .have:b'≠b:=λz=>by
   subst z;rcases R.lab b' i _ w3 with w|⟨q,w⟩
   .rw[w]at e;cases e
   .rw[w]at n;cases n
  rw[aE this];exact R.kept b' u n e
 .by_cases hb':b'=b
  .subst hb';rw[aJ];simp
  .rw[aE hb'];exact R.there b' z
 .by_cases hk:k=i
  .subst hk
   rw[ß hi]at e;cases e;refine⟨_,hs,?_⟩;rw[ho];refine bE.mkL (m:=1) ⟨a,_,vs,rfl,rfl,q3,by rw[aE nab];exact ha,q5,by rw[Î];exact q6,λl d' v' z1 z2=>?_⟩
   by_cases hl:j=l
   .subst hl
    rw[ß jd]at z1;cases z1;rw[hb]at z2;cases z2;exact bE.mkL (m:=0) ⟨b,inner',vs',rfl,rfl,w3,aJ,w5,hr.len,λk d' v' z1 z2=>hr.both k d' v' z1 z2⟩
   .rw[Ù hl]at z1
    refine bE.updNe w3 (.inr λz=>?_) (q7 l d' v' z1 z2);have z:[l] <+: [j]:=z;let⟨t,ht⟩:=z;cases ht;exact hl rfl
  .rw[Ù (Ñ hk)]at e
   let⟨v,e1,o⟩:=R.slot k d e;exact⟨v,e1,bE.updNe w3 (.inl hk) o⟩
def vU(ow:ZH)(i:Nat)(fk:M D)(op:ZI->ZI->Option (D×ZI))(fs:List (M D)):M D:=λδ=>match δ[i]? with
 |some (some (.list ds))=>(match fk δ with
  |.ok (.int k) _=>(match oE ds.length k with
   |some j=>(match ds[j]? with
    |some (.list inner)=>(match bA fs (JY ow δ)with
     |.ok args _=>(match op inner args with
      |some (ret,inner')=>.ok ret (δ.set i (some (.list (ds.set j (.list inner')))))
      |none=>.stuck)
     |_=>.stuck)
    |_=>.stuck)
   |none=>.stuck)
  |_=>.stuck)
 |_=>.stuck
def G3(h:vU ow i fk op fs δ=.ok d δ1):
  ∃ds k δ2 j inner args δ3 inner',δ[i]?=some (some (.list ds))/\fk δ=.ok (.int k) δ2/\oE ds.length k=some j/\ds[j]?=some (.list inner)/\bA fs (JY ow δ)=.ok args δ3/\op inner args=some (d,inner')/\δ1=δ.set i (some (.list (ds.set j (.list inner')))):=by
 unfold vU at h;split at h
 .rename_i ds e1
  split at h
  .rename_i k δ2 e2
   split at h
   .rename_i j e3
    split at h
    .rename_i inner e4
     split at h
     .rename_i args δ3 e5
      split at h
      .rename_i ret inner' e6
       cases h;exact⟨ds,k,δ2,j,inner,args,δ3,inner',e1,e2,e3,e4,e5,e6,rfl⟩
      .cases h
     .cases h
    .cases h
   .cases h
  .cases h
 .cases h
def uP(m:Nat)(h:∀F H σ,DE X (cU F H σ m) 'c' 0 ek fk):PE X ek (λσ H Q=>∃F0,tD X (cU F0 H σ m) 'c' 0 fk σ H Q):=λÀ s σ H Q I zQ=>by let⟨F0,q⟩:=zQ;exact h F0 H σ À s σ H Q I q
def aIE(m:Nat)(h:∀F H σ,DV X (cU F H σ m) 'c' es fs):PA X es (λσ H Q=>∃F0,tV X (cU F0 H σ m) 'c' fs σ H Q):=λcp À s σ H Q I zQ=>by let⟨F0,q⟩:=zQ;exact h F0 H σ cp À s σ H Q I q
def G5(m:Nat)(ho:ow.getD i 0=2)(hm:GP X r op)(h:tD X Z ow 0 (vU ow i fk op fs) σ H Q):
  FV i σ H λx H1=>∃F0,tD X (cU F0 H1 σ m) 'c' 0 fk σ H1 λy H2=>Ů X.K x y H2 λv H3=>Ņ X.K "list" v H3/\∃F1,tV X (cU F1 H3 σ m) 'c' fs σ H3 λxs H4=>r v xs H4 Q:=by
 let⟨F,δ,⟨g,R⟩,h⟩:=h;cases e:vU ow i fk op fs δ with
 |stuck=>rw[e]at h;exact h.elim
 |ok d δ1=>
  rw[e]at h;let⟨ds,k,δ2,j,inner,args,δ3,inner',e1,e2,e3,e4,e5,e6,rfl⟩:=G3 e;let⟨a,vs,b,ws,q1,q2,q3,q4,q5,q6⟩:=R.at2 ho e1 e4;refine⟨_,q1,JX g F H,JX g F H,δ,R.bor,?_⟩;rw[e2];rintro v H1 F1 ⟨g1,R1,o1⟩ s1;have ev:v=.int k:=by
   have o1:bD X.K F1 (.int k) v:=o1;unfold bD at o1;exact o1
  subst ev;have hk:aI H H1:=λb o e=>R1.kept b o rfl e;have R2:=R.grow hk;refine⟨a,vs,k,.ref b,rfl,rfl,d8.of (hk _ _ q2),?_,.inl ⟨rfl,ws,d8.of (hk _ _ q5)⟩,F,F,JY ow δ,R2.hide,?_⟩
  .unfold atI
   rw[<- q3,e3];exact q4
  .rw[e5]
   rintro us H2 F2 ⟨g3,R3⟩ s3 ra;have hk2:aI H1 H2:=λb o e=>R3.kept b o rfl e;have R4:=R2.back R3;let⟨xs',rv,w1,w2,w3⟩:=hm F2 H2 b ws us inner args d inner' (hk2 _ _ (hk _ _ q5)) R4.sub (s3.repAll _ _ q6) ra e6;exact w3 Q (h rv _ F2 ⟨g,R4.rewrite2 ho e1 q1 (hk2 _ _ (hk _ _ q2)) q4 w1,w2⟩ s3)
def NS(i m:Nat){x:Str}{p p2 q:Pos}{id:String}(slot:Slot "list" name id)(hty:typeOf (.builtin id)=pure (.type "method_descriptor"))(hmr:Ĵ X id r)(hm:GP X r op)(hk:∀F H σ,DE X (cU F H σ m) 'c' 0 ek fk)(ha:∀F H σ,DV X (cU F H σ m) 'c' (e::es) fs)(ho:↥(ow.getD i 0=2))(hN:↥(X.N[i]?=some x))(hv:#v[AI X.env.scope x])(hd:⇑(Zdb x))(hcd:⇑(Zcd x))(hp:oF ek:=by exact λ_ _=>rfl)(hbase:↥(attributeBase (.Subscript 'h' ek p2) name X.env (eval (.Subscript 'h' ek p2) X.env)=eval (.Subscript 'h' ek p2) X.env))(hfew:↥(((backTo pos (starEach (e::es) X.env)).all (λx=>!x.1) && (backToKw pos (keywordEach [] X.env)).all (λx=>x.1.isSome)
   && decide ((e::es).length+([]:List Keyword).length+(if ([]:List Keyword).isEmpty then 0 else 1)<30))=true))(hline:↥((q.endLine == pos.line)=true))(hs:↥(Zse e es X.env))(hplain:↥(Zbt pos es X.env)):
  DE X Z ow 0 (.Call (.Attribute (.Subscript 'h' ek p2) name q) (e::es) [] pos) (vU ow i fk op fs):=PE.mono (T6 PySem.F.plainAttrs_list slot hty hmr (GB rS (c9 hN hv hd hcd) (uP m hk) hp) (aIE m ha) hbase hfew hline hs hplain) λ_ _ _ h=>G5 m ho hm h
def VX(i m:Nat){x:Str}{p p2 q:Pos}{id:String}(slot:Slot "list" name id)(hty:typeOf (.builtin id)=pure (.type "method_descriptor"))(hmr:Ĵ X id r)(hm:GP X r op)(hk:∀F H σ,DE X (cU F H σ m) 'c' 0 ek fk)(ho:↥(ow.getD i 0=2))(hN:↥(X.N[i]?=some x))(hv:#v[AI X.env.scope x])(hd:⇑(Zdb x))(hcd:⇑(Zcd x))(hp:oF ek:=by exact λ_ _=>rfl)(hbase:↥(attributeBase (.Subscript 'h' ek p2) name X.env (eval (.Subscript 'h' ek p2) X.env)=eval (.Subscript 'h' ek p2) X.env))(hline:↥((q.endLine == pos.line)=true)):
  DE X Z ow 0 (.Call (.Attribute (.Subscript 'h' ek p2) name q) [] [] pos) (vU ow i fk op []):=PE.mono (aGR PySem.F.plainAttrs_list slot hty hmr (GB rS (c9 hN hv hd hcd) (uP m hk) hp) hbase hline) λσ H Q h=>by
 let⟨v,e1,F0,h⟩:=G5 m ho hm h;refine⟨v,e1,F0,?_⟩;let⟨F1,δ,R,h⟩:=h;refine⟨F1,δ,R,h.mono (aI.refl _) λy H2 h=>?_⟩;let⟨a,vs,k,u,w1,w2,w3,w4,w5,F2,F3,δ3,R3,q3⟩:=h;refine⟨a,vs,k,u,w1,w2,w3,w4,w5,?_⟩;exact q3 [] H2 F3 R3 (aI.refl _) iR
def Ŗ:ZI->ZI->Option (D×ZI)
 |ds,[]=>(match ds[ds.length-1]? with
  |some d=>some (d,ds.dropLast)
  |none=>none)
 |_,_=>none
def aB1:GP X ι Ŗ:=λF H l xs vs ds args ret ds' hl hs h1 h2 e=>by
 unfold Ŗ at e;split at e
 .split at e
  .rename_i d e1
   cases e;unfold aD at h2;subst h2;let⟨v,e2,r⟩:=h1.get e1;rw[h1.len]at e2;refine⟨xs.dropLast,v,?_,r,λQ q=>⟨l,xs,v,rfl,rfl,hl,e2,q⟩⟩;rw[List.dropLast_eq_take,List.dropLast_eq_take,<- h1.len];exact h1.take _
  .cases e
 .cases e
def cB.enter(hz:∀i,ow.getD i 0=0)(R:cB K Z ow F H σ δ):cB K (cU F H σ m) 'c' F H σ δ:=by
 let⟨g,R⟩:=R;exact⟨λ_=>none,R.sub,⟨R.f0.lm,λ_ _ z=>z⟩,λ_ _ _ e=>e,λ_ h _=>h,λ_ h=>h,λ_ _ _ e=>(by cases e),R.len,λi hi=>(by cases hi),λi d e=>by
  let⟨v,e1,o⟩:=R.slot i d e;rw[hz]at o;exact⟨v,e1,by rw[iZ];exact o⟩⟩
def cB.leave(hz:∀i,ow.getD i 0=0)(R:cB K Z ow F H σ δ)(R':cX K (cU F H σ m) 'c' g' F' H' σ δ'):cB K Z ow F' H' σ δ':=by
 let⟨g,R⟩:=R;have hk:∀b o,H b=some o->H' b=some o:=λb o e=>R'.kept b o rfl e;refine⟨λ_=>none,R'.sub,R.f0.trans' R'.f0.2,λb o n e=>hk b o (R.kept b o n e),λa h1 h2=>R'.new a (R.new a h1 h2) (R.there a h2),λb h=>?_,λ_ _ _ e=>(by cases e),R'.len,R.par,λi d e=>?_⟩
 .cases e:H b with
  |none=>exact absurd e (R.there b h)
  |some o=>rw[hk b o e];simp
 .obtain⟨v,e1,o⟩:=R'.slot i d e
  rw[iZ]at o;exact⟨v,e1,by rw[hz];exact o⟩
def cB.reg(hz:∀i,ow.getD i 0=0)(R:cB K Z ow F H σ δ)(hl:∀a i p,g a=some (i,p)->Z.H0 a=none):cX K Z ow g F H σ δ:=by
 let⟨g0,R⟩:=R;exact⟨R.sub,R.f0,R.kept,R.new,R.there,λa i p e=>.inl (hl a i p e),R.len,R.par,λi d e=>by
  let⟨v,e1,o⟩:=R.slot i d e;rw[hz]at o;exact⟨v,e1,by rw[hz];exact o⟩⟩
structure G6(K:ZC)(H0 F H:Hp)(ga:ZP)(n:Nat)(acc:ZI)(ys:List V):Prop where
 len:acc.length=ys.length
 own:∀(k:Nat)(d:D)(v:V),acc[k]?=some d->ys[k]?=some v->bE K F H ga 1000 n [k] d v
 lab:∀a i p,ga a=some (i,p)->H0 a=none
def G6.keep(A:G6 K H0 F H g n acc ys)(hF:aI F F')(h:∀a o,H a=some o->F a=none->H' a=some o/\F' a=none):G6 K H0 F' H' g n acc ys:=
 ⟨A.len,λk d v e1 e2=>(A.own k d v e1 e2).keep hF λa p o z1 z2 z3=>⟨z1,h a o z2 z3⟩,A.lab⟩
def G6.add(A:G6 K H0 F H g n acc ys)(R':cX K (cU F H σ m) 'c' g' F' H' σ δ')(o:bE K F' H' g' 1000 n [] d v)(h0:∀a,H a=none->H0 a=none):
  ∃ga,G6 K H0 F' H' ga n (acc++[d]) (ys++[v]):=by
 have hn:∀a l,g' a=some l->H a=none:=λa l e=>by
  let⟨i,p⟩:=l;rcases R'.lab a i p e with z|⟨q,z⟩
  .exact z
  .cases z
 refine⟨λb=>match g' b with|some (i,p)=>if i=1000 then some (1000,ys.length::p)else none|none=>g b,by simp[A.len],λk d' v' e1 e2=>?_,λa i p e=>?_⟩
 .by_cases hk:k<ys.length
  .rw[ó (by rw[A.len];exact hk)]at e1
   rw[ó hk]at e2;refine(A.own k d' v' e1 e2).keep (H:=H) (H':=H') (show aI F F' from R'.f0.2) λa p o z1(z2:H a=some o)z3=>⟨?_,R'.kept a o rfl z2,R'.new a z3 (show H a≠none by rw[z2];simp)⟩;cases z4:g' a with
   |none=>exact z1
   |some l=>rw[hn a l z4]at z2;cases z2
  .have hk':k=ys.length:=by
    have:=(Í.mp e2).1;rw[Ð,ò]at this;lia
   subst hk';rw[ã (È _),ù]at e2;rw[<- A.len,ã (È _),ù]at e1;cases e1;cases e2;have:=bE.relabP (g':=λb=>match g' b with|some (i,p)=>if i=1000 then some (1000,ys.length::p)else none|none=>g b) (j:=1000) (q:=[ys.length]) (λa p e=>by
    show (match g' a with|some (i,p)=>if i=1000 then some (1000,ys.length::p)else none|none=>g a)=_;rw[e];exact Â rfl) o
   exact this
 .cases z:g' a with
  |none=>rw[z]at e;exact A.lab a i p e
  |some l=>exact h0 a (hn a l z)
def SY.turn2{d:D}(T:SY X.K F1 J ds)(R:cB X.K Z ow F H σ δ)(s:aI F1 F)(y:J.yld i H x H')(e:ds[i]?=some d):∃F',aI F F'/\cB X.K Z ow F' H' σ δ/\bD X.K F' d x/\∀a o,H a=some o->F a=none->H' a=some o/\F' a=none:=by
 rcases T.yld i H x H' d (s.trans' R.sub) y e with ⟨rfl,r⟩|⟨p,o,hp,rfl,r⟩
 .exact⟨F,aI.refl _,R,s.rep _ _ r,λa o z1 z2=>⟨z1,z2⟩⟩
 .have fp:=R.fnone hp
  refine⟨aV F p o,bW fp o,R.laid hp,r F s fp,λa u z1 z2=>?_⟩;have:a≠p:=λz=>by rw[z,hp]at z1;cases z1
  rw[aE this,aE this];exact⟨z1,z2⟩
def QL(hz:∀i,ow.getD i 0=0)(i:Nat):(List.replicate k 0++ow).getD i 0=0:=by
 by_cases h:i<k
 .rw[Ë,ó (by simpa using h),ÿ]
  split<;>rfl
 .obtain⟨j,rfl⟩:∃j,i=j+k:=⟨i-k,∅⟩
  rw[lZ];exact hz j
def G7(h:ow.all (· == 0)=true)(i:Nat):ow.getD i 0=0:=by
 by_cases hl:i<ow.length
 .have:=ï.mp h ow[i] (ý hl)
  rw[Ë,Ê hl];simpa using this
 .rw[Ë,ç (by exact è.mp ‹_›)];rfl
def BX{set:D->DS->Option DS}(m:Nat)(hkd:kd (n+1)=0)(hch:∀k,ch (n+1) k=n)(S:aP Z ow)(Sk:aP (Z.sh k) (List.replicate k 0++ow))(hz:∀i,ow.getD i 0=0)(hs:ď X (Z.sh k) (List.replicate k 0++ow) k gt set)(q:tD X Z ow (n+1) (eD k set fi eE fe) σ H Q):MS k (tI X Z ow fi) gt (λ_ H Q=>Q true H) (λσ H Q=>∃F0,ğ X (cU F0 H σ m) 'c' n fe σ H Q) σ H Q:=by
 let⟨F,δ,R,q⟩:=q;unfold eD at q;sleep 1;cases e1:fi δ with
 |stuck=>rw[e1]at q;exact q.elim
 |ok ds δ1=>
  rw[e1]at q;simp![Res.bind]at q;intro J H1 F1 R1 s1 T;have hcase:∃acc δ2,bP set eE fe ds [] (List.replicate k none++δ1)=.ok acc δ2/\k<=δ2.length/\kD X Z ow (n+1) (.ok (.list acc) (δ2.drop k)) F σ Q:=by
   cases e2:bP set eE fe ds [] (List.replicate k none++δ1)with
   |stuck=>rw[e2]at q;exact q.elim
   |ok acc δ2=>
    rw[e2]at q;dsimp only at q;split at q
    .rename_i hk;exact⟨acc,δ2,rfl,hk,q⟩
    .exact q.elim
  let⟨acc,δ2,e2,hk2,q⟩:=hcase;have hz':∀i,(List.replicate k 0++ow).getD i 0=0:=QL hz;refine⟨λi m ys σ' H'=>m=ds.length-i/\i<=ds.length/\σ'.length=σ.length+k/\(∀i,σ'[i+k]?=σ[i]?)/\∃F2 δ' acc' ga,cB X.K (Z.sh k) (List.replicate k 0++ow) F2 H' σ' δ'/\aI F1 F2/\G6 X.K Z.H0 F2 H' ga n acc' ys/\bP set eE fe (ds.drop i) acc' δ'=.ok acc δ2,
   ⟨ds.length,rfl,í _,by simp;exact Nat.add_comm _ _,λi=>by rw[ã 'f',î,Ė],F1,_,[],λ_=>none,R1.sh S,aI.refl _,⟨rfl,λk d v e=>(by cases e),λa i p e=>(by cases e)⟩,e2⟩,?_⟩
  rintro i m' ys σ2 H2 ⟨rfl,hi,hl2,hσ2,F2,δ',acc',ga,R2,s2,A2,e3⟩;by_cases hlt:i<ds.length
  .have ed:=Ê hlt
   have ee:ds.drop i=ds[i]::ds.drop (i+1):=ñ hlt;rw[ee]at e3;unfold bP at e3;cases e4:set ds[i] δ' with
   |none=>simp![e4]at e3;cases e3
   |some δ3=>
    simp![e4]at e3;have e3':((fe δ3).bind λy δ3=>if acc'.length<sizeLine then bP set eE fe (ds.drop (i+1)) (acc'++[y]) δ3 else .stuck)=.ok acc δ2:=e3;cases e6:fe δ3 with
    |stuck=>rw[e6]at e3';cases e3'
    |ok yd δ5=>
     rw[e6]at e3';simp![Res.bind]at e3';split at e3'
     .rename_i small
      refine .inr ⟨T.go i H2 (s2.trans' R2.sub) hlt,by rw[<- A2.len];exact small,λzs σ'' H''=>σ''.length=σ.length+k/\(∀i,σ''[i+k]?=σ[i]?)/\∃F3 δ' acc' ga,cB X.K (Z.sh k) (List.replicate k 0++ow) F3 H'' σ'' δ'/\aI F1 F3/\G6 X.K Z.H0 F3 H'' ga n acc' zs/\bP set eE fe (ds.drop (i+1)) acc' δ'=.ok acc δ2,λzs σ'' H'' z=>⟨ds.length-(i+1),∅,rfl,hlt,z⟩,λx H3 y=>?_⟩
      let⟨F3,s3,R3,r3,k3⟩:=T.turn2 R2 s2 y ed;refine hs F3 H3 σ2 δ' δ3 ds[i] x _ R3 r3 e4 λσ3 R4 l3 _ hσ3=>?_;dsimp only;rw[Â rfl];refine⟨F3,F3,δ3,R4.enter hz',?_⟩;rw[e6];rintro yv H6 F6 ⟨g6,R6,o6⟩ s6;have hl3:σ3.length=σ.length+k:=by exact Eq.trans ‹_› ‹_›
      have hσ4:∀i,σ3[i+k]?=σ[i]?:=λi=>(hσ3 i).trans (hσ2 i);have A3:=A2.keep s3 k3;let⟨ga',A4⟩:=A3.add R6 o6 λa ha=>by
       cases z:Z.H0 a with
       |none=>rfl
       |some u=>
        let⟨g4,R4⟩:=R4;exact absurd ha (R4.there a (by show Z.H0 a≠none;rw[z];simp))
      exact⟨hl3,hσ4,F6,δ5,acc'++[yd],ga',R4.leave hz' R6,s2.trans' (s3.trans' s6),A4,e3'⟩
     .cases e3'
  .have e:i=ds.length:=by lia
   subst e;rw[List.drop_length]at e3;unfold bP at e3;cases e3;refine .inl ⟨T.stop H2 (s2.trans' R2.sub),λp hp=>?_⟩;have R7:cB X.K Z ow F2 H2 σ (δ2.drop k):=R2.unsh S Sk hσ2 hl2 hk2;have fp:=R7.fnone hp;have zp:Z.H0 p=none:=by
    cases z:Z.H0 p with
    |none=>rfl
    |some u=>
     let⟨g4,R4⟩:=R7;exact absurd hp (R4.there p (by rw[z];simp))
   refine q _ _ F2 ⟨λb=>if b=p then some (1000,[])else ga b,(R7.reg hz λa i q e=>?_).grow (bW hp _),?_⟩ (s1.trans' s2)
   .split at e
    .rename_i z;rw[z];exact zp
    .exact A2.lab a i q e
   .refine bE.mkL (hk:=hkd) (hm:=hch) ⟨p,acc,ys,rfl,rfl,Â rfl,aJ,fp,A2.len,λk d v z1 z2=>?_⟩
    refine bE.keep (aI.refl _) (λa q o y1 y2 y3=>?_) (A2.own k d v z1 z2);have:a≠p:=λz=>by rw[z,hp]at y2;cases y2
    rw[aE this];exact⟨by rw[Ã this];exact y1,y2,y3⟩
def QM{set:D->DS->Option DS}(m:Nat)(S:aP Z ow)(Sk:aP (Z.sh xs.length) (List.replicate xs.length 0++ow))(hc:X.calm=true)(hi:DI X Z ow tg iter fi)(hg:∀C fp s H,PG 'g' tg gt)(hs:ď X (Z.sh xs.length) (List.replicate xs.length 0++ow) xs.length gt set)(he:∀C fp s H,∀F1 H1 σ1,DE 'g' (cU F1 H1 σ1 m) 'c' n elt fe)(hz:↥(ow.all (· == 0)=true))(hkd:↥(kd (n+1)=0))(hch: ~~~(∀k,ch (n+1) k=n))(hk:↥(scope.kind=.function))(hok:↥(dR X.N xs scope.names X.env.scope.names=true))(hfs: ~~~(Zfi iter X.env)):
  DE X Z ow (n+1) (.ListComp elt [⟨tg,iter,[],0⟩] scope pos) (eD xs.length set fi eE fe):=
 PE.mono (GH (ti:=λ_ H Q=>Q true H) (te:=λσ H Q=>∃F0,ğ X (cU F0 H σ m) 'c' n fe σ H Q) hc hi hg (λC fp s H=>DF) (λC fp s H À s' σ H' Q I zQ=>by let⟨F0,h⟩:=zQ;exact he C fp s H F0 H' σ À s' σ H' Q I (M1 (X:=X) (X':=aT X xs scope C fp s H) rfl h)) hk hok hfs)
  λ_ _ _ q=>BX m hkd hch S Sk (G7 hz) hs q
def AS(i:Nat){x:Str}{pos' spos:Pos}{set:D->DS->Option DS}(m:Nat)(S:aP Z ow)(Sk:aP (Z.sh xs.length) (List.replicate xs.length 0++ow))(hc:X.calm=true)(hN:X.N.Nodup)(hi:DI X Z ow tg iter fi)(hg:∀C fp s H,PG 'g' tg gt)(hs:ď X (Z.sh xs.length) (List.replicate xs.length 0++ow) xs.length gt set)(he:∀C fp s H,∀F1 H1 σ1,DE 'g' (cU F1 H1 σ1 m) 'c' n elt fe)(hz:↥(ow.all (· == 0)=true))(hkd:↥(kd (n+1)=0))(hch: ~~~(∀k,ch (n+1) k=n))(hx:↥(X.N[i]?=some x))(hl:↥(X.env.scope.names.lookup x=some .local))(hps:↥(Z.ps.contains i=false))(hlo:⇑(i<ow.length))(hsw:↥(swapsWith (.ListComp elt [⟨tg,iter,[],0⟩] scope pos) (some (.Name x pos')) spos.line X.env=pure true))(hk:↥(scope.kind=.function))(hok:↥(dR X.N xs scope.names X.env.scope.names=true))(hfs: ~~~(Zfi iter X.env)):
  DJ X Z ow (ow.set i (n+1)) ol ox rm (.Assign [.Name x pos'] (.ListComp elt [⟨tg,iter,[],0⟩] scope pos) spos) (jG i (eD xs.length set fi eE fe)):=
 PS.mono (rY (ti:=λ_ H Q=>Q true H) (te:=λσ H Q=>∃F0,ğ X (cU F0 H σ m) 'c' n fe σ H Q) hc hN hx hl hi hg (λC fp s H=>DF) (λC fp s H À s' σ H' Q I zQ=>by let⟨F0,h⟩:=zQ;exact he C fp s H F0 H' σ À s' σ H' Q I (M1 (X:=X) (X':=aT X xs scope C fp s H) rfl h)) hsw hk hok hfs)
  λDn σ H h=>BX m hkd hch S Sk (G7 hz) hs (DK S (cP hps) hlo h)
end
end L2
namespace L2
open PySem PySem.Spec
section
def VY(ow:ZH)(i:Nat)(o:Option (ZL))(k:D)(op:ZI->ZI->Option (D×ZI))(fs:List (M D))(δ:DS)(Q:D->ZO)(_w:Wt Q:=⟨⟩):Prop:=
 ∃ds n j inner,o=some (some (.list ds))/\k=.int n/\oE ds.length n=some j/\ds[j]?=some (.list inner)/\aU (bA fs) (JY ow δ) λargs _=>∃ret inner',op inner args=some (ret,inner')/\Q ret (δ.set i (some (.list (ds.set j (.list inner')))))
def K5:aU (vU ow i fk op fs) δ Q=aU fk δ λk _=>VY ow i δ[i]? k op fs δ Q:=by
 refine propext ⟨λh=>?_,λh=>?_⟩
 .obtain⟨d,δ1,e,q⟩:=h.ex
  let⟨ds,n,δ2,j,inner,args,δ3,inner',e1,e2,e3,e4,e5,e6,rfl⟩:=G3 e;exact aU.of e2 ⟨ds,n,j,inner,e1,rfl,e3,e4,aU.of e5 ⟨d,inner',e6,q⟩⟩
 .obtain⟨k,δ2,e2,q⟩:=h.ex
  let⟨ds,n,j,inner,e1,rfl,e3,e4,w⟩:=q;let⟨args,δ3,e5,ret,inner',e6,q⟩:=w.ex;refine aU.of (a:=ret) (δ1:=δ.set i (some (.list (ds.set j (.list inner'))))) ?_ q;unfold vU;rw[e1];dsimp only;rw[e2];dsimp only;rw[e3];dsimp only;rw[e4];dsimp only;rw[e5];dsimp only;rw[e6]
def NT(o:Option (D×ZI))(ds:ZI)(j i:Nat)(δ:DS)(Q:D->ZO)(_w:Wt Q:=⟨⟩):Prop:=∃ret inner',o=some (ret,inner')/\Q ret (δ.set i (some (.list (ds.set j (.list inner')))))
def K6{ds inner:ZI}(e3:oE ds.length n=some j)(e4:ds[j]?=some (.list inner)):VY ow i (some (some (.list ds))) (.int n) op fs δ Q=aU (bA fs) (JY ow δ) λargs _=>NT (op inner args) ds j i δ Q:=by
 unfold VY NT;refine propext ⟨λh=>?_,λh=>?_⟩
 .obtain⟨ds',n',j',inner',h1,h2,h3,h4,w⟩:=h
  cases h1;cases h2;rw[e3]at h3;cases h3;rw[e4]at h4;cases h4;exact w
 .exact⟨ds,n,j,inner,rfl,rfl,e3,e4,h⟩
def aIF:NT (some (r,l)) ds j i δ Q=Q r (δ.set i (some (.list (ds.set j (.list l))))):=propext ⟨λ⟨_,_,h,q⟩=>by cases h;exact q,λq=>⟨_,_,rfl,q⟩⟩
def qN{d:D}:NT (KS l [d]) ds j i δ Q=(l.length<sizeLine/\Q .none (δ.set i (some (.list (ds.set j (.list (l++[d]))))))):=by
 refine propext ⟨λzQ=>?_,λzQ=>by let⟨h,p⟩:=zQ;exact ⟨_,_,Â h,p⟩⟩;let⟨r,d2,h,p⟩:=zQ;unfold KS at h;dsimp only at h;split at h
 .rename_i hc;cases h;exact⟨hc,p⟩
 .cases h
end
end L2
namespace L2
open PySem PySem.Spec PyProof.Rows
def VZ{K:ZC}:qH P w K mg base CX k f fd pn (SW K pn ps owp rm λ_=>.stuck):=
 ⟨λvs H Q E h=>h.1,λA outer s H args us vs Q E hr he hb hv hs=>by
  let⟨_,F,g,ds,_,_,_,_,_,q⟩:=hs;exact q.elim⟩
end L2
namespace L2
open PySem PySem.Spec
end L2
namespace L2
open PySem PySem.Spec PyProof.Rows
section
end
end L2
namespace L2
open PySem PySem.Spec
end L2
namespace L2
open PySem PySem.Spec PyProof.Rows
section
variable {X:Cx}{Z:cN}{ow:ZH}{e:Expr}{f:M D}{pos:Pos}
def pZ(T U:Ty)(d:D):ZL:=match gA T d,gA U d with
 |some (.bool a),some (.bool b)=>some (.bool (a || b))
 |_,_=>none
def QN:gU X (.builtin "isinstance") (λxs H Q=>∃(x:V)(d:D)(b:Bool)(p:Addr),xs=[x,.ref p]/\H p=some (.tup [.ty Ty.tuple.name,.ty Ty.list.name])/\bD X.K H d x/\pZ .tuple .list d=some (.bool b)/\Q (.bl b) H):=by
 intro À s σ H xs us Q I r h;let⟨x,d,b,p,rfl,hp,rd,hb,q⟩:=h;let⟨u,v,rfl,rx,rc⟩:=TX r;obtain rfl:v=Value.ref p:=rc;let⟨its,ri,⟨o,ho,hc,n,hd⟩,_⟩:=I.tuple (rN.of hp);let⟨t1,t2,e0,r1,r2⟩:=TX ri;obtain rfl:t1=Value.type Ty.tuple.name:=r1;obtain rfl:t2=Value.type Ty.list.name:=r2;subst e0;let⟨oc,od,dt,sl⟩:=o;cases hc;cases hd;cases d with
 |none=>obtain rfl:=m9 rd;cases (show u=Value.none from rx);exact W.kia_tup W.kitx_none I.kIn True.intro ho (by cases hb;rfl) (λz=>nomatch z) λtk=>⟨.bl b,H,I.tok tk,rfl,q⟩
 |bool y=>obtain rfl:=jO rd;cases (show u=Value.bool y from rx);exact W.kia_tup W.kitx_bool I.kIn True.intro ho (by cases hb;rfl) (λz=>nomatch z) λtk=>⟨.bl b,H,I.tok tk,rfl,q⟩
 |int i=>obtain rfl:=gG rd;let⟨t,q'⟩:=(show ∃t,u=Value.int i t from rx);cases q';exact W.kia_tup W.kitx_int I.kIn True.intro ho (by cases hb;rfl) (λz=>nomatch z) λtk=>⟨.bl b,H,I.tok tk,rfl,q⟩
 |str i=>obtain rfl:=h8 rd;let⟨t,q'⟩:=(show ∃t,u=Value.str i t from rx);cases q';exact W.kia_tup W.kitx_str I.kIn True.intro ho (by cases hb;rfl) (λz=>nomatch z) λtk=>⟨.bl b,H,I.tok tk,rfl,q⟩
 |list ds=>
  let⟨a,xs,rfl,hp,_⟩:=jI rd;cases (show u=Value.ref a from rx);let⟨_,_,⟨o,_,h1,h2,_⟩,_⟩:=I.list hp;exact W.kia_tup W.kitx_list I.kIn ⟨o,h1,h2⟩ ho (by cases hb;rfl) (λz=>nomatch z) λtk=>⟨.bl b,H,I.tok tk,rfl,q⟩
 |tuple ds=>
  let⟨a,xs,rfl,hp,_⟩:=AO rd;cases (show u=Value.ref a from rx);let⟨_,_,⟨o,h1,h2,_⟩,_⟩:=I.tuple hp;exact W.kia_tup W.kitx_tuple I.kIn ⟨o,h1,h2⟩ ho (by cases hb;rfl) (λz=>nomatch z) λtk=>⟨.bl b,H,I.tok tk,rfl,q⟩
 |dict _=>cases hb
def aB2(T U:Ty){p p2 p3 p4:Pos}{c:Nat}(hg:Gl X "isinstance")(hm:X.mg "isinstance"=none)(ă:Gl X x)(hmt:X.mg x=none)(hbt:bootBuiltins x=some (.type T.name))(hgu:Gl X y)(hmu:X.mg y=none)(hbu:bootBuiltins y=some (.type U.name))(ha:DE X Z ow 0 e f)(hn:⇑(x≠"__name__"))(hd:⇑(Zdb x))(hn2:⇑(y≠"__name__"))(hd2:⇑(Zdb y))(hs:↥(starEach [e,.Tuple [.Name x p2,.Name y p3] c p4] X.env=(false,eval e X.env)::starEach [.Tuple [.Name x p2,.Name y p3] c p4] X.env))(hs2:↥(starEach [.Tuple [.Name x p2,.Name y p3] c p4] X.env=(false,eval (.Tuple [.Name x p2,.Name y p3] c p4) X.env)::starEach [] X.env))(hs3:↥(starEach [.Name x p2,.Name y p3] X.env=(false,eval (.Name x p2) X.env)::starEach [.Name y p3] X.env))(hs4:↥(starEach [.Name y p3] X.env=(false,eval (.Name y p3) X.env)::starEach [] X.env))(hpl:↥((backTo pos (starEach [.Tuple [.Name x p2,.Name y p3] c p4] X.env)).any (·.1)=false))(hT:↥(T=.tuple))(hU:↥(U=.list)):
  DE X Z ow 0 (.Call (.Name "isinstance" p) [e,.Tuple [.Name x p2,.Name y p3] c p4] [] pos) (sC (pZ T U) f):=by
 subst hT hU;exact PE.mono (rR QN hg hm pT (dO ha (dO (T0 (dO (UB ă hmt hbt hn hd) (dO (UB hgu hmu hbu hn2 hd2) iP hs4) hs3)) iP hs2) hs) ⋯ ⋯ hs hpl) λσ H Q q=>by
  let⟨F,δ,R,q⟩:=q;unfold sC at q;sleep 1;cases e:f δ with
  |stuck=>rw[e]at q;exact q.elim
  |ok d δ1=>
   rw[e]at q;simp![Res.bind]at q;intro v H1 F1 R1 s1;have hb:∀r,pZ .tuple .list d=some r->∃b,r=.bool b:=λr h=>by
    unfold pZ at h;split at h
    .cases h;exact⟨_,rfl⟩
    .cases h
   cases e1:pZ .tuple .list d with
   |none=>rw[e1]at q;exact q.elim
   |some r=>
    rw[e1]at q;let⟨b,rfl⟩:=hb r e1;refine⟨(by decide:2<=sizeLine),λp hp=>?_⟩;have R2:=R1.rel.laid (o:=.tup [.ty Ty.tuple.name,.ty Ty.list.name]) hp;have fp:=R1.rel.fnone hp;have s2:aI F1 (aV F1 p (.tup [.ty Ty.tuple.name,.ty Ty.list.name])):=bW fp _;exact⟨v,d,b,p,rfl,aJ,R2.sub.rep _ _ (s2.rep _ _ R1.rep),e1,q _ _ _ (R2.x iK) (s1.trans' s2)⟩
end
section
variable {a:Expr}
def iM(x:Str)(n:Int):Str:=⟨(List.replicate n.toNat x.cps).foldl (·++·) #[]⟩
def G8 :∀(n:Nat)(a:Array Nat),((List.replicate n x).foldl (·++·) a).size=a.size+n*x.size
 |0,a=>by simp
 |n+1,a=>by rw[List.replicate_succ,List.foldl_cons,G8 n,Array.size_append,Nat.succ_mul];omega
def i7:(iM x n).length=n.toNat*x.length:=by
 show ((List.replicate n.toNat x.cps).foldl (·++·) #[]).size=_;rw[G8];simp;rfl
def V1(hx:x.all (·<0x110000)=true):∀(n:Nat)(a:Array Nat),a.all (·<0x110000)=true->((List.replicate n x).foldl (·++·) a).all (·<0x110000)=true
 |0,a,ha=>ha
 |n+1,a,ha=>by
  rw[List.replicate_succ,List.foldl_cons];refine V1 hx n _ ?_;rw[Array.all_append,ha,hx];rfl
def NU(hx:PyData.strOk x=true):PyData.strOk (iM x n)=true:=V1 hx _ _ 'f'
def NV:∀n:Nat,(List.replicate n (#[]:Array Nat)).foldl (·++·) #[]=#[]
 |0=>rfl
 |n+1=>by
  rw[List.replicate_succ,List.foldl_cons,Array.append_empty];exact NV n
def aB3:j7 X (binaryOp .Mult) (λx y H Q=>∃i n,x=.str i/\y=.int n/\i.length<=1000/\0<=n/\n<=1000/\Q (.str (iM i n)) H):=by
 intro À s σ H x y v u Q I rx ry h;let⟨i,n,rfl,rfl,h1,h2,h3,q⟩:=h;let⟨t,rfl⟩:=rx;let⟨t',rfl⟩:=ry;have hm:i.length*n.toNat<=1000*1000:=Nat.mul_le_mul h1 (by omega);have hz:sizeLine=2^24:=rfl;refine PySem.P.mul_str (by grind) (λg1 _ g2=>?_) (λ_ _=>?_) ?_
 .have:(1000:Int)<=(2^63-1)/n:=Int.le_ediv_of_mul_le (by omega) (by omega)
  omega
 .unfold Builtin.Str.tooLong
  grind
 .split
  .rename_i g
   have e:n.toNat=0:=by omega
   have e2:iM i n=Str.empty:=by
    unfold iM;rw[e];rfl
   rw[e2]at q;exact⟨⋯,.str Str.empty,H,I.tok _,⟨_,rfl⟩,q⟩
  .split
   .rename_i g
    rw[Bool.or_eq_true,beq_iff_eq,beq_iff_eq]at g;refine⟨.str (iM i n),H,I,⟨t,?_⟩,q⟩;have:iM i n=i:=by
     unfold iM;rcases g with rfl|g
     .simp_all
     .have e:i.cps=#[]:=Array.eq_empty_of_size_eq_zero g
      rw[e,NV,<- e]
    rw[this]
   .refine⟨?_,.str (iM i n),H,I.tok _,⟨_,rfl⟩,q⟩
    have:=i7 (x:=i) (n:=n);unfold iM at this
    grind
def ŗ:D->D->ZL
 |.str i,.int n=>if i.length<=1000/\0<=n/\n<=1000 then some (.str (iM i n))else none
 |_,_=>none
def aB5:oK X (λx y H Q=>∃i n,x=.str i/\y=.int n/\i.length<=1000/\0<=n/\n<=1000/\Q (.str (iM i n)) H) 0 ŗ:=λZ ow F H σ δ a b x y d Q S R ra rb e q=>by
 unfold ŗ at e;split at e
 .rename_i i n
  split at e
  .rename_i hc
   cases e;exact⟨i,n,h8 ra,gG rb,hc.1,hc.2.1,hc.2.2,q _ H F (R.x BM) (aI.refl _)⟩
  .cases e
 .cases e
def NW(S:aP Z ow)(ha:DE X Z ow 0 a f)(hb:DE X Z ow 0 b h):DE X Z ow 0 (.BinOp a .Mult b pos) (iF ŗ f h):=vO S aB3 aB5 ha hb
def Ϯ(h1:i.length<=1000)(h2:0<=n)(h3:n<=1000):ŗ (.str i) (.int n)=some (.str (iM i n)):=Â ⟨h1,h2,h3⟩
end
def Α(K:ZC)(a:Addr)(n:Nat):It:=
 ⟨λi H=>∃xs,d8 K H a xs/\xs.length=n/\i<n,
   λi H v H'=>H'=H/\∀xs,d8 K H a xs->xs[xs.length-1-i]?=some v,
   λi H=>i=n/\∃xs,d8 K H a xs⟩
def V3{P:Program}{w:World}{K:ZC}{tg:Expr}(a it:Addr)(n:Nat):FX P w K tg (Α K a n) [it] it (λi h=>i<=n/\h.IsRevIter it a ((n:Int)-1-(i:Int))) where
 mem:=by simp
 obj:=λi h st b hb=>by
  have e:b=it:=by simpa using hb
  subst e;let⟨_,o,e,c,d⟩:=st;exact⟨o,e,λv z=>by rw[d]at z;cases z⟩
 keep:=λi h h' st k=>⟨st.1,st.2.at λo e=>k it 'f' o e⟩
 item:=by
  sleep 2;let⟨xs,hq,hl,hi⟩:=hg;subst hl;let⟨its,rv,p,hz⟩:=I.list hq;have hx:xs[xs.length-1-i]?=some (xs[xs.length-1-i]'(by omega)):=Ê (by omega);let⟨u,hu,ru⟩:=rv.get hx;let⟨f0,f1,f2,f3,f4,f5⟩:=hf it 'f';have e0:(xs.length:Int)-1-(i:Int)=((xs.length-1-i:Nat):Int):=by omega
  have st2:=st.2;rw[e0]at st2;refine wpAny_pyNext_rev_item st2 p.isList (x:=u) (by simpa using hu) λh' st' sb=>?_;have I1:Inv X À σ H {s with heap:=h'}:=I.turned (t':=s.toks) (λb o hb e=>(sb.2 b hb).trans e) f0 f1 f3 f4 f5;have e2:((xs.length-1-i:Nat):Int)-1=(xs.length:Int)-1-((i+1:Nat):Int):=by omega
  rw[e2]at st';let⟨o,e,c,d⟩:=id st';exact⟨u,rfl,FY (s:={s with heap:=h'}) e c d ⋯ ⟨xs[xs.length-1-i]'(by omega),H,I1,ru,⟨rfl,λys hy=>by rw[I.list_inj hy hq];exact hx⟩,⟨hi,st'⟩,λb hb=>(hf b hb).1⟩⟩
 done:=by
  sleep 2;let⟨rfl,xs,hq⟩:=hg;let⟨f0,f1,f2,f3,f4,f5⟩:=hf it 'f';have st2:=st.2;rw[show (i:Int)-1-(i:Int)=-1 by omega]at st2;exact wpAny_pyNext_rev_end (I.ok.hd hc) st2 λh' eb=>⟨rfl,I.turned (t':=s.toks) (λb o hb e=>eb b o hb e) f0 f1 f3 f4 f5⟩
 self:=λ_ _ _ _ _ st h=>wpAny_pyIter_revIter st.2 h
section
def AT:bootBuiltins "reversed"=some (.type "reversed"):=by first|rfl|kernel_rfl|decide +kernel
def aOG(K:ZC)(ta:TA):TI:=λσ H R=>ta σ H λvs H1=>∃a xs,vs=[.ref a]/\d8 K H1 a xs/\R (Α K a xs.length) H1
def aIG(hg:Gl X "reversed")(hm:X.mg "reversed"=none)(ha:PA X [a] ta)(hs:↥(starEach [a] X.env=[(false,eval a X.env)])):
  PI X tg (.Call (.Name "reversed" p) [a] [] pos) (aOG X.K ta):=by
 intro À s σ H R I h;refine Call_ (hW I hg hm AT (callWith_type1 (cA (ha pos À s σ H _ I h) λus s1 zQ=>?_) hs rfl));let⟨vs,H1,I1,r1,q1⟩:=zQ;let⟨l,xs,e,hx,q⟩:=q1;subst e;cases r1 with
 |cons r rr=>
  cases rr;cases r;let⟨ia,ra,pa,_⟩:=I1.list hx;have la:=ra.length;refine call_reversed_list pa.isList ?_;have st:(s1.heap.push (revObj l ((ia.toArray.size:Int)-1))).IsRevIter s1.heap.objs.size l ((xs.length:Int)-1-((0:Nat):Int)):=⟨_,Heap.get?_push_size _ rfl,rfl,by
   show Data.fields #[.ref l,rawInt ((ia.toArray.size:Int)-1)]=_;rw[é,<- la];simp⟩
  refine wpAny_pyIter_revIter (s:={s1 with heap:=s1.heap.push (revObj l ((ia.toArray.size:Int)-1))}) st ?_;refine⟨s1.heap.objs.size,[s1.heap.objs.size],_,_,H1,rfl,I1.kept (t':=s1.toks) λb o e=>Heap.get?_push_of_some _ e,V3 l _ xs.length,⟨í _,st⟩,λb hb=>?_,q⟩;have e:b=s1.heap.objs.size:=by simpa using hb
  subst e;exact I1.fpOk (È _) (I1.hok.fresh (È _))
end
def aB6{K:ZC}{F:Hp}{a:Addr}{xs:List V}{ds:ZI}(hx:d8 K F a xs)(rx:aD K F ds xs):SY K F (Α K a xs.length) ds.reverse where
 go:=λi H s hi=>by
  have l1:=rx.len;rw[List.length_reverse]at hi;exact⟨xs,s.seq hx,rfl,by omega⟩
 yld:=λi H v H' d s y e=>.inl ⟨y.1,by
  have l1:=rx.len;have hi:=(Í.mp e).1;rw[List.length_reverse]at hi;rw[List.getElem?_reverse hi]at e;let⟨x',f1,g1⟩:=rx.get e;have:=y.2 xs (s.seq hx);rw[<- l1,f1]at this;cases this;exact g1⟩
 stop:=λH s=>⟨by rw[List.length_reverse,rx.len],xs,s.seq hx⟩
def Ř(f:M D):M (ZI):=λδ=>(bA [f] δ).bind λds δ1=>match ds with
 |[.list as]=>.ok as.reverse δ1
 |_=>.stuck
section
def aIH(hgl:Gl X "reversed")(hm:X.mg "reversed"=none)(ha:DE X Z ow 0 a f)(hst:↥(Zse a [] X.env)):
  DI X Z ow tg (.Call (.Name "reversed" p2) [a] [] p3) (Ř f):=
 (aIG hgl hm (aF ha aX hst) hst).mono λσ H R q=>by
  let⟨F,δ,Rl,q⟩:=q;unfold Ř at q;refine⟨F,δ,Rl,?_⟩;cases e1:bA [f] δ with
  |stuck=>rw[e1]at q;exact q.elim
  |ok ds δ1=>
   rw[e1]at q;simp![Res.bind]at q;intro vs H1 F1 R1 s1 ra;split at q
   .rename_i as
    let⟨v,rfl,r⟩:=AQ ra;let⟨l,xs,rfl,hp,hr⟩:=jI r;exact⟨l,xs,rfl,R1.sub.seq hp,q _ H1 F1 R1 s1 (aB6 hp hr)⟩
   .exact q.elim
end
section
end
section
def aOH:V->Option Int->Option Int->Hp->VK->Prop:=λx lo hi H Q=>∃z,x=.str z/\z.length<=sizeLine/\Q (.str (Txt.slice z lo hi)) H
def ϯ:D->Option Int->Option Int->ZL
 |.str z,l,u=>if z.length<=sizeLine then some (.str (Txt.slice z l u))else none
 |_,_,_=>none
def V4:Ō X aOH 0 ϯ:=λZ ow F H σ δ a x l u d Q S R ra e q=>by
 unfold ϯ at e;split at e
 .split at e
  .rename_i hz
   cases e;exact⟨_,h8 ra,hz,q _ H F (R.x BM) (aI.refl _)⟩
  .cases e
 .cases e
end
def jJ(f:Str):ZG->Nat
 |[]=>0
 |g::r=>if g=f then 0 else jJ f r+1
def AU(f:Str):ZG->ZG
 |[]=>[f]
 |g::r=>if g=f then g::r else g::AU f r
def v8{α:Type}(k:Nat)(y:α)(xs:List α):(List α):=if k<xs.length then xs.set k y else xs++[y]
def V5 :∀{fs:ZG},jJ f fs<=fs.length
 |[]=>È _
 |g::r=>by
  unfold jJ;split
  .exact í _
  .have:=V5 (f:=f) (fs:=r);rw[Û];exact Nat.lt_succ_of_le ‹_›
def BY{xs:List α}:v8 (k+1) y (x::xs)=x::v8 k y xs:=by
 unfold v8;by_cases h:k<xs.length
 .rw[Â (by rw[Û];exact Nat.succ_lt_succ ‹_›),Â h];rfl
 .rw[Ã (by rw[Û];lia),Ã h];rfl
def xN{xs:List α}:(v8 k y xs).length=if k<xs.length then xs.length else xs.length+1:=by
 unfold v8;split
 .rw[Î]
 .rw[Ð];rfl
def NX{xs:List α}(h:k<=xs.length)(j:Nat):(v8 k y xs)[j]?=if j=k then some y else xs[j]?:=by
 unfold v8;by_cases hk:k<xs.length
 .rw[Â hk]
  by_cases hj:j=k
  .subst hj;rw[Â rfl,ß hk]
  .rw[Ã hj,Ù (Ñ hj)]
 .rw[Ã hk]
  have:k=xs.length:=by lia
  subst this;by_cases hj:j=xs.length
  .subst hj;rw[Â rfl,ã (È _),ù];rfl
  .rw[Ã hj]
   by_cases hl:j<xs.length
   .rw[ó hl]
   .rw[ç (by rw[Ð,ò];lia),ç (by exact è.mp ‹_›)]
def G9 :∀{fs:ZG},(AU f fs).length=if jJ f fs<fs.length then fs.length else fs.length+1
 |[]=>rfl
 |g::r=>by
  unfold AU jJ;by_cases h:g=f
  .rw[Â h,Â h,Â (by rw[Û];exact Ă _)]
  .rw[Ã h,Ã h,Û,G9 (f:=f) (fs:=r),Û]
   by_cases q:jJ f r<r.length
   .rw[Â q,Â (by exact Nat.succ_lt_succ ‹_›)]
   .rw[Ã q,Ã ∅]
def i8 :∀{fs:ZG}{vs:List V},fs.length=vs.length->(fs.zip vs).lookup f=vs[jJ f fs]?
 |[],[],_=>rfl
 |g::fs,v::vs,h=>by
  rw[ä];unfold jJ;by_cases e:g=f
  .rw[Â e,å,show (f == g)=true by rw[e];exact beq_self_eq_true _]
   rfl
  .rw[Ã e,å,show (f == g)=false from beq_eq_false_iff_ne.mpr (Ñ e),List.getElem?_cons_succ]
   exact i8 (by simpa using h)
def HA :∀{fs:ZG}{vs:List V},fs.length=vs.length->kP f y (fs.zip vs)=(AU f fs).zip (v8 (jJ f fs) y vs)
 |[],[],_=>rfl
 |g::fs,v::vs,h=>by
  rw[ä];unfold kP AU jJ;by_cases e:g=f
  .rw[Â e,Â e,Â e];rfl
  .rw[Ã e,Ã e,Ã e,BY,ä,HA (by simpa using h)]
def l7(f:Str):List (D×D)->ZL
 |(.str g,d)::r=>if g=f then some d else l7 f r
 |_=>none
def pJ(f:Str):List (D×D)->Nat
 |(.str g,_)::r=>if g=f then 0 else pJ f r+1
 |_=>0
def p6(f:Str)(y:D):List (D×D)->List (D×D)
 |(.str g,d)::r=>if g=f then (.str g,y)::r else (.str g,d)::p6 f y r
 |_=>[(.str f,y)]
def nD :∀{fs:ZG}{ds:ZI},fs.length=ds.length->l7 f ((fs.map PyData.str).zip ds)=ds[jJ f fs]?
 |[],[],_=>rfl
 |g::fs,v::vs,h=>by
  rw[Ì,ä];unfold l7 jJ;by_cases e:g=f
  .rw[Â e,Â e];rfl
  .rw[Ã e,Ã e,List.getElem?_cons_succ]
   exact nD (by simpa using h)
def sK :∀{fs:ZG}{ds:ZI},fs.length=ds.length->pJ f ((fs.map PyData.str).zip ds)=jJ f fs
 |[],[],_=>rfl
 |g::fs,v::vs,h=>by
  rw[Ì,ä];unfold pJ jJ;rw[sK (by simpa using h)]
def uQ :∀{fs:ZG}{ds:ZI},fs.length=ds.length->p6 f y ((fs.map PyData.str).zip ds)=((AU f fs).map PyData.str).zip (v8 (jJ f fs) y ds)
 |[],[],_=>rfl
 |g::fs,v::vs,h=>by
  rw[Ì,ä];unfold p6 AU jJ;by_cases e:g=f
  .rw[Â e,Â e,Â e];rfl
  .rw[Ã e,Ã e,Ã e,BY,Ì,ä,uQ (by simpa using h)]
def gL(nm f:Str):D->ZL
 |.dict ((.none,.str n)::Á)=>if n=nm then l7 f Á else none
 |_=>none
section
variable {X:Cx}{Z:cN}{ow:ZH}{pos:Pos}{e a c:Expr}{h:M D}{F H:Hp}{g:ZP}{K:ZC}{nm f:Str}
def V6(K:ZC)(nm f:Str):Prop:=∀C,W.nsIn K mainGlobals nm=some (some (.ref C))->SQ K C/\lM K C f
def HB:∀{Á:List (D×D)}{fs:ZG},Á.map Prod.fst=fs.map PyData.str->Á=(fs.map PyData.str).zip (Á.map Prod.snd)
 |[],[],_=>rfl
 |(k,d)::Á,g::fs,h=>by
  rw[Ì,Ì]at h;injection h with h1 h2;rw[Ì,Ì,ä,<- HB h2];exact congrArg (λk=>(k,d)::Á) h1
def NY{d r:D}(h:bD K F d v)(e:gL nm f d=some r):∃a C dx fs y,v=.ref a/\F a=some (.ins C dx fs)/\W.nsIn K mainGlobals nm=some (some (.ref C))/\fs.lookup f=some y/\bD K F r y:=by
 unfold gL at e;split at e
 .rename_i n Á
  split at e
  .rename_i hn
   subst hn;unfold bD at h;let⟨a,xs,rfl,hh,hr⟩:=h;rcases hh with ⟨nm',fs,C,dx,vs,h1,h2,h3,h4,h5,h6⟩|⟨ms,h1,_⟩
   .subst h1
    rw[Ì]at h2;injection h2 with _ h2;unfold iE at hr;let⟨x,t,hx,r1,r2⟩:=hr;injection hx with hx1 hx2;subst hx2;unfold bD at r1;rw[<- hx1]at r1;injection r1 with r1;subst r1;rw[HB h2]at e;have hl:fs.length=(Á.map Prod.snd).length:=by rw[<- Å (f:=PyData.str),<- h2,Å,Å]
    rw[nD hl]at e;let⟨y,y1,y2⟩:=r2.all.get e;exact⟨a,C,dx,_,y,rfl,h4,h6,by rw[i8 h3];exact y1,y2⟩
   .exfalso
    rw[Ì]at h1;cases ms with
    |nil=>cases h1
    |cons m ms=>
     rw[Ì]at h1;injection h1 with h1 _;cases m<;>cases h1
  .cases e
 .cases e
def dM(nm:Str)(hc:V6 X.K nm f)(ha:DE X Z ow 0 e fe)(hb:↥(attributeBase e f X.env (eval e X.env)=eval e X.env)):DE X Z ow 0 (.Attribute e f pos) (sC (gL nm f) fe):=PE.mono (C4 ha hb) λσ H Q q=>by
 let⟨F,δ,R,q⟩:=q;unfold sC at q;sleep 1;cases e1:fe δ with
 |stuck=>rw[e1]at q;exact q.elim
 |ok d δ1=>
  rw[e1]at q;simp![Res.bind]at q;intro v H1 F1 R1 s1;cases e2:gL nm f d with
  |none=>rw[e2]at q;exact q.elim
  |some r=>
   rw[e2]at q;let⟨a,C,dx,fs,y,rfl,h1,h2,h3,h4⟩:=NY R1.rep e2;let⟨c1,c2⟩:=hc C h2;exact⟨a,C,dx,fs,y,rfl,R1.rel.sub _ _ h1,c1,c2,h3,q y H1 F1 (R1.rel.x h4) s1⟩
def bE.ins{i c:Nat}(h:bE K F H g i c p d v)(hk:kd c=2):
  ∃a nm fs C dx ds vs,d=dN nm fs ds/\v=.ref a/\fs.length=ds.length/\ds.length=vs.length/\W.nsIn K mainGlobals nm=some (some (.ref C))/\g a=some (i,p)/\H a=some (.ins C dx (fs.zip vs))/\F a=none/\g dx=some (i,p++[1000])/\H dx=some (.own a)/\F dx=none /\
   ∀(k:Nat)(d':D)(v':V),ds[k]?=some d'->vs[k]?=some v'->bE K F H g i (ch c k) (p++[k]) d' v':=by
 cases c with
 |zero=>cases hk
 |succ c=>
  let⟨ds,vs,cs,nd,hc,hl,r⟩:=h.open;rw[hk]at nd;let⟨a,nm,fs,C,dx,h1,h2,h3,h4,rfl⟩:=nd;let⟨a1,a2,a3⟩:=hc _ Ô;let⟨b1,b2,b3⟩:=hc _ (Ó _ (ô.mpr rfl));exact⟨a,nm,fs,C,dx,ds,vs,h1,h2,h3,hl,h4,by simpa using a1,a2,a3,b1,b2,b3,r⟩
def bE.mkI{i c:Nat}{p:ZH}{a C dx:Addr}{fs:ZG}{ds:ZI}{vs:List V}(hk:kd c=2)(h3:fs.length=ds.length)(hl:ds.length=vs.length)(h4:W.nsIn K mainGlobals nm=some (some (.ref C)))(a1:g a=some (i,p))(a2:H a=some (.ins C dx (fs.zip vs)))(a3:F a=none)(b1:g dx=some (i,p++[1000]))(b2:H dx=some (.own a))(b3:F dx=none)(r:∀(k:Nat)(d':D)(v':V),ds[k]?=some d'->vs[k]?=some v'->bE K F H g i (ch c k) (p++[k]) d' v'):bE K F H g i c p (dN nm fs ds) (.ref a):=by
 cases c with
 |zero=>cases hk
 |succ c=>
  refine bE.shut (ds:=ds) (vs:=vs) (cs:=[(a,[],.ins C dx (fs.zip vs)),(dx,[1000],.own a)]) (by rw[hk];exact⟨a,nm,fs,C,dx,rfl,rfl,h3,h4,rfl⟩) (λx hx=>?_) hl r
  rcases Ø.mp hx with z|z
  .subst z;exact⟨by simpa using a1,a2,a3⟩
  .rw[ô.mp z];exact⟨b1,b2,b3⟩
def HC(i c:Nat)(nm f:Str):M D:=λδ=>match δ[i]? with
 |some (some (.dict ((.none,.str n)::Á)))=>if n=nm/\ch c (pJ f Á)=0 then (match l7 f Á with
  |some r=>.ok r δ
  |none=>.stuck)else .stuck
 |_=>.stuck
def oQ{n:Str}{Á:List (D×D)}(h:(PyData.dict ((.none,.str n)::Á):D)=dN nm fs ds):n=nm/\Á=(fs.map PyData.str).zip ds:=by
 unfold dN at h;injection h with h;injection h with h1 h2;injection h1 with _ h1;injection h1 with h1;exact⟨h1,h2⟩
def oR(i:Nat)(nm:Str){c:Nat}{x:Str}{p:Pos}(hc:V6 X.K nm f)(ho:↥(ow.getD i 0=c))(hk:↥(kd c=2))(hN:↥(X.N[i]?=some x))(hv:#v[AI X.env.scope x])(hd:⇑(Zdb x))(hcd:⇑(Zcd x))(hb:↥(attributeBase 'h' f X.env (eval 'h' X.env)=eval 'h' X.env)):DE X Z ow 0 (.Attribute 'h' f pos) (HC i c nm f):=PE.mono (C4 (c9 hN hv hd hcd) hb) λσ H Q q=>by
 let⟨F,δ,⟨g,R⟩,q⟩:=q;unfold HC at q;split at q
 .rename_i n Á e0
  split at q
  .rename_i hn
   let⟨rfl,hch⟩:=hn;cases e1:l7 f Á with
   |none=>rw[e1]at q;exact q.elim
   |some r=>
    rw[e1]at q;let⟨v,w1,o⟩:=R.slot i _ e0;rw[ho]at o;let⟨a,nm',fs,C,dx,ds,vs,d1,rfl,l1,l2,hC,_,hH,_,_,_,_,hch'⟩:=o.ins hk;let⟨rfl,rfl⟩:=oQ d1;rw[nD l1]at e1;rw[sK l1]at hch;have hlt:jJ f fs<vs.length:=by have:=(Í.mp e1).1;exact õ ‹_› ‹_›
    have o1:=hch' _ _ _ e1 (Ê hlt);rw[hch]at o1;let⟨c1,c2⟩:=hc C hC;refine⟨_,w1,a,C,dx,_,vs[jJ f fs],rfl,hH,c1,c2,?_,q _ H F ⟨g,R,o1⟩ λ_ _ z=>z⟩;rw[i8 (by exact Eq.trans ‹_› ‹_›)];exact Ê hlt
  .exact q.elim
 .exact q.elim
end
section
variable {X:Cx}{Z:cN}{ow ol ox:ZH}{n rm c i:Nat}{pos:Pos}{e:Expr}{fe:M D}{F H:Hp}{σ:St}{δ:DS}{g:ZP}{K:ZC}{nm f:Str}
def K7(S:aP Z ow)(h:ow.getD i 0≠0):i<1000:=by
 by_cases hl:i<ow.length
 .exact Ú hl S.ow
 .exact absurd (by rw[Ë,ç (by exact è.mp ‹_›)];rfl) h
def aLP(hk:kd c=2):c≠0:=λz=>by rw[z]at hk;cases hk
def wD:∀{xs ys:ZG},xs.map PyData.str=ys.map PyData.str->xs=ys
 |[],[],_=>rfl
 |x::xs,y::ys,h=>by
  rw[Ì,Ì]at h;injection h with h1 h2;injection h1 with h1;rw[h1,wD h2]
def gF.putFld(S:aP Z ow)(R:gF K Z ow n d v F H σ δ)(ho:ow.getD i 0=c)(hk:kd c=2)(hd:δ[i]?=some (some (dN nm fs ds)))(hl:fs.length=ds.length)(hs:σ[i]?=some (some (.ref a)))(hch:ch c (jJ f fs)=n):
  ∃C dx vs,fs.length=vs.length/\W.nsIn K mainGlobals nm=some (some (.ref C))/\H a=some (.ins C dx (fs.zip vs))/\cB K Z ow F (aV H a (.ins C dx (kP f v (fs.zip vs)))) σ (δ.set i (some (dN nm (AU f fs) (v8 (jJ f fs) d ds)))):=by
 let⟨g,R,oh⟩:=R;let⟨v1,w1,o⟩:=R.slot i _ hd;rw[hs]at w1;cases w1;rw[ho]at o;have i1:i<1000:=K7 S (by rw[ho];exact aLP hk);let⟨a',nm',fs',C,dx,ds',vs,d1,ea,l1,l2,hC,a1,a2,a3,b1,b2,b3,hch'⟩:=o.ins hk;cases ea;let⟨rfl,ez⟩:=oQ (nm:=nm') (n:=nm) (Á:=(fs.map PyData.str).zip ds) d1;have efs:fs=fs':=by
  have:=congrArg (List.map Prod.fst) ez;rw[ĕ (by rw[Å];exact ú ‹_›),ĕ (by rw[Å];exact ú ‹_›)]at this;exact wD this
 have eds:ds=ds':=by
  have:=congrArg (List.map Prod.snd) ez;rw[Ĕ (by rw[Å];lia),Ĕ (by rw[Å];lia)]at this;exact this
 subst efs eds;have hi:i<δ.length:=(Í.mp hd).1;have nda:dx≠a:=λz=>by rw[z,a1]at b1;cases b1
 refine⟨C,dx,vs,by exact Eq.trans ‹_› ‹_›,hC,a2,λb=>match g b with|some (m,p)=>if m=1000 then some (i,jJ f fs::p)else some (m,p)|none=>none,λb u e=>?_,R.f0,λb u m e=>?_,R.new,λb z=>?_,λb m p e=>?_,by rw[Î];exact R.len,R.par,λj d' e=>?_⟩
 .have:b≠a:=λz=>by rw[z,a3]at e;cases e
  rw[aE this];exact R.sub b u e
 .have:b≠a:=λz=>by
   subst z;rcases R.lab b i [] a1 with w|⟨q,w⟩
   .rw[w]at e;cases e
   .rw[w]at m;cases m
  rw[aE this];exact R.kept b u m e
 .by_cases hb:b=a
  .subst hb;rw[aJ];simp
  .rw[aE hb];exact R.there b z
 .cases eg:g b with
  |none=>rw[eg]at e;cases e
  |some l=>
   let⟨m',p'⟩:=l;rw[eg]at e;dsimp only at e;split at e
   .rename_i hm
    subst hm;rcases R.lab b 1000 p' eg with w|⟨q,w⟩
    .exact .inl w
    .exact absurd (Z.wf b 1000 q w) S.ps
   .cases e;exact R.lab b m p eg
 .have rl:∀{m:Nat},m≠1000->∀b p,g b=some (m,p)->(match g b with|some (m,p)=>if m=1000 then some (i,jJ f fs::p)else some (m,p)|none=>none)=some (m,p):=λhm b p e=>by rw[e];exact Ã hm
  by_cases hj:j=i
  .subst hj
   rw[ß hi]at e;cases e;refine⟨_,hs,?_⟩;rw[ho];have ile:jJ f fs<=ds.length:=by have:=V5 (f:=f) (fs:=fs);lia
   refine bE.mkI (C:=C) (dx:=dx) (vs:=v8 (jJ f fs) v vs) hk ?_ ?_ hC (rl (by exact Ï ‹_›) _ _ a1) (by rw[aJ,HA (by exact Eq.trans ‹_› ‹_›)]) a3 (rl (by exact Ï ‹_›) _ _ b1) (by rw[aE nda];exact b2) b3 λk d' v' z1 z2=>?_
   .rw[G9,xN,hl]
   .rw[xN,xN,l2]
   .rw[NX ile]at z1
    rw[NX ∅]at z2;by_cases hk':k=jJ f fs
    .subst hk'
     rw[Â rfl]at z1 z2;cases z1;cases z2;rw[hch];have:=bE.relabP (q:=[jJ f fs]) (j:=j) (g':=λb=>match g b with|some (m,p)=>if m=1000 then some (j,jJ f fs::p)else some (m,p)|none=>none) (λb p e=>by rw[e];exact Â rfl) (bE.updNe (o:=.ins C dx (kP f v (fs.zip vs))) a1 (.inl (by exact Þ ‹_›)) oh);rw[â]at this;exact this
    .rw[Ã hk']at z1 z2
     refine bE.relab (rl (by exact Ï ‹_›)) (bE.updNe a1 (.inr λw=>?_) (hch' k d' v' z1 z2));let⟨t,ht⟩:=w;cases ht
  .rw[Ù (Ñ hj)]at e
   let⟨v',e1,o'⟩:=R.slot j d' e;refine⟨v',e1,?_⟩;by_cases hz:ow.getD j 0=0
   .rw[hz]at o'⊢;exact o'
   .have j1:j<1000:=K7 S hz
    exact bE.relab (rl (by exact Ï ‹_›)) (bE.updNe a1 (.inl hj) o')
def sL(i c n:Nat)(nm f:Str)(fe:M D):M Fl:=λδ=>(fe δ).bind λy δ1=>match δ1[i]? with
 |some (some (.dict ((.none,.str m)::Á)))=>if m=nm/\ch c (pJ f Á)=n/\Á.length<1000 then .ok .next (δ1.set i (some (.dict ((.none,.str m)::p6 f y Á))))else .stuck
 |_=>.stuck
def HD{Á:List (D×D)}(R:cX K Z ow g F H σ δ)(ho:ow.getD i 0=c)(hk:kd c=2)(hd:δ[i]?=some (some (.dict ((.none,.str m)::Á)))):∃(a:Addr)(fs:ZG)(ds:ZI),Á=(fs.map PyData.str).zip ds/\fs.length=ds.length/\σ[i]?=some (some (.ref a)):=by
 let⟨v1,w1,o⟩:=R.slot i _ hd;rw[ho]at o;let⟨a',nm',fs',C,dx,ds',vs,d1,ea,l1,_⟩:=o.ins hk;subst ea;let⟨_,ez⟩:=oQ d1;exact⟨a',fs',ds',ez,l1,w1⟩
def nE(i:Nat)(nm:Str){x:Str}{p pos':Pos}(S:aP Z ow)(hc:V6 X.K nm f)(hv:DE X Z ow n e fe)(ho:↥(ow.getD i 0=c))(hk:↥(kd c=2))(hN:↥(X.N[i]?=some x))(hvi:#v[AI X.env.scope x])(hd:⇑(Zdb x))(hcd:⇑(Zcd x))(hs:↥(swapsWith e (some (.Attribute 'h' f pos')) pos.line X.env=pure false)):DJ X Z ow ow ol ox rm (.Assign [.Attribute 'h' f pos'] e pos) (sL i c n nm f fe):=PS.mono (aGJ (c9 hN hvi hd hcd) hv hs) λDn σ H h=>by
 let⟨F,δ,R,h⟩:=h;unfold sL at h;sleep 1;cases e1:fe δ with
 |stuck=>rw[e1]at h;exact h.elim
 |ok dv δ1=>
  rw[e1]at h;simp![Res.bind]at h;intro v H1 F1 R1 s1;split at h
  .rename_i m Á e0
   split at h
   .rename_i hh
    let⟨rfl,hch,hlt⟩:=hh;let⟨g1,RG,o1⟩:=R1;let⟨a,fs,ds,rfl,l1,w1⟩:=HD RG ho hk e0;rw[sK l1]at hch;let⟨C,dx,vs,l3,hC,hH,R2⟩:=gF.putFld (f:=f) S ⟨g1,RG,o1⟩ ho hk (show δ1[i]?=some (some (dN m fs ds))from e0) l1 w1 hch;let⟨c1,c2⟩:=hc C hC;rw[ë,Å]at hlt;refine⟨_,w1,a,C,dx,_,rfl,hH,c1,c2,by rw[ë];lia,?_⟩;rw[uQ l1]at h;exact h σ _ F1 R2 s1
   .exact h.elim
  .exact h.elim
end
def N0 :∀{fs:ZG},jJ f fs<fs.length->AU f fs=fs
 |g::r,h=>by
  unfold AU;unfold jJ at h;by_cases e:g=f
  .rw[Â e]
  .rw[Ã e]at h
   rw[Ã e,N0 (by rw[Û]at h;exact Nat.le_of_lt_succ ‹_›)]
section
variable {X:Cx}{Z:cN}{ow ol ox:ZH}{rm c i:Nat}{pos spos tpos:Pos}{e:Expr}{fk fv:M D}{F H:Hp}{σ:St}{δ:DS}{g:ZP}{K:ZC}{nm f:Str}
def cX.atF(R:cX K Z ow g F H σ δ)(ho:ow.getD i 0=c)(hk:kd c=2)(hd:δ[i]?=some (some (dN nm fs ds)))(hl:fs.length=ds.length)(hch:ch c (jJ f fs)=1)(hj:ds[jJ f fs]?=some (.list inner)):
  ∃a C dx vs b ws,σ[i]?=some (some (.ref a))/\W.nsIn K mainGlobals nm=some (some (.ref C))/\H a=some (.ins C dx (fs.zip vs))/\fs.length=vs.length/\vs[jJ f fs]?=some (.ref b)/\H b=some (.lst ws)/\aD K F inner ws/\g b=some (i,[jJ f fs]):=by
 let⟨v1,w1,o⟩:=R.slot i _ hd;rw[ho]at o;let⟨a,nm',fs',C,dx,ds',vs,d1,ea,l1,l2,hC,a1,a2,a3,b1,b2,b3,hch'⟩:=o.ins hk;subst ea;let⟨rfl,ez⟩:=oQ (nm:=nm') (n:=nm) (Á:=(fs.map PyData.str).zip ds) d1;have efs:fs=fs':=by
  have:=congrArg (List.map Prod.fst) ez;rw[ĕ (by rw[Å];exact ú ‹_›),ĕ (by rw[Å];exact ú ‹_›)]at this;exact wD this
 have eds:ds=ds':=by
  have:=congrArg (List.map Prod.snd) ez;rw[Ĕ (by rw[Å];lia),Ĕ (by rw[Å];lia)]at this;exact this
 subst efs eds;have jl:jJ f fs<vs.length:=by have:=(Í.mp hj).1;exact õ ‹_› ‹_›
 have o2:=hch' _ _ _ hj (Ê jl);rw[hch]at o2;let⟨b,inner',ws,y1,y2,y3,y4,y5,y6,y7⟩:=o2.lst (m:=0);cases y1;exact⟨a,C,dx,vs,b,ws,w1,hC,a2,by exact Eq.trans ‹_› ‹_›,by rw[Ê jl,y2],y4,aD.of y6 y7,y3⟩
def cX.rewriteF(R:cX K Z ow g F H σ δ)(ho:ow.getD i 0=c)(hk:kd c=2)(hd:δ[i]?=some (some (dN nm fs ds)))(hl:fs.length=ds.length)(hch:ch c (jJ f fs)=1)(hj:ds[jJ f fs]?=some (.list inner))(hs:σ[i]?=some (some (.ref a)))(ha:H a=some (.ins C dx (fs.zip vs)))(hb:vs[jJ f fs]?=some (.ref b))(hvl:fs.length=vs.length)(hr:aD K F inner' ws'):cX K Z ow g F (aV H b (.lst ws')) σ (δ.set i (some (dN nm fs (ds.set (jJ f fs) (.list inner'))))):=by
 let⟨v1,w1,o⟩:=R.slot i _ hd;rw[hs]at w1;cases w1;rw[ho]at o;let⟨a',nm',fs',C',dx',ds',vs',d1,ea,l1,l2,hC,a1,a2,a3,b1,b2,b3,hch'⟩:=o.ins hk;cases ea;let⟨rfl,ez⟩:=oQ (nm:=nm') (n:=nm) (Á:=(fs.map PyData.str).zip ds) d1;have efs:fs=fs':=by
  have:=congrArg (List.map Prod.fst) ez;rw[ĕ (by rw[Å];exact ú ‹_›),ĕ (by rw[Å];exact ú ‹_›)]at this;exact wD this
 have eds:ds=ds':=by
  have:=congrArg (List.map Prod.snd) ez;rw[Ĕ (by rw[Å];lia),Ĕ (by rw[Å];lia)]at this;exact this
 subst efs eds;rw[ha]at a2;injection a2 with a2;injection a2 with q1 q2 q3;subst q1 q2;have evs:vs=vs':=by
  have:=congrArg (List.map Prod.snd) q3;rw[Ĕ ∅,Ĕ ∅]at this;exact this
 subst evs;have jl:jJ f fs<vs.length:=(Í.mp hb).1;have o2:=hch' _ _ _ hj hb;rw[hch]at o2;let⟨b',inner0,ws,y1,y2,y3,y4,y5,y6,y7⟩:=o2.lst (m:=0);cases y1;cases y2;have y3:g b=some (i,[jJ f fs]):=y3;have hi:i<δ.length:=(Í.mp hd).1;have nab:a≠b:=λz=>by rw[z,y3]at a1;cases a1
 have hne:dx≠b:=λz=>by rw[z,y4]at b2;cases b2
 refine⟨λb' u e=>?_,R.f0,λb' u n e=>?_,R.new,λb' z=>?_,R.lab,by rw[Î];exact R.len,R.par,λk d e=>?_⟩
 .have:b'≠b:=λz=>by rw[z,y5]at e;cases e
  rw[aE this];exact R.sub b' u e
 .have:b'≠b:=λz=>by
   subst z;rcases R.lab b' i _ y3 with w|⟨q,w⟩
   .rw[w]at e;cases e
   .rw[w]at n;cases n
  rw[aE this];exact R.kept b' u n e
 .by_cases hb':b'=b
  .subst hb';rw[aJ];simp
  .rw[aE hb'];exact R.there b' z
 .by_cases hki:k=i
  .subst hki
   rw[ß hi]at e;cases e;refine⟨_,hs,?_⟩;rw[ho];refine bE.mkI (C:=C) (dx:=dx) (vs:=vs) hk (by rw[Î];exact hl) (by rw[Î];exact l2) hC a1 (by rw[aE nab];exact ha) a3 b1 (by rw[aE hne];exact b2) b3 λl d' v' z1 z2=>?_;by_cases hlq:jJ f fs=l
   .subst hlq
    rw[ß (by exact õ ‹_› (Eq.symm ‹_›))]at z1;cases z1;rw[hb]at z2;cases z2;rw[hch];exact bE.mkL (m:=0) ⟨b,inner',ws',rfl,rfl,y3,aJ,y5,hr.len,λk d' v' z1 z2=>hr.both k d' v' z1 z2⟩
   .rw[Ù hlq]at z1
    refine bE.updNe y3 (.inr λz=>?_) (hch' l d' v' z1 z2);have z:[l] <+: [jJ f fs]:=z;let⟨t,ht⟩:=z;injection ht with h1 _;exact hlq h1.symm
  .rw[Ù (Ñ hki)]at e
   let⟨v,e1,o⟩:=R.slot k d e;exact⟨v,e1,bE.updNe y3 (.inl hki) o⟩
def sM(i c:Nat)(nm f:Str)(fk fv:M D):M Fl:=λδ=>(fv δ).bind λv δ1=>match δ1[i]?,fk δ1 with
 |some (some (.dict ((.none,.str m)::Á))),.ok (.int k) _=>if m=nm/\ch c (pJ f Á)=1 then (match l7 f Á with
  |some (.list ds)=>(match oE ds.length k with
   |some j=>.ok .next (δ1.set i (some (.dict ((.none,.str m)::p6 f (.list (ds.set j v)) Á))))
   |none=>.stuck)
  |_=>.stuck)else .stuck
 |_,_=>.stuck
def BZ(i m:Nat)(nm:Str){x:Str}{p p2:Pos}(S:aP Z ow)(hc:V6 X.K nm f)(hv:DE X Z ow 0 ev fv)(hk:∀F H σ,DE X (cU F H σ m) 'c' 0 ek fk)(ho:↥(ow.getD i 0=c))(hkd:↥(kd c=2))(hN:↥(X.N[i]?=some x))(hvi:#v[AI X.env.scope x])(hd:⇑(Zdb x))(hcd:⇑(Zcd x))(hb:↥(attributeBase 'h' f X.env (eval 'h' X.env)=eval 'h' X.env))(ha: ~~~(∀v,assign (.Subscript (.Attribute 'h' f p2) ek tpos) X.env v=(do
   let ov <- holding [v] (eval (.Attribute 'h' f p2) X.env);let iv <- holding [v,ov] (eval ek X.env)
   standAt tpos
   holding [v,ov,iv] (setItem ov iv v)
   release [v,ov,iv] [])))(hs:↥(swapsWithSole [.Subscript (.Attribute 'h' f p2) ek tpos] ev spos.line X.env=pure false))(hw:↥(swappedStores [.Subscript (.Attribute 'h' f p2) ek tpos] ev X.env=pure none))(h1:↥((assignEach [.Subscript (.Attribute 'h' f p2) ek tpos] X.env).map (·.2)=[assign (.Subscript (.Attribute 'h' f p2) ek tpos) X.env])):
  DJ X Z ow ow ol ox rm (.Assign [.Subscript (.Attribute 'h' f p2) ek tpos] ev spos) (sM i c nm f fk fv):=PS.mono (TJ hv (TH (C4 (c9 hN hvi hd hcd) hb) (uP m hk) GC ha) hs hw h1) λDn σ H h=>by
 let⟨F,δ,R,h⟩:=h;unfold sM at h;sleep 1;cases e1:fv δ with
 |stuck=>rw[e1]at h;exact h.elim
 |ok dv δ1=>
  rw[e1]at h;simp![Res.bind]at h;rintro v H1 F1 ⟨g,R1,ov⟩ s1;have ov:bD X.K F1 dv v:=ov;split at h
  .rename_i mm Á k δ2 e0 ek0
   split at h
   .rename_i hh
    let⟨rfl,hch⟩:=hh;split at h
    .rename_i ds eds
     split at h
     .rename_i j ej
      let⟨a0,fs,dd,rfl,l1,w1⟩:=HD R1 ho hkd e0;rw[sK l1]at hch;rw[nD l1]at eds;let⟨a,C,dx,vs,b,ws,q1,hC,q2,q3,q4,q5,q6,q7⟩:=R1.atF ho hkd (show δ1[i]?=some (some (dN mm fs dd))from e0) l1 hch eds;let⟨c1,c2⟩:=hc C hC;refine⟨_,q1,a,C,dx,_,.ref b,rfl,q2,c1,c2,by rw[i8 q3];exact q4,JX g F1 H1,JX g F1 H1,δ1,R1.bor,?_⟩;rw[ek0];rintro kv H2 F2 ⟨g2,R2,o2⟩ s2;have evk:kv=.int k:=by
       have o2:bD X.K F2 (.int k) kv:=o2;unfold bD at o2;exact o2
      subst evk;have hsame:aI H1 H2:=λb o e=>R2.kept b o rfl e;have R3:=R1.grow hsame;refine⟨b,ws,k,j,rfl,rfl,hsame _ _ q5,by rw[<- q6.len];exact ej,?_⟩;have R4:=R3.rewriteF (f:=f) ho hkd (show δ1[i]?=some (some (dN mm fs dd))from e0) l1 hch eds q1 (hsame _ _ q2) q4 q3 (q6.set j ov);have hlt:jJ f fs<dd.length:=(Í.mp eds).1;rw[uQ l1,N0 (by exact õ ‹_› (Eq.symm ‹_›)),show v8 (jJ f fs) (PyData.list (ds.set j dv)) dd=dd.set (jJ f fs) (.list (ds.set j dv))from Â hlt]at h;exact h σ _ F1 ⟨g,R4⟩ s1
     .exact h.elim
    .exact h.elim
   .exact h.elim
  .exact h.elim
def V7(C:Addr)(m:Str)(sp:Sp)(E:St->XK)(ta:TE)(t:TA):TE:=λσ H Q=>ta σ H λx H1=>∃a dx fs,x=.ref a/\H1 a=some (.ins C dx fs)/\fs.lookup m=none/\t σ H1 λvs H2=>sp (x::vs) H2 Q (E σ)
def V8{pl:Sem Bool}{apos:Pos}(he:PE X o ta)(c:SQ X.K C)(hm:ł X.K C m fa)(Fk:qH X.prog X.w X.K X.mg X.base (FP X.prog X.w X.K) k fa fd pn sp)(hr:fD k X.A)(hb:pQ X.K fd pn [])(ha:PA X (e::es) t)(hst:↥(Zse e es X.env))(hpl:↥(Zbt pos es X.env))(ht:↥(eval (.Call (.Attribute o m apos) (e::es) [] pos) X.env=(do
   let ov <- eval o X.env
   standAt apos.atName
   let (f,first) <- holding [ov] (getMethod ov m pl)
   callWith pos f first (backTo pos (starEach (e::es) X.env)) (backToKw pos (keywordEach [] X.env))))):
  PE X (.Call (.Attribute o m apos) (e::es) [] pos) (V7 C m sp (EX X) ta t):=by
 intro À s σ H Q I h;refine W.methodCall_KW (pl:=pl) (cA (he À s σ H _ I h) λu s1 zQ=>?_) ht;let⟨x,H1,I1,rx,a,dx,fs,ex,ea,l,q⟩:=zQ;subst ex;obtain rfl:u=Value.ref a:=rx;refine KC I1 ea c hm l ?_;refine W.callWith_K (first:=[.ref a]) (h₀:=X.base) I.ok.mod.kin hm.kp (cA (ha pos À s1 σ H1 _ I1 q) λus s2⟨vs,H2,I2,r,q2⟩=>⟨I2.kIn,?_⟩) hst hpl;have r2:bH (V.ref a::vs) (Value.ref a::us):=.cons rfl r;have hl:(Value.ref a::us).length=pn.length:=by rw[<- r2.length];exact Fk.len _ _ _ _ q2
 have hb':=hb s2 (Value.ref a::us) I2.kIn (by rw[â];exact hl);rw[â]at hb';refine wpAny_call (codeAny_mono (Fk.run X.A X.stack s2 H2 ⟨Value.ref a::us,[]⟩ (Value.ref a::us) _ Q (EX X σ) hr I2.env0 hb' r2 q2) λr s' hq=>?_);cases r with
 |error e=>exact hq.elim
 |ok fl=>
  cases fl with
  |ret u=>exact I2.after hq
  |next=>exact False.elim hq
  |brk=>exact False.elim hq
  |cont=>exact False.elim hq
def xO(i:Nat)(nm m:Str)(fn:ZI->Res D)(as:List Arg):M D:=λδ=>match δ[i]? with
 |some (some (.dict ((.none,.str n)::Á)))=>if n=nm/\l7 m Á=none then iU fn (.own i::as) δ else .stuck
 |_=>.stuck
def QO{fs:ZG}{ds:ZI}{vs:List V}(l1:fs.length=ds.length)(l2:fs.length=vs.length)(h:l7 m ((fs.map PyData.str).zip ds)=none):(fs.zip vs).lookup m=none:=by
 rw[nD l1]at h;rw[i8 l2];rw[List.getElem?_eq_none_iff]at h⊢;lia
def ř(K:ZC)(nm:Str)(C:Addr):Prop:=W.nsIn K mainGlobals nm=some (some (.ref C))/\SQ K C
def V9(S:aP Z ow)(hC:ř X.K nm C)(ho:kd (ow.getD i 0)=2)(hl:as.length+1=pn.length)(hps:fW 0 (.own i::as)=ps)(nd:decide (aY (.own i::as)).Nodup=true)(hm:fI owp ow 0 (.own i::as)=true)(hlt:as.length+1<=1000)(h:tD X Z ow rm (xO i nm m fn as) σ H Q):V7 C m (SW X.K pn ps owp rm fn) (EX X) (FV i) (ŉ X Z ow as) σ H Q:=by
 let⟨F,δ,R,h⟩:=h;unfold xO at h;split at h
 .rename_i n Á e0
  split at h
  .rename_i hh
   let⟨rfl,hg⟩:=hh;let⟨F0,δ0,R0,h0⟩:=GO (as:=.own i::as) (pn:=pn) (ps:=ps) (owp:=owp) S hl hps nd hm hlt ⟨F,δ,R,h⟩;let⟨g,RG⟩:=R;let⟨v,w1,o⟩:=RG.slot i _ e0;let⟨a,nm',fs,C',dx,ds,vs,d1,rfl,l1,l2,hC',_,hH,_⟩:=o.ins ho;let⟨rfl,rfl⟩:=oQ d1;rw[hC.1]at hC';cases hC';refine⟨_,w1,a,dx,_,rfl,hH,QO l1 (by exact Eq.trans ‹_› ‹_›) hg,F0,δ0,R0,?_⟩;unfold dH at h0;split at h0
   .cases e1:dH as δ0 with
    |stuck=>rw[e1]at h0;exact h0.elim
    |ok ods δ1=>
     rw[e1]at h0;exact λus H' F' R' s' z=>h0 (.ref a::us) H' F' R' s' ⟨w1,z⟩
   .exact h0.elim
  .exact h.elim
 .exact h.elim
def aB9(i:Nat){pl:Sem Bool}{x:Str}{p apos:Pos}(S:aP Z ow)(hC:ř X.K nm C)(hme:ł X.K C m fa)(Fk:qH X.prog X.w X.K X.mg X.base (FP X.prog X.w X.K) k fa fd pn (SW X.K pn ps owp rm fn))(hr:fD k X.A)(hb:pQ X.K fd pn [])(ha:DA X Z ow (e::es) as)(ho:↥(kd (ow.getD i 0)=2))(hl:↥(as.length+1=pn.length))(hps:↥(fW 0 (.own i::as)=ps))(nd:↥(decide (aY (.own i::as)).Nodup=true))(hm:↥(fI owp ow 0 (.own i::as)=true))(hlt:⇑(as.length+1<=1000))(hN:↥(X.N[i]?=some x))(hvi:#v[AI X.env.scope x])(hd:⇑(Zdb x))(hcd:⇑(Zcd x))(hst:↥(Zse e es X.env))(hpl:↥(Zbt pos es X.env))(ht:↥(eval (.Call (.Attribute 'h' m apos) (e::es) [] pos) X.env=(do
   let ov <- eval 'h' X.env
   standAt apos.atName
   let (f,first) <- holding [ov] (getMethod ov m pl)
   callWith pos f first (backTo pos (starEach (e::es) X.env)) (backToKw pos (keywordEach [] X.env))))):
  DE X Z ow rm (.Call (.Attribute 'h' m apos) (e::es) [] pos) (xO i nm m fn as):=PE.mono (V8 (pl:=pl) (c9 hN hvi hd hcd) hC.2 hme Fk hr hb ha hst hpl ht) λ_ _ _ h=>V9 S hC ho hl hps nd hm hlt h
def WA(C:Addr)(sp:Sp)(E:St->XK)(t:TA):TE:=λσ H Q=>t σ H λvs H1=>∀x dx,H1 x=none->H1 dx=none->dx≠x ->
 sp (.ref x::vs) (aV (aV H1 dx (.own x)) x (.ins C dx [])) (λv H2=>v=.non/\Q (.ref x) H2) (E σ)
def WB{p:Pos}(M:Mk X.K C fa)(Fk:qH X.prog X.w X.K X.mg X.base (FP X.prog X.w X.K) k fa fd pn sp)(hr:fD (k+1) X.A)(hg:Gl X x)(hm:X.mg x=some (.ref C))(hb:pQ X.K fd pn [])(ha:PA X (e::es) t)(hdb:⇑(Zdb x))(he:↥(Zse e es X.env))(hpl:↥(Zbt pos es X.env)):
  PE X (.Call 'h' (e::es) [] pos) (WA C sp (EX X) t):=by
 intro À s0 σ H0 Q I0 h0;refine wpAny_Call_Name_kw (C0 I0 hg hm ?_ hdb);refine W.callWith_K (h₀:=X.base) I0.ok.mod.kin M.kp (cA (ha pos À s0 σ H0 _ I0 h0) λus s⟨vs,H,I,r,h⟩=>⟨I.kIn,?_⟩) he hpl;have hq:=h (s.heap.objs.size+1) s.heap.objs.size (I.hok.fresh (Nat.le_succ _)) (I.hok.fresh (È _)) (Ï (ð _));have I2:=Inv.made (C:=C) I;have r2:bH (V.ref (s.heap.objs.size+1)::vs) (Value.ref (s.heap.objs.size+1)::us):=.cons rfl r;have hl:(Value.ref (s.heap.objs.size+1)::us).length=pn.length:=by
  have e:=r2.length;rw[Fk.len _ _ _ _ hq]at e;exact e.symm
 have hb':=hb _ (Value.ref (s.heap.objs.size+1)::us) I2.kIn (by rw[â];exact hl);rw[â]at hb';refine wpAny_call (TZ (f:=fa) I.kIn M.makes M.init (beq_iff_eq.mp M.fn) (codeAny_mono (Fk.run _ X.stack _ _ ⟨Value.ref (s.heap.objs.size+1)::us,[]⟩ (Value.ref (s.heap.objs.size+1)::us) _ _ (EX X σ) (hr.make C us [])
  (I2.env0.make C us []) hb' r2 hq) λr s' hq'=>?_))
 cases r with
 |error e=>exact hq'.elim
 |ok fl=>
  cases fl with
  |ret u=>
   let⟨v,H',I3,rv,ev,q3⟩:=I2.after hq';subst ev;exact⟨rv,⟨V.ref (s.heap.objs.size+1),H',I3,rfl,q3⟩⟩
  |next=>exact False.elim hq'
  |brk=>exact False.elim hq'
  |cont=>exact False.elim hq'
end
section
variable {X:Cx}{Z:cN}{ow:ZH}{c m:Nat}{pos:Pos}{e:Expr}{F:Hp}{σ:St}{δ:DS}{K:ZC}
def sN(h:i≠ow.length):(ow++[c]).getD i 0=ow.getD i 0:=by
 rw[Ë,Ë];by_cases hl:i<ow.length
 .rw[ó hl]
 .rw[ç (by rw[Ð,ò];lia),ç (by exact è.mp ‹_›)]
def B0:(ow++[c]).getD ow.length 0=c:=by
 rw[Ë,ã (È _),ù];rfl
def uR{α:Type}{xs:List α}{y:α}(h:i≠xs.length):(xs++[y])[i]?=xs[i]?:=by
 by_cases hl:i<xs.length
 .rw[ó hl]
 .rw[ç (by rw[Ð,ò];lia),ç (by exact è.mp ‹_›)]
def kZ{α:Type}{xs:List α}{y:α}:(xs++[y])[xs.length]?=some y:=by
 rw[ã (È _),ù];rfl
def cX.push(R:cX K Z ow g F H σ δ)(hk:kd c=2)(hC:W.nsIn K mainGlobals nm=some (some (.ref C)))(hx:H x=none)(hdx:H dx=none)(ne:dx≠x)(hm:δ.length=ow.length)(hps:ow.length∉Z.ps):
  cB K Z (ow++[c]) F (aV (aV H dx (.own x)) x (.ins C dx [])) (σ++[some (.ref x)]) (δ++[some (dN nm [] [])]):=by
 have hsm:σ.length=ow.length:=by rw[<- R.len];exact hm
 have fx:F x=none:=by
  cases e:F x with
  |none=>rfl
  |some u=>rw[R.sub x u e]at hx;cases hx
 have fdx:F dx=none:=by
  cases e:F dx with
  |none=>rfl
  |some u=>rw[R.sub dx u e]at hdx;cases hdx
 have h0:∀a,H a=none->Z.H0 a=none:=λa e=>by
  cases e1:Z.H0 a with
  |none=>rfl
  |some o=>exact absurd e (R.there a (by rw[e1];simp))
 have hk':∀b o,H b=some o->aV (aV H dx (.own x)) x (.ins C dx []) b=some o:=λb o e=>by
  rw[aE (λz=>by rw[z,hx]at e;cases e),aE (λz=>by rw[z,hdx]at e;cases e)];exact e
 refine⟨λb=>if b=x then some (ow.length,[])else if b=dx then some (ow.length,[1000])else g b,λb u e=>hk' b u (R.sub b u e),R.f0,λb u n e=>hk' b u (R.kept b u n e),R.new,λb z=>?_,λa i p e=>?_,by rw[Ð,Ð,R.len];rfl,λi hi=>?_,λi d e=>?_⟩
 .cases e:H b with
  |none=>exact absurd e (R.there b z)
  |some o=>rw[hk' b o e];simp
 .split at e
  .rename_i z;rw[z];exact .inl (h0 x hx)
  .split at e
   .rename_i z;rw[z];exact .inl (h0 dx hdx)
   .exact R.lab a i p e
 .have:i≠ow.length:=λz=>hps (by rw[<- z];exact hi)
  rw[uR ∅,sN this];exact R.par i hi
 .by_cases hi:i=ow.length
  .have e2:(δ++[some (dN nm [] [])])[i]?=some (some (dN nm [] [])):=by rw[hi,<- hm];exact kZ
   rw[e2]at e;cases e;refine⟨.ref x,by rw[hi,<- hsm];exact kZ,?_⟩;rw[hi,B0];exact bE.mkI (C:=C) (dx:=dx) (vs:=[]) hk rfl rfl hC (Â rfl) aJ fx (by rw[Ã ne,Â rfl];rfl) (by rw[aE ne,aJ]) fdx λk d' v' z1=>by cases z1
  .rw[uR ∅]at e
   let⟨v,e1,o⟩:=R.slot i d e;refine⟨v,by rw[uR ∅];exact e1,?_⟩;rw[sN hi];refine o.keepJ (aI.refl _) λa p u y1 y2 y3=>⟨?_,hk' a u y2,y3⟩;rw[Ã (λz=>by rw[z,hx]at y2;cases y2),Ã (λz=>by rw[z,hdx]at y2;cases y2)];exact y1
def cX.pop(S:aP Z ow)(R:cX K Z (ow++[c]) g F H (σ++[some v]) (δ++[some d]))(hm:δ.length=ow.length)(hps:ow.length∉Z.ps)(hlt:ow.length<1000):gF K Z ow c d v F H σ δ:=by
 have hsm:σ.length=ow.length:=by have:=R.len;rw[Ð,Ð]at this;simp at this;lia
 refine⟨λb=>match g b with|some (j,p)=>if j=ow.length then some (1000,p)else if j=1000 then none else some (j,p)|none=>none,⟨R.sub,R.f0,R.kept,R.new,R.there,λa i p e=>?_,∅,λi hi=>?_,λi d' e=>?_⟩,?_⟩
 .cases eg:g a with
  |none=>rw[eg]at e;cases e
  |some l=>
   let⟨j,q⟩:=l;rw[eg]at e;dsimp only at e;split at e
   .rename_i z
    cases e;rcases R.lab a j _ eg with w|⟨q',w⟩
    .exact .inl w
    .exact absurd (Z.wf a j q' w) (by rw[z];exact hps)
   .split at e
    .cases e
    .cases e;exact R.lab a i p eg
 .have:i≠ow.length:=λz=>hps (by rw[<- z];exact hi)
  have q:=R.par i hi;rw[uR ∅,sN this]at q;exact q
 .have hi:i<δ.length:=(Í.mp e).1
  let⟨v',e1,o⟩:=R.slot i d' (by rw[uR (by exact Ï ‹_›)];exact e);rw[uR ∅]at e1;rw[sN ∅]at o;refine⟨v',e1,o.relab λa p y=>?_⟩;rw[y];dsimp only;rw[Ã ∅,Ã ∅]
 .obtain⟨v',e1,o⟩:=R.slot ow.length d (by rw[<- hm];exact kZ)
  rw[<- hsm,kZ]at e1;cases e1;rw[B0]at o;refine o.relab λa p y=>?_;rw[y];exact Â rfl
def HE(m:Nat)(nm:Str)(fn:ZI->Res D)(as:List Arg):M D:=λδ=>(dH as δ).bind λods δ1=>if δ1.length=m then (match eZ δ1 as ods with
 |some ds=>(match fn (dN nm [] []::ds)with
  |.ok .none [some d]=>.ok d δ1
  |_=>.stuck)
 |none=>.stuck)else .stuck
def xP{δ δ':DS}:∀{as:List Arg}{ods:List (ZL)},aY as=[]->eZ δ as ods=eZ δ' as ods
 |[],[],_=>rfl
 |[],_::_,_=>rfl
 |.own i::as,_,h=>by cases h
 |.val f::as,[],_=>rfl
 |.val f::as,none::ods,_=>rfl
 |.val f::as,some d::ods,h=>by unfold eZ;rw[xP (δ:=δ) (δ':=δ') (as:=as) h]
def xQ :∀{as:List Arg}{ods:List (ZL)}{vs:List V},aY as=[]->rZ K F σ as ods vs->rZ K F σ' as ods vs
 |[],[],[],_,_=>True.intro
 |.own i::as,_,_,h,_=>by cases h
 |.val f::as,some d::ods,v::vs,h,z=>⟨z.1,xQ (as:=as) h z.2⟩
def WC{xs:DS}{y z:ZL}:(xs++[y]).set xs.length z=xs++[z]:=by
 rw[List.set_append_right _ _ (È _),ù];rfl
def WD(S:aP Z ow)(hC:ř X.K nm C)(hk:kd c=2)(hl:as.length+1=pn.length)(hv:aY as=[])(hm:fI owp (ow++[c]) 0 (.own ow.length::as)=true)(hlt:as.length+1<=1000)(hps:ow.length∉Z.ps)(hlo:ow.length<1000)(h:tD X Z ow c (HE ow.length nm fn as) σ H Q):WA C (SW X.K pn [0] owp 0 fn) (EX X) (ŉ X Z ow as) σ H Q:=by
 let⟨F,δ,R,h⟩:=h;unfold HE at h;sleep 1;cases e:dH as δ with
 |stuck=>rw[e]at h;exact h.elim
 |ok ods δ1=>
  rw[e]at h;simp![Res.bind]at h;rintro vs H1 F1 ⟨g1,R1⟩ s1 z x dx hx hdx ne;split at h
  .rename_i hml
   cases e2:eZ δ1 as ods with
   |none=>rw[e2]at h;exact h.elim
   |some ds=>
    rw[e2]at h;dsimp only at h;have R2:=R1.push (c:=c) (nm:=nm) hk hC.1 hx hdx ne hml hps;have hsl:σ.length=ow.length:=by rw[<- R1.len];exact hml
    have zA:rZ X.K F1 (σ++[some (.ref x)]) (.own ow.length::as) (none::ods) (.ref x::vs):=⟨by rw[<- hsl];exact kZ,xQ hv z⟩;have fA:eZ (δ1++[some (dN nm [] [])]) (.own ow.length::as) (none::ods)=some (dN nm [] []::ds):=by
     unfold eZ;rw[<- hml,kZ,xP (δ':=δ1) hv,e2]
    have S2:aP Z (ow++[c]):=⟨by rw[Ð,ò];assumption,S.ps⟩;let⟨m1,m2⟩:=lU hm;have l2:=(kX fA zA).2.1;refine⟨by rw[l2];exact hl,MW S2 R2 zA fA ?_ ?_ (λq i e=>by have:=m1 q i e;rwa [Nat.zero_add]at this) (λq f e=>by have:=m2 q f e;rwa [Nat.zero_add]at this) hlt ?_⟩
    .have:∀(k:Nat)(as:List Arg),aY as=[]->fW k as=[]:=by
      intro k as
      induction as generalizing k with
      |nil=>intro _;rfl
      |cons a as ih=>
       cases a with
       |own i=>intro h;cases h
       |val f=>intro h;exact ih (k+1) h
     show 0::fW 1 as=[0];rw[this 1 as hv]
    .show (ow.length::aY as).Nodup
     rw[hv];simp
    .have es:aY (.own ow.length::as)=[ow.length]:=by show ow.length::aY as=_;rw[hv]
     rw[es];split at h
     .rename_i d e3
      rw[e3];intro v H' F' R' s';have hv':=R'.rep;unfold bD at hv';subst hv';let⟨g3,R3⟩:=R'.rel;have R3:cX X.K Z (ow++[c]) g3 F' H' (σ++[some (.ref x)]) ((δ1++[some (dN nm [] [])]).set ow.length (some d)):=R3;rw[<- hml,WC]at R3;exact⟨rfl,h _ H' F' (R3.pop S hml hps hlo) (s1.trans' s')⟩
     .exact h.elim
  .exact h.elim
def aCA{p:Pos}(m:Nat)(S:aP Z ow)(hC:ř X.K x C)(M:Mk X.K C fa)(Fk:qH X.prog X.w X.K X.mg X.base (FP X.prog X.w X.K) k fa fd pn (SW X.K pn [0] owp 0 fn))(hr:fD (k+1) X.A)(hg:Gl X x)(hmg:X.mg x=some (.ref C))(hb:pQ X.K fd pn [])(ha:DA X Z ow (e::es) as)(c:Nat)(hm0:↥(ow.length=m))(hk:↥(kd c=2))(hl:↥(as.length+1=pn.length))(hv:↥(aY as=[]))(hm:↥(fI owp (ow++[c]) 0 (.own ow.length::as)=true))(hlt:⇑(as.length+1<=1000))(hps:↥(Z.ps.contains ow.length=false))(hlo:⇑(ow.length<1000))(hdb:⇑(Zdb x))(he:↥(Zse e es X.env))(hpl:↥(Zbt pos es X.env)):
  DE X Z ow c (.Call 'h' (e::es) [] pos) (HE m x fn as):=PE.mono (WB M Fk hr hg hmg hb ha hdb he hpl) λ_ _ _ h=>by subst hm0;exact WD S hC hk hl hv hm hlt (cP hps) hlo h
end
section
variable {κ:Type}[DecidableEq κ]
def pK(Á:List (κ×V))(k:κ):(Option V):=(Á.find? λkv=>decide (kv.1=k)).map (·.2)
def nF(Á:List (κ×V))(k:κ)(v:V):(List (κ×V)):=
 if (Á.any λkv=>decide (kv.1=k))=true then Á.map (λkv=>if kv.1=k then (kv.1,v)else kv)else Á++[(k,v)]
def sO{k:κ}(e:p.1=k):pK (p::r) k=some p.2:=by simp[pK,ā,e]
def sQ{k:κ}(e:¬p.1=k):pK (p::r) k=pK r k:=by simp[pK,ā,e]
def HF(k:κ):∀Á:List (κ×V),(Á.any λkv=>decide (kv.1=k))=(pK Á k).isSome
 |[]=>rfl
 |p::r=>by
  rw[List.any_cons];by_cases e:p.1=k
  .simp![sO e,decide_eq_true e,Bool.true_or,Option.isSome_some]
  .rw[sQ e,decide_eq_false e,Bool.false_or];exact HF k r
def nG(Á:List (κ×V))(k:κ)(v:V):(nF Á k v).length<=Á.length+1:=by
 unfold nF;split
 .rw[Å];exact Nat.le_succ _
 .rw[Ð,Û,List.length_nil];exact ð _
def mU.isSome_eq(r:mU o u):o.isSome=u.isSome:=by
 cases o with
 |none=>cases u with
  |none=>rfl
  |some _=>exact(show False from r).elim
 |some _=>cases u with
  |none=>exact(show False from r).elim
  |some _=>rfl
def mU.getD(r:mU o u)(rd:bI d d'):bI (o.getD d) (u.getD d'):=by
 cases o with
 |none=>cases u with
  |none=>exact rd
  |some _=>exact(show False from r).elim
 |some _=>cases u with
  |none=>exact(show False from r).elim
  |some _=>exact r
def KV.val(r:KV Á vs)(k:κ):mU (pK Á k) (valueAt vs k):=by
 unfold KV at r
 induction r with
 |nil=>exact True.intro
 |@cons p q ps qs h t ih=>
  let⟨h1,h2⟩:=h;by_cases e:p.1=k
  .have e':q.1=k:=h1.symm.trans e
   have b:valueAt (q::qs) k=some q.2:=by simp[valueAt,ā,e']
   rw[sO e,b];exact h2
  .have e':¬q.1=k:=λz=>e (h1.trans z)
   have b:valueAt (q::qs) k=valueAt qs k:=by simp[valueAt,ā,e']
   rw[sQ e,b];exact ih
def KV.any(r:KV Á vs)(k:κ):(Á.any λkv=>decide (kv.1=k))=vs.any λkv=>decide (kv.1=k):=by
 unfold KV at r
 induction r with
 |nil=>rfl
 |cons h t ih=>rw[List.any_cons,List.any_cons,ih,h.1]
def KV.repl(r:KV Á vs)(k:κ)(ry:bI y u):
  KV (Á.map λkv=>if kv.1=k then (kv.1,y)else kv) (vs.map λkv=>if kv.1=k then (kv.1,u)else kv):=by
 unfold KV at r⊢
 induction r with
 |nil=>exact .nil
 |@cons p q ps qs h t ih=>
  rw[Ì,Ì];refine .cons ?_ ih;let⟨h1,h2⟩:=h;by_cases e:p.1=k
  .rw[Â e,Â (h1.symm.trans e)];exact⟨h1,ry⟩
  .rw[Ã e,Ã (λz=>e (h1.trans z))];exact⟨h1,h2⟩
def KV.put(r:KV Á vs)(k:κ)(ry:bI y u):KV (nF Á k y) (stored vs k u):=by
 unfold nF stored;rw[r.any k];by_cases e:(vs.any λkv=>decide (kv.1=k))=true
 .rw[Â e,Â e];exact r.repl k ry
 .rw[Ã e,Ã e];exact Paired.snoc r ⟨rfl,ry⟩
def KV.length{Á:List (κ×V)}{vs:List (κ×Value)}(r:KV Á vs):Á.length=vs.length:=Paired.length r
end
def xR(r:bI (kV k) u):(cT P w).is k u=true:=by
 cases k with
 |inl i=>let⟨t,e⟩:=(show ∃t,u=Value.int i t from r);subst e;exact FR P w i t
 |inr x=>let⟨t,e⟩:=(show ∃t,u=Value.str x t from r);subst e;exact FS P w x t
def B1 :∀{ks:List cV}{us:ZJ},bH (ks.map kV) us->ItemsAre (cT P w) ks us
 |[],_,r=>by rw[List.map_nil]at r;cases r;exact .nil
 |k::ks,_,r=>by
  rw[Ì]at r;cases r with
  |cons h t=>exact .cons (xR h) (B1 t)
abbrev KT(H:Hp):List (List cV×V)->List (List cV×Addr×Value)->Prop:=Paired λp q=>p.1=q.1/\H q.2.1=some (.tup (p.1.map kV))/\bI p.2 q.2.2
def KT.val(r:KT H Á xs)(k:List cV):mU (pK Á k) ((atKey xs k).map (·.2)):=by
 induction r with
 |nil=>exact True.intro
 |@cons p q ps qs h t ih=>
  let⟨h1,_,h2⟩:=h;by_cases e:p.1=k
  .have e':q.1=k:=h1.symm.trans e
   have b:atKey (q::qs) k=some q.2:=by simp[atKey,ā,e']
   rw[sO e,b];exact h2
  .have e':¬q.1=k:=λz=>e (h1.trans z)
   have b:atKey (q::qs) k=atKey qs k:=by simp[atKey,ā,e']
   rw[sQ e,b];exact ih
def KT.repl(r:KT H Á xs)(k:List cV)(ry:bI y u):
  KT H (Á.map λkv=>if kv.1=k then (kv.1,y)else kv) (xs.map (putAt k u)):=by
 induction r with
 |nil=>exact .nil
 |@cons p q ps qs h t ih=>
  rw[Ì,Ì];refine .cons ?_ ih;let⟨h1,h2,h3⟩:=h;unfold putAt;by_cases e:p.1=k
  .rw[Â e,Â (h1.symm.trans e)];exact⟨h1,h2,ry⟩
  .rw[Ã e,Ã (λz=>e (h1.trans z))];exact⟨h1,h2,h3⟩
def KT.put(r:KT H Á xs)(k:List cV)(hb:H b=some (.tup (k.map kV)))(ry:bI y u):
  KT H (nF Á k y) (storedH xs k b u):=by
 have e:(Á.any λkv=>decide (kv.1=k))=(atKey xs k).isSome:=by
  rw[HF,(r.val k).isSome_eq,Option.isSome_map]
 unfold nF storedH;rw[e];by_cases q:(atKey xs k).isSome=true
 .rw[Â q,Â q];exact r.repl k ry
 .rw[Ã q,Ã q];exact Paired.snoc r ⟨rfl,hb,ry⟩
def KT.keeps(r:KT H Á xs)(ht:∀b ys,H b=some (.tup ys)->H' b=some (.tup ys)):KT H' Á xs:=
 Paired.mapP r λ_ _ z=>⟨z.1,ht _ _ z.2.1,z.2.2⟩
section
def ϰ(ok:oB P w H h)(e:Rd H a u):eC P w H h a u:=e.ok ok
def xS(ok:oB P w H h)(e:Rd H a (.dK Á)):Á.length<=sizeLine/\(a == sysModules)=false/\∃vs,KV Á vs/\h.DictOf (cT P w) a vs:=
 show eC P w H h a (.dK Á)from ϰ ok e
def ϱ(ok:oB P w H h)(e:H a=some (.dK Á)):Á.length<=sizeLine/\(a == sysModules)=false/\∃vs,KV Á vs/\h.DictOf (cT P w) a vs:=xS ok (.inl e)
def uS(ok:oB P w H h)(e:H a=some (.tup (ks.map kV))):(tupleKind (cT P w)).is h ks a:=by
 let⟨_,its,r,o,h1,h2,n,h3⟩:=(show eC P w H h a (.tup (ks.map kV))from ok a _ e);exact⟨o,its.toArray,n,h1,h2,h3,by simpa using B1 r⟩
def xT(ok:oB P w H h)(e:Rd H a (.dT Á)):Á.length<=sizeLine/\(a == sysModules)=false /\
  ∃xs,KT H Á xs/\h.DictOfH (tupleKind (cT P w)) a xs:=by
 let⟨z,y,xs,r,o,es,ep,h1,h2,h3,h4,h5⟩:=(show eC P w H h a (.dT Á)from ϰ ok e);refine⟨z,y,xs,r,o,es,ep,h1,h2,h3,h4,λx hx=>?_,h5⟩;have all:∀{l:List (List cV×V)}{m:List (List cV×Addr×Value)},KT H l m->∀x∈m,(tupleKind (cT P w)).is h x.1 x.2.1:=by
  intro l m q
  induction q with
  |nil=>intro x hx;exact nomatch hx
  |@cons p q ps qs hq t ih=>
   intro x hx;rcases Ø.mp hx with e|hx
   .subst e
    exact uS ok (by rw[<- hq.1];exact hq.2.1)
   .exact ih x hx
 exact all r x hx
def aLQ(ok:oB P w H h)(e:H a=some (.dT Á)):Á.length<=sizeLine/\(a == sysModules)=false /\
  ∃xs,KT H Á xs/\h.DictOfH (tupleKind (cT P w)) a xs:=xT ok (.inl e)
end
def pL(H:Hp)(a:Addr)(y:V)(r:Option V):Prop:=
 (∃Á k,Rd H a (.dK Á)/\y=kV k/\r=pK Á k)\/∃Á k b,Rd H a (.dT Á)/\y=.ref b/\H b=some (.tup (k.map kV))/\r=pK Á k
def WE(H:Hp)(a:Addr)(y v:V)(H':Hp):Prop:=
 (∃Á k,H a=some (.dK Á)/\y=kV k/\Á.length<sizeLine/\H'=aV H a (.dK (nF Á k v))) \/
 ∃Á k b,H a=some (.dT Á)/\y=.ref b/\H b=some (.tup (k.map kV))/\Á.length<sizeLine/\H'=aV H a (.dT (nF Á k v))
def pL.k{H:Hp}{a:Addr}{Á:List (cV×V)}{k:cV}(e:H a=some (.dK Á)):pL H a (kV k) (pK Á k):=.inl ⟨Á,k,.inl e,rfl,rfl⟩
def WE.k{H:Hp}{a:Addr}{Á:List (cV×V)}{k:cV}{v:V}(e:H a=some (.dK Á))(hl:Á.length<sizeLine):WE H a (kV k) v (aV H a (.dK (nF Á k v))):=.inl ⟨Á,k,e,rfl,hl,rfl⟩
section
variable {X:Cx}{À:ZB}{σ:St}{H:Hp}{s:Shared}{a:Addr}{y v:V}{u r:Value}{o:Option V}{A:Around}{E:ZA}
def Inv.big(I:Inv X À σ H s):sysModules<s.heap.objs.size:=by
 have h:mainGlobals<s.heap.objs.size:=(I.mod.glob.keeps I.bk).lt;exact Nat.lt_trans ⋯ h
def QP(hu:A.units+1<cLine)(I:Inv X À σ H s)(g:pL H a y (some v))(ry:bI y u)(h:∀w' s',Inv X À σ H s'->bI v w'->Q w' s'):
  wpAny 'b' A (getItem (.ref a) u) Q E s:=by
 rcases g with ⟨Á,k,e,ey,l⟩|⟨Á,k,b,e,ey,eb,l⟩
 .subst ey
  let⟨z,hd,vs,rel,dd⟩:=xS I.hok e;let⟨w',hw,rw'⟩:=mU.some_of (v:=v) (o:=valueAt vs k) (by rw[l];exact rel.val k);exact wpAny_getItem_of (xR ry) dd.mapOf hw (h w' _ (I.tok _) rw')
 .subst ey
  cases (show u=Value.ref b from ry);let⟨z,hd,xs,rel,dd⟩:=xT I.hok e;let⟨w',hw,rw'⟩:=mU.some_of (v:=v) (o:=(atKey xs k).map (·.2)) (by rw[l];exact rel.val k);let⟨p,hp,hp2⟩:=Option.map_eq_some_iff.mp hw;refine wpAny_getItem_heap (tupleKind_room_in1 hu) (uS I.hok eb) dd hp ?_;rw[hp2];exact h w' _ (I.tok _) rw'
def aOI{Q:ZA}(hu:A.units+1<cLine)(I:Inv X À σ H s)(g:pL H a y o)(ry:bI y u)(h:∀s',Inv X À σ H s'->Q (.bool o.isSome) s'):
  wpAny 'b' A (compareOp .In u (.ref a)) Q E s:=by
 rcases g with ⟨Á,k,e,ey,l⟩|⟨Á,k,b,e,ey,eb,l⟩
 .subst ey
  let⟨z,hd,vs,rel,dd⟩:=xS I.hok e;refine wpAny_in_of (xR ry) hd dd.mapOf ?_;rw[<- (rel.val k).isSome_eq,<- l];exact h _ (I.tok _)
 .subst ey
  cases (show u=Value.ref b from ry);let⟨z,hd,xs,rel,dd⟩:=xT I.hok e;refine wpAny_in_heap (tupleKind_room_in1 hu) (uS I.hok eb) hd dd ?_;have q:=(rel.val k).isSome_eq;rw[Option.isSome_map]at q;rw[<- q,<- l];exact h _ (I.tok _)
def aCB{Q:ZA}(hu:A.units+1<cLine)(I:Inv X À σ H s)(g:pL H a y o)(ry:bI y u)(h:∀s',Inv X À σ H s'->Q (.bool (!o.isSome)) s'):
  wpAny 'b' A (compareOp .NotIn u (.ref a)) Q E s:=by
 rcases g with ⟨Á,k,e,ey,l⟩|⟨Á,k,b,e,ey,eb,l⟩
 .subst ey
  let⟨z,hd,vs,rel,dd⟩:=xS I.hok e;refine wpAny_notIn_of (xR ry) hd dd.mapOf ?_;rw[<- (rel.val k).isSome_eq,<- l];exact h _ (I.tok _)
 .subst ey
  cases (show u=Value.ref b from ry);let⟨z,hd,xs,rel,dd⟩:=xT I.hok e;refine wpAny_notIn_heap (tupleKind_room_in1 hu) (uS I.hok eb) hd dd ?_;have q:=(rel.val k).isSome_eq;rw[Option.isSome_map]at q;rw[<- q,<- l];exact h _ (I.tok _)
def EF(I:Inv X À σ H s)(mu:İ (H a))(hs:Heap.SameBut a s.heap h')(he:∃q,h'.get? a=some q)(new:eC X.prog X.w (aV H a ob) h' a ob):
  Inv X À σ (aV H a ob) {s with heap:=h',toks:=t'}:=
 I.write (x:=a) (e:=a) mu (.inl rfl) (λb q hb z=>(hs.2 b hb).trans z) he new
def WF(z:Á.length<=sizeLine)(hd:(a == sysModules)=false)(rel:KV Á vs)(dd:h'.DictOf (cT P w) a vs):
  eC P w H' h' a (.dK Á):=⟨z,hd,vs,rel,dd⟩
def QQ{H':Hp}{Q:Unit->Shared->Prop}(hu:A.units+1<cLine)(I:Inv X À σ H s)(g:WE H a y v H')(ry:bI y u)(rv:bI v r)(h:∀s',Inv X À σ H' s'->Q () s'):
  wpAny 'b' A (setItem (.ref a) u r) Q E s:=by
 rcases g with ⟨Á,k,e,ey,l,eH⟩|⟨Á,k,b,e,ey,eb,l,eH⟩
 .subst ey eH
  let⟨z,hd,vs,rel,dd⟩:=ϱ I.hok e;have hz:vs.length<=sizeLine:=by rw[<- rel.length];exact z
  have hl:(nF Á k v).length<=sizeLine:=by have:=nG Á k v;exact Ü ‹_› ‹_›
  refine wpAny_setItem_pairs (hsz:=hz) (xR ry) dd λh' dd' hs=>h _ ?_;have he:∃q,h'.get? a=some q:=let ⟨q,_,_,hq,_⟩:=dd';⟨q,hq⟩
  exact EF I (by rw[e];exact True.intro) hs he (WF hl hd (rel.put k rv) dd')
 .subst ey eH
  cases (show u=Value.ref b from ry);let⟨z,hd,xs,rel,dd⟩:=aLQ I.hok e;have hz:xs.length<=sizeLine:=by rw[<- Paired.length rel];exact z
  have hl:(nF Á k v).length<=sizeLine:=by have:=nG Á k v;exact Ü ‹_› ‹_›
  refine wpAny_setItem_heap (hsz:=hz) (tupleKind_room_in1 hu) (uS I.hok eb) dd λh' dd' hs=>h _ ?_;let⟨q,es,ep,hq,h2,h3,h4,_,h5⟩:=dd';refine EF I (by rw[e];exact True.intro) hs ⟨q,hq⟩ ⟨hl,hd,_,(rel.put k eb rv).keeps λc ys ec=>?_,q,es,ep,hq,h2,h3,h4,h5⟩;rw[aE (aJW ec e (λz=>nomatch z))];exact ec
end
section
end
def Ś(i:Expr):Prop:=∀ov iv,subscripted i false ov iv=operate [ov,iv] (getItem ov iv)
def aCD{T id:String}(hl:typeLookup (.type T) "__getitem__"=pure (some (.builtin id)))(hs:Ś slice)(h:wpAny (model prog w) A (eval value env) (λo s₁=>wpAny (model prog w) A (eval slice env) (λi s₂=>s₂.TypeIs o T/\wpAny (model prog w) A (getItem o i) Q E s₂) E s₁) E s):
  wpAny (model prog w) A (eval (.Subscript value slice pos) env) Q E s:=by
 refine Subscript_ (wpAny_mono h (λo s₁ h₁=>wpAny_mono h₁ (λi s₂ h₂=>?_) λ_ _ x=>x) λ_ _ x=>x);let⟨hT,h₂⟩:=h₂;unfold subscriptTail;refine wpAny_bind ?_;rw[getitemInPython_of_ne hT.not_modules];refine wpAny_bind (wpAny_specialOf hT hl ?_);have fin:wpAny (model prog w) A (subscripted slice false o i) (λr s₃=>wpAny (model prog w) A (letTemporaryGo value o r >>= λ_=>pure r) Q E s₃) E s₂:=by
  rw[hs o i];exact wpAny_operating (wpAny_mono h₂ (λr s₃ h₃=>wpAny_bind (wpAny_letTemporaryGo (wpAny_pure h₃))) λ_ _ x=>x)
 first
  |exact wpAny_pure (wpAny_bind fin)
  |exact wpAny_bind (wpAny_pure (wpAny_bind fin))
  |exact wpAny_bind fin
def HG(I:Inv X À σ H s)(g:pL H a y o):s.TypeIs (.ref a) "dict":=by
 rcases g with ⟨Á,k,e,_,_⟩|⟨Á,k,b,e,_,_,_⟩
 .obtain⟨_,_,vs,_,dd⟩:=xS I.hok e
  exact dd.typeIs
 .obtain⟨_,_,xs,_,dd⟩:=xT I.hok e
  exact dd.typeIs
def ϲ(td ty:TE):TE:=λσ H Q=>td σ H λx H1=>ty σ H1 λy H2=>∃a v,x=.ref a/\pL H2 a y (some v)/\Q v H2
def aOJ(ty td:TE):TE:=λσ H Q=>ty σ H λy H1=>td σ H1 λx H2=>∃a o,x=.ref a/\pL H2 a y o/\Q (.bl o.isSome) H2
def aCE(ty td:TE):TE:=λσ H Q=>ty σ H λy H1=>td σ H1 λx H2=>∃a o,x=.ref a/\pL H2 a y o/\Q (.bl (!o.isSome)) H2
def aLR(td ty tv:TE):TS:=λD σ H=>tv σ H λv H1=>td σ H1 λx H2=>ty σ H2 λy H3=>∃a H4,x=.ref a/\WE H3 a y v H4/\D.nx σ H4
section
def N1(hu:X.A.units+1<cLine)(ho:PE X o td)(hi:PE X i ty)(hs:Ś i):PE X (.Subscript o i pos) (ϲ td ty):=by
 intro À s σ H Q I h;refine aCD PySem.F.slot_dict_getitem.lookup hs (cA (ho À s σ H _ I h) λu s1⟨x,H1,I1,rx,q1⟩=>cA (hi À s1 σ H1 _ I1 q1) λiv s2 zQ=>?_);let⟨y,H2,I2,ry,a,v,ex,g,q2⟩:=zQ;subst ex;obtain rfl:u=Value.ref a:=rx;exact⟨HG I2 g,QP hu I2 g ry λw' s3 I3 rw'=>⟨v,H2,I3,rw',q2⟩⟩
def aII(hu:X.A.units+1<cLine)(hi:PE X i ty)(ho:PE X o td):PC X .In i o (aOJ ty td):=by
 intro À s σ H Q I h;refine cA (hi À s σ H _ I h) λiv s1⟨y,H1,I1,ry,q1⟩=>cA (ho À s1 σ H1 _ I1 q1) λu s2 zQ=>?_;let⟨x,H2,I2,rx,a,ov,ex,g,q2⟩:=zQ;subst ex;obtain rfl:u=Value.ref a:=rx;exact aOI hu I2 g ry λs3 I3=>⟨.bl ov.isSome,H2,I3,rfl,q2⟩
def QR(hu:X.A.units+1<cLine)(hi:PE X i ty)(ho:PE X o td):PC X .NotIn i o (aCE ty td):=by
 intro À s σ H Q I h;refine cA (hi À s σ H _ I h) λiv s1⟨y,H1,I1,ry,q1⟩=>cA (ho À s1 σ H1 _ I1 q1) λu s2 zQ=>?_;let⟨x,H2,I2,rx,a,ov,ex,g,q2⟩:=zQ;subst ex;obtain rfl:u=Value.ref a:=rx;exact aCB hu I2 g ry λs3 I3=>⟨.bl (!ov.isSome),H2,I3,rfl,q2⟩
def aCF(hu:X.A.units+1<cLine)(ho:PE X o td)(hi:PE X i ty)(hv:PE X value tv)(hs:swapsWith value (some (.Subscript o i pos')) pos.line X.env=pure false):
  PS X (.Assign [.Subscript o i pos'] value pos) (aLR td ty tv):=by
 intro À s σ H D I h;refine wpAny_Assign_Subscript (cA (hv À s σ H _ I h) λr s1⟨v,H1,I1,rv,q1⟩=>cA (ho À s1 σ H1 _ I1 q1) λu s2⟨x,H2,I2,rx,q2⟩=>cA (hi À s2 σ H2 _ I2 q2) λiv s3 zQ=>?_) hs;let⟨y,H3,I3,ry,a,H4,ex,g,q3⟩:=zQ;subst ex;obtain rfl:u=Value.ref a:=rx;exact QQ hu I3 g ry rv λs4 I4=>⟨σ,H4,I4,q3⟩
end
def HH(h:Heap)(hb:sysModules<h.objs.size):eC P w H (h.push {cls:=.type "dict",data:=.dict #[]}) h.objs.size (.dK []):=
 ⟨í _,beq_eq_false_iff_ne.mpr (Ñ (Ï hb)),[],.nil,Heap.DictOf.new h⟩
def aIJ:TE:=λ_ H Q=>∀p,H p=none->Q (.ref p) (aV H p (.dK []))
section
def WG:PE X (.Dict [] [] pos) aIJ:=λÀ s σ H Q I h=>
 wpAny_Dict_empty ⟨.ref s.heap.objs.size,_,I.laid (a:=s.heap.objs.size) (o:=.dK []) (t':=s.toks) (λ_ _ q=>Heap.get?_push_of_some _ q) (È _) (HH s.heap I.big),rfl,h _ (I.hok.fresh (È _))⟩
end
def K8:List (TE×TE)->St->Hp->(List (V×V)->Hp->Prop)->Prop
 |[],_,H,Q=>Q [] H
 |(tk,tv)::r,σ,H,Q=>tk σ H λx H1=>tv σ H1 λy H2=>K8 r σ H2 λps H3=>Q ((x,y)::ps) H3
abbrev VV:List (V×V)->List (Value×Value)->Prop:=Paired λp q=>bI p.1 q.1/\bI p.2 q.2
def ś(X:Cx)(pos:Pos)(keys:List (Option Expr))(values:List Expr)(trs:List (TE×TE)):Prop:=
 ∀(À:ZB)(s:Shared)(σ:St)(H:Hp)(Q:List (V×V)->Hp->Prop),Inv X À σ H s->K8 trs σ H Q ->
  wpAny 'b' X.A (evalPairs (pairTrees keys values X.env pos)) (λvs s'=>∃ps H',Inv X À σ H' s'/\VV ps vs/\Q ps H') X.xe s
def aCG:ś X pos [] [] []:=λÀ s σ H Q I h=>pairTrees_nil_walk ⟨[],H,I,.nil,h⟩
def xU(hk:PE X k tk)(hv:PE X v tv)(hr:ś X pos ks vs trs):
  ś X pos (some k::ks) (v::vs) ((tk,tv)::trs):=λÀ s σ H Q I h=>
 pairTrees_cons_walk (cA (hk À s σ H _ I h) λu s1⟨x,H1,I1,rx,q1⟩=>cA (hv À s1 σ H1 _ I1 q1) λw2 s2⟨y,H2,I2,ry,q2⟩=>
  cA (hr À s2 σ H2 _ I2 q2) λws s3 zQ=>by let⟨ps,H3,I3,rel,q3⟩:=zQ;exact ⟨(x,y)::ps,H3,I3,.cons ⟨rx,ry⟩ rel,q3⟩)
def uT(Á more:List (cV×V)):(List (cV×V)):=more.foldl (λacc kv=>nF acc kv.1 kv.2) Á
def KV.merge:∀{more:List (cV×V)}{rs:List (cV×Value)}{Á:List (cV×V)}{vs:List (cV×Value)},KV more rs->KV Á vs->KV (uT Á more) (merged vs rs):=by
 intro more rs Á vs r;unfold KV at r
 induction r generalizing Á vs with
 |nil=>intro q;exact q
 |@cons p q ps qs h t ih=>
  intro r0;have e:KV (nF Á p.1 p.2) (stored vs q.1 q.2):=by
   have:=r0.put p.1 h.2;rw[<- h.1];exact this
  exact ih e
def p7:∀(more Á:List (cV×V)),(uT Á more).length<=Á.length+more.length
 |[],Á=>by show Á.length<=Á.length+0;exact È _
 |p::r,Á=>by
  have h1:=p7 r (nF Á p.1 p.2);have h2:=nG Á p.1 p.2;show (uT (nF Á p.1 p.2) r).length<=_;rw[Û];lia
def xV :∀{Á:List (cV×V)}{ws:List (Value×Value)},VV (Á.map λkv=>(kV kv.1,kv.2)) ws->∃rs,Carries (cT P w) ws rs/\KV Á rs
 |[],_,r=>by rw[List.map_nil]at r;cases r;exact⟨[],True.intro,.nil⟩
 |p::Á,_,r=>by
  rw[Ì]at r;cases r with
  |@cons a b as bs h t=>
   let⟨rs,c,q⟩:=xV (P:=P) (w:=w) t;let⟨b1,b2⟩:=b;exact⟨(p.1,b2)::rs,⟨xR h.1,rfl,c⟩,.cons ⟨rfl,h.2⟩ q⟩
def ϳ(trs:List (TE×TE)):TE:=λσ H Q=>∀p,H p=none->K8 trs σ (aV H p (.dK [])) λps H2=>H2 p=some (.dK [])/\∃Á:List (cV×V),ps=Á.map (λkv=>(kV kv.1,kv.2))/\Á.length<=15/\Q (.ref p) (aV H2 p (.dK (uT [] Á)))
def aCH(h:ś X pos keys values trs)(hall:keys.all (·.isSome)=true)(hl:keys.length=values.length)(h0:keys≠[])(h15:keys.length<=15):PE X (.Dict keys values pos) (ϳ trs):=by
 intro À s σ H Q I q;have hn:=I.hok.fresh (È s.heap.objs.size);have I1:=I.laid (a:=s.heap.objs.size) (o:=.dK []) (h':=s.heap.push {cls:=.type "dict",data:=.dict #[]}) (t':=s.toks) (λ_ _ q=>Heap.get?_push_of_some _ q) (È _) (HH s.heap I.big);refine wpAny_Dict_walk (knd:=cT X.prog X.w) hall hl h0 h15 (cA (h À _ σ _ _ I1 (q _ hn)) λws s2 zQ=>?_);let⟨ps,H2,I2,rel,e,Á,ep,lk,q2⟩:=zQ;subst ep;let⟨rs,c,rk⟩:=xV (P:=X.prog) (w:=X.w) rel;let⟨z,hd,vs0,r0,dd⟩:=ϱ I2.hok e;cases r0;refine⟨rs,c,dd,λh' dd' hs=>⟨.ref s.heap.objs.size,_,?_,rfl,q2⟩⟩;have hz:(uT [] Á).length<=sizeLine:=by
  have h1:=p7 Á [];rw[List.length_nil]at h1;rw[sizeLine_eq];lia
 have he:∃q,h'.get? s.heap.objs.size=some q:=let ⟨q,_,_,hq,_⟩:=dd';⟨q,hq⟩
 exact EF I2 (by rw[e];exact True.intro) hs he (WF hz hd (rk.merge .nil) dd')
structure M2(X:Cx)(o:Expr)(m:Str)(apos:Pos)(e f:Expr)(cpos:Pos):Prop where
 base:attributeBase o m X.env (eval o X.env)=eval o X.env
 few:((backTo cpos (starEach [e,f] X.env)).all (λx=>!x.1) && (backToKw cpos (keywordEach [] X.env)).all (λx=>x.1.isSome)
  && decide (([e,f]:List Expr).length+([]:List Keyword).length+(if ([]:List Keyword).isEmpty then 0 else 1)<30))=true
 line:(apos.endLine == cpos.line)=true
 trees:backTo cpos (starEach [e,f] X.env)=[(false,eval e X.env),(false,eval f X.env)]
def ϴ(H:Hp)(a:Addr):Prop:=(∃Á,Rd H a (.dK Á))\/∃Á,Rd H a (.dT Á)
def aIK(I:Inv X À σ H s)(d:ϴ H a):
  s.TypeIs (.ref a) "dict"/\(∀b,Value.ref a=.ref b->∃ob,s.heap.get? b=some ob/\ob.dict=none)/\(a == sysModules)=false:=by
 rcases d with ⟨Á,e⟩|⟨Á,e⟩
 .obtain⟨_,hd,vs,_,dd⟩:=xS I.hok e
  refine⟨dd.typeIs,λb q=>?_,hd⟩;cases q;let⟨ob,_,_,h1,h2,_⟩:=dd;exact⟨ob,h1,h2.2.1⟩
 .obtain⟨_,hd,xs,_,dd⟩:=xT I.hok e
  refine⟨dd.typeIs,λb q=>?_,hd⟩;cases q;let⟨ob,_,_,h1,h2,_⟩:=dd;exact⟨ob,h1,h2.2.1⟩
section
variable {X:Cx}{À:ZB}{σ:St}{H:Hp}{s:Shared}{a:Addr}{y d:V}{u r:Value}{o:Option V}{A:Around}{E:ZA}
def aIL(hu:A.units+1<cLine)(I:Inv X À σ H s)(g:pL H a y o)(ry:bI y u)(rd:bI d r)(h:∀w' s',Inv X À σ H s'->bI (o.getD d) w'->Q w' s'):
  wpAny 'b' A (call (.builtin "dict.get") [.ref a,u,r]) Q E s:=by
 rcases g with ⟨Á,k,e,ey,l⟩|⟨Á,k,b,e,ey,eb,l⟩
 .subst ey
  let⟨z,hd,vs,rel,dd⟩:=xS I.hok e;refine call_meetsIn PySem.F.slot_dict_get dd.typeIs PySem.F.entry_dict_get (PySem.F.args_dict_get_3 _ _ _) (meets_dict_get_default (cT X.prog X.w) a (xR ry) hd r) ⟨_,dd.mapOf,h _ _ (I.tok _) ?_⟩;rw[l];exact(rel.val k).getD rd
 .subst ey
  cases (show u=Value.ref b from ry);let⟨z,hd,xs,rel,dd⟩:=xT I.hok e;refine call_meetsIn PySem.F.slot_dict_get dd.typeIs PySem.F.entry_dict_get (PySem.F.args_dict_get_3 _ _ _) (meetsH_dict_get_default (tupleKind (cT X.prog X.w)) a b hd r) ⟨tupleKind_room_in1 hu,k,xs,uS I.hok eb,dd,h _ _ (I.tok _) ?_⟩;rw[l];exact(rel.val k).getD rd
end
def aIM(td ty tx:TE):TE:=λσ H Q=>td σ H λx H1=>∃a,x=.ref a/\ϴ H1 a/\ty σ H1 λy H2=>tx σ H2 λz H3=>∃o,pL H3 a y o/\Q (o.getD z) H3
section
def WH(hu:X.A.units+1<cLine)(ho:PE X o td)(he:PE X e ty)(hf:PE X f tx)(m:M2 X o "get" apos e f cpos):PE X (.Call (.Attribute o "get" apos) [e,f] [] cpos) (aIM td ty tx):=by
 intro À s σ H Q I h;refine wpAny_Call_method m.base m.few m.line PySem.F.plainAttrs_dict PySem.F.slot_dict_get PySem.F.type_dict_get (cA (ho À s σ H _ I h) λu s1⟨x,H1,I1,rx,a,ex,d,q1⟩=>?_);subst ex;obtain rfl:u=Value.ref a:=rx;let⟨t1,t2,_⟩:=aIK I1 d;refine⟨t1,t2,?_⟩;rw[m.trees];refine Calls.callWith_builtin rfl (Calls.evalArgs_plain (Calls.spliced_cons (cA (he À s1 σ H1 _ I1 q1) λiv s2⟨y,H2,I2,ry,q2⟩=>
  Calls.spliced_cons (cA (hf À s2 σ H2 _ I2 q2) λfv s3⟨z,H3,I3,rz,ov,g,q3⟩=>Calls.spliced_nil ?_))))
 exact aIL hu I3 g ry rz λw' s4 I4 rw'=>⟨_,H3,I4,rw',q3⟩
end
section
end
section
end
def dE:D->Option cV
 |.int i=>some (.inl i)
 |.str x=>some (.inr x)
 |_=>none
def sR(k:cV):dE (FO k)=some k:=by cases k<;>rfl
def K9(k:cV)(ms:List cV):(List cV):=if (ms.any λm=>decide (m=k))=true then ms else ms++[k]
def EG{α:Type}(k:cV)(y:α)(ms:List cV)(xs:List α):(List α):=if (ms.any λm=>decide (m=k))=true then (ms.zip xs).map (λp=>if p.1=k then y else p.2)else xs++[y]
def LA(k:cV)(y:D)(Á:List (D×D)):(List (D×D)):=
 if (Á.any λkv=>decide (dE kv.1=some k))=true then Á.map (λkv=>if dE kv.1=some k then (kv.1,y)else kv)else Á++[(FO k,y)]
def jR(k:cV)(Á:List (D×D)):ZL:=(Á.find? λkv=>decide (dE kv.1=some k)).map Prod.snd
def N4{α:Type}:∀{ms:List cV}{xs:List α},ms.length=xs.length->((ms.zip xs).any λkv=>decide (kv.1=k))=ms.any λm=>decide (m=k)
 |[],[],_=>rfl
 |m::ms,x::xs,h=>by rw[ä,List.any_cons,List.any_cons,N4 (by simpa using h)]
def HI :∀{ms:List cV}{xs:ZI},ms.length=xs.length->(((ms.map FO).zip xs).any λkv=>decide (dE kv.1=some k))=ms.any λm=>decide (m=k)
 |[],[],_=>rfl
 |m::ms,x::xs,h=>by
  rw[Ì,ä,List.any_cons,List.any_cons,HI (by simpa using h)];dsimp only;rw[sR]
  grind
def N5{α:Type}{y:α}:∀{ms:List cV}{xs:List α},ms.length=xs.length->(ms.zip xs).map (λkv=>if kv.1=k then (kv.1,y)else kv)=ms.zip ((ms.zip xs).map (λp=>if p.1=k then y else p.2))
 |[],[],_=>rfl
 |m::ms,x::xs,h=>by
  rw[ä,Ì,Ì,ä,N5 (by simpa using h)];congr 1;dsimp only;split<;>rfl
def HJ{y:D}:∀{ms:List cV}{xs:ZI},ms.length=xs.length->((ms.map FO).zip xs).map (λkv=>if dE kv.1=some k then (kv.1,y)else kv)=(ms.map FO).zip ((ms.zip xs).map (λp=>if p.1=k then y else p.2))
 |[],[],_=>rfl
 |m::ms,x::xs,h=>by
  rw[Ì,ä,ä,Ì,Ì,ä,HJ (by simpa using h)];congr 1;dsimp only;rw[sR]
  grind
def WI{xs:List α}(h:ms.length=xs.length):(K9 k ms).length=(EG k y ms xs).length:=by
 unfold K9 EG;split
 .rw[Å,ë];lia
 .rw[Ð,Ð,h];rfl
def WJ(h:ms.length=xs.length):nF (ms.zip xs) k y=(K9 k ms).zip (EG k y ms xs):=by
 unfold nF K9 EG;rw[N4 h];split
 .exact N5 h
 .rw[List.zip_append h];rfl
def WK{xs:ZI}(h:ms.length=xs.length):LA k y ((ms.map FO).zip xs)=((K9 k ms).map FO).zip (EG k y ms xs):=by
 unfold LA K9 EG;rw[HI h];split
 .exact HJ h
 .rw[Ö,List.zip_append (by rw[Å];exact h)];rfl
def uU{K:ZC}:∀{ms:List cV}{ds:ZI}{vs:List V},ms.length=ds.length->aD K F ds vs->(jR k ((ms.map FO).zip ds)=none/\pK (ms.zip vs) k=none)\/∃d v,jR k ((ms.map FO).zip ds)=some d/\pK (ms.zip vs) k=some v/\bD K F d v
 |[],[],vs,_,_=>.inl ⟨rfl,rfl⟩
 |m::ms,d::ds,vs,h,r=>by
  unfold aD at r;let⟨x,t,rfl,hx,ht⟩:=r;rw[Ì,ä,ä];by_cases e:m=k
  .refine .inr ⟨d,x,?_,?_,hx⟩
   .unfold jR
    rw[ā,decide_eq_true (by dsimp only;rw[sR,e])]
    rfl
   .exact sO e
  .have ih:=uU (k:=k) (ms:=ms) (by simpa using h) ht
   have e1:jR k ((FO m,d)::(ms.map FO).zip ds)=jR k ((ms.map FO).zip ds):=by
    unfold jR;rw[ā,decide_eq_false (by dsimp only;rw[sR];exact λz=>e (Option.some.inj z))]
   rw[e1,sQ (by exact e)];exact ih
def ϵ{K:ZC}:∀{ms:List cV}{ds:ZI}{vs:List V},ms.length=ds.length->aD K F ds vs->bD K F d v->aD K F ((ms.zip ds).map (λp=>if p.1=k then d else p.2)) ((ms.zip vs).map (λp=>if p.1=k then v else p.2))
 |[],[],vs,_,r,_=>by unfold aD at r;subst r;exact iR
 |m::ms,d'::ds,vs,h,r,hd=>by
  unfold aD at r;let⟨x,t,rfl,hx,ht⟩:=r;rw[ä,ä,Ì,Ì];refine fS ?_ (ϵ (by simpa using h) ht hd);dsimp only;split
  .exact hd
  .exact hx
def aCI{K:ZC}(h:ms.length=ds.length)(r:aD K F ds vs)(hd:bD K F d v):aD K F (EG k d ms ds) (EG k v ms vs):=by
 unfold EG;split
 .exact ϵ h r hd
 .exact r.app (fS hd iR)
section
variable {X:Cx}{Z:cN}{ow ol ox:ZH}{rm i:Nat}{spos tpos:Pos}{fk fv:M D}{F H:Hp}{σ:St}{δ:DS}{g:ZP}{K:ZC}
def bE.dct(h:bE K F H g i 30 p d v):
  ∃a ms ds vs,d=j8 ms ds/\v=.ref a/\ms.length=ds.length/\ds.length=vs.length/\g a=some (i,p)/\H a=some (.dK (ms.zip vs))/\F a=none/\aD K F ds vs:=by
 let⟨ds,vs,cs,nd,hc,hl,r⟩:=bE.open (c:=29) h;let⟨a,ms,h1,h2,h3,rfl⟩:=nd;let⟨a1,a2,a3⟩:=hc _ (ô.mpr rfl);exact⟨a,ms,ds,vs,h1,h2,h3,hl,by simpa using a1,a2,a3,aD.of hl λk d' v' q1 q2=>r k d' v' q1 q2⟩
def bE.mkD{i:Nat}{p:ZH}{a:Addr}{ms:List cV}{ds:ZI}{vs:List V}(h3:ms.length=ds.length)(a1:g a=some (i,p))(a2:H a=some (.dK (ms.zip vs)))(a3:F a=none)(r:aD K F ds vs):bE K F H g i 30 p (j8 ms ds) (.ref a):=by
 refine bE.shut (c:=29) (ds:=ds) (vs:=vs) (cs:=[(a,[],.dK (ms.zip vs))]) ⟨a,ms,rfl,rfl,h3,rfl⟩ (λx hx=>?_) r.len λk d' v' q1 q2=>r.both k d' v' q1 q2;rw[ô.mp hx];exact⟨by simpa using a1,a2,a3⟩
def cB.newDict(S:aP Z ow)(R:cB K Z ow F H σ δ)(hp:H p=none):gF K Z ow 30 (j8 [] []) (.ref p) F (aV H p (.dK [])) σ δ:=by
 have fp:=R.fnone hp;let⟨g,R⟩:=R;have z:Z.H0 p=none:=by
  cases e:Z.H0 p with
  |none=>rfl
  |some u=>exact absurd hp (R.there p (by rw[e];simp))
 refine⟨λb=>if b=p then some (1000,[])else Ğ g 1000 b,⟨R.sub.trans' (bW hp _),R.f0,λb u n e=>?_,R.new,λb h=>?_,λa i q e=>?_,R.len,R.par,λi d e=>?_⟩,?_⟩
 .have:b≠p:=λq=>by rw[q,z]at e;cases e
  rw[aE this];exact R.kept b u n e
 .have:b≠p:=λq=>h (by rw[q,z])
  rw[aE this];exact R.there b h
 .split at e
  .rename_i q;rw[q];exact .inl z
  .exact R.lab a i q (KP e).1
 .obtain⟨v,e1,o⟩:=R.slot i d e
  refine⟨v,e1,?_⟩;by_cases hi:ow.getD i 0=0
  .rw[hi]at o⊢;exact o
  .have hi':i<1000:=K7 S hi
   refine o.keepJ (λ_ _ z=>z) λa q u e1 e2 e3=>?_;have:a≠p:=λz=>by rw[z,hp]at e2;cases e2
   exact⟨by rw[Ã this];exact KO (by show i≠1000;exact Ï ‹_›) e1,by rw[aE this];exact e2,e3⟩
 .exact bE.mkD (ms:=[]) (vs:=[]) rfl (Â rfl) aJ fp iR
def EH(S:aP Z ow):DE X Z ow 30 (.Dict [] [] pos) (dC (j8 [] [])):=PE.mono WG λσ H Q q=>by
 let⟨F,δ,R,q⟩:=q;exact λp hp=>q _ _ F (R.newDict S hp) (aI.refl _)
def cX.rewriteD(R:cX K Z ow g F H σ δ)(ho:ow.getD i 0=30)(hd:δ[i]?=some (some (j8 ms ds)))(hs:σ[i]?=some (some (.ref a)))(hl:ms'.length=ds'.length)(hr:aD K F ds' vs'):
  cX K Z ow g F (aV H a (.dK (ms'.zip vs'))) σ (δ.set i (some (j8 ms' ds'))):=by
 let⟨v,e1,o⟩:=R.slot i _ hd;rw[hs]at e1;cases e1;rw[ho]at o;let⟨a',ms0,ds0,vs0,q1,q2,q3,q4,q5,q6,q7,q8⟩:=o.dct;cases q2;have hi:i<δ.length:=(Í.mp hd).1;refine⟨λb u e=>?_,R.f0,λb u n e=>?_,R.new,λb z=>?_,R.lab,by rw[Î];exact R.len,R.par,λj d e=>?_⟩
 .have:b≠a:=λz=>by rw[z,q7]at e;cases e
  rw[aE this];exact R.sub b u e
 .have:b≠a:=λz=>by
   subst z;rcases R.lab b i [] q5 with w|⟨q,w⟩
   all_goals grind
  rw[aE this];exact R.kept b u n e
 .by_cases hb:b=a
  .subst hb;rw[aJ];simp
  .rw[aE hb];exact R.there b z
 .by_cases hj:j=i
  .subst hj
   rw[ß hi]at e;cases e;refine⟨_,hs,?_⟩;rw[ho];exact bE.mkD hl q5 aJ q7 hr
  .rw[Ù (Ñ hj)]at e
   let⟨v,e1,o⟩:=R.slot j d e;exact⟨v,e1,bE.updNe q5 (.inl hj) o⟩
def N6(i:Nat)(fk fv:M D):M Fl:=λδ=>(fv δ).bind λv δ1=>match δ1[i]? with
 |some (some _)=>(fk δ1).bind λk δ2=>(match δ2[i]?,dE k with
  |some (some (.dict Á)),some ky=>if Á.length<sizeLine then .ok .next (δ2.set i (some (.dict (LA ky v Á))))else .stuck
  |_,_=>.stuck)
 |_=>.stuck
def EI(h:dE k=some ky)(r:bD K F k y):y=kV ky:=by
 cases k with
 |int i=>cases h;unfold bD at r;exact r
 |str x=>cases h;unfold bD at r;exact r
 |_=>cases h
def aIN{Á:List (D×D)}(h:(PyData.dict Á:D)=j8 ms ds):Á=(ms.map FO).zip ds:=by
 unfold j8 at h;injection h
def sS(i:Nat){x:Str}{p:Pos}(hu:X.A.units+64<cLine)(hv:DE X Z ow 0 ev fv)(hk:DE X Z ow 0 ek fk)(ho:↥(ow.getD i 0=30))(hN:↥(X.N[i]?=some x))(hvi:#v[AI X.env.scope x])(hd:⇑(Zdb x))(hcd:⇑(Zcd x))(hs:↥(swapsWith ev (some (.Subscript 'h' ek tpos)) spos.line X.env=pure false)):
  DJ X Z ow ow ol ox rm (.Assign [.Subscript 'h' ek tpos] ev spos) (N6 i fk fv):=PS.mono (aCF ∅ (c9 hN hvi hd hcd) hk hv hs) λDn σ H h=>by
 let⟨F,δ,R,h⟩:=h;unfold N6 at h;sleep 1;cases e:fv δ with
 |stuck=>rw[e]at h;exact h.elim
 |ok dv δ1=>
  rw[e]at h;simp![Res.bind]at h;intro v H1 F1 R1 s1;cases e0:δ1[i]? with
  |none=>rw[e0]at h;exact h.elim
  |some o=>
   cases o with
   |none=>rw[e0]at h;exact h.elim
   |some d0=>
    rw[e0]at h;dsimp only at h;let⟨g0,R0⟩:=R1.rel;let⟨v0,w0,o0⟩:=R0.slot i _ e0;rw[ho]at o0;let⟨a,ms0,ds0,vs0,_,q2,_⟩:=o0.dct;subst q2;refine⟨_,w0,F1,δ1,R1.rel,?_⟩;cases e1:fk δ1 with
    |stuck=>rw[e1]at h;exact h.elim
    |ok dk δ2=>
     rw[e1]at h;dsimp only at h;intro kv H2 F2 R2 s2;let⟨g2,RG,ok2⟩:=R2;have ok2:bD X.K F2 dk kv:=ok2;split at h
     .rename_i Á ky e2 e3
      split at h
      .rename_i hlt
       let⟨v1,w1,o1⟩:=RG.slot i _ e2;rw[ho]at o1;let⟨a',ms,ds,vs,d1,q2,l1,l2,_,hH,_,hr⟩:=o1.dct;rw[w0]at w1;cases w1;cases q2;obtain rfl:=aIN d1;obtain rfl:=EI e3 ok2;rw[ë,Å]at hlt;refine⟨a,_,rfl,WE.k hH (by rw[ë];lia),?_⟩;rw[WJ (by grind)];rw[WK l1]at h;have R3:=RG.rewriteD (ms':=K9 ky ms) ho (show δ2[i]?=some (some (j8 ms ds))from e2) w0 (WI l1) (aCI (k:=ky) l1 hr (s2.rep _ _ R1.rep));exact h σ _ F2 ⟨g2,R3⟩ (s1.trans' s2)
      .exact h.elim
     .exact h.elim
def N7(fx fk fz:M D):M D:=λδ=>(fx δ).bind λx δ1=>match x with
 |.dict Á=>if (Á.all λkv=>(dE kv.1).isSome)=true then (fk δ1).bind λk δ2=>(fz δ2).bind λz δ3=>(match dE k with
  |some ky=>.ok ((jR ky Á).getD z) δ3
  |none=>.stuck)else .stuck
 |_=>.stuck
def N8{Á:List (D×D)}(h:bD K F (.dict Á) v)(ha:(Á.all λkv=>(dE kv.1).isSome)=true):∃(a:Addr)(ms:List cV)(ds:ZI)(vs:List V),Á=(ms.map FO).zip ds/\ms.length=ds.length/\v=.ref a/\F a=some (.dK (ms.zip vs))/\aD K F ds vs:=by
 unfold bD at h;let⟨a,xs,rfl,hh,hr⟩:=h;rcases hh with ⟨nm,fs,C,dx,vs,h1,h2,_⟩|⟨ms,h1,h2,h3⟩
 .exfalso
  cases Á with
  |nil=>cases h2
  |cons kv Á=>
   rw[Ì]at h2;injection h2 with h2 _;rw[List.all_cons,h2]at ha;cases ha
 .have hl:ms.length=(Á.map Prod.snd).length:=by rw[<- Å (f:=FO),<- h1,Å,Å]
  refine⟨a,ms,Á.map Prod.snd,xs,?_,hl,rfl,h3,hr.all⟩;rw[<- h1];clear h1 hl h3 hr h2 ha
  induction Á with
  |nil=>rfl
  |cons kv Á ih=>grind
def N9{apos cpos:Pos}(hu:X.A.units+64<cLine)(ho:DE X Z ow 0 o fx)(he:DE X Z ow 0 e fk)(hf:DE X Z ow 0 f fz)(base:↥(attributeBase o "get" X.env (eval o X.env)=eval o X.env))(few:↥(((backTo cpos (starEach [e,f] X.env)).all (λx=>!x.1) && (backToKw cpos (keywordEach [] X.env)).all (λx=>x.1.isSome)
   && decide (([e,f]:List Expr).length+([]:List Keyword).length+(if ([]:List Keyword).isEmpty then 0 else 1)<30))=true))(line:↥((apos.endLine == cpos.line)=true))(trees:↥(backTo cpos (starEach [e,f] X.env)=[(false,eval e X.env),(false,eval f X.env)])):
  DE X Z ow 0 (.Call (.Attribute o "get" apos) [e,f] [] cpos) (N7 fx fk fz):=PE.mono (WH ∅ ho he hf ⟨base,few,line,trees⟩) λσ H Q q=>by
 let⟨F,δ,R,q⟩:=q;unfold N7 at q;sleep 1;cases e1:fx δ with
 |stuck=>rw[e1]at q;exact q.elim
 |ok dx δ1=>
  rw[e1]at q;simp![Res.bind]at q;intro x H1 F1 R1 s1;split at q
  .rename_i Á
   split at q
   .rename_i hall
    let⟨a,ms,ds,vs,rfl,l1,rfl,hF,hr⟩:=N8 R1.rep hall;refine⟨a,rfl,.inl ⟨_,.inl (R1.rel.sub _ _ hF)⟩,F1,δ1,R1.rel,?_⟩;cases e2:fk δ1 with
    |stuck=>rw[e2]at q;exact q.elim
    |ok dk δ2=>
     rw[e2]at q;simp![Res.bind]at q;intro y H2 F2 R2 s2;refine⟨F2,δ2,R2.rel,?_⟩;cases e3:fz δ2 with
     |stuck=>rw[e3]at q;exact q.elim
     |ok dz δ3=>
      rw[e3]at q;simp![Res.bind]at q;intro z H3 F3 R3 s3;split at q
      .rename_i ky e4
       obtain rfl:=EI e4 R2.rep;refine⟨pK (ms.zip vs) ky,pL.k (R3.rel.sub _ _ (s3 _ _ (s2 _ _ hF))),?_⟩;rcases uU (k:=ky) l1 hr with ⟨h1,h2⟩|⟨d,v,h1,h2,h3⟩
       .rw[h1]at q
        rw[h2];exact q z H3 F3 R3 (s1.trans' (s2.trans' s3))
       .rw[h1]at q
        rw[h2];exact q v H3 F3 (R3.rel.x ((s2.trans' s3).rep _ _ h3)) (s1.trans' (s2.trans' s3))
      .exact q.elim
   .exact q.elim
  .exact q.elim
end
section
def dU:List (M D)->M (ZI)
 |[],δ=>.ok [] δ
 |f::fs,δ=>match f δ with
  |.ok d δ1=>(match dU fs δ1 with
   |.ok ds δ2=>.ok (d::ds) δ2
   |_=>.stuck)
  |_=>.stuck
def Ϸ(m:Nat)(h:∀F H σ,DE X (cU F H σ m) 'c' n e f):PE X e (λσ H Q=>∃F0,tD X (cU F0 H σ m) 'c' n f σ H Q):=λÀ s σ H Q I zQ=>by let⟨F0,q⟩:=zQ;exact h F0 H σ À s σ H Q I q
end
section
end
end L2
namespace L2
open PySem PySem.Spec
section
end
end L2
namespace L2
open PySem PySem.Spec PyProof.Rows
def WL(lo:Int)(n:Nat):(List V):=(List.range n).map λ(k:Nat)=>V.int (lo+(k:Int))
def aOK(ta:TA):TE:=λσ H Q=>ta σ H λvs H1=>∃j:Int,vs=[.int j]/\-(2^62)<=j/\j<2^62/\∀r,H1 r=none->Q (.ref r) (aV H1 r (.rng 0 j))
def aOL(ta:TA):TE:=λσ H Q=>ta σ H λvs H1=>∃i j:Int,vs=[.int i,.int j]/\(-(2^62)<=i/\i<2^62/\-(2^62)<=j/\j<2^62)/\∀r,H1 r=none->Q (.ref r) (aV H1 r (.rng i j))
def ϸ:∀{vs:List V}{us:ZJ},vs.length=us.length->(∀(k:Nat)(v:V)(u:Value),vs[k]?=some v->us[k]?=some u->bI v u)->bH vs us
 |[],[],_,_=>.nil
 |v::vs,u::us,hl,h=>.cons (h 0 v u rfl rfl) (ϸ (by simpa using hl) λk v' u' e1 e2=>h (k+1) v' u' e1 e2)
section
variable {X:Cx}{a b:Expr}{ta:TA}{p pos:Pos}
def aIO(hg:Gl X "range")(hm:X.mg "range"=none)(ha:PA X [a] ta)(hs:↥(starEach [a] X.env=[(false,eval a X.env)])):PE X (.Call (.Name "range" p) [a] [] pos) (aOK ta):=by
 intro À s σ H Q I h;refine Call_ (hW I hg hm boot_range (PyProof.Rows.callWith_type1 (cA (ha pos À s σ H _ I h) λus s1 zQ=>?_) hs rfl));let⟨vs,H1,I1,r1,q1⟩:=zQ;let⟨j,e,q1,q2,q⟩:=q1;subst e;cases r1 with
 |cons r rr=>
  cases rr;let⟨t,rfl⟩:=r;exact call_range_1 ⟨.ref _,_,I1.laid (o:=.rng 0 j) (λb o e=>Heap.get?_push_of_some _ e) (È _) (show ∃t u v,_ from⟨_,_,_,Heap.get?_push_size _ rfl⟩),rfl,q _ (I1.hok.fresh (È _))⟩
def aIP(hg:Gl X "range")(hm:X.mg "range"=none)(ha:PA X [a,b] ta)(hs:↥(starEach [a,b] X.env=[(false,eval a X.env),(false,eval b X.env)]))(hs2:↥(starEach [b] X.env=[(false,eval b X.env)])):PE X (.Call (.Name "range" p) [a,b] [] pos) (aOL ta):=by
 intro À s σ H Q I h;refine Call_ (hW I hg hm boot_range (PyProof.Rows.callWith_type1 (cA (ha pos À s σ H _ I h) λus s1 zQ=>?_) (by rw[hs,hs2]) (by rw[hs2];rfl)));let⟨vs,H1,I1,r1,q1⟩:=zQ;let⟨i,j,e,q1,q⟩:=q1;subst e;cases r1 with
 |cons r rr=>
  cases rr with
  |cons r' rr=>
   cases rr;let⟨t,rfl⟩:=r;let⟨t',rfl⟩:=r';exact call_range_2 ⟨.ref _,_,I1.laid (o:=.rng i j) (λb o e=>Heap.get?_push_of_some _ e) (È _) (show ∃t u v,_ from⟨_,_,_,Heap.get?_push_size _ rfl⟩),rfl,q _ (I1.hok.fresh (È _))⟩
def p8(hc:X.calm=true):gU X (.type "list") (λxs H Q=>∃p lo hi,xs=[.ref p]/\H p=some (.rng lo hi)/\(-(2^62)<=lo/\lo<2^62/\-(2^62)<=hi/\hi<2^62)/\(hi-lo).toNat<=sizeLine/\∀l,H l=none->Q (.ref l) (aV H l (.lst (WL lo (hi-lo).toNat)))):=by
 intro À s σ H xs us Q I r h;let⟨p,lo,hi,rfl,hp,⟨h1,h2,h3,h4⟩,hz,q⟩:=h;let⟨u,rfl,rx⟩:=pO r;cases rx;let⟨t,u,v,e⟩:=I.hok p _ hp;refine call_list_range (I.ok.hd hc) (show IsRange s.heap p lo hi 1 t u v from e) (small_one h1 h2 h3 h4) (n:=(hi-lo).toNat) (by rw[rangeSize_one];split<;>lia) hz λh' tk acc' c' kp e it=>?_;let⟨i1,i2⟩:=it;refine⟨.ref _,_,I.laid (t':=tk) kp (È _) (show eC X.prog X.w _ h' _ (.lst (WL lo (hi-lo).toNat))from⟨by unfold WL;simpa using hz,acc'.toList,c',?_,by simpa using e⟩),rfl,q _ (I.hok.fresh (È _))⟩;refine ϸ ?_ λk v u e1 e2=>?_
 .unfold WL;simp[i1]
 .have hk:k<(hi-lo).toNat:=by
   have:=(Í.mp e1).1;unfold WL at this;simpa using this
  unfold WL at e1;rw[Ò,þ hk]at e1;cases e1;let⟨t',e3⟩:=i2 k u (by simpa using e2);exact⟨t',by rw[e3];simp⟩
end
section
variable {X:Cx}{Z:cN}{ow:ZH}{a b:Expr}{f g:M D}{p p2 p3 pos:Pos}
def B2(fs:List (M D)):M D:=λδ=>(bA fs δ).bind λds δ1=>match kR ds with
 |some (lo,n)=>if n<=sizeLine then .ok (.list (jH lo n)) δ1 else .stuck
 |none=>.stuck
def HK{K:ZC}{lo:Int}:aD K F (jH lo n) (WL lo n):=aD.of (by rw[fV];unfold WL;simp) λk d v e1 e2=>by
 have hk:k<n:=by
  have:=(Í.mp e1).1;rw[fV]at this;exact this
 rw[DM hk]at e1;unfold WL at e2;rw[Ò,þ hk]at e2;cases e1;cases e2;exact gD
def WM(S:aP Z ow)(hc:X.calm=true)(hgl:Gl X "list")(hml:X.mg "list"=none)(hgr:Gl X "range")(hmr:X.mg "range"=none)(ha:DE X Z ow 0 a f)(hs:↥(Zse a [] X.env))(he:↥(starEach [.Call (.Name "range" p2) [a] [] p3] X.env=(false,eval (.Call (.Name "range" p2) [a] [] p3) X.env)::starEach [] X.env)):DE X Z ow 1 (.Call (.Name "list" p) [.Call (.Name "range" p2) [a] [] p3] [] pos) (B2 [f]):=
 PE.mono (uA (p8 hc) hgl hml iJ (dO (aIO hgr hmr (aF ha aX hs) hs) iP he) ⋯ ⋯ he) λσ H Q q=>by
  let⟨F,δ,R,q⟩:=q;unfold B2 at q;sleep 1;cases e1:bA [f] δ with
  |stuck=>rw[e1]at q;exact q.elim
  |ok ds δ1=>
   rw[e1]at q;simp![Res.bind]at q;intro vs H1 F1 R1 s1 ra;cases e2:kR ds with
   |none=>rw[e2]at q;exact q.elim
   |some m=>
    let⟨lo,m⟩:=m;rw[e2]at q;let⟨j,rfl,h1,h2,rfl,rfl⟩:=GK e2 (kU e1);dsimp only at q;split at q
    .rename_i hz
     refine⟨j,w8 ra,h1,h2,λr hr=>⟨r,0,j,rfl,aJ,⟨⋯,⋯,h1,h2⟩,by simpa using hz,λl hl=>?_⟩⟩;have R2:=R1.laid (o:=.rng 0 j) hr;have fr:F1 r=none:=R1.fnone hr;have:=q (.ref l) _ _ (R2.newList (ds:=jH 0 j.toNat) (vs:=WL 0 (j-0).toNat) S hl (by rw[Int.sub_zero];exact HK)) (s1.trans' (bW fr _));exact this
    .exact q.elim
def WN(S:aP Z ow)(hc:X.calm=true)(hgl:Gl X "list")(hml:X.mg "list"=none)(hgr:Gl X "range")(hmr:X.mg "range"=none)(ha:DE X Z ow 0 a f)(hb:DE X Z ow 0 b g)(hs:↥(starEach [a,b] X.env=(false,eval a X.env)::starEach [b] X.env))(hs2:↥(Zse b [] X.env))(he:↥(starEach [.Call (.Name "range" p2) [a,b] [] p3] X.env=(false,eval (.Call (.Name "range" p2) [a,b] [] p3) X.env)::starEach [] X.env)):DE X Z ow 1 (.Call (.Name "list" p) [.Call (.Name "range" p2) [a,b] [] p3] [] pos) (B2 [f,g]):=
 PE.mono (uA (p8 hc) hgl hml iJ (dO (aIP hgr hmr (aF ha (aF hb aX hs2) hs) (hs.trans (by rw[hs2];rfl)) hs2) iP he) ⋯ ⋯ he) λσ H Q q=>by
  let⟨F,δ,R,q⟩:=q;unfold B2 at q;sleep 1;cases e1:bA [f,g] δ with
  |stuck=>rw[e1]at q;exact q.elim
  |ok ds δ1=>
   rw[e1]at q;simp![Res.bind]at q;intro vs H1 F1 R1 s1 ra;cases e2:kR ds with
   |none=>rw[e2]at q;exact q.elim
   |some m=>
    let⟨lo,m⟩:=m;rw[e2]at q;let⟨i,j,rfl,h1,rfl,rfl⟩:=GL e2 (kU e1);dsimp only at q;split at q
    .rename_i hz
     refine⟨lo,j,GM ra,h1,λr hr=>⟨r,lo,j,rfl,aJ,h1,hz,λl hl=>?_⟩⟩;have R2:=R1.laid (o:=.rng lo j) hr;have fr:F1 r=none:=R1.fnone hr;exact q (.ref l) _ _ (R2.newList (ds:=jH lo (j-lo).toNat) (vs:=WL lo (j-lo).toNat) S hl HK) (s1.trans' (bW fr _))
    .exact q.elim
end
structure sT(K:ZC)(mg:ZD)(base:Heap):Prop where
 bm:∃bm ob,mg "__builtins__"=some (.ref bm)/\bm≠builtinsNs/\base.get? bm=some ob/\ob.cls=.type "module"/\ob.dict=some builtinsNs/\ob.data=.plain
 cd:∀c P pos,jN K=some (c,P,pos)->W.CodeHd base c P
section
variable {X:Cx}{À:ZB}{σ:St}{H:Hp}{s:Shared}
structure HL(X:Cx)(À:ZB)(a:Addr):Prop where
 pin:∀p∈X.pn++À,p.1≠a
 new:X.s₀.heap.objs.size<=a
 loc:a≠X.env.locals
 cells:∀x c,X.env.cells.lookup x=some c->c≠a
def Inv.mine(I:Inv X À σ H s)(h:s.heap.objs.size<=a):HL X À a:=
 ⟨λp hp=>Ï (Ú (Heap.lt_size (I.pin p hp).1) h),Ü I.sz h,Þ (Ú I.lt h),λx c e=>by
  let⟨v,q⟩:=I.cell x c e;exact Ï (Ú q.lt h)⟩
def Inv.repin(I:Inv X ((a,o)::À) σ H s)(m:HL X À a)(k:∀b ob,b≠a->s.heap.get? b=some ob->h'.get? b=some ob)(e:h'.get? a=some o')(hd:∀v,o'.data≠.cell v):
  Inv X ((a,o')::À) σ H {s with heap:=h',toks:=t'}:=by
 let⟨p1,p2,p3,p4,p5⟩:=I.pin (a,o) (Ý _ Ô);have I1:Inv X À σ H s:=I.pins_of λp hp=>I.pin p (Ý _ (Ó _ hp));have I2:=I1.turned (h':=h') (t':=t') (it:=a) k p2 m.loc (.inr m.new) m.cells m.pin;refine I2.pins_of λp hp=>?_;rcases Ø.mp hp with rfl|hp
 .exact⟨e,p2,p3,p4,hd⟩
 .exact I2.pin p (Ý _ hp)
def Inv.pinNew(I:Inv X À σ H s)(e:s.heap.get? a=some o)(hn:H a=none)(hl:a≠X.env.locals)(hf:a∉X.fs)(hd:∀v,o.data≠.cell v):Inv X ((a,o)::À) σ H s:=I.pins_of λp hp=>by
 rcases Ø.mp hp with rfl|hp
 .exact⟨e,hn,hl,hf,hd⟩
 .exact I.pin p (Ý _ hp)
def Inv.unpin(I:Inv X (p::À) σ H s):Inv X À σ H s:=I.pins_of λq hq=>I.pin q (Ý _ (Ó _ hq))
end
abbrev sU(pos:Pos):HO:=.lam (rawInt pos.line) (rawInt pos.col) kQ
abbrev QS(pos:Pos)(c':Addr):Obj:=W.tabObj #[rawInt pos.line,rawInt pos.col,.ref c']
structure sV(X:Cx)(À:ZB)(σ:St)(H:Hp)(P:Addr)(pos:Pos)(fo:Obj)(f c':Addr)(H':Hp)(s':Shared):Prop where
 inv:Inv X À σ H' s'
 same:aI H H'
 fn:s'.heap.get? f=some fo
 un:H' f=none
 loc:f≠X.env.locals
 nf:f∉X.fs
 cd:s'.heap.CodeRec (.ref c') kQ
 own:H' c'=some (.own P)
 ne:c'≠P
 tb:s'.heap.get? P=some (QS pos c')
 lm:H' P=some (sU pos)
section
variable {X:Cx}{À:ZB}{σ:St}{H:Hp}{s:Shared}{params:Arguments}{body:Expr}{scope:Scope}{pos:Pos}{c P:Addr}{clos:List (Str×Addr)}
def WO{Q:ZA}{E:ZA}{M:Model}{A:Around}(I:Inv X À σ H s)(B:sT X.K X.mg X.base)(hl:jN X.K=some (c,P,pos))(hP:H P=some (sU pos))(hcode:X.env.code=.ref c)(hq:X.env.qual++"<lambda>"=kQ)(hcl:closureFor scope X.env=pure clos)(hdef:defaultsOf params X.env=([],[]))(h:∀f c' ctv H' s',sV X À σ H P pos 'e' f c' H' s'->Q (.ref f) s'):wpAny M A (eval (.Lambda params body scope pos) X.env) Q E s:=by
 refine W.kla_eval hdef ?_;rw[hq];have hg:s.heap.Ns mainGlobals X.mg:=I.mod.glob.keeps I.bk;have C:W.CodeHd s.heap c P:=(B.cd c P pos hl).keeps I.bk;let⟨bm,ob,b1,b2,b3,b4,b5,b6⟩:=B.bm;have b3':=I.bk _ _ b3;let⟨ps,e1,e2⟩:=I.hok P _ hP;have hPl:P<s.heap.objs.size:=Heap.lt_size e1;have hgP:mainGlobals≠P:=λq=>by
  let⟨o,es,ep,e,hd,_⟩:=hg;rw[q,e1]at e;cases e;cases hd
 have hbP:bm≠P:=λq=>by rw[q,e1]at b3';cases b3';cases b4
 have hbG:bm≠mainGlobals:=λq=>by
  let⟨o,es,ep,e,hd,_⟩:=hg;rw[q,e]at b3';cases b3';rw[hd]at b6;cases b6
 have BA:s.heap.BuiltinsAt X.mg P:=⟨bm,ob,b1,b2,hbG,hbP,b3',b4,b5,b6⟩;have far:∀{n:Nat},s.heap.objs.size<=n->H n=none/\n≠X.env.locals/\n∉X.fs:=λ{n}hn=>⟨I.hok.fresh hn,Þ (Ú I.lt hn),I.nofs hn⟩;rcases e2 with rfl|⟨c',rfl,o1,o2,o3⟩
 .refine W.kla_makeFunction (mg:=X.mg) hcl I.ok.glob hg hcode C e1 trivial rfl hgP BA λc' ctv h' tk hx hge hlt hrec htb=>?_
  have hc:H c'=none:=(far hge).1;have hk:∀b o,b≠P->s.heap.get? b=some o->(h'.push 'e').get? b=some o:=λb o n e=>Heap.get?_push_of_some _ (hx b o n e);have ht:(h'.push 'e').get? P=some (QS pos c'):=Heap.get?_push_of_some _ htb;have hr:(h'.push 'e').CodeRec (.ref c') kQ:=hrec.push _;have ncP:c'≠P:=Þ (Ú hPl hge);have un:Un X.fs [] H (aV H c' (.own P)) s.heap (h'.push 'e'):=by
   have nP:∀b,H b=none->b≠P:=λb n z=>by rw[z,hP]at n;cases n
   refine⟨λb o e n _ _=>hk b o (nP b n) e,λb o e n _ _=>⟨o.slots,hk b o (nP b n) e⟩,λb o e n _=>?_,λb o e _=>?_,λb xs e=>?_,λb o u e=>?_,λb ps e=>⟨#[],?_⟩⟩
   .rw[aE (Ï (Ú (Heap.lt_size e) hge))];exact n
   .by_cases z:b=P
    .exact⟨_,z▸ht⟩
    .exact⟨o,hk b o z e⟩
   .rw[aE (bK e hc)];exact e
   .rw[aE (bK e hc)];exact e
   .rw[aE (bK e hc),e];simp
  have hok:oB X.prog X.w (aV H c' (.own P)) (h'.push 'e'):=λb o e=>by
   by_cases z:b=c'
   .subst z
    rw[aJ]at e;cases e;let⟨_,o,_,_,q1,q2,_⟩:=hr;cases q1;exact⟨o,q2⟩
   .rw[aE z]at e
    by_cases y:b=P
    .subst y
     rw[hP]at e;cases e;exact⟨_,ht,.inr ⟨c',rfl,aJ,ncP,hr⟩⟩
    .refine(I.hok b o e).stay (λd u hd q=>hk d u ?_ q) (λd q=>by rw[aE (bK q hc)];exact q) λd xs q=>by rw[aE (bK q hc)];exact q
     rcases hd with rfl|hd
     .exact y
     .rintro rfl;rw[hP]at hd;cases hd
  have hf:s.heap.objs.size<=h'.objs.size:=É (ē hge hlt);have I2:=I.un (t':=tk) un hok;refine h _ c' ctv (aV H c' (.own P)) _ ⟨I2,λb o e=>by rw[aE (bK e hc)];exact e,Heap.get?_push_size _ rfl,?_,(far hf).2.1,(far hf).2.2,hr,aJ,ncP,ht,by rw[aE (Ñ ncP)];exact hP⟩
  rw[aE (Þ hlt)];exact(far hf).1
 .have am:codeAmong pos (#[rawInt pos.line,rawInt pos.col,.ref c']:Array Value).toList=some (.ref c'):=codeAmong_snoc (pos:=pos) (c:=.ref c') [] trivial rfl
  refine W.kla_makeFunctionHit (mg:=X.mg) hcl I.ok.glob hg hcode C e1 trivial am BA λctv h' tk hk hsz=>?_;have hk':∀b o,s.heap.get? b=some o->(h'.push 'e').get? b=some o:=λb o e=>Heap.get?_push_of_some _ (hk b o e);have I2:=I.kept (t':=tk) hk';exact h _ c' ctv H _ ⟨I2,λ_ _ e=>e,Heap.get?_push_size _ rfl,(far hsz).1,(far hsz).2.1,(far hsz).2.2,o3.keeps hk',o1,o2,hk' _ _ e1,hP⟩
def pM(P c':Addr)(H:Hp):Hp:=λb=>open Classical in if b=P\/b=c' then none else H b
def iN(h1:b≠P)(h2:b≠c'):pM P c' H b=H b:=by
 unfold pM;rw[Ã λz=>z.elim h1 h2]
def QT(e:pM P c' H b=some o):b≠P/\b≠c'/\H b=some o:=by
 unfold pM at e;split at e
 .cases e
 .rename_i z
  exact⟨λq=>z (.inl q),λq=>z (.inr q),e⟩
def k4{P c' b:Addr}{H:Hp}(e:H b=none):pM P c' H b=none:=by
 unfold pM;split
 .rfl
 .exact e
def aIQ:pM P c' H P=none:=by unfold pM;rw[Â (.inl rfl)]
def aIR:pM P c' H c'=none:=by unfold pM;rw[Â (.inr rfl)]
def sV.hide(m:sV X À σ H P pos fo f c' H' s')(hfo:∀v,fo.data≠.cell v):∃oc vs t,oc.data=.fields vs/\vs[1]?=some (.str kQ t)/\Inv X ((f,fo)::(c',oc)::(P,QS pos c')::À) σ (pM P c' H') s':=by
 let⟨_,oc,vs,t,e0,e1,e2,e3⟩:=m.cd;cases e0;have nP:∀{b:Addr}{o:HO},H' b=some o->o≠sU pos->b≠P:=λ{b o}e n z=>by rw[z,m.lm]at e;cases e;exact n rfl
 have nc:∀{b:Addr}{o:HO},H' b=some o->o≠.own P->b≠c':=λ{b o}e n z=>by rw[z,m.own]at e;cases e;exact n rfl
 have I:=m.inv;have locP:P≠X.env.locals:=λz=>by have:=I.free;rw[<- z,m.lm]at this;cases this
 have locc:c'≠X.env.locals:=λz=>by have:=I.free;rw[<- z,m.own]at this;cases this
 have fsF:∀b∈X.fs,H' b=none:=λb hb=>by
  let⟨_,o,ho,_⟩:=I.ok.funs.mem hb;exact I.base.free b o ho (I.ok.frf b hb) λz=>I.ok.exfs b z hb
 have J:Inv X À σ (pM P c' H') s':=by
  refine⟨I.ok,I.os,I.bare,⟨I.base.keep,I.base.slot,λb o e n hx=>k4 (I.base.free b o e n hx),I.base.there,λb xs e=>?_,λb o u e=>?_,λb ps e=>?_⟩,I.loc,I.cell,k4 I.free,λx c e=>k4 (I.freeC x c e),λp hp=>?_,λb o e=>?_,I.len⟩
  .have q:=I.base.tups b xs e
   rw[iN (nP q 'f') (nc q 'f')];exact q
  .have q:=I.base.frzs b o u e
   rw[iN (nP q 'f') (nc q 'f')];exact q
  .obtain⟨more,q⟩:=I.base.tbls b ps e
   exact⟨more,by rw[iN (nP q 'f') (nc q 'f')];exact q⟩
  .obtain⟨a1,a2,a3⟩:=I.pin p hp
   exact⟨a1,k4 a2,a3⟩
  .obtain⟨h1,h2,e⟩:=QT e
   refine(I.hok b o e).stay (λ_ _ _ q=>q) (λd q=>?_) λd xs q=>?_
   .rw[iN (nP q 'f') (λz=>by rw[z,m.own]at q;cases q;exact h1 rfl)];exact q
   .rw[iN (nP q 'f') (nc q 'f')];exact q
 refine⟨oc,vs,t,e2,e3,((J.pinNew m.tb aIQ locP (λz=>by have:=fsF _ z;rw[m.lm]at this;cases this) (λv=>by simp)).pinNew e1 aIR locc (λz=>by have:=fsF _ z;rw[m.own]at this;cases this) (λv=>by rw[e2];simp)).pinNew m.fn (k4 m.un) m.loc m.nf hfo⟩
def xW(P c':Addr)(pos:Pos)(H:Hp):Hp:=λb=>open Classical in if b=P then some (sU pos)else if b=c' then some (.own P)else H b
def sV.show(m:sV X À σ H P pos fo f c' H' s')(e2:oc.data=.fields vs)(e3:vs[1]?=some (.str kQ t))(I2:Inv X ((f,fo)::(c',oc)::(P,QS pos c')::À) σ H2 s2)(hs:aI (pM P c' H') H2):Inv X À σ (xW P c' pos H2) s2/\aI H (xW P c' pos H2):=by
 have pc:=I2.pin (c',oc) (Ý _ 'f');have pP:=I2.pin (P,QS pos c') (Ý _ 'f');have I:=m.inv;have neP:∀{b:Addr}{o:HO},H2 b=some o->b≠P:=λe z=>by rw[z,pP.2.1]at e;cases e
 have nec:∀{b:Addr}{o:HO},H2 b=some o->b≠c':=λe z=>by rw[z,pc.2.1]at e;cases e
 have ne:∀{b:Addr},b≠P->b≠c'->xW P c' pos H2 b=H2 b:=λh1 h2=>by unfold xW;rw[Ã h1,Ã h2]
 have up:∀{b:Addr}{o:HO},H2 b=some o->xW P c' pos H2 b=some o:=λe=>by rw[ne (neP e) (nec e)];exact e
 have dn:∀{b:Addr},H' b=none->H2 b=none->xW P c' pos H2 b=none:=λ{b}e1 e2=>by
  rw[ne (λz=>by rw[z,m.lm]at e1;cases e1) (λz=>by rw[z,m.own]at e1;cases e1)];exact e2
 have sP:xW P c' pos H2 P=some (sU pos):=by unfold xW;rw[Â rfl]
 have sc:xW P c' pos H2 c'=some (.own P):=by unfold xW;rw[Ã m.ne,Â rfl]
 refine⟨⟨I2.ok,I2.os,I2.bare,⟨I2.base.keep,I2.base.slot,λb o e n hx=>dn (I.base.free b o e n hx) (I2.base.free b o e n hx),I2.base.there,λb xs e=>up (I2.base.tups b xs e),λb o u e=>up (I2.base.frzs b o u e),λb ps e=>?_⟩,I2.loc,I2.cell,dn I.free I2.free,λx c e=>dn (I.freeC x c e) (I2.freeC x c e),λp hp=>?_,λb o e=>?_,I2.len⟩,λb o e=>?_⟩
 .obtain⟨more,q⟩:=I2.base.tbls b ps e
  exact⟨more,up q⟩
 .have hp2:p∈X.pn++((f,fo)::(c',oc)::(P,QS pos c')::À):=by
   rcases ø.mp hp with z|z
   .exact ĝ _ z
   .exact Ý _ (by simp[z])
  let⟨a1,a2,a3⟩:=I2.pin p hp2;exact⟨a1,dn (I.pin p hp).2.1 a2,a3⟩
 .by_cases h1:b=P
  .subst h1
   rw[sP]at e;cases e;exact⟨_,pP.1,.inr ⟨c',rfl,sc,m.ne,c',oc,vs,t,rfl,pc.1,e2,e3⟩⟩
  .by_cases h2:b=c'
   .subst h2
    rw[sc]at e;cases e;exact⟨oc,pc.1⟩
   .rw[ne h1 h2]at e
    exact(I2.hok b o e).stay (λ_ _ _ q=>q) (λd q=>up q) λd xs q=>up q
 .have e':=m.same b o e
  by_cases h1:b=P
  .subst h1;rw[m.lm]at e';cases e';exact sP
  .by_cases h2:b=c'
   .subst h2;rw[m.own]at e';cases e';exact sc
   .rw[ne h1 h2]
    exact hs b o (by rw[iN h1 h2];exact e')
end
abbrev lamE(scope:Scope)(x:Str)(cc:Addr)(s:Shared)(f c':Addr):Env:=W.envX kQ scope s.heap.objs.size f (.ref c') [(x,cc)]
def Ŝ(X:Cx)(scope:Scope)(p x:Str)(cc:Addr)(s:Shared)(H:Hp)(f c':Addr):Cx where
 prog:=X.prog
 w:=X.w
 K:=X.K
 mg:=X.mg
 base:=X.base
 A:=X.A.in1.deeper (lamE scope x cc s f c')
 N:=[p,x]
 s₀:=s
 H₀:=H
 env:=lamE scope x cc s f c'
 outer:=X.stack
 stack:=lamE scope x cc s f c'::X.stack
 ex:=[]
 calm:=true
 fn:=λy=>y == p
 pn:=[]
 xe:=λe s'=>wpAny 'b' (X.A.in1.deeper (lamE scope x cc s f c')) (leaving (lamE scope x cc s f c') e) (λ_ _=>False) (λ_ _=>False) s'
structure WP(scope:Scope)(p x:Str):Prop where
 names:scope.names=[(p,.local),(x,.free)]\/scope.names=[(x,.free),(p,.local)]
 ne:(p == x)=false
 kind:scope.kind=.function
 co:scope.isCoroutine=false
 gen:scope.isGenerator=false
section
variable {X:Cx}{À:ZB}{σ:St}{H:Hp}{s:Shared}{params:Arguments}{body:Expr}{scope:Scope}{p x:Str}{cc f c':Addr}
theorem WP.look(S:WP scope p x):scope.names.lookup p=some .local/\scope.names.lookup x=some .free/\∀y,(scope.names.lookup y=some .cell\/scope.names.lookup y=some .free)->y=x:=by
 have h1:=S.ne;have h2:(x == p)=false:=by
  rw[beq_eq_false_iff_ne]at h1⊢;exact λz=>h1 z.symm
 rcases S.names with e|e<;>rw[e]
 .refine⟨by simp[å],by simp[å,h2],λy hy=>?_⟩
  by_cases q1:y=p
  .subst q1;simp[å]at hy
  .by_cases q2:y=x
   .exact q2
   .simp[å,beq_eq_false_iff_ne.mpr q1,beq_eq_false_iff_ne.mpr q2]at hy
 .refine⟨by simp[å,h1],by simp[å],λy hy=>?_⟩
  by_cases q2:y=x
  .exact q2
  .by_cases q1:y=p
   .subst q1;simp[å,h1]at hy
   .simp[å,beq_eq_false_iff_ne.mpr q1,beq_eq_false_iff_ne.mpr q2]at hy
def QU(I:Inv X À σ H s)(S:WP scope p x)(hc:X.calm=true)(rv:bI v u)(rt:bI vt ut)(hcell:s.heap.IsCell cc (some ut))(hH:H cc=none)(hb:X.A.in1.frames=some X.stack)(hn:h1.Ns s.heap.objs.size (λy=>[(p,u)].reverse.lookup y))(hk:∀b o,s.heap.get? b=some o->h1.get? b=some o)(e1:s1={s with heap:=h1,toks:=s.toks+1}):
  Inv (Ŝ X scope p x cc s H f c') [] [some v,some vt] H s1:=by
 subst e1;let⟨l1,l2,l3⟩:=S.look;have lx:∀y c,([(x,cc)]:List (Str×Addr)).lookup y=some c->y=x/\c=cc:=λy c e=>by
  rw[å]at e;cases q:y == x with
  |true=>rw[q]at e;cases e;exact⟨eq_of_beq q,rfl⟩
  |false=>rw[q]at e;cases e
 have noA:∀b:Addr,b∉(Ŝ X scope p x cc s H f c').ex:=λb z=>absurd (show b∈([]:ZM)from z) 'f';refine⟨⟨I.mod,S.kind,rfl,rfl,È _,λy z c a1 a2=>?_,λy hy=>?_,λy c a1 a2=>?_,λ_=>?_,Around.frames_deeper hb,.inr ⟨rfl,rfl⟩,λb z=>absurd z (noA b),I.bs,?_,λb _ _=>noA b,λb z=>absurd z (noA b),I.stack,I.stkFree⟩,
  rfl,I.bare,Un.kept hk,⟨_,hn,λi y v' a1 a2 a3=>?_⟩,λy c a=>?_,I.hok.fresh (È _),λy c a=>?_,λq hq=>absurd (show q∈([]:ZB)from hq) 'f',I.hok.kept hk,rfl⟩
 .rw[(lx y c a1).1,(lx z c a2).1]
 .have:=l3 y hy
  subst this;exact⟨cc,by show ([(y,cc)]:List (Str×Addr)).lookup y=some cc;simp[å]⟩
 .have e:=(lx y c a2).1
  subst e;have a1:(y == p)=true:=a1;have:=S.ne;rw[eq_of_beq a1]at this;simp at this
 .exact I.ok.hd hc
 .exact Ü I.ok.bsz I.sz
 .match i,a1,a2 with
  |0,a1,a2=>
   cases a1;cases a2;exact⟨u,rv,.inl ⟨l1,by simp[å]⟩⟩
  |1,a1,a2=>
   cases a1;cases a2;refine⟨ut,rt,.inr ⟨.inr l2,cc,by show ([(x,cc)]:List (Str×Addr)).lookup x=some cc;simp[å],?_⟩⟩
   let⟨o,ho,hd⟩:=hcell;exact⟨o,hk _ _ ho,hd⟩
  |i+2,a1,a2=>cases a1
 .obtain⟨rfl,rfl⟩:=lx y c a
  let⟨o,ho,hd⟩:=hcell;exact⟨_,o,hk _ _ ho,hd⟩
 .obtain⟨rfl,rfl⟩:=lx y c a
  exact hH
def WQ{i:Nat}(I:Inv X À σ H s)(S:WP scope p x)(hc:X.calm=true)(hr:fD 0 X.A)(hfr:X.A.in1.frames=some X.stack)(hf:(f,W.kla_obj "<lambda>" kQ params body scope [(x,cc)] pm c' ctv)∈À)(hoc:(c',oc)∈À)(e2:oc.data=.fields cvs)(e3:cvs[1]?=some (.str kQ ct))(hN:X.N[i]?=some x)(hσ:σ[i]?=some (some vt))(hkd:X.env.scope.names.lookup x=some .cell)(hxc:X.env.cells.lookup x=some cc)(hbind:bindArgs (W.kla_fn "<lambda>" kQ params body scope [(x,cc)] pm (.ref c') ctv) ⟨[u],[]⟩=pure [(p,u)])(rv:bI v u)(hb:PE (Ŝ X scope p x cc s H f c') body tb)(ht:tb [some v,some vt] H (λw H'=>w=.int k/\aI H H')):
  wpAny 'b' X.A.in1 (call (.ref f) [u]) (λu' s'=>∃t H',u'=.int k t/\aI H H'/\Inv X À σ H' s') E s:=by
 let⟨l1,l2,l3⟩:=S.look;let⟨m,_,hl⟩:=id I.loc;let⟨ut,rt,lk⟩:=hl i x vt hN hσ (.inr (.inl hkd));have hcell:s.heap.IsCell cc (some ut):=by
  rcases lk with ⟨q,_⟩|⟨_,c,q,z⟩
  .rw[show X.env.kindOf x=X.env.scope.names.lookup x from rfl,hkd]at q;cases q
  .rw[hxc]at q;cases q;exact z
 have pf:=I.pin _ (Ý _ hf);have pc:=I.pin _ (Ý _ hoc);refine wpAny_call (W.kla_callFunE (body:=body) ?_ pf.1 rfl S.co S.gen rfl ⟨c',oc,cvs,ct,rfl,pc.1,e2,e3⟩ ?_)
 .have:=hr.dp
  show X.A.depth<_;lia
 rw[hbind];have hnc:∀y∈scope.names,y.2≠.cell:=λy hy=>by
  rcases S.names with e|e<;>rw[e]at hy<;>simp at hy<;>rcases hy with rfl|rfl<;>(intro h;cases h)
 refine wpAny_pure (wpAny_newFunctionEnv hnc (λy hy=>by rw[ô.mp hy];exact l1) (λh1 hns hsb=>⟨I.nolimit.fresh _ hsb,?_⟩) S.kind);have hk1:∀b o,s.heap.get? b=some o->h1.get? b=some o:=λb o e=>hsb.extBut b o (Ï (Heap.lt_size e)) (Heap.get?_push_of_some _ e);show codeAny _ _ (.expr body (lamE scope x cc s f c')) _ _;have J:Inv (Ŝ X scope p x cc s H f c') [] [some v,some vt] H {s with heap:=h1,toks:=s.toks+1}:=QU I S hc rv rt hcell (I.freeC x cc hxc) hfr hns hk1 rfl;refine W.kla_codeExpr (wpAny_mono (hb [] _ [some v,some vt] H _ J ht) (λu' s' q=>?_) λe s' q=>?_)
 .obtain⟨w,H',J',rw',rfl,sm⟩:=q
  let⟨t,rfl⟩:=rw';exact⟨t,H',rfl,sm,I.call' (ch:=[]) J'.os J'.base J'.hok J'.bare (λ_ z=>nomatch z)⟩
 .exact wpAny_mono q (λ_ _ z=>z.elim) λ_ _ z=>z.elim
end
def cW{α:Type}:Option (α×Int)->List (α×Int)->Option (α×Int)
 |o,[]=>o
 |none,y::ys=>cW (some y) ys
 |some m,y::ys=>cW (some (if y.2<m.2 then y else m)) ys
def aLT(b:Option (V×Int))(o:Option (Value×Tok)):Prop:=match b,o with
 |none,none=>True
 |some m,some z=>bI m.1 z.1
 |_,_=>False
def WR:Option (V×Int)->Option (Value×Tok)->Array Value
 |some m,some z=>#[z.1,.int m.2 z.2]
 |_,_=>#[]
section
variable {X:Cx}{À:ZB}{σ:St}{H0:Hp}{q l:Addr}{dv:Value}{R:Result->Shared->Prop}
def HM(a f d:Value):argsOk "min" ⟨[a],[("key",f),("default",d)]⟩:=by unfold argsOk;kernel_rfl
def aCK{prog:Program}{w:World}{A:Around}{E:ZA}{s:Shared}{x m:Int}{t t':Tok}{Q:ZA}(h:Q (.bool (decide (x<m))) s):wpAny (model prog w) A (richCompare .Lt (.int x t) (.int m t')) Q E s:=CmpOf.ints_lt (P:=λi v=>∃t,v=.int (if i=0 then x else m) t) (λi=>if i=0 then x else m) (λ_ _ h=>h) 0 1 _ _ s Q E ⟨t,rfl⟩ ⟨t',rfl⟩ (by simpa using h)
def xX(b:Option (V×Int))(o:Option (Value×Tok)):(WR b o).size<=sizeLine:=by
 unfold WR;split
 .show 2<=sizeLine;decide
 .show 0<=sizeLine;decide
abbrev vV(b:Option (V×Int))(o:Option (Value×Tok))(c:Nat):Obj:={cls:=.type "list",dict:=none,data:=.seq (WR b o) c,slots:=#[]}
def Inv.swp(I:Inv X (a::b::À) σ H s):Inv X (b::a::À) σ H s:=I.pins_of λp hp=>I.pin p (Ý _ (by
 rcases Ø.mp hp with rfl|hp
 .exact Ó _ Ô
 .rcases Ø.mp hp with rfl|hp
  .exact Ô
  .exact Ó _ (Ó _ hp)))
def oT(o:Option (α×Int)):cW o []=o:=by cases o<;>rfl
def QV{vs:List V}{ks:ZK}(hlen:ks.length=vs.length)(hh:X.A.handled=none)(turn:∀(j:Nat)(v:V)(k:Int)(u:Value)(pins':ZB)(s:Shared)(H1:Hp),vs[j]?=some v->ks[j]?=some k->bI v u->aI H0 H1->(∀p∈À,p∈pins')->Inv X pins' σ H1 s ->
   wpAny 'b' X.A.in1 (call (.ref q) [u]) (λu' s'=>∃t H',u'=.int k t/\aI H1 H'/\Inv X pins' σ H' s') (λ_ _=>False) s)(hl:∀H1,aI H0 H1->d8 X.K H1 l vs)(mI:HL X À IA)(mS:HL X À S)(hSI:S≠IA)(hlI:l≠IA)(done:∀u s' H1,(match cW none (vs.zip ks)with|none=>u=dv|some m=>bI m.1 u)->aI H0 H1->Inv X À σ H1 s'->R (.ok (.ret u)) s'):
  ∀(r j:Nat)(s:Shared)(H1:Hp)(b:Option (V×Int))(o:Option (Value×Tok))(c:Nat)(oI:Obj),vs.length-j=r->j<=vs.length->cW b ((vs.zip ks).drop j)=cW none (vs.zip ks)->aLT b o->aI H0 H1 ->
   oI.cls=.type "list_iterator"->oI.data=.fields #[.ref l,.int j 0]->Inv X ((S,vV b o c)::(IA,oI)::À) σ H1 s ->
   codeAny 'b' X.A (.builtin "min.loop" ⟨[.ref IA,.ref q,.ref S],[("default",dv)]⟩) R s:=by
 have nm:(toString "min"++toString ".loop":String)="min.loop":=by decide
 have mS':∀oI:Obj,HL X ((IA,oI)::À) S:=λoI=>⟨λp hp=>by
  rcases ø.mp hp with hp|hp
  .exact mS.pin p (ĝ _ hp)
  .rcases Ø.mp hp with rfl|hp
   .exact Ñ hSI
   .exact mS.pin p (Ý _ hp),mS.new,mS.loc,mS.cells⟩
 have mI':∀oS:Obj,HL X ((S,oS)::À) IA:=λoS=>⟨λp hp=>by
  rcases ø.mp hp with hp|hp
  .exact mI.pin p (ĝ _ hp)
  .rcases Ø.mp hp with rfl|hp
   .exact hSI
   .exact mI.pin p (Ý _ hp),mI.new,mI.loc,mI.cells⟩
 intro r
 induction r with
 |zero=>
  intro j s H1 b o c oI hr hj hb hbo sm hoc hod I;obtain rfl:j=vs.length:=by lia
  rw[List.drop_of_length_le (by rw[ë];lia),oT]at hb;have pS:=I.pin _ (Ý _ Ô);have pI:=I.pin _ (Ý _ (Ó _ Ô));let⟨its,rv,pl,hz⟩:=I.list (hl H1 sm);have hn:=rv.length;have W:=Walks.list (prog:=X.prog) (w:=X.w) (A:=X.A.in1) (show X.A.in1.handled=none from hh) IA l hlI its.toArray;refine codeAny_builtin F.entry_min_loop ?_;rw[Around.under_plainId F.plain_min_loop _];refine(show wpAny _ X.A.in1 (seqItems? (.ref S) >>= _) _ _ s from wpAny_bind (wpAny_seqItems pS.1 rfl ?_));refine(show wpAny _ X.A.in1 (tryCatch (pyNext (.ref IA)) _ >>= _) _ _ s from wpAny_bind (wpAny_tryCatch (W.done s _ _ ⟨⟨oI,pI.1,hoc,by rw[hod];simp[<- hn]⟩,pl.isList⟩ λh' tk hk'=>?_)))
  have I1:Inv X ((S,vV b o c)::À) σ H1 {s with heap:=h',toks:=tk}:=I.swp.unpin.turned (it:=IA) (λb o hb e=>hk' b o (by simpa using hb) e) pI.2.1 (mI' (vV b o c)).loc (.inr mI.new) mI.cells (mI' (vV b o c)).pin;cases o with
  |none=>
   cases b with
   |some m=>exact hbo.elim
   |none=>
    refine wpAny_bind (wpAny_rule (wpAny_pure (done dv _ H1 ?_ sm I1.unpin)));rw[<- hb]
  |some z=>
   cases b with
   |none=>exact hbo.elim
   |some m=>
    have pS1:=I1.pin _ (Ý _ Ô);refine(show wpAny _ X.A.in1 (updateSeq S (λ_=>#[]) >>= _) _ _ _ from wpAny_bind (wpAny_updateSeq pS1.1 rfl (wpAny_bind (wpAny_letGo (wpAny_pure ?_))) (hz:=xX _ _) (_hz':=í _)));refine done z.1 _ H1 (by rw[<- hb];exact hbo) sm ?_;exact I1.unpin.turned (t':=tk) (it:=S) (λb o hb e=>(Heap.get?_update_other _ _ (Ñ hb)).trans e) pS1.2.1 mS.loc (.inr mS.new) mS.cells mS.pin
 |succ r ih=>
  intro j s H1 b o c oI hr hj hb hbo sm hoc hod I;have hlt:j<vs.length:=by lia
  have pS:=I.pin _ (Ý _ Ô);have pI:=I.pin _ (Ý _ (Ó _ Ô));let⟨its,rv,pl,hz⟩:=I.list (hl H1 sm);have hn:=rv.length;have W:=Walks.list (prog:=X.prog) (w:=X.w) (A:=X.A.in1) (show X.A.in1.handled=none from hh) IA l hlI its.toArray;obtain⟨v,hv⟩:∃v,vs[j]?=some v:=⟨_,Ê hlt⟩;obtain⟨k,hk⟩:∃k,ks[j]?=some k:=⟨_,Ê (by exact õ ‹_› (Eq.symm ‹_›))⟩;have ed:(vs.zip ks).drop j=(v,k)::(vs.zip ks).drop (j+1):=by
   have hz:(vs.zip ks)[j]?=some (v,k):=by rw[Ĝ];exact⟨hv,hk⟩
   let⟨h1,h2⟩:=Í.mp hz;rw[ñ h1,h2]
  rw[ed]at hb;refine codeAny_builtin F.entry_min_loop ?_;rw[Around.under_plainId F.plain_min_loop _];refine(show wpAny _ X.A.in1 (seqItems? (.ref S) >>= _) _ _ s from wpAny_bind (wpAny_seqItems pS.1 rfl ?_));refine(show wpAny _ X.A.in1 (tryCatch (pyNext (.ref IA)) _ >>= _) _ _ s from wpAny_bind (wpAny_tryCatch (W.item j s _ _ (by simp;exact õ ‹_› ‹_›) ⟨⟨oI,pI.1,hoc,hod⟩,pl.isList⟩ λu h' tk hp hst' hk'=>?_)));let⟨oI',hoI',hoc',hod'⟩:=hst'.1;have ru:bI v u:=by
   let⟨u',e1,e2⟩:=rv.get hv;have hp:its.toArray[j]?=some u:=hp;rw[List.getElem?_toArray,e1]at hp;cases hp;exact e2
  have I1:Inv X ((S,vV b o c)::(IA,oI')::À) σ H1 {s with heap:=h',toks:=tk}:=(I.swp.repin (mI' _) (λb o hb e=>hk' b o (by simpa using hb) e) hoI' (λv=>by rw[hod'];simp)).swp;have hsub:∀p∈À,p∈(S,vV b o c)::(IA,oI')::À:=λp hp=>Ó _ (Ó _ hp);refine(show wpAny _ X.A.in1 (tryCatch (holding [u] (call (.ref q) [u])) _ >>= _) _ _ _ from wpAny_bind (wpAny_tryCatch (wpAny_holding (wpAny_mono (turn j v k u _ _ H1 hv hk ru sm hsub I1) (λx s2 he=>?_) λ_ _ hF=>hF.elim))));let⟨t,H2,rfl,sm2,I2⟩:=he;have smA:aI H0 H2:=sm.trans' sm2;have pS2:=I2.pin _ (Ý _ Ô);have new:cW (some (v,k)) ((vs.zip ks).drop (j+1))=cW none (vs.zip ks)->codeAny 'b' X.A (.builtin "min.loop" ⟨[.ref IA,.ref q,.ref S],[("default",dv)]⟩) R {s2 with heap:=s2.heap.update S (Obj.mapSeq λ_=>#[u,.int k t])}:=λhb=>by
   obtain⟨c2,hc2⟩:∃c2,(s2.heap.update S (Obj.mapSeq λ_=>#[u,.int k t])).get? S=some (vV (some (v,k)) (some (u,t)) c2):=⟨_,get?_update_seq pS2.1 λ_=>#[u,.int k t]⟩;exact ih (j+1) _ H2 (some (v,k)) (some (u,t)) c2 oI' ∅ hlt hb ru smA hoc' hod' (I2.repin (t':=s2.toks) (mS' oI') (λb o hb e=>(Heap.get?_update_other _ _ (Ñ hb)).trans e) hc2 (λv=>by simp))
  cases o with
  |none=>
   cases b with
   |some m=>exact hbo.elim
   |none=>
    refine(show wpAny _ X.A.in1 (updateSeq S (λ_=>#[u,.int k t]) >>= _) _ _ _ from wpAny_bind (wpAny_updateSeq pS2.1 rfl ?_ (hz:=xX _ _) (_hz':=(by show 2<=sizeLine+1;decide))));rw[nm];exact wpAny_pure ⟨plainId_quiet F.plain_min_loop _,new hb⟩
  |some z=>
   cases b with
   |none=>exact hbo.elim
   |some m=>
    refine(show wpAny _ X.A.in1 (tryCatch (holding [u,.int k t] (richCompare .Lt (.int k t) (.int m.2 z.2) >>= _)) _ >>= _) _ _ _ from wpAny_bind (wpAny_tryCatch (wpAny_holding (wpAny_bind (aCK ?_)))));refine wpAny_bind (wpAny_holding (wpAny_truthy_bool (wpAny_bind (wpAny_letGo (wpAny_pure ?_)))));have hb':cW (some (if k<m.2 then (v,k)else m)) ((vs.zip ks).drop (j+1))=cW none (vs.zip ks):=hb;by_cases hg:k<m.2
    .rw[Â hg]at hb'
     simp![hg,decide_true,if_true];refine wpAny_bind (wpAny_updateSeq pS2.1 rfl (wpAny_bind (wpAny_letGo ?_)) (hz:=xX _ _) (_hz':=(by show 2<=sizeLine+1;decide)));rw[nm];exact wpAny_pure ⟨plainId_quiet F.plain_min_loop _,new hb'⟩
    .rw[Ã hg]at hb'
     simp![hg,decide_false,Bool.false_eq_true,if_false];refine wpAny_bind (wpAny_letGo ?_);rw[nm];exact wpAny_pure ⟨plainId_quiet F.plain_min_loop _,ih (j+1) s2 H2 (some m) (some z) c oI' ∅ hlt hb' hbo smA hoc' hod' I2⟩
def QW{ks:ZK}(hlen:ks.length=vs.length)(hh:X.A.handled=none)(I:Inv X À σ H0 s)(hq:d8 X.K H0 l vs)(turn:∀(j:Nat)(v:V)(k:Int)(u:Value)(pins':ZB)(s:Shared)(H1:Hp),vs[j]?=some v->ks[j]?=some k->bI v u->aI H0 H1->(∀p∈À,p∈pins')->Inv X pins' σ H1 s ->
   wpAny 'b' X.A.in1 (call (.ref q) [u]) (λu' s'=>∃t H',u'=.int k t/\aI H1 H'/\Inv X pins' σ H' s') (λ_ _=>False) s)(done:∀u s' H1,(match cW none (vs.zip ks)with|none=>u=dv|some m=>bI m.1 u)->aI H0 H1->Inv X À σ H1 s'->Q u s'):
  wpAny 'b' X.A (call (.builtin "min") [.ref l] [("key",.ref q),("default",dv)]) Q E s:=by
 have nm:(toString "min"++toString ".loop":String)="min.loop":=by decide
 refine wpAny_call (codeAny_call_builtin F.plain_min F.entry_min ?_);simp![checkBuiltinCall,F.kind_min];let⟨its,rv,pl,hz⟩:=I.list hq;have hlt:l<s.heap.objs.size:=by
  let⟨o,n,e,_⟩:=pl;exact Heap.lt_size e
 have key:wpAny 'b' X.A.in1 (Builtin.«min» ⟨[.ref l],[("key",.ref q),("default",dv)]⟩) (λfin s'=>match fin with
   |.done f=>(match (Except.ok f:Result)with|.ok (.ret v)=>Q v s'|.ok _=>False|.error e=>E e s')
   |.again c'=>c'.quiet=true/\codeAny 'b' X.A c' (λr s'=>match r with|.ok (.ret v)=>Q v s'|.ok _=>False|.error e=>E e s') s') E s:=by
  refine(show wpAny _ X.A.in1 (Builtin.Builtins.bindParams "min" ["key","default"] 0 ⟨[],[("key",.ref q),("default",dv)]⟩ >>= _) _ _ s from wpAny_bind (wpAny_of_eq (show Builtin.Builtins.bindParams "min" ["key","default"] 0 ⟨[],[("key",.ref q),("default",dv)]⟩=pure [some (.ref q),some dv]from rfl) ?_));refine wpAny_bind (wpAny_pure (wpAny_bind (wpAny_pyIter_list pl.isList ?_)));refine wpAny_bind (wpAny_newObj_type ?_);rw[nm];have hS:(s.heap.push {cls:=.type "list_iterator",data:=.fields #[.ref l,.int 0 0]}).objs.size=s.heap.objs.size+1:=by rw[Heap.size_push]
  have I1:Inv X ((s.heap.objs.size,{cls:=.type "list_iterator",data:=.fields #[.ref l,.int 0 0]})::À) σ H0 {s with heap:=s.heap.push {cls:=.type "list_iterator",data:=.fields #[.ref l,.int 0 0]}}:=
   (I.kept (t':=s.toks) λb o e=>Heap.get?_push_of_some _ e).pinNew (Heap.get?_push_size _ rfl) (I.hok.fresh (È _)) (Þ I.lt) (I.nofs (È _)) (λv=>by simp)
  have mI:HL X À s.heap.objs.size:=I.mine (È _);have mS:HL X À (s.heap.push {cls:=.type "list_iterator",data:=.fields #[.ref l,.int 0 0]}).objs.size:=I.mine (by rw[hS];exact Nat.le_succ _);have I2:=(I1.kept (t':=s.toks) (h':=(s.heap.push {cls:=.type "list_iterator",data:=.fields #[.ref l,.int 0 0]}).push (vV none none 0)) λb o e=>Heap.get?_push_of_some _ e).pinNew (a:=(s.heap.push {cls:=.type "list_iterator",data:=.fields #[.ref l,.int 0 0]}).objs.size) (Heap.get?_push_size _ rfl) (I1.hok.fresh (È _)) (Þ I1.lt) (I1.nofs (È _)) (λv=>by simp);refine wpAny_pure ⟨plainId_quiet F.plain_min_loop _,QV (H0:=H0) (dv:=dv) hlen hh turn (λH1 sm=>sm.seq hq) mI mS (λz=>Nat.succ_ne_self _ (hS.symm.trans z)) (Ï hlt) done _ 0 _ H0 none none 0 _ rfl (í _) (by rw[List.drop_zero]) trivial (λ_ _ e=>e) rfl rfl I2⟩
 have ha:=HM (.ref l) (.ref q) dv;cases hsig:Manifest.signature? "min"with
 |none=>exact wpAny_pure key
 |some sig=>
  simp![argsOk,hsig]at ha;have h2:Bind.checkArgs "min" sig ⟨[.ref l],[("key",.ref q),("default",dv)]⟩=pure ():=ha;refine(show wpAny _ X.A.in1 (Bind.checkArgs "min" sig ⟨[.ref l],[("key",.ref q),("default",dv)]⟩) _ _ s from ?_);rw[h2];exact wpAny_pure key
end
def iB(hs:ZK):ZK->Option (ZK)
 |[]=>some []
 |n::ns=>match atI hs n,iB hs ns with
  |some k,some ks=>some (k::ks)
  |_,_=>none
def xY :∀{ns ks:ZK},iB hs ns=some ks->ks.length=ns.length
 |[],ks,h=>by cases h;rfl
 |n::ns,ks,h=>by
  unfold iB at h;split at h
  .rename_i k ks' _ e2
   cases h;simp[xY e2]
  .cases h
def B3 :∀{ns ks:ZK}{j:Nat}{n k:Int},iB hs ns=some ks->ns[j]?=some n->ks[j]?=some k->atI hs n=some k
 |m::ns,ks,j,n,k,h,e1,e2=>by
  unfold iB at h;split at h
  .rename_i k0 ks' q1 q2
   cases h;cases j with
   |zero=>cases e1;cases e2;exact q1
   |succ j=>exact B3 q2 (by simpa using e1) (by simpa using e2)
  .cases h
def WS(h:atI hs n=some k):atI (hs.map V.int) n=some (.int k):=by
 unfold atI at h⊢;rw[Å];cases e:oE hs.length n with
 |none=>rw[e]at h;cases h
 |some j=>
  rw[e]at h;have h:hs[j]?=some k:=h;show (hs.map V.int)[j]?=_;rw[Ò,h];rfl
def B4:∀{ds:ZI}{l:ZK},cQ ds=some l->ds=l.map .int
 |[],l,h=>by cases h;rfl
 |.int i::r,l,h=>by
  unfold cQ at h;cases e:cQ r with
  |none=>rw[e]at h;cases h
  |some l'=>
   rw[e]at h;cases h;rw[B4 e];rfl
 |.none::_,_,h=>by cases h
 |.bool _::_,_,h=>by cases h
 |.str _::_,_,h=>by cases h
 |.list _::_,_,h=>by cases h
 |.tuple _::_,_,h=>by cases h
 |.dict _::_,_,h=>by cases h
def wE(i:Nat)(nm fld:Str)(f:M D):M D:=λδ=>(f δ).bind λd δ1=>match d,δ1[i]? with
 |.list ds,some (some t)=>(match gL nm fld t with
  |some (.list hs)=>(match cQ hs,cQ ds with
   |some hs',some ns=>(match iB hs' ns with
    |some ks=>.ok ((cW none (ns.zip ks)).elim .none λm=>.int m.1) δ1
    |none=>.stuck)
   |_,_=>.stuck)
  |_=>.stuck)
 |_,_=>.stuck
def uV(g:α->β):∀(o:Option (α×Int))(l:List (α×Int)),cW (o.map λm=>(g m.1,m.2)) (l.map λm=>(g m.1,m.2))=(cW o l).map λm=>(g m.1,m.2)
 |o,[]=>by rw[List.map_nil,oT,oT]
 |none,y::ys=>uV g (some y) ys
 |some m,y::ys=>by
  have:=uV g (some (if y.2<m.2 then y else m)) ys;rw[Ì];show cW (some (if y.2<m.2 then (g y.1,y.2)else (g m.1,m.2))) _=_;rw[show (cW (some m) (y::ys))=cW (some (if y.2<m.2 then y else m)) ys from rfl,<- this];congr 1;split<;>rfl
def WT{K:ZC}(h:d8 K H l vs)(hP:H P=some (sU pos))(hc:H c'=some (.own P)):d8 K (pM P c' H) l vs:=by
 rcases h with (h|⟨o,h⟩)|h
 .exact .inl (.inl (by rw[iN (λz=>by rw[z,hP]at h;cases h) (λz=>by rw[z,hc]at h;cases h)];exact h))
 .exact .inl (.inr ⟨o,by rw[iN (λz=>by rw[z,hP]at h;cases h) (λz=>by rw[z,hc]at h;cases h)];exact h⟩)
 .exact .inr h
section
def QX(i:Nat)(nm:Str){pm kp kp2 p1 p2 p3 p4 cpos npos:Pos}{jj:_}(hr:fD 0 X.A)(hc:X.calm=true)(hg:Gl X "min")(hm:X.mg "min"=none)(B:sT X.K X.mg X.base)(hl:jN X.K=some (c,P,pos))(hcode:X.env.code=.ref c)(hat:V6 X.K nm fld)(ha:DE X Z ow 0 e f)(Sc:WP scope p x)(hbind:∀(u pm':Value)(c':Addr)(ctv:Value),bindArgs (W.kla_fn "<lambda>" kQ params (.Subscript (.Attribute (.Name x p1) fld p2) (.Name p p3) p4) scope [(x,cc)] pm' (.ref c') ctv) ⟨[u],[]⟩=pure [(p,u)])(hd1:(x == ("__debug__":Str))=false)(hd2:(x == ("__classdict__":Str))=false)(hd3:(p == ("__debug__":Str))=false)(hd4:(p == ("__classdict__":Str))=false)(hq:↥(X.env.qual++"<lambda>"=kQ))(hcl:↥(closureFor scope X.env=pure [(x,cc)]))(hdef:↥(defaultsOf params X.env=([],[])))(ho:↥(ow.getD i 0=0))(hN:↥(X.N[i]?=some x))(hkd:↥(X.env.scope.names.lookup x=some .cell))(hxc:↥(X.env.cells.lookup x=some cc))(hs:↥(Zse e [] X.env))(hv:bootBuiltins "min"=some (.builtin "min"):=by decide +kernel):
  DE X Z ow 0 (.Call (.Name "min" npos) [e] [⟨some "key",.Lambda params (.Subscript (.Attribute (.Name x p1) fld p2) (.Name p p3) p4) scope pos,kp⟩,⟨some "default",.Constant .none jj pm,kp2⟩] cpos) (wE i nm fld f):=λÀ s σ H Q I h=>by
 let⟨F,δ,R,h⟩:=h;unfold wE at h;refine wpAny_Call_Name_kw (hW I hg hm hv ?_ ⋯ ⋯);have a1:backTo cpos (starEach [e] X.env)=(false,eval e X.env)::backTo cpos (starEach [] X.env):=by rw[hs];rfl
 have pre:MN (tD X Z ow 0 f) Ń σ H (λvs H1=>∃l ns F1 δ1 t hs' ks,vs=[.ref l]/\cB X.K Z ow F1 H1 σ δ1/\d8 X.K F1 l (ns.map V.int)/\aI F F1/\δ1[i]?=some (some t)/\gL nm fld t=some (.list (hs'.map .int))/\iB hs' ns=some ks /\
   kD X Z ow 0 (.ok ((cW none (ns.zip ks)).elim .none λm=>.int m.1) δ1) F1 σ Q):=by
  sleep 1;cases e1:f δ with
  |stuck=>rw[e1]at h;exact h.elim
  |ok d δ1=>
   rw[e1]at h;simp![Res.bind]at h;intro v H1 F1 R1 s1;cases d with
   |list ds=>
    cases e2:δ1[i]? with
    |none=>rw[e2]at h;exact h.elim
    |some o=>
     cases o with
     |none=>rw[e2]at h;exact h.elim
     |some t=>
      rw[e2]at h;dsimp only at h;split at h
      .rename_i hs2 e3
       split at h
       .rename_i hs' ns e4 e5
        split at h
        .rename_i ks e6
         let⟨l,vs,rfl,hx,rx⟩:=jI R1.rep;rw[iY e5 rx]at hx;have e7:hs2=hs'.map .int:=B4 e4;subst e7;exact⟨l,ns,F1,δ1,t,hs',ks,rfl,R1.rel,hx,s1,e2,e3,e6,h.mono s1 λ_ _ z=>z⟩
        .exact h.elim
       .exact h.elim
      .exact h.elim
   |_=>exact h.elim
 refine callWith_kw (cA ((dO ha iP hs) cpos À s σ H _ I pre) λus s1 zQ=>?_) a1 (by rw[a1];rfl) rfl rfl;let⟨vs,H1,I1,r,q⟩:=zQ;let⟨l,ns,F1,δ1,t,hs',ks,rfl,R1,hx,s1',ht,hf,hk,hQ⟩:=q;let⟨u',rfl,rx⟩:=pO r;cases rx;let⟨g,G⟩:=R1;have hP1:F1 P=some (sU pos):=G.f0.lm c P pos hl;have hP:H1 P=some (sU pos):=G.sub _ _ hP1;let⟨vt,ev,rt⟩:=G.slot i t ht;rw[ho]at rt;have rt:bD X.K F1 t vt:=rt;let⟨a,C,dx,fs,y,rfl,f1,f2,f3,f4⟩:=NY rt hf;let⟨lk,ws,rfl,hw,rw'⟩:=jI f4;have ew:=iY iX rw';subst ew;let⟨c1,c2⟩:=hat C f2;refine kws_cons (WO I1 B hl hP hcode hq hcl hdef λfa c' ctv H2 s2 m=>kws_cons (Constant_none (kws_nil ?_)));let⟨oc,cvs,ct,e2,e3,I3⟩:=m.hide (λv=>by simp[W.kla_obj]);have up:∀{l:Addr}{vs:List V},d8 X.K F1 l vs->d8 X.K (pM P c' H2) l vs:=λh=>WT (m.same.seq (G.sub.seq h)) m.lm m.own;have upa:pM P c' H2 a=some (.ins C dx fs):=by
  have z:=m.same _ _ (G.sub _ _ f1);rw[iN (λq=>by rw[q,m.lm]at z;cases z) (λq=>by rw[q,m.own]at z;cases z)];exact z
 let⟨l1,l2,_⟩:=Sc.look;refine QW (vs:=ns.map V.int) (ks:=ks) (by rw[Å];exact xY hk) (I1.ok.hd hc) I3 (up hx) (λj v k u pins' s' H' hv hkk ru sm hsub I'=>?_) λu s' H' hu sm I'=>?_
 .rw[Ò]at hv
  cases en:ns[j]? with
  |none=>rw[en]at hv;cases hv
  |some n=>
   rw[en]at hv;cases hv;have hkey:=WS (B3 hk en hkk);refine WQ (p:=p) (k:=k) I' Sc hc hr I'.ok.frames (hsub _ Ô) (hsub _ (Ó _ Ô)) e2 e3 hN ev hkd hxc (hbind _ _ _ _) ru (GB rS (C4 (c9 (i:=1) rfl (.inr (.inr l2)) hd1 hd2) rfl) (c9 (i:=0) rfl (.inl l1) hd3 hd4) (λ_ _=>rfl)) ?_;exact⟨_,rfl,a,C,dx,fs,_,rfl,sm _ _ upa,c1,c2,f3,_,rfl,lk,hs'.map V.int,n,.int k,rfl,rfl,sm.seq (up hw),hkey,rfl,λ_ _ z=>z⟩
 .obtain⟨I4,sm4⟩:=m.show e2 e3 I' sm
  have G4:cB X.K Z ow F1 (xW P c' pos H') σ δ1:=⟨g,G.grow sm4⟩;have ez:(ns.map V.int).zip ks=(ns.zip ks).map λm=>(V.int m.1,m.2):=by
   rw[List.zip_map_left];rfl
  rw[ez]at hu;have eb:=uV V.int none (ns.zip ks);rw[Option.map_none]at eb;rw[eb]at hu;cases eb2:cW none (ns.zip ks)with
  |none=>
   rw[eb2]at hu hQ;subst hu;exact⟨.non,_,I4,rfl,hQ .non _ F1 (G4.x (by show bD X.K F1 .none .non;unfold bD;rfl)) (λ_ _ z=>z)⟩
  |some m2=>
   rw[eb2]at hu hQ;exact⟨.int m2.1,_,I4,hu,hQ (.int m2.1) _ F1 (G4.x (by show bD X.K F1 (.int m2.1) (.int m2.1);unfold bD;rfl)) (λ_ _ z=>z)⟩
end
def LB{K:ZC}{H:Hp}{a:Addr}{ns:ZK}{owp:ZH}{f:ZI->Res D}{x:Str}(hS:d8 K H a (ns.map V.int))(hf:f [.list (ns.map .int)]=.ok (.bool true) [])(hL:Z7 K H)(h0:↥(owp.getD 0 0=0)):
  SW K [x] [] owp 0 f [.ref a] H (λv H'=>v=.bl true/\aI H H') (λ_ _ _=>False):=by
 refine⟨rfl,H,λ_=>none,[.list (ns.map .int)],hL,aI.refl _,rfl,λa i p e=>(by cases e),λi d v e1 e2=>?_,by rw[hf];exact λv H' F' g' T=>⟨jO (F:=F') (K:=K) T.ret,λb o e=>T.kept b o rfl e⟩⟩
 cases i with
 |zero=>
  cases e1;cases e2;rw[h0];show bD K H _ _;unfold bD;refine⟨a,ns.map V.int,rfl,hS,?_⟩;clear hS hf
  induction ns with
  |nil=>exact iR
  |cons n ns ih=>exact fS gD ih
 |succ i=>simp at e1
def QY{K:ZC}{ns:ZK}{c PT:Addr}{pos:Pos}(KX:K.In s₁.heap)(hns:s₁.heap.Ns mainGlobals mg)(hb:s₁.heap.Ns builtinsNs mb)(hbb:∀x:Str,x≠"__name__"->mb x=bootBuiltins x)(hlim:s₁.heap.NoLimit)(hg:s₁.gens=#[])(ha:s₁.heap.get? a=some {cls:=.type "list",data:=.seq vs.toArray})(hi:IntsAre vs ns)(hl:ns.length<=sizeLine)(hr:fD k callerA)(hlam:jN K=some (c,PT,pos))(hcd:W.CodeHd s₁.heap c PT)(hPT:s₁.heap.get? PT=some (W.tabObj #[]))(hnt:W.noTabs K=true)(hbm:∃bm ob,mg "__builtins__"=some (.ref bm)/\bm≠builtinsNs/\s₁.heap.get? bm=some ob/\ob.cls=.type "module"/\ob.dict=some builtinsNs/\ob.data=.plain)(F:∀base:Heap,K.In base->base.Ns mainGlobals mg->sT K mg base->qH P w K mg base CX k fa fd [x] sp)(hbind:∀(s:Shared)(u:Value),BindsTo s fd ⟨[u],[]⟩ [(x,u)])(hsp:∀H:Hp,Z7 K H->d8 K H a (ns.map V.int)->sp [.ref a] H (λv H'=>v=.bl true/\aI H H') λ_ _ _=>False)(hCX:∀H e s',CX [] H s₁ (λ_ _ _=>False) e s'->False):
  codeAny (model P w) callerA (.call (.ref fa) ⟨[.ref a],[]⟩) (λr s'=>r=.ok (.ret (.bool true))/\OldK s₁.heap s'.heap/\s'.os=s₁.os/\AllBare s'.gens) s₁:=by
 have rv:=BG hi;have lenV:=hi.length;have haP:a≠PT:=λz=>by rw[z,hPT]at ha;cases ha
 have hKP:K.lookup PT=none:=by
  cases q:K.lookup PT with
  |none=>rfl
  |some o=>
   have e:=KX PT o q;rw[hPT]at e;cases e;have h2:=ï.mp hnt (PT,_) (W.mem_of_lookupK q);exact absurd (show false=true from h2) á
 have core:∀H:Hp,H PT=some (sU pos)->d8 K H a (ns.map V.int)->oB P w H s₁.heap->(∀b u,H b=some u->(b=PT/\u=sU pos)\/(b=a/\u=.frz {cls:=.type "list",data:=.seq vs.toArray} (.lst (ns.map V.int))/\K.lookup a=none)) ->
   codeAny (model P w) callerA (.call (.ref fa) ⟨[.ref a],[]⟩) (λr s'=>r=.ok (.ret (.bool true))/\OldK s₁.heap s'.heap/\s'.os=s₁.os/\AllBare s'.gens) s₁:=by
  intro H hO hS hok hA;have base_of:∀{b:Addr}{o:Obj},s₁.heap.get? b=some o->H b=none->(AL s₁.heap H).get? b=some o:=λe n=>S4 e n;have noA:∀{b:Addr}{o:Obj},s₁.heap.get? b=some o->(∀z,o.data≠.seq z 0)->o.cls≠.none->H b=none:=λ{b o}e d d2=>by
   cases q:H b with
   |none=>rfl
   |some u=>
    rcases hA b u q with ⟨rfl,_⟩|⟨rfl,_⟩
    .rw[hPT]at e;cases e;exact absurd rfl d2
    .rw[ha]at e;cases e;exact absurd rfl (d vs.toArray)
  have nsK:∀{b:Addr}{m:ZD},s₁.heap.Ns b m->(AL s₁.heap H).Ns b m:=λ{b m}⟨o,es,ep,e,d,r⟩=>⟨o,es,ep,base_of e (by
   cases q:H b with
   |none=>rfl
   |some u=>
    rcases hA b u q with ⟨rfl,_⟩|⟨rfl,_⟩
    .rw[hPT]at e;cases e;cases d
    .rw[ha]at e;cases e;cases d),d,r⟩
  have hKb:K.In (AL s₁.heap H):=λb o e=>base_of (KX b o e) (by
   cases q:H b with
   |none=>rfl
   |some u=>
    rcases hA b u q with ⟨rfl,_⟩|⟨rfl,_,z⟩
    .rw[hKP]at e;cases e
    .rw[z]at e;cases e)
  have hM:Mod K mg (AL s₁.heap H):=⟨hKb,nsK hns,⟨mb,nsK hb,hbb⟩,let ⟨mc,h1,h2⟩:=hlim;⟨mc,nsK h1,h2⟩⟩
  have hB:sT K mg (AL s₁.heap H):=by
   refine⟨?_,λc2 P2 pos2 e=>?_⟩
   .obtain⟨bm,ob,b1,b2,b3,b4,b5,b6⟩:=hbm
    exact⟨bm,ob,b1,b2,base_of b3 (noA b3 (λz=>by rw[b6];simp) (by rw[b4];simp)),b4,b5,b6⟩
   .rw[hlam]at e;cases e
    let⟨o,vs,file,tf,flags,tg,Ϲ,text,tt,e1,e2,e3,r⟩:=hcd;exact⟨o,vs,file,tf,flags,tg,Ϲ,text,tt,base_of e1 (noA e1 (λz=>by rw[e3];simp) (by rw[e2];simp)),e2,e3,r⟩
  have e0:KH P w K mg (AL s₁.heap H) callerA [] s₁ H:=⟨rfl,hM,λb o e=>aAF e,ú (PQ _ _),trivial,λb hb=>absurd (show b∈([]:ZM)from hb) 'f',hok,.of_eq hg⟩;have hLm:Z7 K H:=λc2 P2 pos2 e=>by rw[hlam]at e;cases e;exact hO
  refine codeAny_mono ((F _ hKb (nsK hns) hB).run callerA [] s₁ H ⟨[.ref a],[]⟩ [.ref a] [.ref a] _ _ hr e0 (hbind s₁ (.ref a)) (.cons rfl .nil) (hsp H hLm hS)) λr s' h=>?_;cases r with
  |error e=>exact(hCX H e s' h).elim
  |ok fl=>
   cases fl with
   |next=>exact False.elim h
   |brk=>exact False.elim h
   |cont=>exact False.elim h
   |ret u=>
    let⟨v,H',os,bare,un,hok',r',q⟩:=h;let⟨q',sm⟩:=q;subst q';obtain rfl:u=Value.bool true:=r';refine⟨rfl,⟨λb o e=>?_,λb o e=>un.there b o e 'f'⟩,os,bare⟩;cases q:H b with
    |none=>exact .inl (un.keep b o e q (by intro z;exact absurd (show b∈([]:ZM)from z) 'f') 'f')
    |some u=>
     rcases hA b u q with ⟨rfl,rfl⟩|⟨rfl,rfl,_⟩
     .rw[hPT]at e;cases e
      let⟨ps,e1,_⟩:=hok' _ _ (sm _ _ q);exact .inr (.inl ⟨(hcd.tab hPT).isCodeTable,rfl,#[],ps,rfl,by rw[e1];simp⟩)
     .obtain⟨e2,_⟩:=hok' _ _ (sm _ _ q)
      rw[ha]at e;cases e;exact .inl e2
 cases hk:K.lookup a with
 |some o=>
  have e:=KX a o hk;rw[ha]at e;cases e;refine core (λb=>if b=PT then some (sU pos)else none) (Â rfl) (.inr ⟨_,vs.toArray,_,hk,rfl,rfl,rfl,by rw[é,lenV];exact hl,by simpa using rv⟩) (λb u z=>?_) λb u z=>?_
  .by_cases hb:b=PT
   .have z':=(Â hb).symm.trans z
    cases z';subst hb;exact⟨_,hPT,.inl rfl⟩
   .have z':=(Ã hb).symm.trans z
    cases z'
  .by_cases hb:b=PT
   .have z':=(Â hb).symm.trans z
    cases z';exact .inl ⟨hb,rfl⟩
   .have z':=(Ã hb).symm.trans z
    cases z'
 |none=>
  have eq1:∀b u,(if b=PT then some (sU pos)else if b=a then some (HO.frz {cls:=.type "list",data:=.seq vs.toArray} (.lst (ns.map V.int)))else none)=some u->(b=PT/\u=sU pos)\/(b=a/\u=.frz {cls:=.type "list",data:=.seq vs.toArray} (.lst (ns.map V.int))):=λb u z=>by
   split at z
   .rename_i h;cases z;exact .inl ⟨h,rfl⟩
   .split at z
    .rename_i h;cases z;exact .inr ⟨h,rfl⟩
    .cases z
  refine core (λb=>if b=PT then some (sU pos)else if b=a then some (.frz {cls:=.type "list",data:=.seq vs.toArray} (.lst (ns.map V.int)))else none) (Â rfl) (.inl (.inr ⟨{cls:=.type "list",data:=.seq vs.toArray},by dsimp only;rw[Ã haP,Â rfl]⟩)) (λb u z=>?_) λb u z=>?_
  .rcases eq1 b u z with ⟨rfl,rfl⟩|⟨rfl,rfl⟩
   .exact⟨_,hPT,.inl rfl⟩
   .exact⟨ha,by rw[Å];exact hl,vs,_,rv,ha⟩
  .rcases eq1 b u z with h|⟨h1,h2⟩
   .exact .inl h
   .exact .inr ⟨h1,h2,hk⟩
def QZ{K:ZC}(h:jN K=some (c,P,pos)):W.tabIn K mZ=some (c,P):=by
 unfold jN at h;split at h
 .split at h
  .split at h
   .rename_i e
    split at h
    .cases h;exact e
    .cases h
   .cases h
  .cases h
 .cases h
def walk_ofL{l:W.OpenLaw}{n k:Nat}{q:Program}{loose:ZG}{XP:(ZD)->Heap->Prop}{YP:World->Heap->Prop}{d dl:DefRec}{K:Params->ZC}{CX:World->SR}{sp:World->Sp}{x:Str}(hn:l.most=some n)(hn2:n<=sizeLine)(hdf:d.params.defaults=[])(hr:fD k callerA)(hY:∀(w:World)(h:Heap),YP w h->(K w.params).In h)(hrec:(recsOf q).find? (λe=>e.name == mZ)=some dl)(F:∀(w:World)(mg:ZD)(fa:Addr)(h:Heap),(K w.params).In h->h.Ns mainGlobals mg->mg d.name=some (.ref fa) ->
   (W.noTabs (K w.params)=true/\∃c P pos,jN (K w.params)=some (c,P,pos))/\∃fd:FuncData,(∀(s:Shared)(u:Value),BindsTo s fd ⟨[u],[]⟩ [(x,u)]) /\
    ∀base:Heap,(K w.params).In base->base.Ns mainGlobals mg->sT (K w.params) mg base->qH l.prog w (K w.params) mg base (CX w) k fa fd [x] (sp w))(hsp:∀(w:World)(H:Hp)(a:Addr)(ns:ZK),ns.length<=n->Z7 (K w.params) H->d8 (K w.params) H a (ns.map V.int)->sp w [.ref a] H (λv H'=>v=.bl true/\aI H H') λ_ _ _=>False)(hCX:∀(w:World)(H:Hp)(s:Shared)(e:Value)(s':Shared),CX w [] H s (λ_ _ _=>False) e s'->False):
  W.WalkO q loose XP YP l.row.toRowW d [] (λf vs=>PySem.call f vs):=by
 refine Att.attach_call hn hdf λw s₀ s₁ mg mb fa o pm cd doc a vs ns G Y ho hd hcd hmg hobj hints hlen hg=>?_;have KX:=hY w _ Y;let⟨⟨hnt,c,P,pos,hlam⟩,fd,hb,hF⟩:=F w mg fa _ KX G.T.g hmg;let⟨t1,t2⟩:=W.tab_of G.T KX hrec (QZ hlam);exact QY KX G.T.g G.T.b G.T.builtins G.T.nolimit hg hobj hints (Ü hlen hn2) hr hlam t1 t2 hnt G.T.bmain hF hb (λH hO hS=>hsp w H a ns hlen hO hS) λH e s'=>hCX w H s₁ e s'
def WU(s:Stmt)(k:Nat):Stmt:=match s with
 |.ClassDef _ _ _ b _ _ _ _ _ _ _=>b.getD k (.Pass ⟨0,0,0,0⟩)
 |s=>s
def xZ{K:ZC}(n:W.nsIn K mainGlobals nm=some (some (.ref C)))(c:SQ K C)(h:lM K C f):V6 K nm f:=λC' e=>by
 rw[n]at e;cases e;exact⟨c,h⟩
def WV{K:ZC}(a:W.nsIn K mainGlobals mZ=some (some (.ref f)))(l:K.lookup f=some ⟨oc,od,.func fd,sl⟩)(hb:fd.body=.stmts b)(t:W.tabIn K mZ=some (c,P))(hp:DG b=some pos):jN K=some (c,P,pos):=by
 unfold jN;rw[a];dsimp only;rw[l];dsimp only;rw[hb,t];dsimp only;rw[hp]
def WW{K:ZC}(a:W.nsIn K mainGlobals x=some (some (.ref f)))(l:K.lookup f=some ⟨oc,od,.func fd,sl⟩)(e:fd.code=.ref c)(lk:K.lookup c=some ⟨coc,cod,.fields cvs,csl⟩)(lv:(cvs[11]?:ZN)=some (.ref P)):W.tabIn K x=some (c,P):=by
 unfold W.tabIn;rw[a];dsimp only;rw[l];dsimp only;rw[e];dsimp only;rw[lk];dsimp only;rw[lv]
def WX{K:ZC}{st:Stmt}(a:W.nsIn K mainGlobals mZ=some (some (.ref f)))(F:SU K x q st f fd)(e:fd.code=.ref c)(lk:K.lookup c=some ⟨coc,cod,.fields cvs,csl⟩)(lv:(cvs[11]?:ZN)=some (.ref P))(hp:DG (dQ st)=some pos):jN K=some (c,P,pos):=by
 let⟨oc,od,kV,doc,pm,an,cdv,ct,osl,e1,l,_⟩:=F.ex;exact WV a l (by rw[e1]) (WW a l e lk lv) hp
end L2
namespace L2
open PySem PySem.Spec
def B5(c:Nat)(nm f:Str):D->ZL
 |.dict ((.none,.str n)::Á)=>if n=nm/\ch c (pJ f Á)=0 then l7 f Á else none
 |_=>none
def nH(c n:Nat)(nm f:Str)(y:D):D->ZL
 |.dict ((.none,.str m)::Á)=>if m=nm/\ch c (pJ f Á)=n/\Á.length<1000 then some (.dict ((.none,.str m)::p6 f y Á))else none
 |_=>none
def yA(c:Nat)(nm f:Str)(k v:D):D->ZL
 |.dict ((.none,.str m)::Á)=>if m=nm/\ch c (pJ f Á)=1 then (match l7 f Á,k with
  |some (.list ds),.int k=>(match oE ds.length k with
   |some j=>some (.dict ((.none,.str m)::p6 f (.list (ds.set j v)) Á))
   |none=>none)
  |_,_=>none)else none
 |_=>none
def yB(nm m:Str):D->Prop
 |.dict ((.none,.str n)::Á)=>n=nm/\l7 m Á=none
 |_=>False
def WY(o:Option (ZI))(nm:Str)(fn:ZI->Res D)(δ:DS)(Q:D->ZO)(_w:Wt Q:=⟨⟩):Prop:=∃ds d,o=some ds/\fn (dN nm [] []::ds)=.ok .none [some d]/\Q d δ
def yC(k v:D):D->ZL
 |.dict Á=>(match dE k with
  |some ky=>if Á.length<sizeLine then some (.dict (LA ky v Á))else none
  |none=>none)
 |_=>none
def dctD':D->Bool
 |.dict Á=>Á.all λkv=>(dE kv.1).isSome
 |_=>false
def OA(x k z:D):ZL:=match x with
 |.dict Á=>(match dE k with
  |some ky=>some ((jR ky Á).getD z)
  |none=>none)
 |_=>none
def HN(nm fld:Str)(d t:D):ZL:=match d with
 |.list ds=>(match gL nm fld t with
  |some (.list hs)=>(match cQ hs,cQ ds with
   |some hs',some ns=>(match iB hs' ns with
    |some ks=>some ((cW none (ns.zip ks)).elim .none λm=>.int m.1)
    |none=>none)
   |_,_=>none)
  |_=>none)
 |_=>none
def Ī(ds:ZI):ZL:=match kR ds with
 |some (lo,n)=>if n<=sizeLine then some (.list (jH lo n))else none
 |none=>none
section
def aCL:HC i c nm f δ=(match δ[i]? with
 |some (some d)=>(match B5 c nm f d with
  |some r=>Res.ok r δ
  |none=>.stuck)
 |_=>.stuck):=by
 unfold HC;cases δ[i]? with
 |none=>rfl
 |some o=>
  cases o with
  |none=>rfl
  |some d=>
   cases d<;>try rfl
   rename_i Á;cases Á with
   |nil=>rfl
   |cons kv Á=>
    let⟨k,v⟩:=kv;cases k<;>try rfl
    cases v<;>try rfl
    rename_i x;show _=(match (if x=nm/\ch c (pJ f Á)=0 then l7 f Á else none)with|some r=>Res.ok r δ|none=>.stuck);dsimp only;by_cases h:x=nm/\ch c (pJ f Á)=0
    .rw[Â h,Â h]
     try (cases l7 f Á<;>rfl)
    .rw[Ã h,Ã h]
def EJ:aU (HC i c nm f) δ Q=gK δ[i]? δ λd δ=>vT (B5 c nm f d) δ Q:=by
 unfold aU gK vT;rw[aCL];cases δ[i]? with
 |none=>rfl
 |some o=>
  cases o with
  |none=>rfl
  |some d=>
   dsimp only;cases B5 c nm f d with
   |none=>rfl
   |some r=>rfl
def aCM:sL i c n nm f fe δ=(fe δ).bind λy δ1=>(match δ1[i]? with
 |some (some d)=>(match nH c n nm f y d with
  |some r=>Res.ok Fl.next (δ1.set i (some r))
  |none=>.stuck)
 |_=>.stuck):=by
 unfold sL;congr 1;funext y δ1;cases δ1[i]? with
 |none=>rfl
 |some o=>
  cases o with
  |none=>rfl
  |some d=>
   cases d<;>try rfl
   rename_i Á;cases Á with
   |nil=>rfl
   |cons kv Á=>
    let⟨k,v⟩:=kv;cases k<;>try rfl
    cases v<;>try rfl
    rename_i x;show _=(match (if x=nm/\ch c (pJ f Á)=n/\Á.length<1000 then some (PyData.dict ((.none,.str x)::p6 f y Á))else none)with|some r=>Res.ok Fl.next (δ1.set i (some r))|none=>.stuck);dsimp only;by_cases h:x=nm/\ch c (pJ f Á)=n/\Á.length<1000
    .rw[Â h,Â h]
    .rw[Ã h,Ã h]
def yD:bN (sL i c n nm f fe) δ N B C R=aU fe δ λy δ1=>gK δ1[i]? δ1 λd δ1=>vT (nH c n nm f y d) δ1 λd' δ1=>N (δ1.set i (some d')):=by
 unfold bN aU gK vT;rw[aCM];cases fe δ with
 |stuck=>rfl
 |ok y δ1=>
  dsimp![Res.bind];cases δ1[i]? with
  |none=>rfl
  |some o=>
   cases o with
   |none=>rfl
   |some d=>
    dsimp only;cases nH c n nm f y d with
    |none=>rfl
    |some r=>rfl
def aCN:sM i c nm f fk fv δ=(fv δ).bind λv δ1=>(match fk δ1 with
 |.ok k _=>(match δ1[i]? with
  |some (some d)=>(match yA c nm f k v d with
   |some r=>Res.ok Fl.next (δ1.set i (some r))
   |none=>.stuck)
  |_=>.stuck)
 |_=>.stuck):=by
 unfold sM;congr 1;funext v δ1;have dead:∀(o:Option (ZL))(rk:Res D),(∀k dd,rk≠.ok k dd)->(match o,rk with
  |some (some (.dict ((.none,.str m)::Á))),.ok (.int k) _=>if m=nm/\ch c (pJ f Á)=1 then (match l7 f Á with
   |some (.list ds)=>(match oE ds.length k with
    |some j=>Res.ok Fl.next (δ1.set i (some (.dict ((.none,.str m)::p6 f (.list (ds.set j v)) Á))))
    |none=>.stuck)
   |_=>.stuck)else .stuck
  |_,_=>(Res.stuck:Res Fl))=.stuck:=λo rk h=>by
  split
  .exact absurd rfl (h _ _)
  .rfl
 cases e:fk δ1 with
 |stuck=>exact dead _ _ (λ_ _ z=>by cases z)
 |ok kk dd=>
  cases δ1[i]? with
  |none=>rfl
  |some o=>
   cases o with
   |none=>rfl
   |some d=>
    cases d<;>try rfl
    rename_i Á;cases Á with
    |nil=>rfl
    |cons kv Á=>
     let⟨k,w⟩:=kv;cases k<;>try rfl
     cases w<;>try rfl
     rename_i x;show _=(match (if x=nm/\ch c (pJ f Á)=1 then (match l7 f Á,kk with
      |some (.list ds),.int k=>(match oE ds.length k with
       |some j=>some (PyData.dict ((.none,.str x)::p6 f (.list (ds.set j v)) Á))
       |none=>none)
      |_,_=>none)else none)with
      |some r=>Res.ok Fl.next (δ1.set i (some r))
      |none=>.stuck)
     by_cases h:x=nm/\ch c (pJ f Á)=1
     .rw[Â h]
      cases kk with
      |int k=>
       dsimp only;rw[Â h];cases l7 f Á with
       |none=>rfl
       |some r=>
        cases r with
        |list ds=>
         dsimp only;cases oE ds.length k<;>rfl
        |_=>rfl
      |_=>
       dsimp only;cases l7 f Á with
       |none=>rfl
       |some r=>cases r<;>rfl
     .rw[Ã h]
      cases kk with
      |int k=>dsimp only;rw[Ã h]
      |_=>rfl
def WZ:bN (sM i c nm f fk fv) δ N B C R=aU fv δ λv δ1=>aU fk δ1 λk _=>gK δ1[i]? δ1 λd δ1=>vT (yA c nm f k v d) δ1 λd' δ1=>N (δ1.set i (some d')):=by
 unfold bN aU gK vT;rw[aCN];cases fv δ with
 |stuck=>rfl
 |ok y δ1=>
  dsimp![Res.bind];cases fk δ1 with
  |stuck=>rfl
  |ok k δ2=>
   dsimp only;cases δ1[i]? with
   |none=>rfl
   |some o=>
    cases o with
    |none=>rfl
    |some d=>
     dsimp only;cases yA c nm f k y d with
     |none=>rfl
     |some r=>rfl
def EK:xO i nm m fn as δ=(match δ[i]? with
 |some (some d)=>open Classical in if yB nm m d then iU fn (.own i::as) δ else .stuck
 |_=>.stuck):=by
 unfold xO;cases δ[i]? with
 |none=>rfl
 |some o=>
  cases o with
  |none=>rfl
  |some d=>
   cases d<;>try (exact(Ã (λz:False=>z)).symm)
   rename_i Á;cases Á with
   |nil=>exact(Ã (λz:False=>z)).symm
   |cons kv Á=>
    let⟨k,w⟩:=kv;cases k<;>try (exact(Ã (λz:False=>z)).symm)
    cases w<;>try (exact(Ã (λz:False=>z)).symm)
    rename_i x;dsimp only;by_cases h:x=nm/\l7 m Á=none
    .rw[Â h,Â (show yB nm m (.dict ((.none,.str x)::Á))from h)]
    .rw[Ã h,Ã (show ¬yB nm m (.dict ((.none,.str x)::Á))from h)]
def aIS:aU (xO i nm m fn as) δ Q=gK δ[i]? δ λd δ=>yB nm m d/\aU (iU fn (.own i::as)) δ Q:=by
 rw[l6];unfold EA;cases e:δ[i]? with
 |none=>unfold aU;rw[EK,e];simp
 |some o=>
  cases o with
  |none=>unfold aU;rw[EK,e];simp
  |some d=>
   simp![Option.some.injEq,exists_eq_left'];unfold aU;rw[EK,e];dsimp only;by_cases h:yB nm m d
   .rw[Â h];simp[h]
   .rw[Ã h];simp[h]
def aIT:aU (HE m0 nm fn as) δ Q=aU (dH as) δ λods δ1=>δ1.length=m0/\WY (eZ δ1 as ods) nm fn δ1 Q:=by
 unfold aU HE WY;cases dH as δ with
 |stuck=>rfl
 |ok ods δ1=>
  simp![Res.bind];by_cases h:δ1.length=m0
  .rw[Â h]
   simp![h,true_and];cases eZ δ1 as ods with
   |none=>simp
   |some ds=>
    simp![Option.some.injEq,exists_and_left,exists_eq_left'];cases e:fn (dN nm [] []::ds)with
    |stuck=>simp
    |ok d os=>
     refine propext ⟨λz=>?_,λ⟨d2,z,q⟩=>?_⟩
     .split at z
      .rename_i y
       split at y
       .rename_i y2;cases y2;cases y;exact⟨_,rfl,z⟩
       .cases y
      .exact z.elim
     .cases z;exact q
  .rw[Ã h];simp[h]
def yE:bN (N6 i fk fv) δ N B C R=aU fv δ λv δ1=>gK δ1[i]? δ1 λ_ δ1=>aU fk δ1 λk δ2=>gK δ2[i]? δ2 λd δ2=>vT (yC k v d) δ2 λd' δ2=>N (δ2.set i (some d')):=by
 rw[l6,i6];unfold bN N6 aU EA SZ;cases fv δ with
 |stuck=>rfl
 |ok v δ1=>
  simp![Res.bind];cases δ1[i]? with
  |none=>simp
  |some o=>
   cases o with
   |none=>simp
   |some d0=>
    simp![Option.some.injEq,exists_eq_left'];cases fk δ1 with
    |stuck=>rfl
    |ok k δ2=>
     simp![Res.bind];cases δ2[i]? with
     |none=>simp
     |some o=>
      cases o with
      |none=>simp
      |some d=>
       simp![Option.some.injEq,exists_eq_left'];unfold yC;cases d with
       |dict Á=>
        dsimp only;cases dE k with
        |none=>simp
        |some ky=>
         dsimp only;by_cases h:Á.length<sizeLine
         .rw[Â h];simp[h]
         .rw[Ã h];simp[h]
       |_=>simp
def W0:aU (N7 fx fk fz) δ Q=aU fx δ λx δ1=>dctD' x=true/\aU fk δ1 λk δ2=>aU fz δ2 λz δ3=>vT (OA x k z) δ3 Q:=by
 unfold aU N7 vT;cases fx δ with
 |stuck=>rfl
 |ok x δ1=>
  dsimp![Res.bind];cases x with
  |dict Á=>
   dsimp![dctD',OA];by_cases h:(Á.all λkv=>(dE kv.1).isSome)=true
   .rw[Â h]
    simp![h,true_and];cases fk δ1 with
    |stuck=>rfl
    |ok k δ2=>
     dsimp![Res.bind];cases fz δ2 with
     |stuck=>rfl
     |ok z δ3=>
      dsimp![Res.bind];cases dE k with
      |none=>rfl
      |some ky=>rfl
   .rw[Ã h];simp[h]
  |_=>simp[dctD']
def W1:aU (wE i nm f fe) δ Q=aU fe δ λd δ1=>gK δ1[i]? δ1 λt δ1=>vT (HN nm f d t) δ1 Q:=by
 rw[l6,i6];unfold aU wE EA SZ;cases fe δ with
 |stuck=>rfl
 |ok d δ1=>
  simp![Res.bind];cases d with
  |list ds=>
   cases δ1[i]? with
   |none=>simp
   |some o=>
    cases o with
    |none=>simp
    |some t=>
     simp![Option.some.injEq,exists_eq_left'];unfold HN;dsimp only;cases gL nm f t with
     |none=>simp
     |some r=>
      cases r with
      |list hs=>
       dsimp only;cases cQ hs with
       |none=>simp
       |some hs'=>
        cases cQ ds with
        |none=>simp
        |some ns=>
         dsimp only;cases iB hs' ns with
         |none=>simp
         |some ks=>simp
      |_=>simp
  |_=>simp[HN]
def aIU:aU (B2 fs) δ Q=aU (bA fs) δ λds δ1=>vT (Ī ds) δ1 Q:=by
 rw[i6];unfold aU B2 SZ Ī;cases bA fs δ with
 |stuck=>rfl
 |ok ds δ1=>
  simp![Res.bind];cases kR ds with
  |none=>simp
  |some p=>
   let⟨lo,n⟩:=p;dsimp only;by_cases h:n<=sizeLine
   .rw[Â h];simp[h]
   .rw[Ã h];simp[h]
def Q0(d:D)(δ:DS)(Q:D->ZO)(_w:Wt Q:=⟨⟩):Prop:=(K0 d).isSome=true/\Q d δ
def yF:aU (QH fe) δ Q=aU fe δ λd _=>Q0 d δ Q:=by
 unfold aU QH Q0;cases fe δ with
 |stuck=>rfl
 |ok d δ1=>
  dsimp only;cases K0 d with
  |none=>simp
  |some v=>simp
def W3{i:Int}:Q0 (.int i) δ Q=Q (.int i) δ:=by unfold Q0;simp[K0]
def aIV:Q0 .none δ Q=Q .none δ:=by unfold Q0;simp[K0]
end
end L2
namespace PySem
namespace F
end F
section
end
end PySem
namespace L2
open PySem PySem.Spec PyProof.Rows
section
end
def ŝ{P:ZJ->Prop}{us:ZJ}{n:Nat}(hl:us.length=n+1)(h:∀x xs,xs.length=n->P (x::xs)):P us:=by
 cases us with
 |nil=>cases hl
 |cons x xs=>exact h x xs (Nat.succ.inj hl)
def aPW{P:ZJ->Prop}{us:ZJ}(hl:us.length=0)(h:P []):P us:=by
 rw[List.length_eq_zero_iff.mp hl];exact h
def Ϻ{P:ZJ->Prop}{us:ZJ}(hl:us.length=1)(h:∀a,P [a]):P us:=ŝ hl λa _ hl=>aPW (P:=λus=>P (a::us)) hl (h a)
def ϻ{P:ZJ->Prop}{us:ZJ}(hl:us.length=2)(h:∀a b,P [a,b]):P us:=ŝ hl λa _ hl=>Ϻ (P:=λus=>P (a::us)) hl (h a)
def aPB{P:ZJ->Prop}{us:ZJ}(hl:us.length=3)(h:∀a b c,P [a,b,c]):P us:=ŝ hl λa _ hl=>ϻ (P:=λus=>P (a::us)) hl (h a)
def aPX{P:ZJ->Prop}{us:ZJ}(hl:us.length=4)(h:∀a b c d,P [a,b,c,d]):P us:=ŝ hl λa _ hl=>aPB (P:=λus=>P (a::us)) hl (h a)
def aPC{ps:ZG}(hl:us.length=1)(h:∀a,bindArgs fd ⟨[a],[]⟩=pure (ps.zip [a])):bindArgs fd ⟨us,[]⟩=pure (ps.zip us):=Ϻ (P:=λus=>bindArgs fd ⟨us,[]⟩=pure (ps.zip us)) hl h
def aPD{ps:ZG}(hl:us.length=2)(h:∀a b,bindArgs fd ⟨[a,b],[]⟩=pure (ps.zip [a,b])):bindArgs fd ⟨us,[]⟩=pure (ps.zip us):=ϻ (P:=λus=>bindArgs fd ⟨us,[]⟩=pure (ps.zip us)) hl h
def aPE{ps:ZG}(hl:us.length=3)(h:∀a b c,bindArgs fd ⟨[a,b,c],[]⟩=pure (ps.zip [a,b,c])):bindArgs fd ⟨us,[]⟩=pure (ps.zip us):=aPB (P:=λus=>bindArgs fd ⟨us,[]⟩=pure (ps.zip us)) hl h
def aPF{ps:ZG}(hl:us.length=4)(h:∀a b c d,bindArgs fd ⟨[a,b,c,d],[]⟩=pure (ps.zip [a,b,c,d])):bindArgs fd ⟨us,[]⟩=pure (ps.zip us):=aPX (P:=λus=>bindArgs fd ⟨us,[]⟩=pure (ps.zip us)) hl h
section
variable {P:Program}{w:World}{K:ZC}{mg:ZD}{base:Heap}{x qual:Str}{st:Stmt}{N:ZG}{k lev rm:Nat}{ps owp:ZH}{body:M Fl}
structure Fd(K:ZC)(x qual:Str)(st:Stmt)(N:ZG)(k:Nat) where
 f:Addr
 fd:FuncData
 F:SU K x qual st f fd
 b:pQ K fd (N.take k) []
structure Fg(K:ZC)(mg:ZD)(x:Str)(st:Stmt)(N:ZG)(k:Nat) extends Fd K x x st N k where
 m:mg x=some (.ref f)
abbrev Fd.Ok(X:Fd K x qual st N k)(P:Program)(w:World)(mg:ZD)(base:Heap)(lev:Nat)(ps owp:ZH)(rm:Nat)(d:ZI->Res D):Prop:=qH P w K mg base (FP P w K) lev X.f X.fd (N.take k) (SW K (N.take k) ps owp rm d)
def Fd.okD(X:Fd K x qual st N k)(S:jM N (N.take k) (bC st))(hb:∀{cdv:Value}{A:Around}{outer:List Env}{s:Shared}{H:Hp}{E:XK}{F0:Hp}{g0:ZP}{σ0:St}{wf:∀a i q,g0 a=some (i,q)->i∈ps}(_:X.fd.code=cdv)(_:fD lev (A.deeper (envOfC qual (bC st) s.heap.objs.size X.f cdv))),
   BI (v4 (FP P w K) P w K mg base N qual (bC st) X.f cdv A outer s H E) ⟨F0,H,g0,ps,σ0,owp,wf⟩ owp owp owp owp rm (dQ st) body)(hN:↥(owp.length=N.length)):X.Ok P w mg base (lev+1) ps owp rm (aR N.length ps rm body):=
 X.F.okD S hN λ_ hcd _ _ _ _ _ _ _ _ _ hr=>⟨owp,hb hcd hr⟩
def Fd.okE(X:Fd K x qual st N k)(owe:ZH)(S:jM N (N.take k) (bC st))(hb:∀{cdv:Value}{A:Around}{outer:List Env}{s:Shared}{H:Hp}{E:XK}{F0:Hp}{g0:ZP}{σ0:St}{wf:∀a i q,g0 a=some (i,q)->i∈ps}(_:X.fd.code=cdv)(_:fD lev (A.deeper (envOfC qual (bC st) s.heap.objs.size X.f cdv))),
   BI (v4 (FP P w K) P w K mg base N qual (bC st) X.f cdv A outer s H E) ⟨F0,H,g0,ps,σ0,owp,wf⟩ owp owe owe owe rm (dQ st) body)(hN:↥(owp.length=N.length)):X.Ok P w mg base (lev+1) ps owp rm (aR N.length ps rm body):=
 X.F.okD S hN λ_ hcd _ _ _ _ _ _ _ _ _ hr=>⟨owe,hb hcd hr⟩
def ĸ(N:ZG)(k:Nat)(sc:Scope):Bool:=(match sc.kind with|.function=>true|_=>false) && !sc.isCoroutine && !sc.isGenerator && decide N.Nodup && (N.take k).all (λx=>match sc.names.lookup x with|some .local=>true|some .cell=>true|_=>false) && sc.names.all (λy=>match y.2 with|.free=>false|_=>true)
def HP(h:ĸ N k sc=true):jM N (N.take k) sc:=by
 unfold ĸ at h;simp![æ,Bool.not_eq_true',decide_eq_true_eq,ï]at h;let⟨⟨⟨⟨⟨h1,h2⟩,h3⟩,h4⟩,h5⟩,h6⟩:=h;refine⟨?_,h2,h3,h4,?_,λx hx=>?_,λy hy e=>?_⟩
 all_goals grind
def aLV{h:Heap}{f:Addr}{oc:Value}{od an:Option Addr}{osl:Array (ZN)}{kV doc pm cdv ct:Value}(X:K.In h)(G:h.Ns mainGlobals mg)(a:W.nsIn K mainGlobals x=some (some (.ref f)))(l:K.lookup f=some ⟨oc,od,.func (W.fnOf x x (oG st) (dQ st) (bC st) .none kV doc pm an cdv ct),osl⟩)(c:W.codeIn K cdv x=true)(k':W.keepIn K (.ref f)=true)(hb:∀(kV doc pm:Value)(an:Option Addr)(cdv ct:Value)(us:ZJ),us.length=(N.take k).length->bindArgs (W.fnOf x x (oG st) (dQ st) (bC st) .none kV doc pm an cdv ct) ⟨us,[]⟩=pure ((N.take k).zip us)):(Fg K mg x st N k):=
 ⟨⟨f,_,KM l c k',(KM l c k').binds hb⟩,W.mg_of X G a⟩
def OB(X:K.In h)(G:h.Ns mainGlobals mg)(a:W.nsIn K mainGlobals x=some (some (.int v t))):∃t,mg x=some (.int v t):=⟨t,W.mg_of X G a⟩
def aB{pos p:Pos}(Y:Fg X.K X.mg x st N k)(Fk:Y.Ok X.prog X.w X.mg X.base lev ps owp rm fn)(hr:fD k1 X.A)(ha:DA X Z ow (e::es) as)(hk:⇑(lev<=k1))(S:aP Z ow:=by exact aG)(hg:Gl X x:=by exact rfl)(hl:↥(as.length=(N.take k).length))(hps:↥(fW 0 as=ps))(nd:↥(decide (aY as).Nodup=true))(hm:↥(fI owp ow 0 as=true))(hlt:⇑(as.length<=1000))(hdb:⇑(Zdb x))(he:↥(Zse e es X.env))(hpl:↥(Zbt pos es X.env)):
  DE X Z ow rm (.Call 'h' (e::es) [] pos) (iU fn as):=aA7 S Fk (hr.mono hk) hg Y.m Y.F.kp Y.b ha hl hps nd hm hlt hdb he hpl
end
def Fd.okN{K:ZC}{st:Stmt}(X:Fd K x qual st N k)(hb:∀{cdv:Value}{A:Around}{outer:List Env}{s:Shared}{H:Hp}{E:XK}{F0:Hp}{g0:ZP}{σ0:St}{wf:∀a i q,g0 a=some (i,q)->i∈ps}(_:X.fd.code=cdv)(_:fD lev (A.deeper (envOfC qual (bC st) s.heap.objs.size X.f cdv)))(_:N.Nodup),
   BI (v4 (FP P w K) P w K mg base N qual (bC st) X.f cdv A outer s H E) ⟨F0,H,g0,ps,σ0,owp,wf⟩ owp owp owp owp rm (dQ st) body)(h:ĸ N k (bC st)=true:=by decide +kernel)(hN:↥(owp.length=N.length)):X.Ok P w mg base (lev+1) ps owp rm (aR owp.length ps rm body):=by
 rw[hN];exact X.okD (HP h) (λa b=>hb a b (HP h).nd) hN
def Fd.okM{K:ZC}{st:Stmt}(X:Fd K x qual st N k)(owe:ZH)(hb:∀{cdv:Value}{A:Around}{outer:List Env}{s:Shared}{H:Hp}{E:XK}{F0:Hp}{g0:ZP}{σ0:St}{wf:∀a i q,g0 a=some (i,q)->i∈ps}(_:X.fd.code=cdv)(_:fD lev (A.deeper (envOfC qual (bC st) s.heap.objs.size X.f cdv)))(_:N.Nodup),
   BI (v4 (FP P w K) P w K mg base N qual (bC st) X.f cdv A outer s H E) ⟨F0,H,g0,ps,σ0,owp,wf⟩ owp owe owe owe rm (dQ st) body)(h:ĸ N k (bC st)=true:=by decide +kernel)(hN:↥(owp.length=N.length)):X.Ok P w mg base (lev+1) ps owp rm (aR owp.length ps rm body):=by
 rw[hN];exact X.okE owe (HP h) (λa b=>hb a b (HP h).nd) hN
def Ş:ZG->Str->Nat->Option Nat
 |[],_,_=>none
 |y::ys,x,k=>if y == x then some k else Ş ys x (k+1)
def OC:∀{N:ZG}{x:Str}{k i:Nat},Ş N x k=some i->∃j,i=k+j/\N[j]?=some x
 |y::ys,x,k,i,h=>by
  unfold Ş at h;by_cases e:(y == x)=true
  .rw[Â e]at h
   cases h;exact⟨0,rfl,congrArg some (eq_of_beq e)⟩
  .rw[Ã e]at h
   let⟨j,e1,e2⟩:=OC h;exact⟨j+1,∅,e2⟩
def rL{α:Type}(r:Expr->Option α):List Expr->Option (List α)
 |[]=>some []
 |e::es=>(r e).bind λf=>(rL r es).bind λfs=>some (f::fs)
def aPY:Operator->Option (D->D->ZL)
 |.Add=>some KW
 |.Sub=>some Ŵ
 |.Mult=>some QB
 |.Mod=>some DX
 |_=>none
def aPZ:Const->Option (M D)
 |.int i=>some (dC (.int i))
 |.str x=>some (dC (.str x))
 |.none=>some (dC .none)
 |_=>none
def aOM:NameKind->Bool
 |.globalImplicit=>false
 |.globalExplicit=>false
 |_=>true
def aP0(N:ZG)(nm:List (Str×NameKind))(ow:ZH)(x:Str):(Option (M D)):=(nm.lookup x).bind λk=>(Ş N x 0).bind λi=>if aOM k && ow.getD i 0 == 0 && !(x == "__debug__") && !(x == "__classdict__")then some (bF i)else none
def rE(N:ZG)(nm:List (Str×NameKind))(ow:ZH):Nat->Expr->Option (M D)
 |0,_=>none
 |n+1,e=>match e with
  |.Name x _=>aP0 N nm ow x
  |.Constant c _ _=>aPZ c
  |.BinOp a o b _=>(aPY o).bind λg=>(rE N nm ow n a).bind λf=>(rE N nm ow n b).bind λh=>some (iF g f h)
  |.Subscript a b _=>(rE N nm ow n a).bind λf=>(rE N nm ow n b).bind λh=>some (iF fM f h)
  |.Tuple es _ _=>(rL (rE N nm ow n) es).bind λfs=>some (P8 fs)
  |_=>none
def ob{α β:Type}{x:Option α}{f:α->Option β}{b:β}(h:x.bind f=some b):∃a,x=some a/\f a=some b:=Option.bind_eq_some_iff.mp h
section
variable {X:Cx}{Z:cN}{ow:ZH}{e:Expr}{f:M D}
structure Β(X:Cx)(Z:cN)(ow:ZH)(e:Expr)(f:M D):Prop where
 de:DE X Z ow 0 e f
 st:∀es,starEach (e::es) X.env=(false,eval e X.env)::starEach es X.env
 ix:oF e
def Γ(h:∀e f,r e=some f->Β X Z ow e f):∀{es:List Expr}{fs:List (M D)},rL r es=some fs->DV X Z ow es fs
 |[],fs,q=>by cases q;exact aX
 |e::es,fs,q=>by
  let⟨f,h1,q⟩:=ob q;let⟨gs,h2,q⟩:=ob q;cases q;exact aF (h _ _ h1).de (Γ h h2) ((h _ _ h1).st _)
def aLW{r:Expr->Option (M D)}(h:∀e f,r e=some f->Β X Z ow e f):∀{es:List Expr}{as:List Arg},rL (λe=>(r e).bind λf=>some (Arg.val f)) es=some as->DA X Z ow es as
 |[],as,q=>by cases q;exact cL
 |e::es,as,q=>by
  let⟨a,h1,q⟩:=ob q;let⟨bs,h2,q⟩:=ob q;let⟨f,h3,q1⟩:=ob h1;cases q;cases q1;exact aO (h _ _ h3).de (aLW h h2) ((h _ _ h3).st _)
def OD(S:aP Z ow):∀(n:Nat)(e:Expr)(f:M D),rE X.N X.env.scope.names ow n e=some f->Β X Z ow e f
 |n+1,e,f,h=>by
  have ih:=OD S n;cases e with
  |Name x p=>
   refine⟨?_,λ_=>rfl,λ_ _=>rfl⟩;let⟨k,hk,h⟩:=ob h;let⟨i,hi,h⟩:=ob h;split at h
   .rename_i q
    cases h;let⟨j,rfl,hj⟩:=OC hi;simp![æ,Bool.not_eq_true',beq_iff_eq,Nat.zero_add]at q⊢;refine dA j q.1.1.2 hj ?_ q.1.2 q.2;have q:=q.1.1.1;cases k<;>cases q
    .exact .inl hk
    .exact .inr (.inl hk)
    .exact .inr (.inr hk)
   .cases h
  |Constant c k p=>
   refine⟨?_,λ_=>rfl,λ_ _=>rfl⟩;cases c<;>cases h
   all_goals first|exact aK|exact fU|exact wY
  |BinOp a o b p=>
   let⟨g,h1,h⟩:=ob h;let⟨f1,h2,h⟩:=ob h;let⟨f2,h3,h⟩:=ob h;cases h;have a:=(ih _ _ h2).de;have b:=(ih _ _ h3).de;refine⟨?_,λ_=>rfl,λ_ _=>rfl⟩;cases o<;>cases h1
   all_goals first|exact bM S a b|exact lW S a b|exact gH S a b|exact iW S a b
  |Subscript a b p=>
   let⟨f1,h2,h⟩:=ob h;let⟨f2,h3,h⟩:=ob h;cases h;exact⟨fG S (ih _ _ h2).de (ih _ _ h3).de (ih _ _ h3).ix,λ_=>rfl,λ_ _=>rfl⟩
  |Tuple es k p=>
   let⟨fs,h2,h⟩:=ob h;cases h;exact⟨dJ (Γ ih h2),λ_=>rfl,λ_ _=>rfl⟩
  |_=>cases h
def rx(S:aP Z ow:=by exact aG)(h:↥(rE X.N X.env.scope.names ow 9 e=some f)):DE X Z ow 0 e f:=(OD S 9 e f h).de
def rv{es:List Expr}{fs:List (M D)}(S:aP Z ow:=by exact aG)(h:↥(rL (rE X.N X.env.scope.names ow 9) es=some fs)):DV X Z ow es fs:=Γ (OD S 9) h
def ra{es:List Expr}{as:List Arg}(S:aP Z ow:=by exact aG)(h:↥(rL (λe=>(rE X.N X.env.scope.names ow 9 e).bind λf=>some (Arg.val f)) es=some as)):DA X Z ow es as:=aLW (OD S 9) h
end
section
end
section
end
section
def Q1(k x:D):(Option (ZL)):=match x with
 |.dict Á=>if (Á.all λkv=>(dE kv.1).isSome)=true then (match dE k with
  |some ky=>some (jR ky Á)
  |none=>none)else none
 |_=>none
def sW(n:Bool)(k x:D):ZL:=(Q1 k x).map λr=>.bool (r.isSome != n)
def OE(x k:D):ZL:=match Q1 k x with
 |some (some d)=>some d
 |_=>none
def HQ{K:ZC}(e:Q1 k x=some r)(hk:bD K F k y)(hx:bD K F x v)(hs:aI F H):∃a o,v=.ref a/\pL H a y o/\((r=none/\o=none)\/∃d w,r=some d/\o=some w/\bD K F d w):=by
 unfold Q1 at e;split at e
 .rename_i Á
  split at e
  .rename_i hall
   split at e
   .rename_i ky e4
    cases e;let⟨a,ms,ds,vs,rfl,l1,rfl,hF,hr⟩:=N8 hx hall;obtain rfl:=EI e4 hk;refine⟨a,pK (ms.zip vs) ky,rfl,pL.k (hs _ _ hF),?_⟩;rcases uU (k:=ky) l1 hr with ⟨h1,h2⟩|⟨d,w,h1,h2,h3⟩
    .exact .inl ⟨h1,h2⟩
    .exact .inr ⟨d,w,h1,h2,h3⟩
   .cases e
  .cases e
 .cases e
def W4(h:tD X Z ow 0 (iF (sW n) fk fx) σ H Q):tD X Z ow 0 fk σ H λy H1=>tD X Z ow 0 fx σ H1 λx H2=>∃a o,x=.ref a/\pL H2 a y o/\Q (.bl (o.isSome != n)) H2:=by
 let⟨F,δ,R,h⟩:=h;unfold iF at h;sleep 1;cases e:fk δ with
 |stuck=>rw[e]at h;exact h.elim
 |ok d1 δ1=>
  rw[e]at h;simp![Res.bind]at h;intro y H1 F1 R1 s1;refine⟨F1,δ1,R1.rel,?_⟩;cases e2:fx δ1 with
  |stuck=>rw[e2]at h;exact h.elim
  |ok d2 δ2=>
   rw[e2]at h;simp![Res.bind]at h;intro v H2 F2 R2 s2;unfold sW at h;cases e3:Q1 d1 d2 with
   |none=>rw[e3]at h;exact h.elim
   |some r=>
    rw[e3]at h;let⟨a,o,rfl,hg,hr⟩:=HQ e3 (s2.rep _ _ R1.rep) R2.rep R2.rel.sub;have eo:o.isSome=r.isSome:=by
     rcases hr with ⟨rfl,rfl⟩|⟨d,w,rfl,rfl,_⟩<;>rfl
    refine⟨a,o,rfl,hg,?_⟩;rw[eo];exact h _ H2 F2 (R2.rel.x iK) (s1.trans' s2)
def aIX(hu:X.A.units+64<cLine)(hi:DE X Z ow 0 i fk)(ho:DE X Z ow 0 o fx)(h1:↥(behindInMarks .In o=false)):DT X Z ow (.Compare i [.In] [o] pos) (dB (iF (sW false) fk fx)):=
 (S7 (aII ∅ hi ho) h1).mono λσ H Q h=>by
  have:=W4 (GI h);simp![Bool.bne_false]at this;exact this
def Q2(hu:X.A.units+64<cLine)(hi:DE X Z ow 0 i fk)(ho:DE X Z ow 0 o fx)(h1:↥(behindInMarks .NotIn o=false)):DT X Z ow (.Compare i [.NotIn] [o] pos) (dB (iF (sW true) fk fx)):=
 (S7 (QR ∅ hi ho) h1).mono λσ H Q h=>by
  have:=W4 (GI h);simp![Bool.bne_true]at this;exact this
def aIY(hu:X.A.units+64<cLine)(ho:DE X Z ow 0 o fx)(hi:DE X Z ow 0 i f)(hs:Ś i:=by exact λ_ _=>rfl):DE X Z ow 0 (.Subscript o i pos) (iF OE fx f):=PE.mono (N1 ∅ ho hi hs) λσ H Q h=>by
 let⟨F,δ,R,h⟩:=h;unfold iF at h;sleep 1;cases e:fx δ with
 |stuck=>rw[e]at h;exact h.elim
 |ok d1 δ1=>
  rw[e]at h;simp![Res.bind]at h;intro x H1 F1 R1 s1;refine⟨F1,δ1,R1.rel,?_⟩;cases e2:f δ1 with
  |stuck=>rw[e2]at h;exact h.elim
  |ok d2 δ2=>
   rw[e2]at h;simp![Res.bind]at h;intro y H2 F2 R2 s2;cases e3:OE d1 d2 with
   |none=>rw[e3]at h;exact h.elim
   |some r=>
    rw[e3]at h;unfold OE at e3;split at e3
    .rename_i d e4
     cases e3;let⟨a,ov,rfl,hg,hr⟩:=HQ e4 R2.rep (s2.rep _ _ R1.rep) R2.rel.sub;rcases hr with ⟨hh,_⟩|⟨d',w,hd,rfl,hw⟩
     .cases hh
     .cases hd
      exact⟨a,w,rfl,hg,h w H2 F2 (R2.rel.x hw) (s1.trans' s2)⟩
    .cases e3
end
section
end
section
end
section
end
section
def nI(c:Nat)(ow:ZH):Bool:=(List.range ow.length).all λj=>j == c || ow.getD j 0 == 0
def Q3(h:nI c ow=true)(hj:j≠c):ow.getD j 0=0:=by
 by_cases hl:j<ow.length
 .have:=ï.mp h j (List.mem_range.mpr hl)
  simp![Bool.or_eq_true,beq_iff_eq]at this;exact this.resolve_left hj
 .rw[Ë,ç ∅]
  rfl
end
section
def OF(f:M D):M Bool:=λδ=>(f δ).bind λd δ1=>match d with
 |.list ds=>.ok (!ds.isEmpty) δ1
 |_=>.stuck
def aIZ(h:DE X Z ow 0 e f)(he: ~~~(∀whole,isTrue e X.env whole=(do let v <- whole;standAt e.pos;holding [v] (truthy v)))):DT X Z ow e (OF f):=(TW h he).mono λσ H Q h=>by
 let⟨F,δ,R,h⟩:=h;unfold OF at h;sleep 1;cases e:f δ with
 |stuck=>rw[e]at h;exact h.elim
 |ok d δ1=>
  rw[e]at h;simp![Res.bind]at h;intro v H1 F1 R1 s1;split at h
  .rename_i ds
   let⟨l,vs,rfl,hx,rx⟩:=jI R1.rep;refine⟨!ds.isEmpty,?_,h H1 F1 R1.rel s1⟩;refine .inl ⟨vs,R1.rel.sub.seq hx,?_⟩;have:=rx.len
   grind
  .exact h.elim
def aI0{δ:DS}{Q:Bool->ZO}{ds:ZI}{δ1:DS}(h:f δ=.ok (.list ds) δ1)(q:Q (!ds.isEmpty) δ1):aU (OF f) δ Q:=by
 unfold aU OF;rw[h];exact q
end
def nJ:ZI->Option (ZG)
 |[]=>some []
 |d::ds=>match d with
  |.str z=>(nJ ds).map (z::·)
  |_=>none
def yG:∀{ds:ZI}{zs:ZG},nJ ds=some zs->ds=zs.map PyData.str
 |[],zs,h=>by cases h;rfl
 |d::ds,zs,h=>by
  cases d with
  |str z=>
   let⟨ys,e,rfl⟩:=Option.map_eq_some_iff.mp (show (nJ ds).map (z::·)=some zs from h);rw[yG e];rfl
  |_=>cases h
section
variable {X:Cx}{Z:cN}{ow ow' ol ox:ZH}{m c n:Nat}{F F' H:Hp}{σ:St}{δ δ1 δ2:DS}{K:ZC}
def Δ:∀{zs:ZG}{vs:List V},aD K F (zs.map PyData.str) vs->vs=zs.map V.str
 |[],vs,h=>by unfold aD at h;exact h
 |z::zs,vs,h=>by
  rw[Ì]at h;unfold aD at h;let⟨x,r,rfl,hx,h⟩:=h;unfold bD at hx;rw[hx,Δ h];rfl
def HR:∀{zs:ZG},aD K F (zs.map PyData.str) (zs.map V.str)
 |[]=>iR
 |_::_=>fS BM HR
def OG:V->List V->Hp->VK->Prop:=λx vs H Q=>∃(l:Addr)(zs:ZG)(z:Str),x=.ref l/\vs=[.str z]/\H l=some (.lst (zs.map V.str))/\z∈zs/\Q .non (aV H l (.lst ((zs.erase z).map V.str)))
def OH:∀{zs:ZG}{us:ZJ},bH (zs.map V.str) us->StrsAre us zs
 |[],us,h=>by cases h;exact .nil
 |z::zs,us,h=>by
  rw[Ì]at h;cases h with
  |cons r t=>
   let⟨u,rfl⟩:=r;exact .cons z u (OH t)
def W5 :∀{us:ZJ}{zs:ZG},StrsAre us zs->∀(i:Nat)(h:i<us.length)(h':i<zs.length),isStrOf k us[i]=(zs[i] == k)
 |_,_,.cons _ _ _,0,_,_=>rfl
 |_,_,.cons _ _ t,i+1,h,h'=>W5 t i (Nat.lt_of_succ_lt_succ h) (Nat.lt_of_succ_lt_succ h')
def Q5:ņ X "list.remove" OG:=by
 intro À s σ H x vs v us Q I rx rv h;let⟨l,zs,z,rfl,rfl,hH,hz,q⟩:=h;cases rx;let⟨u,rfl,ru⟩:=rv.one;let⟨t,rfl⟩:=ru;let⟨hs,its,n,r,hl,e⟩:=I.lstM hH;have sa:=OH r;have hj:zs.idxOf z<zs.length:=List.idxOf_lt_length_of_mem hz;rw[Å]at hl;refine call_meets PySem.F.slot_list_remove ⟨_,e,rfl⟩ PySem.F.entry_list_remove (PySem.F.args_list_remove_2 _ _) (MeetsSeq.list_remove l its.toArray n (.str z t) (isStrOf z) (λy hy=>eq_isStrOf z t sa y (by simpa using hy)) (zs.idxOf z) (by rw[é,<- hl];exact hj) ?_ ?_ (by rw[é,<- hl];simpa using hs)) ⟨e,?_⟩
 .rw[List.getElem_toArray,W5 sa _ (by rw[<- hl];exact hj) hj,List.getElem_idxOf hj]
  exact beq_self_eq_true z
 .intro k hk hlt
  rw[é,<- hl]at hk;rw[List.getElem_toArray,W5 sa k (by rw[<- hl];exact hk) hk];have:=List.not_of_lt_findIdx (show k<zs.findIdx (· == z)from hlt);simpa using this
 .refine⟨.non,_,I.lset (its':=its.eraseIdx (zs.idxOf z)) hH e ?_ (xs:=zs.map V.str) (ys:=(zs.erase z).map V.str) ?_ ?_,rfl,q⟩
  .show its.toArray.eraseIdxIfInBounds (zs.idxOf z)=_
   rw[List.eraseIdxIfInBounds_toArray]
  .have:=r.eraseIdx (zs.idxOf z)
   rw[List.erase_eq_eraseIdx_of_idxOf rfl];rw[List.eraseIdx_eq_take_drop_succ,<- List.map_take,<- List.map_drop,<- Ö,<- List.eraseIdx_eq_take_drop_succ]at this;exact this
  .rw[Å]at hs⊢
   exact Ü List.length_erase_le hs
def cX.updF(R:cX K Z ow g F H σ δ)(h0:nI c ow=true)(h1:ow.getD c 0=1)(hs:σ[c]?=some (some (.ref cc)))(hne:cc≠a)(hF:F a=none)(hZ:Z.H0 a=none):cX K Z ow g F (aV H a o) σ δ:=by
 refine⟨λb u e=>?_,R.f0,λb u n e=>?_,R.new,λb z=>?_,R.lab,R.len,R.par,λj d e=>?_⟩
 .have:b≠a:=λz=>by rw[z,hF]at e;cases e
  rw[aE this];exact R.sub b u e
 .have:b≠a:=λz=>by rw[z,hZ]at e;cases e
  rw[aE this];exact R.kept b u n e
 .have:b≠a:=λw=>z (by rw[w,hZ])
  rw[aE this];exact R.there b z
 .obtain⟨v,e1,o'⟩:=R.slot j d e
  refine⟨v,e1,?_⟩;by_cases hj:j=c
  .subst hj
   rw[h1]at o'⊢;let⟨a',ds,vs,q1,q2,q3,q4,q5,q6,q7⟩:=o'.lst (m:=0);rw[hs,q2]at e1;cases e1;exact bE.mkL (m:=0) ⟨_,ds,vs,q1,q2,q3,by rw[aE hne];exact q4,q5,q6,λk d' v' z1 z2=>q7 k d' v' z1 z2⟩
  .rw[Q3 h0 hj]at o'⊢;exact o'
def cB.look(R:cB K Z ow F H σ δ1)(s:aI F F')(s':aI F' H)(hl:δ2.length=δ1.length)(h:∀(j:Nat)(d:D),δ2[j]?=some (some d)->∃v,σ[j]?=some (some v)/\bD K F' d v):cB K (cU F' H σ m) 'c' F' H σ δ2:=by
 let⟨g,R⟩:=R;exact⟨λ_=>none,s',⟨R.f0.lm.mono s,aI.refl _⟩,λ_ _ _ e=>e,λ_ h _=>h,λ_ h=>h,λ_ _ _ e=>(by cases e),by rw[hl];exact R.len,λi hi=>(by cases hi),λi d e=>by
  let⟨v,e1,e2⟩:=h i d e;exact⟨v,e1,by rw[iZ];exact e2⟩⟩
abbrev N3:=ZG×ZG×ZG
def l8(N:N3):D:=j8 [.inr "off",.inr "back",.inr "on"] [.list (N.1.map PyData.str),.list (N.2.1.map PyData.str),.list (N.2.2.map PyData.str)]
def EL(k z:Str)(N:N3):(Option N3):=
 if k="off"then (if z∈N.1 then some (N.1.erase z,N.2.1,N.2.2)else none)
 else if k="back"then (if z∈N.2.1 then some (N.1,N.2.1.erase z,N.2.2)else none)
 else if k="on"then (if z∈N.2.2 then some (N.1,N.2.1,N.2.2.erase z)else none)else none
abbrev Ģ(a b cc:Addr):List (cV×V):=[(.inr "off",.ref a),(.inr "back",.ref b),(.inr "on",.ref cc)]
structure aPG(Z:cN)(p a b cc:Addr):Prop where
 zp:Z.H0 p=none
 za:Z.H0 a=none
 zb:Z.H0 b=none
 cp:cc≠p
 ca:cc≠a
 cb:cc≠b
 pa:p≠a
 pb:p≠b
 ab:a≠b
structure rO(K:ZC)(Z:cN)(ow:ZH)(c n:Nat)(p a b cc:Addr)(N:N3)(F H:Hp)(σ:St)(δ:DS):Prop where
 rel:cB K Z ow F H σ (δ.set c (some (.list (N.2.2.map PyData.str))))
 dc:δ[c]?=some none
 dn:δ[n]?=some none
 sn:σ[n]?=some (some (.ref p))
 sc:σ[c]?=some (some (.ref cc))
 hp:H p=some (.dK (Ģ a b cc))
 ha:H a=some (.lst (N.1.map V.str))
 hb:H b=some (.lst (N.2.1.map V.str))
 fp:F p=none
 fa:F a=none
 fb:F b=none
variable {p a b cc:Addr}{N:N3}
def rO.hc(I:rO K Z ow c n p a b cc N F H σ δ)(h1:ow.getD c 0=1):H cc=some (.lst (N.2.2.map V.str)):=by
 let⟨a',ds,vs,q1,q2,q3,q4⟩:=I.rel.ownAt h1 (ß (Í.mp I.dc).1);cases q1;rw[I.sc]at q2;cases q2;rw[Δ q4]at q3;exact q3
def rO.at(I:rO K Z ow c n p a b cc N F H σ δ)(h0:nI c ow=true){j:Nat}{d:D}(e:δ[j]?=some (some d)):∃v,σ[j]?=some (some v)/\bD K F d v:=by
 have hj:j≠c:=λz=>by rw[z,I.dc]at e;cases e
 let⟨g,R⟩:=I.rel;let⟨v,e1,o⟩:=R.slot j d (by rw[Ù (Ñ hj)];exact e);rw[Q3 h0 hj]at o;exact⟨v,e1,o⟩
def rO.hide(I:rO K Z ow c n p a b cc N F H σ δ)(h0:nI c ow=true):cB K (cU F H σ m) 'c' F H σ δ:=
 I.rel.look (aI.refl _) I.rel.sub (Î ..).symm λ_ _ e=>I.at h0 e
def rO.view(I:rO K Z ow c n p a b cc N F H σ δ)(h0:nI c ow=true)(h1:ow.getD c 0=1):∃F',cB K (cU F' H σ m) 'c' F' H σ (δ.set n (some (l8 N))):=by
 have hn:n<δ.length:=(Í.mp I.dn).1;have s:aI F (λx=>if x=p\/x=a\/x=b\/x=cc then H x else F x):=λx o e=>by
  show (if x=p\/x=a\/x=b\/x=cc then H x else F x)=some o;split
  .exact I.rel.sub x o e
  .exact e
 refine⟨λx=>if x=p\/x=a\/x=b\/x=cc then H x else F x,I.rel.look s (λx o e=>?_) (by rw[Î,Î]) λj d e=>?_⟩
 .split at e
  .exact e
  .exact I.rel.sub x o e
 .by_cases hj:n=j
  .subst hj
   rw[ß hn]at e;cases e;refine⟨_,I.sn,Nd.rep (k:=3) (vs:=[.ref a,.ref b,.ref cc]) ⟨p,_,rfl,rfl,rfl,rfl⟩ (λx hx=>?_) rfl (fS ?_ (fS ?_ (fS ?_ iR)))⟩
   .rw[ô.mp hx]
    exact(Â (.inl rfl)).trans I.hp
   .unfold bD
    exact⟨a,_,rfl,d8.of ((Â (.inr (.inl rfl))).trans I.ha),HR⟩
   .unfold bD
    exact⟨b,_,rfl,d8.of ((Â (.inr (.inr (.inl rfl)))).trans I.hb),HR⟩
   .unfold bD
    exact⟨cc,_,rfl,d8.of ((Â (.inr (.inr (.inr rfl)))).trans (I.hc h1)),HR⟩
  .rw[Ù hj]at e
   let⟨v,e1,r⟩:=I.at h0 e;exact⟨v,e1,s.rep _ _ r⟩
def rO.grow(I:rO K Z ow c n p a b cc N F H σ δ)(h:aI H H'):rO K Z ow c n p a b cc N F H' σ δ:=
 {I with rel:=let ⟨g,R⟩:=I.rel;⟨g,R.grow h⟩,hp:=h _ _ I.hp,ha:=h _ _ I.ha,hb:=h _ _ I.hb}
def rO.back(I:rO K Z ow c n p a b cc N F H σ δ)(R':cB K (cU F H σ m) 'c' F' H' σ δ'):rO K Z ow c n p a b cc N F' H' σ δ:=by
 let⟨g',R'⟩:=R';have h:aI H H':=λb o e=>R'.kept b o rfl e;exact {I with rel:=let ⟨g,R⟩:=I.rel;⟨g,R.back R'⟩,hp:=h _ _ I.hp,ha:=h _ _ I.ha,hb:=h _ _ I.hb,fp:=R'.new p I.fp (by show H p≠none;rw[I.hp];simp),fa:=R'.new a I.fa (by show H a≠none;rw[I.ha];simp),fb:=R'.new b I.fb (by show H b≠none;rw[I.hb];simp)}
def rO.store(I:rO K Z ow c n p a b cc N F H σ δ)(S:aP Z ow)(hX:X.K=K)(r:bD K F d v)(hi:i<δ.length)(hps:i∉Z.ps)(hl:i<ow.length)(h0:ow.getD i 0=0)(hc:i≠c)(hn:i≠n):rO K Z ow c n p a b cc N F H (σ.set i (some v)) (δ.set i (some d)):=by
 subst hX;have R:=(I.rel.x r).store S (X:=X) (i:=i) (by rw[Î];exact hi) hps hl;rw[ű h0,List.set_comm _ _ hc.symm]at R;exact {I with rel:=R,dc:=by rw[Ù hc];exact I.dc,dn:=by rw[Ù hn];exact I.dn,sn:=by rw[Ù hn];exact I.sn,sc:=by rw[Ù hc];exact I.sc}
theorem rO.rem(I:rO K Z ow c n p a b cc N F H σ δ)(T:aPG Z p a b cc)(S:aP Z ow)(h0:nI c ow=true)(h1:ow.getD c 0=1)(e:EL k z N=some N'){P:Prop}(q:∀(l:Addr)(zs:ZG),pK (Ģ a b cc) (.inr k)=some (.ref l)->H l=some (.lst (zs.map V.str))->z∈zs->rO K Z ow c n p a b cc N' F (aV H l (.lst ((zs.erase z).map V.str))) σ δ->P):P:=by
 unfold EL at e;have cl:c<δ.length:=(Í.mp I.dc).1;split at e
 .rename_i hk
  split at e
  .rename_i hz
   cases e;subst hk;refine q a N.1 rfl I.ha hz {I with rel:=let ⟨g,R⟩:=I.rel;⟨g,R.updF h0 h1 I.sc T.ca I.fa T.za⟩,hp:=by rw[aE T.pa];exact I.hp,ha:=aJ,hb:=by rw[aE T.ab.symm];exact I.hb}
  .cases e
 .split at e
  .rename_i hk
   split at e
   .rename_i hz
    cases e;subst hk;refine q b N.2.1 rfl I.hb hz {I with rel:=let ⟨g,R⟩:=I.rel;⟨g,R.updF h0 h1 I.sc T.cb I.fb T.zb⟩,hp:=by rw[aE T.pb];exact I.hp,ha:=by rw[aE T.ab];exact I.ha,hb:=aJ}
   .cases e
  .split at e
   .rename_i hk
    split at e
    .rename_i hz
     cases e;subst hk;have R:=I.rel.rewrite S h1 (ß cl) I.sc (ds':=(N.2.2.erase z).map PyData.str) (vs':=(N.2.2.erase z).map V.str) HR;rw[List.set_set]at R;refine q cc N.2.2 rfl (I.hc h1) hz {I with rel:=R,hp:=by rw[aE T.cp.symm];exact I.hp,ha:=by rw[aE T.ca.symm];exact I.ha,hb:=by rw[aE T.cb.symm];exact I.hb}
    .cases e
   .cases e
def iC(n e s:Nat)(t1:M Bool)(fs:M D)(t2:M Bool)(fk fy:M D):ZI->N3->DS->Option (Bool×N3)
 |[],N,_=>some (true,N)
 |d::ds,N,δ=>match t1 (δ.set e (some d))with
  |.ok true _=>some (false,N)
  |.ok false _=>(match fs (δ.set e (some d))with
   |.ok dv _=>(match t2 (((δ.set e (some d)).set s (some dv)).set n (some (l8 N)))with
    |.ok true _=>some (false,N)
    |.ok false _=>(match fk ((δ.set e (some d)).set s (some dv)),fy ((δ.set e (some d)).set s (some dv))with
     |.ok (.str k) _,.ok (.str z) _=>(match EL k z N with
      |some N'=>iC n e s t1 fs t2 fk fy ds N' ((δ.set e (some d)).set s (some dv))
      |none=>none)
     |_,_=>none)
    |_=>none)
   |_=>none)
  |_=>none
theorem HS{P:Prop}(h:iC n e s t1 fs t2 fk fy (d::ds) N δ=some r)(k1:∀δ1,t1 (δ.set e (some d))=.ok true δ1->r=(false,N)->P)(k2:∀δ1 dv δ2 δ3,t1 (δ.set e (some d))=.ok false δ1->fs (δ.set e (some d))=.ok dv δ2->t2 (((δ.set e (some d)).set s (some dv)).set n (some (l8 N)))=.ok true δ3->r=(false,N)->P)(k3:∀δ1 dv δ2 δ3 k δ4 z δ5 N',t1 (δ.set e (some d))=.ok false δ1->fs (δ.set e (some d))=.ok dv δ2->t2 (((δ.set e (some d)).set s (some dv)).set n (some (l8 N)))=.ok false δ3->fk ((δ.set e (some d)).set s (some dv))=.ok (.str k) δ4->fy ((δ.set e (some d)).set s (some dv))=.ok (.str z) δ5->EL k z N=some N'->iC n e s t1 fs t2 fk fy ds N' ((δ.set e (some d)).set s (some dv))=some r->P):P:=by
 unfold iC at h;split at h
 .rename_i δ1 e1
  exact k1 δ1 e1 (Option.some.inj h).symm
 .rename_i δ1 e1
  split at h
  .rename_i dv δ2 e2
   split at h
   .rename_i δ3 e3
    exact k2 δ1 dv δ2 δ3 e1 e2 e3 (Option.some.inj h).symm
   .rename_i δ3 e3
    split at h
    .rename_i k δ4 z δ5 e4 e5
     split at h
     .rename_i N' e6
      exact k3 δ1 dv δ2 δ3 k δ4 z δ5 N' e1 e2 e3 e4 e5 e6 h
     .cases h
    .cases h
   .cases h
  .cases h
 .cases h
def Q6:Option (ZL)->Option (ZI)
 |some (some (.list ds))=>some ds
 |_=>none
def Q7:Res D->Option (ZG)
 |.ok (.list xs) _=>nJ xs
 |_=>none
def OI(h:Q6 o=some ds):o=some (some (.list ds)):=by
 unfold Q6 at h;split at h
 .cases h;rfl
 .cases h
def OJ(h:Q7 r=some x):∃xs δ,r=.ok (.list xs) δ/\nJ xs=some x:=by
 unfold Q7 at h;split at h
 .exact⟨_,_,rfl,h⟩
 .cases h
def nK(l c n e s:Nat)(f1 f2:M D)(t1:M Bool)(fs:M D)(t2:M Bool)(fk fy:M D):M Fl:=λδ=>match ((Q6 δ[c]?).bind nJ).bind λw=>(Q6 δ[l]?).bind λds=>(Q7 (f1 ((δ.set c none).set n none))).bind λx=>(Q7 (f2 ((δ.set c none).set n none))).bind λy=>
  if l≠c/\l≠n/\e<δ.length/\s<δ.length/\n<δ.length then iC n e s t1 fs t2 fk fy ds (x,y,w) ((δ.set c none).set n none)else none with
 |some r=>.ok (.ret (.bool r.1)) ((List.replicate δ.length none).set c (some (.list (r.2.2.2.map PyData.str))))
 |none=>.stuck
theorem Q8{P:Prop}(k2:nK l c n e s f1 f2 t1 fs t2 fk fy δ=.stuck->P)(k1:∀w ds xs δ1 ys δ2 x y b N,δ[c]?=some (some (.list (w.map PyData.str)))->δ[l]?=some (some (.list ds))->f1 ((δ.set c none).set n none)=.ok (.list xs) δ1->f2 ((δ.set c none).set n none)=.ok (.list ys) δ2->nJ xs=some x->nJ ys=some y->l≠c->l≠n->e<δ.length->s<δ.length->n<δ.length ->
   iC n e s t1 fs t2 fk fy ds (x,y,w) ((δ.set c none).set n none)=some (b,N)->nK l c n e s f1 f2 t1 fs t2 fk fy δ=.ok (.ret (.bool b)) ((List.replicate δ.length none).set c (some (.list (N.2.2.map PyData.str))))->P):P:=by
 generalize hr:nK l c n e s f1 f2 t1 fs t2 fk fy δ=r at *;unfold nK at hr;split at hr
 .rename_i q e0
  let⟨w,e1,e0⟩:=Option.bind_eq_some_iff.mp e0;let⟨wc,e1,e2⟩:=Option.bind_eq_some_iff.mp e1;let⟨ds,e3,e0⟩:=Option.bind_eq_some_iff.mp e0;let⟨x,e4,e0⟩:=Option.bind_eq_some_iff.mp e0;let⟨y,e5,e0⟩:=Option.bind_eq_some_iff.mp e0;split at e0
  .rename_i h
   let⟨xs,δ1,f1,g1⟩:=OJ e4;let⟨ys,δ2,f2,g2⟩:=OJ e5;have e1:=OI e1;rw[yG e2]at e1;exact k1 w ds xs δ1 ys δ2 x y q.1 q.2 e1 (OI e3) f1 f2 g1 g2 h.1 h.2.1 h.2.2.1 h.2.2.2.1 h.2.2.2.2 e0 hr.symm
  .cases e0
 .exact k2 hr.symm
theorem aOO{P:Prop}{a b c d e f g h i j k l:Bool}(hh:(a && b && c && d && e && f && g && h && i && j && k && l)=true)(q:a=true->b=true->c=true->d=true->e=true->f=true->g=true->h=true->i=true->j=true->k=true->l=true->P):P:=by
 simp![æ]at hh;exact q hh.1.1.1.1.1.1.1.1.1.1.1 hh.1.1.1.1.1.1.1.1.1.1.2 hh.1.1.1.1.1.1.1.1.1.2 hh.1.1.1.1.1.1.1.1.2 hh.1.1.1.1.1.1.1.2 hh.1.1.1.1.1.1.2 hh.1.1.1.1.1.2 hh.1.1.1.1.2 hh.1.1.1.2 hh.1.1.2 hh.1.2 hh.2
def Ε{b:Bool}(h:(!b)=true):b=false:=by cases b<;>first|rfl|cases h
def W6{a b:Nat}(h:(a != b)=true):a≠b:=by simpa using h
def Ĺ(X:Cx)(m k:Nat)(f:M D):TE:=λσ H Q=>∃F0,tD X (cU F0 H σ m) 'c' k f σ H Q
def aPH(X:Cx)(m:Nat)(t:M Bool):TT:=λσ H Q=>∃F0,tT X (cU F0 H σ m) 'c' t σ H Q
def aFF(m:Nat)(h:∀F H σ,DT X (cU F H σ m) 'c' x t):PT X x (λσ H Q=>∃F0,tT X (cU F0 H σ m) 'c' t σ H Q):=λÀ s σ H Q I zQ=>by let⟨F0,q⟩:=zQ;exact h F0 H σ À s σ H Q I q
def rO.test{t:M Bool}{k:Bool}{δ':DS}{Q:Bool->Hp->Prop}(I:rO X.K Z ow c n p a b cc N F H σ δ)(h0:nI c ow=true)(e:t δ=.ok k δ')(q:∀H',aI H H'->Q k H'):∃F0,tT X (cU F0 H σ m) 'c' t σ H Q:=
 ⟨F,F,δ,I.hide h0,by
  rw[e];intro H' F' ⟨g',R'⟩ s';exact q H' λb o e=>R'.kept b o rfl e⟩
def rO.test2{t:M Bool}{k:Bool}{δ':DS}{Q:Bool->Hp->Prop}(I:rO X.K Z ow c n p a b cc N F H σ δ)(h0:nI c ow=true)(h1:ow.getD c 0=1)(e:t (δ.set n (some (l8 N)))=.ok k δ')(q:∀H',aI H H'->Q k H'):∃F0,tT X (cU F0 H σ m) 'c' t σ H Q:=by
 let⟨F',R⟩:=I.view (m:=m) h0 h1;refine⟨F',F',_,R,?_⟩;rw[e];intro H' F' ⟨g',R'⟩ s';exact q H' λb o e=>R'.kept b o rfl e
def rO.val{f:M D}{d:D}{δ':DS}{Q:VK}(I:rO X.K Z ow c n p a b cc N F H σ δ)(h0:nI c ow=true)(e:f δ=.ok d δ')(q:∀v H' F',bD X.K F' d v->rO X.K Z ow c n p a b cc N F' H' σ δ->aI F F'->aI H H'->Q v H'):∃F0,tD X (cU F0 H σ m) 'c' 0 f σ H Q:=
 ⟨F,F,δ,I.hide h0,by
  rw[e];intro v H' F' R' s';exact q v H' F' R'.rep (I.back R'.rel) s' (let ⟨g',R',_⟩:=R';λb o e=>R'.kept b o rfl e)⟩
def aLY{f:M D}{xs:ZI}{x:ZG}{δ':DS}{Q:VK}(R:cB X.K (cU F H σ m) 'c' F H σ δ)(e:f δ=.ok (.list xs) δ')(hx:nJ xs=some x)(q:∀a H',aI H H'->H a=none->H' a=some (.lst (x.map V.str))->Q (.ref a) H'):∃F0,tD X (cU F0 H σ m) 'c' 1 f σ H Q:=
 ⟨F,F,δ,R,by
  rw[e];intro v H' F' ⟨g',R',o⟩ s';let⟨a,ds,vs,q1,q2,q3,q4,q5,q6,q7⟩:=o.lst (m:=0);cases q1;subst q2;rw[yG hx]at q6 q7;rw[Δ (aD.of q6 q7)]at q4;refine q a H' (λb o e=>R'.kept b o rfl e) ?_ q4;rcases R'.lab a 1000 [] q3 with z|⟨q,z⟩
  .exact z
  .cases z⟩
def cB.setN(R:cB K Z ow F H σ δ)(hn:n∉Z.ps):cB K Z ow F H (σ.set n v) (δ.set n none):=by
 let⟨g,R⟩:=R;refine⟨g,R.sub,R.f0,R.kept,R.new,R.there,R.lab,by rw[Î,Î];exact R.len,λj hj=>?_,λj d e=>?_⟩
 .have ne:n≠j:=λz=>hn (z▸hj)
  rw[Ù ne];exact R.par j hj
 .have hj:n≠j:=λz=>by
   subst z;rw[ĉ]at e;split at e
   .split at e<;>cases e
   .rename_i z;exact z rfl
  rw[Ù hj]at e⊢;exact R.slot j d e
def LC(o3:Z.ps.contains n=false)(o4:Z.ps.contains e=false)(o5:Z.ps.contains s=false)(o1:nI c ow=true)(o2:ow.getD c 0=1)(o6:c≠n)(o7:c≠e)(o8:c≠s)(o9:n≠e)(oa:n≠s)(ob:e<ow.length)(oc:s<ow.length)(S:aP Z ow)(h:tS X Z ow ow' ol ox 0 (nK l c n e s f1 f2 t1 fs t2 fk fy) Dn σ H):
  PU (PV (ϳ [(tC (.str "off"),(Ĺ X m 1 f1)),(tC (.str "back"),(Ĺ X m 1 f2)),(tC (.str "on"),FV c)]) (kM n)) (PU (Τ (ξ X.K (FV l)) (kM e) (PU (Ŧ (aPH X m t1) (Ŀ (tC (.bl false))) S9) (PU (PV (Ĺ X m 0 fs) (kM s)) (PU (Ŧ (aPH X m t2) (Ŀ (tC (.bl false))) S9) (Ξ (ů X.K "list" OG (ϲ (FV n) (Ĺ X m 0 fk)) (MN (Ĺ X m 0 fy) Ń))))))) (Ŀ (tC (.bl true)))) Dn σ H:=by
 let⟨F,δ,R,h⟩:=h;refine Q8 (l:=l) (c:=c) (n:=n) (e:=e) (s:=s) (f1:=f1) (f2:=f2) (t1:=t1) (fs:=fs) (t2:=t2) (fk:=fk) (fy:=fy) (δ:=δ) (λee=>by rw[ee]at h;exact h.elim) λw ds us δ1 ys δ2 x y k N y1 y2 y3 y4 y6 y7 y8 y9 ya yb yc yd ee=>?_;rw[ee]at h;have cl:c<δ.length:=(Í.mp y1).1;let⟨cc,ws,vs,z1,z2,z3,z4⟩:=R.ownAt o2 y1;cases z1;have hn0:=cP o3;have lk:∀{H':Hp},aI H H'->cB X.K (cU F H' σ m) 'c' F H' σ ((δ.set c none).set n none):=λ{H'}hh=>by
  have R':cB X.K Z ow F H' σ δ:=let ⟨g,R⟩:=R;⟨g,R.grow hh⟩
  refine R'.look (aI.refl _) R'.sub (by rw[Î,Î]) λj d e=>?_;have hj:n≠j:=λz=>by
   subst z;rw[ß (by rw[Î];exact yc)]at e;cases e
  rw[Ù hj]at e;have hj:c≠j:=λz=>by
   subst z;rw[ß cl]at e;cases e
  rw[Ù hj]at e;let⟨g,R'⟩:=R';let⟨v,e1,o⟩:=R'.slot j d e;rw[Q3 o1 hj.symm]at o;exact⟨v,e1,o⟩
 intro p hp;have s1:aI H (aV H p (.dK [])):=bW hp _;refine aLY (lk s1) y3 y6 λa H2 s2 a1 a2=>?_;refine aLY (lk (s1.trans' s2)) y4 y7 λb H3 s3 b1 b2=>?_;have hp3:H3 p=some (.dK []):=s3 _ _ (s2 _ _ aJ);refine⟨_,z2,hp3,Ģ a b cc,rfl,by simp,?_⟩;have hm:uT [] (Ģ a b cc)=Ģ a b cc:=by with_unfolding_all rfl
 rw[hm];have ap:p≠a:=λz=>by rw[<- z,aJ]at a1;cases a1
 have bp:p≠b:=λz=>by rw[<- z,s2 _ _ aJ]at b1;cases b1
 have ab:a≠b:=λz=>by rw[<- z,a2]at b1;cases b1
 have ha:H a=none:=by rw[aE ap.symm]at a1;exact a1
 have hb:H b=none:=by
  cases q:H b with
  |none=>rfl
  |some o=>rw[s2 _ _ (s1 _ _ q)]at b1;cases b1
 have zz:∀{u:Addr},H u=none->Z.H0 u=none:=λ{u}hu=>by
  let⟨g,R⟩:=R;cases q:Z.H0 u with
  |none=>rfl
  |some o=>exact absurd hu (R.there u (by rw[q];simp))
 have cn:∀{u:Addr},H u=none->cc≠u:=λ{u}hu z=>by rw[<- z,z3]at hu;cases hu
 have T:aPG Z p a b cc:=⟨zz hp,zz ha,zz hb,cn hp,cn ha,cn hb,ap,bp,ab⟩;have Rn:cB X.K Z ow F (aV H3 p (.dK (Ģ a b cc))) (σ.set n (some (.ref p))) (δ.set n none):=by
  have R1:cB X.K Z ow F H3 σ δ:=let ⟨g,R⟩:=R;⟨g,R.grow ((s1.trans' s2).trans' s3)⟩
  let⟨g,R2⟩:=R1.setN (n:=n) (v:=some (.ref p)) hn0;exact⟨g,R2.updF o1 o2 (by rw[Ù o6.symm];exact z2) T.cp (R.fnone hp) T.zp⟩
 have I0:rO X.K Z ow c n p a b cc (x,y,w) F (aV H3 p (.dK (Ģ a b cc))) (σ.set n (some (.ref p))) ((δ.set c none).set n none):=by
  refine⟨?_,?_,?_,?_,?_,aJ,?_,?_,R.fnone hp,R.fnone ha,R.fnone hb⟩
  .rw[List.set_comm _ _ o6,List.set_set]
   have:(δ.set n none).set c (some (.list (w.map PyData.str)))=δ.set n none:=by
    rw[List.set_comm _ _ o6.symm];congr 1;let⟨hh,ey⟩:=Í.mp y1;rw[<- ey];exact List.set_getElem_self hh
   rw[this];exact Rn
  .rw[Ù o6.symm,ß cl]
  .rw[ß (by rw[Î];exact yc)]
  .obtain⟨g,R⟩:=R
   rw[ß (by rw[<- R.len];exact yc)]
  .rw[Ù o6.symm]
   exact z2
  .rw[aE ap.symm]
   exact s3 _ _ a2
  .rw[aE bp.symm]
   exact b2
 have fin:∀{σ':St}{H' F':Hp}{δ':DS}{N':N3},rO X.K Z ow c n p a b cc N' F' H' σ' δ'->aI F F'->k=k->N'=N->δ'.length=δ.length->Dn.rt (.bl k) H':=λ{σ' H' F' δ' N'}I s' _ hN hL=>by
  subst hN;refine h _ σ' H' F' ow ?_ s';let⟨g,R⟩:=I.rel;refine⟨g,⟨R.sub,R.f0,R.kept,R.new,R.there,R.lab,?_,R.par,λj d e=>?_⟩,by show bD X.K F' (.bool k) (.bl k);unfold bD;rfl⟩
  .rw[Î,î,<- hL,<- R.len,Î]
  .by_cases hj:c=j
   .subst hj
    rw[ß (by rw[î];exact cl)]at e;refine R.slot c d ?_;rw[ß (by rw[hL];exact cl)];exact e
   .rw[Ù hj,ÿ]at e
    split at e<;>cases e
 let⟨vl,w1,w2⟩:=I0.at o1 (j:=l) (d:=.list ds) (by rw[Ù y9.symm,Ù y8.symm];exact y2);let⟨al,xl,rfl,w3,w4⟩:=jI w2;refine⟨_,w1,.inl ⟨al,rfl,⟨xl,I0.rel.sub.seq w3⟩,?_⟩⟩;refine TM (xs:=xl) (λi σ' H'=>∃F' δ' N',rO X.K Z ow c n p a b cc N' F' H' σ' δ'/\aI F F'/\δ'.length=δ.length/\iC n e s t1 fs t2 fk fy (ds.drop i) N' δ'=some (k,N)) ⟨F,_,_,I0,aI.refl _,by rw[Î,Î],yd⟩ ?_ ?_ ?_
 .rintro i σ' H' _ ⟨F',δ',N',I,s',_⟩
  exact(s'.trans' I.rel.sub).seq w3
 .rintro i xv σ' H' hx ⟨F',δ',N',I,s',hL,hS⟩
  have hi:i<ds.length:=by rw[w4.len];exact(Í.mp hx).1
  have hd:=Ê hi;rw[ñ hi]at hS;have rx:=s'.rep _ _ (w4.both i _ xv hd hx);generalize ds[i]=d0 at *;have I1:=I.store S (X:=X) rfl rx (i:=e) (by rw[hL];exact ya) (cP o4) ob (Q3 o1 (Ñ o7)) (Ñ o7) (Ñ o9);refine HS hS (λd1 g1 g2=>?_) (λd1 dv d2 d3 g1 g2 g3 g4=>?_) λd1 dv d2 d3 k3 d4 z d5 N2 g1 g2 g3 g4 g5 g6 g7=>?_
  .cases g2
   refine I1.test o1 g1 λH2 t2=>?_;exact fin (I1.grow t2) s' rfl rfl (by rw[Î];exact hL)
  .cases g4
   refine I1.test o1 g1 λH2 t2=>?_;refine(I1.grow t2).val o1 g2 λv H3 F3 r3 I3 s3 _=>?_;have I4:=I3.store S (X:=X) rfl r3 (i:=s) (by rw[Î,hL];exact yb) (cP o5) oc (Q3 o1 (Ñ o8)) (Ñ o8) (Ñ oa);refine I4.test2 o1 o2 g3 λH5 t5=>?_;exact fin (I4.grow t5) (s'.trans' s3) rfl rfl (by rw[Î,Î];exact hL)
  .refine I1.test o1 g1 λH2 t2=>?_
   refine(I1.grow t2).val o1 g2 λv H3 F3 r3 I3 s3 _=>?_;have I4:=I3.store S (X:=X) rfl r3 (i:=s) (by rw[Î,hL];exact yb) (cP o5) oc (Q3 o1 (Ñ o8)) (Ñ o8) (Ñ oa);have hL4:((δ'.set e (some d0)).set s (some dv)).length=δ.length:=by rw[Î,Î];exact hL
   refine I4.test2 o1 o2 g3 λH5 t5=>?_;have I5:=I4.grow t5;refine⟨_,I5.sn,I5.val o1 g4 λv6 H6 F6 r6 I6 s6 t6=>?_⟩;unfold bD at r6;subst r6;refine I6.rem T S o1 o2 g6 λll zs m1 m2 m3 m4=>?_;refine⟨p,.ref ll,rfl,by rw[<- m1];exact pL.k (k:=.inr k3) I6.hp,.inl ⟨rfl,_,d8.of m2⟩,?_⟩
   refine I6.val o1 g5 λv7 H7 F7 r7 I7 s7 t7=>?_;unfold bD at r7;subst r7;refine I7.rem T S o1 o2 g6 λll' zs' m1' m2' m3' m4'=>?_;rw[m1]at m1';cases m1';exact⟨ll,zs',z,rfl,rfl,m2',m3',F7,_,N2,m4',((s'.trans' s3).trans' s6).trans' s7,hL4,g7⟩
 .rintro σ' H' ⟨F',δ',N',I,s',hL,hS⟩
  rw[<- w4.len,List.drop_length]at hS;cases hS;exact fin I s' rfl rfl hL
def Q9(l c n e s m:Nat){xl xc xn xe xs:Str}{q1 q2 q3 q4 q5 q6 q7 q8 q9 qa qb qc qd qe qf qg qh qi qj qk ql qm qn qo qp:Pos}{j1 j2 j3 j4 j5 j6}(S:aP Z ow)(hN:X.N.Nodup)(hu:X.A.units+64<cLine)(h1:∀F H σ,DE X (cU F H σ m) 'c' 1 x1 f1)(h2:∀F H σ,DE X (cU F H σ m) 'c' 1 x2 f2)(hc1:∀F H σ,DT X (cU F H σ m) 'c' c1 t1)(hes:∀F H σ,DE X (cU F H σ m) 'c' 0 es fs)(hc2:∀F H σ,DT X (cU F H σ m) 'c' c2 t2)(hk:∀F H σ,DE X (cU F H σ m) 'c' 0 ek fk)(hy:∀F H σ,DE X (cU F H σ m) 'c' 0 ey fy)(ok:↥((nI c ow && ow.getD c 0 == 1 && !Z.ps.contains n && !Z.ps.contains e && !Z.ps.contains s && c != n && c != e && c != s && n != e && n != s && decide (e<ow.length) && decide (s<ow.length))=true))(hl:↥(X.N[l]?=some xl))(hc:↥(X.N[c]?=some xc))(hn:↥(X.N[n]?=some xn))(he:↥(X.N[e]?=some xe))(hs:↥(X.N[s]?=some xs))(vl:#v[AI X.env.scope xl])(vc:#v[AI X.env.scope xc])(vn:#v[AI X.env.scope xn])(dl:⇑((xl == ("__debug__":Str))=false/\(xl == ("__classdict__":Str))=false))(dc:⇑((xc == ("__debug__":Str))=false/\(xc == ("__classdict__":Str))=false))(dn:⇑((xn == ("__debug__":Str))=false/\(xn == ("__classdict__":Str))=false))(ln:#v[S5 X.env.scope xn])(le:#v[S5 X.env.scope xe])(ls:#v[S5 X.env.scope xs])(fn:X.fn xn=true\/X.env.scope.names.lookup xn=some .local:=by first|exact .inl rfl|exact .inr rfl)(fe:X.fn xe=true\/X.env.scope.names.lookup xe=some .local:=by first|exact .inl rfl|exact .inr rfl)(fs':X.fn xs=true\/X.env.scope.names.lookup xs=some .local:=by first|exact .inl rfl|exact .inr rfl)(hp:PassesOwn 'b' X.A X.env X.xe:=by exact PassesOwn.leaving)(hca:↥(X.calm=true))(hf: ~~~(∀x,foldedSetIterable (.Name xl qa) X.env x=pure x))(hw1:↥(swapsWith (.Dict [some (.Constant (.str "off") j1 q1),some (.Constant (.str "back") j2 q2),some (.Constant (.str "on") j3 q3)] [x1,x2,.Name xc q4] q5) (some (.Name xn q6)) q7.line X.env=pure false))(hw2:↥(swapsWith es (some (.Name xs qc)) qd.line X.env=pure false))(hw3:↥(swapsWith (.Call (.Attribute (.Subscript (.Name xn qe) ek qf) "remove" qg) [ey] [] qh) none qi.line X.env=pure false))(hsl:Ś ek:=by exact λ_ _=>rfl)(hbase:↥(attributeBase (.Subscript (.Name xn qe) ek qf) "remove" X.env (eval (.Subscript (.Name xn qe) ek qf) X.env)=eval (.Subscript (.Name xn qe) ek qf) X.env))(hfew:↥(((backTo qh (starEach [ey] X.env)).all (λx=>!x.1) && (backToKw qh (keywordEach [] X.env)).all (λx=>x.1.isSome)
   && decide ([ey].length+([]:List Keyword).length+(if ([]:List Keyword).isEmpty then 0 else 1)<30))=true))(hline:↥((qg.endLine == qh.line)=true))(hst:↥(Zse ey [] X.env))(hplain:↥(Zbt qh [] X.env)):
  BI X Z ow ow' ol ox 0 [.Assign [.Name xn q6] (.Dict [some (.Constant (.str "off") j1 q1),some (.Constant (.str "back") j2 q2),some (.Constant (.str "on") j3 q3)] [x1,x2,.Name xc q4] q5) q7,
   .For (.Name xe q8) (.Name xl qa) [.If c1 [.Return (some (.Constant (.bool false) j4 q9)) qb] [] qj,.Assign [.Name xs qc] es qd,.If c2 [.Return (some (.Constant (.bool false) j5 qk)) ql] [] qm,.Expr (.Call (.Attribute (.Subscript (.Name xn qe) ek qf) "remove" qg) [ey] [] qh) qi] [] qn,
   .Return (some (.Constant (.bool true) j6 qo)) qp] (nK l c n e s f1 f2 t1 fs t2 fk fy):=by
 refine aOO ok λo1 o2 o3 o4 o5 o6 o7 o8 o9 oa ob oc=>?_;refine CY.mono (kL (J4 hN hn ln (aCH (xU CZ (Ϸ m h1) (xU CZ (Ϸ m h2) (xU CZ (c9 hc vc dc.1 dc.2) aCG))) rfl rfl 'f' 'f') hw1 fn)
  (kL (TL hp hca (UF (c9 hl vl dl.1 dl.2)) (cK (i:=e) hN he le fe) (kL (TB (aFF m hc1) (rP (C2 ML)) C1) (kL (J4 hN hs ls (uP m hes) hw2 fs') (kL (TB (aFF m hc2) (rP (C2 ML)) C1)
   (rP (MM (T6 PySem.F.plainAttrs_list PySem.F.slot_list_remove PySem.F.type_list_remove Q5 (N1 ∅ (c9 hn vn dn.1 dn.2) (uP m hk) hsl) (dO (uP m hy) iP hst) hbase hfew hline hst hplain) hw3))))) hf) (rP (C2 ML)))) λDn σ H h=>?_
 exact LC (Ε o3) (Ε o4) (Ε o5) o1 (eq_of_beq o2) (W6 o6) (W6 o7) (W6 o8) (W6 o9) (W6 oa) (of_decide_eq_true ob) (of_decide_eq_true oc) S h
end
end L2
namespace L2
open PySem PySem.Spec
section
end
end L2
set_option maxRecDepth 100000
set_option maxHeartbeats 4000000
open L2 in
seal DE DT DJ BI DV DA DI DO SV PG ĵ ď ı PW
namespace Toy
open PySem L2
@[inline]def top(i:Nat):Stmt:=PySem.Challenge.pw_keel_k65_whole_out_at_their_port.main.body.getD i (.Pass ⟨0,0,0,0⟩)
abbrev qO:Stmt:=top 7
abbrev qP:ZG:=["one","other","rest"]
abbrev LD:Stmt:=top 8
abbrev LF:ZG:=["top","bottom","divisor"]
abbrev EM:Stmt:=top 11
abbrev EN:ZG:=["rooms","lines","tank","room","line"]
abbrev RA:Stmt:=top 12
abbrev RB:ZG:=["line","pivot_line","column","scale","step","share","numbers"]
def sX:(["one","other","line","pivot_line","column","scale","step","share","numbers"]:ZG).Nodup:=by decide +kernel
abbrev W7:Stmt:=top 13
abbrev W8:ZG:=["pivot_line","column","scale","numbers"]
abbrev p9:Stmt:=top 14
abbrev AV:ZG:=["table","below"]
def k5:(["place","line","table","below"]:ZG).Nodup:=by decide +kernel
abbrev EO:Stmt:=top 15
abbrev EQ:ZG:=["table","line","column","best","one","other"]
abbrev ER:Stmt:=top 16
abbrev ES:ZG:=["table","line","best","column"]
abbrev LG:Stmt:=top 17
abbrev LH:ZG:=["table","rows","shares","first_row","first_room","parts"]
abbrev HU:Stmt:=top 18
abbrev HV:ZG:=["table","line","shares","number","share"]
abbrev HW:Stmt:=top 19
abbrev HX:ZG:=["table","rows","place","shares"]
abbrev HY:Stmt:=top 20
abbrev HZ:ZG:=["table","rows","rooms","reached","number","line","fills"]
abbrev uW:Stmt:=WU (top 10) 0
abbrev uX:ZG:=["self","rows","rooms"]
def iH:(["row","top","self","rows","rooms"]:ZG).Nodup:=by decide +kernel
abbrev ET:Stmt:=WU (top 10) 1
abbrev EU:ZG:=["self","place","column","pivot_line","lines","freed"]
abbrev aCP:Stmt:=top 21
abbrev aCQ:ZG:=["rows","rooms","table","place","column"]
abbrev aCR:Stmt:=top 26
abbrev aCS:ZG:=["sums","weight","place"]
abbrev RC:Stmt:=top 27
abbrev RD:ZG:=["ship","cargo","own","sums","stack","boxes","t","box","place"]
abbrev AW:Stmt:=top 28
abbrev AX:ZG:=["tanks","axis","high","sums"]
abbrev EV:Stmt:=top 29
abbrev EW:ZG:=["tanks","axis","low","sums"]
abbrev RE:Stmt:=top 30
abbrev RF:ZG:=["ship","cargo","bounds","tanks","sums"]
abbrev LI:Stmt:=top 32
abbrev LJ:ZG:=["ship"]
abbrev RH:Stmt:=top 33
abbrev RI:ZG:=["ship","cargo"]
abbrev RJ:Stmt:=top 36
abbrev RK:ZG:=["thing"]
abbrev LK:Stmt:=top 37
abbrev LL:ZG:=["ship","s","other","one","two"]
abbrev H8:Stmt:=top 39
abbrev H9:ZG:=["box","names"]
abbrev sY:Stmt:=top 40
abbrev sZ:ZG:=["stack","s","boxes","rules","above","t","box"]
abbrev XA:Stmt:=top 41
abbrev XB:ZG:=["ship","one","other"]
abbrev yH:Stmt:=top 42
abbrev yI:ZG:=["cargo","placed","s","boxes","t","box"]
abbrev yJ:Stmt:=top 43
abbrev yK:ZG:=["ship","cargo","rules","placed","number","one","other"]
abbrev XC:Stmt:=top 44
abbrev XD:ZG:=["ship","cargo","rules","s","boxes"]
abbrev yL:Stmt:=top 46
abbrev yM:ZG:=["boxes","port","t","box"]
abbrev uY:Stmt:=top 47
abbrev uZ:ZG:=["boxes","s","port","lifted","moves"]
abbrev LM:Stmt:=top 48
abbrev LN:ZG:=["cargo","call","moves","s","boxes"]
def qA:(["box","s","cargo","call","moves",".s","boxes"]:ZG).Nodup:=by decide +kernel
abbrev LO:Stmt:=top 49
abbrev LP:ZG:=["cargo","call"]
def qB:(["step","box","cargo","call"]:ZG).Nodup:=by decide +kernel
abbrev LQ:Stmt:=top 50
abbrev LR:ZG:=["cargo","call"]
abbrev XE:Stmt:=top 51
abbrev XF:ZG:=["cargo"]
def IC:(["boxes","cargo"]:ZG).Nodup:=by decide +kernel
abbrev RL:Stmt:=top 52
abbrev RM:ZG:=["cargo","step","box","behind"]
abbrev LS:Stmt:=top 53
abbrev LU:ZG:=["cargo","names","boxes","box"]
abbrev AY:Stmt:=top 54
abbrev AZ:ZG:=["ship","cargo","loads","names","box","s"]
abbrev LV:Stmt:=top 55
abbrev LW:ZG:=["ship","cargo","rules"]
abbrev XG:Stmt:=top 56
abbrev XH:ZG:=["ship","cargo","call","behind","log","step","box","told"]
abbrev XI:Stmt:=top 58
abbrev XJ:ZG:=["ship","cargo","calls","told","call","outcome"]
abbrev ID:Stmt:=top 60
abbrev IE:ZG:=["_law_script","_law_k"]
abbrev XL:Stmt:=top 61
abbrev XM:ZG:=["_law_script","_law_k","_law_many"]
abbrev RN:Stmt:=top 62
abbrev RO:ZG:=["_law_script","_law_k","_law_many"]
abbrev RP:Stmt:=top 63
abbrev RQ:ZG:=["_law_script","_law_k","_law_many"]
abbrev XN:Stmt:=top 64
abbrev XO:ZG:=["_law_script","_law_k","_law_n","_law_letters","_law_many","_law_spot","_law_base","_law_sign"]
abbrev RR:Stmt:=top 65
abbrev RS:ZG:=["_law_script"]
abbrev RT:Stmt:=top 66
abbrev RU:ZG:=["_law_script","_law_s","_law_along","_law_across","_law_high","_law_most","_law_name_here"]
abbrev XQ:Stmt:=top 67
abbrev XR:ZG:=["_law_script","_law_k","_law_along","_law_across","_law_room"]
abbrev XS:Stmt:=top 68
abbrev XT:ZG:=["_law_script","_law_scale_here","_law_own","_law_long","_law_wide_here","_law_most","_law_bounds","_law_stacks","_law_tanks","_law_apart","_law_k","_law_one","_law_other_here"]
abbrev aCT:Stmt:=top 69
abbrev aCU:ZG:=["_law_script","_law_n","_law_scale_here","_law_port","_law_kind","_law_bears"]
abbrev RV:Stmt:=top 70
abbrev RW:ZG:=["_law_script","_law_ship_here","_law_many","_law_cargo_here","_law_n"]
def EY:(["_law_stack_here","_law_script","_law_ship_here","_law_many","_law_cargo_here","_law_n"]:ZG).Nodup:=by decide +kernel
abbrev XU:Stmt:=top 71
abbrev XV:ZG:=["_law_script","_law_ship_here","_law_first","_law_turn","_law_loads","_law_n"]
abbrev IF:Stmt:=top 72
abbrev yN:ZG:=["_law_found","_law_due","_law_kind","_law_k"]
def u0:jM yN (yN.take 2) (bC IF):=HP (by decide +kernel)
abbrev XW:Stmt:=top 73
abbrev XX:ZG:=["_law_ship_here","_law_most","_law_stacks","_law_stack_here"]
abbrev XY:Stmt:=top 74
abbrev XZ:ZG:=["_law_cargo_here","_law_call_here","_law_told","_law_s","_law_loads"]
abbrev LX:Stmt:=top 75
abbrev LY:ZG:=["_law_cargo_here","_law_call_here","_law_told","_law_boxes","_law_below","_law_box_here"]
abbrev aCV:Stmt:=top 76
abbrev aCW:ZG:=["_law_cargo_here","_law_call_here","_law_told","_law_boxes"]
abbrev A0:Stmt:=top 77
abbrev A1:ZG:=["_law_log","_law_out_here","_law_lifted_here","_law_loads","_law_named","_law_entry","_law_step"]
abbrev aLZ:Stmt:=top 78
abbrev aL0:ZG:=["_law_script","_law_ship_here","_law_many","_law_cargo_here","_law_calls","_law_turn","_law_told","_law_here","_law_k","_law_lifted_here","_law_loads"]
abbrev aOQ:Pos:=(DG (dQ p9)).getD ⟨0,0,0,0⟩
set_option genInjectivity false in
set_option genSizeOf false in
structure Txt(K:ZC)(mg:ZD) where
 x0:Fg K mg "greatest_divisor" qO qP 2
 x1:Fg K mg "fraction" LD LF 2
 x2:Fg K mg "room_lines" EM EN 1
 x3:Fg K mg "cleared" RA RB 4
 x4:Fg K mg "turned" W7 W8 3
 x5:Fg K mg "place_below" p9 AV 1
 x6:Fg K mg "goes_ahead" EO EQ 4
 x7:Fg K mg "column_for" ER ES 2
 x8:Fg K mg "parts_of" LG LH 3
 x9:Fg K mg "shares_of" HU HV 2
 x10:Fg K mg "told_none" HW HX 3
 x11:Fg K mg "told_fill" HY HZ 3
 x12:Fd K "__init__" "Table.__init__" uW uX 3
 x13:Fd K "swap" "Table.swap" ET EU 3
 x14:Fg K mg "least" aCP aCQ 2
 x15:Fg K mg "added" aCR aCS 3
 x16:Fg K mg "weights" RC RD 2
 x17:Fg K mg "row_of_high" AW AX 4
 x18:Fg K mg "row_of_low" EV EW 4
 x19:Fg K mg "rows_of" RE RF 2
 x20:Fg K mg "rooms_of" LI LJ 1
 x21:Fg K mg "ballast" RH RI 2
 x22:Fg K mg "is_name" RJ RK 1
 x23:Fg K mg "apart_by" LK LL 3
 x24:Fg K mg "check_box" H8 H9 2
 x25:Fg K mg "broken_in_stack" sY sZ 3
 x26:Fg K mg "far_of" XA XB 3
 x27:Fg K mg "placed_boxes" yH yI 1
 x28:Fg K mg "broken_apart" yJ yK 2
 x29:Fg K mg "broken" XC XD 2
 x30:Fg K mg "lifted_boxes" yL yM 2
 x31:Fg K mg "moves_in_stack" uY uZ 3
 x32:Fg K mg "moves_of" LM LN 2
 x33:Fg K mg "steps_of" LO LP 2
 x34:Fg K mg "moved_at" LQ LR 2
 x35:Fg K mg "copied" XE XF 1
 x36:Fg K mg "stepped" RL RM 3
 x37:Fg K mg "names_in" LS LU 1
 x38:Fg K mg "check_loads" AY AZ 3
 x39:Fg K mg "standing" LV LW 2
 x40:Fg K mg "called" XG XH 3
 x41:Fg K mg "voyage" XI XJ 3
 x42:Fg K mg "_law_cell_at" ID IE 2
 x43:Fg K mg "_law_draw" XL XM 3
 x44:Fg K mg "_law_other" RN RO 3
 x45:Fg K mg "_law_third" RP RQ 3
 x46:Fg K mg "_law_name" XN XO 3
 x47:Fg K mg "_law_scale" RR RS 1
 x48:Fg K mg "_law_stack" RT RU 2
 x49:Fg K mg "_law_tank" XQ XR 2
 x50:Fg K mg "_law_ship" XS XT 1
 x51:Fg K mg "_law_box" aCT aCU 2
 x52:Fg K mg "_law_cargo" RV RW 3
 x53:Fg K mg "_law_call" XU XV 4
 x54:Fg K mg "_law_same" IF yN 2
 x55:Fg K mg "_law_wide" XW XX 1
 x56:Fg K mg "_law_left" XY XZ 2
 x57:Fg K mg "_law_lifted" LX LY 2
 x58:Fg K mg "_law_out" aCV aCW 2
 x59:Fg K mg "_law_steps_are" A0 A1 4
 x60:Fg K mg "law" aLZ aL0 1
 c_Table:Addr
 n_Table:W.nsIn K mainGlobals "Table"=some (some (.ref c_Table))
 q_Table:mg "Table"=some (.ref c_Table)
 cl_Table:SQ K c_Table
 x77:V6 K "Table" "free"
 x78:V6 K "Table" "goal"
 x79:V6 K "Table" "held"
 x80:V6 K "Table" "lines"
 x81:V6 K "Table" "scale"
 mk_Table:Mk K c_Table x12.f
 me_Table_swap:ł K c_Table "swap" x13.f
 lamC:Addr
 lamP:Addr
 lamE:jN K=some (lamC,lamP,aOQ)
 lamF:x5.fd.code=.ref lamC
 x61:mg "abs"=none
 x62:mg "all"=none
 x63:mg "bool"=none
 x64:mg "enumerate"=none
 x65:mg "int"=none
 x66:mg "isinstance"=none
 x67:mg "len"=none
 x68:mg "list"=none
 x69:mg "max"=none
 x70:mg "min"=none
 x71:mg "range"=none
 x72:mg "reversed"=none
 x73:mg "str"=none
 x74:mg "sum"=none
 x75:mg "tuple"=none
 x76:mg "zip"=none
 g_ABOVE:∃t,mg "ABOVE"=some (.int 3 t)
 g_ACROSS:∃t,mg "ACROSS"=some (.int 2 t)
 g_ALONG:∃t,mg "ALONG"=some (.int 1 t)
 g_LONGEST_NAME:∃t,mg "LONGEST_NAME"=some (.int 8 t)
def yO(fn:ZI->Res D):M Fl:=
  (eK (qJ (dB (sC (pZ .tuple .list) (bF 1)))
   (eK (jG 2 (ħ (dB (sC (gA .tuple) (bF 1))) (sC (gA .tuple) (bF 0)) (sC (gA .list) (bF 0))))
   (eK (qJ (P7 (pV (dB (bF 2))) (dB (iF DZ (JW lV [(bF 0)]) (JW lV [(bF 1)]))))
    (pF (dC (.bool false)))
    wZ)
   (eK (nA (setN 3) (pG [(JW lV [(bF 1)])])
    (qJ (pV (dB (iU fn [.val (iF fM (bF 0) (bF 3)),.val (iF fM (bF 1) (bF 3))])))
     (pF (dC (.bool false)))
     wZ))
   (pF (dC (.bool true))))))
   wZ)
  (eK (qJ (dB (sC (gA .str) (bF 1)))
   (pF (mO (sC (gA .str) (bF 0)) (iF SX (bF 0) (bF 1))))
   wZ)
  (pF (mO (sC (gA .int) (bF 0)) (mO (BN (sC (gA .bool) (bF 0))) (iF SX (bF 0) (bF 1)))))))
def s8:Nat->ZI->Res D
 |0=>λ_=>.stuck
 |n+1=>aR 4 [] 0 (yO (s8 n))
abbrev Dq{x:Str}{st:Stmt}{N:ZG}{k:Nat}(p:∀{K mg},Txt K mg->Fg K mg x st N k)(lev:Nat)(ps ow:ZH)(rm:Nat):={b:M Fl // ∀{P:Program}{w:World}{K:ZC}{mg:ZD}{base:Heap}(T:Txt K mg)(_:sT K mg base),(p T).Ok P w mg base lev ps ow rm (aR ow.length ps rm b)}
open PySem.Spec PyProof.Rows in
def mq{x:Str}{st:Stmt}{N:ZG}{k lev rm:Nat}{p:∀{K mg},Txt K mg->Fg K mg x st N k}{ps ow:ZH}{b:M Fl}(h:∀{P:Program}{w:World}{K:ZC}{mg:ZD}{base:Heap}(T:Txt K mg)(_:sT K mg base){cdv:Value}{A:Around}{outer:List Env}{s:Shared}{H:Hp}{E:XK}{F0:Hp}{g0:ZP}{σ0:L2.St}{wf:∀a i q,g0 a=some (i,q)->i∈ps}(_:(p T).fd.code=cdv)(_:fD lev (A.deeper (envOfC x (bC st) s.heap.objs.size (p T).f cdv)))(_:N.Nodup),
  BI (v4 (FP P w K) P w K mg base N x (bC st) (p T).f cdv A outer s H E) ⟨F0,H,g0,ps,σ0,ow,wf⟩ ow ow ow ow rm (dQ st) b)(hs:ĸ N k (bC st)=true:=by decide +kernel)(hN:↥(ow.length=N.length)):(Dq p (lev+1) ps ow rm):=⟨b,λT B=>(p T).okN (λa c d=>h T B a c d) hs hN⟩
abbrev Dn(R:∀(_:Program)(_:World)(K:ZC)(mg:ZD)(_:Heap),Txt K mg->M Fl->Prop):={b:M Fl // ∀{P:Program}{w:World}{K:ZC}{mg:ZD}{base:Heap}(T:Txt K mg)(_:sT K mg base),R P w K mg base T b}
local macro_rules| `(no_index $x:ident)=>`(haveI h:($x).1=?p:=(by unfold $x;dsimp![mq,List.length_cons,List.length_nil,List.set_cons_zero,List.set_cons_succ,List.getD,List.getElem?_cons_zero,List.getElem?_cons_succ,Option.getD_some,List.replicate_succ,List.replicate_zero,List.cons_append,List.nil_append,Nat.reduceAdd];exact rfl);?p)
section
variable {P:Program}{w:World}{K:ZC}{mg:ZD}{base:Heap}
def i9:(Dq Txt.x0 1 [] [0,0,0] 0):=mq λT B=>λhcd hr nd=>(aA (GN PassesOwn.leaving (bL aG (lQ hr.units) sD rx aK (bB _)) (aA (aH 2 aG rx nd) (aA (aH 0 aG rx nd) (aC (aH 1 aG rx nd))))) (aC (aN rx)))
def qQ:M Fl:=no_index i9
def jA:ZI->Res D:=aR 3 [] 0 qQ
def qR:(Dq Txt.x1 2 [] [0,0,0] 0):=mq λT B=>λhcd hr nd=>(aA (bX (bL aG (fE hr.units) iG rx aK (bB _)) (aC fX) aZ) (aA (aH 2 aG (aB (fn:=jA) T.x0 (i9.2 T B) hr (aO (iS aG rQ D1 rfl T.x61 DC rv) (aO (iS aG rQ D1 rfl T.x61 DC rv) cL))) nd) (aA (bX (bL aG pN pX rx aK (bB _)) (aC (aH 2 aG (j9 rx) nd)) aZ) (aC (aN (dJ (aF (DW aG rx rx) (aF (DW aG rx rx) aX))))))))
def qS:M Fl:=no_index qR
def l9:ZI->Res D:=aR 3 [] 0 qS
def s9:(Dq Txt.x2 1 [] [0,0,0,0,0] 0):=mq λT B=>λhcd hr nd=>(aA (aH 1 aG (cI aG aX) nd) (aA (eG 2 3 nd (gR rfl T.x64 rx) (aA (aH 4 aG (UN aG (cC aG (fY "other" (bO rx) (λC fp s H=>bV) (λC fp s H=>aK))) (cC aG (cI aG rv))) nd) (aA (DQ 4 aG aK rx) (bS 4 (aC (bR (cE 1 aG rx))))))) (bS 1 (aC (aN rx)))))
def mB:M Fl:=no_index s9
def tE:ZI->Res D:=aR 5 [] 0 mB
def u1:(Dq Txt.x3 1 [] [0,0,0,0,0,0,0] 0):=mq λT B=>λhcd hr nd=>(aA (aH 4 aG (j9 rx) nd) (aA (aH 5 aG rx nd) (aA (l5 6 (xs:=[ "one" ,"other" ]) aG aG rfl nd (D9 rfl T.x76 rx rx) (λC fp s H=>(t8 rfl (dX (cK (i:=0) sX rfl (Or.inl rfl)) (dX (cK (i:=1) sX rfl (Or.inl rfl)) oC)))) (sG (is:=[0,1]) aG (by intro i hi;simp![Ø,ì,or_false]at hi;rcases hi with rfl|rfl<;>exact⟨⋯,cP rfl,⋯,rfl⟩) rfl) (λC fp s H=>bV) (λC fp s H=>(DW aG rx rx))) (aA (DQ 6 aG rx rx) (bS 6 (aC (aN rx)))))))
def u2:M Fl:=no_index u1
def u3:ZI->Res D:=aR 7 [] 0 u2
def IG:(Dq Txt.x4 1 [] [0,0,0,0] 0):=mq λT B=>λhcd hr nd=>(aA (dD 3 "one" nd (bO rx) (λC fp s H=>bV) (λC fp s H=>(j9 rx))) (aA (DQ 3 aG (j9 rx) rx) (bS 3 (aC (aN rx)))))
def yP:M Fl:=no_index IG
def IH:ZI->Res D:=aR 4 [] 0 yP
def kC:(Dq Txt.x5 1 [] [0,0] 0):=mq λT B=>λhcd hr nd=>(aA (l5 1 (xs:=[ "place" ,"line" ]) aG aG rfl nd (gR rfl T.x64 (dM "Table" T.x80 rx)) (λC fp s H=>(t8 rfl (dX (cK (i:=0) k5 rfl (Or.inl rfl)) (dX (cK (i:=1) k5 rfl (Or.inl rfl)) oC)))) (sG (is:=[0,1]) aG (by intro i hi;simp![Ø,ì,or_false]at hi;rcases hi with rfl|rfl<;>exact⟨⋯,cP rfl,⋯,rfl⟩) rfl) (λC fp s H=>(l0 (bL aG pN pX (fG aG rx (j9 aK)) aK (bB _)))) (λC fp s H=>rx)) (aC (aN (uK 2 (λF H σ=>(QX 0 "Table" (hr.mono (í _)) rfl rfl T.x70 B T.lamE (hcd.symm.trans T.lamF) T.x79 rx ⟨by ac_nf0,rfl,rfl,rfl,rfl⟩ (λ_ _ _ _=>rfl) ⋯ ⋯ ⋯ ⋯))))))
def kE:M Fl:=no_index kC
def b9:ZI->Res D:=aR 2 [] 0 kE
def tF:(Dq Txt.x6 1 [] [0,0,0,0,0,0] 0):=mq λT B=>λhcd hr nd=>(aA (aH 4 aG (gH aG (fG aG (dM "Table" T.x78 rx) rx) (j9 rx)) nd) (aA (aH 5 aG (gH aG (fG aG (dM "Table" T.x78 rx) rx) (j9 rx)) nd) (aC (aN (aKV (m7 aG pN pX rx rx (bB _)) (uI (uJ (m7 aG (fE hr.units) iG rx rx (bB _)) (uI (m7 aG pN pX (fG aG (dM "Table" T.x77 rx) rx) (fG aG (dM "Table" T.x77 rx) rx) (bB _))))))))))
def mC:M Fl:=no_index tF
def tG:ZI->Res D:=aR 6 [] 0 mC
def tH:(Dq Txt.x7 2 [] [0,0,0,0] 0):=mq λT B=>λhcd hr nd=>(aA (aH 2 aG wY nd) (aA (dW 3 nd (dL rfl T.x71 (bQ aG rfl T.x67 (dM "Table" T.x77 rx))) (aC (bX (jP (aGX (bL aG pN pX rx aK (bB _)) (aA9 (jP (pW (bL aG (UA.or TR) τ rx wY (bB _)) (qM (dS (aB (fn:=tG) T.x6 (tF.2 T B) hr ra)))))))) (aC (aH 2 aG rx nd)) aZ))) (aC (aN rx))))
def iO:M Fl:=no_index tH
def mD:ZI->Res D:=aR 4 [] 0 iO
def qT:(Dq Txt.x8 3 [] [0,0,0,0,0,0] 0):=mq λT B=>λhcd hr nd=>(aA (aH 3 aG (bQ aG rfl T.x67 (dM "Table" T.x77 rx)) nd) (aA (aH 4 aG (bM aG rx (bQ aG rfl T.x67 rx)) nd) (aA (dD 5 "number" nd (dL rfl T.x71 (bM aG rx (bQ aG rfl T.x67 (dM "Table" T.x77 rx)))) (λC fp s H=>bV) (λC fp s H=>(aB (fn:=l9) T.x1 (qR.2 T B) hr (aO (N9 hr.units rx rx aK) (aO (dM "Table" T.x81 rx) cL))))) (aC (aN (dJ (aF (cC aG (U8 5 aG (jQ rx) (jQ rx))) (aF (cC aG (U8 5 aG (jQ rx) oN)) aX))))))))
def qU:M Fl:=no_index qT
def qV:ZI->Res D:=aR 6 [] 0 qU
def nL:(Dq Txt.x9 1 [] [0,0,0,0,0] 30):=mq λT B=>λhcd hr nd=>(aA (aH 2 aG (EH aG) nd) (aA (eG 3 4 nd (D9 rfl T.x76 (dM "Table" T.x77 rx) (cC aG (nC aG v9 D4 rx oN (jQ (j9 aK))))) (aC (sS 2 hr.units rx rx))) (aC (aN (ED 2 aG)))))
def nM:M Fl:=no_index nL
def nN:ZI->Res D:=aR 5 [] 30 nM
def vW:(Dq Txt.x10 4 [] [0,0,0,0] 0):=mq λT B=>λhcd hr nd=>(aA (aH 3 aG (aB (fn:=nN) T.x9 (nL.2 T B) hr (aO rx (aO (fG aG (dM "Table" T.x80 rx) rx) cL))) nd) (aA (sS 3 hr.units (dM "Table" T.x81 rx) (fG aG (dM "Table" T.x79 rx) rx)) (bS 3 (aC (aN (dJ (aF fU (aF (aB (fn:=qV) T.x8 (qT.2 T B) hr ra) aX))))))))
def nO:M Fl:=no_index vW
def nQ:ZI->Res D:=aR 4 [] 0 nO
def vX:(Dq Txt.x11 4 [] [0,0,0,0,0,0,0] 0):=mq λT B=>λhcd hr nd=>(aA (aH 3 aG (EH aG) nd) (aA (eG 4 5 nd (D9 rfl T.x76 (dM "Table" T.x79 rx) (dM "Table" T.x80 rx)) (aC (sS 3 hr.units (fG aG rx (j9 aK)) rx))) (bS 3 (aA (dD 6 "number" nd (dL rfl T.x71 (bQ aG rfl T.x67 rx)) (λC fp s H=>bV) (λC fp s H=>(aB (fn:=l9) T.x1 (qR.2 T B) hr (aO (N9 hr.units rx rx aK) (aO (dM "Table" T.x81 rx) cL))))) (bS 6 (aC (aN (dJ (aF fU (aF rx (aF (aB (fn:=qV) T.x8 (qT.2 T B) hr (aO rx (aO rx (aO (cC aG (aB (fn:=nN) T.x9 (nL.2 T B) hr (aO rx (aO (dM "Table" T.x78 rx) cL)))) cL)))) aX)))))))))))
def nR:M Fl:=no_index vX
def nS:ZI->Res D:=aR 7 [] 0 nR
def k6:(Dn λP w K mg base T b=>T.x12.Ok P w mg base 2 [0] [20,0,0] 0 (aR 3 [0] 0 b)):=⟨_,λT B=>T.x12.okN λhcd hr nd=>(aA (nE 0 "Table" aG T.x81 aK) (aA (nE 0 "Table" aG T.x77 (WM aG rfl rfl T.x68 rfl T.x71 (bQ aG rfl T.x67 rx))) (aA (nE 0 "Table" aG T.x79 (WN aG rfl rfl T.x68 rfl T.x71 (bQ aG rfl T.x67 rx) (bM aG (bM aG (bQ aG rfl T.x67 rx) (bQ aG rfl T.x67 rx)) (bQ aG rfl T.x67 rx)))) (aA (nE 0 "Table" aG T.x80 (bM aG (cC aG (sE (xs:=[ "row" ,"top" ]) aG aG rfl (bO rx) (λC fp s H=>(t8 rfl (dX (cK (i:=0) iH rfl (Or.inl rfl)) (dX (cK (i:=1) iH rfl (Or.inl rfl)) oC)))) (sG (is:=[0,1]) aG (by intro i hi;simp![Ø,ì,or_false]at hi;rcases hi with rfl|rfl<;>exact⟨⋯,cP rfl,⋯,rfl⟩) rfl) (λC fp s H=>bV) (λC fp s H=>(bM aG (cC aG (uE aG lO D2 rfl T.x68 iJ rv)) (cC aG (cI aG rv)))))) (aB (fn:=tE) T.x2 (s9.2 T B) hr ra))) (aC (nE 0 "Table" aG T.x78 (bM aG (cC aG (fY "room" (bO rx) (λC fp s H=>bV) (λC fp s H=>aK))) (cC aG (cI aG rv)))))))))⟩
def gM:M Fl:=no_index k6
def k7:ZI->Res D:=aR 3 [0] 0 gM
def tJ(T:Txt K mg)(B:sT K mg base):T.x12.Ok P w mg base 2 [0] [20,0,0] 0 k7:=k6.2 T B
def tK:(Dn λP w K mg base T b=>T.x13.Ok P w mg base 2 [0] [20,0,0,0,0,0] 0 (aR 6 [0] 0 b)):=⟨_,λT B=>T.x13.okN λhcd hr nd=>(aA (aH 3 aG (fG aG (oR 0 "Table" T.x80) rx) nd) (aA (dD 4 "line" nd (bO (oR 0 "Table" T.x80)) (λC fp s H=>bV) (λC fp s H=>(aB (fn:=u3) T.x3 (u1.2 T B) hr (aO rx (aO rx (aO rx (aO (oR 1 "Table" T.x81) cL))))))) (aA (DQ 4 aG (aB (fn:=IH) T.x4 (IG.2 T B) hr (aO rx (aO rx (aO (oR 0 "Table" T.x81) cL)))) rx) (aA (nE 0 "Table" aG T.x78 (aB (fn:=u3) T.x3 (u1.2 T B) hr (aO (oR 0 "Table" T.x78) (aO rx (aO rx (aO (oR 0 "Table" T.x81) cL)))))) (bS 4 (aA (nE 0 "Table" aG T.x80 rx) (aA (nE 0 "Table" aG T.x81 (j9 rx)) (aA (aH 5 aG (uK 6 (λF H σ=>(fG aG (dM "Table" T.x79 rx) rx))) nd) (aA (BZ 0 6 "Table" aG T.x79 (uK 6 (λF H σ=>(fG aG (dM "Table" T.x77 rx) rx))) (λF H σ=>rx)) (aC (BZ 0 6 "Table" aG T.x77 rx (λF H σ=>rx))))))))))))⟩
def mE:M Fl:=no_index tK
def mF:ZI->Res D:=aR 6 [0] 0 mE
def A5(T:Txt K mg)(B:sT K mg base):T.x13.Ok P w mg base 2 [0] [20,0,0,0,0,0] 0 mF:=tK.2 T B
def OK:(Dq Txt.x14 5 [] [0,0,0,0,0] 0):=mq λT B=>λhcd hr nd=>(aA (aH 2 aG (aCA 5 aG ⟨T.n_Table,T.cl_Table⟩ T.mk_Table (tJ T B) (hr.mono ⋯) (by rfl) T.q_Table T.x12.b ra 20) nd) (aA (aH 3 aG (uK 5 (λF H σ=>(aB (fn:=b9) T.x5 (kC.2 T B) hr ra))) nd) (aA (GN PassesOwn.leaving (bL aG (aA3.or aAN) UR rx wY (bB _)) (aA (aH 4 aG (uK 5 (λF H σ=>(aB (fn:=mD) T.x7 (tH.2 T B) hr (aO rx (aO (fG aG (dM "Table" T.x80 rx) rx) cL))))) nd) (aA (bX (bL aG (UA.or TR) τ rx wY (bB _)) (bS 2 (aC (aN (aB (fn:=nQ) T.x10 (vW.2 T B) hr ra)))) aZ) (aA (bR (aB9 2 aG ⟨T.n_Table,T.cl_Table⟩ T.me_Table_swap (A5 T B) (hr.mono ⋯) T.x13.b ra)) (aC (aH 3 aG (uK 5 (λF H σ=>(aB (fn:=b9) T.x5 (kC.2 T B) hr ra))) nd)))))) (bS 2 (aC (aN (aB (fn:=nS) T.x11 (vX.2 T B) hr ra)))))))
def EZ:M Fl:=no_index OK
def E0:ZI->Res D:=aR 5 [] 0 EZ
def E1:(Dq Txt.x15 1 [] [0,0,0] 0):=mq λT B=>λhcd hr nd=>(aC (aN rx))
def E2:M Fl:=no_index E1
def wF:ZI->Res D:=aR 3 [] 0 E2
def B6:(Dq Txt.x16 2 [] [0,0,0,0,0,0,0,0,0] 0):=mq λT B=>λhcd hr nd=>(aA (aH 2 aG rx nd) (aA (aH 3 aG (aB (fn:=wF) T.x15 (E1.2 T B) hr (aO rx (aO rx (aO (nC aG T2 UV rx (jQ aK) oN) cL)))) nd) (aA (eG 4 5 nd (D9 rfl T.x76 rx rx) (aC (eG 6 7 nd (gR rfl T.x64 rx) (aA (aH 8 aG rx nd) (aC (aH 3 aG (aB (fn:=wF) T.x15 (E1.2 T B) hr ra) nd)))))) (aC (aN rx)))))
def u4:M Fl:=no_index B6
def B7:ZI->Res D:=aR 9 [] 0 u4
def gS:(Dq Txt.x17 1 [] [0,0,0,0] 0):=mq λT B=>λhcd hr nd=>(aC (aN (dJ (aF (cC aG (fY "tank" (bO rx) (λC fp s H=>bV) (λC fp s H=>rx))) rv))))
def kF:M Fl:=no_index gS
def gT:ZI->Res D:=aR 4 [] 0 kF
def mG:(Dq Txt.x18 1 [] [0,0,0,0] 0):=mq λT B=>λhcd hr nd=>(aC (aN (dJ (aF (cC aG (fY "tank" (bO rx) (λC fp s H=>bV) (λC fp s H=>rx))) rv))))
def mH:M Fl:=no_index mG
def mJ:ZI->Res D:=aR 4 [] 0 mH
def B8:(Dq Txt.x19 3 [] [0,0,0,0,0] 0):=mq λT B=>λhcd hr nd=>(aA (aH 2 aG rx nd) (aA (aH 3 aG rx nd) (aA (aH 4 aG (aB (fn:=B7) T.x16 (B6.2 T B) hr ra) nd) (aC (aN (cC aG (cI aG (aF (aB (fn:=gT) T.x17 (gS.2 T B) hr (aO rx (aO (oO rfl T.g_ALONG) ra))) (aF (aB (fn:=mJ) T.x18 (mG.2 T B) hr (aO rx (aO (oO rfl T.g_ALONG) ra))) (aF (aB (fn:=gT) T.x17 (gS.2 T B) hr (aO rx (aO (oO rfl T.g_ACROSS) ra))) (aF (aB (fn:=mJ) T.x18 (mG.2 T B) hr (aO rx (aO (oO rfl T.g_ACROSS) ra))) (aF (aB (fn:=gT) T.x17 (gS.2 T B) hr (aO rx (aO (oO rfl T.g_ABOVE) ra))) (aF (dJ (aF (cC aG (fY "tank" (bO rx) (λC fp s H=>bV) (λC fp s H=>aK))) rv)) aX)))))))))))))
def u5:M Fl:=no_index B8
def u6:ZI->Res D:=aR 5 [] 0 u5
def yQ:(Dq Txt.x20 1 [] [0] 0):=mq λT B=>λhcd hr nd=>(aC (aN (cC aG (fY "tank" (bO rx) (λC fp s H=>bV) (λC fp s H=>rx)))))
def qW:M Fl:=no_index yQ
def qX:ZI->Res D:=aR 1 [] 0 qW
def B9:(Dq Txt.x21 6 [] [0,0] 0):=mq λT B=>λhcd hr nd=>(aC (aN (aB (fn:=E0) T.x14 (OK.2 T B) hr (aO (aB (fn:=u6) T.x19 (B8.2 T B) hr ra) (aO (aB (fn:=qX) T.x20 (yQ.2 T B) hr ra) cL)))))
def u7:M Fl:=no_index B9
def CC:ZI->Res D:=aR 2 [] 0 u7
def k8:(Dq Txt.x22 1 [] [0] 0):=mq λT B=>λhcd hr nd=>(aA (bX (fL (dS (iA .str rfl rfl T.x66 rfl T.x73 KN rx))) (aC (aN mN)) aZ) (aC (aN (uJ (GT aG TQ UQ TQ UQ aK (bQ aG rfl T.x67 rx) (oO rfl T.g_LONGEST_NAME)) (uI (iS aG (GW rfl) aHE rfl T.x62 aGT (aF (cC aG (fY "sign" (aHB rx) (λC fp s H=>bV) (λC fp s H=>(GT aG BQ UX BQ UX fU rx fU)))) aX)))))))
def oU:M Fl:=no_index k8
def gN:ZI->Res D:=aR 1 [] 0 oU
def yR:(Dq Txt.x23 1 [] [0,0,0,0,0] 0):=mq λT B=>λhcd hr nd=>(aA (aH 3 aG rx nd) (aA (aH 4 aG rx nd) (aC (aN (bM aG (iS aG rQ D1 rfl T.x61 DC rv) (iS aG rQ D1 rfl T.x61 DC rv))))))
def qY:M Fl:=no_index yR
def yS:ZI->Res D:=aR 5 [] 0 qY
def vY:(Dq Txt.x24 2 [1] [0,30] 0):=mq λT B=>λhcd hr nd=>(aA (bX (fL (dS (aB (fn:=gN) T.x22 (k8.2 T B) hr ra))) (aC fX) aZ) (aA (bX (aHN 2 (λF H σ=>(aIX hr.units rx rx))) (aC fX) aZ) (aA (bX (bL aG pN pX rx aK (bB _)) (aC fX) aZ) (aA (bX (fL (dS (aB (fn:=gN) T.x22 (k8.2 T B) hr ra))) (aC fX) aZ) (aA (bX (fL (dS (aB (fn:=gN) T.x22 (k8.2 T B) hr ra))) (aC fX) aZ) (aC (bX (bL aG pN pX rx aK (bB _)) (aC fX) aZ)))))))
def gW:M Fl:=no_index vY
def nT:ZI->Res D:=aR 2 [1] 0 gW
def jS:(Dq Txt.x25 1 [] [0,0,0,0,0,0,0] 0):=mq λT B=>λhcd hr nd=>(aA (aH 3 aG (cI aG aX) nd) (aA (aH 4 aG (iS aG (D7 rfl) aHK rfl T.x74 aHQ (aF (cC aG (fY "box" (bO rx) (λC fp s H=>bV) (λC fp s H=>rx))) aX)) nd) (aA (bX (bL aG BB BO (bQ aG rfl T.x67 rx) rx (bB _)) (aC (bR (cE 3 aG rx))) aZ) (aA (bX (bL aG BB BO rx rx (bB _)) (aC (bR (cE 3 aG rx))) aZ) (aA (eG 5 6 nd (gR rfl T.x64 rx) (aA (aH 4 aG rx nd) (aC (bX (bL aG BB BO rx rx (bB _)) (aC (bR (cE 3 aG rx))) aZ)))) (bS 3 (aC (aN rx))))))))
def f7:M Fl:=no_index jS
def jT:ZI->Res D:=aR 7 [] 0 f7
def II:(Dq Txt.x26 1 [] [0,0,0] 0):=mq λT B=>λhcd hr nd=>(aC (aN (aBY rfl rfl T.x69 (cC aG (fY "row" (bO rx) (λC fp s H=>(l0 (bL aG (aIC hr.units) aID (nC aG T2 UV rx oN (jQ aK)) rx (by with_unfolding_all rfl)))) (λC fp s H=>rx))) aK)))
def yT:M Fl:=no_index II
def IJ:ZI->Res D:=aR 3 [] 0 yT
def nU:(Dq Txt.x27 1 [] [0,0,0,0,0,0] 0):=mq λT B=>λhcd hr nd=>(aA (aH 1 aG (cI aG aX) nd) (aA (eG 2 3 nd (gR rfl T.x64 rx) (aC (eG 4 5 nd (gR rfl T.x64 rx) (aC (bR (cE 1 aG rx)))))) (bS 1 (aC (aN rx)))))
def jB:M Fl:=no_index nU
def nV:ZI->Res D:=aR 6 [] 0 jB
def nW:(Dq Txt.x28 2 [] [0,0,0,0,0,0,0] 0):=mq λT B=>λhcd hr nd=>(aA (aH 2 aG (cI aG aX) nd) (aA (aH 3 aG (aB (fn:=nV) T.x27 (nU.2 T B) hr ra) nd) (aA (eG 4 5 nd (gR rfl T.x64 rx) (aC (dW 6 nd (bO (cC aG (nC aG v9 D4 rx (jQ rx) oN))) (aC (bX (bL aG BB BO (aB (fn:=IJ) T.x26 (II.2 T B) hr ra) (aB (fn:=yS) T.x23 (yR.2 T B) hr ra) (bB _)) (aC (bR (cE 2 aG rx))) aZ))))) (bS 2 (aC (aN rx))))))
def jC:M Fl:=no_index nW
def nX:ZI->Res D:=aR 7 [] 0 jC
def IK:(Dq Txt.x29 3 [] [0,0,0,0,0] 0):=mq λT B=>λhcd hr nd=>(aA (aH 2 aG (cI aG aX) nd) (aA (eG 3 4 nd (gR rfl T.x64 rx) (aC (bR (qK 2 aG PySem.F.slot_list_extend PySem.F.type_list_extend oP gJ (aF (aB (fn:=jT) T.x25 (jS.2 T B) hr ra) aX))))) (aA (bR (qK 2 aG PySem.F.slot_list_extend PySem.F.type_list_extend oP gJ (aF (aB (fn:=nX) T.x28 (nW.2 T B) hr ra) aX))) (bS 2 (aC (aN rx))))))
def yU:M Fl:=no_index IK
def IL:ZI->Res D:=aR 5 [] 0 yU
def nY:(Dq Txt.x30 1 [] [0,0,0,0] 0):=mq λT B=>λhcd hr nd=>(aA (eG 2 3 nd (gR rfl T.x64 rx) (aC (bX (bL aG (fE hr.units) iG rx rx (bB _)) (aC (aN (cC aG (nC aG v9 D4 rx (jQ rx) oN)))) aZ))) (aC (aN (cC aG (cI aG aX)))))
def jD:M Fl:=no_index nY
def nZ:ZI->Res D:=aR 4 [] 0 jD
def k9:(Dq Txt.x31 2 [] [0,0,0,0,0] 0):=mq λT B=>λhcd hr nd=>(aA (aH 3 aG (aB (fn:=nZ) T.x30 (nY.2 T B) hr ra) nd) (aA (dD 4 "box" nd (aIH rfl T.x72 rx) (λC fp s H=>bV) (λC fp s H=>rx)) (aA (bR (qK 4 aG PySem.F.slot_list_extend PySem.F.type_list_extend oP gJ (aF (cC aG (fY "box" (bO rx) (λC fp s H=>(l0 (bL aG (lQ hr.units) sD rx rx (bB _)))) (λC fp s H=>rx))) aX))) (bS 4 (aC (aN rx))))))
def gO:M Fl:=no_index k9
def lB:ZI->Res D:=aR 5 [] 0 gO
def qZ:(Dq Txt.x32 3 [] [0,0,0,0,0] 0):=mq λT B=>λhcd hr nd=>(aA (aH 2 aG (cI aG aX) nd) (aA (eG 3 4 nd (gR rfl T.x64 rx) (aC (bR (qK 2 aG PySem.F.slot_list_extend PySem.F.type_list_extend oP gJ (aF (aB (fn:=lB) T.x31 (k9.2 T B) hr ra) aX))))) (aA (bR (qK 2 aG PySem.F.slot_list_extend PySem.F.type_list_extend oP gJ (aF (cC aG (sE (xs:=[ "box" ,"s" ]) aG aG rfl (bO rx) (λC fp s H=>(t8 rfl (dX (cK (i:=0) qA rfl (Or.inl rfl)) (dX (cK (i:=1) qA rfl (Or.inl rfl)) oC)))) (sG (is:=[0,1]) aG (by intro i hi;simp![Ø,ì,or_false]at hi;rcases hi with rfl|rfl<;>exact⟨⋯,cP rfl,⋯,rfl⟩) rfl) (λC fp s H=>bV) (λC fp s H=>rx))) aX))) (bS 2 (aC (aN rx))))))
def rA:M Fl:=no_index qZ
def mK:ZI->Res D:=aR 5 [] 0 rA
def yV:(Dq Txt.x33 4 [] [0,0] 0):=mq λT B=>λhcd hr nd=>(aC (aN (cC aG (sE (xs:=[ "step" ,"box" ]) aG aG rfl (bO (aB (fn:=mK) T.x32 (qZ.2 T B) hr ra)) (λC fp s H=>(t8 rfl (dX (cK (i:=0) qB rfl (Or.inl rfl)) (dX (cK (i:=1) qB rfl (Or.inl rfl)) oC)))) (sG (is:=[0,1]) aG (by intro i hi;simp![Ø,ì,or_false]at hi;rcases hi with rfl|rfl<;>exact⟨⋯,cP rfl,⋯,rfl⟩) rfl) (λC fp s H=>bV) (λC fp s H=>rx)))))
def rB:M Fl:=no_index yV
def yW:ZI->Res D:=aR 2 [] 0 rB
def yX:(Dq Txt.x34 5 [] [0,0] 0):=mq λT B=>λhcd hr nd=>(aC (aN (cC aG (fY "step" (bO (aB (fn:=yW) T.x33 (yV.2 T B) hr ra)) (λC fp s H=>(l0 (bL aG (fE hr.units) iG rx fU (bB _)))) (λC fp s H=>rx)))))
def rC:M Fl:=no_index yX
def rD:ZI->Res D:=aR 2 [] 0 rC
def yY:(Dq Txt.x35 1 [] [0] 2):=mq λT B=>λhcd hr nd=>(aC (aN (QM (xs:=[ "boxes" ]) 2 aG aG rfl (bO rx) (λC fp s H=>(cK (i:=0) IC rfl (Or.inl rfl))) (nB aG ⋯ (cP rfl) ⋯ rfl) (λC fp s H F1 H1 σ1=>(uE aG lO D2 rfl T.x68 iJ rv)))))
def yZ:M Fl:=no_index yY
def y0:ZI->Res D:=aR 1 [] 2 yZ
def CD:(Dq Txt.x36 2 [] [0,0,0,0] 2):=mq λT B=>λhcd hr nd=>(aA (aH 3 aG (aB (fn:=y0) T.x35 (yY.2 T B) hr ra) nd) (aA (bX (bL aG (fE hr.units) iG rx fU (bB _)) (aC (bR (VX 3 4 PySem.F.slot_list_pop PySem.F.type_list_pop aGS aB1 (λF H σ=>rx)))) (aC (bR (NS 3 4 PySem.F.slot_list_append PySem.F.type_list_append uC qL (λF H σ=>rx) (λF H σ=>rv))))) (aC (aN (ED 3 aG)))))
def lC:M Fl:=no_index CD
def oV:ZI->Res D:=aR 4 [] 2 lC
def zC:(Dq Txt.x37 1 [] [0,0,0,0] 30):=mq λT B=>λhcd hr nd=>(aA (aH 1 aG (EH aG) nd) (aA (dW 2 nd (bO rx) (aC (dW 3 nd (bO rx) (aC (sS 1 hr.units mN rx))))) (aC (aN (ED 1 aG)))))
def rF:M Fl:=no_index zC
def zD:ZI->Res D:=aR 4 [] 30 rF
def qC:(Dq Txt.x38 3 [] [0,0,0,0,0,0] 0):=⟨_,λT B=>T.x38.okM [0,0,0,30,0,0] λhcd hr nd=>(aA (aH 3 aG (aB (fn:=zD) T.x37 (zC.2 T B) hr ra) nd) (aC (eG 4 5 nd (bO rx) (aA (bX (fL (US aG TQ UQ pN pX aK rx (bQ aG rfl T.x67 rx))) (aC fX) aZ) (aA (bR (aB (fn:=nT) T.x24 (vY.2 T B) hr (aO rx (UD 3 cL)))) (aC (sS 3 hr.units mN rx)))))))⟩
def fH:M Fl:=no_index qC
def kG:ZI->Res D:=aR 6 [] 0 fH
def zE:(Dq Txt.x39 7 [] [0,0,0] 0):=mq λT B=>λhcd hr nd=>(aA (aH 2 aG (aB (fn:=IL) T.x29 (IK.2 T B) hr ra) nd) (aA (bX (aIZ rx) (aC (aN rx)) aZ) (aC (aN (aB (fn:=CC) T.x21 (B9.2 T B) hr ra)))))
def rG:M Fl:=no_index zE
def zF:ZI->Res D:=aR 3 [] 0 rG
def IN:(Dq Txt.x40 8 [] [0,0,0,0,0,0,0,0] 0):=mq λT B=>λhcd hr nd=>(aA (bX (fL (dS (aB (fn:=gN) T.x22 (k8.2 T B) hr ra))) (aC fX) aZ) (aA (bR (aB (fn:=kG) T.x38 (qC.2 T B) hr ra)) (aA (aH 3 aG (cC aG (aB (fn:=y0) T.x35 (yY.2 T B) hr ra)) nd) (aA (aH 4 aG (cI aG aX) nd) (aA (eG 5 6 nd (bO (aB (fn:=mK) T.x32 (qZ.2 T B) hr ra)) (aA (aH 3 aG (cC aG (aB (fn:=oV) T.x36 (CD.2 T B) hr ra)) nd) (aA (aH 7 aG (aB (fn:=zF) T.x39 (zE.2 T B) hr ra) nd) (aA (bX (bL aG (lQ hr.units) sD rx fU (bB _)) (aC (aN (dJ (aF fU (aF (MX 4 rfl T.x67) rv))))) aZ) (aC (bR (cE 4 aG rx))))))) (bS 4 (aC (aN (dJ (aF fU (aF rx (aF rx (aF (aB (fn:=rD) T.x34 (yX.2 T B) hr ra) aX)))))))))))))
def zG:M Fl:=no_index IN
def tL:ZI->Res D:=aR 8 [] 0 zG
def IP:(Dq Txt.x41 9 [] [0,0,0,0,0,0] 0):=mq λT B=>λhcd hr nd=>(aA (aH 3 aG (cI aG aX) nd) (aA (dW 4 nd (bO rx) (aA (aH 5 aG (aB (fn:=tL) T.x40 (IN.2 T B) hr ra) nd) (aA (bR (cE 3 aG rx)) (aA (bX (bL aG (fE hr.units) iG rx fU (bB _)) (bS 3 (aC (aN rx))) aZ) (aC (aH 1 aG rx nd)))))) (bS 3 (aC (aN rx)))))
def zH:M Fl:=no_index IP
def IQ:ZI->Res D:=aR 6 [] 0 zH
def jU:(Dq Txt.x42 1 [] [0,0] 0):=mq λT B=>λhcd hr nd=>(aA (bX (bL aG pN pX rx (bQ aG rfl T.x67 rx) (bB _)) (aC (aN rx)) aZ) (aC (aN aK)))
def n5:M Fl:=no_index jU
def jV:ZI->Res D:=aR 2 [] 0 n5
def c6:(Dq Txt.x43 2 [] [0,0,0] 0):=mq λT B=>λhcd hr nd=>(aC (aN (iW aG (iW aG (gH aG (bM aG (iW aG (aB (fn:=jV) T.x42 (jU.2 T B) hr ra) aK) rx) aK) aK) rx)))
def zI:M Fl:=no_index c6
def c7:ZI->Res D:=aR 3 [] 0 zI
def cF:(Dq Txt.x44 2 [] [0,0,0] 0):=mq λT B=>λhcd hr nd=>(aC (aN (iW aG (iW aG (gH aG (bM aG (bM aG (iW aG (aB (fn:=jV) T.x42 (jU.2 T B) hr ra) aK) rx) aK) aK) aK) rx)))
def u8:M Fl:=no_index cF
def cG:ZI->Res D:=aR 3 [] 0 u8
def bZ:(Dq Txt.x45 2 [] [0,0,0] 0):=mq λT B=>λhcd hr nd=>(aC (aN (iW aG (iW aG (gH aG (bM aG (bM aG (iW aG (aB (fn:=jV) T.x42 (jU.2 T B) hr ra) aK) rx) aK) aK) aK) rx)))
def u9:M Fl:=no_index bZ
def b8:ZI->Res D:=aR 3 [] 0 u9
def f8:(Dq Txt.x46 3 [] [0,0,0,0,0,0,0,0] 0):=mq λT B=>λhcd hr nd=>(aA (aH 3 aG fU nd) (aA (aH 4 aG (bM aG aK (aB (fn:=b8) T.x45 (bZ.2 T B) hr ra)) nd) (aA (aH 5 aG (aB (fn:=cG) T.x44 (cF.2 T B) hr ra) nd) (aA (aH 6 aG (fG aG rx (aB (fn:=c7) T.x43 (c6.2 T B) hr ra)) nd) (aA (aH 7 aG (fG aG rx (iW aG (bM aG rx (aB (fn:=cG) T.x44 (cF.2 T B) hr ra)) aK)) nd) (aC (aN (bM aG (bM aG (NW aG rx rx) rx) (NW aG rx rx)))))))))
def zJ:M Fl:=no_index f8
def f9:ZI->Res D:=aR 8 [] 0 zJ
def lD:(Dq Txt.x47 3 [] [0] 0):=mq λT B=>λhcd hr nd=>(aC (aN (fG aG (cC aG (cI aG (aF aK (aF aK (aF aK (aF (DY aG aK aK) aX)))))) (aB (fn:=c7) T.x43 (c6.2 T B) hr ra))))
def vA:M Fl:=no_index lD
def lE:ZI->Res D:=aR 1 [] 0 vA
def CF:(Dq Txt.x48 4 [] [0,0,0,0,0,0,0] 0):=mq λT B=>λhcd hr nd=>(aA (aH 2 aG (lW aG (aB (fn:=c7) T.x43 (c6.2 T B) hr ra) aK) nd) (aA (aH 3 aG (lW aG (aB (fn:=cG) T.x44 (cF.2 T B) hr ra) aK) nd) (aA (aH 4 aG (bM aG aK (aB (fn:=b8) T.x45 (bZ.2 T B) hr ra)) nd) (aA (aH 5 aG (gH aG (aB (fn:=lE) T.x47 (lD.2 T B) hr ra) (bM aG aK (aB (fn:=cG) T.x44 (cF.2 T B) hr ra))) nd) (aA (aH 6 aG (aB (fn:=f9) T.x46 (f8.2 T B) hr ra) nd) (aC (aN (dJ (aF rx (aF rx (aF rx (aF (aB (fn:=b8) T.x45 (bZ.2 T B) hr ra) (aF (bM aG aK (aB (fn:=c7) T.x43 (c6.2 T B) hr ra)) rv)))))))))))))
def vB:M Fl:=no_index CF
def CG:ZI->Res D:=aR 7 [] 0 vB
def IR:(Dq Txt.x49 4 [] [0,0,0,0,0] 0):=mq λT B=>λhcd hr nd=>(aA (aH 2 aG (lW aG (aB (fn:=c7) T.x43 (c6.2 T B) hr ra) aK) nd) (aA (aH 3 aG (lW aG (aB (fn:=cG) T.x44 (cF.2 T B) hr ra) aK) nd) (aA (aH 4 aG (gH aG (aB (fn:=lE) T.x47 (lD.2 T B) hr ra) (bM aG aK (aB (fn:=c7) T.x43 (c6.2 T B) hr ra))) nd) (aC (aN (dJ (aF (aB (fn:=f9) T.x46 (f8.2 T B) hr ra) (aF rx (aF rx (aF (lW aG (aB (fn:=b8) T.x45 (bZ.2 T B) hr ra) aK) rv))))))))))
def zK:M Fl:=no_index IR
def IS:ZI->Res D:=aR 5 [] 0 zK
def IT:(Dq Txt.x50 5 [] [0,0,0,0,0,0,0,0,0,0,0,0,0] 0):=mq λT B=>λhcd hr nd=>(aA (aH 1 aG (aB (fn:=lE) T.x47 (lD.2 T B) hr ra) nd) (aA (aH 2 aG (dJ (aF (gH aG rx (bM aG aK (aB (fn:=c7) T.x43 (c6.2 T B) hr ra))) (aF (lW aG (aB (fn:=cG) T.x44 (cF.2 T B) hr ra) aK) (aF (lW aG (aB (fn:=b8) T.x45 (bZ.2 T B) hr ra) aK) rv)))) nd) (aA (aH 3 aG (bM aG aK (aB (fn:=b8) T.x45 (bZ.2 T B) hr ra)) nd) (aA (aH 4 aG (bM aG aK (aB (fn:=b8) T.x45 (bZ.2 T B) hr ra)) nd) (aA (aH 5 aG (gH aG rx (bM aG aK (aB (fn:=cG) T.x44 (cF.2 T B) hr ra))) nd) (aA (aH 6 aG (dJ (aF rx (aF rx (aF rx (aF (bM aG rx (aB (fn:=c7) T.x43 (c6.2 T B) hr ra)) (aF (bM aG aK (aB (fn:=b8) T.x45 (bZ.2 T B) hr ra)) rv)))))) nd) (aA (dD 7 "_law_s" nd (dL rfl T.x71 (bM aG aK (aB (fn:=c7) T.x43 (c6.2 T B) hr ra))) (λC fp s H=>bV) (λC fp s H=>(aB (fn:=CG) T.x48 (CF.2 T B) hr ra))) (aA (dD 8 "_law_k" nd (dL rfl T.x71 (aB (fn:=cG) T.x44 (cF.2 T B) hr ra)) (λC fp s H=>bV) (λC fp s H=>(aB (fn:=IS) T.x49 (IR.2 T B) hr ra))) (aA (aH 9 aG (cI aG aX) nd) (aA (dW 10 nd (dL rfl T.x71 (fG aG (cC aG (cI aG rv)) (aB (fn:=b8) T.x45 (bZ.2 T B) hr ra))) (aA (aH 11 aG (aB (fn:=f9) T.x46 (f8.2 T B) hr (aO rx (aO aK (aO (aB (fn:=c7) T.x43 (c6.2 T B) hr ra) cL)))) nd) (aA (aH 12 aG (aB (fn:=f9) T.x46 (f8.2 T B) hr (aO rx (aO aK (aO (aB (fn:=cG) T.x44 (cF.2 T B) hr ra) cL)))) nd) (aC (bR (cE 9 aG (dJ (aF rx (aF rx (aF (bM aG aK (aB (fn:=b8) T.x45 (bZ.2 T B) hr ra)) aX)))))))))) (bS 7 (bS 8 (bS 9 (aC (aN rx)))))))))))))))
def zL:M Fl:=no_index IT
def IU:ZI->Res D:=aR 13 [] 0 zL
def E3:(Dq Txt.x51 4 [] [0,0,0,0,0,0] 0):=mq λT B=>λhcd hr nd=>(aA (aH 2 aG (aB (fn:=lE) T.x47 (lD.2 T B) hr ra) nd) (aA (aH 3 aG (aB (fn:=f9) T.x46 (f8.2 T B) hr (aO rx (aO aK (aO (aB (fn:=cG) T.x44 (cF.2 T B) hr ra) cL)))) nd) (aA (aH 4 aG (aB (fn:=f9) T.x46 (f8.2 T B) hr (aO rx (aO aK (aO (fG aG (cC aG (cI aG rv)) (aB (fn:=b8) T.x45 (bZ.2 T B) hr ra)) cL)))) nd) (aA (aH 5 aG (gH aG rx (aB (fn:=cG) T.x44 (cF.2 T B) hr ra)) nd) (aA (bX (bL aG BB BO rx rx (bB _)) (aC (aH 5 aG rx nd)) aZ) (aC (aN (dJ (aF (aB (fn:=f9) T.x46 (f8.2 T B) hr ra) (aF (gH aG rx (bM aG aK (aB (fn:=c7) T.x43 (c6.2 T B) hr ra))) rv))))))))))
def E4:M Fl:=no_index E3
def E5:ZI->Res D:=aR 6 [] 0 E4
def CH:(Dq Txt.x52 5 [] [0,0,0,0,0] 0):=mq λT B=>λhcd hr nd=>(aA (AS 3 (xs:=[ "_law_stack_here" ]) 6 aG aG rfl nd (bO rx) (λC fp s H=>(cK (i:=0) EY rfl (Or.inl rfl))) (nB aG ⋯ (cP rfl) ⋯ rfl) (λC fp s H F1 H1 σ1=>(cI aG aX))) (aA (dW 4 nd (dL rfl T.x71 rx) (aC (bR (NS 3 5 PySem.F.slot_list_append PySem.F.type_list_append uC qL (λF H σ=>(aB (fn:=b8) T.x45 (bZ.2 T B) hr (aO rx (aO rx (aO (bQ aG rfl T.x67 rx) cL))))) (λF H σ=>(aF (aB (fn:=E5) T.x51 (E3.2 T B) hr ra) aX)))))) (bS 3 (aC (aN rx)))))
def vC:M Fl:=no_index CH
def vD:ZI->Res D:=aR 5 [] 0 vC
def IV:(Dq Txt.x53 5 [] [0,0,0,0,0,0] 0):=mq λT B=>λhcd hr nd=>(aA (aH 4 aG (cI aG aX) nd) (aA (dW 5 nd (QC rfl T.x71 rx (bM aG rx (aB (fn:=c7) T.x43 (c6.2 T B) hr ra))) (aC (bR (cE 4 aG (dJ (aF (aB (fn:=E5) T.x51 (E3.2 T B) hr ra) (aF (aB (fn:=cG) T.x44 (cF.2 T B) hr (aO rx (aO rx (aO (bQ aG rfl T.x67 rx) cL)))) aX))))))) (bS 4 (aC (aN (dJ (aF (aB (fn:=f9) T.x46 (f8.2 T B) hr (aO rx (aO aK (aO (aB (fn:=b8) T.x45 (bZ.2 T B) hr ra) cL)))) rv)))))))
def zM:M Fl:=no_index IV
def zN:ZI->Res D:=aR 6 [] 0 zM
def vE(T:Txt K mg)(B:sT K mg base):∀n,T.x54.Ok P w mg base (n+1) [] [0,0,0,0] 0 (s8 n)
 |0=>VZ
 |n+1=>T.x54.okD u0 λhcd hr=>(aA (bX (dS (aB2 .tuple .list rfl T.x66 rfl T.x75 mW rfl T.x68 iJ (dA 1)))
   (aA (aH 2 aG (aKQ (dS (iA .tuple rfl rfl T.x66 rfl T.x75 mW (dA 1))) (iA .tuple rfl rfl T.x66 rfl T.x75 mW (dA 0)) (iA .list rfl rfl T.x66 rfl T.x68 iJ (dA 0))) u0.nd)
   (aA (bX (jP (pW (fL (dS (dA 2))) (qM (bL aG (lQ hr.units) sD (bQ aG rfl T.x67 (dA 0)) (bQ aG rfl T.x67 (dA 1)) (bB _)))))
    (aC (aN mN))
    aZ)
   (aA (D0 PassesOwn.leaving rfl (dL rfl T.x71 (bQ aG rfl T.x67 (dA 1))) (cK (i:=3) u0.nd rfl (by ac_nf0)) (DL aG (cP rfl) ⋯ rfl)
    (aC (bX (fL (dS (aB T.x54 (vE T B n) hr (aO (fG aG (dA 0) (dA 3)) (aO (fG aG (dA 1) (dA 3)) cL)) (È _))))
     (aC (aN mN))
     aZ)))
   (aC (aN mN)))))
   aZ)
  (aA (bX (dS (iA .str rfl rfl T.x66 rfl T.x73 KN (dA 1)))
   (aC (aN (uJ (iA .str rfl rfl T.x66 rfl T.x73 KN (dA 0)) (uI (m7 aG (fE hr.units) iG (dA 0) (dA 1) (bB _))))))
   aZ)
  (aC (aN (uJ (iA .int rfl rfl T.x66 rfl T.x65 aGU (dA 0)) (uJ (aG6 (iA .bool rfl rfl T.x66 rfl T.x63 aA1 (dA 0))) (uI (m7 aG (fE hr.units) iG (dA 0) (dA 1) (bB _)))))))))
def IW:(Dq Txt.x55 1 [] [0,0,0,0] 0):=mq λT B=>λhcd hr nd=>(aA (aH 1 aG (DY aG aK aK) nd) (aA (aH 2 aG (cI aG aX) nd) (aA (dW 3 nd (bO rx) (aC (bR (cE 2 aG rx)))) (bS 2 (aC (aN (dJ (aF rx (aF rx (aF rx (aF rx (aF (cC aG (cI aG aX)) aX))))))))))))
def zO:M Fl:=no_index IW
def IX:ZI->Res D:=aR 4 [] 0 zO
def zP:(Dq Txt.x56 1 [] [0,0,0,0,0] 0):=mq λT B=>λhcd hr nd=>(aA (aH 2 aG (cI aG aX) nd) (aA (dW 3 nd (dL rfl T.x71 (bQ aG rfl T.x67 rx)) (aA (dD 4 "_law_load" nd (bO rx) (λC fp s H=>(l0 (bL aG (fE hr.units) iG rx rx (bB _)))) (λC fp s H=>rx)) (bS 4 (aC (bR (cE 2 aG (bM aG (cC aG (fY "_law_box_here" (bO rx) (λC fp s H=>(l0 (bL aG (lQ hr.units) sD rx rx (bB _)))) (λC fp s H=>rx))) rx))))))) (bS 2 (aC (aN rx)))))
def zQ:M Fl:=no_index zP
def tN:ZI->Res D:=aR 5 [] 0 zQ
def zR:(Dq Txt.x57 1 [] [0,0,0,0,0,0] 0):=mq λT B=>λhcd hr nd=>(aA (aH 2 aG (cI aG aX) nd) (aA (dW 3 nd (bO rx) (aA (aH 4 aG mN nd) (aC (dW 5 nd (bO rx) (aC (bX (bL aG (fE hr.units) iG rx rx (bB _)) (aC (aH 4 aG mN nd)) (aC (bX (dS rx) (aC (bR (cE 2 aG rx))) aZ)))))))) (bS 2 (aC (aN rx)))))
def rH:M Fl:=no_index zR
def zS:ZI->Res D:=aR 6 [] 0 rH
def OL:(Dq Txt.x58 1 [] [0,0,0,0] 0):=mq λT B=>λhcd hr nd=>(aA (aH 2 aG (cI aG aX) nd) (aA (dW 3 nd (bO rx) (aC (bR (qK 2 aG PySem.F.slot_list_extend PySem.F.type_list_extend oP gJ (aF (cC aG (fY "_law_box_here" (bO rx) (λC fp s H=>(l0 (bL aG (fE hr.units) iG rx rx (bB _)))) (λC fp s H=>rx))) aX))))) (bS 2 (aC (aN rx)))))
def E6:M Fl:=no_index OL
def OM:ZI->Res D:=aR 4 [] 0 E6
def qD:(Dq Txt.x59 1 [3] [0,0,0,1,0,0,0] 0):=mq λT B=>λhcd hr nd=>(aA (bX (jP (pW (fL (dS (iA .list rfl rfl T.x66 rfl T.x68 iJ rx))) (qM (bL aG (lQ hr.units) sD (bQ aG rfl T.x67 rx) (bM aG (bM aG (bQ aG rfl T.x67 rx) (gH aG aK (bQ aG rfl T.x67 rx))) (MX 3 rfl T.x67)) (bB _))))) (aC (aN mN)) aZ) (Q9 0 3 4 5 6 7 aG nd hr.units (λF H σ=>(UN aG rx rx)) (λF H σ=>(uE aG lO D2 rfl T.x68 iJ rv)) (λF H σ=>(jP (pW (fL (dS (iA .tuple rfl rfl T.x66 rfl T.x75 mW rx))) (pW (bL aG (lQ hr.units) sD (bQ aG rfl T.x67 rx) aK (bB _)) (pW (fL (dS (iA .tuple rfl rfl T.x66 rfl T.x75 mW rx))) (qM (bL aG (lQ hr.units) sD (bQ aG rfl T.x67 rx) aK (bB _)))))))) (λF H σ=>rx) (λF H σ=>(jP (pW (Q2 hr.units rx rx) (qM (bL aG C9 aHM rx (aIY hr.units rx rx) (by with_unfolding_all rfl)))))) (λF H σ=>rx) (λF H σ=>rx)))
def kH:M Fl:=no_index qD
def kJ:ZI->Res D:=aR 7 [3] 0 kH
def aFG:(Dq Txt.x60 10 [] [0,0,0,0,0,0,0,0,0,0,0] 0):=mq λT B=>λhcd hr nd=>(aA (aH 1 aG (aB (fn:=IU) T.x50 (IT.2 T B) hr ra) nd) (aA (bX (bL aG (fE hr.units) iG (aB (fn:=b8) T.x45 (bZ.2 T B) hr ra) aK (bB _)) (aC (aH 1 aG (aB (fn:=IX) T.x55 (IW.2 T B) hr ra) nd)) aZ) (aA (aH 2 aG (aB (fn:=c7) T.x43 (c6.2 T B) hr ra) nd) (aA (aH 3 aG (aB (fn:=vD) T.x52 (CH.2 T B) hr ra) nd) (aA (bX (bL aG (fE hr.units) iG rx (DY aG aK aK) (bB _)) (aA (dD 3 "_law_boxes" nd (bO rx) (λC fp s H=>bV) (λC fp s H=>(cC aG (fY "_law_box_here" (bO rx) (λC fp s H=>bV) (λC fp s H=>(dJ (aF rx (aF rx (aF rx (aF rx (aF (DY aG aK aK) aX))))))))))) (bS 3 aZ)) aZ) (aA (aH 4 aG (cI aG aX) nd) (aA (dW 5 nd (dL rfl T.x71 (bM aG aK (aB (fn:=cG) T.x44 (cF.2 T B) hr ra))) (aA (bR (cE 4 aG (aB (fn:=zN) T.x53 (IV.2 T B) hr ra))) (aC (aH 2 aG (bM aG rx (bQ aG rfl T.x67 (fG aG (aG1 4 rx) aK))) nd)))) (bS 4 (aA (aH 6 aG (aB (fn:=IQ) T.x41 (IP.2 T B) hr ra) nd) (aA (bX (jP (pW (fL (dS (iA .list rfl rfl T.x66 rfl T.x68 iJ rx))) (pW (bL aG pN pX (bQ aG rfl T.x67 rx) aK (bB _)) (qM (bL aG BB BO (bQ aG rfl T.x67 rx) (bQ aG rfl T.x67 rx) (bB _)))))) (aC (aN mN)) aZ) (aA (aH 7 aG rx nd) (aA (dW 8 nd (dL rfl T.x71 (bQ aG rfl T.x67 rx)) (aA (bX (bL aG (lQ hr.units) sD rx fU (bB _)) (aC (aN (uJ (m7 aG (fE hr.units) iG rx (lW aG (bQ aG rfl T.x67 rx) aK) (bB _)) (uI (m7 aG (fE hr.units) iG rx fU (bB _)))))) aZ) (aA (aH 9 aG (aB (fn:=zS) T.x57 (zR.2 T B) hr ra) nd) (aA (dD 10 "_law_load" nd (bO rx) (λC fp s H=>bV) (λC fp s H=>rx)) (aA (bX (jP (pW (fL (dS (aB T.x54 (vE T B 4) hr ra))) (qM (fL (dS (aB T.x54 (vE T B 4) hr (aO rx (aO (aB (fn:=tN) T.x56 (zP.2 T B) hr ra) cL)))))))) (aC (aN mN)) aZ) (aA (bX (fL (dS (aB (fn:=kJ) T.x59 (qD.2 T B) hr (aO rx (aO (aB (fn:=OM) T.x58 (OL.2 T B) hr ra) (aO rx (UD 10 cL))))))) (aC (aN mN)) aZ) (aA (aH 7 aG (aB (fn:=tN) T.x56 (zP.2 T B) hr ra) nd) (bS 10 aZ)))))))) (aC (aN (m7 aG (fE hr.units) iG (bQ aG rfl T.x67 rx) (bQ aG rfl T.x67 rx) (bB _))))))))))))))))
def X0:M Fl:=no_index aFG
def IY:ZI->Res D:=aR 11 [] 0 X0
def aI3(T:Txt K mg)(B:sT K mg base):T.x60.Ok P w mg base 10 [] [0,0,0,0,0,0,0,0,0,0,0] 0 IY:=aFG.2 T B
end
end Toy
open L2 in
seal JW iF sC bF dC bA dH iU P8 KQ qJ eK jG nA eD pG lY AR xH KR UL UM GQ dB pV P7 GJ BN UP mO ħ Ź BJ pF fF bN aU aR ĩ kB
open PySem L2
local macro_rules| `(tactic|dsimp? [$as,*])=>`(tactic|simp![aPV,aN9,aOA,aOB,aLE,aN8,aOC,aOD,aOE,aK8,aK9,aN3,aN5,aN4,aN6,VP,aH9,aLB,aLC,aN7,ψ,aK1,aHW,k_set,k_fill,aHX,aHY,aK2,ω,aHZ,aH0,aH1,aH2,aH3,aH4,aH5,aH6,aH7,aH8,aBS,aBT,eZ,aY,dG,h7,Nat.reduceAdd,Nat.reduceLT,Nat.reduceLeDiff,↓reduceIte,$as,*])
local macro_rules| `(tactic|ac_nf)=>`(tactic|first|exact aKM ∅ ∅|exact aKN ∅ ∅)
namespace Sx
abbrev jW:=Nat->Int
def aS:Nat->(Nat->Int)->Int
 |0,_=>0
 |n+1,f=>aS n f+f n
def bG:∀{n:Nat}{f g:Nat->Int},(∀i,i<n->f i=g i)->aS n f=aS n g
 |0,_,_,_=>rfl
 |n+1,f,g,h=>by
  rw[aS,aS,bG (n:=n) λi hi=>h i (by grind),h n (by exact ð _)]
def jE:∀{n:Nat}{f g:Nat->Int},aS n (λi=>f i+g i)=aS n f+aS n g
 |0,_,_=>rfl
 |n+1,f,g=>by
  rw[aS,aS,aS,jE];lia
def dY:∀{n:Nat}{a:Int}{f:Nat->Int},aS n (λi=>a*f i)=a*aS n f
 |0,a,_=>by simp[aS]
 |n+1,a,f=>by
  rw[aS,aS,dY,Int.mul_add]
def fQ:∀{n:Nat}{f:Nat->Int},(∀i,i<n->f i=0)->aS n f=0
 |0,_,_=>rfl
 |n+1,f,h=>by
  rw[aS,fQ (n:=n) λi hi=>h i (by grind),h n (by exact ð _)];rfl
def cR :∀{n:Nat}{f:Nat->Int},k<n->(∀i,i<n->i≠k->f i=0)->aS n f=f k
 |0,_,hk,_=>by grind
 |n+1,f,hk,h=>by
  rw[aS];by_cases e:k=n
  .subst e
   rw[fQ λi hi=>h i (by grind) (by exact Ï ‹_›)];lia
  .rw[cR (n:=n) ∅ λi hi hne=>h i (by grind) hne,h n (by exact ð _) (λz=>e z.symm)]
   lia
def zT(hkl:k≠l):∀{n:Nat}{f:Nat->Int},k<n->l<n->(∀i,i<n->i≠k->i≠l->f i=0)->aS n f=f k+f l
 |0,_,hk,_,_=>by grind
 |n+1,f,hk,hl,h=>by
  rw[aS];by_cases e:k=n
  .subst e
   rw[cR (k:=l) ∅ λi hi hne=>h i (by grind) (by exact Ï ‹_›) hne];lia
  .by_cases e2:l=n
   .subst e2
    rw[cR (k:=k) ∅ λi hi hne=>h i (by grind) hne (by exact Ï ‹_›)]
   .rw[zT hkl (n:=n) ∅ ∅ λi hi h1 h2=>h i (by grind) h1 h2,h n (by exact ð _) (λz=>e z.symm) (λz=>e2 z.symm)]
    lia
def CI:∀{n m:Nat}{f:Nat->Nat->Int},aS n (λi=>aS m (f i))=aS m (λj=>aS n (λi=>f i j))
 |0,m,f=>(fQ λ_ _=>rfl).symm
 |n+1,m,f=>by
  rw[aS,CI (n:=n),<- jE];rfl
def Đ(i:Nat):Int:=if i % 2=0 then 1 else -1
def X1(i:Nat):Đ (i+1)=-Đ i:=by
 unfold Đ
 grind
def skip(i r:Nat):Nat:=if r<i then r else r+1
def fC(M:Nat->jW)(i:Nat):Nat->jW:=λr c=>M (skip i r) (c+1)
def c8:Nat->(Nat->jW)->Int
 |0,_=>1
 |n+1,M=>aS (n+1) λi=>Đ i*M i 0*c8 n (fC M i)
def lF:∀{n:Nat}{M M':Nat->jW},(∀r c,r<n->c<n->M r c=M' r c)->c8 n M=c8 n M'
 |0,_,_,_=>rfl
 |n+1,M,M',h=>by
  rw[c8,c8];refine bG λi hi=>?_;rw[h i 0 hi (by exact Ă _),lF (n:=n) (M:=fC M i) (M':=fC M' i) λr c hr hc=>?_];unfold fC;refine h _ _ ?_ (by grind);unfold skip;split<;>lia
def aV(M:Nat->jW)(k:Nat)(w:jW):Nat->jW:=λr=>if r=k then w else M r
def aJ{M:Nat->jW}:aV M k w k=w:=Â rfl
def aE{M:Nat->jW}(h:r≠k):aV M k w r=M r:=Ã h
def CW{M:Nat->jW}:aV (aV M k u) k w=aV M k w:=by
 funext r;unfold aV;split<;>rfl
def dZ{M:Nat->jW}(h:k≠l):aV (aV M k u) l w=aV (aV M l w) k u:=by
 funext r;unfold aV
 grind
def gX{M:Nat->jW}:aV M k (M k)=M:=by
 funext r;unfold aV
 grind
def X2(i k:Nat):Nat:=if k<i then k else k-1
def mL{M:Nat->jW}(h:i≠k):fC (aV M k w) i=aV (fC M i) (X2 i k) (λc=>w (c+1)):=by
 funext r c;unfold fC aV skip X2;by_cases h1:r<i
 .rw[Â h1]
  by_cases h2:k<i
  .rw[Â h2]
   by_cases h3:r=k
   all_goals simp_all
  .rw[Ã h2,Ã ∅,Ã ∅]
   simp![h1,if_true]
 .rw[Ã h1]
  by_cases h2:k<i
  .rw[Â h2,Ã ∅,Ã ∅]
   simp![h1,if_false]
  .rw[Ã h2]
   by_cases h3:r+1=k
   .rw[Â h3,Â ∅]
   .rw[Ã h3,Ã ∅]
    simp![h1,if_false]
def mM{M:Nat->jW}:fC (aV M k w) k=fC M k:=by
 funext r c;unfold fC aV skip
 grind
def tO:∀{n:Nat}{M:Nat->jW}{k:Nat}{u v:jW}{a b:Int},k<n->c8 n (aV M k λc=>a*u c+b*v c)=a*c8 n (aV M k u)+b*c8 n (aV M k v)
 |0,_,_,_,_,_,_,h=>by grind
 |n+1,M,k,u,v,a,b,h=>by
  rw[c8,c8,c8,<- dY,<- dY,<- jE];refine bG λi hi=>?_;by_cases e:i=k
  .subst e
   rw[aJ,aJ,aJ,mM,mM,mM]
   grind
  .rw[aE e,aE e,aE e,mL e,mL e,mL e]
   have hd:X2 i k<n:=by unfold X2;split<;>lia
   have:=tO (n:=n) (M:=fC M i) (k:=X2 i k) (u:=λc=>u (c+1)) (v:=λc=>v (c+1)) (a:=a) (b:=b) hd;rw[this]
   grind
def wG:∀{n:Nat}{M:Nat->jW}{k:Nat},k+1<n->(∀c,M k c=M (k+1) c)->c8 n M=0
 |0,_,_,h,_=>by grind
 |n+1,M,k,h,he=>by
  rw[c8,zT (k:=k) (l:=k+1) ∅ 'a' (by assumption) λi hi h1 h2=>?_]
  .have em:fC M k=fC M (k+1):=by
    funext r c;unfold fC skip;by_cases h1:r<k
    .grind
    .grind
   rw[em,he 0,X1]
   grind
  .have hz:c8 n (fC M i)=0:=by
    by_cases hk:k+1<i
    .refine wG (n:=n) (k:=k) ∅ λc=>?_
     unfold fC skip
     grind
    .refine wG (n:=n) (k:=k-1) ∅ λc=>?_
     unfold fC skip
     grind
   rw[hz];lia
def oW{M:Nat->jW}(h:k<n):c8 n (aV M k λc=>u c+v c)=c8 n (aV M k u)+c8 n (aV M k v):=by
 have:=tO (M:=M) (u:=u) (v:=v) (a:=1) (b:=1) h
 grind
def RY{M:Nat->jW}(h:k+1<n)(u v:jW):c8 n (aV (aV M k u) (k+1) v)=-c8 n (aV (aV M k v) (k+1) u):=by
 have z:∀w,c8 n (aV (aV M k w) (k+1) w)=0:=λw=>wG h λc=>by rw[aE ∅,aJ,aJ]
 have h1:=z λc=>u c+v c;rw[oW h,dZ ∅,oW 'a',dZ (u:=λc=>u c+v c) ∅,oW 'a']at h1;have zu:=z u;have zv:=z v;rw[dZ ∅]at zu zv;have e1:c8 n (aV (aV M k u) (k+1) v)=c8 n (aV (aV M (k+1) v) k u):=by rw[dZ ∅]
 have e2:c8 n (aV (aV M k v) (k+1) u)=c8 n (aV (aV M (k+1) u) k v):=by rw[dZ ∅]
 rw[e1,e2];lia
def LZ:∀(d:Nat){n:Nat}{M:Nat->jW}{i j:Nat},j=i+d+1->j<n->(∀c,M i c=M j c)->c8 n M=0
 |0,n,M,i,j,e,h,he=>by
  subst e;exact wG (k:=i) (by assumption) he
 |d+1,n,M,i,j,e,h,he=>by
  -- Ç j-1 and j change places
  have hj:j-1+1=j:=by lia
  have e1:M=aV (aV M (j-1) (M (j-1))) (j-1+1) (M j):=by
   rw[gX,hj,gX]
  rw[e1,RY ∅];have:=LZ d (n:=n) (M:=aV (aV M (j-1) (M j)) (j-1+1) (M (j-1))) (i:=i) (j:=j-1) ∅ ∅ λc=>by
   rw[aE ∅,aE ∅,aE ∅,aJ];exact he c
  rw[this];rfl
def wH{n:Nat}{M:Nat->jW}{i j:Nat}(hi:i<n)(hj:j<n)(hne:i≠j)(he:∀c,M i c=M j c):c8 n M=0:=by
 by_cases h:i<j
 .exact LZ (j-i-1) ∅ hj he
 .exact LZ (i-j-1) (i:=j) (j:=i) ∅ hi λc=>(he c).symm
def IZ{M:Nat->jW}(hi:i<n)(hj:j<n)(hne:i≠j)(u v:jW):c8 n (aV (aV M i u) j v)=-c8 n (aV (aV M i v) j u):=by
 have z:∀w,c8 n (aV (aV M i w) j w)=0:=λw=>wH hi hj hne λc=>by rw[aE hne,aJ,aJ]
 have h1:=z λc=>u c+v c;rw[oW hj,dZ hne,oW hi,dZ (u:=λc=>u c+v c) hne,oW hi]at h1;have zu:=z u;have zv:=z v;rw[dZ hne]at zu zv;have e1:c8 n (aV (aV M i u) j v)=c8 n (aV (aV M j v) i u):=by rw[dZ hne]
 have e2:c8 n (aV (aV M i v) j u)=c8 n (aV (aV M j u) i v):=by rw[dZ hne]
 rw[e1,e2];lia
def I8{M:Nat->jW}(h:k<n):c8 n (aV M k λ_=>0)=0:=by
 have:=tO (M:=M) (k:=k) (u:=λ_=>0) (v:=λ_=>0) (a:=0) (b:=0) h;simpa using this
def aCY{M:Nat->jW}(h:k<n):c8 n (aV M k λc=>a*u c)=a*c8 n (aV M k u):=by
 have:=tO (M:=M) (k:=k) (u:=u) (v:=λ_=>0) (a:=a) (b:=0) h
 grind
def wI{M:Nat->jW}(h:k<n):∀{m:Nat}{w:Nat->Int}{f:Nat->jW},c8 n (aV M k λc=>aS m λl=>w l*f l c)=aS m λl=>w l*c8 n (aV M k (f l))
 |0,w,f=>I8 h
 |m+1,w,f=>by
  have:=tO (M:=M) (k:=k) (u:=λc=>aS m λl=>w l*f l c) (v:=f m) (a:=1) (b:=w m) h;simp![Int.one_mul]at this;rw[aS,<- wI h];exact this
def aL1(hc:c<n)(hj:j<n)(hne:c≠j)(cr:∀x,x<n->c8 n f*h x=aS n λl=>c8 n (aV f l h)*f l x):
  c8 n f*c8 n (aV (aV f c h) j u)=c8 n (aV f c h)*c8 n (aV f j u)-c8 n (aV f j h)*c8 n (aV f c u):=by
 have e1:c8 n f*c8 n (aV (aV f c h) j u)=c8 n (aV (aV f j u) c λx=>c8 n f*h x):=by
  rw[aCY hc,dZ hne]
 have e2:c8 n (aV (aV f j u) c λx=>c8 n f*h x)=c8 n (aV (aV f j u) c λx=>aS n λl=>c8 n (aV f l h)*f l x):=by
  refine lF λr x hr hx=>?_;by_cases hrc:r=c
  .subst hrc
   rw[aJ,aJ];exact cr x hx
  .rw[aE hrc,aE hrc]
 rw[e1,e2,wI hc,zT hne hc hj λl hl h1 h2=>?_]
 .have a1:aV (aV f j u) c (f c)=aV f j u:=by
   rw[dZ (Ñ hne),gX]
  have a2:c8 n (aV (aV f j u) c (f j))=-c8 n (aV f c u):=by
   rw[IZ hj hc (Ñ hne),gX]
  rw[a1,a2]
  grind
 .have:c8 n (aV (aV f j u) c (f l))=0:=wH hc hl (λz=>h1 z.symm) λx=>by rw[aJ,aE h1,aE h2]
  rw[this];lia
end Sx
namespace Sx
structure Tab where
 s:Int
 f:Nat->Nat
 h:Nat->Nat
 L:Nat->Nat->Int
structure Pr where
 n:Nat
 k:Nat
 N:Nat
 a:Nat->jW
 c:Nat->Int
def Tab.F(P:Pr)(T:Tab):Nat->jW:=λj=>P.a (T.f j)
structure Inv(P:Pr)(σ:Int)(T:Tab):Prop where
 sg:σ*σ=1
 pos:0<T.s
 sd:T.s=σ*c8 P.n (T.F P)
 ld:∀r,r<=P.k->∀j,j<P.n->T.L r j=-σ*c8 P.n (aV (T.F P) j (P.a (T.h r)))
 lc:∀r,r<=P.k->T.L r P.n=T.s*P.c (T.h r)+aS P.n λj=>T.L r j*P.c (T.f j)
 cr:∀r,r<=P.k->∀x,x<P.n->T.s*P.a (T.h r) x+(aS P.n λj=>T.L r j*P.a (T.f j) x)=0
 fi:∀i j,i<P.n->j<P.n->T.f i=T.f j->i=j
 hi:∀r q,r<=P.k->q<=P.k->T.h r=T.h q->r=q
 fh:∀j r,j<P.n->r<=P.k->T.f j≠T.h r
 hk:T.h P.k=P.N
 all:∀u,u<P.N->(∃j,j<P.n/\T.f j=u)\/∃r,r<P.k/\T.h r=u
 fN:∀j,j<P.n->T.f j<P.N
 hN:∀r,r<P.k->T.h r<P.N
 dual:∀j,j<P.n->0<=T.L P.k j
def swap(T:Tab)(p d:Nat):Tab where
 s:=-T.L p d
 f:=λj=>if j=d then T.h p else T.f j
 h:=λr=>if r=p then T.f d else T.h r
 L:=λr j=>if r=p then (if j=d then -T.s else -T.L p j)else (if j=d then T.L r d else (-T.L p d*T.L r j+T.L r d*T.L p j)/T.s)
section
def X3:(swap T p d).F P=aV (T.F P) d (P.a (T.h p)):=by
 funext j;unfold Tab.F swap aV;dsimp only;split<;>rfl
def ON{n:Nat}{w:Nat->Int}{wu wh s:Int}{wf l p l':Nat->Int}{d:Nat}(hd:d<n)(hs:∀j,j<n->j≠d->s*l' j=-p d*l j+l d*p j)(hl:l' d=l d):
  s*(-p d*wu+aS n λj=>l' j*(if j=d then wh else wf j))=-p d*(s*wu+aS n λj=>l j*wf j)+l d*(s*wh+aS n λj=>p j*wf j):=by
 have e1:s*(aS n λj=>l' j*(if j=d then wh else wf j))=aS n λj=>(-p d*(l j*wf j)+l d*(p j*wf j))+(if j=d then s*l d*wh else 0):=by
  rw[<- dY];refine bG λj hj=>?_;by_cases e:j=d
  .grind
  .grind
 have e2:(aS n λj=>if j=d then s*l d*wh else 0)=s*l d*wh:=by
  rw[cR (k:=d) hd λi _ hne=>Ã hne,Â rfl]
 rw[jE,jE,dY,dY,e2]at e1
 grind
def I9{n:Nat}{wh s:Int}{wf p:Nat->Int}{d:Nat}(hd:d<n):
  -p d*wf d+(aS n λj=>(if j=d then -s else -p j)*(if j=d then wh else wf j))=-(s*wh+aS n λj=>p j*wf j):=by
 have e1:(aS n λj=>(if j=d then -s else -p j)*(if j=d then wh else wf j))=aS n λj=>(-1)*(p j*wf j)+(if j=d then p d*wf d-s*wh else 0):=by
  refine bG λj hj=>?_;by_cases e:j=d
  .grind
  .grind
 have e2:(aS n λj=>if j=d then p d*wf d-s*wh else 0)=p d*wf d-s*wh:=by
  rw[cR (k:=d) hd λi _ hne=>Ã hne,Â rfl]
 rw[e1,jE,dY,e2]
 grind
def Inv.det_s(I:Inv P σ T):c8 P.n (T.F P)=σ*T.s:=by
 rw[I.sd,<- Int.mul_assoc,I.sg,Int.one_mul]
def Inv.det_l(I:Inv P σ T)(hr:r<=P.k)(hj:j<P.n):c8 P.n (aV (T.F P) j (P.a (T.h r)))=-σ*T.L r j:=by
 rw[I.ld r hr j hj,<- Int.mul_assoc];have:-σ*-σ=1:=by have:=I.sg;grind
 rw[this,Int.one_mul]
def Inv.cramer(I:Inv P σ T)(hr:r<=P.k)(x:Nat)(hx:x<P.n):c8 P.n (T.F P)*P.a (T.h r) x=aS P.n λl=>c8 P.n (aV (T.F P) l (P.a (T.h r)))*T.F P l x:=by
 have e:(aS P.n λl=>c8 P.n (aV (T.F P) l (P.a (T.h r)))*T.F P l x)=aS P.n λl=>-σ*(T.L r l*P.a (T.f l) x):=bG λl hl=>by
  rw[I.det_l hr hl,Int.mul_assoc];rfl
 rw[e,dY,I.det_s];have:=I.cr r hr x hx
 grind
def Inv.exact(I:Inv P σ T) (hp:p<P.k) (hd:d<P.n) (hr:r<=P.k) (hj:j<P.n) (hne:j≠d):
  T.s*(-σ*c8 P.n (aV (aV (T.F P) d (P.a (T.h p))) j (P.a (T.h r))))=-T.L p d*T.L r j+T.L r d*T.L p j:=by
 have pl:=aL1 (u:=P.a (T.h r)) hd hj (Ñ hne) (I.cramer (r:=p) 'a');rw[I.det_s,I.det_l 'a' hd,I.det_l hr hj,I.det_l 'a' hj,I.det_l hr hd]at pl;have sg:=I.sg
 grind
def Inv.quot(I:Inv P σ T)(hp:p<P.k)(hd:d<P.n)(hr:r<=P.k)(hrp:r≠p)(hj:j<P.n)(hne:j≠d):
  T.s*(swap T p d).L r j=-T.L p d*T.L r j+T.L r d*T.L p j/\(swap T p d).L r j=-σ*c8 P.n (aV (aV (T.F P) d (P.a (T.h p))) j (P.a (T.h r))):=by
 have e:=I.exact hp hd hr hj hne;have q:(swap T p d).L r j=-σ*c8 P.n (aV (aV (T.F P) d (P.a (T.h p))) j (P.a (T.h r))):=by
  show (if r=p then (if j=d then -T.s else -T.L p j)else (if j=d then T.L r d else (-T.L p d*T.L r j+T.L r d*T.L p j)/T.s))=_;rw[Ã hrp,Ã hne,<- e,Int.mul_ediv_cancel_left _ (by have:=I.pos;exact Int.ne_of_gt ‹_›)]
 exact⟨by rw[q,e],q⟩
def tP(hrp:r≠p):(swap T p d).L r d=T.L r d:=by
 show (if r=p then (if d=d then -T.s else -T.L p d)else (if d=d then T.L r d else (-T.L p d*T.L r d+T.L r d*T.L p d)/T.s))=_;rw[Ã hrp,Â rfl]
def E7:(swap T p d).L p j=if j=d then -T.s else -T.L p j:=by
 show (if p=p then (if j=d then -T.s else -T.L p j)else _)=_;rw[Â rfl]
def fP:(swap T p d).f j=if j=d then T.h p else T.f j:=rfl
def gQ:(swap T p d).h r=if r=p then T.f d else T.h r:=rfl
def Inv.quotN(I:Inv P σ T)(hp:p<P.k)(hd:d<P.n)(hr:r<=P.k)(hrp:r≠p):
  T.s*(swap T p d).L r P.n=-T.L p d*T.L r P.n+T.L r d*T.L p P.n/\(swap T p d).L r P.n=-T.L p d*P.c (T.h r)+aS P.n λj=>(swap T p d).L r j*P.c ((swap T p d).f j):=by
 have e:=ON (w:=λ_=>0) (wu:=P.c (T.h r)) (wh:=P.c (T.h p)) (s:=T.s) (wf:=λj=>P.c (T.f j)) (l:=T.L r) (p:=T.L p) (l':=(swap T p d).L r) hd (λj hj hne=>(I.quot hp hd hr hrp hj hne).1) (tP hrp);rw[<- I.lc r hr,<- I.lc p 'a']at e;have ew:(aS P.n λj=>(swap T p d).L r j*(if j=d then P.c (T.h p)else P.c (T.f j)))=aS P.n λj=>(swap T p d).L r j*P.c ((swap T p d).f j):=bG λj _=>by
  rw[fP];split<;>rfl
 rw[ew]at e;have q:(swap T p d).L r P.n=-T.L p d*P.c (T.h r)+aS P.n λj=>(swap T p d).L r j*P.c ((swap T p d).f j):=by
  show (if r=p then (if P.n=d then -T.s else -T.L p P.n)else (if P.n=d then T.L r d else (-T.L p d*T.L r P.n+T.L r d*T.L p P.n)/T.s))=_;rw[Ã hrp,Ã (by exact Þ ‹_›),<- e,Int.mul_ediv_cancel_left _ (by have:=I.pos;exact Int.ne_of_gt ‹_›)]
 exact⟨by rw[q,e],q⟩
def Inv.swap(I:Inv P σ T)(hp:p<P.k)(hd:d<P.n)(hneg:T.L p d<0)(hmin:∀j,j<P.n->T.L p j<0->T.L P.k d*-T.L p j<=T.L P.k j*-T.L p d):Inv P σ (swap T p d):=by
 have sg:=I.sg;have pos:=I.pos;have hdh:∀r,r<=P.k->T.f d≠T.h r:=λr hr=>I.fh d r hd hr;refine⟨sg,?_,?_,?_,?_,?_,?_,?_,?_,?_,?_,?_,?_,?_⟩
 .show 0 < -T.L p d
  lia
 .show -T.L p d=_
  rw[X3,I.det_l 'a' hd]
  grind
 .intro r hr j hj
  rw[X3];by_cases hrp:r=p
  .subst hrp
   rw[E7,gQ,Â rfl];by_cases hjd:j=d
   .subst hjd
    rw[Â rfl,CW];have:aV (T.F P) j (P.a (T.f j))=T.F P:=gX;rw[this,I.det_s,<- Int.mul_assoc]
    grind
   .rw[Ã hjd,IZ hd hj (Ñ hjd)]
    have:aV (T.F P) d (P.a (T.f d))=T.F P:=gX;rw[this,I.det_l (by assumption) hj]
    grind
  .rw[gQ,Ã hrp]
   by_cases hjd:j=d
   .subst hjd
    rw[tP hrp,CW];exact I.ld r hr j hj
   .exact(I.quot hp hd hr hrp hj hjd).2
 .intro r hr
  by_cases hrp:r=p
  .subst hrp
   have e:=I9 (wh:=P.c (T.h r)) (s:=T.s) (wf:=λj=>P.c (T.f j)) (p:=T.L r) hd;rw[<- I.lc r hr]at e;show (if r=r then (if P.n=d then -T.s else -T.L r P.n)else _)=_;rw[Â rfl,Ã (by exact Þ ‹_›),gQ,Â rfl,<- e];show _=-T.L r d*_+_;congr 1;refine bG λj hj=>?_;rw[E7,fP];split<;>rfl
  .rw[gQ,Ã hrp]
   exact(I.quotN hp hd hr hrp).2
 .intro r hr x hx
  by_cases hrp:r=p
  .subst hrp
   have e:=I9 (wh:=P.a (T.h r) x) (s:=T.s) (wf:=λj=>P.a (T.f j) x) (p:=T.L r) hd;rw[I.cr r hr x hx]at e;rw[gQ,Â rfl];show -T.L r d*_+_=_;have ew:(aS P.n λj=>(Sx.swap T r d).L r j*P.a ((Sx.swap T r d).f j) x)=aS P.n λj=>(if j=d then -T.s else -T.L r j)*(if j=d then P.a (T.h r) x else P.a (T.f j) x):=bG λj _=>by
    rw[E7,fP];split<;>rfl
   rw[ew,e];rfl
  .have e:=ON (w:=λ_=>0) (wu:=P.a (T.h r) x) (wh:=P.a (T.h p) x) (s:=T.s) (wf:=λj=>P.a (T.f j) x) (l:=T.L r) (p:=T.L p) (l':=(Sx.swap T p d).L r) hd (λj hj hne=>(I.quot hp hd hr hrp hj hne).1) (tP hrp)
   rw[I.cr r hr x hx,I.cr p 'a' x hx]at e;rw[gQ,Ã hrp];have ew:(aS P.n λj=>(Sx.swap T p d).L r j*P.a ((Sx.swap T p d).f j) x)=aS P.n λj=>(Sx.swap T p d).L r j*(if j=d then P.a (T.h p) x else P.a (T.f j) x):=bG λj _=>by
    rw[fP];split<;>rfl
   show -T.L p d*_+_=_;rw[ew];have e:T.s*(-T.L p d*P.a (T.h r) x+aS P.n λj=>(Sx.swap T p d).L r j*(if j=d then P.a (T.h p) x else P.a (T.f j) x))=0:=by rw[e];lia
   rcases Int.mul_eq_zero.mp e with z|z
   .lia
   .exact z
 .intro i j hi hj e
  rw[fP,fP]at e;split at e
  .split at e
   .lia
   .exact absurd e.symm (I.fh j p hj 'a')
  .split at e
   .exact absurd e (I.fh i p hi 'a')
   .exact I.fi i j hi hj e
 .intro r q hr hq e
  rw[gQ,gQ]at e;split at e
  .grind
  .split at e
   .grind
   .exact I.hi r q hr hq e
 .intro j r hj hr e
  rw[fP,gQ]at e;split at e
  .split at e
   .grind
   .rename_i hrp
    exact hrp (I.hi p r 'a' hr e).symm
  .split at e
   .rename_i hjd _
    exact hjd (I.fi j d hj hd e)
   .exact I.fh j r hj hr e
 .rw[gQ,Ã (by exact Þ ‹_›)]
  exact I.hk
 .intro u hu
  rcases I.all u hu with ⟨j,hj,e⟩|⟨r,hr,e⟩
  .by_cases hjd:j=d
   .subst hjd
    exact .inr ⟨p,hp,by rw[gQ,Â rfl];exact e⟩
   .exact .inl ⟨j,hj,by rw[fP,Ã hjd];exact e⟩
  .by_cases hrp:r=p
   .subst hrp
    exact .inl ⟨d,hd,by rw[fP,Â rfl];exact e⟩
   .exact .inr ⟨r,hr,by rw[gQ,Ã hrp];exact e⟩
 .intro j hj
  rw[fP];split
  .exact I.hN p hp
  .exact I.fN j hj
 .intro r hr
  rw[gQ];split
  .exact I.fN d hd
  .exact I.hN r hr
 .intro j hj
  by_cases hjd:j=d
  .subst hjd
   rw[tP (by exact Þ ‹_›)];exact I.dual j hj
  .have e:=(I.quot hp hd (r:=P.k) (È _) (by exact Þ ‹_›) hj hjd).1
   have g1:=I.dual j hj;have g2:=I.dual d hd;have hge:0<=-T.L p d*T.L P.k j+T.L P.k d*T.L p j:=by
    by_cases hn:T.L p j<0
    .grind
    .have a1:0<=-T.L p d*T.L P.k j:=Int.mul_nonneg ∅ g1
     have a2:0<=T.L P.k d*T.L p j:=Int.mul_nonneg g2 (by exact Int.not_lt.mp ‹_›);lia
   rw[<- e]at hge;exact Int.nonneg_of_mul_nonneg_right hge pos |> λz=>by first|exact z|lia
end
end Sx
namespace Sx
section
def Inv.indep(I:Inv P σ T){w:Nat->Int}(h:∀x,x<P.n->(aS P.n λi=>w i*P.a (T.f i) x)=0)(i:Nat)(hi:i<P.n):w i=0:=by
 have e1:c8 P.n (aV (T.F P) i λx=>aS P.n λl=>w l*T.F P l x)=0:=by
  rw[<- I8 (M:=T.F P) hi];refine lF λr x hr hx=>?_;by_cases e:r=i
  .subst e
   rw[aJ,aJ];exact h x hx
  .rw[aE e,aE e]
 rw[wI hi,cR (k:=i) hi λl hl hne=>?_]at e1
 .rw[gX,I.det_s]at e1
  rcases Int.mul_eq_zero.mp e1 with z|z
  .exact z
  .rcases Int.mul_eq_zero.mp z with z|z
   .have:=I.sg
    grind
   .have:=I.pos
    lia
 .have:c8 P.n (aV (T.F P) i (T.F P l))=0:=wH hi hl (λz=>hne z.symm) λx=>by rw[aJ,aE hne]
  rw[this];lia
structure At(P:Pr)(T:Tab)(u:Nat)(E:Nat->Int)(V:Int):Prop where
 a:∀x,x<P.n->T.s*P.a u x+(aS P.n λi=>E i*P.a (T.f i) x)=0
 c:T.s*P.c u+(aS P.n λi=>E i*P.c (T.f i))=V
def Inv.at_held(I:Inv P σ T)(hr:r<=P.k):At P T (T.h r) (T.L r) (T.L r P.n):=⟨I.cr r hr,(I.lc r hr).symm⟩
def E8(hj:j<P.n):At P T (T.f j) (λi=>if i=j then -T.s else 0) 0:=by
 refine⟨λx _=>?_,?_⟩
 .rw[cR (k:=j) hj λi _ hne=>by rw[Ã hne];lia,Â rfl]
  grind
 .rw[cR (k:=j) hj λi _ hne=>by rw[Ã hne];lia,Â rfl]
  grind
def Inv.eval(I:Inv P σ T){ρ:Nat->Int}{u:Nat->Nat}{E:Nat->Nat->Int}{V:Nat->Int}(hat:∀t,t<q->At P T (u t) (E t) (V t))(ha:∀x,x<P.n->(aS q λt=>ρ t*P.a (u t) x)=0)(hc:(aS q λt=>ρ t*P.c (u t))=ρ0):
  (aS q λt=>ρ t*V t)=T.s*ρ0:=by
 have lin:∀b:Nat->Int,(aS P.n λi=>(aS q λt=>ρ t*E t i)*b i)=aS q λt=>ρ t*aS P.n λi=>E t i*b i:=λb=>by
  have e1:(aS P.n λi=>(aS q λt=>ρ t*E t i)*b i)=aS P.n λi=>aS q λt=>ρ t*(E t i*b i):=bG λi _=>by
   rw[Int.mul_comm,<- dY]
   grind
  rw[e1,CI];exact bG λt _=>dY
 have w0:∀i,i<P.n->(aS q λt=>ρ t*E t i)=0:=λi hi=>I.indep (w:=λi=>aS q λt=>ρ t*E t i) (λx hx=>by
  rw[lin λi=>P.a (T.f i) x];have e2:(aS q λt=>ρ t*aS P.n λi=>E t i*P.a (T.f i) x)=aS q λt=>-T.s*(ρ t*P.a (u t) x):=bG λt ht=>by
   have:=(hat t ht).a x hx
   grind
  rw[e2,dY,ha x hx];lia) i hi
 have e4:(aS q λt=>ρ t*V t)=aS q λt=>T.s*(ρ t*P.c (u t))+ρ t*aS P.n λi=>E t i*P.c (T.f i):=bG λt ht=>by
  rw[<- (hat t ht).c]
  grind
 rw[e4,jE,dY,hc,<- lin λi=>P.c (T.f i),fQ λi hi=>by rw[w0 i hi];lia];lia
def OO:∀{n:Nat}{g:Nat->Int},aS n g<0->∃m,m<n/\g m<0
 |0,_,h=>by simp[aS]at h
 |n+1,g,h=>by
  rw[aS]at h;by_cases c:g n<0
  .grind
  .obtain⟨m,hm,e⟩:=OO (n:=n) (g:=g) ∅
   grind
structure Ch(P:Pr)(T:Tab)(p d:Nat):Prop where
 hp:p<P.k
 neg:T.L p P.n<0
 first:∀r,r<P.k->T.L r P.n<0->T.h p<=T.h r
 hd:d<P.n
 dneg:T.L p d<0
 best:∀j,j<P.n->T.L p j<0->T.L P.k d*-T.L p j<T.L P.k j*-T.L p d\/(T.L P.k d*-T.L p j=T.L P.k j*-T.L p d/\T.f d<=T.f j)
def Ch.inv(C:Ch P T p d)(I:Inv P σ T):Inv P σ (swap T p d):=I.swap C.hp C.hd C.dneg λj hj hn=>by
 rcases C.best j hj hn with h|h<;>lia
def Fr(P:Pr)(T:Tab)(u:Nat):Prop:=∃j,j<P.n/\T.f j=u
def NZ(P:Pr)(T:Tab)(u:Nat):Prop:=∃j,j<P.n/\T.f j=u/\T.L P.k j≠0
def tQ(C:Ch P T p d)(I:Inv P σ T)(u:Nat):Fr P (swap T p d) u↔u=T.h p\/(Fr P T u/\u≠T.f d):=by
 constructor
 .rintro⟨j,hj,e⟩
  rw[fP]at e;split at e
  .exact .inl e.symm
  .rename_i hjd
   refine .inr ⟨⟨j,hj,e⟩,λz=>hjd (I.fi j d hj C.hd ?_)⟩;rw[e,z]
 .rintro(rfl|⟨⟨j,hj,rfl⟩,hne⟩)
  .exact⟨d,C.hd,by rw[fP,Â rfl]⟩
  .exact⟨j,hj,by rw[fP,Ã λz=>hne (by rw[z])]⟩
def aCZ(C:Ch P T p d)(I:Inv P σ T)(hz:T.L P.k d=0)(u:Nat):NZ P (swap T p d) u↔NZ P T u:=by
 have pos:=I.pos;have step:∀j,j<P.n->j≠d->((swap T p d).L P.k j≠0↔T.L P.k j≠0):=λj hj hjd=>by
  have e:=(I.quot C.hp C.hd (r:=P.k) (È _) (by have:=C.hp;exact Þ ‹_›) hj hjd).1;rw[hz,Int.zero_mul,Int.add_zero]at e;have dn:=C.dneg;constructor
  .intro h z
   rw[z,Int.mul_zero]at e;rcases Int.mul_eq_zero.mp e with z|z
   .lia
   .exact h z
  .intro h z
   rw[z,Int.mul_zero]at e;rcases Int.mul_eq_zero.mp e.symm with z|z
   .lia
   .exact h z
 have ed:(swap T p d).L P.k d=0:=by rw[tP (by have:=C.hp;exact Þ ‹_›)];exact hz
 constructor
 .rintro⟨j,hj,e,hnz⟩
  rw[fP]at e;by_cases hjd:j=d
  .grind
  .rw[Ã hjd]at e
   exact⟨j,hj,e,(step j hj hjd).mp hnz⟩
 .rintro⟨j,hj,e,hnz⟩
  by_cases hjd:j=d
  .grind
  .exact⟨j,hj,by rw[fP,Ã hjd];exact e,(step j hj hjd).mpr hnz⟩
def Inv.held_nz(I:Inv P σ T)(hr:r<=P.k):¬NZ P T (T.h r):=λzQ=>by let⟨j,hj,e,_⟩:=zQ;exact I.fh j r hj hr e
def Inv.not_fr(I:Inv P σ T)(hr:r<=P.k):¬Fr P T (T.h r):=λzQ=>by let⟨j,hj,e⟩:=zQ;exact I.fh j r hj hr e
end
structure JZ(P:Pr)(σ:Int)(T:Nat->Tab)(p d:Nat->Nat)(l:Nat):Prop where
 inv:Inv P σ (T 0)
 ch:∀i,i<l->Ch P (T i) (p i) (d i)
 next:∀i,i<l->T (i+1)=swap (T i) (p i) (d i)
section
def JZ.inv_at(R:JZ P σ T p d l):∀i,i<=l->Inv P σ (T i)
 |0,_=>R.inv
 |i+1,h=>by
  rw[R.next i (by assumption)];exact(R.ch i (by assumption)).inv (R.inv_at i 'a')
structure ī(P:Pr)(T:Nat->Tab)(p d:Nat->Nat)(x y t:Nat):Prop where
 e:∀m,x<=m->m<y->(T m).h (p m)<t
 g:∀m,x<=m->m<y->(T m).f (d m)<t
 z:∀m,x<=m->m<y->(T m).L P.k (d m)=0
def ī.fr(R:JZ P σ T p d l)(S:ī P T p d x y t)(hy:y<=l)(hu:t<=u):∀m,x<=m->m<=y->(Fr P (T m) u↔Fr P (T x) u):=by
 intro m hx
 induction m with
 |zero=>grind
 |succ m ih=>
  intro hm;by_cases e:x=m+1
  .rw[e]
  .have h1:=S.e m ∅ (by assumption)
   have h2:=S.g m ∅ (by assumption);rw[<- ih ∅ 'a',R.next m (by grind),tQ (R.ch m (by grind)) (R.inv_at m (by grind))]
   grind
def ī.nz(R:JZ P σ T p d l)(S:ī P T p d x y t)(hy:y<=l):∀m,x<=m->m<=y->(NZ P (T m) u↔NZ P (T x) u):=by
 intro m hx
 induction m with
 |zero=>grind
 |succ m ih=>
  intro hm;by_cases e:x=m+1
  .rw[e]
  .rw[<- ih ∅ 'a',R.next m (by grind)]
   exact aCZ (R.ch m (by grind)) (R.inv_at m (by grind)) (S.z m ∅ (by assumption)) u
theorem OP(R:JZ P σ T p d l)(S:ī P T p d x y (t+1))(hy:y<=l)(hi:x<=i)(hi2:i<y)(hj:x<=j)(hj2:j<y)(hA:(T i).h (p i)=t)(hB:(T j).f (d j)=t):False:=by
 have IA:=R.inv_at i (by grind);have IB:=R.inv_at j (by grind);have CA:=R.ch i (by grind);have CB:=R.ch j (by grind);have pB:=CB.hp
 -- where an unknown stands at A
 have stand:∀u,u<P.N->∃E V,At P (T i) u E V/\((Fr P (T i) u/\V=0)\/∃r,r<P.k/\(T i).h r=u/\V=(T i).L r P.n):=λu hu=>by
  rcases IA.all u hu with ⟨m,hm,e⟩|⟨r,hr,e⟩
  .exact⟨_,0,by rw[<- e];exact E8 hm,.inl ⟨⟨m,hm,e⟩,rfl⟩⟩
  .exact⟨_,_,by rw[<- e];exact IA.at_held 'a',.inr ⟨r,hr,e,rfl⟩⟩
 -- the unknowns of B's line
 let u:Nat->Nat:=λm=>if m<P.n then (T j).f m else (T j).h (p j);let ρ:Nat->Int:=λm=>if m<P.n then (T j).L (p j) m else (T j).s;have uN:∀m,u m<P.N:=λm=>by
  show (if m<P.n then (T j).f m else (T j).h (p j))<P.N;split
  .rename_i h;exact IB.fN m h
  .exact IB.hN _ pB
 have ev:=IA.eval (q:=P.n+1) (ρ:=ρ) (u:=u) (E:=λm=>(stand (u m) (uN m)).choose) (V:=λm=>(stand (u m) (uN m)).choose_spec.choose) (ρ0:=(T j).L (p j) P.n) (λm _=>(stand (u m) (uN m)).choose_spec.choose_spec.1) (λx hx=>by
  have e:=IB.cr (p j) 'a' x hx;rw[aS];have e1:(aS P.n λm=>ρ m*P.a (u m) x)=aS P.n λm=>(T j).L (p j) m*P.a ((T j).f m) x:=bG λm hm=>by
   grind
  grind) (by
  have e:=IB.lc (p j) 'a';rw[aS];have e1:(aS P.n λm=>ρ m*P.c (u m))=aS P.n λm=>(T j).L (p j) m*P.c ((T j).f m):=bG λm hm=>by
   grind
  grind)
 have neg:(T i).s*(T j).L (p j) P.n<0:=Int.mul_neg_of_pos_of_neg IA.pos CB.neg;rw[<- ev]at neg;let⟨m,hm,hneg⟩:=OO neg;have st:=(stand (u m) (uN m)).choose_spec.choose_spec.2;generalize (stand (u m) (uN m)).choose_spec.choose=V at st hneg
 -- it is held at A
 rcases st with ⟨_,hV⟩|⟨r,hr,hru,hV⟩
 .grind
 .have notA:¬Fr P (T i) (u m):=by rw[<- hru];exact IA.not_fr 'a'
  have fromA:V<0->t<=u m:=λhv=>by
   rw[<- hA,<- hru];exact CA.first r hr (by rw[<- hV];exact hv)
  by_cases hmn:m<P.n
  .have eu:u m=(T j).f m:=Â hmn
   have eρ:ρ m=(T j).L (p j) m:=Â hmn;rw[eρ]at hneg;have frB:Fr P (T j) (u m):=⟨m,hmn,eu.symm⟩
   -- it has moved
   have le:u m<=t:=by
    refine Nat.le_of_not_lt λgt=>?_;have h1:=S.fr R hy (u:=u m) (by assumption) i hi 'a';have h2:=S.fr R hy (u:=u m) (by assumption) j hj 'a';exact notA (h1.mpr (h2.mp frB))
   by_cases hv:V<0
   .have:=fromA hv
    have et:(T j).f m=(T j).f (d j):=by rw[hB,<- eu];exact Nat.le_antisymm ‹_› ‹_›
    have:=IB.fi m (d j) hmn CB.hd et;rw[this]at hneg;have dn:=CB.dneg;have:=Int.mul_pos_of_neg_of_neg dn hv;lia
   .have hv0:0<V:=by
     rcases Int.lt_trichotomy V 0 with z|z|z
     .contradiction
     .grind
     .exact z
    have ln:(T j).L (p j) m<0:=by
     refine Int.not_le.mp λz=>?_;have:=Int.mul_nonneg z (ö hv0);lia
    have ne:u m≠t:=λz=>by
     have hrp:r=p i:=IA.hi r (p i) 'a' (by have:=CA.hp;exact É ‹_›) (by rw[hru,hA,z]);rw[hV,hrp]at hv0;have:=CA.neg;lia
    have zB:=S.z j hj hj2;have nzA:¬NZ P (T i) (u m):=by rw[<- hru];exact IA.held_nz 'a'
    have nzB:¬NZ P (T j) (u m):=λz=>nzA ((S.nz R hy i hi 'a').mpr ((S.nz R hy j hj 'a').mp z));have gz:(T j).L P.k m=0:=Ċ λz=>nzB ⟨m,hmn,eu.symm,z⟩;rcases CB.best m hmn ln with h|h
    all_goals grind
  .have eu:u m=(T j).h (p j):=Ã hmn
   have eρ:ρ m=(T j).s:=Ã hmn;rw[eρ]at hneg;have sB:=IB.pos;have hv:V<0:=by
    refine Int.not_le.mp λz=>?_;have:=Int.mul_nonneg (ö sB) z;lia
   have h1:=fromA hv;have h2:=S.e j hj hj2;have et:(T j).f (d j)=(T j).h (p j):=by rw[hB,<- eu];lia
   exact IB.fh (d j) (p j) CB.hd 'a' et
end
end Sx
namespace Sx
section
variable {P:Pr}{σ:Int}{T:Nat->Tab}{p d:Nat->Nat}{l:Nat}
def aL2(R:JZ P σ T p d l):∀(n x:Nat),x+n<=l->Fr P (T x) t->¬Fr P (T (x+n)) t->∃m,x<=m/\m<x+n/\(T m).f (d m)=t
 |0,x,_,h1,h2=>absurd h1 h2
 |n+1,x,hl,h1,h2=>by
  by_cases c:Fr P (T (x+n)) t
  .refine⟨x+n,by exact Nat.le_add_right _ _,by exact ð _,?_⟩
   refine Ċ λhne=>h2 ?_;rw[<- Nat.add_assoc,R.next (x+n) (by assumption),tQ (R.ch _ (by assumption)) (R.inv_at _ 'a')]
   grind
  .obtain⟨m,h3,h4,h5⟩:=aL2 R n x 'a' h1 c
   grind
def aL3(R:JZ P σ T p d l):∀(n x:Nat),x+n<=l->¬Fr P (T x) t->Fr P (T (x+n)) t->∃m,x<=m/\m<x+n/\(T m).h (p m)=t
 |0,x,_,h1,h2=>absurd h2 h1
 |n+1,x,hl,h1,h2=>by
  by_cases c:Fr P (T (x+n)) t
  .obtain⟨m,h3,h4,h5⟩:=aL3 R n x 'a' h1 c
   grind
  .refine⟨x+n,by exact Nat.le_add_right _ _,by exact ð _,?_⟩
   rw[<- Nat.add_assoc,R.next (x+n) (by assumption),tQ (R.ch _ (by assumption)) (R.inv_at _ 'a')]at h2
   grind
def bd:Nat->Nat
 |0=>0
 |t+1=>2*bd t+1
def aFH(R:JZ P σ T p d l):∀(t x y:Nat),y<=l->ī P T p d x y t->y-x<=bd t
 |0,x,y,hy,S=>by
  by_cases h:x<y
  .exact absurd (S.e x (È _) h) ∅
  .rw[bd];lia
 |t+1,x,y,hy,S=>by
  have sub:∀x' y',x<=x'->y'<=y->(∀m,x'<=m->m<y'->(T m).h (p m)≠t/\(T m).f (d m)≠t)->y'-x'<=bd t:=λx' y' h1 h2 h3=>aFH R t x' y' (by grind) ⟨λm a b=>by
   have:=S.e m (by grind) (by grind)
   grind,λm a b=>by
   have:=S.g m (by grind) (by grind)
   grind,λm a b=>S.z m (by grind) (by grind)⟩
  by_cases ex:∃m,x<=m/\m<y/\((T m).h (p m)=t\/(T m).f (d m)=t)
  .obtain⟨m0,a0,b0,c0⟩:=ex
   have no2:∀m m',x<=m->m<m'->m'<y->((T m).h (p m)=t\/(T m).f (d m)=t)->((T m').h (p m')=t\/(T m').f (d m')=t)->False:=by
    intro m m' h1 h2 h3 c c';have IM:=R.inv_at m ∅;have CM:=R.ch m ∅;have IM':=R.inv_at m' (by grind);have CM':=R.ch m' (by grind);rcases c with c|c
    .rcases c' with c'|c'
     ·-- freed twice
      have f1:Fr P (T (m+1)) t:=by
       rw[R.next m ∅,tQ CM IM];exact .inl c.symm
      have f2:¬Fr P (T (m+1+(m'-(m+1)))) t:=by
       rw[show m+1+(m'-(m+1))=m' by lia,<- c'];exact IM'.not_fr (by have:=CM'.hp;exact É ‹_›)
      let⟨q,q1,q2,q3⟩:=aL2 R (m'-(m+1)) (m+1) ∅ f1 f2;exact OP R S hy h1 ∅ ∅ ∅ c q3
     .exact OP R S hy h1 (by grind) ∅ h3 c c'
    .rcases c' with c'|c'
     .exact OP R S hy ∅ h3 h1 (by grind) c' c
     .have f1:¬Fr P (T (m+1)) t:=by
       rw[R.next m ∅,tQ CM IM];rintro(h|h)
       .exact IM.fh (d m) (p m) CM.hd (by have:=CM.hp;exact É ‹_›) (by rw[c,h])
       .exact h.2 c.symm
      have f2:Fr P (T (m+1+(m'-(m+1)))) t:=by
       rw[show m+1+(m'-(m+1))=m' by lia];exact⟨d m',CM'.hd,c'⟩
      let⟨q,q1,q2,q3⟩:=aL3 R (m'-(m+1)) (m+1) ∅ f1 f2;exact OP R S hy ∅ ∅ h1 ∅ q3 c
   have l1:=sub x m0 (È _) 'a' λm a b=>⟨λz=>no2 m m0 a b b0 (.inl z) c0,λz=>no2 m m0 a b b0 (.inr z) c0⟩;have l2:=sub (m0+1) y (by grind) (È _) λm a b=>⟨λz=>no2 m0 m a0 (by assumption) b c0 (.inl z),λz=>no2 m0 m a0 (by assumption) b c0 (.inr z)⟩;rw[bd];lia
  .have:=sub x y (È _) (È _) λm a b=>⟨λz=>ex ⟨m,a,b,.inl z⟩,λz=>ex ⟨m,a,b,.inr z⟩⟩
   rw[bd];lia
def JZ.fN(R:JZ P σ T p d l)(hy:y<=l)(hz:∀m,x<=m->m<y->(T m).L P.k (d m)=0):y-x<=bd P.N:=aFH R P.N x y hy ⟨λm a b=>(R.inv_at m (by grind)).hN _ (R.ch m (by grind)).hp,λm a b=>(R.inv_at m (by grind)).fN _ (R.ch m (by grind)).hd,hz⟩
def aL4(R:JZ P σ T p d l)(hi:i<l):(T (i+1)).L P.k P.n*(T i).s=(T i).L P.k P.n*(T (i+1)).s+(T i).L P.k (d i)*(T i).L (p i) P.n:=by
 have I:=R.inv_at i 'a';have C:=R.ch i hi;have e:=(I.quotN C.hp C.hd (r:=P.k) (È _) (by have:=C.hp;exact Þ ‹_›)).1;rw[R.next i hi];show _=_*-(T i).L (p i) (d i)+_
 grind
def aI4{k0 k1 k2 s0 s1 s2 w:Int}(p0:0<s0)(p1:0<s1)(p2:0<s2)(e:k2*s1=k1*s2+w)(ih:k1*s0<=k0*s1)(le:w<=0):k2*s0<=k0*s2:=by
 have b1:k2*s0*s1=(k1*s0)*s2+w*s0:=by
  rw[Int.mul_right_comm,e,Int.add_mul,Int.mul_right_comm]
 have b2:(k1*s0)*s2<=(k0*s1)*s2:=ě ih (ö p2);have b3:w*s0<=0:=Int.mul_nonpos_of_nonpos_of_nonneg le (ö p0);rw[Int.mul_right_comm k0]at b2;have a1:k2*s0*s1<=k0*s2*s1:=by lia
 exact Int.le_of_mul_le_mul_right a1 p1
def aI5{k0 k1 k2 k3 s0 s1 s2 s3 w:Int}(p0:0<s0)(p1:0<s1)(p2:0<s2)(p3:0<s3)(b:k3*s2<=k2*s3)(e:k2*s1=k1*s2+w)(a:k1*s0<=k0*s1)(lt:w<0):k3*s0<k0*s3:=by
 -- k3 s2<=k2 s3;k2 s1=k1 s2+w;k1 s0<=k0 s1
 have s12:0<s1*s2:=Int.mul_pos p1 p2;have a1:k3*s0*(s1*s2)<k0*s3*(s1*s2):=by
  have b1:k3*s0*(s1*s2)=(k3*s2)*(s0*s1):=by grind
  have b2:(k3*s2)*(s0*s1)<=(k2*s3)*(s0*s1):=ě b (ö (Int.mul_pos p0 p1));have b3:(k2*s3)*(s0*s1)=(k2*s1)*(s0*s3):=by grind
  have b4:(k2*s1)*(s0*s3)=(k1*s0)*(s2*s3)+w*(s0*s3):=by rw[e];grind
  have b5:(k1*s0)*(s2*s3)<=(k0*s1)*(s2*s3):=ě a (ö (Int.mul_pos p2 p3));have b6:w*(s0*s3)<0:=Int.mul_neg_of_neg_of_pos lt (Int.mul_pos p0 p3);have b7:(k0*s1)*(s2*s3)=k0*s3*(s1*s2):=by grind
  lia
 simp_all
def E9(R:JZ P σ T p d l):∀n,i+n<=l->(T (i+n)).L P.k P.n*(T i).s<=(T i).L P.k P.n*(T (i+n)).s
 |0,_=>Int.le_refl _
 |n+1,h=>by
  have ih:=E9 R n (i:=i) 'a';have e:=aL4 R (i:=i+n) (by assumption);have C:=R.ch (i+n) (by assumption);have I:=R.inv_at (i+n) 'a';have I0:=R.inv_at i ∅;have I1:=R.inv_at (i+n+1) (by assumption);have g:=I.dual _ C.hd;have neg:=C.neg;have p0:=I0.pos;have p1:=I.pos;have p2:=I1.pos;have le:(T (i+n)).L P.k (d (i+n))*(T (i+n)).L (p (i+n)) P.n<=0:=Int.mul_nonpos_of_nonneg_of_nonpos g (by exact ö ‹_›);rw[<- Nat.add_assoc];exact aI4 p0 p1 p2 e ih le
def aC0(R:JZ P σ T p d l)(h1:i<=m)(h2:m<j)(h3:j<=l)(hnz:(T m).L P.k (d m)≠0):(T j).L P.k P.n*(T i).s<(T i).L P.k P.n*(T j).s:=by
 have a:=E9 R (i:=i) (m-i) ∅;have b:=E9 R (i:=m+1) (j-(m+1)) ∅;rw[show i+(m-i)=m by lia]at a;rw[show m+1+(j-(m+1))=j by lia]at b;have e:=aL4 R (i:=m) (by grind);have C:=R.ch m (by grind);have I:=R.inv_at m (by grind);have p0:=(R.inv_at i ∅).pos;have p1:=I.pos;have p2:=(R.inv_at (m+1) (by grind)).pos;have p3:=(R.inv_at j (by assumption)).pos;have g:=I.dual _ C.hd;have neg:=C.neg;have lt:(T m).L P.k (d m)*(T m).L (p m) P.n<0:=Int.mul_neg_of_pos_of_neg ∅ neg;exact aI5 p0 p1 p2 p3 b e a lt
def RZ(IA:Inv P σ A)(IB:Inv P σ B)(h:∀u,u<P.N->Fr P B u->Fr P A u):B.s*A.L P.k P.n=A.s*B.L P.k P.n:=by
 let u:Nat->Nat:=λm=>if m<P.n then B.f m else P.N;let ρ:Nat->Int:=λm=>if m<P.n then B.L P.k m else B.s;have stand:∀m,m<P.n+1->∃E,At P A (u m) E (if m<P.n then 0 else A.L P.k P.n):=λm hm=>by
  by_cases c:m<P.n
  .obtain⟨j,hj,e⟩:=h (B.f m) (IB.fN m c) ⟨m,c,rfl⟩
   refine⟨λi=>if i=j then -A.s else 0,?_⟩;rw[Â c];show At P A (if m<P.n then B.f m else P.N) _ 0;rw[Â c,<- e];exact E8 hj
  .refine⟨A.L P.k,?_⟩
   rw[Ã c];show At P A (if m<P.n then B.f m else P.N) _ _;rw[Ã c,<- IA.hk];exact IA.at_held (È _)
 have ev:=IA.eval (q:=P.n+1) (ρ:=ρ) (u:=u) (E:=λm=>open Classical in if hm:m<P.n+1 then (stand m hm).choose else λ_=>0) (V:=λm=>if m<P.n then 0 else A.L P.k P.n) (ρ0:=B.L P.k P.n) (λm hm=>by
  grind) (λx hx=>by
  have e:=IB.cr P.k (È _) x hx;rw[IB.hk]at e;rw[aS];have e1:(aS P.n λm=>ρ m*P.a (u m) x)=aS P.n λm=>B.L P.k m*P.a (B.f m) x:=bG λm hm=>by
   grind
  grind) (by
  have e:=IB.lc P.k (È _);rw[IB.hk]at e;rw[aS];have e1:(aS P.n λm=>ρ m*P.c (u m))=aS P.n λm=>B.L P.k m*P.c (B.f m):=bG λm hm=>by
   grind
  grind)
 rw[aS,fQ λm hm=>by rw[Â hm];lia]at ev
 grind
def aPI:∀(M:Nat)(g:Nat->Nat),(∀i,i<=M->g i<M)->∃i j,i<j/\j<=M/\g i=g j
 |0,g,h=>absurd (h 0 (È _)) ∅
 |M+1,g,h=>by
  by_cases ex:∃i,i<=M/\g i=g (M+1)
  .obtain⟨i,hi,e⟩:=ex
   exact⟨i,M+1,by grind,by exact ð _,e⟩
  .have hv:=h (M+1) (by exact ð _)
   let⟨i,j,h1,h2,h3⟩:=aPI M (λi=>if g i=M then g (M+1)else g i) λi hi=>by
    grind
   refine⟨i,j,h1,by grind,?_⟩
   grind
def code(b:Nat->Bool):Nat->Nat
 |0=>0
 |n+1=>2*code b n+(if b n=true then 1 else 0)
def OQ :∀n,code b n<2^n
 |0=>by simp[code]
 |n+1=>by
  have:=OQ (b:=b) n;rw[code,Nat.pow_succ];split<;>lia
def JA :∀n,code b n=code b' n->∀u,u<n->b u=b' u
 |0,_,u,hu=>by grind
 |n+1,e,u,hu=>by
  rw[code,code]at e;have hb:b n=b' n/\code b n=code b' n:=by
   cases h1:b n<;>cases h2:b' n<;>rw[h1,h2]at e<;>simp at e⊢<;>lia
  by_cases c:u=n
  .subst c;exact hb.1
  .exact JA n hb.2 u ∅
def most(N:Nat):Nat:=(2^N+1)*(bd N+1)
def JZ.most(R:JZ P σ T p d l):l<Sx.most P.N:=by
 refine Nat.lt_of_not_le λhl=>?_
 -- in each window the goal falls once
 have win:∀w,w<=2^P.N->∃m,w*(bd P.N+1)<=m/\m<(w+1)*(bd P.N+1)/\(T m).L P.k (d m)≠0:=λw hw=>by
  refine Ċ λno=>?_;have hle:(w+1)*(bd P.N+1)<=Sx.most P.N:=Nat.mul_le_mul_right _ (by grind);have:=R.fN (x:=w*(bd P.N+1)) (y:=(w+1)*(bd P.N+1)) (by grind) λm a b=>Ċ λz=>no ⟨m,a,b,z⟩
  grind
 let mm:Nat->Nat:=λw=>open Classical in if hw:w<=2^P.N then (win w hw).choose else 0;have mmS:∀w,w<=2^P.N->w*(bd P.N+1)<=mm w/\mm w<(w+1)*(bd P.N+1)/\(T (mm w)).L P.k (d (mm w))≠0:=λw hw=>by
  grind
 let fb:Nat->Nat->Bool:=λw u=>open Classical in decide (Fr P (T (mm w)) u);let⟨i,j,h1,h2,h3⟩:=aPI (2^P.N) (λw=>code (fb w) P.N) λw _=>OQ P.N;have si:=mmS i (by grind);have sj:=mmS j h2;have hij:(i+1)*(bd P.N+1)<=j*(bd P.N+1):=Nat.mul_le_mul_right _ (by assumption);have hjl:(j+1)*(bd P.N+1)<=Sx.most P.N:=Nat.mul_le_mul_right _ (by grind);have fl:=aC0 R (i:=mm i) (m:=mm i) (j:=mm j) (È _) ∅ ∅ si.2.2;have sg:=RZ (R.inv_at (mm i) ∅) (R.inv_at (mm j) ∅) λu hu hf=>by
  have e:=JA P.N h3 u hu
  grind
 grind
end
end Sx
namespace Sx
def shr(n:Nat)(f:Nat->Nat)(w:Nat->Int)(u:Nat):Int:=aS n λj=>if f j=u then w j else 0
def shr_at(hf:∀i j,i<n->j<n->f i=f j->i=j)(hj:j<n):shr n f w (f j)=w j:=by
 unfold shr;rw[cR (k:=j) hj λi hi hne=>Ã λz=>hne (hf i j hi hj z),Â rfl]
def shr_no(h:∀j,j<n->f j≠u):shr n f w u=0:=fQ λj hj=>Ã (h j hj)
structure Lp where
 n:Nat
 m:Nat
 row:Nat->jW
 top:Nat->Int
 room:Nat->Int
def Lp.pr(Q:Lp):Pr where
 n:=Q.n
 k:=Q.m+Q.n
 N:=Q.n+Q.m+Q.n
 a:=λu x=>if u<Q.n then (if x=u then -1 else 0)else if u<Q.n+Q.m then Q.row (u-Q.n) x else if u<Q.n+Q.m+Q.n then (if x=u-(Q.n+Q.m)then 1 else 0)else 1
 c:=λu=>if u<Q.n then 0 else if u<Q.n+Q.m then Q.top (u-Q.n)else if u<Q.n+Q.m+Q.n then Q.room (u-(Q.n+Q.m))else 0
def Lp.start(Q:Lp):Tab where
 s:=1
 f:=λj=>j
 h:=λr=>Q.n+r
 L:=λr j=>if j<Q.n then Q.pr.a (Q.n+r) j else Q.pr.c (Q.n+r)
section
variable {Q:Lp}
def zU(h:i<Q.n):Q.pr.a i x=if x=i then -1 else 0:=Â h
def aFI(h:r<Q.m):Q.pr.a (Q.n+r) x=Q.row r x:=by
 show (if Q.n+r<Q.n then _ else if Q.n+r<Q.n+Q.m then Q.row (Q.n+r-Q.n) x else _)=_
 grind
def X4(h:i<Q.n):Q.pr.a (Q.n+Q.m+i) x=if x=i then 1 else 0:=by
 show (if Q.n+Q.m+i<Q.n then _ else if Q.n+Q.m+i<Q.n+Q.m then _ else if Q.n+Q.m+i<Q.n+Q.m+Q.n then (if x=Q.n+Q.m+i-(Q.n+Q.m)then (1:Int)else 0)else _)=_
 grind
def L0:Q.pr.a Q.pr.N x=1:=by
 show (if Q.n+Q.m+Q.n<Q.n then _ else if Q.n+Q.m+Q.n<Q.n+Q.m then _ else if Q.n+Q.m+Q.n<Q.n+Q.m+Q.n then _ else (1:Int))=_
 grind
def X5(h:i<Q.n):Q.pr.c i=0:=Â h
def aFJ(h:r<Q.m):Q.pr.c (Q.n+r)=Q.top r:=by
 show (if Q.n+r<Q.n then _ else if Q.n+r<Q.n+Q.m then Q.top (Q.n+r-Q.n)else _)=_
 grind
def X6(h:i<Q.n):Q.pr.c (Q.n+Q.m+i)=Q.room i:=by
 show (if Q.n+Q.m+i<Q.n then _ else if Q.n+Q.m+i<Q.n+Q.m then _ else if Q.n+Q.m+i<Q.n+Q.m+Q.n then Q.room (Q.n+Q.m+i-(Q.n+Q.m))else _)=_
 grind
def X7:Q.pr.c Q.pr.N=0:=by
 show (if Q.n+Q.m+Q.n<Q.n then _ else if Q.n+Q.m+Q.n<Q.n+Q.m then _ else if Q.n+Q.m+Q.n<Q.n+Q.m+Q.n then _ else (0:Int))=_
 grind
def aC1:∀n:Nat,c8 (n+1) (λj x=>if x=j then -1 else 0)=-c8 n (λj x=>if x=j then -1 else 0):=λn=>by
 rw[c8,cR (k:=0) (by exact Ă _) λi hi hne=>by
  grind]
 have e:fC (λj x=>if x=j then (-1:Int)else 0) 0=λj x=>if x=j then -1 else 0:=by
  funext r c;unfold fC skip;rw[Ã ∅];by_cases h:c=r
  .grind
  .grind
 rw[e];show Đ 0*(if 0=0 then -1 else 0)*_=_;rw[Â rfl];show 1*-1*_=_;lia
def X8:∀n:Nat,c8 n (λj x=>if x=j then -1 else 0)*c8 n (λj x=>if x=j then -1 else 0)=1
 |0=>rfl
 |n+1=>by
  rw[aC1];have:=X8 n
  grind
def Lp.inv(Q:Lp):Inv Q.pr (c8 Q.n (λj x=>if x=j then -1 else 0)) Q.start:=by
 have sq:=X8 Q.n;have eF:∀M:Nat->jW,(∀j x,j<Q.n->M j x=if x=j then -1 else 0)->c8 Q.n M=c8 Q.n (λj x=>if x=j then -1 else 0):=λM h=>lF λr c hr _=>h r c hr;have hF:∀j x,j<Q.n->Q.start.F Q.pr j x=if x=j then -1 else 0:=λj x hj=>zU hj;have dF:=eF (Q.start.F Q.pr) hF;have dU:∀(j:Nat)(v:jW),j<Q.n->c8 Q.n (aV (Q.start.F Q.pr) j v)=-v j*c8 Q.n (λj x=>if x=j then -1 else 0):=λj v hj=>by
  have e1:c8 Q.n (aV (Q.start.F Q.pr) j v)=c8 Q.n (aV (Q.start.F Q.pr) j λx=>aS Q.n λl=>-v l*Q.start.F Q.pr l x):=lF λr x hr hx=>by
   by_cases e:r=j
   .subst e
    rw[aJ,aJ,cR (k:=x) hx λl hl hne=>by grind,hF x x hx,Â rfl];lia
   .rw[aE e,aE e]
  rw[e1,wI hj,cR (k:=j) hj λl hl hne=>?_,gX,dF];have:c8 Q.n (aV (Q.start.F Q.pr) j (Q.start.F Q.pr l))=0:=wH hj hl (λz=>hne z.symm) λx=>by rw[aJ,aE hne]
  rw[this];lia
 have Lj:∀r j,j<Q.n->Q.start.L r j=Q.pr.a (Q.n+r) j:=λr j hj=>Â hj;have Ln:∀r,Q.start.L r Q.n=Q.pr.c (Q.n+r):=λr=>Ã ∅;have kN:Q.pr.k=Q.m+Q.n:=rfl;have NN:Q.pr.N=Q.n+Q.m+Q.n:=rfl;have nn:Q.pr.n=Q.n:=rfl;refine⟨sq,by show (0:Int)<1;decide,?_,?_,?_,?_,?_,?_,?_,?_,?_,?_,?_,?_⟩
 .show (1:Int)=_*c8 Q.n (Q.start.F Q.pr)
  rw[dF,sq]
 .intro r _ j hj
  rw[Lj r j hj];show _=_*c8 Q.n (aV (Q.start.F Q.pr) j (Q.pr.a (Q.n+r)));rw[dU j _ hj]
  grind
 .intro r _
  show Q.start.L r Q.n=1*Q.pr.c (Q.n+r)+aS Q.n λj=>Q.start.L r j*Q.pr.c j;rw[Ln,fQ λj hj=>by rw[X5 hj];lia];lia
 .intro r _ x hx
  show 1*Q.pr.a (Q.n+r) x+(aS Q.n λj=>Q.start.L r j*Q.pr.a j x)=0;have hx:x<Q.n:=hx;rw[cR (k:=x) hx λl hl hne=>by rw[zU hl,Ã λz=>hne z.symm];lia,zU hx,Â rfl,Lj r x hx];lia
 .exact λi j _ _ e=>e
 .intro r q _ _ e
  have e:Q.n+r=Q.n+q:=e;lia
 .intro j r hj _ e
  have e:j=Q.n+r:=e
  grind
 .show Q.n+(Q.m+Q.n)=Q.n+Q.m+Q.n
  lia
 .intro u hu
  rw[NN]at hu;by_cases h:u<Q.n
  .exact .inl ⟨u,h,rfl⟩
  .refine .inr ⟨u-Q.n,by rw[kN];lia,?_⟩
   show Q.n+(u-Q.n)=u;lia
 .intro j hj
  show j<Q.n+Q.m+Q.n
  grind
 .intro r hr
  show Q.n+r<Q.n+Q.m+Q.n
  grind
 .intro j hj
  rw[Lj _ j hj];have:Q.n+Q.pr.k=Q.pr.N:=by rw[kN,NN];lia
  rw[this,L0];decide
variable {σ:Int}{T:Tab}
def val(P:Pr)(T:Tab)(u:Nat):Int:=shr P.k T.h (λr=>T.L r P.n) u
def L4(I:Inv Q.pr σ T)(hu:u<Q.pr.N):∃E,At Q.pr T u E (val Q.pr T u):=by
 rcases I.all u hu with ⟨j,hj,e⟩|⟨r,hr,e⟩
 .have:val Q.pr T u=0:=shr_no λr hr z=>I.fh j r hj 'a' (by rw[e,z])
  rw[this,<- e];exact⟨_,E8 hj⟩
 .have:val Q.pr T u=T.L r Q.pr.n:=by
   unfold val;rw[<- e];exact shr_at (λi j hi hj z=>I.hi i j 'a' 'a' z) hr
  rw[this,<- e];exact⟨_,I.at_held 'a'⟩
def aL5(I:Inv Q.pr σ T):(∀r,r<Q.m->val Q.pr T (Q.n+r)+(aS Q.n λx=>Q.row r x*val Q.pr T x)=T.s*Q.top r)/\(∀i,i<Q.n->val Q.pr T (Q.n+Q.m+i)+val Q.pr T i=T.s*Q.room i)/\T.L Q.pr.k Q.n+(aS Q.n λx=>val Q.pr T x)=0:=by
 have fillN:∀x,x<Q.n->x<Q.pr.N:=λx hx=>by show x<Q.n+Q.m+Q.n;lia
 -- a relation of the aL5 and one more
 have rel:∀(u:Nat)(E:Nat->Int)(V:Int)(w:Nat->Int)(ρ0:Int),At Q.pr T u E V->(∀x,x<Q.n->Q.pr.a u x=w x)->Q.pr.c u=ρ0->V+(aS Q.n λx=>w x*val Q.pr T x)=T.s*ρ0:=λu E V w ρ0 hA ha hc=>by
  have ev:=I.eval (q:=Q.n+1) (ρ:=λm=>if m<Q.n then w m else 1) (u:=λm=>if m<Q.n then m else u) (E:=λm=>open Classical in if hm:m<Q.n then (L4 I (fillN m hm)).choose else E) (V:=λm=>if m<Q.n then val Q.pr T m else V) (ρ0:=ρ0) (λm hm=>by
   grind) (λx hx=>by
   have hx:x<Q.n:=hx;rw[aS,Ã ∅,Ã ∅,ha x hx,cR (k:=x) hx λm hm hne=>by rw[Â hm,Â hm,zU hm,Ã λz=>hne z.symm];lia,Â hx,Â hx,zU hx,Â rfl];lia) (by
   rw[aS,Ã ∅,Ã ∅,hc,fQ λm hm=>by rw[Â hm,Â hm,X5 hm];lia];lia)
  rw[aS,Ã ∅,Ã ∅]at ev;have e1:(aS Q.n λm=>(if m<Q.n then w m else 1)*(if m<Q.n then val Q.pr T m else V))=aS Q.n λx=>w x*val Q.pr T x:=bG λm hm=>by rw[Â hm,Â hm]
  rw[e1]at ev;lia
 refine⟨λr hr=>?_,λi hi=>?_,?_⟩
 .obtain⟨E,hA⟩:=L4 I (u:=Q.n+r) (by show Q.n+r<Q.n+Q.m+Q.n;lia)
  exact rel _ E _ (Q.row r) (Q.top r) hA (λx _=>aFI hr) (aFJ hr)
 .obtain⟨E,hA⟩:=L4 I (u:=Q.n+Q.m+i) (by show Q.n+Q.m+i<Q.n+Q.m+Q.n;lia)
  have:=rel _ E _ (λx=>if x=i then 1 else 0) (Q.room i) hA (λx _=>X4 hi) (X6 hi);rw[cR (k:=i) hi λx _ hne=>by rw[Ã hne];lia,Â rfl]at this;lia
 .have hA:=I.at_held (r:=Q.pr.k) (È _)
  rw[I.hk]at hA;have:=rel _ _ _ (λ_=>1) 0 hA (λx _=>L0) X7;have e:(aS Q.n λx=>1*val Q.pr T x)=aS Q.n λx=>val Q.pr T x:=bG λx _=>by lia
  rw[e]at this;have this:T.L Q.pr.k Q.n+(aS Q.n λx=>val Q.pr T x)=T.s*0:=this;lia
end
end Sx
namespace Sx
def simplex_ind{P:Pr}{σ:Int}{Good:Tab->Prop}(step:∀T,Inv P σ T->(∀p d,Ch P T p d->Good (swap T p d))->Good T)(T:Tab)(I:Inv P σ T):Good T:=by
 refine Ċ λh=>?_;have nx:∀B:{T:Tab // Inv P σ T/\¬Good T},∃pd:Nat×Nat,Ch P B.1 pd.1 pd.2/\¬Good (swap B.1 pd.1 pd.2):=λB=>by
  refine Ċ λz=>B.2.2 (step B.1 B.2.1 λp d C=>?_);exact Ċ λg=>z ⟨(p,d),C,g⟩
 let nxt:{T:Tab // Inv P σ T/\¬Good T}->{T:Tab // Inv P σ T/\¬Good T}:=λB=>⟨swap B.1 (nx B).choose.1 (nx B).choose.2,(nx B).choose_spec.1.inv B.2.1,(nx B).choose_spec.2⟩;let sq:Nat->{T:Tab // Inv P σ T/\¬Good T}:=λi=>Nat.rec ⟨T,I,h⟩ (λ_ B=>nxt B) i;have R:JZ P σ (λi=>(sq i).1) (λi=>(nx (sq i)).choose.1) (λi=>(nx (sq i)).choose.2) (most P.N):=⟨I,λi _=>(nx (sq i)).choose_spec.1,λi _=>rfl⟩;exact absurd R.most (û _)
structure LT where
 s:Int
 free:ZK
 held:ZK
 lines:List (ZK)
 goal:ZK
structure LnR(n:Nat)(ln:ZK)(g:Nat->Int):Prop where
 len:ln.length=n+1
 at':∀j,j<=n->ln[j]?=some (g j)
def LnR.getD(h:LnR n ln g)(hj:j<=n):ln.getD j 0=g j:=by
 rw[Ë,h.at' j hj];rfl
structure Rp(P:Pr)(L:LT)(T:Tab):Prop where
 s:L.s=T.s
 fl:L.free.length=P.n
 hl:L.held.length=P.k
 ll:L.lines.length=P.k
 f:∀j,j<P.n->L.free[j]?=some (T.f j:Int)
 h:∀r,r<P.k->L.held[r]?=some (T.h r:Int)
 l:∀r,r<P.k->∃ln,L.lines[r]?=some ln/\LnR P.n ln (T.L r)
 g:LnR P.n L.goal (T.L P.k)
def clearL(ln pv:ZK)(d:Nat)(s:Int):ZK:=(List.zipWith (λone other=>(-pv.getD d 0*one+ln.getD d 0*other)/s) ln pv).set d (ln.getD d 0)
def turnL(pv:ZK)(d:Nat)(s:Int):ZK:=(pv.map λx=>-x).set d (-s)
def swapL(L:LT)(p d:Nat):LT where
 s:=-(L.lines.getD p []).getD d 0
 free:=L.free.set d (L.held.getD p 0)
 held:=L.held.set p (L.free.getD d 0)
 lines:=(L.lines.map λln=>clearL ln (L.lines.getD p []) d L.s).set p (turnL (L.lines.getD p []) d L.s)
 goal:=clearL L.goal (L.lines.getD p []) d L.s
def JB{ln pv:ZK}(ha:LnR n ln a)(hb:LnR n pv b)(hd:d<=n):LnR n (clearL ln pv d s) λj=>if j=d then a d else (-b d*a j+a d*b j)/s:=by
 refine⟨by unfold clearL;rw[Î,List.length_zipWith,ha.len,hb.len,Nat.min_self],λj hj=>?_⟩
 unfold clearL;rw[ĉ,ha.getD hd,hb.getD hd];by_cases e:d=j
 .rw[Â e,Â (by rw[List.length_zipWith,ha.len,hb.len,Nat.min_self];exact Nat.lt_succ_of_le ‹_›)]
  grind
 .rw[Ã e,List.getElem?_zipWith,ha.at' j hj,hb.at' j hj]
  show _=some (if j=d then _ else _);rw[Ã (Ñ e)]
def aC2{pv:ZK}(hb:LnR n pv b)(hd:d<=n):LnR n (turnL pv d s) λj=>if j=d then -s else -b j:=by
 refine⟨by unfold turnL;rw[Î,Å,hb.len],λj hj=>?_⟩
 unfold turnL;rw[ĉ];by_cases e:d=j
 .rw[Â e,Â (by rw[Å,hb.len];exact Nat.lt_succ_of_le ‹_›)]
  grind
 .rw[Ã e,Ò,hb.at' j hj]
  grind
def Rp.swap(R:Rp P L T)(hp:p<P.k)(hd:d<P.n):Rp P (swapL L p d) (swap T p d):=by
 let⟨pv,e1,e2⟩:=R.l p hp;have eP:L.lines.getD p []=pv:=by rw[Ë,e1];rfl
 have eH:L.held.getD p 0=T.h p:=by rw[Ë,R.h p hp];rfl
 have eF:L.free.getD d 0=T.f d:=by rw[Ë,R.f d hd];rfl
 refine⟨?_,by show (L.free.set _ _).length=_;rw[Î,R.fl],by show (L.held.set _ _).length=_;rw[Î,R.hl],by show ((L.lines.map _).set _ _).length=_;rw[Î,Å,R.ll],λj hj=>?_,λr hr=>?_,λr hr=>?_,?_⟩
 .show -(L.lines.getD p []).getD d 0=-T.L p d
  rw[eP,e2.getD 'a']
 .show (L.free.set d (L.held.getD p 0))[j]?=some ((if j=d then T.h p else T.f j:Nat):Int)
  rw[ĉ,eH];by_cases e:d=j
  .rw[Â e,Â (by rw[R.fl];assumption),Â e.symm]
  .rw[Ã e,Ã (Ñ e),R.f j hj]
 .show (L.held.set p (L.free.getD d 0))[r]?=some ((if r=p then T.f d else T.h r:Nat):Int)
  rw[ĉ,eF];by_cases e:p=r
  .rw[Â e,Â (by rw[R.hl];assumption),Â e.symm]
  .rw[Ã e,Ã (Ñ e),R.h r hr]
 .show ∃ln,((L.lines.map λln=>clearL ln (L.lines.getD p []) d L.s).set p (turnL (L.lines.getD p []) d L.s))[r]?=some ln/\LnR P.n ln (λj=>if r=p then (if j=d then -T.s else -T.L p j)else (if j=d then T.L r d else (-T.L p d*T.L r j+T.L r d*T.L p j)/T.s))
  rw[ĉ,eP,R.s];by_cases e:p=r
  .rw[Â e,Â (by grind)]
   refine⟨_,rfl,?_⟩;have:=aC2 (s:=T.s) e2 (d:=d) 'a'
   grind
  .obtain⟨ln,h1,h2⟩:=R.l r hr
   rw[Ã e,Ò,h1];refine⟨_,rfl,?_⟩;simp![Ã (Ñ e)];exact JB h2 e2 'a'
 .show LnR P.n (clearL L.goal (L.lines.getD p []) d L.s) (λj=>if P.k=p then (if j=d then -T.s else -T.L p j)else (if j=d then T.L P.k d else (-T.L p d*T.L P.k j+T.L P.k d*T.L p j)/T.s))
  simp![Ã (show ¬P.k=p by exact Þ ‹_›)];rw[eP,R.s];exact JB R.g e2 'a'
def startL(Ç:ZE)(Ä:ZK):LT where
 s:=1
 free:=(List.range Ä.length).map λ(i:Nat)=>(i:Int)
 held:=(List.range (Ç.length+Ä.length)).map λ(i:Nat)=>((Ä.length+i:Nat):Int)
 lines:=(Ç.map λr=>r.1++[r.2])++(List.range Ä.length).map λ(i:Nat)=>((List.replicate Ä.length 0).set i 1)++[Ä.getD i 0]
 goal:=List.replicate Ä.length 1++[0]
def lpOf(Ç:ZE)(Ä:ZK):Lp where
 n:=Ä.length
 m:=Ç.length
 row:=λr x=>(Ç.getD r ([],0)).1.getD x 0
 top:=λr=>(Ç.getD r ([],0)).2
 room:=λi=>Ä.getD i 0
def LnR.snoc{v:Nat->Int}(h1:a.length=n)(h2:∀j,j<n->a[j]?=some (v j))(h3:v n=b):LnR n (a++[b]) v:=⟨by rw[Ð,h1];rfl,λj hj=>by
 by_cases c:j<n
 .rw[ó (by rw[h1];exact c)]
  exact h2 j c
 .obtain rfl:n=j:=Nat.le_antisymm (è.mp c) hj
  rw[ã (by rw[h1];exact È _),h1,ù,h3];rfl⟩
def start_ok(hr:∀r∈Ç,r.1.length=Ä.length):Rp (lpOf Ç Ä).pr (startL Ç Ä) (lpOf Ç Ä).start:=by
 have L1:∀r j,j<Ä.length->(lpOf Ç Ä).start.L r j=(lpOf Ç Ä).pr.a (Ä.length+r) j:=λr j hj=>Â hj;have L2:∀r,(lpOf Ç Ä).start.L r Ä.length=(lpOf Ç Ä).pr.c (Ä.length+r):=λr=>Ã (û _);have lm:(Ç.map λr=>r.1++[r.2]).length=Ç.length:=Å ..;have lr:∀{f:Nat->ZK},((List.range Ä.length).map f).length=Ä.length:=λ{f}=>by rw[Å,List.length_range]
 refine⟨rfl,by show ((List.range _).map _).length=Ä.length;rw[Å,List.length_range],by show ((List.range _).map _).length=Ç.length+Ä.length;rw[Å,List.length_range],by show List.length (_++_)=Ç.length+Ä.length;rw[Ð,lm,lr],λj hj=>?_,λr hr'=>?_,λr hr'=>?_,?_⟩
 .show ((List.range Ä.length).map _)[j]?=_
  rw[Ò,þ (n:=Ä.length) hj];rfl
 .show ((List.range (Ç.length+Ä.length)).map _)[r]?=_
  rw[Ò,þ (n:=Ç.length+Ä.length) hr'];rfl
 .show ∃ln,(List.append _ _)[r]?=some ln/\LnR Ä.length ln _
  rw[List.append_eq];by_cases c:r<Ç.length
  .have hg:Ç.getD r ([],0)=Ç[r]:=by rw[Ë,Ê c];rfl
   have hl:=hr Ç[r] (ý c);rw[ó (by rw[lm];exact c),Ò,Ê c];refine⟨_,rfl,LnR.snoc hl (λj hj=>?_) ?_⟩
   .rw[L1 r j hj,show (lpOf Ç Ä).pr.a (Ä.length+r) j=_ from aFI (Q:=lpOf Ç Ä) c]
    show _=some ((Ç.getD r ([],0)).1.getD j 0);rw[hg,Ë,Ê (by rw[hl];exact hj)];rfl
   .rw[L2,show (lpOf Ç Ä).pr.c (Ä.length+r)=_ from aFJ (Q:=lpOf Ç Ä) c]
    show (Ç.getD r ([],0)).2=_;rw[hg]
  .obtain⟨i,rfl⟩:=Nat.exists_eq_add_of_le (è.mp c)
   have ci:i<Ä.length:=Nat.lt_of_add_lt_add_left hr';rw[ã (by rw[lm];exact Nat.le_add_right _ _),lm,Nat.add_sub_cancel_left,Ò,þ ci];refine⟨_,rfl,LnR.snoc (by rw[Î,î]) (λj hj=>?_) ?_⟩
   .rw[L1 _ j hj,<- Nat.add_assoc,show (lpOf Ç Ä).pr.a (Ä.length+Ç.length+i) j=_ from X4 (Q:=lpOf Ç Ä) ci,ĉ,ÿ,î]
    by_cases e:i=j
    .rw[Â e,Â ci,Â e.symm]
    .rw[Ã e,Â hj,Ã (Ñ e)]
   .rw[L2,<- Nat.add_assoc,show (lpOf Ç Ä).pr.c (Ä.length+Ç.length+i)=_ from X6 (Q:=lpOf Ç Ä) ci]
    rfl
 .have eN:Ä.length+(lpOf Ç Ä).pr.k=(lpOf Ç Ä).pr.N:=(Nat.add_assoc _ _ _).symm
  refine LnR.snoc (n:=Ä.length) (î ..) (λj hj=>?_) ?_
  .rw[L1 _ j hj,eN,L0,ÿ,Â hj]
  .rw[L2,eN,X7]
end Sx
namespace Sx
def BestC(G l:Nat->Int)(f:Nat->Nat)(j:Nat):Option Nat->Prop
 |none=>∀i,i<j->0<=l i
 |some b=>b<j/\l b<0/\∀i,i<j->l i<0->(G b*-l i<G i*-l b\/(G b*-l i=G i*-l b/\f b<=f i))
section
def BestC.zero:BestC G l f 0 none:=λi hi=>by grind
def BestC.skip(h:BestC G l f j o)(hj:¬l j<0):BestC G l f (j+1) o:=by
 cases o with
 |none=>
  intro i hi;by_cases e:i=j
  .grind
  .exact h i ∅
 |some b=>
  let⟨h1,h2,h3⟩:=h;refine⟨by grind,h2,λi hi hn=>?_⟩
  grind
def BestC.first(h:BestC G l f j none)(hj:l j<0):BestC G l f (j+1) (some j):=by
 refine⟨by exact ð _,hj,λi hi hn=>?_⟩;by_cases e:i=j
 .grind
 .exact absurd (h i ∅) ∅
def BestC.worse(h:BestC G l f j (some b))(na:¬(G j*-l b<G b*-l j\/(G j*-l b=G b*-l j/\f j<f b))):BestC G l f (j+1) (some b):=by
 let⟨h1,h2,h3⟩:=h;refine⟨by grind,h2,λi hi hn=>?_⟩;by_cases e:i=j
 .subst e
  generalize hx:G i*-l b=x at na⊢;generalize hy:G b*-l i=y at na⊢;omega
 .exact h3 i ∅ hn
def CJ{A B C a b c:Int}(ha:0<a)(hb:0<b)(hc:0<c)(h1:A*b<=B*a)(h2:B*c<=C*b):A*c<=C*a:=by
 have e1:A*b*c<=B*a*c:=ě h1 (by exact ö ‹_›);have e2:B*c*a<=C*b*a:=ě h2 (by exact ö ‹_›);have e3:(A*c)*b<=(C*a)*b:=by
  have p1:A*b*c=(A*c)*b:=by grind
  have p2:B*a*c=B*c*a:=by grind
  have p3:C*b*a=(C*a)*b:=by grind
  lia
 simp_all
def R8{A B C a b c:Int}(ha:0<a)(hb:0<b)(hc:0<c)(h1:A*b<=B*a)(h2:B*c<=C*b)(h:A*b<B*a\/B*c<C*b):A*c<C*a:=by
 have p1:A*b*c=(A*c)*b:=by grind
 have p2:B*a*c=B*c*a:=by grind
 have p3:C*b*a=(C*a)*b:=by grind
 have e1:A*b*c<=B*a*c:=ě h1 (by exact ö ‹_›);have e2:B*c*a<=C*b*a:=ě h2 (by exact ö ‹_›);have e3:(A*c)*b<(C*a)*b:=by
  rcases h with h|h
  .have e4:A*b*c<B*a*c:=Int.mul_lt_mul_of_pos_right h hc
   lia
  .have e4:B*c*a<C*b*a:=Int.mul_lt_mul_of_pos_right h ha
   lia
 simp_all
def BestC.better(h:BestC G l f j (some b))(hj:l j<0)(ha:G j*-l b<G b*-l j\/(G j*-l b=G b*-l j/\f j<f b)):BestC G l f (j+1) (some j):=by
 let⟨h1,h2,h3⟩:=h;refine⟨by exact ð _,hj,λi hi hn=>?_⟩;by_cases e:i=j
 .grind
 .have q:=h3 i ∅ hn
  have L1:G j*-l b<=G b*-l j:=by rcases ha with z|z<;>lia
  have L2:G b*-l i<=G i*-l b:=by rcases q with z|z<;>lia
  by_cases s:G j*-l b<G b*-l j\/G b*-l i<G i*-l b
  .exact .inl (R8 ∅ ∅ ∅ L1 L2 s)
  .have s1:G j*-l b=G b*-l j:=by lia
   have s2:G b*-l i=G i*-l b:=by lia
   have le:=CJ ∅ ∅ ∅ L1 L2;have ge:=CJ (A:=G i) (B:=G b) (C:=G j) (a:=-l i) (b:=-l b) (c:=-l j) ∅ ∅ ∅ ∅ ∅;refine .inr ⟨by omega,?_⟩
   grind
end
def ch_of(hp:p<P.k)(neg:T.L p P.n<0)(first:∀r,r<P.k->T.L r P.n<0->T.h p<=T.h r)(hb:BestC (T.L P.k) (T.L p) T.f P.n (some d)):Ch P T p d:=⟨hp,neg,first,hb.1,hb.2.1,hb.2.2⟩
end Sx
namespace Sx
def zV{X:Int}(hX:0<=X):∀{n:Nat}{f:Nat->Int},(∀i,i<n->(f i).natAbs<=X.natAbs)->(aS n f).natAbs<=n*X.natAbs
 |0,_,_=>by simp[aS]
 |n+1,f,h=>by
  rw[aS];have h1:=zV hX (n:=n) (f:=f) λi hi=>h i (by exact Nat.lt_succ_of_lt ‹_›);have h2:=h n (by exact ð _);have h3:=Int.natAbs_add_le (aS n f) (f n);rw[Nat.add_mul];lia
def aC3(i:Nat):(Đ i).natAbs=1:=by
 unfold Đ;split<;>rfl
def fac:Nat->Nat
 |0=>1
 |n+1=>(n+1)*fac n
def FA :∀{n:Nat}{M:Nat->jW},(∀r c,r<n->c<n->(M r c).natAbs<=B)->(c8 n M).natAbs<=fac n*B^n
 |0,M,_=>by simp[c8,fac]
 |n+1,M,h=>by
  rw[c8];have key:∀i,i<n+1->(Đ i*M i 0*c8 n (fC M i)).natAbs<=((B*(fac n*B^n):Nat):Int).natAbs:=λi hi=>by
   have ih:=FA (B:=B) (n:=n) (M:=fC M i) λr c hr hc=>by
    unfold fC;refine h _ _ ?_ (by exact Nat.succ_lt_succ ‹_›);unfold skip;split<;>lia
   rw[Int.natAbs_mul,Int.natAbs_mul,Int.natAbs_natCast];have h1:(Đ i).natAbs=1:=aC3 i;rw[h1,Nat.one_mul];exact Nat.mul_le_mul (h i 0 hi (by exact Ă _)) ih
  have:=zV (X:=((B*(fac n*B^n):Nat):Int)) ∅ key;rw[Int.natAbs_natCast]at this;refine Ü this (ú ?_);rw[fac,Nat.pow_succ]
  grind
theorem Inv.small(I:Inv P σ T)(ha:∀u x,u<=P.N->x<P.n->(P.a u x).natAbs<=A)(hc:∀u,u<=P.N->(P.c u).natAbs<=C):
  T.s.natAbs<=fac P.n*A^P.n/\(∀r j,r<=P.k->j<P.n->(T.L r j).natAbs<=fac P.n*A^P.n)/\∀r,r<=P.k->(T.L r P.n).natAbs<=(P.n+1)*(fac P.n*A^P.n*C):=by
 have sg:σ.natAbs=1:=by
  have:=congrArg Int.natAbs I.sg;rw[Int.natAbs_mul]at this;have h1:(1:Int).natAbs=1:=rfl;rw[h1]at this;exact Nat.eq_one_of_mul_eq_one_left this
 have hN:∀r,r<=P.k->T.h r<=P.N:=λr hr=>by
  by_cases e:r=P.k
  .rw[e,I.hk];exact È _
  .exact É (I.hN r (by exact Nat.lt_of_le_of_ne ‹_› ‹_›))
 have hs:T.s.natAbs<=fac P.n*A^P.n:=by
  rw[I.sd,Int.natAbs_mul,sg,Nat.one_mul];exact FA λr c hr hcn=>ha _ _ (É (I.fN r hr)) hcn
 have hl:∀r j,r<=P.k->j<P.n->(T.L r j).natAbs<=fac P.n*A^P.n:=λr j hr hj=>by
  rw[I.ld r hr j hj,Int.natAbs_mul,Int.natAbs_neg,sg,Nat.one_mul];refine FA λq c hq hcn=>?_;by_cases e:q=j
  .subst e;rw[aJ];exact ha _ _ (hN r hr) hcn
  .rw[aE e];exact ha _ _ (É (I.fN q hq)) hcn
 refine⟨hs,hl,λr hr=>?_⟩;rw[I.lc r hr];have h1:(T.s*P.c (T.h r)).natAbs<=fac P.n*A^P.n*C:=by
  rw[Int.natAbs_mul];exact Nat.mul_le_mul hs (hc _ (hN r hr))
 have h2:=zV (X:=((fac P.n*A^P.n*C:Nat):Int)) ∅ (n:=P.n) (f:=λj=>T.L r j*P.c (T.f j)) λj hj=>by
  rw[Int.natAbs_mul,Int.natAbs_natCast];exact Nat.mul_le_mul (hl r j hr hj) (hc _ (É (I.fN j hj)))
 rw[Int.natAbs_natCast]at h2;have h3:=Int.natAbs_add_le (T.s*P.c (T.h r)) (aS P.n λj=>T.L r j*P.c (T.f j));rw[Nat.add_mul];lia
end Sx
namespace L2
open PySem PySem.Spec
def kK(h:∀(K M L:ZO)(S:D->ZO),(∀δ,I δ->K δ)->(∀d δ,R d δ->S d δ)->bN u δ K M L S):bN u δ I N C R:=h I N C R (λ_=>id) λ_ _=>id
def d9{d:D}(h:aU f δ λa δ1=>a=d/\δ1=δ2):f δ=.ok d δ2:=by
 let⟨a,δ1,e,rfl,rfl⟩:=h.ex;exact e
end L2
namespace Toy
open PySem L2
def GD(a b:Nat):Nat.gcd b (a % b)=Nat.gcd a b:=by
 rw[Nat.gcd_comm b,<- Nat.gcd_rec,Nat.gcd_comm]
def aC4{a b:Nat}(h:0<b):DX (.int a) (.int b)=some (.int ((a % b:Nat):Int)):=by
 rw[GX ∅];rfl
def OS:∀(n a b:Nat)(o:ZL),b<=n->∃o',fF (dB (iF DZ (bF 1) (dC (.int 0)))) (eK (jG 2 (iF DX (bF 0) (bF 1))) (eK (jG 0 (bF 1)) (jG 1 (bF 2)))) [some (.int a),some (.int b),o]=.ok .next [some (.int (Nat.gcd a b:Nat)),some (.int 0),o']
 |n,a,0,o,_=>⟨o,by
  rw[eQ];have:dB (iF DZ (bF 1) (dC (.int 0))) [some (.int a),some (.int (0:Nat)),o]=.ok false [some (.int a),some (.int (0:Nat)),o]:=M7 (xE (eY rfl) vR rfl);rw[this,Nat.gcd_zero_right];rfl⟩
 |0,a,b+1,o,h=>absurd h (by exact absurd ‹_› (Nat.not_lt_zero _))
 |n+1,a,b+1,o,h=>by
  let⟨o',ih⟩:=OS n (b+1) (a % (b+1)) (some (.int ((a % (b+1):Nat):Int))) (by have:=Nat.mod_lt a (show 0<b+1 by exact Ă _);lia);refine⟨o',?_⟩;rw[eQ];have c:dB (iF DZ (bF 1) (dC (.int 0))) [some (.int a),some (.int (b+1:Nat)),o]=.ok true [some (.int a),some (.int (b+1:Nat)),o]:=by
   refine M7 (xE (eY rfl) vR ?_);rw[M5];have:¬((b+1:Nat):Int)=0:=by lia
   simp;assumption
  rw[c];simp![aW,if_true];have e:eK (jG 2 (iF DX (bF 0) (bF 1))) (eK (jG 0 (bF 1)) (jG 1 (bF 2))) [some (.int a),some (.int (b+1:Nat)),o]=.ok .next [some (.int (b+1:Nat)),some (.int ((a % (b+1):Nat):Int)),some (.int ((a % (b+1):Nat):Int))]:=by
   simp![eK,jG,iF,bF,List.getElem?_cons_zero,List.getElem?_cons_succ,aW,aC4 (show 0<b+1 by exact Ă _)];rfl
  rw[e];simp![aW];rw[ih,GD]
def aI6(hb:body=eK (fF (dB (iF DZ (bF 1) (dC (.int 0)))) (eK (jG 2 (iF DX (bF 0) (bF 1))) (eK (jG 0 (bF 1)) (jG 1 (bF 2))))) (pF (bF 0)))(a b:Nat):aR 3 [] 0 body [.int a,.int b]=.ok (.int (Nat.gcd a b:Nat)) []:=by
 subst hb;let⟨o,h⟩:=OS b a b none (È _);refine aQ (os:=[]) ?_;refine U4 (bN.of (fl:=.next) h ?_);dsimp![U3];exact aHH (aU.of (eY rfl) ⟨rfl,rfl⟩)
def aL6(a b:Nat):jA [.int a,.int b]=.ok (.int (Nat.gcd a b:Nat)) []:=aI6 rfl a b
def fr(p:Int×Int):D:=.tuple [.int p.1,.int p.2]
abbrev PR(ps:ZF):D:=.list (ps.map fr)
def dv(t b:Int):Int:=if b<0 then -(Nat.gcd t.natAbs b.natAbs:Int)else (Nat.gcd t.natAbs b.natAbs:Int)
def JC(hb:b≠0)(hl:(dv t b).natAbs.log2<9000):l9 [.int t,.int b]=.ok (.tuple [.int (t.fdiv (dv t b)),.int (b.fdiv (dv t b))]) []:=by
 have hg:0<Nat.gcd t.natAbs b.natAbs:=Nat.gcd_pos_of_pos_right _ ∅;have h0:dv t b≠0:=by unfold dv;split<;>lia
 have f1:∀i:Int,GS (.int i) (.int (dv t b))=some (.int (i.fdiv (dv t b))):=λi=>Â ⟨h0,hl⟩;refine aQ (os:=[]) ?_;rfl';unfold qS;dsimp? [hb,aL6,decide_eq_true_eq];by_cases hn:b<0
 .have e:dv t b=-(Nat.gcd t.natAbs b.natAbs:Int):=by unfold dv;rw[Â hn]
  rw[e]at f1⊢;dsimp? [hn,f1]
 .have e:dv t b=(Nat.gcd t.natAbs b.natAbs:Int):=by unfold dv;rw[Ã hn]
  rw[e]at f1⊢;dsimp? [hn,f1]
end Toy
namespace L2
open PySem PySem.Spec
def zW{α:Type}{enc g:α->D}{e:M D}{δ:DS}:∀{xs:List α}{acc:ZI}{o:ZL},(∀x∈xs,e (some (enc x)::δ)=.ok (g x) (some (enc x)::δ))->acc.length+xs.length<=sizeLine->∃o',bP (setN 0) eE e (xs.map enc) acc (o::δ)=.ok (acc++xs.map g) (o'::δ)
 |[],acc,o,_,_=>⟨o,by simp[bP]⟩
 |x::xs,acc,o,h,hl=>by
  have hd:=h x Ô;rw[Û]at hl;let⟨o',ih⟩:=zW (xs:=xs) (acc:=acc++[g x]) (o:=some (enc x)) (λy hy=>h y (Ó _ hy)) (by simp;lia);refine⟨o',?_⟩;rw[Ì];unfold bP;have e1:setN 0 (enc x) (o::δ)=some (some (enc x)::δ):=by simp[setN]
  rw[e1];show Res.bind (eE (some (enc x)::δ)) _=_;simp![eE,Res.bind,if_true,hd];rw[Â ∅,ih];simp
def cS{α:Type}{enc g:α->D}{xs:List α}{f:M (ZI)}{e:M D}{δ:DS}(hf:f δ=.ok (xs.map enc) δ)(hl:xs.length<=1000)(he:∀x∈xs,aU e (some (enc x)::δ) λa δ1=>a=g x/\δ1=some (enc x)::δ):eD 1 (setN 0) f eE e δ=.ok (.list (xs.map g)) δ:=by
 unfold eD;rw[hf];let⟨o',h⟩:=zW (acc:=[]) (o:=none) (λx hx=>cZ (he x hx)) (Ü (by simpa using hl) (show 1000<=sizeLine by decide));simp![Res.bind];rw[show List.replicate 1 (none:ZL)++δ=none::δ from rfl,h];simp
def oX{α:Type}{enc A B g:α->D}{xs:List α}{f:M (ZI)}{e:M D}{δ:DS}(hE:∀x,enc x=.tuple [A x,B x])(hf:f δ=.ok (xs.map enc) δ)(hl:xs.length<=1000)(he:∀x∈xs,aU e (some (A x)::some (B x)::δ) λv δ1=>v=g x/\δ1=some (A x)::some (B x)::δ):eD 2 (uF [0,1]) f eE e δ=.ok (.list (xs.map g)) δ:=by
 have main:∀(xs:List α)(acc:ZI)(o1 o2:ZL),(∀x∈xs,e (some (A x)::some (B x)::δ)=.ok (g x) (some (A x)::some (B x)::δ))->acc.length+xs.length<=sizeLine->∃o1' o2',bP (uF [0,1]) eE e (xs.map enc) acc (o1::o2::δ)=.ok (acc++xs.map g) (o1'::o2'::δ):=by
  intro xs
  induction xs with
  |nil=>exact λacc o1 o2 _ _=>⟨o1,o2,by simp[bP]⟩
  |cons x xs ih=>
   intro acc o1 o2 h hl;have hd:=h x Ô;rw[Û]at hl;let⟨o1',o2',ih⟩:=ih (acc++[g x]) (some (A x)) (some (B x)) (λy hy=>h y (Ó _ hy)) (by simp;lia);refine⟨o1',o2',?_⟩;rw[Ì];unfold bP;have e1:uF [0,1] (enc x) (o1::o2::δ)=some (some (A x)::some (B x)::δ):=by rw[hE];simp[uF,setN]
   rw[e1];show Res.bind (eE (some (A x)::some (B x)::δ)) _=_;simp![eE,Res.bind,if_true,hd];rw[Â ∅,ih];simp
 unfold eD;rw[hf];let⟨o1,o2,h⟩:=main xs [] none none (λx hx=>cZ (he x hx)) (Ü (by simpa using hl) (show 1000<=sizeLine by decide));simp![Res.bind];rw[show List.replicate 2 (none:ZL)++δ=none::none::δ from rfl,h];simp
def bT(h:aU f δ λa δ1=>a=.list ds/\δ1=δ):lY f δ=.ok ds δ:=by
 unfold lY;rw[cZ h];rfl
def OT{α:Type}{h:α->Bool}:∀{xs:List α},sF (xs.map λx=>.bool (h x))=some (xs.map h)
 |[]=>rfl
 |x::xs=>by
  show (sF (xs.map λx=>PyData.bool (h x))).map (h x::·)=_;rw[OT];rfl
def X9{α:Type}{enc A B g:α->D}{h:α->Bool}{xs:List α}{f:M (ZI)}{t:M Bool}{e:M D}{δ:DS}(hE:∀x,enc x=.tuple [A x,B x])(hf:f δ=.ok (xs.map enc) δ)(hl:xs.length<=1000)(ht:∀x∈xs,aU t (some (A x)::some (B x)::δ) λb δ1=>b=h x/\δ1=some (A x)::some (B x)::δ)(he:∀x∈xs,aU e (some (A x)::some (B x)::δ) λv δ1=>v=g x/\δ1=some (A x)::some (B x)::δ):eD 2 (uF [0,1]) f t e δ=.ok (.list ((xs.filter h).map g)) δ:=by
 have main:∀(xs:List α)(acc:ZI)(o1 o2:ZL),(∀x∈xs,t (some (A x)::some (B x)::δ)=.ok (h x) (some (A x)::some (B x)::δ))->(∀x∈xs,e (some (A x)::some (B x)::δ)=.ok (g x) (some (A x)::some (B x)::δ))->acc.length+xs.length<=sizeLine->∃o1' o2',bP (uF [0,1]) t e (xs.map enc) acc (o1::o2::δ)=.ok (acc++(xs.filter h).map g) (o1'::o2'::δ):=by
  intro xs
  induction xs with
  |nil=>exact λacc o1 o2 _ _ _=>⟨o1,o2,by simp[bP]⟩
  |cons x xs ih=>
   intro acc o1 o2 ht he hl;have hd:=ht x Ô;have hv:=he x Ô;rw[Û]at hl;have e1:uF [0,1] (enc x) (o1::o2::δ)=some (some (A x)::some (B x)::δ):=by rw[hE];simp[uF,setN]
   cases hk:h x with
   |true=>
    let⟨o1',o2',ih⟩:=ih (acc++[g x]) (some (A x)) (some (B x)) (λy hy=>ht y (Ó _ hy)) (λy hy=>he y (Ó _ hy)) (by simp;lia);refine⟨o1',o2',?_⟩;rw[Ì];unfold bP;rw[e1];simp![hd,hk,Res.bind,if_true,hv];rw[Â ∅,ih];simp[hk]
   |false=>
    let⟨o1',o2',ih⟩:=ih acc (some (A x)) (some (B x)) (λy hy=>ht y (Ó _ hy)) (λy hy=>he y (Ó _ hy)) 'a';refine⟨o1',o2',?_⟩;rw[Ì];unfold bP;rw[e1];simp![hd,hk,Res.bind,Bool.false_eq_true,if_false];rw[Â ∅,ih];simp[hk]
 unfold eD;rw[hf];let⟨o1,o2,q⟩:=main xs [] none none (λx hx=>by
  let⟨b,δ1,e,rfl,rfl⟩:=(ht x hx).ex;exact e) (λx hx=>cZ (he x hx)) (Ü (by simpa using hl) (show 1000<=sizeLine by decide))
 simp![Res.bind];rw[show List.replicate 2 (none:ZL)++δ=none::none::δ from rfl,q];simp
end L2
namespace Toy
open PySem L2
def ixN_lt'(h:k<n):oE n (k:Int)=some k:=by
 unfold oE;rw[Â ∅,Â ∅,ü]
def dP{j:Nat}{x:α}(h:l[j]?=some x):atI l (j:Int)=some x:=by
 unfold atI;rw[ixN_lt' (Í.mp h).1];exact h
def R9{l:ZK}{j:Nat}(h:l[j]?=some x):fM (.list (l.map PyData.int)) (.int (j:Int))=some (.int x):=by
 show atI (l.map PyData.int) (j:Int)=_;refine dP ?_;rw[Ò,h];rfl
def YA{l:ZK}(hl:l.length=n+1)(h:l[n]?=some x):fM (.list (l.map PyData.int)) (.int (-1))=some (.int x):=by
 show atI (l.map PyData.int) (-1)=_;have e:oE (l.map PyData.int).length (-1)=some n:=by
  unfold oE;rw[Å,Ã ⋯,Â ∅];congr 1;lia
 unfold atI;rw[e];show (l.map PyData.int)[n]?=_;rw[Ò,h];rfl
def Ζ{l:List (ZK)}{j:Nat}(h:l[j]?=some x):fM (.list (l.map λx=>.list (x.map PyData.int))) (.int (j:Int))=some (.list (x.map PyData.int)):=by
 show atI (l.map λx=>PyData.list (x.map PyData.int)) (j:Int)=_;refine dP ?_;rw[Ò,h];rfl
def YB{as bs:ZK}(h1:aU f δ λa δ1=>a=.list (as.map PyData.int)/\δ1=δ)(h2:aU g δ λa δ1=>a=.list (bs.map PyData.int)/\δ1=δ):AR f g δ=.ok ((as.zip bs).map λp=>.tuple [.int p.1,.int p.2]) δ:=by
 have e1:=cZ h1;have e2:=cZ h2;unfold AR;simp![bA,e1,e2,aW];congr 1;unfold pH;rw[List.zipWith_map,List.zip_eq_zipWith,List.map_zipWith]
def OU{ds os:ZI}(h:bN body (ds.map some++List.replicate (m0-ds.length) none) (λδ=>h7 δ ps=some os) (λ_=>False) (λ_=>False) λ_ _=>False):aR m0 ps 0 body ds=.ok .none (os.map some):=by
 let⟨fl,δ1,e,q⟩:=h.ex;cases fl with
 |next=>unfold aR;rw[e];dsimp only;rw[Â rfl,q]
 |ret r=>exact q.elim
 |brk=>exact q.elim
 |cont=>exact q.elim
section
variable {n d:Nat}{pv:ZK}{a b:Nat->Int}{s:Int}
def zX(ha:Sx.LnR n ln a)(hb:Sx.LnR n pv b)(hd:d<=n)(hs:0<s)(hn:n<=900)(fa:∀j,j<=n->fK 4000 (a j))(fb:∀j,j<=n->fK 4000 (b j))(fs:fK 4000 s):u3 [.list (ln.map .int),.list (pv.map .int),.int (d:Int),.int s]=.ok (.list ((Sx.clearL ln pv d s).map .int)) []:=by
 have e1:=R9 (hb.at' d hd);have e2:=R9 (ha.at' d hd);have ga:ln.getD d 0=a d:=ha.getD hd;have gb:pv.getD d 0=b d:=hb.getD hd;refine aQ (os:=[]) ?_;rfl';unfold u2;dsimp? [e1,e2];refine aU.of (oX (xs:=ln.zip pv) (enc:=λp=>.tuple [.int p.1,.int p.2]) (A:=λp=>.int p.1) (B:=λp=>.int p.2) (g:=λp=>.int ((-b d*p.1+a d*p.2)/s)) (λ_=>rfl) (YB (by dsimp? []) (by dsimp? [])) (by rw[ë,ha.len];lia) λp hp=>?_) ?_
 .obtain⟨j,hj,ej⟩:=List.getElem_of_mem hp
  rw[ë,ha.len,hb.len,Nat.min_self]at hj;have p1:ln[j]?=some p.1:=by
   rw[<- ej,List.getElem_zip,Ê (by rw[ha.len];exact hj)]
  have p2:pv[j]?=some p.2:=by
   rw[<- ej,List.getElem_zip,Ê (by rw[hb.len];exact hj)]
  rw[ha.at' j (by exact Nat.le_of_lt_succ ‹_›)]at p1;rw[hb.at' j (by exact Nat.le_of_lt_succ ‹_›)]at p2;have q1:fK 4000 p.1:=by rw[<- Option.some.inj p1];exact fa j (by exact Nat.le_of_lt_succ ‹_›)
  have q2:fK 4000 p.2:=by rw[<- Option.some.inj p2];exact fb j (by exact Nat.le_of_lt_succ ‹_›)
  dsimp? [(fb d hd).neg.mulOk q1,(fa d hd).mulOk q2,aBU hs (fs.mono ⋯)]
 .have el:((ln.zip pv).map λp=>PyData.int ((-b d*p.1+a d*p.2)/s)).length=n+1:=by rw[Å,ë,ha.len,hb.len,Nat.min_self]
  have ei:=ixN_lt' (show d<((ln.zip pv).map λp=>PyData.int ((-b d*p.1+a d*p.2)/s)).length by rw[el];exact Nat.lt_succ_of_le ‹_›);dsimp? [ei];unfold Sx.clearL;rw[ga,gb,List.map_set,List.zip_eq_zipWith,List.map_zipWith,List.map_zipWith]
def SA(hb:Sx.LnR n pv b)(hd:d<=n)(hn:n<=900):IH [.list (pv.map .int),.int (d:Int),.int s]=.ok (.list ((Sx.turnL pv d s).map .int)) []:=by
 refine aQ (os:=[]) ?_;rfl';unfold yP;dsimp? [];refine aU.of (cS (xs:=pv) (enc:=PyData.int) (g:=λx=>.int (-x)) (bT (by dsimp? [])) (by rw[hb.len];lia) λp hp=>by dsimp? []) ?_;have ei:=ixN_lt' (show d<(pv.map λx=>PyData.int (-x)).length by rw[Å,hb.len];exact Nat.lt_succ_of_le ‹_›);dsimp? [ei];unfold Sx.turnL;rw[List.map_set,à];rfl
end
def tb(s f h l g:D):D:=.dict [(.none,.str "Table"),(.str "scale",s),(.str "free",f),(.str "held",h),(.str "lines",l),(.str "goal",g)]
section
def zY:gL "Table" "scale" (tb s f h l g)=some s:=by with_unfolding_all rfl
def oY:gL "Table" "free" (tb s f h l g)=some f:=by with_unfolding_all rfl
def wJ:gL "Table" "held" (tb s f h l g)=some h:=by with_unfolding_all rfl
def tR:gL "Table" "lines" (tb s f h l g)=some l:=by with_unfolding_all rfl
def OV:gL "Table" "goal" (tb s f h l g)=some g:=by with_unfolding_all rfl
def JD:B5 20 "Table" "scale" (tb s f h l g)=some s:=by with_unfolding_all rfl
def JE:B5 20 "Table" "lines" (tb s f h l g)=some l:=by with_unfolding_all rfl
def aC5:B5 20 "Table" "goal" (tb s f h l g)=some g:=by with_unfolding_all rfl
def YC:nH 20 0 "Table" "scale" y (tb s f h l g)=some (tb y f h l g):=by with_unfolding_all rfl
def YD:nH 20 0 "Table" "lines" y (tb s f h l g)=some (tb s f h y g):=by with_unfolding_all rfl
def aC6:nH 20 0 "Table" "goal" y (tb s f h l g)=some (tb s f h l y):=by with_unfolding_all rfl
def aC7(e:oE hs.length i=some j):yA 20 "Table" "held" (.int i) v (tb s f (.list hs) l g)=some (tb s f (.list (hs.set j v)) l g):=by
 have:yA 20 "Table" "held" (.int i) v (tb s f (.list hs) l g)=(match oE hs.length i with
  |some j=>some (tb s f (.list (hs.set j v)) l g)
  |none=>none):=by with_unfolding_all rfl
 rw[this,e]
def aC8(e:oE hs.length i=some j):yA 20 "Table" "free" (.int i) v (tb s (.list hs) h l g)=some (tb s (.list (hs.set j v)) h l g):=by
 have:yA 20 "Table" "free" (.int i) v (tb s (.list hs) h l g)=(match oE hs.length i with
  |some j=>some (tb s (.list (hs.set j v)) h l g)
  |none=>none):=by with_unfolding_all rfl
 rw[this,e]
def aC9:yB "Table" "swap" (tb s f h l g):=⟨rfl,by with_unfolding_all rfl⟩
end
abbrev SB(l:List (ZK)):D:=.list (l.map λx=>.list (x.map PyData.int))
def bY(L:Sx.LT):D:=tb (.int L.s) (.list (L.free.map .int)) (.list (L.held.map .int)) (SB L.lines) (.list (L.goal.map .int))
structure Ok(P:Sx.Pr)(L:Sx.LT)(T:Sx.Tab):Prop where
 rp:Sx.Rp P L T
 pos:0<T.s
 fs:fK 4000 T.s
 fl:∀r j,r<=P.k->j<=P.n->fK 4000 (T.L r j)
 n:P.n<=900
 k:P.k<=900
def aDA(K:Ok P L T)(hp:p<P.k)(hd:d<P.n):mF [bY L,.int (p:Int),.int (d:Int)]=.ok .none [some (bY (Sx.swapL L p d))]:=by
 have R:=K.rp;let⟨pv,e1,e2⟩:=R.l p hp;have eP:L.lines.getD p []=pv:=by rw[Ë,e1];rfl
 have eH:L.held.getD p 0=T.h p:=by rw[Ë,R.h p hp];rfl
 have eF:L.free.getD d 0=T.f d:=by rw[Ë,R.f d hd];rfl
 have hs:0<L.s:=by rw[R.s];exact K.pos
 have fs:fK 4000 L.s:=by rw[R.s];exact K.fs
 have i1:=Ζ e1;have i2:=R9 (e2.at' d 'a');have i3:=R9 (R.h p hp);have i4:=R9 (R.f d hd);have fp:∀j,j<=P.n->fK 4000 (T.L p j):=λj hj=>K.fl p j 'a' hj;have cg:=zX (d:=d) (s:=L.s) R.g e2 'a' hs K.n (λj hj=>K.fl P.k j (È _) hj) fp fs;have ct:=SA (s:=L.s) e2 (d:=d) 'a' K.n;refine OU (os:=[bY (Sx.swapL L p d)]) ?_;rfl';unfold mE bY;dsimp? [EJ,JE,i1];refine aU.of (cS (xs:=L.lines) (enc:=λx=>.list (x.map PyData.int)) (g:=λln=>.list ((Sx.clearL ln pv d L.s).map PyData.int)) (bT (by dsimp? [EJ,JE])) (by rw[R.ll];have:=K.k;lia) λln hln=>?_) ?_
 .obtain⟨r,hr,er⟩:=List.getElem_of_mem hln
  rw[R.ll]at hr;let⟨ln',q1,q2⟩:=R.l r hr;have:ln'=ln:=by
   rw[Ê (by rw[R.ll];exact hr),er]at q1;exact(Option.some.inj q1).symm
  subst this;have cl:=zX (d:=d) (s:=L.s) q2 e2 'a' hs K.n (λj hj=>K.fl r j 'a' hj) fp fs;dsimp? [EJ,JD,cl]
 .have el:(L.lines.map λln=>PyData.list ((Sx.clearL ln pv d L.s).map PyData.int)).length=P.k:=by rw[Å,R.ll]
  have ei:=ixN_lt' (show p<(L.lines.map λln=>PyData.list ((Sx.clearL ln pv d L.s).map PyData.int)).length by rw[el];assumption);have ih:=ixN_lt' (show p<(L.held.map PyData.int).length by rw[Å,R.hl];assumption);have jf:=ixN_lt' (show d<(L.free.map PyData.int).length by rw[Å,R.fl];assumption);dsimp? [EJ,JD,ct,ei,aC5,cg,yD,aC6,YD,i2,YC,yF,W3,wJ,i3,oY,i4,WZ,aC7 ih,aC8 jf];unfold Sx.swapL;rw[eP,eH,eF,e2.getD (by exact É ‹_›:d<=P.n)];simp![SB,List.map_set,à,Function.comp_def]
def rJ :∀(l:List (α×Int))(o:Option (α×Int)),match cW o l with
  |none=>o=none/\l=[]
  |some m=>(o=some m\/m∈l)/\(∀x∈l,m.2<=x.2)/\∀x,o=some x->m.2<=x.2
 |[],o=>by
  rw[oT];cases o with
  |none=>exact⟨rfl,rfl⟩
  |some m=>exact⟨.inl rfl,λx hx=>(by cases hx),λx e=>by cases e;exact Int.le_refl _⟩
 |y::ys,none=>by
  have ih:=rJ ys (some y);rw[show cW none (y::ys)=cW (some y) ys from rfl];cases e:cW (some y) ys with
  |none=>rw[e]at ih;exact absurd ih.1 'f'
  |some m=>
   rw[e]at ih;let⟨h1,h2,h3⟩:=ih;refine⟨.inr ?_,λx hx=>?_,λx e=>by cases e⟩
   .rcases h1 with h|h
    .cases h;exact Ô
    .exact Ó _ h
   .rcases Ø.mp hx with rfl|hx
    .exact h3 _ rfl
    .exact h2 x hx
 |y::ys,some z=>by
  have ih:=rJ ys (some (if y.2<z.2 then y else z));rw[show cW (some z) (y::ys)=cW (some (if y.2<z.2 then y else z)) ys from rfl];cases e:cW (some (if y.2<z.2 then y else z)) ys with
  |none=>rw[e]at ih;exact absurd ih.1 'f'
  |some m=>
   rw[e]at ih;let⟨h1,h2,h3⟩:=ih;have h4:=h3 _ rfl;refine⟨?_,λx hx=>?_,λx e=>?_⟩
   .rcases h1 with h|h
    .have h:=Option.some.inj h
     split at h
     .subst h;exact .inr Ô
     .subst h;exact .inl rfl
    .exact .inr (Ó _ h)
   .rcases Ø.mp hx with rfl|hx
    .split at h4<;>lia
    .exact h2 x hx
   .cases e
    split at h4<;>lia
def zZ{α:Type}{u k:α->Int}:∀{xs:List α},(∀x∈xs,atI hs (u x)=some (k x))->iB hs (xs.map u)=some (xs.map k)
 |[],_=>rfl
 |x::xs,h=>by
  rw[Ì,Ì];unfold iB;rw[h x Ô,zZ λy hy=>h y (Ó _ hy)]
def OW{α:Type}{enc:α->D}{xs:List α}(h:aU f δ λa δ1=>a=.list (xs.map enc)/\δ1=δ):xH f δ=.ok ((xs.zipIdx.map λp=>(p.2,p.1)).map λp:Nat×α=>.tuple [.int (p.1:Int),enc p.2]) δ:=by
 have e:=cZ h;unfold xH;simp![bA,e,aW];congr 1;unfold fB;rw[List.mapIdx_eq_zipIdx_map,à,List.zipIdx_map,à];rfl
def JF{α:Type}{xs:List α}{p:Nat×α}:p∈xs.zipIdx.map (λp=>(p.2,p.1))↔xs[p.1]?=some p.2:=by
 rw[Õ];constructor
 .rintro⟨q,hq,rfl⟩
  exact List.mem_zipIdx_iff_getElem?.mp hq
 .intro h
  exact⟨(p.2,p.1),List.mem_zipIdx_iff_getElem?.mpr h,rfl⟩
def z6(K:Ok P L T):
  ((∀r,r<P.k->0<=T.L r P.n)/\b9 [bY L]=.ok .none [])\/∃p,p<P.k/\T.L p P.n<0/\(∀r,r<P.k->T.L r P.n<0->T.h p<=T.h r)/\b9 [bY L]=.ok (.int (p:Int)) []:=by
 have R:=K.rp;let xs:List (Nat×ZK):=L.lines.zipIdx.map λp=>(p.2,p.1);let ys:=xs.filter λp=>decide (p.2.getD P.n 0<0);have hx:∀p∈xs,p.1<P.k/\p.2.length=P.n+1/\p.2[P.n]?=some (T.L p.1 P.n)/\p.2.getD P.n 0=T.L p.1 P.n:=λp hp=>by
  have e:=JF.mp hp;have hk:p.1<P.k:=by have:=(Í.mp e).1;rw[R.ll]at this;exact this
  let⟨ln,q1,q2⟩:=R.l p.1 hk;rw[e]at q1;have:ln=p.2:=(Option.some.inj q1).symm;subst this;exact⟨hk,q2.len,q2.at' _ (È _),q2.getD (È _)⟩
 have hall:∀r,r<P.k->∃ln,(r,ln)∈xs/\ln.getD P.n 0=T.L r P.n:=λr hr=>by
  let⟨ln,q1,q2⟩:=R.l r hr;exact⟨ln,JF.mpr q1,q2.getD (È _)⟩
 have ek:iB L.held (ys.map λp=>(p.1:Int))=some (ys.map λp=>(T.h p.1:Int)):=zZ λp hp=>by
  have:=hx p (Č.mp hp).1;exact dP (R.h p.1 this.1)
 have em:HN "Table" "held" (.list (ys.map λp=>PyData.int (p.1:Int))) (bY L)=some ((cW none (ys.map λp=>((p.1:Int),(T.h p.1:Int)))).elim .none λm=>.int m.1):=by
  unfold HN bY;dsimp only;rw[wJ];dsimp only;have e1:(ys.map λp=>PyData.int (p.1:Int))=(ys.map λp=>(p.1:Int)).map PyData.int:=by rw[à];rfl
  rw[iX,e1,iX];dsimp only;rw[ek];dsimp only;rw[List.zip_map']
 have main:∀r:D,(K0 r).isSome=true->(cW none (ys.map λp=>((p.1:Int),(T.h p.1:Int)))).elim PyData.none (λm=>.int m.1)=r->b9 [bY L]=.ok r []:=λr hr er=>by
  refine aQ (os:=[]) ?_;rfl';unfold kE;dsimp? [];refine aU.of (X9 (xs:=xs) (enc:=λp=>.tuple [.int (p.1:Int),.list (p.2.map PyData.int)]) (A:=λp=>.int (p.1:Int)) (B:=λp=>.list (p.2.map PyData.int)) (g:=λp=>.int (p.1:Int)) (h:=λp=>decide (p.2.getD P.n 0<0)) (λ_=>rfl) (OW (enc:=λx=>.list (x.map PyData.int)) (xs:=L.lines) (by unfold bY;dsimp? [tR])) (by
   show xs.length<=1000;have:=K.k;simp![xs,Å,List.length_zipIdx,R.ll];lia) (λp hp=>by
   let⟨h1,h2,h3,h4⟩:=hx p hp;dsimp? [YA h2 h3,h4]) (λp hp=>by dsimp? [])) ?_
  dsimp? [W1,yF];rw[show (List.map (λp:Nat×ZK=>PyData.int (p.1:Int)) (xs.filter λp=>decide (p.2.getD P.n 0<0)))=ys.map λp=>PyData.int (p.1:Int)from rfl,em,er];dsimp? [];exact⟨hr,rfl,rfl⟩
 have sp:=rJ (ys.map λp=>((p.1:Int),(T.h p.1:Int))) none;cases eb:cW none (ys.map λp=>((p.1:Int),(T.h p.1:Int)))with
 |none=>
  rw[eb]at sp;refine .inl ⟨λr hr=>?_,main .none rfl (by rw[eb];rfl)⟩;let⟨ln,h1,h2⟩:=hall r hr;by_cases c:T.L r P.n<0
  .exfalso
   have hm:(r,ln)∈ys:=Č.mpr ⟨h1,decide_eq_true (by show ln.getD P.n 0<0;lia)⟩;have:ys=[]:=by simpa using sp.2
   rw[this]at hm;cases hm
  .exact Int.not_lt.mp ‹_›
 |some m=>
  rw[eb]at sp;let⟨h1,h2,_⟩:=sp;rcases h1 with h1|h1
  .cases h1
  .obtain⟨p,hp,rfl⟩:=Õ.mp h1
   let⟨m1,m2⟩:=Č.mp hp;let⟨a1,_,_,a4⟩:=hx p m1;refine .inr ⟨p.1,a1,?_,λr hr hn=>?_,main (.int (p.1:Int)) rfl (by rw[eb];rfl)⟩
   .have:=of_decide_eq_true m2
    lia
   .obtain⟨ln,b1,b2⟩:=hall r hr
    have hm:(r,ln)∈ys:=Č.mpr ⟨b1,decide_eq_true (by show ln.getD P.n 0<0;lia)⟩;have:=h2 _ (List.mem_map_of_mem (f:=λp:Nat×ZK=>((p.1:Int),(T.h p.1:Int))) hm);dsimp only at this;lia
def YE(K:Ok P L T){pv:ZK}(hp:p<P.k)(e2:Sx.LnR P.n pv (T.L p))(hc:c<P.n)(hb:b<P.n):
  tG [bY L,.list (pv.map .int),.int (c:Int),.int (b:Int)]=.ok (.bool (decide (T.L P.k c*-T.L p b<T.L P.k b*-T.L p c\/(T.L P.k c*-T.L p b=T.L P.k b*-T.L p c/\T.f c<T.f b)))) []:=by
 have R:=K.rp;have g1:=R9 (R.g.at' c 'a');have g2:=R9 (R.g.at' b 'a');have l1:=R9 (e2.at' c 'a');have l2:=R9 (e2.at' b 'a');have f1:=R9 (R.f c hc);have f2:=R9 (R.f b hb);have m1:IntMulOk (T.L P.k c) (-T.L p b):=(K.fl P.k c (È _) 'a').mulOk (K.fl p b 'a' 'a').neg;have m2:IntMulOk (T.L P.k b) (-T.L p c):=(K.fl P.k b (È _) 'a').mulOk (K.fl p c 'a' 'a').neg;refine aQ (os:=[]) ?_;rfl';unfold mC bY;dsimp? [OV,g1,g2,l1,l2,m1,m2];generalize T.L P.k c*-T.L p b=x;generalize T.L P.k b*-T.L p c=y;have ef:((T.f c:Int)<(T.f b:Int))↔T.f c<T.f b:=by lia
 by_cases h1:x<y
 .dsimp? [h1,decide_true]
  simp
 .by_cases h2:x=y
  .subst h2
   dsimp? [h1,decide_false,decide_true,oY,f1,f2];simp![ef];simp
  .dsimp? [h1,h2,decide_false]
   simp
def aL7:Ķ .none .none=some (.bool true):=rfl
def Η:Ķ (.int i) .none=some (.bool false):=rfl
def aL8:xB .none .none=some (.bool false):=rfl
def aL9:xB (.int i) .none=some (.bool true):=rfl
def oD:Option Nat->D
 |none=>.none
 |some d=>.int (d:Int)
def SC(K:Ok P L T){pv:ZK}(hp:p<P.k)(e2:Sx.LnR P.n pv (T.L p)):∃o,Sx.BestC (T.L P.k) (T.L p) T.f P.n o/\mD [bY L,.list (pv.map .int)]=.ok (oD o) []:=by
 have R:=K.rp;have main:=kY (m0:=4) (rm:=0) (body:=iO) (ds:=[bY L,.list (pv.map .int)]) (P:=λr=>∃o,Sx.BestC (T.L P.k) (T.L p) T.f P.n o/\r=oD o) (by
  rfl';unfold iO;dsimp? [];refine xL (j:=P.n) (δ1:=_) (λk δ=>∃o o3,Sx.BestC (T.L P.k) (T.L p) T.f k o/\δ=[some (bY L),some (.list (pv.map .int)),some (oD o),o3]) (d9 (by unfold bY;dsimp? [oY,Å,R.fl];rfl)) (by have:=K.n;lia) ⟨none,none,Sx.BestC.zero,rfl⟩ ?_ ?_
  .rintro k δ hk ⟨o,o3,hB,rfl⟩
   refine⟨_,rfl,?_⟩;have l1:=R9 (e2.at' k 'a');by_cases hn:T.L p k<0
   .cases o with
    |none=>
     dsimp? [l1,hn,decide_true,oD,aL7];exact⟨some k,_,hB.first hn,rfl⟩
    |some b=>
     have ha:=YE K hp e2 (c:=k) (b:=b) hk (by have:=hB.1;exact Nat.lt_trans ‹_› ‹_›);by_cases hh:T.L P.k k*-T.L p b<T.L P.k b*-T.L p k\/(T.L P.k k*-T.L p b=T.L P.k b*-T.L p k/\T.f k<T.f b)
     .rw[decide_eq_true hh]at ha
      dsimp? [l1,hn,decide_true,oD,Η,ha];exact⟨some k,_,hB.better hn hh,rfl⟩
     .rw[decide_eq_false hh]at ha
      dsimp? [l1,hn,decide_true,oD,Η,ha];exact⟨some b,_,hB.worse hh,rfl⟩
   .dsimp? [l1,hn,decide_false]
    exact⟨o,_,hB.skip hn,rfl⟩
  .rintro δ ⟨o,o3,hB,rfl⟩
   dsimp? [];exact⟨o,hB,rfl⟩)
 let⟨r,e,o,hB,rfl⟩:=main;exact⟨o,hB,e⟩
def dI(Á:ZF):D:=.dict (Á.map λp=>(.int p.1,.int p.2))
def gI(Á:ZF)(u:Int):(Option Int):=(Á.find? λp=>p.1 == u).map (·.2)
section
def OX(h:∀p∈Á,p.1≠u)(hl:Á.length<sizeLine):yC (.int u) (.int w) (dI Á)=some (dI (Á++[(u,w)])):=by
 unfold yC dI;show (if (Á.map λp=>(PyData.int p.1,PyData.int p.2)).length<sizeLine then some (PyData.dict (LA (.inl u) (.int w) (Á.map λp=>(PyData.int p.1,PyData.int p.2))))else none)=_;rw[Â (by rw[Å];exact hl)];unfold LA;have e:((Á.map λp=>(PyData.int p.1,PyData.int p.2)).any λkv=>decide (dE kv.1=some (.inl u)))=false:=by
  rw[List.any_eq_false];intro x hx;let⟨p,hp,rfl⟩:=Õ.mp hx;have:=h p hp;simp![dE,Option.some.injEq,Sum.inl.injEq,decide_eq_true_eq];exact this
 rw[Ã (by rw[e];simp)];simp[FO]
def YF:OA (dI Á) (.int u) z=some (((gI Á u).map PyData.int).getD z):=by
 unfold OA dI;show some ((jR (.inl u) (Á.map λp=>(PyData.int p.1,PyData.int p.2))).getD z)=_;congr 2;unfold jR gI;rw[List.find?_map,Option.map_map,Option.map_map];have e:((λkv:D×D=>decide (dE kv.1=some (Sum.inl u)))∘λp:Int×Int=>(PyData.int p.1,PyData.int p.2))=λp=>p.1 == u:=by
  funext p;simp![Function.comp,dE,Option.some.injEq,Sum.inl.injEq];by_cases c:p.1=u
  .simp[c]
  .simp[c]
 rw[e];rfl
def YG:dctD' (dI Á)=true:=by
 show (Á.map λp=>(PyData.int p.1,PyData.int p.2)).all (λkv=>(dE kv.1).isSome)=true;rw[List.all_map,ï];intro p _;rfl
def aDB(hd:(Á.map (·.1)).Nodup)(h:(u,w)∈Á):gI Á u=some w:=by
 induction Á with
 |nil=>cases h
 |cons p r ih=>
  rw[Ì,List.nodup_cons]at hd;unfold gI;rw[ā];rcases Ø.mp h with rfl|h
  .simp
  .have:p.1≠u:=λe=>hd.1 (by rw[e];exact List.mem_map_of_mem (f:=(·.1)) h)
   rw[beq_eq_false_iff_ne.mpr this];exact ih hd.2 h
def aDC(h:∀p∈Á,p.1≠u):gI Á u=none:=by
 unfold gI;rw[List.find?_eq_none.mpr λp hp=>by simpa using h p hp];rfl
end
def L5{fs ws:ZK}(hf:fs.length=n)(hw:ws.length=n)(ef:∀j,j<n->fs[j]?=some (f j:Int))(ew:∀j,j<n->ws[j]?=some (w j))(inj:∀i j,i<n->j<n->f i=f j->i=j)(u:Nat):
  (gI (fs.zip ws) (u:Int)).getD 0=Sx.shr n f w u/\(gI (fs.zip ws) (u:Int)=none↔∀j,j<n->f j≠u):=by
 have hz:∀j,j<n->(fs.zip ws)[j]?=some ((f j:Int),w j):=λj hj=>by
  rw[Ĝ];exact⟨ef j hj,ew j hj⟩
 have hl:(fs.zip ws).length=n:=by rw[ë,hf,hw,Nat.min_self]
 have hm:∀p∈fs.zip ws,∃j,j<n/\p=((f j:Int),w j):=λp hp=>by
  let⟨j,hj,e⟩:=List.getElem_of_mem hp;rw[hl]at hj;have:=hz j hj;rw[Ê (by rw[hl];exact hj),e]at this;exact⟨j,hj,Option.some.inj this⟩
 have nd:((fs.zip ws).map (·.1)).Nodup:=by
  refine List.pairwise_iff_getElem.mpr λi j hi hj hij e=>?_;rw[Å,hl]at hi hj;have ei:((fs.zip ws).map (·.1))[i]?=some (f i:Int):=by rw[Ò,hz i hi];rfl
  have ej:((fs.zip ws).map (·.1))[j]?=some (f j:Int):=by rw[Ò,hz j hj];rfl
  rw[Ê (by rw[Å,hl];exact hi),e,<- Ê,ej]at ei;have:=Option.some.inj ei;have:=inj i j hi hj ∅;lia
 by_cases c:∃j,j<n/\f j=u
 .obtain⟨j,hj,rfl⟩:=c
  have e:gI (fs.zip ws) (f j:Int)=some (w j):=aDB nd (Ĉ (hz j hj));rw[e,Sx.shr_at inj hj];exact⟨rfl,by simp;exact⟨j,hj,rfl⟩⟩
 .have hn:∀j,j<n->f j≠u:=λj hj e=>c ⟨j,hj,e⟩
  have e:gI (fs.zip ws) (u:Int)=none:=aDC λp hp=>by
   let⟨j,hj,rfl⟩:=hm p hp;show (f j:Int)≠(u:Int);have:=hn j hj;lia
  rw[e,Sx.shr_no hn];exact⟨rfl,by simp;exact hn⟩
def YH(h:ds.length=n+1):D3 (.list ds) none (some (-1))=some (.list (ds.take n)):=by
 have e1:HT.sIx ds.length 0 none=0:=rfl;have e2:HT.sIx ds.length ds.length (some (-1))=n:=by
  unfold HT.sIx;simp[h];lia
 show some (PyData.list ((ds.drop (HT.sIx ds.length 0 none)).take (HT.sIx ds.length ds.length (some (-1))-HT.sIx ds.length 0 none)))=_;rw[e1,e2,List.drop_zero,Nat.sub_zero]
def JG{fs:ZK}{f:Nat->Nat}(hf:fs.length=n)(ef:∀j,j<n->fs[j]?=some (f j:Int))(inj:∀i j,i<n->j<n->f i=f j->i=j)(hn:n<=900)(hk:(fs.zip ws)[k]?=some (u,w)):
  yC (.int u) (.int w) (dI ((fs.zip ws).take k))=some (dI ((fs.zip ws).take (k+1))):=by
 have hkl:=(Í.mp hk).1;rw[ë]at hkl;have hu:fs[k]?=some u:=(Ĝ.mp hk).1;rw[OX (λp hp=>?_) (by
  rw[ê,ë,hf];have:900<sizeLine:=by decide
  lia)]
 .rw[List.take_add_one,hk]
  rfl
 .obtain⟨i,hi,e⟩:=List.getElem_of_mem hp
  rw[ê,ë]at hi;have e2:(fs.zip ws)[i]?=some p:=by
   rw[List.getElem_take]at e;rw[Ê (by rw[ë];lia),e]
  have hp1:fs[i]?=some p.1:=(Ĝ.mp e2).1;rw[ef i ∅]at hp1;rw[ef k ∅]at hu;intro z;have:=inj i k ∅ ∅ (by have:=Option.some.inj hp1;have:=Option.some.inj hu;lia);lia
def CK(K:Ok P L T)(I:Sx.Inv P σ T)(e2:Sx.LnR P.n ln w):nN [bY L,.list (ln.map .int)]=.ok (dI (L.free.zip (ln.take P.n))) []:=by
 have R:=K.rp;have el:(L.free.zip (ln.take P.n)).length=P.n:=by rw[ë,R.fl,ê,e2.len];lia
 refine aQ (os:=[]) ?_;rfl';unfold nM;dsimp? [];have hz:AR (sC (gL "Table" "free") (bF 0)) (ĩ D3 (bF 1) none (some (sC ŵ (dC (.int 1))))) [some (bY L),some (.list (ln.map .int)),some (j8 [] []),none,none]=.ok ((L.free.zip (ln.take P.n)).map λp=>.tuple [.int p.1,.int p.2]) [some (bY L),some (.list (ln.map .int)),some (j8 [] []),none,none]:=YB (by unfold bY;dsimp? [oY]) (by
  have:=YH (ds:=ln.map PyData.int) (n:=P.n) (by rw[Å,e2.len]);dsimp? [VT,uL,uM,BW,this];rw[List.map_take])
 refine cM (λk δ=>∃o3 o4,δ=[some (bY L),some (.list (ln.map .int)),some (dI ((L.free.zip (ln.take P.n)).take k)),o3,o4]) hz ⟨none,none,rfl⟩ ?_ ?_
 .rintro k d δ hk ⟨o3,o4,rfl⟩
  rw[Ò]at hk;cases e:(L.free.zip (ln.take P.n))[k]? with
  |none=>rw[e]at hk;cases hk
  |some p=>
   rw[e]at hk;cases hk;refine⟨_,rfl,?_⟩;have pt:=JG R.fl R.f I.fi K.n e;dsimp? [yE,pt];exact⟨_,_,rfl⟩
 .rintro δ ⟨o3,o4,rfl⟩
  rw[Å,List.take_length];dsimp? [EE]
def OY(t b:Int):(Int×Int):=(ň t b t,ň t b b)
def YI(hb:b≠0)(fb:fK 9000 b):l9 [.int t,.int b]=.ok (fr (OY t b)) []:=by
 have hd:dv t b=(if b<0 then -(Int.gcd t b:Int)else (Int.gcd t b:Int)):=rfl;have gl:(Int.gcd t b:Int).natAbs<=b.natAbs:=by
  have:=Int.gcd_le_natAbs_right (a:=t) hb;assumption
 have hl:(dv t b).natAbs.log2<9000:=by
  have fg:fK 9000 (Int.gcd t b:Int):=fb.le gl;rw[hd];split
  .exact fg.neg.log2
  .exact fg.log2
 rw[JC hb hl,hd,GE (Int.gcd_dvd_left t b),GE (Int.gcd_dvd_right t b)];rfl
def aDD{a b:Nat}(h:a+b<=ds.length):D3 (.list ds) (some (a:Int)) (some ((a+b:Nat):Int))=some (.list ((ds.drop a).take b)):=by
 have e1:HT.sIx ds.length 0 (some (a:Int))=a:=by rw[HT.sIx_nat];lia
 have e2:HT.sIx ds.length ds.length (some ((a+b:Nat):Int))=a+b:=by rw[HT.sIx_nat];lia
 show some (PyData.list ((ds.drop (HT.sIx ds.length 0 (some (a:Int)))).take (HT.sIx ds.length ds.length (some ((a+b:Nat):Int))-HT.sIx ds.length 0 (some (a:Int)))))=_;rw[e1,e2,Nat.add_sub_cancel_left]
def Ĭ(n m:Nat)(y:Nat->Int)(s:Int):D:=.tuple [.list ((List.range m).map λr=>fr (OY (y (n+r)) s)),.list ((List.range n).map λi=>fr (OY (y (n+m+i)) s))]
def JH(K:Ok P L T)(hm:rs.length=m)(hk:P.k=m+P.n)(hy:∀u,u<P.n+m+P.n->(gI Á (u:Int)).getD 0=y u):qV [bY L,.list rs,dI Á]=.ok (Ĭ P.n m y T.s) []:=by
 have R:=K.rp;have kn:=K.k;have nn:=K.n;have hs0:T.s≠0:=by have:=K.pos;exact Int.ne_of_gt ‹_›
 refine aQ (os:=[]) ?_;rfl';unfold qU;unfold bY;dsimp? [oY,Å,R.fl,hm];refine aU.of (xK (n:=((P.n+m+P.n:Nat):Int)) (g:=λu=>fr (OY (y u) T.s)) (cZ (by dsimp? [oY,Å,R.fl];simp)) ∅ ∅ λk hk=>?_) ?_
 .have hk:k<P.n+m+P.n:=by lia
  have e:=hy k hk;have g0:((gI Á (k:Int)).map PyData.int).getD (.int 0)=.int (y k):=by
   rw[<- e];cases gI Á (k:Int)<;>rfl
  dsimp? [W0,YG,YF,g0,zY,R.s,YI hs0 (K.fs.mono ⋯)]
 .rw[ü]
  have c1:=aDD (ds:=(List.range (P.n+m+P.n)).map λu=>fr (OY (y u) T.s)) (a:=P.n) (b:=m) 'f';have c2:=sJ (ds:=(List.range (P.n+m+P.n)).map λu=>fr (OY (y u) T.s)) (k:=P.n+m) 'f';have ec:((P.n+m:Nat):Int)=(P.n:Int)+(m:Int):=by simp
  rw[ec]at c1 c2;dsimp? [aLL,uL,uM,BW,c1,c2];unfold Ĭ;have d1:(((List.range (P.n+m+P.n)).map λu=>fr (OY (y u) T.s)).drop P.n).take m=(List.range m).map λr=>fr (OY (y (P.n+r)) T.s):=by
   refine List.ext_getElem? λj=>?_;rw[List.getElem?_take];split
   .rename_i hj
    rw[List.getElem?_drop,Ò,þ ∅,Ò,þ hj];rfl
   .rw[ç (by simp;exact è.mp ‹_›)]
  have d2:((List.range (P.n+m+P.n)).map λu=>fr (OY (y u) T.s)).drop (P.n+m)=(List.range P.n).map λi=>fr (OY (y (P.n+m+i)) T.s):=by
   refine List.ext_getElem? λj=>?_;rw[List.getElem?_drop];by_cases hj:j<P.n
   .rw[Ò,þ ∅,Ò,þ hj]
    rfl
   .rw[ç (by simp;exact è.mp ‹_›),ç (by simp;exact è.mp ‹_›)]
  rw[d1,d2]
theorem OZ(e2:Sx.LnR n ln w):(ln.take n).length=n/\∀j,j<n->(ln.take n)[j]?=some (w j):=
 ⟨by rw[ê,e2.len];lia,λj hj=>by rw[List.getElem?_take,Â hj];exact e2.at' j 'a'⟩
def aDE(K:Ok P L T)(I:Sx.Inv P σ T)(hm:rs.length=m)(hk:P.k=m+P.n)(hp:p<P.k):
  nQ [bY L,.list rs,.int (p:Int)]=.ok (.tuple [.str "none",Ĭ P.n m (λu=>if u=T.h p then T.s else Sx.shr P.n T.f (T.L p) u) T.s]) []:=by
 have R:=K.rp;let⟨pv,e1,e2⟩:=R.l p hp;have i1:=Ζ e1;have i2:=R9 (R.h p hp);have sh:=CK K I e2;let⟨t1,t2⟩:=OZ e2;have gs:=λu=>L5 R.fl t1 R.f t2 I.fi u;have hnew:∀q∈L.free.zip (pv.take P.n),q.1≠(T.h p:Int):=λq hq z=>by
  have h1:=(gs (T.h p)).2.mpr λj hj=>I.fh j p hj 'a';have h2:gI (L.free.zip (pv.take P.n)) (T.h p:Int)≠none:=by
   unfold gI;intro y;rw[Option.map_eq_none_iff,List.find?_eq_none]at y;exact y q hq (by simp[z])
  exact h2 h1
 have hzl:(L.free.zip (pv.take P.n)).length=P.n:=by rw[ë,R.fl,t1,Nat.min_self]
 have pn:=OX (w:=L.s) hnew (by rw[hzl];have:=K.n;have:900<sizeLine:=⋯;exact ē ‹_› ‹_›)
 have pe:=JH K hm hk (Á:=L.free.zip (pv.take P.n)++[((T.h p:Int),L.s)]) (y:=λu=>if u=T.h p then T.s else Sx.shr P.n T.f (T.L p) u) λu _=>by
  have e:gI (L.free.zip (pv.take P.n)++[((T.h p:Int),L.s)]) (u:Int)=(gI (L.free.zip (pv.take P.n)) (u:Int)).or (if (T.h p:Int)=(u:Int)then some L.s else none):=by
   unfold gI;rw[List.find?_append,Option.map_or,List.find?_singleton];congr 1;by_cases c:(T.h p:Int)=(u:Int)
   .simp[c]
   .simp[c]
  rw[e];by_cases c:u=T.h p
  .subst c
   rw[(gs (T.h p)).2.mpr λj hj=>I.fh j p hj 'a',Â rfl,Â rfl,R.s];rfl
  .rw[Ã c,Ã ∅,Option.or_none]
   exact(gs u).1
 refine aQ (os:=[]) ?_;rfl';unfold nO;have tl:gL "Table" "lines" (bY L)=some (SB L.lines):=tR;have th:gL "Table" "held" (bY L)=some (.list (L.held.map .int)):=wJ;have ts:gL "Table" "scale" (bY L)=some (.int L.s):=zY;dsimp? [tl,i1,sh,ts,yE,th,i2,pn,pe]
def aDF(K:Ok P L T)(I:Sx.Inv P σ T){Ä:ZK}(hm:rs.length=m)(hk:P.k=m+P.n)(hr:Ä.length=P.n):
  nS [bY L,.list rs,.list (Ä.map .int)]=.ok (.tuple [.str "fill",.list ((List.range P.n).map λx=>fr (OY (Sx.val P T x) T.s)),Ĭ P.n m (λu=>Sx.shr P.n T.f (T.L P.k) u) T.s]) []:=by
 have R:=K.rp;have kk:=K.k;have hs0:T.s≠0:=by have:=K.pos;exact Int.ne_of_gt ‹_›
 have sh:=CK K I R.g;let⟨t1,t2⟩:=OZ R.g;have gs:=λu=>L5 R.fl t1 R.f t2 I.fi u;have pe:=JH K hm hk (Á:=L.free.zip (L.goal.take P.n)) (y:=λu=>Sx.shr P.n T.f (T.L P.k) u) λu _=>(gs u).1;let ws:ZK:=L.lines.map λln=>ln.getD P.n 0;have wl:ws.length=P.k:=by simp![ws,Å,R.ll]
 have wa:∀r,r<P.k->ws[r]?=some (T.L r P.n):=λr hr=>by
  let⟨ln,q1,q2⟩:=R.l r hr;simp![ws,Ò,q1,Option.map_some,q2.getD (È _)]
 have hv:=λu=>L5 R.hl wl R.h wa (λi j hi hj e=>I.hi i j 'a' 'a' e) u;refine aQ (os:=[]) ?_;rfl';unfold nR;have tl:gL "Table" "lines" (bY L)=some (SB L.lines):=tR;have th:gL "Table" "held" (bY L)=some (.list (L.held.map .int)):=wJ;have ts:gL "Table" "scale" (bY L)=some (.int L.s):=zY;have tg:gL "Table" "goal" (bY L)=some (.list (L.goal.map .int)):=OV;dsimp? [];have hz:AR (sC (gL "Table" "held") (bF 0)) (sC (gL "Table" "lines") (bF 0)) [some (bY L),some (.list rs),some (.list (Ä.map .int)),some (j8 [] []),none,none,none]=.ok ((L.held.zip L.lines).map λp=>.tuple [.int p.1,.list (p.2.map PyData.int)]) [some (bY L),some (.list rs),some (.list (Ä.map .int)),some (j8 [] []),none,none,none]:=by
  have e1:sC (gL "Table" "held") (bF 0) [some (bY L),some (.list rs),some (.list (Ä.map .int)),some (j8 [] []),none,none,none]=.ok (.list (L.held.map .int)) [some (bY L),some (.list rs),some (.list (Ä.map .int)),some (j8 [] []),none,none,none]:=cZ (by dsimp? [th]);have e2:sC (gL "Table" "lines") (bF 0) [some (bY L),some (.list rs),some (.list (Ä.map .int)),some (j8 [] []),none,none,none]=.ok (SB L.lines) [some (bY L),some (.list rs),some (.list (Ä.map .int)),some (j8 [] []),none,none,none]:=cZ (by dsimp? [tl]);unfold AR;simp![bA,e1,e2,aW];congr 1;unfold pH;rw[List.zipWith_map,List.zip_eq_zipWith,List.map_zipWith]
 refine cM (λk δ=>∃o4 o5,δ=[some (bY L),some (.list rs),some (.list (Ä.map .int)),some (dI ((L.held.zip ws).take k)),o4,o5,none]) hz ⟨none,none,rfl⟩ ?_ ?_
 .rintro k d δ hkd ⟨o4,o5,rfl⟩
  rw[Ò]at hkd;cases e:(L.held.zip L.lines)[k]? with
  |none=>rw[e]at hkd;cases hkd
  |some q=>
   rw[e]at hkd;cases hkd;let⟨q1,q2⟩:=Ĝ.mp e;have hk':k<P.k:=by have:=(Í.mp q1).1;rw[R.hl]at this;exact this
   let⟨ln,l1,l2⟩:=R.l k hk';rw[q2]at l1;have el:ln=q.2:=(Option.some.inj l1).symm;subst el;refine⟨_,rfl,?_⟩;have ez:(L.held.zip ws)[k]?=some (q.1,T.L k P.n):=by rw[Ĝ];exact⟨q1,wa k hk'⟩
   have pt:=JG R.hl R.h (λi j hi hj e=>I.hi i j 'a' 'a' e) kk ez;have il:=YA l2.len (l2.at' P.n (È _));dsimp? [yE,il,pt];exact⟨_,_,rfl⟩
 .rintro δ ⟨o4,o5,rfl⟩
  rw[Å,ë,R.hl,R.ll,Nat.min_self,List.take_of_length_le (by rw[ë,R.hl,wl];lia)];dsimp? [];refine aU.of (xK (n:=(P.n:Int)) (g:=λu=>fr (OY (Sx.val P T u) T.s)) (cZ (by dsimp? [Å,hr])) ∅ (by have:=K.n;lia) λk hk=>?_) ?_
  .have e:=(hv k).1
   have g0:((gI (L.held.zip ws) (k:Int)).map PyData.int).getD (.int 0)=.int (Sx.val P T k):=by
    unfold Sx.val;rw[<- e];cases gI (L.held.zip ws) (k:Int)<;>rfl
   dsimp? [W0,YG,YF,g0,ts,R.s,YI hs0 (K.fs.mono ⋯)]
  .rw[ü]
   dsimp? [tg,sh,pe]
def aMA(h:aU c δ λb δ1=>if b=true then bN u δ1 (λδ2=>bN (fF c u) δ2 N B C R) N (λδ2=>bN (fF c u) δ2 N B C R) R else N δ1):bN (fF c u) δ N B C R:=by
 let⟨b,δ1,e,q⟩:=h.ex;cases b with
 |false=>
  refine bN.of (fl:=.next) (by rw[eQ,e];rfl) ?_;exact(by simpa using q:N δ1)
 |true=>
  rw[Â rfl]at q;let⟨fl,δ2,e2,q2⟩:=q.ex;cases fl with
  |next=>
   let⟨fl3,δ3,e3,q3⟩:=bN.ex q2;exact bN.of (fl:=fl3) (by rw[eQ,e];simp![aW,if_true,e2];exact e3) q3
  |cont=>
   let⟨fl3,δ3,e3,q3⟩:=bN.ex q2;exact bN.of (fl:=fl3) (by rw[eQ,e];simp![aW,if_true,e2];exact e3) q3
  |brk=>exact bN.of (fl:=.next) (by rw[eQ,e];simp![aW,if_true,e2]) q2
  |ret r=>exact bN.of (fl:=.ret r) (by rw[eQ,e];simp![aW,if_true,e2]) q2
def ģ(Ä:ZK)(i:Nat):D:=.list ((((List.replicate Ä.length (0:Int)).set i 1)++[Ä.getD i 0]).map PyData.int)
def YJ(hn:Ä.length<=900):tE [.list (Ä.map .int)]=.ok (.list ((List.range Ä.length).map (ģ Ä))) []:=by
 refine aQ (os:=[]) ?_;rfl';unfold mB;dsimp? [];refine cM (λk δ=>∃o2 o3 o4,δ=[some (.list (Ä.map .int)),some (.list ((List.range k).map (ģ Ä))),o2,o3,o4]) (OW (enc:=PyData.int) (xs:=Ä) (by dsimp? [])) ⟨none,none,none,rfl⟩ ?_ ?_
 .rintro k d δ hk ⟨o2,o3,o4,rfl⟩
  have hk0:=(Í.mp hk).1;simp![Å,List.length_zipIdx]at hk0;have ed:d=.tuple [.int (k:Int),.int (Ä.getD k 0)]:=by
   rw[Ò,Ò,List.getElem?_zipIdx,Ê hk0]at hk;simp![Option.map_some,Option.some.injEq]at hk;rw[<- hk,Ë,Ê hk0];simp
  subst ed;refine⟨_,rfl,?_⟩;dsimp? [];refine aU.of (cS (xs:=Ä) (enc:=PyData.int) (g:=λ_=>.int 0) (bT (by dsimp? [])) ∅ λx _=>by dsimp? []) ?_;have ei:=ixN_lt' (show k<((Ä.map λ_=>PyData.int 0)++[PyData.int (Ä.getD k 0)]).length by simp;exact Nat.lt_succ_of_lt ‹_›);have er:(List.range (k+1)).map (ģ Ä)=(List.range k).map (ģ Ä)++[ģ Ä k]:=by rw[List.range_succ,Ö];rfl
  rw[er];have e0:(Ä.map λ_=>PyData.int 0)=(List.replicate Ä.length (0:Int)).map PyData.int:=by
   rw[List.map_replicate];exact List.map_const' ..
  have el:(((Ä.map λ_=>PyData.int 0)++[PyData.int (Ä.getD k 0)]).set k (.int 1))=(((List.replicate Ä.length (0:Int)).set k 1)++[Ä.getD k 0]).map PyData.int:=by
   rw[e0,List.set_append_left _ _ (by simpa using hk0),Ö,List.map_set];rfl
  have cat:GR (.list (Ä.map λ_=>PyData.int 0)) (.list [PyData.int (Ä.getD k 0)])=some (.list ((Ä.map λ_=>PyData.int 0)++[PyData.int (Ä.getD k 0)])):=Â (by
   simp![Å,Û,List.length_nil];have:901<=sizeLine:=by decide
   exact ē ‹_› ‹_›)
  dsimp? [cat,ei,el];refine⟨by have:900<sizeLine:=⋯;simp![Å,List.length_range];lia,_,_,_,rfl⟩
 .rintro δ ⟨o2,o3,o4,rfl⟩
  simp![Å,List.length_zipIdx];dsimp? []
def aP1:nH 20 0 "Table" "scale" s (dN "Table" [] [])=some (.dict [(.none,.str "Table"),(.str "scale",s)]):=by with_unfolding_all rfl
def aP2:nH 20 1 "Table" "free" f (.dict [(.none,.str "Table"),(.str "scale",s)])=some (.dict [(.none,.str "Table"),(.str "scale",s),(.str "free",f)]):=by with_unfolding_all rfl
def aP3:nH 20 1 "Table" "held" h (.dict [(.none,.str "Table"),(.str "scale",s),(.str "free",f)])=some (.dict [(.none,.str "Table"),(.str "scale",s),(.str "free",f),(.str "held",h)]):=by with_unfolding_all rfl
def aP4:nH 20 0 "Table" "lines" l (.dict [(.none,.str "Table"),(.str "scale",s),(.str "free",f),(.str "held",h)])=some (.dict [(.none,.str "Table"),(.str "scale",s),(.str "free",f),(.str "held",h),(.str "lines",l)]):=by with_unfolding_all rfl
def aP5:nH 20 0 "Table" "goal" g (.dict [(.none,.str "Table"),(.str "scale",s),(.str "free",f),(.str "held",h),(.str "lines",l)])=some (tb s f h l g):=by with_unfolding_all rfl
def aP6{n:Nat}(h:n<=1000):kR [.int (n:Int)]=some (0,n):=by
 unfold kR;dsimp only;rw[Â ⟨∅,∅⟩,ü]
def aP7{n m:Nat}(h:n+m<=1000):kR [.int (n:Int),.int ((n+m:Nat):Int)]=some ((n:Int),m):=by
 unfold kR;dsimp only;rw[Â ⟨∅,∅,∅,∅⟩];have e:((((n+m:Nat):Int))-(n:Int)).toNat=m:=by lia
 rw[e]
def Θ(h:n<=1000):n<=sizeLine:=Ü h (show 1000<=sizeLine by decide)
def YK(h:kR ds=some (lo,n))(hn:n<=1000):Ī ds=some (.list (jH lo n)):=by
 unfold Ī;rw[h];exact Â (Θ hn)
def aP8{n:Nat}(h:n<=1000):Ī [.int (n:Int)]=some (.list (((List.range n).map λ(i:Nat)=>(i:Int)).map PyData.int)):=by
 rw[YK (aP6 h) h];have e:jH 0 n=((List.range n).map λ(i:Nat)=>(i:Int)).map PyData.int:=by
  unfold jH;rw[à];refine List.map_congr_left λk _=>?_;show PyData.int (0+(k:Int))=.int (k:Int);rw[Int.zero_add]
 rw[e]
def aP9{n m:Nat}(h:n+m<=1000):Ī [.int (n:Int),.int ((n+m:Nat):Int)]=some (.list (((List.range m).map λ(i:Nat)=>((n+i:Nat):Int)).map PyData.int)):=by
 rw[YK (aP7 h) ∅];have e:jH (n:Int) m=((List.range m).map λ(i:Nat)=>((n+i:Nat):Int)).map PyData.int:=by
  unfold jH;rw[à];refine List.map_congr_left λk _=>?_;show PyData.int ((n:Int)+(k:Int))=.int ((n+k:Nat):Int);rw[Int.natCast_add]
 rw[e]
def ĺ(r:ZK×Int):D:=.tuple [.list (r.1.map PyData.int),.int r.2]
abbrev SD(rs:ZE):D:=.list (rs.map ĺ)
def aDG(hm:Ç.length<=300)(hn:Ä.length<=300)(hr:∀r∈Ç,r.1.length=Ä.length):k7 [dN "Table" [] [],SD Ç,.list (Ä.map .int)]=.ok .none [some (bY (Sx.startL Ç Ä))]:=by
 have sz:1000<=sizeLine:=by decide
 refine OU (os:=[bY (Sx.startL Ç Ä)]) ?_;rfl';unfold gM;have e1:=aP8 (n:=Ä.length) ∅;have e2:=aP9 (n:=Ä.length) (m:=Ç.length+Ä.length) ∅;have e3:((Ä.length+(Ç.length+Ä.length):Nat):Int)=(Ä.length:Int)+(Ç.length:Int)+(Ä.length:Int):=by lia
 rw[e3]at e2;have er:=YJ (Ä:=Ä) ∅;dsimp? [yD,aP1,aIU,Å,e1,aP2,e2,aP3,SD];refine aU.of (oX (xs:=Ç) (enc:=ĺ) (A:=λr=>.list (r.1.map PyData.int)) (B:=λr=>.int r.2) (g:=λr=>.list ((r.1++[r.2]).map PyData.int)) (λ_=>rfl) (bT (by dsimp? [])) ∅ λr hr'=>?_) ?_
 .have hl:=hr r hr'
  have ll:∀l:ZI,M3 [.list l]=some (.list l):=λ_=>rfl;dsimp? [ll,Å,Ö,Ì,List.map_nil,Û,List.length_nil];exact Θ ∅
 .dsimp? [er,Å,List.length_range]
  refine⟨∅,?_⟩;dsimp? [aP4,yD];refine aU.of (cS (xs:=Ä) (enc:=PyData.int) (g:=λ_=>.int 1) (bT (by dsimp? [])) ∅ λx _=>by dsimp? []) ?_;have g1:(Ä.map λ_=>PyData.int 1)++[PyData.int 0]=(List.replicate Ä.length (1:Int)++[0]).map PyData.int:=by
   have e0:(Ä.map λ_=>PyData.int 1)=List.replicate Ä.length (PyData.int 1):=List.map_const' ..;rw[Ö,List.map_replicate,e0,Ì,List.map_nil]
  have g2:(Ç.map λr=>PyData.list ((r.1++[r.2]).map PyData.int))++(List.range Ä.length).map (ģ Ä)=((Ç.map λr=>r.1++[r.2])++(List.range Ä.length).map λ(i:Nat)=>((List.replicate Ä.length (0:Int)).set i 1)++[Ä.getD i 0]).map λx=>PyData.list (x.map PyData.int):=by
   rw[Ö,à,à];congr 1
  have fin:tb (.int 1) (.list (((List.range Ä.length).map λ(i:Nat)=>(i:Int)).map PyData.int)) (.list (((List.range (Ç.length+Ä.length)).map λ(i:Nat)=>((Ä.length+i:Nat):Int)).map PyData.int)) (.list ((Ç.map λr=>PyData.list ((r.1++[r.2]).map PyData.int))++(List.range Ä.length).map (ģ Ä))) (.list ((Ä.map λ_=>PyData.int 1)++[PyData.int 0]))=bY (Sx.startL Ç Ä):=by
   rw[g1,g2];rfl
  dsimp? [Å,Û,List.length_nil];refine⟨Θ ∅,?_⟩;dsimp? [aP5,fin]
structure đ(Ç:ZE)(Ä:ZK)(A C:Nat):Prop where
 len:∀r∈Ç,r.1.length=Ä.length
 m:Ç.length<=300
 n:Ä.length<=300
 a1:1<=A
 a:∀r∈Ç,∀x∈r.1,x.natAbs<=A
 c:∀r∈Ç,r.2.natAbs<=C
 cr:∀x∈Ä,x.natAbs<=C
 f1:Sx.fac Ä.length*A^Ä.length<2^4000
 f2:(Ä.length+1)*(Sx.fac Ä.length*A^Ä.length*C)<2^4000
section
def JI{l:ZK}(h:∀y∈l,y.natAbs<=A):(l.getD x 0).natAbs<=A:=by
 rw[Ë];cases e:l[x]? with
 |none=>simp
 |some y=>exact h y (Ĉ e)
def đ.pa(b:đ Ç Ä A C)(u x:Nat):((Sx.lpOf Ç Ä).pr.a u x).natAbs<=A:=by
 have a1:=b.a1;have h0:(0:Int).natAbs<=A:=by simp
 have h1:(1:Int).natAbs<=A:=by simpa using a1
 have h2:(-1:Int).natAbs<=A:=by simpa using a1
 show (if u<Ä.length then (if x=u then -1 else 0)else if u<Ä.length+Ç.length then (Ç.getD (u-Ä.length) ([],0)).1.getD x 0 else if u<Ä.length+Ç.length+Ä.length then (if x=u-(Ä.length+Ç.length)then 1 else 0)else 1:Int).natAbs<=A;split
 .split
  .exact h2
  .exact h0
 .split
  .refine JI λy hy=>?_
   rw[Ë]at hy;cases e:Ç[u-Ä.length]? with
   |none=>rw[e]at hy;cases hy
   |some r=>rw[e]at hy;exact b.a r (Ĉ e) y hy
  .split
   .split
    .exact h1
    .exact h0
   .exact h1
def đ.pc(b:đ Ç Ä A C)(u:Nat):((Sx.lpOf Ç Ä).pr.c u).natAbs<=C:=by
 have h0:(0:Int).natAbs<=C:=by simp
 show (if u<Ä.length then 0 else if u<Ä.length+Ç.length then (Ç.getD (u-Ä.length) ([],0)).2 else if u<Ä.length+Ç.length+Ä.length then Ä.getD (u-(Ä.length+Ç.length)) 0 else 0:Int).natAbs<=C;split
 .exact h0
 .split
  .rw[Ë]
   cases e:Ç[u-Ä.length]? with
   |none=>exact h0
   |some r=>exact b.c r (Ĉ e)
  .split
   .exact JI b.cr
   .exact h0
def đ.ok(b:đ Ç Ä A C)(I:Sx.Inv (Sx.lpOf Ç Ä).pr σ T)(R:Sx.Rp (Sx.lpOf Ç Ä).pr L T):Ok (Sx.lpOf Ç Ä).pr L T:=by
 let⟨h1,h2,h3⟩:=I.small (A:=A) (C:=C) (λu x _ _=>b.pa u x) (λu _=>b.pc u);have bm:=b.m;have bn:=b.n;refine⟨R,I.pos,ē h1 b.f1,λr j hr hj=>?_,?_,?_⟩
 .by_cases e:j<(Sx.lpOf Ç Ä).pr.n
  .exact ē (h2 r j hr e) b.f1
  .have e:j=(Sx.lpOf Ç Ä).pr.n:=by lia
   subst e;exact ē (h3 r hr) b.f2
 .show Ä.length<=900
  lia
 .show Ç.length+Ä.length<=900
  lia
end
def aMC(Q:Sx.Lp)(T:Sx.Tab):D:=.tuple [.str "fill",.list ((List.range Q.n).map λx=>fr (OY (Sx.val Q.pr T x) T.s)),Ĭ Q.n Q.m (λu=>Sx.shr Q.n T.f (T.L Q.pr.k) u) T.s]
def aMD(Q:Sx.Lp)(T:Sx.Tab)(p:Nat):D:=.tuple [.str "none",Ĭ Q.n Q.m (λu=>if u=T.h p then T.s else Sx.shr Q.n T.f (T.L p) u) T.s]
def aME(Q:Sx.Lp)(r:D):Prop:=∃T σ,Sx.Inv Q.pr σ T/\(((∀r,r<Q.pr.k->0<=T.L r Q.n)/\r=aMC Q T)\/∃p,p<Q.pr.k/\T.L p Q.n<0/\(∀j,j<Q.n->0<=T.L p j)/\r=aMD Q T p)
def aFK(Ç:ZE)(Ä:ZK)(T:Sx.Tab):Prop:=∀(L:Sx.LT),Sx.Rp (Sx.lpOf Ç Ä).pr L T->∀(o4:ZL)(pl:D),b9 [bY L]=.ok pl [] ->
   bN (eK (fF (dB (iF xB (bF 3) (dC .none)))
   (eK (jG 4 (QH (iU mD [.val (bF 2),.val (iF fM (sC (gL "Table" "lines") (bF 2)) (bF 3))])))
   (eK (qJ (dB (iF Ķ (bF 4) (dC .none)))
    (pF (iU nQ [.val (bF 2),.val (bF 0),.val (bF 3)]))
    wZ)
   (eK (BJ (xO 2 "Table" "swap" mF [.val (bF 3),.val (bF 4)]))
   (jG 3 (QH (iU b9 [.val (bF 2)])))))))
  (pF (iU nS [.val (bF 2),.val (bF 0),.val (bF 1)]))) [some (SD Ç),some (.list (Ä.map .int)),some (bY L),some pl,o4] (λ_=>False) (λ_=>False) (λ_=>False) λr _=>aME (Sx.lpOf Ç Ä) r
def aDI(b:đ Ç Ä A C)(T:Sx.Tab)(I:Sx.Inv (Sx.lpOf Ç Ä).pr σ T):aFK Ç Ä T:=by
 refine Sx.simplex_ind (Good:=aFK Ç Ä) ?_ T I;clear I T;intro T I ih L R o4 pl hpl;have K:=b.ok I R;have hk:(Sx.lpOf Ç Ä).pr.k=Ç.length+(Sx.lpOf Ç Ä).pr.n:=rfl;have hm:(Ç.map ĺ).length=Ç.length:=Å _;have tl:gL "Table" "lines" (bY L)=some (SB L.lines):=tR;rw[BU];refine aMA ?_;rcases z6 K with ⟨all,e⟩|⟨p,hp,neg,first,e⟩
 .rw[e]at hpl
  cases hpl;have fe:=aDF K I (rs:=Ç.map ĺ) (Ä:=Ä) hm hk rfl;dsimp? [aL8,Bool.false_eq_true,if_false,fe];exact⟨T,σ,I,.inl ⟨all,rfl⟩⟩
 .rw[e]at hpl
  cases hpl;let⟨pv,e1,e2⟩:=R.l p hp;let⟨o,hB,ec⟩:=SC K hp e2;have i1:=Ζ e1;dsimp? [aL9,if_true,tl,i1,ec,yF];cases o with
  |none=>
   have ne:=aDE K I (rs:=Ç.map ĺ) hm hk hp;simp![oD,aIV];dsimp? [aL7,ne];exact⟨T,σ,I,.inr ⟨p,hp,neg,hB,rfl⟩⟩
  |some d=>
   have C:=Sx.ch_of hp neg first hB
   have R':=R.swap hp C.hd;have I':=C.inv I;have K':=b.ok I' R';have sw:=aDA K hp C.hd;obtain⟨pl',ep,hv⟩:∃pl',b9 [bY (Sx.swapL L p d)]=.ok pl' []/\(K0 pl').isSome=true:=by
    rcases z6 K' with ⟨_,e⟩|⟨q,_,_,_,e⟩
    .exact⟨_,e,rfl⟩
    .exact⟨_,e,rfl⟩
   have nx:=ih p d C (Sx.swapL L p d) R' (some (.int (d:Int))) pl' ep;rw[BU]at nx;simp![oD,W3];have tm:yB "Table" "swap" (bY L):=aC9;dsimp? [Η,aIS,tm,true_and,sw,ep,yF];refine⟨hv,?_⟩;dsimp? [];exact nx
def YL(b:đ Ç Ä A C):∃r,E0 [SD Ç,.list (Ä.map .int)]=.ok r []/\aME (Sx.lpOf Ç Ä) r:=by
 have bm:=b.m;have bn:=b.n;have R:=Sx.start_ok b.len;have I:=(Sx.lpOf Ç Ä).inv;have K:=b.ok I R;have ie:=aDG (Ç:=Ç) (Ä:=Ä) (by assumption) (by assumption) b.len;obtain⟨pl,ep,hv⟩:∃pl,b9 [bY (Sx.startL Ç Ä)]=.ok pl []/\(K0 pl).isSome=true:=by
  rcases z6 K with ⟨_,e⟩|⟨q,_,_,_,e⟩
  .exact⟨_,e,rfl⟩
  .exact⟨_,e,rfl⟩
 have wk:=aDI b _ I (Sx.startL Ç Ä) R none pl ep;refine kY (m0:=5) (rm:=0) ?_;rfl';unfold EZ;dsimp? [aIT];unfold WY;refine⟨_,_,rfl,ie,?_⟩;dsimp? [ep,yF];refine⟨hv,?_⟩;dsimp? [];rw[BU]at wk;exact wk
abbrev iL(ns:ZK):D:=.list (ns.map PyData.int)
def SE(r:ZK×Int):D:=.tuple [iL r.1,.int r.2]
abbrev aFL(rs:ZE):D:=.list (rs.map SE)
def aFM(a:Nat)(ns:ZK):Prop:=∀n∈ns,fK a n
def aOT(h:1<=n):fK n 1:=by
 show (1:Int).natAbs<2^n;have:2^1<=2^n:=Nat.pow_le_pow_right ⋯ h;simp;exact Þ ‹_›
def aDJ{ns:ZK}(h:k<ns.length):atI (ns.map PyData.int) (k:Int)=some (.int (ns.getD k 0)):=by
 refine dP ?_;rw[Ò,Ê h,Ë,Ê h];rfl
end Toy
namespace L2
open PySem PySem.Spec
end L2
namespace Toy
open PySem L2
section
end
def qs(n:Nat)(y:Nat->Int)(s:Int):ZF:=(List.range n).map λx=>OY (y x) s
section
end
section
abbrev y1(Ç:ZE)(Ä:ZK)(y:Nat->Int)(i:Nat):Int:=y (Ä.length+Ç.length+i)
end
section
end
end Toy
namespace L2
open PySem PySem.Spec
def vF(P:ZO)(h1:bN u δ P B C R)(h2:∀δ1,P δ1->bN v δ1 N B C R):bN (eK u v) δ N B C R:=by
 rw[BU];let⟨fl,δ1,e,q⟩:=h1.ex;refine .of e ?_;cases fl with
 |next=>exact h2 _ q
 |_=>exact q
def seq_assoc:eK a (eK b c)=eK (eK a b) c:=by
 funext δ;unfold eK;cases a δ with
 |stuck=>rfl
 |ok fl d=>cases fl<;>rfl
end L2
namespace Toy
open PySem L2
def Ϲ:ġ true (.str "fill") (.tuple [.str "fill",.str "none"])=some (.bool false):=by with_unfolding_all rfl
def aOU:DZ (.str "fill") (.str "fill")=some (.bool false):=by with_unfolding_all rfl
end Toy
namespace L2
open PySem PySem.Spec
section
end
def cO{i:Nat}{δ:DS}(h1:δ[i]?=some (some (.list as))):lY (bF i) δ=.ok as δ:=by
 simp![lY,eY h1,aW]
def aDK(h:aU (bA [f,g]) δ λds δ1=>ds=[.list as,.list bs]/\δ1=δ):AR f g δ=.ok (pH as bs) δ:=by
 let⟨ds,δ1,e,rfl,rfl⟩:=h.ex;unfold AR;rw[e,aW]
def jX{i:Nat}{δ:DS}(h1:δ[i]?=some (some (.list as))):xH (bF i) δ=.ok (fB as) δ:=by
 simp![xH,bA,eY h1,aW]
def aDL(h:as.length=bs.length):(pH as bs).length=as.length:=by simp[pH,h]
def gY:(fB as).length=as.length:=by simp[fB]
def fO:lY (KQ [dC a,dC b]) δ=.ok [a,b] δ:=by
 simp![lY,KQ,bA,vR,aW];rw[Â (show [a,b].length<=sizeLine from Ü (show 2<=1000 by decide) ⋯)];rfl
def vG{α:Type}{enc g:α->D}{h:α->Bool}{t:M Bool}{e:M D}{δ:DS}:∀{xs:List α}{acc:ZI}{o:ZL},(∀x∈xs,t (some (enc x)::δ)=.ok (h x) (some (enc x)::δ))->(∀x∈xs,e (some (enc x)::δ)=.ok (g x) (some (enc x)::δ))->acc.length+xs.length<=sizeLine->∃o',bP (setN 0) t e (xs.map enc) acc (o::δ)=.ok (acc++(xs.filter h).map g) (o'::δ)
 |[],acc,o,_,_,_=>⟨o,by simp[bP]⟩
 |x::xs,acc,o,ht,he,hl=>by
  have hd:=ht x Ô;have hv:=he x Ô;rw[Û]at hl;have e1:setN 0 (enc x) (o::δ)=some (some (enc x)::δ):=by simp[setN]
  cases hk:h x with
  |true=>
   let⟨o',ih⟩:=vG (xs:=xs) (acc:=acc++[g x]) (o:=some (enc x)) (λy hy=>ht y (Ó _ hy)) (λy hy=>he y (Ó _ hy)) (by simp;lia);refine⟨o',?_⟩;rw[Ì];unfold bP;rw[e1];simp![hd,hk,Res.bind,if_true,hv];rw[Â ∅,ih];simp[hk]
  |false=>
   let⟨o',ih⟩:=vG (xs:=xs) (acc:=acc) (o:=some (enc x)) (λy hy=>ht y (Ó _ hy)) (λy hy=>he y (Ó _ hy)) ∅;refine⟨o',?_⟩;rw[Ì];unfold bP;rw[e1];simp![hd,hk,Res.bind,Bool.false_eq_true,if_false];rw[Â ∅,ih];simp[hk]
def oZ{α:Type}{enc g:α->D}{h:α->Bool}{f:M (ZI)}{t:M Bool}{e:M D}{δ:DS}{xs:List α}(hf:f δ=.ok (xs.map enc) δ)(hl:xs.length<=1000)(ht:∀x∈xs,aU t (some (enc x)::δ) λb δ1=>b=h x/\δ1=some (enc x)::δ)(he:∀x∈xs,aU e (some (enc x)::δ) λa δ1=>a=g x/\δ1=some (enc x)::δ):eD 1 (setN 0) f t e δ=.ok (.list ((xs.filter h).map g)) δ:=by
 unfold eD;rw[hf];let⟨o',q⟩:=vG (h:=h) (t:=t) (acc:=[]) (o:=none) (λx hx=>by
  let⟨b,δ1,e,rfl,rfl⟩:=(ht x hx).ex;exact e) (λx hx=>cZ (he x hx)) (by rw[List.length_nil,Nat.zero_add];exact Ü hl (show 1000<=sizeLine by decide))
 simp![Res.bind];rw[show List.replicate 1 (none:ZL)++δ=none::δ from rfl,q];simp
def aFN{n:Nat}{k:Int}(h0:0<=k)(h1:k<n):oE n k=some k.toNat:=by
 unfold oE;rw[Â ∅,Â ∅]
def aDM(h:c<1000):PyData.strOk ⟨#[c]⟩=true:=by
 show (#[c]:Array Nat).all (·<0x110000)=true;simp;lia
def CL(h:x.length+y.length<=1000):KW (.str x) (.str y)=some (.str (x++y)):=by
 have hz:sizeLine=2^24:=rfl;have:DU (.str x) (.str y)=some (.str (x++y)):=Â ∅;unfold KW;rw[this];rfl
def gZ{x y:Str}:(x++y).length=x.length+y.length:=by
 show (x.cps++y.cps).size=_;rw[Array.size_append];rfl
def z7(hx:PyData.strOk x=true)(hy:PyData.strOk y=true):PyData.strOk (x++y)=true:=by
 show (x.cps++y.cps).all (·<0x110000)=true;rw[Array.all_append,show x.cps.all (·<0x110000)=true from hx,show y.cps.all (·<0x110000)=true from hy];rfl
def g8(s:String):PyData.strOk (Str.ofString s)=true:=by
 rw[Str.ofString_eq_toList];show ((s.toList.map Char.toNat).toArray).all (·<0x110000)=true;rw[List.all_toArray,ï];intro x hx;let⟨c,_,rfl⟩:=Õ.mp hx;have:=c.valid;rw[decide_eq_true_eq];rcases this with h|h
 .exact Nat.lt_trans h ⋯
 .exact h.2
structure bJ(z:Str):Prop where
 len:z.length<=8
 ok:PyData.strOk z=true
def bJ.sh(h:bJ z):Sh 1 (.str z):=by
 have hz:sizeLine=2^24:=rfl;have:=h.len;exact⟨by simp[PyData.canLay0,h.ok],by simp[PyData.depth]⟩
def qE(hx:bJ x)(hy:bJ y):SX (.str x) (.str y)=some (.bool (x == y)):=by
 unfold SX;rw[Â ⟨hx.sh.shaped ⋯,hy.sh.shaped ⋯⟩];rfl
def aFO(hx:bJ x)(hy:bJ y):DZ (.str x) (.str y)=some (.bool (!(x == y))):=by
 unfold DZ;rw[Â ⟨hx.sh.shaped ⋯,hy.sh.shaped ⋯⟩];rfl
end L2
namespace Toy
open PySem L2
structure St where
 nm:Str
 x:Int
 y:Int
 z:Int
 t:Int
 h:Int
 m:Int
structure Bx where
 nm:Str
 w:Int
 p:Str
 k:Str
 b:Int
structure Tk where
 nm:Str
 x:Int
 y:Int
 z:Int
 r:Int
def pA(s:St):D:=.tuple [.str s.nm,.int s.x,.int s.y,.int s.z,.int s.t,.int s.h,.int s.m]
def eJ(b:Bx):D:=.tuple [.str b.nm,.int b.w,.str b.p,.str b.k,.int b.b]
def z8(t:Tk):D:=.tuple [.str t.nm,.int t.x,.int t.y,.int t.z,.int t.r]
def aM(bs:List Bx):D:=.list (bs.map eJ)
def lG(x:Int):Prop:=-1000000000<=x/\x<=1000000000
structure FB(s:St):Prop where
 nm:bJ s.nm
 x:lG s.x
 y:lG s.y
 z:lG s.z
 t:lG s.t
structure FC(s:Tk):Prop where
 nm:bJ s.nm
 x:lG s.x
 y:lG s.y
 z:lG s.z
 r:0<=s.r/\s.r<=1000000000
structure aI9(b:Bx):Prop where
 nm:bJ b.nm
 p:bJ b.p
 k:bJ b.k
 w:1<=b.w/\b.w<=1000000000
structure sV(own:Int×Int×Int×Int)(ss:List St)(cs:List (List Bx))(ts:List Tk):Prop where
 o0:1<=own.1/\own.1<=1000000000
 o1:lG own.2.1/\lG own.2.2.1/\lG own.2.2.2
 ls:ss.length<=10
 lc:cs.length=ss.length
 lb:∀c∈cs,c.length<=30
 lt:ts.length<=4
 gs:∀s∈ss,FB s
 gb:∀c∈cs,∀b∈c,aI9 b
 gt:∀t∈ts,FC t
def z9(o:Int×Int×Int×Int):D:=.tuple [.int o.1,.int o.2.1,.int o.2.2.1,.int o.2.2.2]
abbrev Q4:=Int×Int×Int×Int
def T4:List Q4->Q4
 |[]=>(0,0,0,0)
 |p::l=>(p.1+(T4 l).1,p.1*p.2.1+(T4 l).2.1,p.1*p.2.2.1+(T4 l).2.2.1,p.1*p.2.2.2+(T4 l).2.2.2)
def YM:∀(l m:List Q4),T4 (l++m)=((T4 l).1+(T4 m).1,(T4 l).2.1+(T4 m).2.1,(T4 l).2.2.1+(T4 m).2.2.1,(T4 l).2.2.2+(T4 m).2.2.2)
 |[],m=>by simp[T4]
 |p::l,m=>by
  rw[List.cons_append,T4,YM l m,T4];simp![Int.add_assoc]
def aDN(l:List Q4)(p:Q4):T4 (l++[p])=((T4 l).1+p.1,(T4 l).2.1+p.1*p.2.1,(T4 l).2.2.1+p.1*p.2.2.1,(T4 l).2.2.2+p.1*p.2.2.2):=by
 rw[YM];simp[T4]
def A6:St:=⟨"",0,0,0,0,0,0⟩
def AJ:Bx:=⟨"",0,"","",0⟩
def aQA:Tk:=⟨"",0,0,0,0⟩
def J1(s:St)(bs:List Bx)(t:Nat):(List Q4):=(List.range t).map λ(j:Nat)=>((bs.getD j AJ).w,s.x,s.y,s.z+(j:Int)*s.t)
def tU(ss:List St)(cs:List (List Bx))(k:Nat):(List Q4):=((List.range k).map λj=>J1 (ss.getD j A6) (cs.getD j []) (cs.getD j []).length).flatten
def YN:J1 s bs (t+1)=J1 s bs t++[((bs.getD t AJ).w,s.x,s.y,s.z+(t:Int)*s.t)]:=by
 unfold J1;rw[List.range_succ,Ö];rfl
def JJ:tU ss cs (k+1)=tU ss cs k++J1 (ss.getD k A6) (cs.getD k []) (cs.getD k []).length:=by
 unfold tU;rw[List.range_succ,Ö,List.flatten_append];simp
def fJ{α:Type}{l:List α}{d:α}(h:k<l.length):l[k]?=some (l.getD k d):=by
 rw[Ë,Ê h];rfl
def cJ{α:Type}{l:List α}{d:α}(h:k<l.length):l.getD k d∈l:=Ĉ (fJ h)
def L6{α:Type}{enc:α->D}{l:List α}{d:α}(h:k<l.length):atI (l.map enc) (k:Int)=some (enc (l.getD k d)):=by
 refine dP ?_;rw[Ò,fJ (d:=d) h];rfl
def L7(q:Q4):D:=.tuple [.int q.1,.int q.2.1,.int q.2.2.1,.int q.2.2.2]
def Sm(x:Int):Prop:=-18446744073709551616<x/\x<18446744073709551616
def JK(hw:Sm w):wF [L7 q,.int w,.tuple [.int x,.int y,.int z]]=.ok (L7 (q.1+w,q.2.1+w*x,q.2.2.1+w*y,q.2.2.2+w*z)) []:=by
 let⟨h1,h2⟩:=hw;refine aQ (os:=[]) ?_;rfl';unfold E2;dsimp? [L7];exact⟨by ac_nf,by ac_nf,by ac_nf⟩
def YO{α β:Type}{f:α->D}{g:β->D}{as:List α}{bs:List β}{a0:α}{b0:β}{k:Nat}{d:D}(h:(pH (as.map f) (bs.map g))[k]?=some d):k<as.length/\k<bs.length/\d=.tuple [f (as.getD k a0),g (bs.getD k b0)]:=by
 have hi:=(Í.mp h).1;simp![pH,List.length_zipWith,Å]at hi;have h1:k<as.length:=by lia
 have h2:k<bs.length:=by lia
 refine⟨h1,h2,?_⟩;rw[pH,List.getElem?_zipWith,Ò,Ò,fJ (d:=a0) h1,fJ (d:=b0) h2]at h;simp![Option.map_some,Option.some.injEq]at h;rw[<- h]
def fR{α:Type}{f:α->D}{as:List α}{a0:α}{k:Nat}{d:D}(h:(fB (as.map f))[k]?=some d):k<as.length/\d=.tuple [.int (k:Int),f (as.getD k a0)]:=by
 have hi:=(Í.mp h).1;simp![fB,List.length_mapIdx,Å]at hi;refine⟨hi,?_⟩;rw[fB,List.getElem?_mapIdx,Ò,fJ (d:=a0) hi]at h;simp![Option.map_some,Option.some.injEq]at h;rw[<- h]
def aMF:ō (.tuple (a::l)) (some 1) none=some (.tuple l):=by
 show (if HT.sIx (l.length+1) 0 (some ((1:Nat):Int))=0/\HT.sIx (l.length+1) (l.length+1) none=l.length+1 then none else some (PyData.tuple (GV (a::l) (some ((1:Nat):Int)) none)))=_;rw[HT.sIx_nat,Ã ∅];have:=sJ (ds:=a::l) (k:=1) 'f';have:=PyData.list.inj (Option.some.inj this);rw[this];rfl
section
variable {own:Q4}{ss:List St}{cs:List (List Bx)}{ts:List Tk}{bd ap tk:D}
def L8(M:sV own ss cs ts):B7 [.tuple [z9 own,bd,.list (ss.map pA),tk,ap],.list (cs.map aM)]=.ok (L7 (T4 (own::tU ss cs ss.length))) []:=by
 have lc:=M.lc;have ls:=M.ls;have o0:=M.o0;refine aQ (os:=[]) ?_;rfl';unfold u4;have e0:=JK (q:=(0,0,0,0)) (w:=own.1) (x:=own.2.1) (y:=own.2.2.1) (z:=own.2.2.2) (by unfold Sm;lia);have z0:((0+own.1,0+own.1*own.2.1,0+own.1*own.2.2.1,0+own.1*own.2.2.2):Q4)=T4 [own]:=by simp[T4]
 rw[z0]at e0;have e0':wF [.tuple [.int 0,.int 0,.int 0,.int 0],.int own.1,.tuple [.int own.2.1,.int own.2.2.1,.int own.2.2.2]]=.ok (L7 (T4 [own])) []:=e0;dsimp? [z9,VT,uL,uM,BW,aMF,e0'];refine cM (ds:=pH (ss.map pA) (cs.map aM)) (δ1:=_) (λk δ=>∃o4 o5 o6 o7 o8,δ=[some (.tuple [.tuple [.int own.1,.int own.2.1,.int own.2.2.1,.int own.2.2.2],bd,.list (ss.map pA),tk,ap]),some 'd',some (.tuple [.int own.1,.int own.2.1,.int own.2.2.1,.int own.2.2.2]),some (L7 (T4 (own::tU ss cs k))),o4,o5,o6,o7,o8]) (aDK (by dsimp? [])) ⟨_,_,_,_,_,by simp[tU];exact⟨rfl,rfl,rfl,rfl,rfl⟩⟩ ?_ ?_
 .rintro k d δ hk ⟨o4,o5,o6,o7,o8,rfl⟩
  let⟨k1,k2,rfl⟩:=YO (a0:=A6) (b0:=[]) hk;have gb:=M.gb _ (cJ (d:=[]) k2);refine⟨_,rfl,?_⟩;refine cM (ds:=fB ((cs.getD k []).map eJ)) (λt δ=>∃o6 o7 o8,δ=[some (.tuple [.tuple [.int own.1,.int own.2.1,.int own.2.2.1,.int own.2.2.2],bd,.list (ss.map pA),tk,ap]),some 'd',some (.tuple [.int own.1,.int own.2.1,.int own.2.2.1,.int own.2.2.2]),some (L7 (T4 (own::tU ss cs k++J1 (ss.getD k A6) (cs.getD k []) t))),some (pA (ss.getD k A6)),some (aM (cs.getD k [])),o6,o7,o8]) (jX rfl) ⟨_,_,_,by simp[J1];exact⟨rfl,rfl,rfl⟩⟩ ?_ ?_
  .rintro t d δ ht ⟨o6,o7,o8,rfl⟩
   let⟨t1,rfl⟩:=fR (a0:=AJ) ht;have gw:=gb _ (cJ (d:=AJ) t1);generalize hs:ss.getD k A6=s at *;generalize hb:(cs.getD k []).getD t AJ=b at *;have e1:=JK (q:=T4 (own::tU ss cs k++J1 s (cs.getD k []) t)) (w:=b.w) (x:=s.x) (y:=s.y) (z:=s.z+(t:Int)*s.t) (by unfold Sm;have:=gw.w;lia);have lb:=M.lb _ (cJ (d:=[]) k2);refine⟨_,rfl,?_⟩;dsimp? [pA,eJ,e1];have eT:T4 (own::tU ss cs k++J1 s (cs.getD k []) (t+1))=((T4 (own::tU ss cs k++J1 s (cs.getD k []) t)).1+b.w,(T4 (own::tU ss cs k++J1 s (cs.getD k []) t)).2.1+b.w*s.x,(T4 (own::tU ss cs k++J1 s (cs.getD k []) t)).2.2.1+b.w*s.y,(T4 (own::tU ss cs k++J1 s (cs.getD k []) t)).2.2.2+b.w*(s.z+(t:Int)*s.t)):=by
    rw[YN,<- List.append_assoc,aDN,hb]
   rw[eT];exact⟨by ac_nf,_,_,_,rfl⟩
  .rintro δ ⟨o6,o7,o8,rfl⟩
   rw[gY,Å,JJ];exact⟨_,_,_,_,_,rfl⟩
 .rintro δ ⟨o4,o5,o6,o7,o8,rfl⟩
  rw[aDL (by simp[lc]),Å];dsimp? []
end
section
variable {own:Q4}{ss:List St}{cs:List (List Bx)}{ts:List Tk}
def O0:(ts.map λt=>PyData.int (f t))=(ts.map f).map PyData.int:=by simp
def FD{g:Tk->Int}(hl:ts.length<=10)(hg:∀t:Tk,atI [PyData.str t.nm,.int t.x,.int t.y,.int t.z,.int t.r] axis=some (.int (g t)))(hq:atI [PyData.int q.1,.int q.2.1,.int q.2.2.1,.int q.2.2.2] axis=some (.int qa))(hh:lG high):
  gT [.list (ts.map z8),.int axis,.int high,L7 q]=.ok (SE (ts.map λt=>g t-high,high*q.1-qa)) []:=by
 unfold lG at hh;refine aQ (os:=[]) ?_;rfl';unfold kF;dsimp? [];refine aU.of (cS (enc:=z8) (xs:=ts) (g:=λt=>.int (g t-high)) (cO rfl) ∅ λt _=>?_) ?_
 .dsimp? [z8,hg]
 .rw[O0]
  dsimp? [L7,hq,SE];exact(by ac_nf)
def YQ{g:Tk->Int}(hl:ts.length<=10)(hg:∀t:Tk,atI [PyData.str t.nm,.int t.x,.int t.y,.int t.z,.int t.r] axis=some (.int (g t)))(hq:atI [PyData.int q.1,.int q.2.1,.int q.2.2.1,.int q.2.2.2] axis=some (.int qa))(hh:lG low):
  mJ [.list (ts.map z8),.int axis,.int low,L7 q]=.ok (SE (ts.map λt=>low-g t,qa-low*q.1)) []:=by
 unfold lG at hh;refine aQ (os:=[]) ?_;rfl';unfold mH;dsimp? [];refine aU.of (cS (enc:=z8) (xs:=ts) (g:=λt=>.int (low-g t)) (cO rfl) ∅ λt _=>?_) ?_
 .dsimp? [z8,hg]
 .rw[O0]
  dsimp? [L7,hq,SE];exact(by ac_nf)
structure O1 where
 b0:Int
 b1:Int
 b2:Int
 b3:Int
 b4:Int
 b5:Int
structure tW(b:O1):Prop where
 b0:lG b.b0
 b1:lG b.b1
 b2:lG b.b2
 b3:lG b.b3
 b4:lG b.b4
 b5:lG b.b5
def YR(b:O1):D:=.tuple [.int b.b0,.int b.b1,.int b.b2,.int b.b3,.int b.b4,.int b.b5]
def JL(ts:List Tk)(b:O1)(q:Q4):ZE:=
 [(ts.map λt=>t.x-b.b1,b.b1*q.1-q.2.1),(ts.map λt=>b.b0-t.x,q.2.1-b.b0*q.1),(ts.map λt=>t.y-b.b3,b.b3*q.1-q.2.2.1),(ts.map λt=>b.b2-t.y,q.2.2.1-b.b2*q.1),(ts.map λt=>t.z-b.b4,b.b4*q.1-q.2.2.2),(ts.map λ_=>1,b.b5-q.1)]
def aDO(M:sV own ss cs ts)(g:tW b):u6 [.tuple [z9 own,YR b,.list (ss.map pA),.list (ts.map z8),ap],.list (cs.map aM)]=.ok (.list ((JL ts b (T4 (own::tU ss cs ss.length))).map SE)) []:=by
 have lt:ts.length<=10:=Ü M.lt ⋯;have e0:=L8 (bd:=YR b) (tk:=.list (ts.map z8)) (ap:=ap) M;generalize T4 (own::tU ss cs ss.length)=q at *;have h1:=FD (ts:=ts) (axis:=1) (g:=λt=>t.x) (q:=q) (qa:=q.2.1) lt (λ_=>sI) sI g.b1;have h2:=YQ (ts:=ts) (axis:=1) (g:=λt=>t.x) (q:=q) (qa:=q.2.1) lt (λ_=>sI) sI g.b0;have h3:=FD (ts:=ts) (axis:=2) (g:=λt=>t.y) (q:=q) (qa:=q.2.2.1) lt (λ_=>pY) pY g.b3;have h4:=YQ (ts:=ts) (axis:=2) (g:=λt=>t.y) (q:=q) (qa:=q.2.2.1) lt (λ_=>pY) pY g.b2;have h5:=FD (ts:=ts) (axis:=3) (g:=λt=>t.z) (q:=q) (qa:=q.2.2.2) lt (λ_=>BV) BV g.b4;refine aQ (os:=[]) ?_;rfl';unfold u5;dsimp? [e0];simp![YR];dsimp? [h1,h2,h3,h4,h5];refine aU.of (cS (enc:=z8) (xs:=ts) (g:=λ_=>.int 1) (cO rfl) ∅ λt _=>by dsimp? []) ?_;rw[O0 (f:=λ_=>1)];dsimp? [L7];rfl
def L9(lt:ts.length<=10):qX [.tuple [A,B,C,.list (ts.map z8),E]]=.ok (iL (ts.map λt=>t.r)) []:=by
 refine aQ (os:=[]) ?_;rfl';unfold qW;dsimp? [];refine aU.of (cS (enc:=z8) (xs:=ts) (g:=λt=>.int t.r) (bT (by dsimp? [])) ∅ λt _=>by dsimp? [z8]) ?_;rw[O0];exact⟨rfl,rfl⟩
end
section
variable {own:Q4}{ss:List St}{cs:List (List Bx)}{ts:List Tk}
def aFP(h1:-1000000000<=x)(h2:x<=1000000000):fK 30 x:=by show x.natAbs<2^30;lia
def lG.fit(h:lG x):fK 30 x:=aFP h.1 h.2
def O2:∀l:List Q4,T4 l=((l.map λq=>q.1).sum,(l.map λq=>q.1*q.2.1).sum,(l.map λq=>q.1*q.2.2.1).sum,(l.map λq=>q.1*q.2.2.2).sum)
 |[]=>rfl
 |p::l=>by rw[T4,O2 l];simp
def O3(M:sV own ss cs ts):∀k,k<=ss.length->(tU ss cs k).length<=30*k
 |0,_=>by simp[tU]
 |k+1,hk=>by
  have ih:=O3 M k ∅;have lc:=M.lc;have lb:=M.lb _ (cJ (d:=[]) (show k<cs.length by lia));rw[JJ,Ð];have:(J1 (ss.getD k A6) (cs.getD k []) (cs.getD k []).length).length=(cs.getD k []).length:=by simp[J1]
  lia
structure aQB(p:Q4):Prop where
 w:1<=p.1/\p.1<=1000000000
 x:fK 40 p.2.1
 y:fK 40 p.2.2.1
 z:fK 40 p.2.2.2
def aJA(M:sV own ss cs ts):∀p∈own::tU ss cs ss.length,aQB p:=λp hp=>by
 rcases Ø.mp hp with rfl|hp
 .have:=M.o1
  exact⟨M.o0,this.1.fit.mono ⋯,this.2.1.fit.mono ⋯,this.2.2.fit.mono ⋯⟩
 .unfold tU at hp
  let⟨l,hl,hq⟩:=List.mem_flatten.mp hp;let⟨j,hj,rfl⟩:=Õ.mp hl;have hj:=List.mem_range.mp hj;unfold J1 at hq;let⟨t,ht,rfl⟩:=Õ.mp hq;have ht:=List.mem_range.mp ht;have lc:=M.lc;have hc:j<cs.length:=by lia
  have gb:=M.gb _ (cJ (d:=[]) hc) _ (cJ (d:=AJ) ht);have lb:=M.lb _ (cJ (d:=[]) hc);have gs:=M.gs _ (cJ (d:=A6) hj);refine⟨gb.w,gs.x.fit.mono ⋯,gs.y.fit.mono ⋯,?_⟩;have h1:=gs.z;have h2:=gs.t;unfold lG at h1 h2;have ht':(t:Int)<=30:=by lia
  have e1:(t:Int)*(ss.getD j A6).t<=30*1000000000:=by
   have a1:=Int.mul_le_mul_of_nonneg_left h2.2 (show (0:Int)<=(t:Int) by lia);lia
  have e2:-(30*1000000000)<=(t:Int)*(ss.getD j A6).t:=by
   have a1:=Int.mul_le_mul_of_nonneg_left h2.1 (show (0:Int)<=(t:Int) by lia);lia
  show ((ss.getD j A6).z+(t:Int)*(ss.getD j A6).t).natAbs<2^40;lia
open Classical in
end
def YS :∀xs:ZK,(∀x∈xs,fK m x)->xs.sum.natAbs<=xs.length*2^m
 |[],_=>í _
 |x::xs,h=>by
  have h1:x.natAbs<2^m:=h x Ô;have h2:=YS xs λq hq=>h q (Ó _ hq);rw[List.sum_cons,Û,Nat.succ_mul];have:=Int.natAbs_add_le x xs.sum;lia
def aDP{xs:ZK}(hl:xs.length<512)(hn:m+9=n)(h:∀x∈xs,fK m x):fK n xs.sum:=by
 subst hn;have:=YS xs h;have h2:=Nat.two_pow_pos m;show _<2^(m+9);rw[Nat.pow_add,Nat.mul_comm];exact ē this ((Nat.mul_lt_mul_right h2).mpr hl)
section
variable {own:Q4}{ss:List St}{cs:List (List Bx)}{ts:List Tk}
def aJB(M:sV own ss cs ts):fK 80 (T4 (own::tU ss cs ss.length)).1/\fK 80 (T4 (own::tU ss cs ss.length)).2.1/\fK 80 (T4 (own::tU ss cs ss.length)).2.2.1/\fK 80 (T4 (own::tU ss cs ss.length)).2.2.2:=by
 have ls:=M.ls;have len:=O3 M ss.length (È _);have al:=aJA M;rw[O2];have l1:(own::tU ss cs ss.length).length<512:=by rw[Û];lia
 generalize own::tU ss cs ss.length=L at *;have w:∀p∈L,fK 30 p.1:=λp hp=>aFP (by have:=(al p hp).w;lia) (al p hp).w.2;have main:∀f:Q4->Int,(∀p∈L,fK 71 (f p))->fK 80 (L.map f).sum:=λf hf=>aDP (m:=71) (by rw[Å];exact l1) rfl λx hx=>by
  let⟨p,hp,rfl⟩:=Õ.mp hx;exact hf p hp
 exact⟨main _ λp hp=>(w p hp).mono ⋯,main _ λp hp=>(w p hp).mul (al p hp).x ⋯,main _ λp hp=>(w p hp).mul (al p hp).y ⋯,main _ λp hp=>(w p hp).mul (al p hp).z ⋯⟩
structure W9(Ç:ZE)(Ä:ZK):Prop where
 n:Ä.length<=4
 m:Ç.length<=8
 rw:∀r∈Ç,r.1.length=Ä.length/\aFM 40 r.1/\fK 120 r.2
 ro:∀r∈Ä,0<=r/\r<=1000000000
def aDQ(M:sV own ss cs ts)(g:tW b):W9 (JL ts b (T4 (own::tU ss cs ss.length))) (ts.map λt=>t.r):=by
 let⟨f0,f1,f2,f3⟩:=aJB M;have mp:∀(h:Tk->Int),(∀t∈ts,fK 31 (h t))->aFM 40 (ts.map h):=λh hh x hx=>by
  let⟨t,ht,rfl⟩:=Õ.mp hx;exact(hh t ht).mono ⋯
 generalize T4 (own::tU ss cs ss.length)=q at *;refine⟨by rw[Å];exact M.lt,Nat.le_of_ble_eq_true rfl,λr hr=>?_,λr hr=>?_⟩
 .unfold JL at hr
  simp![Ø,ì,or_false]at hr;rcases hr with rfl|rfl|rfl|rfl|rfl|rfl
  .exact⟨by simp,mp _ λt ht=>(M.gt t ht).x.fit.sub g.b1.fit ⋯,(g.b1.fit.mul f0 (k:=110) ⋯).sub f1 ⋯⟩
  .exact⟨by simp,mp _ λt ht=>g.b0.fit.sub (M.gt t ht).x.fit ⋯,f1.sub (g.b0.fit.mul f0 (k:=110) ⋯) ⋯⟩
  .exact⟨by simp,mp _ λt ht=>(M.gt t ht).y.fit.sub g.b3.fit ⋯,(g.b3.fit.mul f0 (k:=110) ⋯).sub f2 ⋯⟩
  .exact⟨by simp,mp _ λt ht=>g.b2.fit.sub (M.gt t ht).y.fit ⋯,f2.sub (g.b2.fit.mul f0 (k:=110) ⋯) ⋯⟩
  .exact⟨by simp,mp _ λt ht=>(M.gt t ht).z.fit.sub g.b4.fit ⋯,(g.b4.fit.mul f0 (k:=110) ⋯).sub f3 ⋯⟩
  .exact⟨by simp,mp _ λt ht=>aOT ⋯,g.b5.fit.sub f0 ⋯⟩
 .obtain⟨t,ht,rfl⟩:=Õ.mp hr
  exact(M.gt t ht).r
end
section
def W9.bnd(W:W9 Ç Ä):đ Ç Ä (2^40) (2^120)/\Sx.fac Ä.length*(2^40)^Ä.length<2^300/\(Ä.length+1)*(Sx.fac Ä.length*(2^40)^Ä.length*2^120)<2^300:=by
 have n4:=W.n;have r8:=W.m;have hh:Sx.fac Ä.length*(2^40)^Ä.length<2^300/\(Ä.length+1)*(Sx.fac Ä.length*(2^40)^Ä.length*2^120)<2^300:=by
  have:Ä.length=0\/Ä.length=1\/Ä.length=2\/Ä.length=3\/Ä.length=4:=by lia
  rcases this with h|h|h|h|h<;>rw[h]<;>decide
 have up:(2:Nat)^300<2^4000:=by decide
 refine⟨⟨λr hr=>(W.rw r hr).1,∅,∅,⋯,λr hr x hx=>É ((W.rw r hr).2.1 x hx),λr hr=>É (W.rw r hr).2.2,λx hx=>?_,Nat.lt_trans hh.1 up,Nat.lt_trans hh.2 up⟩,hh⟩;have:=W.ro x hx;have h70:(1000000000:Nat)<=2^120:=by decide
 lia
end
section
def cell(ns:ZK)(k:Int):Int:=ns.getD k.toNat 0
def FE(h0:0<=k):jV [iL ns,.int k]=.ok (.int (cell ns k)) []:=by
 refine aQ (os:=[]) ?_;rfl';unfold n5;by_cases h:k<(ns.length:Int)
 .have e:k=(k.toNat:Int):=by lia
  have e2:=aDJ (ns:=ns) (k:=k.toNat) ∅;rw[<- e]at e2;dsimp? [Å,h,decide_true,e2,cell]
 .have e:cell ns k=0:=by unfold cell;rw[Ë,ç ∅];rfl
  dsimp? [Å,h,decide_false,Bool.false_eq_true,e]
def dr(ns:ZK)(k m:Int):Int:=(cell ns k % 1000003+k*k)*48271 % 999983 % m
def ot(ns:ZK)(k m:Int):Int:=(cell ns k % 1000033+7*k+1)*69621 % 1000003 % m
def th(ns:ZK)(k m:Int):Int:=(cell ns k % 1000037+11*k+5)*16807 % 999979 % m
def g9(h:0<m):0<=dr ns k m/\dr ns k m<m:=⟨Int.emod_nonneg _ ∅,Int.emod_lt_of_pos _ h⟩
def jY(h:0<m):0<=ot ns k m/\ot ns k m<m:=⟨Int.emod_nonneg _ ∅,Int.emod_lt_of_pos _ h⟩
def lH(h:0<m):0<=th ns k m/\th ns k m<m:=⟨Int.emod_nonneg _ ∅,Int.emod_lt_of_pos _ h⟩
def mQ(h0:0<=k)(h1:k<=1000)(h:0<m):c7 [iL ns,.int k,.int m]=.ok (.int (dr ns k m)) []:=by
 refine aQ (os:=[]) ?_;rfl';unfold zI;dsimp? [FE h0,NL,Int.reduceLT,h,dr];exact⟨by ac_nf,by ac_nf⟩
def mR(h0:0<=k)(h1:k<=1000)(h:0<m):cG [iL ns,.int k,.int m]=.ok (.int (ot ns k m)) []:=by
 refine aQ (os:=[]) ?_;rfl';unfold u8;dsimp? [FE h0,NL,Int.reduceLT,h,ot];exact⟨by ac_nf,by ac_nf⟩
def n6(h0:0<=k)(h1:k<=1000)(h:0<m):b8 [iL ns,.int k,.int m]=.ok (.int (th ns k m)) []:=by
 refine aQ (os:=[]) ?_;rfl';unfold u9;dsimp? [FE h0,NL,Int.reduceLT,h,th];exact⟨by ac_nf,by ac_nf⟩
def jK(i:Int):Str:=⟨#[97+i.toNat]⟩
def YT:∀n<26,(match fM (.str "abcdefghijklmnopqrstuvwxyz") (.int (n:Nat))with|some (.str z)=>z.cps == #[97+n]|_=>false)=true:=by decide +kernel
def wK(h0:0<=i)(h1:i<26):fM (.str "abcdefghijklmnopqrstuvwxyz") (.int i)=some (.str (jK i))/\(jK i).length=1/\PyData.strOk (jK i)=true:=by
 refine⟨?_,rfl,aDM ∅⟩;have h:=YT i.toNat ∅;rw[Int.toNat_of_nonneg h0]at h;split at h
 .rename_i z e
  rw[e];unfold jK;congr 2;cases z;exact congrArg Str.mk (beq_iff_eq.mp h)
 .cases h
def nm(ns:ZK)(k n:Int):Str:=
 iM (jK (dr ns k 26)) (ot ns k (1+th ns k 8))++jK ((7*n+ot ns (k+1) 26) % 26)++iM (jK (dr ns k 26)) (1+th ns k 8-1-ot ns k (1+th ns k 8))
def JM:(jK (dr ns k 26)).length=1/\PyData.strOk (jK (dr ns k 26))=true/\(jK ((7*n+ot ns (k+1) 26) % 26)).length=1/\PyData.strOk (jK ((7*n+ot ns (k+1) 26) % 26))=true:=by
 have h1:=g9 (ns:=ns) (k:=k) (m:=26) ⋯;have a:=wK h1.1 h1.2;have b:=wK (i:=(7*n+ot ns (k+1) 26) % 26) ∅ ∅;exact⟨a.2.1,a.2.2,b.2.1,b.2.2⟩
def jZ:bJ (nm ns k n):=by
 let⟨a1,a2,b1,b2⟩:=JM (ns:=ns) (k:=k) (n:=n);have h1:=lH (ns:=ns) (k:=k) (m:=8) ⋯;have h2:=jY (ns:=ns) (k:=k) (m:=1+th ns k 8) ∅;unfold nm;refine⟨?_,z7 (z7 (NU a2) b2) (NU a2)⟩;rw[gZ,gZ,i7,i7,a1,b1];lia
def j0(h0:0<=k)(h1:k<=900)(n0:0<=n)(n1:n<=1000):f9 [iL ns,.int k,.int n]=.ok (.str (nm ns k n)) []:=by
 refine aQ (os:=[]) ?_;rfl';unfold zJ;have t1:=lH (ns:=ns) (k:=k) (m:=8) ⋯;have t2:=jY (ns:=ns) (k:=k) (m:=1+th ns k 8) ∅;have t3:=g9 (ns:=ns) (k:=k) (m:=26) ⋯;have p1:=wK t3.1 t3.2;have p2:=wK (i:=(7*n+ot ns (k+1) 26) % 26) ∅ ∅;have e1:=n6 (ns:=ns) (k:=k) (m:=8) h0 ∅ ⋯;have e2:=mR (ns:=ns) (k:=k) (m:=1+th ns k 8) h0 ∅ ∅;have e3:=mQ (ns:=ns) (k:=k) (m:=26) h0 ∅ ⋯;have e4:=mR (ns:=ns) (k:=k+1) (m:=26) ∅ ∅ ⋯;have en:nm ns k n=iM (jK (dr ns k 26)) (ot ns k (1+th ns k 8))++jK ((7*n+ot ns (k+1) 26) % 26)++iM (jK (dr ns k 26)) (1+th ns k 8-1-ot ns k (1+th ns k 8)):=rfl;rw[en];clear en;generalize jK (dr ns k 26)=x at *;generalize jK ((7*n+ot ns (k+1) 26) % 26)=y at *;have l1:=i7 (x:=x) (n:=ot ns k (1+th ns k 8));have l2:=i7 (x:=x) (n:=1+th ns k 8-1-ot ns k (1+th ns k 8));have r1:=Ϯ (i:=x) (n:=ot ns k (1+th ns k 8)) ∅ ∅ ∅;have r2:=Ϯ (i:=x) (n:=1+th ns k 8-1-ot ns k (1+th ns k 8)) ∅ ∅ ∅;rw[p1.2.1,Nat.mul_one]at l1 l2;have s1:=CL (x:=iM x (ot ns k (1+th ns k 8))) (y:=y) ∅;have l3:(iM x (ot ns k (1+th ns k 8))++y).length=_:=gZ;have s2:=CL (x:=iM x (ot ns k (1+th ns k 8))++y) (y:=iM x (1+th ns k 8-1-ot ns k (1+th ns k 8))) ∅;dsimp? [e1,e2,e3,e4,p1.1,p2.1,NL,Int.reduceLT,r1,r2,s1,s2];exact(by ac_nf)
def vZ(ns:ZK):Int:=if dr ns 0 4=2 then 997 else if dr ns 0 4=3 then 1000000 else 1
def rK:1<=vZ ns/\vZ ns<=1000000:=by
 unfold vZ;split
 .decide
 .split<;>decide
def aQC:UO (.int 10) (.int 6)=some (.int 1000000):=by
 rw[M4 (ν ∅ ∅ ⋯)];rfl
def n8:lE [iL ns]=.ok (.int (vZ ns)) []:=by
 refine aQ (os:=[]) ?_;rfl';unfold vA;have t:=g9 (ns:=ns) (k:=0) (m:=4) ⋯;have e:atI [PyData.int 1,.int 1,.int 997,.int 1000000] (dr ns 0 4)=some (.int (vZ ns)):=by
  unfold vZ;have:dr ns 0 4=0\/dr ns 0 4=1\/dr ns 0 4=2\/dr ns 0 4=3:=by lia
  rcases this with z|z|z|z<;>rw[z]<;>rfl
 dsimp? [aQC,mQ,Int.reduceLE,Int.reduceLT,e]
structure tX(b:Bx):Prop where
 nm:bJ b.nm
 p:bJ b.p
 k:bJ b.k
def kd(ns:ZK)(n:Int):Int:=if th ns (20+n) 6=4 then 1 else if th ns (20+n) 6=5 then 2 else 0
def Ļ(ns:ZK)(n:Int):Int:=if vZ ns*ot ns (21+n) 90>9*vZ ns then vZ ns*ot ns (21+n) 90+40*vZ ns else vZ ns*ot ns (21+n) 90
def bx(ns:ZK)(n:Int):Bx:=⟨nm ns 16 n,vZ ns*(1+dr ns (20+n) 20),nm ns 17 (ot ns (20+n) 4),nm ns 18 (kd ns n),Ļ ns n⟩
def aDR:tX (bx ns n):=⟨jZ,jZ,jZ⟩
def YU(n0:0<=n)(n1:n<=100):E5 [iL ns,.int n]=.ok (eJ (bx ns n)) []:=by
 refine aQ (os:=[]) ?_;rfl';unfold E4;have s:=rK (ns:=ns);have t1:=jY (ns:=ns) (k:=20+n) (m:=4) ⋯;have t2:=lH (ns:=ns) (k:=20+n) (m:=6) ⋯;have t3:=jY (ns:=ns) (k:=21+n) (m:=90) ⋯;have t4:=g9 (ns:=ns) (k:=20+n) (m:=20) ⋯;have e1:=mR (ns:=ns) (k:=20+n) (m:=4) ∅ ∅ ⋯;have e2:=n6 (ns:=ns) (k:=20+n) (m:=6) ∅ ∅ ⋯;have e3:=mR (ns:=ns) (k:=21+n) (m:=90) ∅ ∅ ⋯;have e4:=mQ (ns:=ns) (k:=20+n) (m:=20) ∅ ∅ ⋯;have ek:atI [PyData.int 0,.int 0,.int 0,.int 0,.int 1,.int 2] (th ns (20+n) 6)=some (.int (kd ns n)):=by
  unfold kd;have:th ns (20+n) 6=0\/th ns (20+n) 6=1\/th ns (20+n) 6=2\/th ns (20+n) 6=3\/th ns (20+n) 6=4\/th ns (20+n) 6=5:=by lia
  rcases this with z|z|z|z|z|z<;>rw[z]<;>rfl
 have k0:0<=kd ns n/\kd ns n<=2:=by unfold kd;split<;>(try split)<;>lia
 have n1:=j0 (ns:=ns) (k:=17) (n:=ot ns (20+n) 4) ⋯ ⋯ ∅ ∅;have n2:=j0 (ns:=ns) (k:=18) (n:=kd ns n) ⋯ ⋯ ∅ ∅;have n3:=j0 (ns:=ns) (k:=16) (n:=n) ⋯ ⋯ ∅ ∅;by_cases c:vZ ns*ot ns (21+n) 90>9*vZ ns
 .have eb:Ļ ns n=vZ ns*ot ns (21+n) 90+40*vZ ns:=Â c
  have c':9*vZ ns<vZ ns*ot ns (21+n) 90:=c;dsimp? [n8,e1,e2,e3,e4,ek,n1,n2,n3,c',decide_true,eJ,bx,eb];exact⟨by ac_nf,by ac_nf,by ac_nf,by ac_nf⟩
 .have eb:Ļ ns n=vZ ns*ot ns (21+n) 90:=Ã c
  have c':¬9*vZ ns<vZ ns*ot ns (21+n) 90:=c;dsimp? [n8,e1,e2,e3,e4,ek,n1,n2,n3,c',decide_false,Bool.false_eq_true,eJ,bx,eb];exact⟨by ac_nf,by ac_nf,by ac_nf⟩
end
end Toy
namespace L2
open PySem PySem.Spec
def aJC{i:Nat}{δ:DS}(h:δ[i]?=some (some (.list as))):Ř (bF i) δ=.ok as.reverse δ:=by
 simp![Ř,bA,eY h,aW]
end L2
namespace Toy
open PySem L2
def v2(cs:List (List Bx))(m:Nat):Prop:=∀c∈cs,c.length<=m/\∀b∈c,tX b
section
variable {p:Str}{cs:List (List Bx)}
def lK(bs:List Bx)(p:Str):(List Bx):=bs.drop (bs.findIdx λb=>b.p == p)
def FF:(lK bs p).length<=bs.length:=by unfold lK;rw[ċ];lia
def FG(h:b∈lK bs p):b∈bs:=List.mem_of_mem_drop h
def SF(gb:∀b∈bs,tX b)(gp:bJ p):nZ [aM bs,.str p]=.ok (aM (lK bs p)) []:=by
 refine aQ (os:=[]) ?_;rfl';unfold jD;dsimp? [];refine cM (ds:=fB (bs.map eJ)) (δ1:=_) (λk δ=>∃o2 o3,δ=[some (aM bs),some (.str p),o2,o3]/\∀i(hi:i<bs.length),i<k->(bs[i].p == p)=false) (jX rfl) ⟨none,none,rfl,λi hi h=>by lia⟩ ?_ ?_
 .rintro k d δ hk ⟨o2,o3,rfl,ih⟩
  let⟨k1,rfl⟩:=fR (a0:=AJ) hk;have eg:bs.getD k AJ=bs[k]:=by rw[Ë,Ê k1];rfl
  rw[eg];have gk:=gb _ (ý k1);refine⟨_,rfl,?_⟩;cases c:(bs[k].p == p)with
  |true=>
   have e1:bs.findIdx (λb=>b.p == p)=k:=by
    rw[List.findIdx_eq k1];exact⟨c,λj hj=>ih j ∅ hj⟩
   have e2:D3 (.list (bs.map eJ)) (some (k:Int)) none=some (.list ((bs.map eJ).drop k)):=sJ (by rw[Å];lia);dsimp? [eJ,qE gk.p gp,c];have e3:lK bs p=bs.drop k:=by unfold lK;rw[e1]
   dsimp? [VT,uL,uM,BW,aM,e2,e3,List.map_drop]
  |false=>
   dsimp? [eJ,qE gk.p gp,c];refine⟨_,_,rfl,λi hi h=>?_⟩;by_cases z:i=k
   .subst z;exact c
   .exact ih i hi ∅
 .rintro δ ⟨o2,o3,rfl,ih⟩
  rw[gY,Å]at ih;have e1:lK bs p=[]:=by
   unfold lK;have:bs.findIdx (λb=>b.p == p)=bs.length:=by
    rw[List.findIdx_eq_length];intro x hx;let⟨i,hi,rfl⟩:=List.mem_iff_getElem.mp hx;exact ih i hi hi
   rw[this,List.drop_length]
  dsimp? [e1,aM,List.map_nil]
structure ş where
 w:Str
 s:Int
 z:Str
def eA(t:ş):D:=.tuple [.str t.w,.int t.s,.str t.z]
abbrev Mv:=ş×D
def FQ(m:Mv):D:=.tuple [eA m.1,m.2]
def SG(s:Int)(b:Bx):Mv:=(⟨"off",s,b.nm⟩,.none)
def ĭ(s:Int)(b:Bx):Mv:=(⟨"back",s,b.nm⟩,eJ b)
abbrev Ld:=Bx×Int
def AA(x:Ld):D:=.tuple [eJ x.1,.int x.2]
def ļ(x:Ld):Mv:=(⟨"on",x.2,x.1.nm⟩,eJ x.1)
def nP(p:Str)(b:Bx):Bool:=!(b.p == p)
def J2(bs:List Bx)(s:Int)(p:Str):(List Mv):=(lK bs p).reverse.map (SG s)++((lK bs p).filter (nP p)).map (ĭ s)
def O4:(J2 bs s p).length<=2*bs.length:=by
 have h1:=FF (bs:=bs) (p:=p);have h2:=List.length_filter_le (nP p) (lK bs p);unfold J2;rw[Ð,Å,Å,List.length_reverse];lia
def YV(gb:∀b∈bs,tX b)(gp:bJ p)(l:bs.length<=100):lB [aM bs,.int s,.str p]=.ok (.list ((J2 bs s p).map FQ)) []:=by
 have hz:sizeLine=2^24:=rfl;have h1:=FF (bs:=bs) (p:=p);have h2:=List.length_filter_le (nP p) (lK bs p);refine aQ (os:=[]) ?_;rfl';unfold gO;dsimp? [SF gb gp];have er:((lK bs p).map eJ).reverse=(lK bs p).reverse.map eJ:=by rw[List.map_reverse]
 refine aU.of (cS (enc:=eJ) (xs:=(lK bs p).reverse) (g:=λb=>FQ (SG s b)) (by rw[<- er];exact aJC rfl) (by rw[List.length_reverse];lia) λx _=>by dsimp? [eJ,FQ,SG,eA]) ?_;dsimp? [];refine aU.of (oZ (enc:=eJ) (xs:=lK bs p) (h:=nP p) (g:=λb=>FQ (ĭ s b)) (bT (by dsimp? [aM])) ∅ (λx hx=>by
  have gx:=gb x (FG hx);dsimp? [eJ,aFO gx.p gp,nP]) λx _=>by dsimp? [eJ,FQ,ĭ,eA]) ?_
 have em:(J2 bs s p).map FQ=((lK bs p).reverse.map λb=>FQ (SG s b))++(((lK bs p).filter (nP p)).map λb=>FQ (ĭ s b)):=by
  unfold J2;rw[Ö,à,à];rfl
 dsimp? [uO,em];rw[Å,Å,List.length_reverse];lia
def SH(cs:List (List Bx))(p:Str)(k:Nat):(List Mv):=((List.range k).map λ(j:Nat)=>J2 (cs.getD j []) (j:Int) p).flatten
def tY:SH cs p (k+1)=SH cs p k++J2 (cs.getD k []) (k:Int) p:=by
 unfold SH;rw[List.range_succ,Ö,List.flatten_append];simp
def wL(h:∀c∈cs,c.length<=50):∀k,k<=cs.length->(SH cs p k).length<=100*k
 |0,_=>by simp[SH]
 |k+1,hk=>by
  rw[tY,Ð];have h1:=wL h k ∅;have h2:=O4 (bs:=cs.getD k []) (s:=(k:Int)) (p:=p);have h3:=h _ (cJ (d:=[]) (show k<cs.length by lia));lia
def iI(p:Str)(ld:List Ld):D:=.tuple [.str p,.list (ld.map AA)]
def jL(cs:List (List Bx))(p:Str)(ld:List Ld):(List Mv):=SH cs p cs.length++ld.map ļ
def JN(gc:v2 cs 50)(gp:bJ p)(lc:cs.length<=8)(ll:ld.length<=50):mK [.list (cs.map aM),iI p ld]=.ok (.list ((jL cs p ld).map FQ)) []:=by
 have hz:sizeLine=2^24:=rfl;have hl:∀c∈cs,c.length<=50:=λc hc=>(gc c hc).1;refine aQ (os:=[]) ?_;rfl';unfold rA;dsimp? [];refine cM (ds:=fB (cs.map aM)) (δ1:=_) (λk δ=>∃o3 o4,δ=[some 'd',some (iI p ld),some (.list ((SH cs p k).map FQ)),o3,o4]) (jX rfl) ⟨none,none,rfl⟩ ?_ ?_
 .rintro k d δ hk ⟨o3,o4,rfl⟩
  let⟨k1,rfl⟩:=fR (a0:=[]) hk;refine⟨_,rfl,?_⟩;have g1:=gc _ (cJ (d:=[]) k1);have l1:=wL (p:=p) hl k ∅;have l2:=O4 (bs:=cs.getD k []) (s:=(k:Int)) (p:=p);have e1:=YV (bs:=cs.getD k []) (s:=(k:Int)) (p:=p) g1.2 gp ∅;rw[tY,Ö];dsimp? [iI,e1,uO];refine⟨by rw[Å,Å];lia,_,_,rfl⟩
 .rintro δ ⟨o3,o4,rfl⟩
  rw[gY,Å];have l1:=wL (p:=p) hl cs.length (È _);dsimp? [];refine aU.of (oX (enc:=AA) (A:=λx=>eJ x.1) (B:=λx=>.int x.2) (xs:=ld) (g:=λx=>FQ (ļ x)) (λx=>rfl) (bT (by dsimp? [iI])) ∅ λx _=>by dsimp? [eJ,FQ,ļ,eA]) ?_;have em:(jL cs p ld).map FQ=(SH cs p cs.length).map FQ++ld.map λx=>FQ (ļ x):=by
   unfold jL;rw[Ö,à];rfl
  dsimp? [uO,em];rw[Å,Å];lia
def AB(gc:v2 cs 50)(lc:cs.length<=8)(ll:ld.length<=50):(jL cs p ld).length<=1000:=by
 have l1:=wL (p:=p) (λc hc=>(gc c hc).1) cs.length (È _);unfold jL;rw[Ð,Å];lia
def FH(cs:List (List Bx))(p:Str)(ld:List Ld):(List ş):=(jL cs p ld).map Prod.fst
def YW(gc:v2 cs 50)(gp:bJ p)(lc:cs.length<=8)(ll:ld.length<=50):yW [.list (cs.map aM),iI p ld]=.ok (.list ((FH cs p ld).map eA)) []:=by
 have l1:=AB (p:=p) gc lc ll;refine aQ (os:=[]) ?_;rfl';unfold rB;dsimp? [];refine aU.of (oX (enc:=FQ) (A:=λm=>eA m.1) (B:=λm=>m.2) (xs:=jL cs p ld) (g:=λm=>eA m.1) (λx=>rfl) (bT (by dsimp? [JN gc gp lc ll])) ∅ λx _=>by dsimp? []) ?_;have e:(FH cs p ld).map eA=(jL cs p ld).map λm=>eA m.1:=by
  unfold FH;rw[à];rfl
 rw[e];exact⟨rfl,rfl⟩
def Š(t:ş):Bool:=t.w == "back"
def aQD:bJ "off":=⟨⋯,g8 _⟩
def Ι:bJ "back":=⟨⋯,g8 _⟩
def aPJ:bJ "on":=⟨⋯,g8 _⟩
def aOW(h:m∈jL cs p ld):bJ m.1.w:=by
 unfold jL at h;rcases ø.mp h with h|h
 .unfold SH at h
  let⟨l,hl,h⟩:=List.mem_flatten.mp h;let⟨j,_,rfl⟩:=Õ.mp hl;unfold J2 at h;rcases ø.mp h with h|h
  .obtain⟨b,_,rfl⟩:=Õ.mp h
   exact aQD
  .obtain⟨b,_,rfl⟩:=Õ.mp h
   exact Ι
 .obtain⟨b,_,rfl⟩:=Õ.mp h
  exact aPJ
def aMJ(h:t∈FH cs p ld):bJ t.w:=by
 let⟨m,hm,rfl⟩:=Õ.mp h;exact aOW hm
def YX(gc:v2 cs 50)(gp:bJ p)(lc:cs.length<=8)(ll:ld.length<=50):rD [.list (cs.map aM),iI p ld]=.ok (.list (((FH cs p ld).filter Š).map λt=>.str t.z)) []:=by
 have l1:=AB (p:=p) gc lc ll;refine aQ (os:=[]) ?_;rfl';unfold rC;dsimp? [];refine aU.of (oZ (enc:=eA) (xs:=FH cs p ld) (h:=Š) (g:=λt=>.str t.z) (bT (by dsimp? [YW gc gp lc ll])) (by unfold FH;rw[Å];lia) (λt ht=>by dsimp? [eA,qE (aMJ ht) Ι,Š]) λt _=>by dsimp? [eA]) ?_
 exact⟨rfl,rfl⟩
end
section
variable {cs:List (List Bx)}
def vH(lc:cs.length<=100):y0 [.list (cs.map aM)]=.ok 'd' []:=by
 refine aQ (os:=[]) ?_;rfl';unfold yZ;dsimp? [];refine aU.of (cS (enc:=aM) (xs:=cs) (g:=aM) (bT (by dsimp? [])) ∅ λx _=>by dsimp? [aM,NO]) ?_;dsimp? []
def YY(s0:0<=s)(s1:s.toNat<cs.length):oE (cs.map aM).length s=some s.toNat/\(cs.map aM)[s.toNat]?=some (.list ((cs[s.toNat]).map eJ)):=by
 refine⟨aFN s0 (by rw[Å];lia),?_⟩;rw[Ò,Ê s1];rfl
def SI(gw:bJ w)(hw:(w == "off")=false)(lc:cs.length<=100)(s0:0<=s)(s1:s.toNat<cs.length)(l1:(cs[s.toNat]).length<=100):oV [.list (cs.map aM),.tuple [.str w,.int s,x],eJ b]=.ok (.list ((cs.set s.toNat (cs[s.toNat]++[b])).map aM)) []:=by
 have hz:sizeLine=2^24:=rfl;refine aQ (os:=[]) ?_;rfl';unfold lC;let⟨e1,e2⟩:=YY s0 s1;have eh:JY [0,0,0,2] [some 'd',some (.tuple [.str w,.int s,x]),some (eJ b),some 'd']=[some 'd',some (.tuple [.str w,.int s,x]),some (eJ b),none]:=rfl;have go:bJ "off":=⟨⋯,g8 _⟩;dsimp? [vH lc,qE gw go,hw,K5,K6 e1 e2,eh,qN,EE];refine⟨by rw[Å];lia,?_⟩;simp[List.map_set,aM]
def MA(lc:cs.length<=100)(s0:0<=s)(s1:s.toNat<cs.length)(l1:cs[s.toNat]=c++[b]):oV [.list (cs.map aM),.tuple [.str "off",.int s,x],y]=.ok (.list ((cs.set s.toNat c).map aM)) []:=by
 refine aQ (os:=[]) ?_;rfl';unfold lC;let⟨e1,e2⟩:=YY s0 s1;have eh:JY [0,0,0,2] [some 'd',some (.tuple [.str "off",.int s,x]),some y,some 'd']=[some 'd',some (.tuple [.str "off",.int s,x]),some y,none]:=rfl;have go:bJ "off":=⟨⋯,g8 _⟩;have ep:Ŗ ((cs[s.toNat]).map eJ) []=some (eJ b,c.map eJ):=by
  rw[l1];unfold Ŗ;simp
 have et:("off" == ("off":Str))=true:=by decide
 dsimp? [vH lc,qE go go,et,K5,K6 e1 e2,eh,EE,ep,aIF];simp[List.map_set,aM]
end
def wM(zs:ZG):D:=.dict (zs.map λz=>(.str z,.bool true))
def aJD(zs:ZG):((zs.map λz=>((.str z,.bool true):D×D)).all λkv=>(dE kv.1).isSome)=true:=by
 rw[ï];intro kv h;let⟨z,_,rfl⟩:=Õ.mp h;rfl
def YZ(z:Str):∀zs:ZG,jR (.inr z) (zs.map λz=>((.str z,.bool true):D×D))=if z∈zs then some (.bool true)else none
 |[]=>rfl
 |y::zs=>by
  have ih:=YZ z zs;unfold jR at ih⊢;rw[Ì,ā];by_cases e:y=z
  .subst e
   rw[Â Ô];simp[dE]
  .have:decide (dE (PyData.str y)=some (Sum.inr z))=false:=decide_eq_false λh=>e (by cases h;rfl)
   rw[this];rw[ih];by_cases h:z∈zs
   .rw[Â h,Â (Ó _ h)]
   .rw[Ã h,Ã λq=>(Ø.mp q).elim (λq=>e q.symm) h]
def aMK:sW false (.str z) (wM zs)=some (.bool (decide (z∈zs))):=by
 unfold sW Q1 wM;dsimp only;rw[Â (aJD zs)];show (some (jR (.inr z) _)).map _=_;rw[YZ];by_cases h:z∈zs
 .rw[Â h,decide_eq_true h];rfl
 .rw[Ã h,decide_eq_false h];rfl
def Y0(hz:z∉zs)(hl:zs.length<=1000):yC (.str z) (.bool true) (wM zs)=some (wM (zs++[z])):=by
 have hs:sizeLine=16777216:=by decide
 unfold yC wM;dsimp only;show (if _ then _ else _)=_;rw[Â (by rw[Å];omega)];unfold LA;have:((zs.map λz=>((.str z,.bool true):D×D)).any λkv=>decide (dE kv.1=some (Sum.inr z)))=false:=by
  rw[List.any_eq_false];intro kv h;let⟨y,hy,rfl⟩:=Õ.mp h;intro q;have q:=of_decide_eq_true q;cases q;exact hz hy
 rw[this,Ö];rfl
def Ą(c:Nat):Bool:=decide (97<=c/\c<=122)
def aML:∀c<128,((!decide ((⟨#[c]⟩:Str).cps.toList<(Str.ofString "a").cps.toList)) && (!decide ((Str.ofString "z").cps.toList<(⟨#[c]⟩:Str).cps.toList)))=Ą c:=by decide +kernel
def AK(z:Str):Bool:=decide (1<=z.length/\z.length<=8) && z.cps.toList.all Ą
def Κ:D->D
 |.str z=>.bool (z.cps.toList.all Ą)
 |_=>.none
def name_ev'(hz:z.length<=100)(hs:∀c∈z.cps.toList,c<128):gN [.str z]=.ok (.bool (AK z)) []:=by
 have hl:lV [.str z]=some (.int z.length):=U0 rfl (Ü hz ⋯);have hc:∀δ:DS,eD 1 (setN 0) (xC (bF 0)) eE (h9 Ġ Ġ (dC (.str "a")) (bF 0) (dC (.str "z"))) (some (.str z)::δ)=.ok (.list (z.cps.toList.map λc=>.bool (Ą c))) (some (.str z)::δ):=λδ=>by
  have hg:∀d∈mP z,(h9 Ġ Ġ (dC (.str "a")) (bF 0) (dC (.str "z"))) (some d::some (.str z)::δ)=.ok (Κ d) (some d::some (.str z)::δ):=λd hd=>by
   unfold mP at hd;let⟨c,hc,rfl⟩:=Õ.mp hd;have:=aML c (hs c hc);simp![h9,dC,aW,bF,List.getElem?_cons_zero,Ġ,Κ,List.all_cons,List.all_nil,Bool.and_true];cases h1:(!decide ((⟨#[c]⟩:Str).cps.toList<(Str.ofString "a").cps.toList))with
   |true=>rw[h1,Bool.true_and]at this;rw[this]
   |false=>rw[h1,Bool.false_and]at this;rw[<- this]
  have:=BS (f:=xC (bF 0)) (δ:=some (.str z)::δ) (δ1:=some (.str z)::δ) (ds:=mP z) (by simp[xC,bF,Res.bind]) hg (by unfold mP;rw[Å];exact Ü hz ⋯)
  rw[this];unfold mP;rw[à];congr 2;apply List.map_congr_left;intro c _;simp[Κ]
 have ha:Ÿ [.list (z.cps.toList.map λc=>.bool (Ą c))]=some (.bool (z.cps.toList.all Ą)):=by
  show (sF _).map _=_;rw[OT];simp
 have hsi:gA .str (.str z)=some (.bool true):=rfl;have hni:pV (dB (sC (gA .str) (bF 0))) [some (.str z)]=.ok false [some (.str z)]:=U2 (b:=true) (M7 (aHF (eY rfl) hsi));have e0:oU [some (.str z)]=.ok (.ret (.bool (AK z))) [some (.str z)]:=by
  unfold oU;rw[M6 (δ1:=[some (.str z)]) (by rw[U1 (δ1:=[some (.str z)]) hni];rfl)];refine M8 ?_;have hlen:JW lV [bF 0] [some (.str z)]=.ok (.int z.length) [some (.str z)]:=D6 (eY rfl) hl;unfold AK;by_cases h:1<=z.length/\z.length<=8
  .rw[aBG (δ1:=[some (.str z)]),decide_eq_true h,Bool.true_and]
   .exact D6 (hc []) ha
   .simp![h9,vR,aW,hlen,Ĩ,Z9]
    rw[decide_eq_true (show (1:Int)<=z.length by lia),decide_eq_true (show (z.length:Int)<=8 by lia)]
  .rw[aBH (δ1:=[some (.str z)]),decide_eq_false h,Bool.false_and]
   simp![h9,vR,aW,hlen,Ĩ,Z9];by_cases h1:(1:Int)<=z.length
   .rw[decide_eq_true h1,decide_eq_false (show ¬(z.length:Int)<=8 by lia)]
   .rw[decide_eq_false h1]
 show (match oU [some (.str z)]with|_=>_)=_;unfold gN aR;simp[e0,h7]
def AC{i:Int}(_:0<=i)(_:i<26):jK i=⟨#[97+i.toNat]⟩:=rfl
def O5{x y:Str}(hx:x.cps.toList.all p=true)(hy:y.cps.toList.all p=true):(x++y).cps.toList.all p=true:=by
 show ((x.cps++y.cps).toList).all p=true;rw[Array.toList_append,List.all_append,hx,hy];rfl
def O6(hx:x.toList.all p=true):∀(n:Nat)(a:Array Nat),a.toList.all p=true->((List.replicate n x).foldl (·++·) a).toList.all p=true
 |0,_,h=>h
 |n+1,a,h=>by
  rw[List.replicate_succ,List.foldl_cons];exact O6 hx n _ (by rw[Array.toList_append,List.all_append,h,hx];rfl)
def Y1(h0:0<=i)(h1:i<26):(jK i).cps.toList.all Ą=true:=by
 rw[AC h0 h1];simp![List.all_cons,List.all_nil,Bool.and_true,Ą];exact decide_eq_true ∅
section
def rM:AK (nm ns k n)=true:=by
 let⟨a1,a2,b1,b2⟩:=JM (ns:=ns) (k:=k) (n:=n);have h1:=lH (ns:=ns) (k:=k) (m:=8) ⋯;have h2:=jY (ns:=ns) (k:=k) (m:=1+th ns k 8) ∅;have h3:=g9 (ns:=ns) (k:=k) (m:=26) ⋯;have e1:=Y1 h3.1 h3.2;have e2:=Y1 (i:=(7*n+ot ns (k+1) 26) % 26) ∅ ∅;have r:∀j,(iM (jK (dr ns k 26)) j).cps.toList.all Ą=true:=λj=>O6 e1 _ _ rfl;have l:(nm ns k n).length=_:=gZ;rw[gZ,i7,i7,a1,b1]at l;unfold AK;rw[decide_eq_true ∅,show (nm ns k n).cps.toList.all Ą=true from O5 (O5 (r _) e2) (r _)];rfl
def wN(h:AK z=true):z.length<=100/\∀c∈z.cps.toList,c<128:=by
 unfold AK at h;rw[æ,decide_eq_true_eq,ï]at h;refine⟨∅,λc hc=>?_⟩;have:=of_decide_eq_true (h.2 c hc);lia
def Y2(n0:0<=n)(n1:n<26)(m0:0<=m)(m1:m<26)(h:nm ns k n=nm ns k m):n=m:=by
 have cv:(nm ns k n).cps.toList=(nm ns k m).cps.toList:=by rw[h]
 have e:∀j,(nm ns k j).cps.toList=(iM (jK (dr ns k 26)) (ot ns k (1+th ns k 8))).cps.toList++(jK ((7*j+ot ns (k+1) 26) % 26)).cps.toList++(iM (jK (dr ns k 26)) (1+th ns k 8-1-ot ns k (1+th ns k 8))).cps.toList:=λj=>by
  show ((_++_:Array Nat)++_).toList=_;rw[Array.toList_append,Array.toList_append]
 rw[e,e]at cv;have cv:=List.append_cancel_left (List.append_cancel_right cv);rw[AC ∅ ∅,AC ∅ ∅]at cv;have cv:97+((7*n+ot ns (k+1) 26) % 26).toNat=97+((7*m+ot ns (k+1) 26) % 26).toNat:=(List.cons.inj cv).1;clear e h;generalize ot ns (k+1) 26=c at *;have q:(7*n+c) % 26=(7*m+c) % 26:=by lia
 have h1:7*(n-m)=26*((7*n+c)/26-(7*m+c)/26):=by lia
 generalize (7*n+c)/26-(7*m+c)/26=t at *;have h2:n-m=26*(15*t-4*(n-m)):=by lia
 generalize 15*t-4*(n-m)=u at *;lia
end
end Toy
namespace L2
open PySem PySem.Spec
def O7{α:Type}{enc:α->D}{P:α->Prop}(x0:α){f e:M D}{δ:DS}{n:Int}{Q:D->ZO}(hf:aU f δ λa δ1=>a=.int n/\δ1=δ)(h0:0<=n)(h1:n<=1000)(he:∀k:Nat,(k:Int)<n->∃x,P x/\aU e (some (.int k)::δ) λa δ1=>a=enc x/\δ1=some (.int k)::δ)(hq:∀xs:List α,(xs.length:Int)=n->(∀x∈xs,P x)->Q (.list (xs.map enc)) δ):aU (eD 1 (setN 0) (pG [f]) eE e) δ Q:=by
 obtain⟨c,hc⟩:∃c:Nat->α,∀k:Nat,(k:Int)<n->P (c k)/\aU e (some (.int k)::δ) λa δ1=>a=enc (c k)/\δ1=some (.int k)::δ:=⟨λk=>open Classical in if h:(k:Int)<n then (he k h).choose else x0,λk hk=>by
  dsimp only;rw[dif_pos hk];exact(he k hk).choose_spec⟩
 have:=xK (f:=f) (e:=e) (δ:=δ) (n:=n) (g:=λk=>enc (c k)) (cZ hf) h0 ∅ λk hk=>(hc k hk).2;refine aU.of this ?_;have q:=hq ((List.range n.toNat).map c) (by simp;lia) λx hx=>by
  let⟨k,hk,rfl⟩:=Õ.mp hx;exact(hc k (by have:=List.mem_range.mp hk;lia)).1
 rw[à]at q;exact q
end L2
namespace Toy
open PySem L2
structure Ap where
 x:Str
 y:Str
 n:Int
def Ě(a:Ap):D:=.tuple [.str a.x,.str a.y,.int a.n]
abbrev pC(own:Q4)(b:O1)(ss:List St)(ts:List Tk)(as:List Ap):D:=.tuple [z9 own,YR b,.list (ss.map pA),.list (ts.map z8),.list (as.map Ě)]
structure Ē(own:Q4)(b:O1)(ss:List St)(ts:List Tk)(as:List Ap):Prop where
 o0:1<=own.1/\own.1<=1000000000
 o1:lG own.2.1/\lG own.2.2.1/\lG own.2.2.2
 b:tW b
 ls:1<=ss.length/\ss.length<=4
 lt:ts.length<=3
 la:as.length<=3
 gs:∀s∈ss,FB s
 gt:∀t∈ts,FC t
 ga:∀a∈as,bJ a.x/\bJ a.y
def n9{α:Type}{P:α->Prop}{l:List α}{x:α}(h:∀y∈l,P y)(hx:P x):∀y∈l++[x],P y:=λy hy=>by
 rcases ø.mp hy with z|z
 .exact h y z
 .rw[ô.mp z]
  exact hx
section
def jF(h0:-1000<=x)(h1:x<=1000):lG x:=⟨∅,∅⟩
def O8(h:0<=v/\v<x)(g:0<=w/\w<y)(a:x<=100)(b:y<=100):lG (v-3)/\lG (v-2)/\lG (0-(1+v))/\lG (1+v)/\lG (1+v+w)/\lG (4+v)/\lG (v-10)/\lG v/\lG (v-40):=⟨jF ∅ ∅,jF ∅ ∅,jF ∅ ∅,jF ∅ ∅,jF ∅ ∅,jF ∅ ∅,jF ∅ ∅,jF ∅ ∅,jF ∅ ∅⟩
def Ĥ{v w x a:Int}(h:0<=v/\v<x)(e:w+x=a+1)(hw:1<=w):1<=w+v/\0<=w+v/\w+v<=a:=⟨∅,∅,∅⟩
def AD(h0:0<=x)(h1:x<=m)(hm:m<=1000):0<=vZ ns*x/\vZ ns*x<=1000000000:=by
 have s:=rK (ns:=ns);have a:=Int.mul_nonneg (show 0<=vZ ns by lia) h0;have b:=Int.mul_le_mul s.2 (show x<=1000 by lia) h0 ⋯;exact⟨a,∅⟩
def O9(h:1<=x):1<=vZ ns*x:=Int.mul_pos (a:=vZ ns) (b:=x) (by have:=rK (ns:=ns);lia) h
def aDU(h:0<=x/\x<=1000000000):lG x:=⟨∅,h.2⟩
def aMM(n0:0<=n)(n1:n<=100):∃d,CG [iL ns,.int n]=.ok d []/\∃s,d=pA s/\FB s:=by
 refine kY ?_;rfl';unfold vB;have s:=rK (ns:=ns);have e1:=λm(h:0<m)=>mQ (ns:=ns) (k:=2+n) (m:=m) ∅ ∅ h;have e2:=λm(h:0<m)=>mR (ns:=ns) (k:=2+n) (m:=m) ∅ ∅ h;have e3:=λm(h:0<m)=>n6 (ns:=ns) (k:=6+n) (m:=m) ∅ ∅ h;have e4:=λm(h:0<m)=>mR (ns:=ns) (k:=6+n) (m:=m) ∅ ∅ h;have e5:=λm(h:0<m)=>n6 (ns:=ns) (k:=2+n) (m:=m) ∅ ∅ h;have e6:=λm(h:0<m)=>mQ (ns:=ns) (k:=6+n) (m:=m) ∅ ∅ h;have n3:=j0 (ns:=ns) (k:=14) (n:=n) ⋯ ⋯ ∅ ∅;have l1:=g9 (ns:=ns) (k:=2+n) (m:=21) ⋯;have l2:=jY (ns:=ns) (k:=2+n) (m:=21) ⋯;have l3:=lH (ns:=ns) (k:=2+n) (m:=5) ⋯;have l4:=g9 (ns:=ns) (k:=6+n) (m:=3) ⋯;dsimp? [n8,e1,e2,e3,e4,e5,e6,n3,Int.reduceLT];exact⟨by ac_nf,⟨_,_,_,_,_,_,_⟩,rfl,jZ,(O8 l1 l1 ⋯ ⋯).2.2.2.2.2.2.1,(O8 l2 l2 ⋯ ⋯).2.2.2.2.2.2.1,(O8 l3 l3 ⋯ ⋯).2.2.2.2.2.2.2.1,(O8 l4 l4 ⋯ ⋯).2.2.2.1⟩
def aMN(n0:0<=n)(n1:n<=100):∃d,IS [iL ns,.int n]=.ok d []/\∃t,d=z8 t/\FC t:=by
 refine kY ?_;rfl';unfold zK;have s:=rK (ns:=ns);have e1:=λm(h:0<m)=>mQ (ns:=ns) (k:=10+n) (m:=m) ∅ ∅ h;have e2:=λm(h:0<m)=>mR (ns:=ns) (k:=10+n) (m:=m) ∅ ∅ h;have e5:=λm(h:0<m)=>n6 (ns:=ns) (k:=10+n) (m:=m) ∅ ∅ h;have e6:=λm(h:0<m)=>mQ (ns:=ns) (k:=13+n) (m:=m) ∅ ∅ h;have n3:=j0 (ns:=ns) (k:=15) (n:=n) ⋯ ⋯ ∅ ∅;have l1:=g9 (ns:=ns) (k:=10+n) (m:=81) ⋯;have l2:=jY (ns:=ns) (k:=10+n) (m:=81) ⋯;have l3:=lH (ns:=ns) (k:=10+n) (m:=5) ⋯;have l4:=g9 (ns:=ns) (k:=13+n) (m:=60) ⋯;dsimp? [n8,e1,e2,e5,e6,n3,Int.reduceLT];exact⟨by ac_nf,⟨_,_,_,_,_⟩,rfl,jZ,(O8 l1 l1 ⋯ ⋯).2.2.2.2.2.2.2.2,(O8 l2 l2 ⋯ ⋯).2.2.2.2.2.2.2.2,(O8 l3 l3 ⋯ ⋯).2.1,AD (Ĥ l4 (a:=60) rfl ⋯).2.1 (Ĥ l4 (a:=60) rfl ⋯).2.2 ⋯⟩
def aDV:∃r,IU [iL ns]=.ok r []/\∃own b ss ts as,r=pC own b ss ts as/\Ē own b ss ts as:=by
 refine kY ?_;rfl';unfold zL;have hz:sizeLine=2^24:=rfl;have s:=rK (ns:=ns);have q1:=g9 (ns:=ns) (k:=1) (m:=4) ⋯;have q2:=jY (ns:=ns) (k:=1) (m:=4) ⋯;have q3:=lH (ns:=ns) (k:=1) (m:=5) ⋯;have d0:=g9 (ns:=ns) (k:=13) (m:=80) ⋯;have d1:=jY (ns:=ns) (k:=13) (m:=7) ⋯;have d2:=lH (ns:=ns) (k:=13) (m:=5) ⋯;have d3:=lH (ns:=ns) (k:=14) (m:=6) ⋯;have d4:=lH (ns:=ns) (k:=15) (m:=6) ⋯;have d5:=g9 (ns:=ns) (k:=15) (m:=2) ⋯;have d6:=lH (ns:=ns) (k:=0) (m:=9) ⋯;have d7:=jY (ns:=ns) (k:=0) (m:=200) ⋯;rw[L2.seq_assoc,L2.seq_assoc,L2.seq_assoc,L2.seq_assoc,L2.seq_assoc];refine vF (λδ=>∃(own:Q4)(b:O1)(o1 o3 o4 o5:ZL),((1<=own.1/\own.1<=1000000000)/\(lG own.2.1/\lG own.2.2.1/\lG own.2.2.2)/\tW b)/\δ=[some (iL ns),o1,some (z9 own),o3,o4,o5,some (YR b),none,none,none,none,none,none]) ?_ ?_
 .refine kK λK _ _ _ hK _=>?_
  dsimp? [n8,mQ,mR,n6,Int.reduceLE,Int.reduceLT];exact⟨by ac_nf,by ac_nf,hK _ ⟨(_,_,_,_),⟨_,_,_,_,_,_⟩,_,_,_,_,⟨⟨O9 (Ĥ d0 (w:=40) (a:=119) rfl ⋯).1,(AD (m:=119) (Ĥ d0 (a:=119) rfl ⋯).2.1 (Ĥ d0 (a:=119) rfl ⋯).2.2 ⋯).2⟩,⟨(O8 d1 d1 ⋯ ⋯).1,(O8 d2 d2 ⋯ ⋯).2.1,jF (x:=2) ⋯ ⋯⟩,(O8 d3 d3 ⋯ ⋯).2.2.1,(O8 d3 d3 ⋯ ⋯).2.2.2.1,(O8 d4 d4 ⋯ ⋯).2.2.1,(O8 d4 d5 ⋯ ⋯).2.2.2.2.1,(O8 d6 d6 ⋯ ⋯).2.2.2.2.2.1,aDU (AD (ns:=ns) (x:=120+ot ns 0 200) (m:=319) (Ĥ d7 (a:=319) rfl ⋯).2.1 (Ĥ d7 (a:=319) rfl ⋯).2.2 ⋯)⟩,rfl⟩⟩
 rintro δ ⟨own,b,o1,o3,o4,o5,ho,rfl⟩;dsimp? [];refine O7 (enc:=pA) (P:=FB) A6 (n:=1+dr ns 1 4) (by dsimp? [mQ,Int.reduceLE,Int.reduceLT]) ∅ ∅ (λk hk=>?_) λss ls gs=>?_
 .obtain⟨d,ed,t,rfl,g⟩:=aMM (ns:=ns) (n:=(k:Int)) ∅ ∅
  exact⟨t,g,by dsimp? [ed]⟩
 dsimp? [];refine O7 (enc:=z8) (P:=FC) aQA (n:=ot ns 1 4) (by dsimp? [mR,Int.reduceLE,Int.reduceLT]) ∅ ∅ (λk hk=>?_) λts lt gt=>?_
 .obtain⟨d,ed,t,rfl,g⟩:=aMN (ns:=ns) (n:=(k:Int)) ∅ ∅
  exact⟨t,g,by dsimp? [ed]⟩
 dsimp? [];obtain⟨r,er,r0,r1⟩:∃r:Int,atI [PyData.int 0,.int 0,.int 0,.int 1,.int 2] (th ns 1 5)=some (.int r)/\0<=r/\r<=2:=by
  have:th ns 1 5=0\/th ns 1 5=1\/th ns 1 5=2\/th ns 1 5=3\/th ns 1 5=4:=by lia
  rcases this with z|z|z|z|z<;>rw[z]<;>exact⟨_,rfl,⋯,⋯⟩
 refine wB (j:=r) (δ1:=_) (λk δ=>∃(as:List Ap)(p1 p2 p3:ZL),δ=[some (iL ns),o1,some (z9 own),o3,o4,o5,some (YR b),some (.list (ss.map pA)),some (.list (ts.map z8)),some (.list (as.map Ě)),p1,p2,p3]/\as.length=k/\∀a∈as,bJ a.x/\bJ a.y) (d9 (by dsimp? [n6,Int.reduceLE,Int.reduceLT,er];rfl)) ∅ ∅ ⟨[],none,none,none,rfl,rfl,λa ha=>by cases ha⟩ ?_ ?_
 .rintro k δ hk ⟨as,p1,p2,p3,rfl,la,ga⟩
  refine⟨_,rfl,?_⟩;refine kK λK _ _ _ hK _=>?_;have d1:=g9 (ns:=ns) (k:=17+(k:Int)) (m:=3) ⋯;have d2:=jY (ns:=ns) (k:=17+(k:Int)) (m:=3) ⋯;have e1:=mQ (ns:=ns) (k:=17+(k:Int)) (m:=3) ∅ ∅ ⋯;have e2:=mR (ns:=ns) (k:=17+(k:Int)) (m:=3) ∅ ∅ ⋯;have e3:=n6 (ns:=ns) (k:=17+(k:Int)) (m:=9) ∅ ∅ ⋯;have n1:=j0 (ns:=ns) (k:=18) (n:=dr ns (17+(k:Int)) 3) ⋯ ⋯ ∅ ∅;have n2:=j0 (ns:=ns) (k:=18) (n:=ot ns (17+(k:Int)) 3) ⋯ ⋯ ∅ ∅;dsimp? [e1,e2,e3,n1,n2,Å];exact⟨∅,hK _ ⟨as++[⟨_,_,_⟩],_,_,_,by rw[Ö];rfl,by rw[Ð,la];rfl,n9 ga ⟨jZ,jZ⟩⟩⟩
 .rintro δ ⟨as,p1,p2,p3,rfl,la,ga⟩
  dsimp? [];exact⟨own,b,ss,ts,as,rfl,ho.1,ho.2.1,ho.2.2,∅,∅,∅,gs,gt,ga⟩
end
def aPK(ha:Sh 1 (.str a))(hb:Sh 1 (.str b))(hp:Sh 1 (.str p))(hq:Sh 1 (.str q)):∃r:Bool,ķ (.tuple [.str p,.str q]) (.tuple [.tuple [.str a,.str b],.tuple [.str b,.str a]])=some (.bool r):=by
 have s:∀{x y:Str},Sh 1 (.str x)->Sh 1 (.str y)->Sh 2 (.tuple [.str x,.str y]):=λhx hy=>VS λd hd=>by
  simp![Ø,ì,or_false]at hd;rcases hd with rfl|rfl<;>assumption
 have h1:=(s hp hq).shaped ⋯;have h2:SeqAt.shaped (.tuple [.tuple [.str a,.str b],.tuple [.str b,.str a]])=true:=Sh.shaped (k:=3) (VS λx hx=>by
  simp![Ø,ì,or_false]at hx;rcases hx with rfl|rfl
  .exact s ha hb
  .exact s hb ha) ⋯
 unfold ķ;simp![wC];rw[Â ⟨h1,h2⟩];exact⟨_,rfl⟩
def SJ(h:∃r,aR m [] 0 u ds=.ok r []/\∃L,r=.list L):∃L,aR m [] 0 u ds=.ok (.list L) []:=by
 let⟨r,e,L,rfl⟩:=h;exact⟨L,e⟩
def MB(hl:bs.length<=100):∃r,jT [pA st,.int s,aM bs]=.ok r []/\∃L,r=.list L/\L.length<=bs.length+2:=by
 have e24:sizeLine=2^24:=rfl;refine kY ?_;rfl';unfold f7;rw[L2.seq_assoc,L2.seq_assoc,L2.seq_assoc];refine vF (λδ=>∃(L:ZI)(w:Int),L.length<=2/\δ=[some (pA st),some (.int s),some (aM bs),some (.list L),some (.int w),none,none]) ?_ ?_
 .dsimp? []
  refine aU.of (cS (enc:=eJ) (xs:=bs) (g:=λb=>.int b.w) (cO rfl) ∅ λb _=>by dsimp? [eJ]) ?_;have es:Ŏ [.list (bs.map λb=>PyData.int b.w)]=some (.int (bs.map λb=>b.w).sum):=by
   rw[show (bs.map λb=>PyData.int b.w)=(bs.map λb=>b.w).map PyData.int by simp,aLI]
  have eb:aM bs=.list (bs.map eJ):=rfl;generalize (bs.map λb=>b.w).sum=W at *;by_cases c1:st.h<(bs.length:Int)<;>by_cases c2:st.m<W
  .dsimp? [es,pA,eb,Å,c1,c2,decide_true,List.nil_append]
   exact⟨∅,∅,_,_,by simp,rfl⟩
  .dsimp? [es,pA,eb,Å,c1,c2,decide_true,decide_false,Bool.false_eq_true,List.nil_append]
   exact⟨∅,_,_,by simp,rfl⟩
  .dsimp? [es,pA,eb,Å,c1,c2,decide_true,decide_false,Bool.false_eq_true,List.nil_append]
   exact⟨∅,_,_,by simp,rfl⟩
  .dsimp? [es,pA,eb,Å,c1,c2,decide_false,Bool.false_eq_true]
   exact⟨_,_,by simp,rfl⟩
 rintro _ ⟨L,w,lL,rfl⟩;refine vF (λδ=>∃(L:ZI)(o4 o5 o6:ZL),L.length<=bs.length+2/\δ=[some (pA st),some (.int s),some (aM bs),some (.list L),o4,o5,o6]) ?_ ?_
 .refine cM (ds:=fB (bs.map eJ)) (δ1:=_) (λt δ=>∃(L:ZI)(w:Int)(o5 o6:ZL),L.length<=t+2/\δ=[some (pA st),some (.int s),some (aM bs),some (.list L),some (.int w),o5,o6]) (jX rfl) ⟨L,w,none,none,∅,rfl⟩ ?_ ?_
  .rintro t d δ ht ⟨L,w,o5,o6,lL,rfl⟩
   let⟨t1,rfl⟩:=fR (a0:=AJ) ht;refine⟨_,rfl,?_⟩;generalize bs.getD t AJ=bt at *;by_cases c:bt.b<w-bt.w
   .dsimp? [eJ,c,decide_true]
    exact⟨∅,_,_,_,_,by rw[Ð,ò];lia,rfl⟩
   .dsimp? [eJ,c,decide_false,Bool.false_eq_true]
    exact⟨_,_,_,_,∅,rfl⟩
  .rintro δ ⟨L,w,o5,o6,lL,rfl⟩
   rw[gY,Å]at lL;exact⟨L,_,_,_,lL,rfl⟩
 rintro _ ⟨L,o4,o5,o6,lL,rfl⟩;dsimp? [];exact lL
section
variable {own:Q4}{b:O1}{ss:List St}{cs:List (List Bx)}{ts:List Tk}{as:List Ap}
def Y3(la:as.length<=10)(ga:∀a∈as,bJ a.x/\bJ a.y)(hx:bJ x)(hy:bJ y):∃r,IJ [pC own b ss ts as,.str x,.str y]=.ok r []/\∃n:Int,r=.int n:=by
 refine kY ?_;rfl';unfold yT;have i4:fM (pC own b ss ts as) (.int 4)=some (.list (as.map Ě)):=rfl;have ct:∀x y z:D,ō (.tuple [x,y,z]) none (some 2)=some (.tuple [x,y]):=λ_ _ _=>rfl;obtain⟨h,hh⟩:∃h:Ap->Bool,∀a∈as,ķ (.tuple [.str a.x,.str a.y]) (.tuple [.tuple [.str x,.str y],.tuple [.str y,.str x]])=some (.bool (h a)):=by
  refine⟨λa=>open Classical in if q:a∈as then (aPK hx.sh hy.sh (ga a q).1.sh (ga a q).2.sh).choose else false,λa q=>?_⟩;dsimp only;rw[dif_pos q];exact(aPK hx.sh hy.sh (ga a q).1.sh (ga a q).2.sh).choose_spec
 have em:∃n:Int,NQ (.list ((as.filter h).map λr=>PyData.int r.n)) (.int 0)=some (.int n):=by
  rw[show ((as.filter h).map λr=>PyData.int r.n)=((as.filter h).map λr=>r.n).map PyData.int by simp];refine⟨(fZ none ((as.filter h).map λr=>r.n)).getD 0,?_⟩;show (cQ _).map _=_;rw[iX];rfl
 let⟨n,em⟩:=em;generalize pC own b ss ts as=sh at *;dsimp? [aIA];refine aU.of (oZ (enc:=Ě) (xs:=as) (h:=h) (g:=λr=>.int r.n) (bT (by dsimp? [i4])) ∅ (λr hr=>?_) λr hr=>by dsimp? [Ě]) ?_
 .dsimp? [Ě,VT,uL,uM,BW,ct,hh r hr]
 .dsimp? [em]
  exact⟨n,rfl⟩
def Y4(hi:i<ss.length)(hj:j<ss.length):∃n:Int,yS [pC own b ss ts as,.int i,.int j]=.ok (.int n) []:=by
 refine⟨(((ss.getD i A6).x-(ss.getD j A6).x).natAbs:Int)+(((ss.getD i A6).y-(ss.getD j A6).y).natAbs:Int),aQ (os:=[]) ?_⟩;rfl';unfold qY;dsimp? [L6 (enc:=pA) (l:=ss) (d:=A6) hi,L6 (enc:=pA) (l:=ss) (d:=A6) hj,pA]
def Λ(n:Nat)(d:D):Prop:=∃(i j:Nat)(z:Str),i<n/\bJ z/\d=.tuple [.int i,.int j,.str z]
def SK(lc:cs.length<=10)(gc:∀c∈cs,c.length<=30/\∀b∈c,tX b):∃r,nV [.list (cs.map aM)]=.ok r []/\∃P,r=.list P/\P.length<=300/\∀d∈P,Λ cs.length d:=by
 have e24:sizeLine=2^24:=rfl;refine kY ?_;rfl';unfold jB;dsimp? [];refine cM (ds:=fB (cs.map aM)) (δ1:=_) (λk δ=>∃P o2 o3 o4 o5,δ=[some 'd',some (.list P),o2,o3,o4,o5]/\P.length<=30*k/\∀d∈P,Λ cs.length d) (jX rfl) ⟨[],_,_,_,_,rfl,by simp,by simp⟩ ?_ ?_
 .rintro k d δ hk ⟨P,o2,o3,o4,o5,rfl,lP,gP⟩
  let⟨k1,rfl⟩:=fR (a0:=[]) hk;let⟨lb1,gb1⟩:=gc _ (cJ (d:=[]) k1);refine⟨_,rfl,?_⟩;generalize cs.getD k []=bs at *;refine cM (ds:=fB (bs.map eJ)) (δ1:=_) (λt δ=>∃P o4 o5,δ=[some 'd',some (.list P),some (.int k),some (aM bs),o4,o5]/\P.length<=30*k+t/\∀d∈P,Λ cs.length d) (jX rfl) ⟨P,_,_,rfl,∅,gP⟩ ?_ ?_
  .rintro t d δ ht ⟨P,o4,o5,rfl,lP,gP⟩
   let⟨t1,rfl⟩:=fR (a0:=AJ) ht;have gk:=(gb1 _ (cJ (d:=AJ) t1)).k;refine⟨_,rfl,?_⟩;generalize bs.getD t AJ=bt at *;dsimp? [eJ];refine⟨∅,_,_,_,rfl,by rw[Ð,ò];lia,n9 gP ⟨k,t,_,k1,gk,rfl⟩⟩
  .rintro δ ⟨P,o4,o5,rfl,lP,gP⟩
   rw[gY,Å]at lP;exact⟨P,_,_,_,_,rfl,∅,gP⟩
 .rintro δ ⟨P,o2,o3,o4,o5,rfl,lP,gP⟩
  rw[gY,Å]at lP;dsimp? [];exact⟨∅,gP⟩
def JO(la:as.length<=10)(ga:∀a∈as,bJ a.x/\bJ a.y)(ls:cs.length=ss.length)(lc:cs.length<=10)(gc:∀c∈cs,c.length<=30/\∀b∈c,tX b):∃r,nX [pC own b ss ts as,.list (cs.map aM)]=.ok r []/\∃L,r=.list L/\L.length<=90000:=by
 have e24:sizeLine=2^24:=rfl;let⟨r,eP,P,rfl,lP,gP⟩:=SK lc gc;have fs:=λ(x y:Str)hx hy=>Y3 (own:=own) (b:=b) (ss:=ss) (ts:=ts) (as:=as) (x:=x) (y:=y) la ga hx hy;have ap:=λ(i j:Nat)hi hj=>Y4 (own:=own) (b:=b) (ss:=ss) (ts:=ts) (as:=as) (i:=i) (j:=j) hi hj;generalize pC own b ss ts as=sh at *;refine kY ?_;rfl';unfold jC;dsimp? [eP];refine cM (ds:=fB P) (δ1:=_) (λk δ=>∃L o4 o5 o6,L.length<=300*k/\δ=[some sh,some 'd',some (.list L),some (.list P),o4,o5,o6]) (jX rfl) ⟨[],_,_,_,by simp,rfl⟩ ?_ ?_
 .rintro k d δ hk ⟨L,o4,o5,o6,lL,rfl⟩
  have eid:P=P.map id:=by simp
  rw[eid]at hk;let⟨k1,rfl⟩:=fR (a0:=.none) hk;refine⟨_,rfl,?_⟩;let⟨i,j,z,hi,gz,e1⟩:=gP _ (cJ (d:=.none) k1);simp![id,e1];have ct:D3 (.list P) (some ((k:Int)+1)) none=some (.list (P.drop (k+1))):=sJ (k:=k+1) ∅;refine cM (ds:=P.drop (k+1)) (δ1:=_) (λt δ=>∃L o6,L.length<=300*k+t/\δ=[some sh,some 'd',some (.list L),some (.list P),some (.int k),some (.tuple [.int i,.int j,.str z]),o6]) (bT (by dsimp? [VT,uL,uM,BW,ct])) ⟨L,_,∅,rfl⟩ ?_ ?_
  .rintro t d δ ht ⟨L,o6,lL,rfl⟩
   have ht1:=(Í.mp ht).1;rw[ċ]at ht1;let⟨i2,j2,z2,hi2,gz2,rfl⟩:=gP d (List.mem_of_mem_drop (Ĉ ht));refine⟨_,rfl,?_⟩;let⟨n,en⟩:=ap i i2 ∅ ∅;let⟨_,ef,m,rfl⟩:=fs z z2 gz gz2;by_cases c:n<m
   .dsimp? [ef,en,c,decide_true]
    exact⟨∅,_,_,by rw[Ð,ò];lia,rfl⟩
   .dsimp? [ef,en,c,decide_false,Bool.false_eq_true]
    exact⟨_,_,∅,rfl⟩
  .rintro δ ⟨L,o6,lL,rfl⟩
   rw[ċ]at lL;exact⟨L,_,_,_,∅,rfl⟩
 .rintro δ ⟨L,o4,o5,o6,lL,rfl⟩
  rw[gY]at lL;dsimp? [];lia
def JP(la:as.length<=10)(ga:∀a∈as,bJ a.x/\bJ a.y)(ls:cs.length=ss.length)(lc:cs.length<=10)(gc:∀c∈cs,c.length<=30/\∀b∈c,tX b):∃L,IL [pC own b ss ts as,.list (cs.map aM)]=.ok (.list L) []:=by
 have e24:sizeLine=2^24:=rfl;let⟨r,ea,A,rfl,lA⟩:=JO (own:=own) (b:=b) (ts:=ts) la ga ls lc gc;have i2:fM (pC own b ss ts as) (.int 2)=some (.list (ss.map pA)):=rfl;generalize pC own b ss ts as=sh at *;refine SJ (kY ?_);rfl';unfold yU;dsimp? [];refine cM (ds:=fB (cs.map aM)) (δ1:=_) (λk δ=>∃L o3 o4,L.length<=32*k/\δ=[some sh,some 'd',some (.list L),o3,o4]) (jX rfl) ⟨[],_,_,by simp,rfl⟩ ?_ ?_
 .rintro k d δ hk ⟨L,o3,o4,lL,rfl⟩
  let⟨k1,rfl⟩:=fR (a0:=[]) hk;have lb1:=(gc _ (cJ (d:=[]) k1)).1;refine⟨_,rfl,?_⟩;let⟨_,e1,L1,rfl,l1⟩:=MB (st:=ss.getD k A6) (s:=(k:Int)) (bs:=cs.getD k []) ∅;dsimp? [i2,L6 (enc:=pA) (l:=ss) (d:=A6) (show k<ss.length by lia),e1,uO];exact⟨∅,_,_,_,by rw[Ð];lia,rfl⟩
 .rintro δ ⟨L,o3,o4,lL,rfl⟩
  rw[gY,Å]at lL;dsimp? [ea,uO];exact⟨∅,_,rfl⟩
end
section
def Y5(r:D):Prop:=(∃a b,r=.tuple [.str "fill",a,b])\/∃(k:Str)(a:D),(k="none"\/k="broken")/\r=.tuple [.str k,a]
def MC(W:W9 Ç Ä):∃r,E0 [aFL Ç,iL Ä]=.ok r []/\Y5 r:=by
 let⟨b,_,_⟩:=W.bnd;let⟨r,el,T,σ,I,h⟩:=YL b;refine⟨r,el,?_⟩;rcases h with ⟨all,rfl⟩|⟨p,hp,hneg,ha,rfl⟩
 .exact .inl ⟨_,_,rfl⟩
 .exact .inr ⟨"none",_,.inl rfl,rfl⟩
end
section
variable {own:Q4}{b:O1}{ss:List St}{cs:List (List Bx)}{ts:List Tk}{as:List Ap}
def FI(M:sV own ss cs ts)(g:tW b):∃r,CC [pC own b ss ts as,.list (cs.map aM)]=.ok r []/\Y5 r:=by
 have lt:=M.lt;let⟨r,el,hr⟩:=MC (aDQ M g);refine⟨r,?_,hr⟩;have e0:u6 [pC own b ss ts as,.list (cs.map aM)]=.ok (aFL (JL ts b (T4 (own::tU ss cs ss.length)))) []:=aDO M g;have e1:qX [pC own b ss ts as]=.ok (iL (ts.map λt=>t.r)) []:=L9 ∅;generalize JL ts b (T4 (own::tU ss cs ss.length))=Ç at *;generalize pC own b ss ts as=sh at *;refine aQ (os:=[]) ?_;rfl';unfold u7;dsimp? [e0,e1,el]
def aFR(cs:List (List Bx)):Prop:=∀c∈cs,c.length<=30/\∀b∈c,tX b/\1<=b.w/\b.w<=1000000000
def aDW(S:Ē own b ss ts as)(lc:cs.length=ss.length)(gc:aFR cs):sV own ss cs ts:=
 ⟨S.o0,S.o1,by have:=S.ls;lia,lc,λc hc=>(gc c hc).1,by have:=S.lt;lia,S.gs,λc hc b hb=>by have:=(gc c hc).2 b hb;exact⟨this.1.nm,this.1.p,this.1.k,this.2⟩,S.gt⟩
def A7(S:Ē own b ss ts as)(lc:cs.length=ss.length)(gc:aFR cs):∃r,zF [pC own b ss ts as,.list (cs.map aM)]=.ok r []/\Y5 r:=by
 have ls:=S.ls;let⟨r,eb,hr⟩:=FI (as:=as) (aDW S lc gc) S.b;let⟨L,ek⟩:=JP (own:=own) (b:=b) (ts:=ts) (by have:=S.la;lia) S.ga lc ∅ λc hc=>⟨(gc c hc).1,λx hx=>((gc c hc).2 x hx).1⟩;generalize pC own b ss ts as=sh at *;refine kY ?_;rfl';unfold rG;dsimp? [ek];refine aI0 (eY rfl) ?_;cases L with
 |nil=>
  dsimp? [List.isEmpty_nil,Bool.not_true,Bool.false_eq_true,eb];exact hr
 |cons x L=>
  dsimp? [List.isEmpty_cons,Bool.not_false];exact .inr ⟨"broken",_,.inr rfl,rfl⟩
end
def Y6{o o':D->D->ZL}{f g k:M D}{δ:DS}{a b c:D}{r r':Bool}(hf:f δ=.ok a δ)(hg:g δ=.ok b δ)(hk:k δ=.ok c δ)(h1:o a b=some (.bool r))(h2:o' b c=some (.bool r')):h9 o o' f g k δ=.ok (.bool (r && r')) δ:=by
 unfold h9;rw[hf,aW,hg,aW,h1];cases r
 .rfl
 .simp![hk,aW,h2,Bool.true_and]
def š(z:Str):Prop:=z.length<=100/\∀c∈z.cps.toList,c<128
structure SL(b:Bx):Prop where
 nm:š b.nm
 p:š b.p
 k:š b.k
def FJ(h:š z):gN [.str z]=.ok (.bool (AK z)) []:=name_ev' h.1 h.2
def ą(zs:ZG)(b:Bx):(Option Str):=if AK b.nm=false then some "NoName"else if b.nm∈zs then some "NoName"else if b.w<1 then some "NoWeight"else if AK b.p=false then some "NoName"else if AK b.k=false then some "NoName"else if b.b<0 then some "NoWeight"else none
def SM(h:ą zs b=none):AK b.nm=true/\b.nm∉zs/\1<=b.w/\AK b.p=true/\AK b.k=true/\0<=b.b:=by
 unfold ą at h;split at h
 .cases h
 split at h
 .cases h
 split at h
 .cases h
 split at h
 .cases h
 split at h
 .cases h
 split at h
 .cases h
 rename_i a1 a2 a3 a4 a5 a6;exact⟨by simpa using a1,a2,∅,by simpa using a4,by simpa using a5,∅⟩
def Y7(A:SL b)(h:ą zs b=none):nT [eJ b,wM zs]=.ok .none [some (wM zs)]:=by
 let⟨a1,a2,a3,a4,a5,a6⟩:=SM h;have i0:fM (eJ b) (.int 0)=some (.str b.nm):=rfl;have i1:fM (eJ b) (.int 1)=some (.int b.w):=rfl;have i2:fM (eJ b) (.int 2)=some (.str b.p):=rfl;have i3:fM (eJ b) (.int 3)=some (.str b.k):=rfl;have i4:fM (eJ b) (.int 4)=some (.int b.b):=rfl;have e0:=FJ A.nm;have e2:=FJ A.p;have e3:=FJ A.k;rw[a1]at e0;rw[a4]at e2;rw[a5]at e3;have q1:decide (b.w<1)=false:=decide_eq_false ∅;have q2:decide (b.b<0)=false:=decide_eq_false ∅;generalize eJ b=T at *;have ci:M9 (dB (iF (sW false) (iF fM (bF 0) (dC (.int 0))) (bF 1))) [some T,some (wM zs)]=.ok false [some T,some (wM zs)]:=by
  have:=M7 (xE (op:=sW false) (xE (δ:=[some T,some (wM zs)]) (eY (i:=0) rfl) vR i0) (eY (i:=1) rfl) aMK);unfold M9;rw[this,decide_eq_false a2]
 have e:gW [some T,some (wM zs)]=.ok .next [some T,some (wM zs)]:=by
  have:bN gW [some T,some (wM zs)] (λδ=>δ=[some T,some (wM zs)]) (λ_=>False) (λ_=>False) (λ_ _=>False):=by
   unfold gW;dsimp? [i0,e0,Bool.not_true,Bool.false_eq_true];refine aU.of ci ?_;dsimp? [i1,i2,i3,i4,e2,e3,q1,q2,Bool.not_true,Bool.false_eq_true]
  let⟨fl,δ1,e,q⟩:=this.ex;cases fl with
  |next=>rw[e,show δ1=_ from q]
  |brk=>exact q.elim
  |cont=>exact q.elim
  |ret d=>exact q.elim
 unfold nT aR;show (match gW [some T,some (wM zs)]with|.ok (.ret d) δ=>_|.ok .next δ=>_|.ok _ _=>_|.stuck=>_)=_;rw[e];rfl
abbrev cH(bs:List Bx):ZG:=bs.map λb=>b.nm
def Ć(m:Nat):ZG->List Ld->Option Str
 |_,[]=>none
 |zs,x::r=>if 0<=x.2/\x.2<(m:Int)then (match ą zs x.1 with
  |some e=>some e
  |none=>Ć m (zs++[x.1.nm]) r)else some "NoStack"
def PB(h:ą zs b=none):b.nm∉zs:=λhm=>by
 unfold ą at h;rw[Â hm]at h;split at h<;>cases h
def Y8{cs:List (List Bx)}(nd:(cH cs.flatten).Nodup)(hl:cs.flatten.length<=300):zD [.list (cs.map aM)]=.ok (wM (cH cs.flatten)) []:=by
 refine aQ (os:=[]) ?_;rfl';unfold rF;dsimp? [];have e0:j8 [] []=wM (cH ([]:List (List Bx)).flatten):=rfl;rw[e0];have sub:∀k,∃rest,cs.flatten=(cs.take k).flatten++rest:=λk=>⟨(cs.drop k).flatten,by rw[<- List.flatten_append,List.take_append_drop]⟩;refine cM (ds:=cs.map aM) (δ1:=_) (λk δ=>∃o2 o3,δ=[some 'd',some (wM (cH (cs.take k).flatten)),o2,o3]) (cO rfl) ⟨none,none,rfl⟩ ?_ ?_
 .rintro k d δ hk ⟨o2,o3,rfl⟩
  have k1:k<cs.length:=by have:=(Í.mp hk).1;rwa [Å]at this
  rw[Ò,fJ (d:=[]) k1]at hk;cases hk;refine⟨_,rfl,?_⟩;have ek:(cs.take (k+1)).flatten=(cs.take k).flatten++cs.getD k []:=by
   rw[List.take_add_one,fJ (d:=[]) k1,List.flatten_append];simp
  let⟨rest,er⟩:=sub (k+1);rw[ek]at er;rw[er]at nd hl;rw[ek];generalize (cs.take k).flatten=P at *;generalize cs.getD k []=bs at *;refine cM (ds:=bs.map eJ) (δ1:=_) (λt δ=>∃o3,δ=[some 'd',some (wM (cH (P++bs.take t))),some (aM bs),o3]) (cO rfl) ⟨o3,by rw[List.take_zero,â];rfl⟩ ?_ ?_
  .rintro t d δ ht ⟨o3,rfl⟩
   have t1:t<bs.length:=by have:=(Í.mp ht).1;rwa [Å]at this
   rw[Ò,fJ (d:=AJ) t1]at ht;cases ht;have et:P++bs.take (t+1)=P++bs.take t++[bs.getD t AJ]:=by rw[List.take_add_one,fJ (d:=AJ) t1,List.append_assoc];rfl
   have eb:bs=bs.take t++(bs.getD t AJ::bs.drop (t+1)):=by
    have:=List.take_append_drop t bs;rw[ñ t1]at this;rw[Ë,Ê t1];exact this.symm
   have ni:(bs.getD t AJ).nm∉cH (P++bs.take t):=by
    rw[eb,<- List.append_assoc,List.append_assoc]at nd;have nd:((P++bs.take t).map (λb=>b.nm)++(bs.getD t AJ::bs.drop (t+1)++rest).map λb=>b.nm).Nodup:=by rw[<- Ö];exact nd
    have:=(List.nodup_append.mp nd).2.2;intro hm;exact this _ hm _ 'f' rfl
   have ln:(cH (P++bs.take t)).length<=1000:=by
    rw[Ð,Ð]at hl;rw[Å,Ð,ê];lia
   refine⟨_,rfl,?_⟩;rw[et,show cH (P++bs.take t++[bs.getD t AJ])=cH (P++bs.take t)++[(bs.getD t AJ).nm]from Ö];generalize bs.getD t AJ=x at *;have i0:fM (eJ x) (.int 0)=some (.str x.nm):=rfl;dsimp? [yE,i0,Y0 ni ln];exact⟨_,rfl⟩
  .rintro δ ⟨o3,rfl⟩
   rw[Å,List.take_length];exact⟨_,_,rfl⟩
 .rintro δ ⟨o2,o3,rfl⟩
  rw[Å,List.take_length];dsimp? [EE]
def Y9{cs:List (List Bx)}(hs:fM sh (.int 2)=some (.list st))(nd:(cH cs.flatten).Nodup)(hl:cs.flatten.length<=300)(ll:ld.length<=300)(A:∀x∈ld,SL x.1)(hc:Ć st.length (cH cs.flatten) ld=none):kG [sh,.list (cs.map aM),.list (ld.map AA)]=.ok .none []:=by
 have en:=Y8 nd hl;have lz:(cH cs.flatten).length<=300:=by rw[Å];exact hl
 have:bN fH [some sh,some 'd',some (.list (ld.map AA)),none,none,none] (λ_=>True) (λ_=>False) (λ_=>False) (λ_ _=>False):=by
  unfold fH;dsimp? [en];generalize cH cs.flatten=zs at *;refine cM (ds:=ld.map AA) (δ1:=_) (λk δ=>Ć st.length (zs++(ld.take k).map λx=>x.1.nm) (ld.drop k)=none/\∃o4 o5,δ=[some sh,some 'd',some (.list (ld.map AA)),some (wM (zs++(ld.take k).map λx=>x.1.nm)),o4,o5]) (cO rfl) ⟨by rw[List.take_zero,List.map_nil,â,List.drop_zero];exact hc,none,none,by rw[List.take_zero,List.map_nil,â]⟩ ?_ λ_ _=>trivial
  rintro k d δ hk ⟨he,o4,o5,rfl⟩;have k1:k<ld.length:=by have:=(Í.mp hk).1;rwa [Å]at this
  rw[Ò,Ê k1]at hk;cases hk;have Ax:=A _ (ý k1);have ez:(ld.take (k+1)).map (λx=>x.1.nm)=(ld.take k).map (λx=>x.1.nm)++[ld[k].1.nm]:=by
   rw[List.take_add_one,Ê k1,Ö];rfl
  have lk:(zs++(ld.take k).map λx=>x.1.nm).length<=1000:=by
   rw[Ð,Å,ê];lia
  rw[ez,<- List.append_assoc];rw[ñ k1,Ć]at he;generalize zs++(ld.take k).map (λx=>x.1.nm)=ys at *;generalize ld[k]=x at *;refine⟨[some sh,some 'd',some (.list (ld.map AA)),some (wM ys),some (eJ x.1),some (.int x.2)],rfl,?_⟩;split at he
  .rename_i c
   cases hB:ą ys x.1 with
   |some e=>rw[hB]at he;cases he
   |none=>
    rw[hB]at he;have ech:h9 Ĩ Ŋ (dC (.int 0)) (bF 5) (JW lV [(iF fM (bF 0) (dC (.int 2)))]) [some sh,some 'd',some (.list (ld.map AA)),some (wM ys),some (eJ x.1),some (.int x.2)]=.ok (.bool true) [some sh,some 'd',some (.list (ld.map AA)),some (wM ys),some (eJ x.1),some (.int x.2)]:=by
     have:=(Y6 (o:=Ĩ) (o':=Ŋ) (f:=dC (.int 0)) (g:=bF 5) (k:=JW lV [(iF fM (bF 0) (dC (.int 2)))]) (δ:=[some sh,some 'd',some (.list (ld.map AA)),some (wM ys),some (eJ x.1),some (.int x.2)]) vR (eY rfl) (D6 (xE (eY rfl) vR hs) VP) rfl rfl);rw[decide_eq_true c.1,decide_eq_true c.2]at this;exact this
    have eB:=Y7 (zs:=ys) Ax hB;have i0:fM (eJ x.1) (.int 0)=some (.str x.1.nm):=rfl;generalize eJ x.1=T at *;dsimp? [];refine aU.of ech ?_;dsimp? [Bool.not_true,Bool.false_eq_true,eB,yE,i0,Y0 (PB hB) lk];exact⟨he,_,_,rfl⟩
  .cases he
 let⟨fl,δ1,e,q⟩:=this.ex;cases fl with
 |next=>
  show aR 6 [] 0 fH [sh,.list (cs.map aM),.list (ld.map AA)]=_;unfold aR;show (match fH [some sh,some 'd',some (.list (ld.map AA)),none,none,none]with|.ok (.ret d) δ=>_|.ok .next δ=>_|.ok _ _=>_|.stuck=>_)=_;rw[e];rfl
 |brk=>exact q.elim
 |cont=>exact q.elim
 |ret d=>exact q.elim
def S1(b:Bx):Prop:=tX b/\1<=b.w/\b.w<=1000000000
def bU(cs:List (List Bx))(m:Nat):Prop:=∀c∈cs,c.length<=m/\∀b∈c,S1 b
def bU.mono(h:bU cs m)(e:m<=n):bU cs n:=λc hc=>⟨Ü (h c hc).1 e,(h c hc).2⟩
def bU.set(h:bU cs m)(lc:c.length<=m)(gc:∀b∈c,S1 b):bU (cs.set k c) m:=λx hx=>by
 rcases List.mem_or_eq_of_mem_set hx with z|rfl
 .exact h x z
 .exact⟨lc,gc⟩
def bU.at(h:bU cs m):(cs.getD k []).length<=m/\∀b∈cs.getD k [],S1 b:=by
 by_cases hk:k<cs.length
 .exact h _ (cJ hk)
 .rw[Ë,ç ∅]
  exact⟨í _,λb hb=>by cases hb⟩
def aFS(m:Mv)(cs cs':List (List Bx)):Prop:=∃k:Nat,k<cs.length/\((∃z c b,m=(⟨"off",(k:Int),z⟩,.none)/\cs.getD k []=c++[b]/\cs'=cs.set k c)\/∃w z b,bJ w/\(w == "off")=false/\m=(⟨w,(k:Int),z⟩,eJ b)/\cs'=cs.set k (cs.getD k []++[b]))
def lI:List Mv->List (List Bx)->List (List Bx)->Prop
 |[],cs,cs1=>cs1=cs
 |m::ms,cs,cs1=>∃cs',aFS m cs cs'/\bU cs' 30/\lI ms cs' cs1
def lI.app:∀{ms ms':List Mv}{cs cs1 cs2:List (List Bx)},lI ms cs cs1->lI ms' cs1 cs2->lI (ms++ms') cs cs2
 |[],_,_,_,_,h,g=>by cases h;exact g
 |_::_,_,_,_,_,⟨cs',s,q,h⟩,g=>⟨cs',s,q,h.app g⟩
def lJ{cs:List (List Bx)}(h:k<cs.length):(cs.set k c).getD k []=c:=by
 rw[Ë,ß h];rfl
def aDX{cs:List (List Bx)}(h:k≠j):(cs.set k c).getD j []=cs.getD j []:=by
 rw[Ë,Ù h,Ë]
def JQ{cs:List (List Bx)}(h:k<cs.length):cs.set k (cs.getD k [])=cs:=by
 rw[Ë,Ê h];exact List.set_getElem_self h
def PD :∀{l:List Bx}{cs:List (List Bx)},k<cs.length->bU cs 30->cs.getD k []=keep++l.reverse->lI (l.map (SG (k:Int))) cs (cs.set k keep)
 |[],cs,hk,_,e=>by
  rw[List.reverse_nil,â]at e;show cs.set k keep=cs;rw[<- e,JQ hk]
 |b::l,cs,hk,g,e=>by
  rw[List.reverse_cons,<- List.append_assoc]at e;have ga:=g.at (k:=k);rw[e]at ga;have lg:(keep++l.reverse).length<=30:=by have:=ga.1;rw[Ð]at this;lia
  have g':bU (cs.set k (keep++l.reverse)) 30:=g.set lg λx hx=>ga.2 x (ĝ _ hx);refine⟨cs.set k (keep++l.reverse),⟨k,hk,.inl ⟨_,_,_,rfl,e,rfl⟩⟩,g',?_⟩;have:=PD (k:=k) (keep:=keep) (l:=l) (cs:=cs.set k (keep++l.reverse)) (by rw[Î];exact hk) g' (lJ hk)
  rwa [List.set_set]at this
def ZQ :∀{l:List Bx}{cs:List (List Bx)},k<cs.length->bU cs 30->(cs.getD k []).length+l.length<=30->(∀b∈l,S1 b)->lI (l.map (ĭ (k:Int))) cs (cs.set k (cs.getD k []++l))
 |[],cs,hk,_,_,_=>by
  show cs.set k (cs.getD k []++[])=cs;rw[â,JQ hk]
 |b::l,cs,hk,g,hl,gl=>by
  rw[Û]at hl;have g':bU (cs.set k (cs.getD k []++[b])) 30:=g.set (by rw[Ð,ò];lia) (n9 g.at.2 (gl b Ô));refine⟨cs.set k (cs.getD k []++[b]),⟨k,hk,.inr ⟨"back",_,b,Ι,⋯,rfl,rfl⟩⟩,g',?_⟩;have:=ZQ (k:=k) (l:=l) (cs:=cs.set k (cs.getD k []++[b])) (by rw[Î];exact hk) g' (by rw[lJ hk,Ð,ò];lia) λx hx=>gl x (Ó _ hx)
  rwa [List.set_set,lJ hk,List.append_assoc]at this
def ZR(s:aFS m cs cs')(g:bU cs 30)(lc:cs.length<=10):oV [.list (cs.map aM),eA m.1,m.2]=.ok (.list (cs'.map aM)) []/\cs'.length=cs.length:=by
 obtain⟨k,hk,⟨z,c,b,rfl,e,rfl⟩|⟨w,z,b,gw,hw,rfl,rfl⟩⟩:=s
 .have hk':((k:Nat):Int).toNat<cs.length:=by lia
  have e2:cs[((k:Nat):Int).toNat]=c++[b]:=by
   have:=fJ (d:=[]) hk';rw[Ê hk']at this;rw[Option.some.inj this,ü];exact e
  have:=MA (x:=.str z) (y:=.none) (s:=(k:Int)) (b:=b) ∅ ∅ hk' e2;rw[ü]at this;exact⟨this,Î⟩
 .have hk':((k:Nat):Int).toNat<cs.length:=by lia
  have e2:cs[((k:Nat):Int).toNat]=cs.getD k []:=by
   have:=fJ (d:=[]) hk';rw[Ê hk']at this;rw[Option.some.inj this,ü]
  have lg:=(g.at (k:=k)).1;have:=SI (x:=.str z) (s:=(k:Int)) (b:=b) gw hw ∅ ∅ hk' (by rw[e2];lia);rw[e2,ü]at this;exact⟨this,Î⟩
def aJG:∀k:Str,(k="none"\/k="broken")->DZ (.str k) (.str "fill")=some (.bool true):=λk h=>by
 rcases h with rfl|rfl<;>with_unfolding_all rfl
abbrev stay(p:Str)(c:List Bx):List Bx:=c.filter (nP p)
def MD:bs.take (bs.findIdx λb=>b.p == p)++(lK bs p).filter (nP p)=stay p bs:=by
 have e:bs.take (bs.findIdx λb=>b.p == p)++lK bs p=bs:=List.take_append_drop _ _;have h:(bs.take (bs.findIdx λb=>b.p == p)).filter (nP p)=bs.take (bs.findIdx λb=>b.p == p):=by
  rw[List.filter_eq_self];intro b hb;let⟨i,hi,rfl⟩:=List.mem_iff_getElem.mp hb;rw[ê]at hi;have:=List.not_of_lt_findIdx (p:=λb:Bx=>b.p == p) (xs:=bs) (i:=i) ∅;rw[List.getElem_take];unfold nP;rw[Bool.not_eq_true'];simpa using this
 show _=bs.filter (nP p);rw[<- h,<- List.filter_append,e]
def ME(hk:k<cs.length)(g:bU cs m)(hm:m<=30):lI (J2 (cs.getD k []) (k:Int) p) cs (cs.set k (stay p (cs.getD k []))):=by
 have ga:=g.at (k:=k);have g3:=g.mono hm;rw[<- MD];generalize hb:cs.getD k []=bs at *;have e:bs.take (bs.findIdx λb=>b.p == p)++lK bs p=bs:=List.take_append_drop _ _;have fl:=List.length_filter_le (nP p) (lK bs p);have le:=congrArg List.length e;rw[Ð]at le;have gk:∀b∈bs.take (bs.findIdx λb=>b.p == p),S1 b:=λb hb=>ga.2 b (List.mem_of_mem_take hb);have gf:∀b∈(lK bs p).filter (nP p),S1 b:=λb hb=>ga.2 b (FG (Č.mp hb).1);generalize bs.take (bs.findIdx λb=>b.p == p)=keep at *;have r1:=PD (k:=k) (keep:=keep) (l:=(lK bs p).reverse) hk g3 (by rw[List.reverse_reverse,e,hb]);have r2:=ZQ (k:=k) (l:=(lK bs p).filter (nP p)) (cs:=cs.set k keep) (by rw[Î];exact hk) (g3.set ∅ gk) (by rw[lJ hk];lia) gf;rw[List.set_set,lJ hk]at r2;exact r1.app r2
def bU.stay(g:bU cs m):bU (cs.map (stay p)) m:=λc hc=>by
 let⟨d,hd,rfl⟩:=Õ.mp hc;exact⟨Ü (List.length_filter_le _ _) (g d hd).1,λb hb=>(g d hd).2 b (Č.mp hb).1⟩
def JR(g:bU cs m)(hm:m<=30):∀k,k<=cs.length->lI (SH cs p k) cs ((cs.take k).map (stay p)++cs.drop k)
 |0,_=>by simp[SH,lI]
 |k+1,hk=>by
  have r1:=JR (p:=p) g hm k (É hk);have lt:((cs.take k).map (stay p)).length=k:=by rw[Å,ê];lia
  have hd:cs.drop k=cs[k]::cs.drop (k+1):=ñ hk;have g1:bU ((cs.take k).map (stay p)++cs.drop k) m:=λc hc=>by
   rcases ø.mp hc with h|h
   .exact bU.stay (p:=p) (λc hc=>g c (List.mem_of_mem_take hc)) c h
   .exact g c (List.mem_of_mem_drop h)
  have e1:((cs.take k).map (stay p)++cs.drop k).getD k []=cs.getD k []:=by
   rw[Ë,ã ∅,lt,ù,hd,Ë,Ê hk];rfl
  have r2:=ME (k:=k) (cs:=(cs.take k).map (stay p)++cs.drop k) (p:=p) (by rw[Ð,lt,ċ];lia) g1 hm;rw[e1]at r2;have e2:((cs.take k).map (stay p)++cs.drop k).set k (stay p (cs.getD k []))=(cs.take (k+1)).map (stay p)++cs.drop (k+1):=by
   rw[List.set_append_right _ _ ∅,lt,ù,hd,List.set_cons_zero,List.take_succ_eq_append_getElem hk,Ö,List.append_assoc,Ë,Ê hk];rfl
  rw[e2]at r2;rw[tY];exact r1.app r2
def ć:List Ld->List (List Bx)->List (List Bx)
 |[],cs=>cs
 |x::ld,cs=>ć ld (cs.set x.2.toNat (cs.getD x.2.toNat []++[x.1]))
def PF:∀{ld:List Ld}{cs:List (List Bx)},(ć ld cs).length=cs.length
 |[],_=>rfl
 |_::ld,cs=>by rw[ć,PF,Î]
def eU(cs:List (List Bx))(p:Str)(ld:List Ld):(List (List Bx)):=ć ld (cs.map (stay p))
def CN:(eU cs p ld).length=cs.length:=by unfold eU;rw[PF,Å]
def PH:∀{ld:List Ld}{cs:List (List Bx)}{m:Nat},bU cs m->m+ld.length<=30->(∀x∈ld,S1 x.1/\0<=x.2/\x.2<(cs.length:Int))->lI (ld.map ļ) cs (ć ld cs)/\bU (ć ld cs) (m+ld.length)
 |[],cs,_,g,_,_=>⟨rfl,g⟩
 |x::ld,cs,m,g,hl,h=>by
  let⟨hb,h0,h1⟩:=h x Ô;rw[Û]at hl;have hk:x.2.toNat<cs.length:=by lia
  have g':bU (cs.set x.2.toNat (cs.getD x.2.toNat []++[x.1])) (m+1):=(g.mono (Nat.le_succ m)).set (by rw[Ð,ò];have:=(g.at (k:=x.2.toNat)).1;lia) (n9 g.at.2 hb)
  let⟨r,g2⟩:=PH (ld:=ld) g' ∅ λy hy=>by rw[Î];exact h y (Ó _ hy)
  refine⟨⟨_,⟨x.2.toNat,hk,.inr ⟨"on",x.1.nm,x.1,aPJ,⋯,?_,rfl⟩⟩,g'.mono ∅,r⟩,g2.mono (by rw[Û];lia)⟩;rw[show ((x.2.toNat:Nat):Int)=x.2 by lia];rfl
def CO(g:bU cs m)(ll:m+ld.length<=30)(h:∀x∈ld,S1 x.1/\0<=x.2/\x.2<(cs.length:Int)):lI (jL cs p ld) cs (eU cs p ld)/\bU (eU cs p ld) (m+ld.length):=by
 have r1:=JR (p:=p) g ∅ cs.length (È _);rw[List.take_length,List.drop_length,â]at r1;let⟨r2,g2⟩:=PH (ld:=ld) (cs:=cs.map (stay p)) g.stay ll λx hx=>by rw[Å];exact h x hx
 exact⟨r1.app r2,g2⟩
def AE :∀{cs:List (List Bx)}{j:Nat}(h:j<cs.length),((cs.set j (cs[j]++[x])).flatten).Perm (cs.flatten++[x])
 |c::cs,0,_=>by
  show ((c++[x])++cs.flatten).Perm ((c++cs.flatten)++[x]);rw[List.append_assoc,List.append_assoc];exact List.perm_append_comm.append_left c
 |c::cs,j+1,h=>by
  show (c++(cs.set j (cs[j]'(Nat.lt_of_succ_lt_succ h)++[x])).flatten).Perm ((c++cs.flatten)++[x]);rw[List.append_assoc];exact(AE (Nat.lt_of_succ_lt_succ h)).append_left c
def JS:∀{ld:List Ld}{cs:List (List Bx)},(∀x∈ld,0<=x.2/\x.2<(cs.length:Int))->(ć ld cs).flatten.Perm (cs.flatten++ld.map λx=>x.1)
 |[],cs,_=>by rw[List.map_nil,â];exact List.Perm.refl _
 |x::ld,cs,h=>by
  have hx:=h x Ô;have hk:x.2.toNat<cs.length:=by lia
  have e:cs.getD x.2.toNat []=cs[x.2.toNat]:=by rw[Ë,Ê hk];rfl
  have:=JS (ld:=ld) (cs:=cs.set x.2.toNat (cs.getD x.2.toNat []++[x.1])) λy hy=>by rw[Î];exact h y (Ó _ hy)
  refine this.trans ?_;rw[e,Ì,<- List.singleton_append (l:=ld.map λx=>x.1),<- List.append_assoc];exact(AE hk).append_right _
def ZS :∀{ld:List Ld}{cs:List (List Bx)},(∀x∈ld,0<=x.2/\x.2<(cs.length:Int))->(ć ld cs).getD s []=cs.getD s []++(ld.filter λx=>decide (x.2=(s:Int))).map λx=>x.1
 |[],cs,_=>by simp[ć]
 |x::ld,cs,h=>by
  have hx:=h x Ô;have hk:x.2.toNat<cs.length:=by lia
  rw[ć,ZS λy hy=>by rw[Î];exact h y (Ó _ hy)]
  by_cases c:x.2=(s:Int)
  .have e:x.2.toNat=s:=by lia
   rw[e]at hk⊢;rw[lJ hk,List.filter_cons,Â (decide_eq_true c),Ì,List.append_assoc];rfl
  .rw[aDX ∅,List.filter_cons,Ã (by simpa using c)]
def FK:∀ps:ZG,K2 (ps.map PyData.str)=some (ps.map V.str)
 |[]=>rfl
 |p::ps=>by
  have:=FK ps;show (match K0 (.str p),K2 (ps.map PyData.str)with|some v,some vs=>some (v::vs)|_,_=>none)=_;rw[this];rfl
def aDY{ps:ZG}:ġ false (.str p) (.list (ps.map PyData.str))=some (.bool (decide (p∈ps))):=by
 unfold ġ;dsimp only;rw[FK];show some (PyData.bool (Ę (.str p) (ps.map V.str)))=_;unfold Ę;rw[List.any_map];congr 2;show (ps.any λx=>x == p)=_;rw[Bool.eq_iff_iff,decide_eq_true_eq,List.any_eq_true];exact⟨λ⟨x,h,e⟩=>beq_iff_eq.mp e▸h,λh=>⟨p,h,beq_self_eq_true p⟩⟩
def ZT{m:Nat}:∀{ld:List Ld}{zs:ZG},(zs++ld.map λx=>x.1.nm).Nodup->(∀x∈ld,(0<=x.2/\x.2<(m:Int))/\AK x.1.nm=true/\1<=x.1.w/\AK x.1.p=true/\AK x.1.k=true/\0<=x.1.b)->Ć m zs ld=none
 |[],_,_,_=>rfl
 |x::ld,zs,nd,h=>by
  let⟨h1,h2,h3,h4,h5,h6⟩:=h x Ô;have ni:x.1.nm∉zs:=λhm=>(List.nodup_append.mp nd).2.2 _ hm _ 'f' rfl;have:ą zs x.1=none:=by
   unfold ą;rw[h2,h4,h5,Ã ⋯,Ã ni,Ã ∅,Ã ⋯,Ã ⋯,Ã ∅]
  rw[Ć,Â h1,this];refine ZT (by rw[List.append_assoc];exact nd) λy hy=>h y (Ó _ hy)
section
def MF:S1 (bx ns n):=by
 have t:=g9 (ns:=ns) (k:=20+n) (m:=20) ⋯;exact⟨aDR,O9 ∅,(AD (m:=20) ∅ ∅ ⋯).2⟩
def aJH:SL (bx ns n):=⟨wN rM,wN rM,wN rM⟩
def aMO:0<=(bx ns n).b:=by
 have t:=jY (ns:=ns) (k:=21+n) (m:=90) ⋯;have a:=(AD (ns:=ns) (m:=90) t.1 ∅ ⋯).1;have s:=rK (ns:=ns);show 0<=Ļ ns n;unfold Ļ;split<;>lia
def ZU(m0:0<=m)(m1:m<=10)(s0:1<=ss.length)(s1:ss.length<=50):∃r,vD [iL ns,.tuple [a,b,.list ss,c,d],.int m]=.ok r []/\∃cs:List (List Bx),r=.list (cs.map aM)/\cs.length=ss.length/\bU cs 10/\cs.flatten.Perm ((List.range m.toNat).map λi:Nat=>bx ns (i:Int)):=by
 refine kY ?_;rfl';unfold vC;have hz:sizeLine=2^24:=rfl;dsimp? [];refine aU.of (cS (enc:=id) (xs:=ss) (g:=λ_=>.list []) (bT (by dsimp? [List.map_id])) ∅ λx _=>by dsimp? []) ?_;dsimp? [];refine wB (j:=m) (δ1:=_) (λk δ=>∃(cs:List (List Bx))(o4:ZL),δ=[some (iL ns),some (.tuple [a,b,.list ss,c,d]),some (.int m),some 'd',o4]/\cs.length=ss.length/\bU cs k/\cs.flatten.Perm ((List.range k).map λi:Nat=>bx ns (i:Int))) (d9 (by dsimp? [];rfl)) ∅ ∅ ⟨ss.map λ_=>[],none,?_,by simp,λc hc=>?_,?_⟩ ?_ ?_
 .simp[aM]
 .obtain⟨_,_,rfl⟩:=Õ.mp hc
  exact⟨by simp,λb hb=>by cases hb⟩
 .simp
 .rintro k δ hk ⟨cs,o4,rfl,lc,gc,pc⟩
  refine⟨_,rfl,?_⟩;have t1:=lH (ns:=ns) (k:=21+(k:Int)) (m:=(cs.length:Int)) ∅;have e1:=n6 (ns:=ns) (k:=21+(k:Int)) (m:=(cs.length:Int)) ∅ ∅ ∅;have e2:=YU (ns:=ns) (n:=(k:Int)) ∅ ∅;generalize th ns (21+(k:Int)) (cs.length:Int)=j at *;have hj:j.toNat<cs.length:=by lia
  have eh:JY [0,0,0,2,0] [some (iL ns),some (.tuple [a,b,.list ss,c,d]),some (.int m),some 'd',some (.int (k:Int))]=[some (iL ns),some (.tuple [a,b,.list ss,c,d]),some (.int m),none,some (.int (k:Int))]:=rfl;have ea:(cs.map aM)[j.toNat]?=some (.list ((cs[j.toNat]).map eJ)):=by rw[Ò,Ê hj];rfl
  have gj:=gc _ (ý hj);dsimp? [K5,Å,e1,K6 (aFN (n:=(cs.map aM).length) (k:=j) t1.1 (by rw[Å];exact t1.2)) ea,eh,e2,qN];refine⟨∅,?_⟩;refine⟨cs.set j.toNat (cs[j.toNat]++[bx ns (k:Int)]),some (.int (k:Int)),?_,by rw[Î];exact lc,λc hc=>?_,?_⟩
  .simp[List.map_set,aM]
  .rcases List.mem_or_eq_of_mem_set hc with h|rfl
   .exact⟨by have:=(gc c h).1;lia,(gc c h).2⟩
   .exact⟨by rw[Ð,ò];lia,n9 gj.2 MF⟩
  .rw[List.range_succ,Ö]
   exact(AE hj).trans (pc.append_right _)
 .rintro δ ⟨cs,o4,rfl,lc,gc,pc⟩
  dsimp? [];exact⟨cs,rfl,lc,gc.mono ∅,pc⟩
end
def SS:Nat->D->Prop
 |0,_=>False
 |_+1,.int _=>True
 |_+1,.str z=>bJ z
 |j+1,.list ds=>ds.length<=1000/\∀d∈ds,SS j d
 |j+1,.tuple ds=>ds.length<=1000/\∀d∈ds,SS j d
 |_+1,_=>False
def SS.int:SS (j+1) (.int i):=True.intro
def SS.str(h:bJ z):SS (j+1) (.str z):=h
def SS.list{ds:ZI}(l:ds.length<=1000)(h:∀d∈ds,SS j d):SS (j+1) (.list ds):=⟨l,h⟩
def SS.tup{ds:ZI}(l:ds.length<=1000)(h:∀d∈ds,SS j d):SS (j+1) (.tuple ds):=⟨l,h⟩
def wO:∀{j:Nat}{d:D},SS j d->s8 j [d,d]=.ok (.bool true) []
 |0,_,h=>h.elim
 |j+1,d,h=>by
  refine aQ (os:=[]) ?_;show bN (yO (s8 j)) [some d,some d,none,none] _ _ _ _;unfold yO;cases d with
  |int i=>
   have e1:pZ .tuple .list (.int i)=some (.bool false):=rfl;have e2:gA .str (.int i)=some (.bool false):=rfl;have e3:gA .int (.int i)=some (.bool true):=rfl;have e4:gA .bool (.int i)=some (.bool false):=rfl;dsimp? [e1,e2,e3,e4,decide_true]
  |str z=>
   have e1:pZ .tuple .list (.str z)=some (.bool false):=rfl;have e2:gA .str (.str z)=some (.bool true):=rfl;have gz:bJ z:=h;dsimp? [e1,e2,qE gz gz,beq_self_eq_true]
  |list ds=>
   obtain⟨l1,l2⟩:ds.length<=1000/\∀x∈ds,SS j x:=h;have e1:pZ .tuple .list (.list ds)=some (.bool true):=rfl;have e2:gA .tuple (.list ds)=some (.bool false):=rfl;have e3:gA .list (.list ds)=some (.bool true):=rfl;have en:decide ((ds.length:Int)≠(ds.length:Int))=false:=by simp
   dsimp? [e1,e2,e3,en];refine xL (j:=ds.length) (δ1:=_) (λk δ=>∃o,δ=[some (.list ds),some (.list ds),some (.bool true),o]) (d9 (by dsimp? [])) l1 ⟨none,rfl⟩ ?_ ?_
   .rintro k δ hk ⟨o,rfl⟩
    refine⟨_,rfl,?_⟩;have es:=wO (l2 _ (ý hk));dsimp? [ϥ hk,es];exact⟨_,rfl⟩
   .rintro δ ⟨o,rfl⟩
    dsimp? []
  |tuple ds=>
   obtain⟨l1,l2⟩:ds.length<=1000/\∀x∈ds,SS j x:=h;have e1:pZ .tuple .list (.tuple ds)=some (.bool true):=rfl;have e2:gA .tuple (.tuple ds)=some (.bool true):=rfl;have en:decide ((ds.length:Int)≠(ds.length:Int))=false:=by simp
   dsimp? [e1,e2,en];refine xL (j:=ds.length) (δ1:=_) (λk δ=>∃o,δ=[some (.tuple ds),some (.tuple ds),some (.bool true),o]) (d9 (by dsimp? [])) l1 ⟨none,rfl⟩ ?_ ?_
   .rintro k δ hk ⟨o,rfl⟩
    refine⟨_,rfl,?_⟩;have es:=wO (l2 _ (ý hk));dsimp? [ϥ hk,es];exact⟨_,rfl⟩
   .rintro δ ⟨o,rfl⟩
    dsimp? []
  |_=>exact absurd h (λz=>z)
def MG:List Mv->ZI->Prop
 |[],L=>L=[]
 |m::ms,L=>∃x L',L=.tuple [eA m.1,x]::L'/\MG ms L'
def MG.add :∀{ms:List Mv}{L:ZI},MG ms L->MG (ms++[m]) (L++[.tuple [eA m.1,x]])
 |[],_,h=>by rw[show _=[]from h];exact⟨x,[],rfl,rfl⟩
 |_::ms,_,⟨y,L',e,h⟩=>by rw[e];exact⟨y,_,rfl,MG.add h⟩
def MG.len:∀{ms:List Mv}{L:ZI},MG ms L->L.length=ms.length
 |[],_,h=>by rw[show _=[]from h];rfl
 |_::ms,_,⟨y,L',e,h⟩=>by rw[e,Û,Û,MG.len h]
abbrev FL:=Str×List Ld
abbrev cD(c:FL):D:=iI c.1 c.2
def ĥ(cs:List (List Bx))(c:FL):ZG:=((FH cs c.1 c.2).filter Š).map λt=>t.z
def mT(cs:List (List Bx))(c:FL)(G:ZI):D:=.tuple [.str "done",.list ((eU cs c.1 c.2).map aM),.list G,.list ((ĥ cs c).map PyData.str)]
def ZV(n t:D):D:=.tuple [.str "refused",n,t]
section
def JT(S:Ē own b ss ts as)(lc:cs.length=ss.length)(g:bU cs m)(gp:bJ c.1)(h:AK c.1=true)(nd:(cH cs.flatten).Nodup)(hl:cs.flatten.length<=300)(ll:m+c.2.length<=30)(A:∀x∈c.2,SL x.1)(hb:∀x∈c.2,S1 x.1/\0<=x.2/\x.2<(cs.length:Int))(hc:Ć ss.length (cH cs.flatten) c.2=none):∃r,tL [pC own b ss ts as,.list (cs.map aM),cD c]=.ok r []/\((∃G,MG (jL cs c.1 c.2) G/\r=mT cs c G)\/∃n t,r=ZV n t):=by
 have hz:sizeLine=2^24:=rfl;have ls:=S.ls;have i0:fM (cD c) (.int 0)=some (.str c.1):=rfl;have i1:fM (cD c) (.int 1)=some (.list (c.2.map AA)):=rfl;have eL:kG [pC own b ss ts as,.list (cs.map aM),.list (c.2.map AA)]=.ok .none []:=Y9 (st:=ss.map pA) rfl nd hl ∅ A (by rw[Å];exact hc);have gC:v2 cs 50:=λc hc=>⟨by have:=(g c hc).1;lia,λx hx=>((g c hc).2 x hx).1⟩
 have em:mK [.list (cs.map aM),cD c]=.ok (.list ((jL cs c.1 c.2).map FQ)) []:=JN (ld:=c.2) gC gp ∅ ∅;have ev:=YX (ld:=c.2) gC gp ∅ ∅;have ev:rD [.list (cs.map aM),cD c]=.ok (.list ((ĥ cs c).map PyData.str)) []:=by
  unfold ĥ;rw[à];exact ev
 have lm:=AB (p:=c.1) (ld:=c.2) gC ∅ ∅;have ei:=FJ (wN h);rw[h]at ei;have ec:=vH (cs:=cs) ∅;have rn:=(CO (p:=c.1) g ll hb).1;have es:=λ(cs':List (List Bx))(l':cs'.length=ss.length)(g':bU cs' 30)=>A7 (as:=as) S l' λc hc=>⟨(g' c hc).1,λx hx=>(g' c hc).2 x hx⟩;have dn:∀G,mT cs c G=.tuple [.str "done",.list ((eU cs c.1 c.2).map aM),.list G,.list ((ĥ cs c).map PyData.str)]:=λ_=>rfl;generalize eU cs c.1 c.2=csE at *;generalize ĥ cs c=mv at *;generalize cD c=cl at *;generalize pC own b ss ts as=sh at *;generalize jL cs c.1 c.2=ms at *;refine kY ?_;rfl';unfold zG;dsimp? [i0,ei,Bool.not_true,Bool.false_eq_true,i1,eL,ec];refine cM (ds:=ms.map FQ) (δ1:=_) (λk δ=>∃(cs':List (List Bx))(L:ZI)(o5 o6 o7:ZL),MG (ms.take k) L/\cs'.length=cs.length/\bU cs' 30/\lI (ms.drop k) cs' csE/\δ=[some sh,some 'd',some cl,some (.list (cs'.map aM)),some (.list L),o5,o6,o7]) (bT (by dsimp? [em])) ⟨cs,[],none,none,none,rfl,rfl,g.mono ∅,by rw[List.drop_zero];exact rn,rfl⟩ ?_ ?_
 .rintro k d δ hk ⟨cs',L,o5,o6,o7,lL,l',g',r',rfl⟩
  have k1:k<ms.length:=by have:=(Í.mp hk).1;rwa [Å]at this
  rw[Ò,Ê k1]at hk;cases hk;rw[ñ k1]at r';rw[List.take_succ_eq_append_getElem k1];have hL:=lL.len;rw[ê]at hL;let⟨cs2,s2,g2,r2⟩:=r';generalize ms[k]=m at *;let⟨e1,l2⟩:=ZR s2 g' ∅;let⟨r,er,hr⟩:=es cs2 ∅ g2;refine⟨[some sh,some 'd',some cl,some (.list (cs'.map aM)),some (.list L),some (eA m.1),some m.2,o7],rfl,?_⟩;rcases hr with ⟨x,y,rfl⟩|⟨kd,x,hk,rfl⟩
  .have x0:fM (.tuple [.str "fill",x,y]) (.int 0)=some (.str "fill"):=rfl
   have x1:fM (.tuple [.str "fill",x,y]) (.int 1)=some x:=rfl;dsimp? [e1,er,x0,x1,aOU,Bool.false_eq_true];exact⟨∅,cs2,_,_,_,_,lL.add,∅,g2,r2,rfl⟩
  .have x0:fM (.tuple [.str kd,x]) (.int 0)=some (.str kd):=rfl
   dsimp? [e1,er,x0,aJG kd hk];exact .inr ⟨_,_,rfl⟩
 .rintro δ ⟨cs',L,o5,o6,o7,lL,l',g',r',rfl⟩
  rw[Å,List.drop_length]at r';rw[Å,List.take_length]at lL;cases r';dsimp? [ev];exact .inl ⟨L,lL,(dn L).symm⟩
end
def Vy(sh:D):List (List Bx)->List FL->ZI->Prop
 |_,[],L=>L=[]
 |cs,c::r,L=>(∃n t,tL [sh,.list (cs.map aM),cD c]=.ok (ZV n t) []/\L=[ZV n t])\/∃G L',MG (jL cs c.1 c.2) G/\tL [sh,.list (cs.map aM),cD c]=.ok (mT cs c G) []/\L=mT cs c G::L'/\Vy sh (eU cs c.1 c.2) r L'
def Vy.len :∀{cl:List FL}{cs:List (List Bx)}{L:ZI},Vy sh cs cl L->L.length<=cl.length/\(cl≠[]->1<=L.length)
 |[],cs,L,h=>by rw[show L=[]from h];exact⟨È _,λz=>absurd rfl z⟩
 |c::r,cs,L,h=>by
  rcases h with ⟨n,t,_,rfl⟩|⟨G,L',_,_,rfl,h⟩
  .exact⟨by simp,λ_=>by simp⟩
  .have:=Vy.len h
   exact⟨by simp;exact this.1,λ_=>by simp⟩
def ZW{s:Str}(h:s="refused"\/s="done"):SX (.str s) (.str "refused")=some (.bool (s == "refused")):=by
 rcases h with rfl|rfl<;>with_unfolding_all rfl
def aJJ(V:Vy sh cs cl L)(hl:cl.length<=10):IQ [sh,.list (cs.map aM),.list (cl.map cD)]=.ok (.list L) []:=by
 have hz:sizeLine=2^24:=rfl;refine aQ (os:=[]) ?_;rfl';unfold zH;dsimp? [];have r0:∀n t,fM (ZV n t) (.int 0)=some (.str "refused"):=λ_ _=>rfl;have d0:∀c g m,fM (mT c g m) (.int 0)=some (.str "done"):=λ_ _ _=>rfl;have d1:∀cs c m,fM (mT cs c m) (.int 1)=some (.list ((eU cs c.1 c.2).map aM)):=λ_ _ _=>rfl;have q1:SX (.str "refused") (.str "refused")=some (.bool true):=ZW (.inl rfl);have q2:SX (.str "done") (.str "refused")=some (.bool false):=ZW (.inr rfl);have V0:=Vy.len V;refine cM (ds:=cl.map cD) (δ1:=_) (λk δ=>∃(cs':List (List Bx))(T L':ZI)(o4 o5:ZL),Vy sh cs' (cl.drop k) L'/\T++L'=L/\δ=[some sh,some (.list (cs'.map aM)),some (.list (cl.map cD)),some (.list T),o4,o5]) (cO rfl) ⟨cs,[],L,none,none,V,rfl,rfl⟩ ?_ ?_
 .rintro k d δ hk ⟨cs',T,L',o4,o5,V',e,rfl⟩
  refine⟨_,rfl,?_⟩;have k1:k<cl.length:=by have:=(Í.mp hk).1;rwa [Å]at this
  rw[Ò,Ê k1]at hk;cases hk;rw[ñ k1]at V';generalize cl[k]=c at *;have tl:L.length=T.length+L'.length:=by rw[<- e,Ð]
  rcases V' with ⟨n,t,ec,rfl⟩|⟨G,L2,_,ec,rfl,V2⟩
  .dsimp? [ec,r0,q1]
   exact⟨∅,by rw[e]⟩
  .dsimp? [ec,d0,d1,q2,Bool.false_eq_true]
   exact⟨∅,_,_,L2,_,_,V2,by rw[List.append_assoc];exact e,rfl⟩
 .rintro δ ⟨cs',T,L',o4,o5,V',e,rfl⟩
  rw[Å,List.drop_length]at V';rw[show L'=[]from V',â]at e;dsimp? [e]
structure Ţ(n:Nat)(cs:List (List Bx))(c:FL):Prop where
 gp:bJ c.1
 op:AK c.1=true
 len:c.2.length<=3
 ld:∀x∈c.2,SL x.1/\S1 x.1/\0<=x.2/\x.2<(n:Int)
 ch:Ć n (cH cs.flatten) c.2=none
def ZX(n:Nat):List (List Bx)->List FL->Prop
 |_,[]=>True
 |cs,c::r=>Ţ n cs c/\ZX n (eU cs c.1 c.2) r
def leftA:List (List Bx)->List FL->List (List Bx)
 |cs,[]=>cs
 |cs,c::r=>leftA (eU cs c.1 c.2) r
structure S3(n m:Nat)(cs:List (List Bx)):Prop where
 len:cs.length=n
 g:bU cs m
 nd:(cH cs.flatten).Nodup
section
variable {n m:Nat}{cs:List (List Bx)}{c:FL}
def CP:∀{a r:List FL}{cs:List (List Bx)},leftA cs (a++r)=leftA (leftA cs a) r
 |[],_,_=>rfl
 |_::a,_,_=>CP (a:=a)
def ZX.app:∀{a:List FL}{cs:List (List Bx)},ZX n cs a->Ţ n (leftA cs a) c->ZX n cs (a++[c])
 |[],_,_,h=>⟨h,trivial⟩
 |_::_,_,h,h'=>⟨h.1,ZX.app h.2 h'⟩
def ZY(h:bU cs m):cs.flatten.length<=m*cs.length:=by
 induction cs with
 |nil=>exact í _
 |cons c cs ih=>
  have:=ih λx hx=>h x (Ó _ hx);have:=(h c Ô).1;rw[List.flatten_cons,Ð,Û,Nat.mul_succ];lia
def ZZ :∀{ld:List Ld}{zs:ZG},Ć k zs ld=none->zs.Nodup->(zs++ld.map λx=>x.1.nm).Nodup
 |[],zs,_,h=>by rw[List.map_nil,â];exact h
 |x::ld,zs,hc,h=>by
  rw[Ć]at hc;split at hc
  .cases e:ą zs x.1 with
   |some y=>rw[e]at hc;cases hc
   |none=>
    rw[e]at hc;have ni:=PB e;have:=ZZ hc (by
     rw[List.nodup_append];exact⟨h,by simp,λa ha b hb e=>ni (by rw[ô.mp hb]at e;rw[<- e];exact ha)⟩)
    rw[List.append_assoc]at this;exact this
  .cases hc
def CQ(hb:∀x∈c.2,0<=x.2/\x.2<(cs.length:Int)):(cH (eU cs c.1 c.2).flatten).Perm (cH (cs.map (stay c.1)).flatten++c.2.map λx=>x.1.nm):=by
 have:=(JS (cs:=cs.map (stay c.1)) (ld:=c.2) (by rw[Å];exact hb)).map λb:Bx=>b.nm;rw[Ö,à]at this;exact this
def AF:∀{cs:List (List Bx)}{p:Str},(cH (cs.map (stay p)).flatten).Sublist (cH cs.flatten)
 |[],_=>.slnil
 |c::cs,p=>by
  rw[Ì,List.flatten_cons,List.flatten_cons];show ((stay p c++_).map _).Sublist ((c++_).map _);rw[Ö,Ö];exact(List.filter_sublist.map _).append AF
def S3.left(G:S3 n m cs)(C:Ţ n cs c)(hm:m+3<=30):S3 n (m+3) (eU cs c.1 c.2):=by
 have hb:∀x∈c.2,0<=x.2/\x.2<(cs.length:Int):=λx hx=>by rw[G.len];exact(C.ld x hx).2.2
 have lc:=C.len;exact⟨by rw[CN];exact G.len,(CO (p:=c.1) G.g ∅ λx hx=>⟨(C.ld x hx).2.1,hb x hx⟩).2.mono ∅,(CQ hb).nodup_iff.mpr ((AF.append_right _).nodup (ZZ C.ch G.nd))⟩
def S3.leftA:∀{cl:List FL}{m:Nat}{cs:List (List Bx)},S3 n m cs->ZX n cs cl->m+3*cl.length<=30->S3 n (m+3*cl.length) (leftA cs cl)
 |[],_,_,G,_,_=>G
 |c::r,m,cs,G,V,hm=>by
  rw[Û]at hm⊢;have:=S3.leftA (G.left V.1 ∅) V.2 ∅
  rwa [show m+3+3*r.length=m+3*(r.length+1) by lia]at this
variable {own:Q4}{b:O1}{ss:List St}{ts:List Tk}{as:List Ap}
def PJ(S:Ē own b ss ts as):∀{cl:List FL}{m:Nat}{cs:List (List Bx)},S3 ss.length m cs->ZX ss.length cs cl->m+3*cl.length<=30->∃L,Vy (pC own b ss ts as) cs cl L
 |[],_,cs,_,_,_=>⟨[],rfl⟩
 |c::r,m,cs,G,V,hm=>by
  rw[Û]at hm;have C:=V.1;have lc:=C.len;have ls:=S.ls;have fl:=ZY G.g;have:m*cs.length<=30*4:=Nat.mul_le_mul ∅ (by rw[G.len];lia);obtain⟨o,eo,⟨lg,hg,rfl⟩|⟨n,t,rfl⟩⟩:=JT S G.len G.g C.gp C.op G.nd ∅ ∅ (λx hx=>(C.ld x hx).1) (λx hx=>⟨(C.ld x hx).2.1,by rw[G.len];exact(C.ld x hx).2.2⟩) C.ch
  .obtain⟨L,W⟩:=PJ S (G.left C ∅) V.2 ∅
   exact⟨_,.inr ⟨lg,L,hg,eo,rfl,W⟩⟩
  .exact⟨_,.inl ⟨n,t,eo,rfl⟩⟩
end
end Toy
namespace L2
open PySem PySem.Spec
def aMP(h:aU (bA [f,g]) δ λds δ1=>ds=[.int a,.int b]/\δ1=δ)(h1:-1000<=a)(h2:a<=1000)(h3:-1000<=b)(h4:b<=1000):pG [f,g] δ=.ok (jH a (b-a).toNat) δ:=by
 let⟨ds,δ1,e,rfl,rfl⟩:=h.ex;unfold pG;rw[e,aW];simp![kR];rw[Â ∅]
end L2
namespace Toy
open PySem L2
section
def CS(ns:ZK)(f c:Int)(n:Nat):(List Ld):=(List.range n).map λi:Nat=>(bx ns (f+(i:Int)),ot ns (30+(f+(i:Int))) c)
def FM:(CS ns f c n).length=n:=by unfold CS;rw[Å,List.length_range]
def Z0:CS ns f c (n+1)=CS ns f c n++[(bx ns (f+(n:Int)),ot ns (30+(f+(n:Int))) c)]:=by
 unfold CS;rw[List.range_succ,Ö];rfl
def PK(hc:0<c)(h:x∈CS ns f c n):SL x.1/\S1 x.1/\(0<=x.2/\x.2<c)/\AK x.1.nm=true/\1<=x.1.w/\AK x.1.p=true/\AK x.1.k=true/\0<=x.1.b:=by
 unfold CS at h;let⟨i,_,rfl⟩:=Õ.mp h;exact⟨aJH,MF,jY hc,rM,MF.2.1,rM,rM,aMO⟩
def aDZ{a b c d:D}(f0:0<=f)(f1:f<=40)(t0:0<=t)(t1:t<=10)(s0:1<=ss.length):zN [iL ns,.tuple [a,b,.list ss,c,d],.int f,.int t]=.ok (iI (nm ns 17 (th ns (40+t) 4)) (CS ns f (ss.length:Int) (dr ns (40+t) 4).toNat)) []:=by
 have hz:sizeLine=2^24:=rfl;have l1:=g9 (ns:=ns) (k:=40+t) (m:=4) ⋯;have l2:=lH (ns:=ns) (k:=40+t) (m:=4) ⋯;have e1:=mQ (ns:=ns) (k:=40+t) (m:=4) ∅ ∅ ⋯;have e2:=n6 (ns:=ns) (k:=40+t) (m:=4) ∅ ∅ ⋯;have e3:=j0 (ns:=ns) (k:=17) (n:=th ns (40+t) 4) ⋯ ⋯ ∅ ∅;refine aQ (os:=[]) ?_;rfl';unfold zM;dsimp? [];have eN:(f+dr ns (40+t) 4-f).toNat=(dr ns (40+t) 4).toNat:=by lia
 refine cM (ds:=jH f (f+dr ns (40+t) 4-f).toNat) (δ1:=_) (λk δ=>∃o5,δ=[some (iL ns),some (.tuple [a,b,.list ss,c,d]),some (.int f),some (.int t),some (.list ((CS ns f (ss.length:Int) k).map AA)),o5]) (aMP (by dsimp? [e1]) ∅ ∅ ∅ ∅) ⟨none,rfl⟩ ?_ ?_
 .rintro k d' δ hk ⟨o5,rfl⟩
  let⟨hk,rfl⟩:=GY hk;refine⟨_,rfl,?_⟩;refine kK λK _ _ _ hK _=>?_;have e5:=YU (ns:=ns) (n:=f+(k:Int)) ∅ ∅;have e6:=mR (ns:=ns) (k:=30+(f+(k:Int))) (m:=(ss.length:Int)) ∅ ∅ ∅;dsimp? [e5,e6,Å,qN];rw[Z0,Ö]at hK;rw[FM];exact⟨∅,hK _ ⟨_,rfl⟩⟩
 .rintro δ ⟨o5,rfl⟩
  rw[fV,eN];dsimp? [e2,e3,iI]
def Z1{ps:ZG}:ġ true (.str p) (.list (ps.map PyData.str))=some (.bool (!decide (p∈ps))):=by
 have:=aDY (p:=p) (ps:=ps);unfold ġ at this⊢;dsimp only at this⊢;rw[FK]at this⊢;have:=PyData.bool.inj (Option.some.inj this);exact congrArg (λb=>some (PyData.bool (!b))) this
end
section
def aD0(lc:cs.length<=8)(g:bU cs m)(hm:m<=50)(gp:bJ p)(ll:ld.length<=50)(hb:∀x∈ld,0<=x.2/\x.2<(cs.length:Int)):tN [.list (cs.map aM),iI p ld]=.ok (.list ((eU cs p ld).map aM)) []:=by
 have hz:sizeLine=2^24:=rfl;have i0:fM (iI p ld) (.int 0)=some (.str p):=rfl;have i1:fM (iI p ld) (.int 1)=some (.list (ld.map AA)):=rfl;have lL:=CN (cs:=cs) (p:=p) (ld:=ld);have at':∀s,(eU cs p ld).getD s []=stay p (cs.getD s [])++(ld.filter λx=>decide (x.2=(s:Int))).map λx=>x.1:=λs=>by
  unfold eU;rw[ZS (by rw[Å];exact hb)];congr 1;rw[Ë,Ò,Ë];cases cs[s]?<;>rfl
 generalize iI p ld=cl at *;generalize eU cs p ld=R at *;refine aQ (os:=[]) ?_;rfl';unfold zQ;dsimp? [];refine xL (j:=cs.length) (δ1:=_) (λk δ=>∃o3 o4,δ=[some 'd',some cl,some (.list ((R.take k).map aM)),o3,o4]) (d9 (by dsimp? [Å];rfl)) ∅ ⟨none,none,by rw[List.take_zero];rfl⟩ ?_ ?_
 .rintro k δ hk ⟨o3,o4,rfl⟩
  refine⟨_,rfl,?_⟩;have hR:k<R.length:=by lia
  have eR:R.take (k+1)=R.take k++[stay p (cs.getD k [])++(ld.filter λx=>decide (x.2=(k:Int))).map λx=>x.1]:=by
   rw[List.take_succ_eq_append_getElem hR,<- at',Ë,Ê hR];rfl
  have gk:=g _ (cJ (d:=[]) hk);have ec:atI (cs.map aM) (k:Int)=some (aM (cs.getD k [])):=DD rfl (by rw[Ò,fJ (d:=[]) hk];rfl);rw[eR,Ö];have lT:((R.take k).map aM).length<=8:=by rw[Å,ê];lia
  generalize (R.take k).map aM=T at *;generalize cs.getD k []=bs at *;have f1:=List.length_filter_le (λx:Ld=>decide (x.2=(k:Int))) ld;have f2:=List.length_filter_le (nP p) bs;have eB:aM (stay p bs++(ld.filter λx=>decide (x.2=(k:Int))).map λx=>x.1)=.list ((bs.filter (nP p)).map eJ++(ld.filter λx=>decide (x.2=(k:Int))).map λx=>eJ x.1):=by
   unfold aM;rw[Ö,à];rfl
  rw[Ì,List.map_nil,eB];refine kK λK _ _ _ hK _=>?_;dsimp? [];refine aU.of (oZ (enc:=AA) (xs:=ld) (h:=λx=>decide (x.2=(k:Int))) (g:=λx=>eJ x.1) (bT (by dsimp? [i1])) ∅ (λx _=>by dsimp? [AA,sI,K4]) λx _=>by dsimp? [AA,xJ]) ?_;dsimp? [];refine aU.of (oZ (enc:=eJ) (xs:=bs) (h:=nP p) (g:=eJ) (bT (by dsimp? [ec,aM])) ∅ (λx hx=>by dsimp? [eJ,pY,i0,aFO (gk.2 x hx).1.p gp,nP]) λx _=>by dsimp? []) ?_;dsimp? [VD,qN];rw[Å,Å];exact⟨∅,∅,hK _ ⟨_,_,rfl⟩⟩
 .rintro δ ⟨o3,o4,rfl⟩
  dsimp? [];rw[<- lL,List.take_length]
end
def vI(w:Str)(ms:List Mv):ZG:=(ms.filter λm=>m.1.w == w).map λm=>m.1.z
def FN:vI w (a++b)=vI w a++vI w b:=by unfold vI;rw[List.filter_append,Ö]
def wP{α:Type}{f:α->Mv}{g:α->Str}(hf:∀x,(f x).1.w=u/\(f x).1.z=g x):∀{l:List α},vI w (l.map f)=if (u == w)=true then l.map g else []
 |[]=>by split<;>rfl
 |x::l=>by
  have ih:=wP (w:=w) hf (l:=l);unfold vI at ih⊢;rw[Ì,List.filter_cons,(hf x).1];split
  .rename_i h
   rw[Â h]at ih;rw[Ì,ih,(hf x).2,Ì]
  .rename_i h
   rw[Ã h]at ih;exact ih
abbrev J3(l:List Bx):ZG:=l.map λb=>b.nm
def AG(cs:List (List Bx))(p:Str):ZG:=(cs.map λbs=>J3 ((lK bs p).filter (nP p))).flatten
def MH(cs:List (List Bx))(p:Str):ZG:=(cs.map λbs=>J3 (bs.filter λb=>b.p == p)).flatten
section
variable {bs:List Bx}{p:Str}{s:Int}{cs:List (List Bx)}{c:FL}
def PL:vI "off" (J2 bs s p)=J3 (lK bs p).reverse/\vI "back" (J2 bs s p)=J3 ((lK bs p).filter (nP p))/\vI "on" (J2 bs s p)=[]:=by
 unfold J2;have h1:=λw=>wP (w:=w) (u:="off") (f:=SG s) (g:=λb=>b.nm) (λ_=>⟨rfl,rfl⟩) (l:=(lK bs p).reverse);have h2:=λw=>wP (w:=w) (u:="back") (f:=ĭ s) (g:=λb=>b.nm) (λ_=>⟨rfl,rfl⟩) (l:=(lK bs p).filter (nP p));refine⟨?_,?_,?_⟩<;>rw[FN,h1,h2]
 .rw[Â ⋯,Ã ⋯,â]
 .rw[Ã ⋯,Â ⋯,List.nil_append]
 .rw[Ã ⋯,Ã ⋯,List.nil_append]
def aFT{f:List Bx->ZG}(h:∀bs s,vI w (J2 bs s p)=f bs):∀k,k<=cs.length->vI w (SH cs p k)=((cs.take k).map f).flatten
 |0,_=>rfl
 |k+1,hk=>by
  rw[tY,FN,aFT h k ∅,h,List.take_succ_eq_append_getElem hk,Ö,List.flatten_append,Ë,Ê hk];simp
def wQ{f:List Bx->ZG}(h:∀bs s,vI w (J2 bs s p)=f bs):vI w (jL cs p ld)=(cs.map f).flatten++if ("on" == w)=true then ld.map (λx=>x.1.nm)else []:=by
 unfold jL;rw[FN,aFT h _ (È _),List.take_length,wP (u:="on") (g:=λx:Ld=>x.1.nm) λ_=>⟨rfl,rfl⟩]
def aJK:ĥ cs c=AG cs c.1:=by
 have:=wQ (ld:=c.2) (cs:=cs) (w:="back") (p:=c.1) λbs s=>PL.2.1;rw[Ã ⋯,â]at this;unfold AG;rw[<- this];unfold ĥ FH vI;rw[List.filter_map,à];rfl
def CT :∀{l:List Bx},(l.filter q++l.filter λb=>!q b).Perm l
 |[]=>.nil
 |b::l=>by
  have ih:=CT (q:=q) (l:=l);cases h:q b with
  |true=>rw[List.filter_cons_of_pos h,List.filter_cons_of_neg (by rw[h];decide),List.cons_append];exact ih.cons b
  |false=>
   rw[List.filter_cons_of_neg (by rw[h];decide),List.filter_cons_of_pos (by rw[h];rfl)];exact List.perm_middle.trans (ih.cons b)
def aJL:(bs.filter λb=>b.p == p)=(lK bs p).filter λb=>b.p == p:=by
 have e:bs.take (bs.findIdx λb=>b.p == p)++lK bs p=bs:=List.take_append_drop _ _;have h:(bs.take (bs.findIdx λb=>b.p == p)).filter (λb=>b.p == p)=[]:=by
  rw[List.filter_eq_nil_iff];intro b hb;let⟨i,hi,rfl⟩:=List.mem_iff_getElem.mp hb;rw[ê]at hi;have:=List.not_of_lt_findIdx (p:=λb:Bx=>b.p == p) (xs:=bs) (i:=i) ∅;rw[List.getElem_take];simpa using this
 have:=congrArg (List.filter λb:Bx=>b.p == p) e;rw[List.filter_append,h,List.nil_append]at this;exact this.symm
def JU:∀{cs:List (List Bx)},((cs.map λbs=>J3 (lK bs p).reverse).flatten).Perm (MH cs p++AG cs p)
 |[]=>.nil
 |bs::cs=>by
  have ih:=JU (cs:=cs);unfold MH AG at ih⊢;rw[Ì,Ì,Ì,List.flatten_cons,List.flatten_cons,List.flatten_cons];have h1:(J3 (lK bs p).reverse).Perm (J3 (bs.filter λb=>b.p == p)++J3 ((lK bs p).filter (nP p))):=by
   rw[aJL,<- Ö];exact((List.reverse_perm _).trans (CT (q:=λb=>b.p == p)).symm).map _
  refine(h1.append ih).trans ?_;rw[List.append_assoc,List.append_assoc];refine List.Perm.append_left _ ?_;rw[<- List.append_assoc,<- List.append_assoc];exact List.perm_append_comm.append_right _
def MI:(vI "off" (jL cs p ld)).Perm (MH cs p++AG cs p)/\vI "back" (jL cs p ld)=AG cs p/\vI "on" (jL cs p ld)=ld.map λx=>x.1.nm:=by
 rw[wQ λbs s=>PL.1,wQ λbs s=>PL.2.1,wQ λbs s=>PL.2.2,Ã ⋯,Ã ⋯,Â ⋯,â,â];refine⟨JU,rfl,?_⟩;have:(cs.map λ_:List Bx=>([]:ZG)).flatten=[]:=by
  induction cs with
  |nil=>rfl
  |cons c cs ih=>exact ih
 rw[this];rfl
def SN(p:Str):Bool->List Bx->ZG
 |_,[]=>[]
 |b,x::r=>if (x.p == p)=true then SN p true r else if b=true then x.nm::SN p true r else SN p false r
def AH:∀{bs:List Bx},SN p true bs=J3 (bs.filter (nP p))
 |[]=>rfl
 |x::r=>by
  rw[SN,List.filter_cons];unfold nP;cases h:x.p == p with
  |true=>rw[Â rfl,Ã ⋯];exact AH
  |false=>rw[Ã ⋯,Â rfl,AH];rfl
def CU:∀{bs:List Bx},SN p false bs=J3 ((lK bs p).filter (nP p))
 |[]=>rfl
 |x::r=>by
  rw[SN];unfold lK;rw[List.findIdx_cons];cases h:x.p == p with
  |true=>
   rw[Â rfl,AH];show _=J3 ((x::r).filter (nP p));rw[List.filter_cons_of_neg (by unfold nP;rw[h];decide)]
  |false=>
   rw[Ã ⋯,Ã ⋯,CU];rfl
def Z2:(J3 ((lK bs p).filter (nP p))).length<=bs.length:=by
 rw[Å];exact Ü (List.length_filter_le _ _) FF
def oA{f:List Bx->ZG}(hf:∀bs,(f bs).length<=bs.length):∀{cs:List (List Bx)},(∀c∈cs,c.length<=50)->((cs.map f).flatten).length<=50*cs.length
 |[],_=>í _
 |c::cs,h=>by
  have h1:=oA hf (cs:=cs) λx hx=>h x (Ó _ hx);have h2:=h c Ô;have h3:=hf c;rw[Ì,List.flatten_cons,Ð,Û];lia
def MJ(gc:v2 cs 50)(gp:bJ c.1)(lc:cs.length<=8):zS [.list (cs.map aM),cD c]=.ok (.list ((AG cs c.1).map PyData.str)) []:=by
 have hz:sizeLine=2^24:=rfl;have i0:fM (cD c) (.int 0)=some (.str c.1):=rfl;generalize cD c=cl at *;refine aQ (os:=[]) ?_;rfl';unfold rH;dsimp? [];refine cM (ds:=cs.map aM) (δ1:=_) (λk δ=>∃o3 o4 o5,δ=[some 'd',some cl,some (.list ((AG (cs.take k) c.1).map PyData.str)),o3,o4,o5]) (cO rfl) ⟨none,none,none,rfl⟩ ?_ ?_
 .rintro k d δ hk ⟨o3,o4,o5,rfl⟩
  have k1:k<cs.length:=by have:=(Í.mp hk).1;rwa [Å]at this
  rw[Ò,Ê k1]at hk;cases hk;refine⟨_,rfl,?_⟩;have gk:=gc _ (ý k1);have e1:AG (cs.take (k+1)) c.1=AG (cs.take k) c.1++SN c.1 false cs[k]:=by
   unfold AG;rw[List.take_succ_eq_append_getElem k1,Ö,List.flatten_append,CU];simp
  have l1:=oA (f:=λbs=>J3 ((lK bs c.1).filter (nP c.1))) (λ_=>Z2) (cs:=cs.take k) λx hx=>(gc x (List.mem_of_mem_take hx)).1;rw[ê]at l1;have l1:(AG (cs.take k) c.1).length<=50*min k cs.length:=l1;rw[e1];generalize AG (cs.take k) c.1=T at *;generalize cs[k]=bs at *;dsimp? [];refine cM (ds:=bs.map eJ) (δ1:=_) (λt δ=>∃(X:ZG)(b:Bool)(o5:ZL),X.length<=t/\X++SN c.1 b (bs.drop t)=SN c.1 false bs/\δ=[some 'd',some cl,some (.list ((T++X).map PyData.str)),some (aM bs),some (.bool b),o5]) (cO rfl) ⟨[],false,o5,È _,rfl,by rw[â]⟩ ?_ ?_
  .rintro t d δ ht ⟨X,b,o5,lX,eX,rfl⟩
   have t1:t<bs.length:=by have:=(Í.mp ht).1;rwa [Å]at this
   rw[Ò,Ê t1]at ht;cases ht;refine⟨_,rfl,?_⟩;rw[ñ t1,SN]at eX;have gb:=gk.2 _ (ý t1);have x2:fM (eJ bs[t]) (.int 2)=some (.str bs[t].p):=rfl;have x0:fM (eJ bs[t]) (.int 0)=some (.str bs[t].nm):=rfl;generalize bs[t]=x at *;refine kK λK _ _ _ hK _=>?_;cases h:x.p == c.1 with
   |true=>
    rw[h,Â rfl]at eX;dsimp? [x2,i0,qE gb.p gp,h];exact hK _ ⟨X,true,_,∅,eX,rfl⟩
   |false=>
    rw[h,Ã ⋯]at eX;cases b with
    |true=>
     rw[Â rfl]at eX;dsimp? [x2,i0,qE gb.p gp,h,Bool.false_eq_true,x0,qN];refine⟨by rw[Å,Ð];lia,hK _ ⟨X++[x.nm],true,some (eJ x),by rw[Ð,ò];lia,by rw[List.append_assoc];exact eX,?_⟩⟩
     rw[<- List.append_assoc,Ö (l₁:=T++X)];rfl
    |false=>
     rw[Ã ⋯]at eX;dsimp? [x2,i0,qE gb.p gp,h,Bool.false_eq_true];exact hK _ ⟨X,false,_,∅,eX,rfl⟩
  .rintro δ ⟨X,b,o5,lX,eX,rfl⟩
   rw[Å,List.drop_length]at eX;have eX:X=SN c.1 false bs:=by rw[<- eX,SN,â]
   exact⟨_,_,_,by rw[eX]⟩
 .rintro δ ⟨o3,o4,o5,rfl⟩
  rw[Å,List.take_length];dsimp? []
def aD1(gc:v2 cs 50)(gp:bJ c.1)(lc:cs.length<=8):OM [.list (cs.map aM),cD c]=.ok (.list ((MH cs c.1).map PyData.str)) []:=by
 have hz:sizeLine=2^24:=rfl;have i0:fM (cD c) (.int 0)=some (.str c.1):=rfl;generalize cD c=cl at *;refine aQ (os:=[]) ?_;rfl';unfold E6;dsimp? [];refine cM (ds:=cs.map aM) (δ1:=_) (λk δ=>∃o3,δ=[some 'd',some cl,some (.list ((MH (cs.take k) c.1).map PyData.str)),o3]) (cO rfl) ⟨none,rfl⟩ ?_ ?_
 .rintro k d δ hk ⟨o3,rfl⟩
  have k1:k<cs.length:=by have:=(Í.mp hk).1;rwa [Å]at this
  rw[Ò,Ê k1]at hk;cases hk;refine⟨_,rfl,?_⟩;have gk:=gc _ (ý k1);have e1:(MH (cs.take (k+1)) c.1).map PyData.str=(MH (cs.take k) c.1).map PyData.str++(cs[k].filter λb=>b.p == c.1).map λb=>.str b.nm:=by
   unfold MH;rw[List.take_succ_eq_append_getElem k1,Ö,List.flatten_append,Ö];simp
  have l1:=oA (f:=λbs=>J3 (bs.filter λb=>b.p == c.1)) (λbs=>by rw[Å];exact List.length_filter_le _ _) (cs:=cs.take k) λx hx=>(gc x (List.mem_of_mem_take hx)).1;rw[ê]at l1;have l1:(MH (cs.take k) c.1).length<=50*min k cs.length:=l1;rw[e1];generalize MH (cs.take k) c.1=T at *;generalize cs[k]=bs at *;have f1:=List.length_filter_le (λb:Bx=>b.p == c.1) bs;refine kK λK _ _ _ hK _=>?_;dsimp? [];refine aU.of (oZ (enc:=eJ) (xs:=bs) (h:=λb=>b.p == c.1) (g:=λb=>.str b.nm) (bT (by dsimp? [aM])) ∅ (λx hx=>by dsimp? [eJ,pY,i0,qE (gk.2 x hx).p gp]) λx _=>by dsimp? [eJ,xJ]) ?_;dsimp? [uO];rw[Å,Å];exact⟨∅,hK _ ⟨_,rfl⟩⟩
 .rintro δ ⟨o3,rfl⟩
  rw[Å,List.take_length];dsimp? []
end
end Toy
namespace L2
open PySem PySem.Spec
def pE:∀{zs:ZG},nJ (zs.map PyData.str)=some zs
 |[]=>rfl
 |z::zs=>by
  show (nJ (zs.map PyData.str)).map (z::·)=_;rw[pE];rfl
def aD2{u:M Fl}{δ δ':DS}{d:D}{N B C:ZO}{R:D->ZO}(h:u δ=.ok (.ret d) δ')(q:R d δ'):bN u δ N B C R:=by
 unfold bN;rw[h];exact q
def aQE{n e s:Nat}{t1 t2:M Bool}{fs fk fy:M D}{d dv:D}{ds:ZI}{N N':N3}{δ δ1 δ2 δ3 δ4 δ5:DS}{k z:Str}(h1:t1 (δ.set e (some d))=.ok false δ1)(h2:fs (δ.set e (some d))=.ok dv δ2)(h3:t2 (((δ.set e (some d)).set s (some dv)).set n (some (l8 N)))=.ok false δ3)(h4:fk ((δ.set e (some d)).set s (some dv))=.ok (.str k) δ4)(h5:fy ((δ.set e (some d)).set s (some dv))=.ok (.str z) δ5)(h6:EL k z N=some N'):
  iC n e s t1 fs t2 fk fy (d::ds) N δ=iC n e s t1 fs t2 fk fy ds N' ((δ.set e (some d)).set s (some dv)):=by
 rw[iC,h1];dsimp only;rw[h2];dsimp only;rw[h3];dsimp only;rw[h4,h5];dsimp only;rw[h6]
def SO{l c n e s:Nat}{f1 f2 fs fk fy:M D}{t1 t2:M Bool}{δ δ1 δ2:DS}{w x y:ZG}{ds:ZI}{b:Bool}{N:N3}(e1:δ[c]?=some (some (.list (w.map PyData.str))))(e2:δ[l]?=some (some (.list ds)))(e3:f1 ((δ.set c none).set n none)=.ok (.list (x.map PyData.str)) δ1)(e4:f2 ((δ.set c none).set n none)=.ok (.list (y.map PyData.str)) δ2)(e8:l≠c/\l≠n/\e<δ.length/\s<δ.length/\n<δ.length)(e9:iC n e s t1 fs t2 fk fy ds (x,y,w) ((δ.set c none).set n none)=some (b,N)):nK l c n e s f1 f2 t1 fs t2 fk fy δ=.ok (.ret (.bool b)) ((List.replicate δ.length none).set c (some (.list (N.2.2.map PyData.str)))):=by
 have q1:Q6 (some (some (.list (w.map PyData.str))))=some (w.map PyData.str):=rfl;have q2:Q6 (some (some (.list ds)))=some ds:=rfl;have q3:Q7 (.ok (.list (x.map PyData.str)) δ1)=some x:=pE;have q4:Q7 (.ok (.list (y.map PyData.str)) δ2)=some y:=pE;unfold nK;rw[e1,e2,e3,e4,q1,q2,q3,q4];dsimp![Option.bind_some];rw[pE];dsimp![Option.bind_some];rw[Â e8,e9]
end L2
namespace Toy
open PySem L2
def Į(k z:Str)(N:N3):N3:=if k="off"then (N.1.erase z,N.2.1,N.2.2)else if k="back"then (N.1,N.2.1.erase z,N.2.2)else (N.1,N.2.1,N.2.2.erase z)
def Ľ(k:Str)(N:N3):ZG:=if k="off"then N.1 else if k="back"then N.2.1 else N.2.2
abbrev K3(k:Str):Prop:=k="off"\/k="back"\/k="on"
def ţ:("back":Str)≠"off":=by decide
def Ť:("on":Str)≠"off":=by decide
def ť:("on":Str)≠"back":=by decide
theorem aMR(h:K3 k):sW true (.str k) (l8 N)=some (.bool false)/\OE (l8 N) (.str k)=some (.list ((Ľ k N).map PyData.str))/\∀z,z∈Ľ k N->EL k z N=some (Į k z N):=by
 rcases h with rfl|rfl|rfl
 .exact⟨rfl,rfl,λz hz=>by unfold EL Į;rw[Â rfl,Â rfl];exact Â hz⟩
 .exact⟨by with_unfolding_all rfl,by with_unfolding_all rfl,λz hz=>by unfold EL Į;rw[Ã ţ,Ã ţ,Â rfl,Â rfl];exact Â hz⟩
 .exact⟨by with_unfolding_all rfl,by with_unfolding_all rfl,λz hz=>by unfold EL Į;rw[Ã Ť,Ã Ť,Ã ť,Ã ť,Â rfl];exact Â hz⟩
structure CV(ms:List Mv)(N:N3):Prop where
 a:(vI "off" ms).Perm N.1
 b:(vI "back" ms).Perm N.2.1
 c:(vI "on" ms).Perm N.2.2
def tZ:vI w (m::ms)=if (m.1.w == w)=true then m.1.z::vI w ms else vI w ms:=by
 unfold vI;rw[List.filter_cons];split<;>rfl
def er{l l':ZG}(h:(z::l).Perm l'):z∈l'/\l.Perm (l'.erase z):=by
 refine⟨h.subset Ô,?_⟩;have:=h.erase z
 rwa [List.erase_cons_head]at this
def CV.step(h:CV (m::ms) N)(k:K3 m.1.w):m.1.z∈Ľ m.1.w N/\CV ms (Į m.1.w m.1.z N):=by
 let⟨a,b,c⟩:=h;rw[tZ]at a b c;generalize m.1.w=w at *;generalize m.1.z=z at *;unfold Ľ Į;rcases k with rfl|rfl|rfl
 .rw[Â ⋯]at a
  rw[Ã ⋯]at b c;rw[Â rfl,Â rfl];exact⟨(er a).1,(er a).2,b,c⟩
 .rw[Â ⋯]at b
  rw[Ã ⋯]at a c;rw[Ã ţ,Ã ţ,Â rfl,Â rfl];exact⟨(er b).1,a,(er b).2,c⟩
 .rw[Â ⋯]at c
  rw[Ã ⋯]at a b;rw[Ã Ť,Ã Ť,Ã ť,Ã ť];exact⟨(er c).1,a,b,(er c).2⟩
def aOY(h:CV [] N):N=([],[],[]):=by
 let⟨x,y,z⟩:=N;have a:=h.a.symm.eq_nil;have b:=h.b.symm.eq_nil;have c:=h.c.symm.eq_nil;dsimp only at a b c;rw[a,b,c]
def Z3(h1:∀(m:Mv)(x:D)(o:ZL),aU t1 [a,b,c,none,none,some (.tuple [eA m.1,x]),o] λr _=>r=false)(h2:∀(m:Mv)(x:D)(o:ZL),aU fs [a,b,c,none,none,some (.tuple [eA m.1,x]),o] λr _=>r=eA m.1)(h3:∀(m:Mv)(x:D)(N:N3),K3 m.1.w->m.1.z∈Ľ m.1.w N->aU t2 [a,b,c,none,some (l8 N),some (.tuple [eA m.1,x]),some (eA m.1)] λr _=>r=false)(h4:∀(m:Mv)(x:D),aU fk [a,b,c,none,none,some (.tuple [eA m.1,x]),some (eA m.1)] λr _=>r=.str m.1.w)(h5:∀(m:Mv)(x:D),aU fy [a,b,c,none,none,some (.tuple [eA m.1,x]),some (eA m.1)] λr _=>r=.str m.1.z):
  ∀{ms:List Mv}{G:ZI}{N:N3}{o5 o6:ZL},MG ms G->(∀m∈ms,K3 m.1.w)->CV ms N->iC 4 5 6 t1 fs t2 fk fy G N [a,b,c,none,none,o5,o6]=some (true,([],[],[]))
 |[],G,N,o5,o6,hG,_,h=>by
  rw[show G=[]from hG,aOY h];rfl
 |m::ms,_,N,o5,o6,⟨x,G,rfl,hG⟩,hk,h=>by
  have k:=hk m Ô;let⟨z,h'⟩:=h.step k;let⟨_,δ1,e1,rfl⟩:=(h1 m x o6).ex;let⟨_,δ2,e2,rfl⟩:=(h2 m x o6).ex;let⟨_,δ3,e3,rfl⟩:=(h3 m x N k z).ex;let⟨_,δ4,e4,rfl⟩:=(h4 m x).ex;let⟨_,δ5,e5,rfl⟩:=(h5 m x).ex;rw[aQE (δ:=[a,b,c,none,none,o5,o6]) e1 e2 e3 e4 e5 ((aMR k).2.2 _ z)];exact Z3 h1 h2 h3 h4 h5 hG (λm hm=>hk m (Ó _ hm)) h'
def MG.K(h:m∈jL cs p ld):K3 m.1.w:=by
 unfold jL at h;rcases ø.mp h with h|h
 .unfold SH at h
  let⟨l,hl,h⟩:=List.mem_flatten.mp h;let⟨j,_,rfl⟩:=Õ.mp hl;unfold J2 at h;rcases ø.mp h with h|h
  .obtain⟨b,_,rfl⟩:=Õ.mp h
   exact .inl rfl
  .obtain⟨b,_,rfl⟩:=Õ.mp h
   exact .inr (.inl rfl)
 .obtain⟨b,_,rfl⟩:=Õ.mp h
  exact .inr (.inr rfl)
def aMS:∀{ms:List Mv},(∀m∈ms,K3 m.1.w)->ms.length=(vI "off" ms).length+(vI "back" ms).length+(vI "on" ms).length
 |[],_=>rfl
 |m::ms,h=>by
  have ih:=aMS λm hm=>h m (Ó _ hm);rw[tZ,tZ,tZ,Û];rcases h m Ô with e|e|e<;>rw[e]
  .rw[Â ⋯,Ã ⋯,Ã ⋯,Û]
   lia
  .rw[Ã ⋯,Â ⋯,Ã ⋯,Û]
   lia
  .rw[Ã ⋯,Ã ⋯,Â ⋯,Û]
   lia
def JV(hG:MG ms G)(hk:∀m∈ms,K3 m.1.w)(h:CV ms (o++l,l,w))(lo:o.length<=1000)(ll:l.length<=1000):kJ [.list G,.list (o.map PyData.str),.list (l.map PyData.str),.list (w.map PyData.str)]=.ok (.bool true) [some (.list [])]:=by
 have hz:sizeLine=2^24:=rfl;have L:=hG.len;have L3:=aMS hk;rw[h.a.length_eq,h.b.length_eq,h.c.length_eq,Ð]at L3;dsimp only at L3;refine aQ (os:=[.list []]) ?_;rfl';unfold kH;have isl:gA .list (.list G)=some (.bool true):=rfl;have en:decide ((G.length:Int)≠(o.length:Int)+2*(l.length:Int)+(w.length:Int))=false:=decide_eq_false (λe=>e ∅);dsimp? [isl,Bool.not_true,Bool.false_eq_true,Å,en];refine⟨by ac_nf,?_⟩;refine aD2 (δ':=(List.replicate 7 none).set 3 (some (.list []))) (d:=.bool true) ?_ ⟨rfl,rfl⟩;refine SO (x:=o++l) (y:=l) (w:=w) (N:=([],[],[])) (δ1:=[some (.list G),some (.list (o.map PyData.str)),some (.list (l.map PyData.str)),none,none,none,none]) (δ2:=[some (.list G),some (.list (o.map PyData.str)),some (.list (l.map PyData.str)),none,none,none,none]) rfl rfl (d9 ?_) (d9 ?_) 'f' (Z3 ?_ ?_ ?_ ?_ ?_ hG hk h)
 .show aU _ [some (.list G),some (.list (o.map PyData.str)),some (.list (l.map PyData.str)),none,none,none,none] _
  dsimp? [aIB,Å];exact⟨∅,Ö.symm⟩
 .show aU _ [some (.list G),some (.list (o.map PyData.str)),some (.list (l.map PyData.str)),none,none,none,none] _
  dsimp? [NO]
 .intro m x o
  have x1:gA .tuple (.tuple [eA m.1,x])=some (.bool true):=rfl;have x2:gA .tuple (eA m.1)=some (.bool true):=rfl;have x0:fM (.tuple [eA m.1,x]) (.int 0)=some (eA m.1):=rfl;have x3:lV [.tuple [eA m.1,x]]=some (.int 2):=rfl;have x4:lV [eA m.1]=some (.int 3):=rfl;have q2:DZ (.int 2) (.int 2)=some (.bool false):=by with_unfolding_all rfl
  have q3:DZ (.int 3) (.int 3)=some (.bool false):=by with_unfolding_all rfl
  dsimp? [x1,x2,x0,x3,x4,q2,q3,Bool.not_true,Bool.false_eq_true]
 .intro m x o
  have x0:fM (.tuple [eA m.1,x]) (.int 0)=some (eA m.1):=rfl;dsimp? [x0]
 .intro m x N k z
  have x0:fM (eA m.1) (.int 0)=some (.str m.1.w):=rfl;have x2:fM (eA m.1) (.int 2)=some (.str m.1.z):=rfl;let⟨k1,k2,_⟩:=aMR (N:=N) k;dsimp? [x0,x2,k1,k2,Z1,z,decide_true,Bool.not_true,Bool.false_eq_true]
 .intro m x
  have x0:fM (eA m.1) (.int 0)=some (.str m.1.w):=rfl;dsimp? [x0]
 .intro m x
  have x2:fM (eA m.1) (.int 2)=some (.str m.1.z):=rfl;dsimp? [x2]
def Ň:UO (.int 10) (.int 9)=some (.int 1000000000):=by
 rw[M4 (ν ∅ ∅ ⋯)];rfl
def Μ(s:St):St:=⟨s.nm,s.x,s.y,s.z,s.t,24,1000000000⟩
def Ν:O1:=⟨-50,50,-50,50,100,1000000000⟩
def į(b:Bx):Bx:=⟨b.nm,b.w,b.p,b.k,1000000000⟩
section
variable {own:Q4}{b:O1}{ss:List St}{ts:List Tk}{as:List Ap}{cs:List (List Bx)}
def Ē.wide(S:Ē own b ss ts as):Ē own Ν (ss.map Μ) ts []:=
 ⟨S.o0,S.o1,⟨jF ⋯ ⋯,jF ⋯ ⋯,jF ⋯ ⋯,jF ⋯ ⋯,jF ⋯ ⋯,by unfold lG Ν;decide⟩,by rw[Å];exact S.ls,S.lt,by simp,λs hs=>by
  let⟨t,ht,rfl⟩:=Õ.mp hs;have g:=S.gs t ht;exact⟨g.nm,g.x,g.y,g.z,g.t⟩,S.gt,λa ha=>by cases ha⟩
def aD3(ls:ss.length<=4):IX [pC own b ss ts as]=.ok (pC own Ν (ss.map Μ) ts []) []:=by
 have hz:sizeLine=2^24:=rfl;have i0:fM (pC own b ss ts as) (.int 0)=some (z9 own):=rfl;have i2:fM (pC own b ss ts as) (.int 2)=some (.list (ss.map pA)):=rfl;have i3:fM (pC own b ss ts as) (.int 3)=some (.list (ts.map z8)):=rfl;generalize pC own b ss ts as=sh at *;refine aQ (os:=[]) ?_;rfl';unfold zO;dsimp? [Ň];refine cM (ds:=ss.map pA) (δ1:=_) (λk δ=>∃o3,δ=[some sh,some (.int 1000000000),some (.list (((ss.take k).map Μ).map pA)),o3]) (bT (by dsimp? [i2])) ⟨none,rfl⟩ ?_ ?_
 .rintro k d δ hk ⟨o3,rfl⟩
  have k1:k<ss.length:=by have:=(Í.mp hk).1;rwa [Å]at this
  rw[Ò,Ê k1]at hk;cases hk;refine⟨_,rfl,?_⟩;rw[List.take_succ_eq_append_getElem k1,Ö,Ö];have lt:=List.length_take_le k ss;generalize ss[k]=s at *;dsimp? [pA,xJ,sI,pY,BV,VQ,qN,Å];exact⟨∅,_,rfl⟩
 .rintro δ ⟨o3,rfl⟩
  rw[Å,List.take_length];dsimp? [i0,i3];rfl
def MK:∀{cs:List (List Bx)},cH (cs.map λc=>c.map į).flatten=cH cs.flatten
 |[]=>rfl
 |c::cs=>by
  have ih:=MK (cs:=cs);unfold cH at ih⊢;rw[Ì,List.flatten_cons,List.flatten_cons,Ö,Ö,ih,à];rfl
def aD4(g:bU cs m):bU (cs.map λc=>c.map į) m:=λc hc=>by
 let⟨d,hd,rfl⟩:=Õ.mp hc;refine⟨by rw[Å];exact(g d hd).1,λx hx=>?_⟩
 let⟨y,hy,rfl⟩:=Õ.mp hx;have q:=(g d hd).2 y hy;exact⟨⟨q.1.nm,q.1.p,q.1.k⟩,q.2⟩
def Nb(ns:ZK)(J:Nat)(z:Str):Prop:=∃j:Nat,j<J/\z=nm ns 16 (j:Int)
def Z4{zs:ZG}(nd:zs.Nodup)(hz:∀z∈zs,Nb ns a z)(hk:a+k<=26):(zs++(List.range k).map λi:Nat=>nm ns 16 ((a:Int)+(i:Int))).Nodup:=by
 refine List.nodup_append.mpr ⟨nd,List.pairwise_map.mpr (List.Pairwise.imp_of_mem (λ{x y}hx hy hxy e=>hxy ?_) List.nodup_range),λx hx y hy e=>?_⟩
 .obtain⟨j,hj,rfl⟩:=hz x hx
  let⟨i,hi,rfl⟩:=Õ.mp hy;have:=List.mem_range.mp hi;have:=Y2 ∅ ∅ ∅ ∅ e;lia
 .have:=List.mem_range.mp hx
  have:=List.mem_range.mp hy;have:=Y2 ∅ ∅ ∅ ∅ e;lia
def PM:(CS ns f c N).map (λx=>x.1.nm)=(List.range N).map λi:Nat=>nm ns 16 (f+(i:Int)):=by
 unfold CS;rw[à];rfl
def aD5(nd:(cH cs.flatten).Nodup)(hz:∀z∈cH cs.flatten,Nb ns J z)(hN:N<=3)(hJ:J+N<=26)(hn:0<n):Ţ n cs (nm ns 17 t,CS ns (J:Int) (n:Int) N):=by
 have hm:=λx(hx:x∈CS ns (J:Int) (n:Int) N)=>PK ∅ hx;exact⟨jZ,rM,by rw[FM];exact hN,λx hx=>⟨(hm x hx).1,(hm x hx).2.1,(hm x hx).2.2.1⟩,ZT (by rw[PM];exact Z4 nd hz hJ) λx hx=>(hm x hx).2.2⟩
def aD6(hz:∀z∈cH cs.flatten,Nb ns J z)(lc:cs.length=n)(hn:0<n):∀z∈cH (eU cs (nm ns 17 t) (CS ns (J:Int) (n:Int) N)).flatten,Nb ns (J+N) z:=λz h=>by
 have pm:=CQ (cs:=cs) (c:=(nm ns 17 t,CS ns (J:Int) (n:Int) N)) λx hx=>by rw[lc];exact(PK ∅ hx).2.2.1
 rcases ø.mp (pm.mem_iff.mp h)with h|h
 .obtain⟨j,hj,e⟩:=hz z (AF.subset h)
  exact⟨j,∅,e⟩
 .have h:z∈(CS ns (J:Int) (n:Int) N).map λx=>x.1.nm:=h
  rw[PM]at h;let⟨i,hi,rfl⟩:=Õ.mp h;have:=List.mem_range.mp hi;exact⟨J+i,∅,by congr 1⟩
def V4{zs:ZG}(h:∀z∈zs,bJ z)(l:zs.length<=1000):SS 4 (.list (zs.map PyData.str)):=.list (by rw[Å];exact l) λd hd=>by
 let⟨z,hz,rfl⟩:=Õ.mp hd;exact .str (h z hz)
def Z5(g:bU cs m)(hm:m<=50)(lc:cs.length<=8):SS 4 'd':=.list (by rw[Å];lia) λd hd=>by
 let⟨c,hc,rfl⟩:=Õ.mp hd;refine .list (by rw[Å];have:=(g c hc).1;lia) λd hd=>?_
 let⟨x,hx,rfl⟩:=Õ.mp hd;have q:=((g c hc).2 x hx).1;refine .tup 'f' λd hd=>?_;simp![Ø,ì,or_false]at hd;rcases hd with rfl|rfl|rfl|rfl|rfl
 .exact .str q.nm
 .exact .int
 .exact .str q.p
 .exact .str q.k
 .exact .int
def aD7(g:bU cs m):∀z∈AG cs p,bJ z:=λz hz=>by
 unfold AG at hz;let⟨l,hl,hz⟩:=List.mem_flatten.mp hz;let⟨c,hc,rfl⟩:=Õ.mp hl;let⟨x,hx,rfl⟩:=Õ.mp hz;exact((g c hc).2 x (FG (Č.mp hx).1)).1.nm
end
def Z6(ns:ZK)(hn:ns.length<=63):IY [.list (ns.map .int)]=.ok (.bool true) []:=by
 have e24:sizeLine=2^24:=rfl;let⟨r,e1,own,b,ss,ts,as,rfl,S⟩:=aDV (ns:=ns);have ls:=S.ls;have eT:=n6 (ns:=ns) (k:=19) (m:=2) ⋯ ⋯ ⋯;have eW:=aD3 (own:=own) (b:=b) (ts:=ts) (as:=as) ls.2;have tM:=g9 (ns:=ns) (k:=19) (m:=6) ⋯;have eM:=mQ (ns:=ns) (k:=19) (m:=6) ⋯ ⋯ ⋯;obtain⟨M,hM⟩:∃M:Nat,dr ns 19 6=(M:Int):=⟨(dr ns 19 6).toNat,∅⟩;rw[hM]at eM tM;refine aQ (os:=[]) ?_;rfl';unfold X0;rw[L2.seq_assoc];refine vF (λδ=>∃own b ss ts as,Ē own b ss ts as/\δ=[some (iL ns),some (pC own b ss ts as),none,none,none,none,none,none,none,none,none]) ?_ ?_
 .refine kK λK _ _ _ hK _=>?_
  generalize hs:pC own b ss ts as=sh at *;dsimp? [e1,eT,K4];split
  .dsimp? [eW]
   exact hK _ ⟨_,_,_,_,_,S.wide,rfl⟩
  .exact hK _ ⟨_,_,_,_,_,S,by rw[hs]⟩
 clear S ls eW e1;clear own b ss ts as;rintro _ ⟨own,b,ss,ts,as,S,rfl⟩;have ls:=S.ls;let⟨r,e2,cs,rfl,lc,gc,pc⟩:=ZU (ns:=ns) (m:=(M:Int)) (a:=z9 own) (b:=YR b) (c:=.list (ts.map z8)) (d:=.list (as.map Ě)) (ss:=ss.map pA) ∅ ∅ (by rw[Å];lia) (by rw[Å];lia);rw[ü]at pc;have e2:vD [iL ns,pC own b ss ts as,.int (M:Int)]=.ok 'd' []:=e2;rw[Å]at lc;have pn:(cH cs.flatten).Perm ((List.range M).map λi:Nat=>nm ns 16 (i:Int)):=by
  have:=pc.map λb=>b.nm;rw[à]at this;exact this
 have hz:∀z∈cH cs.flatten,Nb ns M z:=λz h=>by
  let⟨i,hi,rfl⟩:=Õ.mp (pn.mem_iff.mp h);exact⟨i,List.mem_range.mp hi,rfl⟩
 have nd:(cH cs.flatten).Nodup:=by
  have:=Z4 (ns:=ns) (a:=0) (k:=M) (zs:=[]) 'f' 'f' ∅;rw[List.nil_append]at this;refine pn.nodup_iff.mpr ?_;simpa using this
 have G:S3 ss.length 10 cs:=⟨lc,gc,nd⟩;have ec:=λ(f t:Int)(f0:0<=f)(f1:f<=40)(t0:0<=t)(t1:t<=10)=>aDZ (ns:=ns) (f:=f) (t:=t) (a:=z9 own) (b:=YR b) (c:=.list (ts.map z8)) (d:=.list (as.map Ě)) (ss:=ss.map pA) f0 f1 t0 t1 (by rw[Å];lia);rw[Å]at ec;have ec:∀(f t:Int),0<=f->f<=40->0<=t->t<=10->zN [iL ns,pC own b ss ts as,.int f,.int t]=.ok (cD (nm ns 17 (th ns (40+t) 4),CS ns f (ss.length:Int) (dr ns (40+t) 4).toNat)) []:=ec;have i15:∃b5,fM (pC own b ss ts as) (.int 1)=some (YR b)/\fM (YR b) (.int 5)=some (.int b5):=⟨_,rfl,rfl⟩;let⟨b5,i1,i5⟩:=i15;have ev:=λ(cs:List (List Bx))(cl:List FL)(G:S3 ss.length 10 cs)(V:ZX ss.length cs cl)(hl:10+3*cl.length<=30)=>PJ S G V hl;generalize pC own b ss ts as=sh at *;generalize ss.length=n at *;rw[L2.seq_assoc,L2.seq_assoc];refine vF (λδ=>∃cs,S3 n 10 cs/\(∀z∈cH cs.flatten,Nb ns M z)/\δ=[some (iL ns),some sh,some (.int (M:Int)),some 'd',none,none,none,none,none,none,none]) ?_ ?_
 .refine kK λK _ _ _ hK _=>?_
  dsimp? [eM,e2,i1,i5,Ň,K4];split
  .refine aU.of (cS (enc:=aM) (xs:=cs) (g:=λc=>aM (c.map į)) (cO rfl) ∅ λx hx=>?_) ?_
   .have:=(gc x hx).1
    refine aU.of (cS (enc:=eJ) (xs:=x) (g:=λb=>eJ (į b)) (cO rfl) ∅ λy _=>by dsimp? [eJ,xJ,sI,pY,BV,Ň,į]) ?_;unfold aM;rw[à];exact⟨rfl,rfl⟩
   .dsimp? []
    exact hK _ ⟨cs.map λc=>c.map į,⟨by rw[Å];exact lc,aD4 gc,by rw[MK];exact nd⟩,by rw[MK];exact hz,by rw[à];rfl⟩
  .exact hK _ ⟨cs,G,hz,rfl⟩
 rintro _ ⟨cs,G,hz,rfl⟩;have lo:=jY (ns:=ns) (k:=19) (m:=3) ⋯;have eo:=mR (ns:=ns) (k:=19) (m:=3) ⋯ ⋯ ⋯;rw[L2.seq_assoc];refine vF (λδ=>∃(cl:List FL)(o2 o5:ZL),1<=cl.length/\cl.length<=3/\ZX n cs cl/\δ=[some (iL ns),some sh,o2,some 'd',some (.list (cl.map cD)),o5,none,none,none,none,none]) ?_ ?_
 .dsimp? []
  refine wB (j:=1+ot ns 19 3) (δ1:=_) (λk δ=>∃(cl:List FL)(J:Nat)(o5:ZL),cl.length=k/\ZX n cs cl/\J<=5+3*k/\(∀z∈cH (leftA cs cl).flatten,Nb ns J z)/\δ=[some (iL ns),some sh,some (.int (J:Int)),some 'd',some (.list (cl.map cD)),o5,none,none,none,none,none]) (d9 (by dsimp? [eo];rfl)) ∅ ∅ ⟨[],M,none,rfl,trivial,∅,hz,rfl⟩ ?_ ?_
  .rintro k δ hk ⟨cl,J,o5,lk,V,hJ,hzk,rfl⟩
   refine⟨_,rfl,?_⟩;refine kK λK _ _ _ hK _=>?_;have e3:=ec (J:Int) (k:Int) ∅ ∅ ∅ ∅;have l4:=g9 (ns:=ns) (k:=40+(k:Int)) (m:=4) ⋯;obtain⟨N,hN⟩:∃N:Nat,(dr ns (40+(k:Int)) 4).toNat=N:=⟨_,rfl⟩;rw[hN]at e3;have GA:=G.leftA V ∅;have C:=aD5 (n:=n) (t:=th ns (40+(k:Int)) 4) GA.nd hzk (N:=N) ∅ ∅ ∅;have hz2:=aD6 (N:=N) (t:=th ns (40+(k:Int)) 4) hzk GA.len ∅;have lN:=FM (ns:=ns) (f:=(J:Int)) (c:=(n:Int)) (n:=N);have a1:atI (cl.map cD++[cD (nm ns 17 (th ns (40+(k:Int)) 4),CS ns (J:Int) (n:Int) N)]) (k:Int)=some (cD (nm ns 17 (th ns (40+(k:Int)) 4),CS ns (J:Int) (n:Int) N)):=DD rfl (by rw[ã (by rw[Å];lia),Å,lk,ù];rfl);generalize hc:(nm ns 17 (th ns (40+(k:Int)) 4),CS ns (J:Int) (n:Int) N)=c at *;have l2:c.2.length=N:=by rw[<- hc];exact lN
   have hz2:∀z∈cH (eU (leftA cs cl) c.1 c.2).flatten,Nb ns (J+N) z:=by rw[<- hc];exact hz2
   have c1:fM (cD c) (.int 1)=some (.list (c.2.map AA)):=rfl;dsimp? [e3,Å,qN,a1,c1,l2];refine⟨∅,hK _ ⟨cl++[c],J+N,some (.int (k:Int)),by rw[Ð,lk];rfl,V.app C,∅,by rw[CP];exact hz2,?_⟩⟩
   rw[Ö];rfl
  .rintro δ ⟨cl,J,o5,lk,V,hJ,hzk,rfl⟩
   exact⟨cl,_,_,∅,∅,V,rfl⟩
 rintro _ ⟨cl,o2,o5,c0,c1,V,rfl⟩;let⟨L,W⟩:=ev cs cl G V ∅;have eV:=aJJ W ∅;have wl:=Vy.len W;have w1:=wl.2 λe=>by rw[e]at c0;cases c0
 have isl:gA .list (.list L)=some (.bool true):=rfl;have g1:decide ((L.length:Int)<1)=false:=decide_eq_false ∅;have g2:decide ((cl.length:Int)<(L.length:Int))=false:=decide_eq_false ∅;dsimp? [eV,isl,Bool.not_true,Bool.false_eq_true,g1,Å,g2];have nd2:DZ (.str "done") (.str "done")=some (.bool false):=by with_unfolding_all rfl
 have nr:DZ (.str "refused") (.str "done")=some (.bool true):=by with_unfolding_all rfl
 have q1:SX (.str "refused") (.str "refused")=some (.bool true):=ZW (.inl rfl);refine xL (j:=L.length) (δ1:=_) (λk δ=>∃(cs':List (List Bx))(T L':ZI)(o8 o9 o10:ZL),S3 n (10+3*k) cs'/\ZX n cs' (cl.drop k)/\Vy sh cs' (cl.drop k) L'/\T++L'=L/\T.length=k/\δ=[some (iL ns),some sh,o2,some 'd',some (.list (cl.map cD)),o5,some (.list L),some (.list (cs'.map aM)),o8,o9,o10]) (d9 (by dsimp? [])) ∅ ⟨cs,[],L,none,none,none,G,V,W,rfl,rfl,rfl⟩ ?_ ?_
 .rintro k δ hk ⟨cs',T,L',o8,o9,o10,G',V',W',e,lT,rfl⟩
  refine⟨_,rfl,?_⟩;have tl:L.length=T.length+L'.length:=by rw[<- e,Ð]
  have k1:k<cl.length:=by
   by_cases h:k<cl.length
   .exact h
   .rw[List.drop_eq_nil_of_le ∅]at W'
    rw[show L'=[]from W']at tl;rw[List.length_nil]at tl;lia
  have ac:atI (cl.map cD) (k:Int)=some (cD cl[k]):=DD rfl (by rw[Ò,Ê k1];rfl);rw[ñ k1]at V' W';have C:=V'.1;have aL:∀d L2,L'=d::L2->atI L (k:Int)=some d:=λd L2 h=>DD rfl (by rw[<- e,h,ã ∅,lT,ù];rfl);generalize cl[k]=c at *;refine kK λK _ _ S hK hS=>?_;rcases W' with ⟨n',t',_,rfl⟩|⟨Gg,L2,hG,_,rfl,W2⟩
  .have x0:fM (ZV n' t') (.int 0)=some (.str "refused"):=rfl
   have ek:decide ((k:Int)=(L.length:Int)-1)=true:=decide_eq_true (by rw[ò]at tl;lia);dsimp? [aL _ _ rfl,x0,nr,K4,ek,q1];exact hS _ _ ⟨rfl,rfl⟩
  .have G2:=G'.left C ∅
   have lc':=G'.len;have gC:v2 cs' 50:=λc hc=>⟨by have:=(G'.g c hc).1;lia,λx hx=>((G'.g c hc).2 x hx).1⟩
   have hb:∀x∈c.2,0<=x.2/\x.2<(cs'.length:Int):=λx hx=>by rw[lc'];exact(C.ld x hx).2.2
   have cl3:=C.len;have x0:fM (mT cs' c Gg) (.int 0)=some (.str "done"):=rfl;have x1:fM (mT cs' c Gg) (.int 1)=some (.list ((eU cs' c.1 c.2).map aM)):=rfl;have x2:fM (mT cs' c Gg) (.int 2)=some (.list Gg):=rfl;have x3:fM (mT cs' c Gg) (.int 3)=some (.list ((AG cs' c.1).map PyData.str)):=by rw[<- aJK];rfl
   have eI:=MJ gC C.gp ∅;have eO:=aD1 gC C.gp ∅;have eF:tN [.list (cs'.map aM),cD c]=.ok (.list ((eU cs' c.1 c.2).map aM)) []:=aD0 ∅ G'.g ∅ C.gp ∅ hb;have c1:fM (cD c) (.int 1)=some (.list (c.2.map AA)):=rfl;have l1:=oA (f:=λbs=>J3 ((lK bs c.1).filter (nP c.1))) (λ_=>Z2) (cs:=cs') λx hx=>(gC x hx).1;have l2:=oA (f:=λbs=>J3 (bs.filter λb=>b.p == c.1)) (λbs=>by rw[Å];exact List.length_filter_le _ _) (cs:=cs') λx hx=>(gC x hx).1;have s1:=wO (V4 (aD7 (p:=c.1) G'.g) (show (AG cs' c.1).length<=1000 by have:(AG cs' c.1).length<=_:=l1;lia));have s2:=wO (Z5 G2.g ∅ (by rw[G2.len];lia));have sp:=MI (cs:=cs') (p:=c.1) (ld:=c.2);have eS:=JV hG (λm hm=>MG.K hm) (o:=MH cs' c.1) (l:=AG cs' c.1) (w:=c.2.map λx=>x.1.nm) ⟨sp.1,by rw[sp.2.1],by rw[sp.2.2]⟩ (show (MH cs' c.1).length<=1000 by have:(MH cs' c.1).length<=_:=l2;lia) (show (AG cs' c.1).length<=1000 by have:(AG cs' c.1).length<=_:=l1;lia);rw[à]at eS;have eS:kJ [.list Gg,.list ((MH cs' c.1).map PyData.str),.list ((AG cs' c.1).map PyData.str),.list (c.2.map λx=>.str x.1.nm)]=.ok (.bool true) [some (.list [])]:=eS;have hK':∀o9 o10,K [some (iL ns),some sh,o2,some 'd',some (.list (cl.map cD)),o5,some (.list L),some (.list ((eU cs' c.1 c.2).map aM)),some (.int (k:Int)),o9,o10]:=λo9 o10=>hK _ ⟨_,T++[mT cs' c Gg],L2,_,o9,o10,by rw[Nat.mul_succ,<- Nat.add_assoc];exact G2,V'.2,W2,by rw[List.append_assoc];exact e,by rw[Ð,lT];rfl,rfl⟩
   generalize eU cs' c.1 c.2=cs2 at *;generalize AG cs' c.1=li at *;generalize MH cs' c.1=ou at *;have aL:=aL _ _ rfl;generalize mT cs' c Gg=dn at *;generalize hcc:cD c=cc at *;dsimp? [aL,x0,nd2,Bool.false_eq_true,ac,eI,c1];refine aU.of (cS (enc:=AA) (xs:=c.2) (g:=λx=>.str x.1.nm) (bT (by dsimp? [ac,c1])) ∅ λx _=>by dsimp? [AA,eJ,xJ]) ?_;dsimp? [aL,x0,x1,x2,x3,s1,s2,eF,ac,eO,eS,Bool.not_true,Bool.false_eq_true];exact hK' _ _
 .rintro δ ⟨cs',T,L',o8,o9,o10,G',V',W',e,lT,rfl⟩
  have tl:L.length=T.length+L'.length:=by rw[<- e,Ð]
  have:L.length=cl.length:=by
   by_cases h:L.length<cl.length
   .rw[ñ h]at W'
    have:=(Vy.len W').2 (List.cons_ne_nil _ _);lia
   .lia
  dsimp? [Å,this,K4,decide_true]
theorem all_mk{l:W.OpenLaw}(T:Txt K mg)(lnt:W.noTabs K=true)(hfa:mg "law"=some (.ref fa)):
  (W.noTabs K=true/\∃c P pos,jN K=some (c,P,pos))/\∃fd:FuncData,(∀(s:Shared)(v:Value),BindsTo s fd ⟨[v],[]⟩ [("_law_script",v)])/\∀base:Heap,K.In base->base.Ns mainGlobals mg->sT K mg base->qH l.prog w K mg base (FP l.prog w K) 10 fa fd ["_law_script"] (SW K ["_law_script"] [] [0,0,0,0,0,0,0,0,0,0,0] 0 IY):=by
 have e:=hfa.symm.trans T.x60.m;cases e;exact⟨⟨lnt,_,_,_,T.lamE⟩,T.x60.fd,λs v=>by
  let⟨_,_,_,_,_,_,_,_,_,e,_⟩:=T.x60.F.ex;rw[e];exact .of_eq rfl,λbase _ _ B=>aI3 T B⟩
def walk{l:W.OpenLaw}{q:Program}{loose:ZG}{XP:(ZD)->Heap->Prop}{YP:World->Heap->Prop}{d:DefRec}{K:Params->ZC}(hn:l.most=some 63)(hdf:d.params.defaults=[])(hY:∀(w:World)(h:Heap),YP w h->(K w.params).In h)(hrec:∃dl,(PyProof.Rows.recsOf q).find? (λe=>e.name == mZ)=some dl)(F:∀(w:World)(mg:ZD)(fa:Addr)(h:Heap),(K w.params).In h->h.Ns mainGlobals mg->mg d.name=some (.ref fa) ->
   (W.noTabs (K w.params)=true/\∃c P pos,jN (K w.params)=some (c,P,pos))/\∃fd:FuncData,(∀(s:Shared)(u:Value),BindsTo s fd ⟨[u],[]⟩ [("_law_script",u)])/\∀base:Heap,(K w.params).In base->base.Ns mainGlobals mg->sT (K w.params) mg base->qH l.prog w (K w.params) mg base (FP l.prog w (K w.params)) 10 fa fd ["_law_script"] (SW (K w.params) ["_law_script"] [] [0,0,0,0,0,0,0,0,0,0,0] 0 IY)):
  W.WalkO q loose XP YP l.row.toRowW d [] (λf vs=>PySem.call f vs):=
 let ⟨_,hrec⟩:=hrec
 L2.walk_ofL (n:=63) (k:=10) (x:="_law_script") (CX:=λw=>FP l.prog w (K w.params)) (sp:=λw=>SW (K w.params) ["_law_script"] [] [0,0,0,0,0,0,0,0,0,0,0] 0 IY) hn ⋯ hdf ⟨rfl,⋯,⋯⟩ hY hrec F (λ_ _ a ns hl hL hS=>LB hS (Z6 ns hl) hL) λ_ _ _ _ _ z=>QF z
@[inline]def aPL{α:Type _}{β:Type _}(a:α)(_:β):α:=a
@[inline]def pv:Program:={PySem.Challenge.pw_keel_k65_whole_out_at_their_port with main:={PySem.Challenge.pw_keel_k65_whole_out_at_their_port.main with body:=[top 0,top 1,top 2,top 3,top 4,top 5,top 6,top 7,top 8,top 9,top 10,top 11,top 12,top 13,aPL (top 14) (PySem.Stmt.FunctionDef (aPL ("":Str) PySem.Expr.Lambda)),top 15,top 16,top 17,top 18,top 19,top 20,top 21,top 22,top 23,top 24,top 25,top 26,top 27,top 28,top 29,top 30,top 31,top 32,top 33,top 34,top 35,top 36,top 37,top 38,top 39,top 40,top 41,top 42,top 43,top 44,top 45,top 46,top 47,top 48,top 49,top 50,top 51,top 52,top 53,top 54,top 55,top 56,top 57,top 58,top 59,top 60,top 61,top 62,top 63,top 64,top 65,top 66,top 67,top 68,top 69,top 70,top 71,top 72,top 73,top 74,top 75,top 76,top 77,top 78]}}
@[inline]def rv:W.OpenLaw:={PySem.Challenge.rw_keel_k65_whole_out_at_their_port with prog:=pv}
def aQF:PySem.Challenge.rw_keel_k65_whole_out_at_their_port=rv:=by kernel_rfl
theorem tv(h:rv.Holds):PySem.Challenge.rw_keel_k65_whole_out_at_their_port.Holds:=by rw[aQF];exact h
end Toy
namespace PySem.W.Fast
local macro_rules|`(seal $xs*)=>do return Lean.mkNullNode (<- xs.mapM λx=>`(command|theorem $(Lean.mkIdent (.mkSimple s!"tw{x.getId.toString.foldl (λa c=>let n:=c.toNat;a*62+(if n<58 then n+4 else if n<91 then n-65 else n-71)) 0}")):ident:True:=trivial))
seal T8y0jgY2Ni3 IrgrB8Ptt69 OWlrkJT0Ip8 I8PGtjWrUPT FQhick7KY9Q DrIn17lI3K2 FtFtANhdirs OoZq8QqDUO1 Tm8wSC7GW8F AqRPNP2BJFL S25Oj0mc6Oy GrfQxekv9Qo QpsWP8ltIme ArT7d76EoJv Ohx9XEkaaxZ H2OX6iaYMae MVrpq59YjOF T0Y6hM18Dza RHf1vVIHfOJ K79BBKMNJzJ SfV7kkjNRfY AW1ht8oAxhu Ptsq6IqIOrb SGIdDmSeujq TxbFKMKaO3p Sx3E1zyixNy HvikYFsfJiW D7zjOJkX2KH C6YLSi1qc7l Kjk5kzsMOwn V4DvTdZ7Bet VP9xQBCrPGP O5mUi6eBS8A Clr1T51Abio EBgHAfGnYhR Keq3wKXLW1r NSE9oLZJ9KS Tq4SUPxUeaD I2rucjSnck0 ANnZ4j970OR MOtYRTTCWTu U2vmDKAUfki Qz7iqpmA2SC CWzmqf7gN3f TdefHFkOoIC DX7ZNkW9sto A0jeZJl6cCr PqTa2ZoB4Ir KY3jeyeRp3o Tb0yeDOLjMU PNEDRcq8ozq KYq5HPupxHK Gzm0IMUiOmo Ci08KfOAZ3a L21ANwEiNrZ SD4wn7Xd0d7 DlPBpmE1eRS IkzMPRAX56u J1tNHLpDYv7 SVM47qwJ1V1 JeB1716M81T JXnOarrDBX4 D2A4yD7DC1R UQ54Cm5FQ5B Tx0a3aq510c KJbBkZffMem K5nXxcAdAw2 EIW45Oxri0F DlJH9vrAFoe JpMQJ9xdSb5 EDIU7dZdrU5 ROqPqoNMJ0Y FwKZWSfQPU7 FETc8hYoWZO KOgMFl4EyXg QfzDHFm3w5O QiRZ5APFOkz O8dRYcVd4Ko BGiFilLYf8G Dp8iopKQ4wp Ke5mKXLL5ke RVGxbspLGU6 Emx5xWw6UYZ VtiFNkoElWF CmvPmaHIMaU KNfYCdMaVGh D2EVh9PDSd6 F4y1NwEqrLP M3QRRU55fVf BXMfQnZdcad S0L1ftfGnAr K7LjwBI8qIB CWYWsfr10Uz S9Kr0BfzFFu Kyt1XRV4idg Um8xDjQDNnv M6nNr4pLvMT GPza9RwU4kn A8S1K0F3Ret OUxN7NzhmcX ERBjoI6SLfe JsfZ8kzJiKx BYO7F19qeQQ Ibl5wGcH6Tb QIVY7Er1jCB F6jGq9lKtgE NTlRkJg2Ywl JBQgfANvLwD I57ubTmv7zN MyuE6cGmA7E RX6W1tGBYsl TmBMrFCseWa VraWpd5Tc2C SKABv6yyyz0 QMocgRlVMMr M91YcZcrwf6 VOoWOfXFgNQ VKDZt4bPNdX JaKZ1cFpa18 DR20N8K6mzr TwnQavBtSHc IyQyy4GxLWc LtJOr9NIvot TamSzLzcO25 VHNjDxwZoHN Ew011lc7AyQ SSYqeWAQh93 ROce4vumFSJ Jky6P18Bjw8 LBglnHZa8ut Kcdbr93AyZC EShuJECnpN7 KMkBhFRDRLL JGmatCTtHIR Kh9QRTbqXw0 EAWxhrp5lYe VCw8WhXxNUt IoJF4ODdHO7 PAs4kTgqJqE BwaToRmWRe4 JzFf3vypCvD PNE1seOnMDN GSwyYrqqlcn DPXfVhI67bS HvyU9vBXD2j QxSoOvReNRW SWGbXVcRBz3 NL4sV3rNenp AU8feHUrHvx OnKdNj6Cine QX1TMn9DMRB DcodtbcYczN FZTXf0z7adG DXepsAujW4Q BGfb3PAeCyQ FOhej4j13W1 DHkHS2s3N4M R2yVX0CBN8F IneYzlckX9w KscZ9XNsXWp DQsR846WUgu QmQbmvlVOu3 C7qxAUYLv77 Isi6oMPA4iJ PTM7mmuLS8u QIL6NXlSnS2 OfJjCs03Uic RLQS8KNVUti VEuGt3MDbcF DA8RVDO5tXg LV6JfK49PI9 OxEetbOpA0O FDyi5wbkbxJ M1sEMF6DJwA ObwqqJwlG8p H4EDYe130Wg IHzOF4BCOXq LUKZJ6YgOBa J22t9V6v74c J1yCmoFGHNT KSrymqiqZ1k Kxc8MnT3X04 TBe8uuKnkHv Vjf6bICyQbV J5WAW95tej5 AL5mSFYGHl9 KTGnifQvrMI J08g7rdEsJ1 IZlZcp2Fscc STwpmk2pzah TOwro94SNq1 HVswTOuO3c8 DwO7Z6CjMuZ A2G4jwfVbZB POko5ircuJN UYliVe6NyGn KQkI0yOXkyE N0NGLTu3HA4 FC8fugC0Rwq MnmjeO8LYQw PbmaTDFJ6X6 A71KWsQtYQg R899yp82n0u G3BPKpHdTNM AHaoHZl1uYZ KjTgJMlhdNd CdLlHhIULw6 GCD6CCYlyLm G8oyNJwWeeX TJiCZlhNHd3 P39dskjGZc5 SVML3oXDfnU AkQzYrQFJtc ApFCgepFbqu VEvWvxrMRXo TKn45Sg41s5 TnzYZP3DJiN AcifkSZOwXB CSICh1GJeln I1HmOJd7qnQ JAkmJwplfIp BLzwUAyHnWO Bp63MoVvavu KL64bIjHq1g Uu0ivUmmw1B K3DehDGjqVw FlC2cZqkNUX Ohi7ibtKcwV EhjPJ29BIzc IAhHsnZiccS AcdqAlWNpNO FC2BIB7oud7 EqFLpXOaBcQ QXonE4gCgL1 CBBvknBOaQW N3wZ13psogZ OUqgrm3G5GX VJbmCRCZuPj BwFOLpJ9A5w CSvYcfrOMGo IAZ5j6R8yiJ GMDEhgxW6l7 JHv07mbFKkh IuFa3KgMZwR C71CE3iBzvq SIsHtI5CJtw EfrsPy5OmQt S9hm3sf9FZO SuZ0wy6g8Ce MqO2Q3WwN0C AQtrLTk0psf QNYt2Kgtm6B LZgsovmvEly QfLqtUdEcq3 ICKBJ4S68dk VMU32c0QE1v JxEHe5QyC6E PVSWIn6tfXs JRgP30nUx9G HFh5nAt4Utc SAetxmprbgu Sl8sYY7uSAD GJzkfXSa6MJ I0a88iCirdf P4SIYm09pVD VVcq2SUg4rf Qd5eEtifw1J NPMSqj7Unjq GI48uEsTioQ ToW1ynb8wGE QfS5AUJOnGa MUl9nCOkdce ACtAQykUftp Ai8l29DzyWK VMePp6rEnob FjLFQEegis9 S2ymfPdFKxj UDVnCn6cUo5 Orq28IGEjyZ Mj6QKYTtVSN NNsNXOTVIxA QkVHQ6Sefs0 D47AMDC3OTW E5eFOJAXfCN JF3kDe5BAkX HrqQG58qHxD RKXgWrq2oho KYNKQ7jR1XC BTEqQ7w1d7P U6FQk0bQFkq R943z7KCliL MLfbxc6OAQQ J5UrmtJIhLs MotQ0grfYyF Jmf2h5yghux D4H1yqbnXMX LStKhdVtk7J IoU6yzzNr4h GnW8pVXTiQw NmgsyVAphEl RmsIsqIBMnF PeOEkIf88X8 RVHxx8J3pvV Gt02Diynek1 NbIxUuIrZWZ KDc1OLII5cK Ot5VqucgXC2 LE75BRwxZgM MVEAcmTSK0X GXIXHl4rArf DMlRNF1twBi ECdAFWifJue VxgGdYfSkwT SNBVoMZWjEv CNalHnj23gL UOEpoArEZhA PFwZNvpdh2q Ao7nSPSoCjG E3ksKM6W3Nu Ng8WS1ILRU4 DyIXnpZJ3LN JGgzGGhonnW VJkac1CJQcX OmXMBNVcyUk E1jMjXgmIKO SzHhoejuhbm MZyDtGcU0Nu F51hLVOO3eo FOc8U3YG6km B1lbSisGV6W CKoiNlSSh8D HGUBgsCtxt8 T31fUIn0kYf O3BsX2EVSHV UBI9pT8FeTY EIpDtDjBdst EmryPYaTifS CfqTcNoCjtw PavAyYc3Utl Uz85Jqu214C VBqg3wsmpbx JrbHERE53JI K06qDCkmoTs KWohvCZKuIc Oto4JB9MmII KhdwVZuWMnQ Ks8nEaaLiyF LzaQzz77pzw Bt8FppjDkBC NoCLpQLdvYx Hvi67pECgq3 T1SULnpUcxG SxMz0PcPY7n QSAy2P6ABtr JOXbS7vzigY CTRiT4u4Gmg F2Tz7g1aWPY Bf1x9wBCehv DTDiniI9pNB M1cFs94xwGk Gkvwqt3vMiZ KanUWk5yUgA CxtmbcaE5Pd MBLebnSVemB Gr2fDrJ2gze Pm7VicDK8JS E7oJ68VOg0q DGkXdXlJPhQ B3FKFytiUUR EPM1Y5uI6MO TkbPCE8xfzK RoZ3OAzZ0SJ BPrM51dYqAt LJdyvoMsMlj NQMeie8nXpY U0rHWKQRBbY VBj0znYV7SL RfmxPRtcWML GIjRH94PzbQ BEhBxgsQ0iG GZj24JbcBTs Qqf11hSFul1 LgamOvDyzRR EEMdY9U2AgY L97ZFN2m93h FejZq3YjSl3 IvJRxlkUvPW A6jFUn3cczJ IxsCSWejRZL PYINjmGWIqj GKIPMrNDwnx REVG8M4nw2n SOUHNn1kXKh N4zqtTmnqLS U4OXYpz8Py8 A2hu2mSokoR C7yrVNVCMuQ MnQk0gMhNFC QvRE3ZCtqmQ Oo5LeLO5kZN Qbbd9Z5TWoH VqNSF90hfo0 QkUM6FaVnLz C791TemjNur NKEI6n9QH3y CDZYVrim00Z HzpbBIQiTVz NDrKOMvsIvE NACuUTM0yIO Voe2nnt9jlr TFL4qKqj0Ft ANNEP1km8dI S7HMEz7ZXLR EFNqAzzGYoA JEec1BQUQOU PPNPd5CBar7 N8AhvQYhvnL PT8VS5Mcyyj RhWwEdxYeK1 JIVAb6JD8rm JziC8ZGpFbr LCi4p0hgtKv VTqxsQf8Dm4 R8NvlCItLUM UtQFkRVXLBc
end PySem.W.Fast
open PySem PySem.W PyProof.Rows L2
set_option maxRecDepth 100000 in
set_option maxHeartbeats 0 in
theorem PySem.Challenge.cw_keel_k65_whole_out_at_their_port_holds : PySem.Challenge.rw_keel_k65_whole_out_at_their_port.Holds := by
 refine Toy.tv ?_
 w_on;o_law;k_head;(case hw=>w_witness2)
 k_fill
 refine Toy.walk (l:=Toy.rv) rfl rfl (λw h Y=>PySem.W.km_in_of Y) ?R ?F
 case R=>exact⟨_,rfl⟩
 case F=>
  intro w mg fa h KX G hmg;refine' Toy.all_mk (Toy.Txt.mk ?_ ?_ ?_ ?_ ?_ ⟨⟨?f6,_,?F6,SU.binds ?F6 ?b6⟩,PySem.W.mg_of KX G ?a6⟩ ?_ ?_ ?_ ?_ ?_ ?_ ⟨?f13,_,?F13,SU.binds ?F13 ?b13⟩ ⟨?f14,_,?F14,SU.binds ?F14 ?b14⟩ ?_ ?_ ?_ ?_ ?_ ?_ ?_ ?_ ?_ ?_ ?_ ?_ ?_ ?_ ?_ ?_ ?_ ?_ ?_ ?_ ?_ ?_ ?_ ?_ ?_ ?_ ?_ ?_ ?_ ?_ ?_ ?_ ?_ ?_ ?_ ?_ ?_ ?_ ?_ ?_ ?_ ?_ ?_ ?_ ?_ ?_ ?_ ?cc_Table ?nn_Table (PySem.W.mg_of KX G ?nn_Table) ⟨?pg_Table,?hd_Table,?po_Table,?sa_Table⟩ (xZ ?nn_Table ⟨?pg_Table,?hd_Table,?po_Table,?sa_Table⟩ ?at_Table_free) (xZ ?nn_Table ⟨?pg_Table,?hd_Table,?po_Table,?sa_Table⟩ ?at_Table_goal) (xZ ?nn_Table ⟨?pg_Table,?hd_Table,?po_Table,?sa_Table⟩ ?at_Table_held) (xZ ?nn_Table ⟨?pg_Table,?hd_Table,?po_Table,?sa_Table⟩ ?at_Table_lines) (xZ ?nn_Table ⟨?pg_Table,?hd_Table,?po_Table,?sa_Table⟩ ?at_Table_scale) ⟨?km_Table,?a13,?i13,?kk_Table⟩ ⟨?a14,?i14,?k14⟩ ?lc ?lp (WX ?a6 ?F6 ?lcd ?lk ?lv rfl) ?lcd (aR6 KX G ?_) (aR6 KX G ?_) (aR6 KX G ?_) (aR6 KX G ?_) (aR6 KX G ?_) (aR6 KX G ?_) (aR6 KX G ?_) (aR6 KX G ?_) (aR6 KX G ?_) (aR6 KX G ?_) (aR6 KX G ?_) (aR6 KX G ?_) (aR6 KX G ?_) (aR6 KX G ?_) (aR6 KX G ?_) (aR6 KX G ?_) (OB KX G ?_) (OB KX G ?_) (OB KX G ?_) (OB KX G ?_)) ?lnt hmg
  any_goals (refine' aLV KX G ?a ?l ?c ?k ?b;(case a=>k_is);(case l=>k_is);(case c=>k_is);(case k=>k_is);(case b=>(intro _ _ _ _ _ _ us hl;first|exact aPC hl λ_=>rfl|exact aPD hl λ_ _=>rfl|exact aPE hl λ_ _ _=>rfl|exact aPF hl λ_ _ _ _=>rfl)))
  all_goals try k_is
  all_goals try (unfold lM;k_is)
  all_goals try k_is
  all_goals try (refine' KM ?l ?c ?k;(case l=>k_is);(case c=>k_is);(case k=>k_is))
  all_goals try (intro _ _ _ _ _ _ us hl;first|exact aPC hl λ_=>rfl|exact aPD hl λ_ _=>rfl|exact aPE hl λ_ _ _=>rfl|exact aPF hl λ_ _ _ _=>rfl)
  all_goals try (dsimp only;k_is)
  (case lnt=>first|kernel_rfl|k_is)
  (case lcd=>exact rfl);(case lk=>k_is);(case lv=>exact rfl)
