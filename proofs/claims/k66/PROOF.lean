import PyProof.Rows.All
import Wide.All
import OpenK.AllK
import Wide.FinOn
import Lean
import PyProof.EqAt
import PyProof.EqKinds
import PyProof.TupleCall
import KE.KTryMore
import PyProof.NsDelKeeps
import PyProof.ExcArgsOwn
import PyProof.ExcAttrAll.ValueError
import PyProof.ExcBaseAll.ValueError
import PyProof.CollectIter
import PyProof.ZipIter
import PyProof.EnumMake
import PyProof.EnumFor
import PyProof.Rows.FactsT2
import PyProof.Rows.EnumRows
import PyProof.ConsumeWalk
import PyProof.ListMulRoad
import PyProof.AutoListH
import PyProof.MinMaxWalk
import PyProof.WalkInts
import PyProof.Rows.CallKwBuiltin
import PyProof.Rows.Range3
import PyProof.P3In
import PyProof.FactsAll.list_3
import PyProof.EqAt
import PyProof.StrOps2
import KE.KRevIter
import PyProof.StrBlockI
import KE.KNest
import KE.KLam
import PyProof.ListRange
import PyProof.Rows.FStr
import PyProof.Rows.SortRev
import PySem.Challenge.RW_keel_k66_refused_voyages

set_option autoImplicit true
set_option bootstrap.genMatcherCode false
set_option genSizeOf false
set_option Elab.async false
set_option linter.all false
set_option maxRecDepth 100000
theorem Ê:type_of% @List.getD_eq_getElem?_getD:=@List.getD_eq_getElem?_getD
theorem É:type_of% @List.getElem?_eq_getElem:=@List.getElem?_eq_getElem
theorem Ä:type_of% @List.length_map:=@List.length_map
theorem È:type_of% @Nat.le_of_lt:=@Nat.le_of_lt
theorem Ô:type_of% @Nat.lt_of_lt_of_le:=@Nat.lt_of_lt_of_le
theorem Ç:type_of% @Nat.le_refl:=@Nat.le_refl
theorem Ò:type_of% @List.getElem?_eq_some_iff:=@List.getElem?_eq_some_iff
theorem Ï:type_of% @List.mem_cons_of_mem:=@List.mem_cons_of_mem
theorem Ñ:type_of% @List.getElem?_map:=@List.getElem?_map
theorem Û:type_of% @List.mem_append_right:=@List.mem_append_right
theorem Þ:type_of% @List.getElem?_append_right:=@List.getElem?_append_right
theorem Ì:type_of% @Nat.ne_of_lt:=@Nat.ne_of_lt
theorem ô:type_of% @Nat.lt_of_lt_of_eq:=@Nat.lt_of_lt_of_eq
theorem Ë:type_of% @List.length_append:=@List.length_append
theorem Ø:type_of% @Nat.le_trans:=@Nat.le_trans
theorem ß:type_of% @List.getElem?_set_ne:=@List.getElem?_set_ne
theorem æ:type_of% @List.getElem?_eq_none:=@List.getElem?_eq_none
theorem í:type_of% @List.size_toArray:=@List.size_toArray
theorem î:type_of% @List.getElem?_append_left:=@List.getElem?_append_left
theorem Ù:type_of% @List.length_set:=@List.length_set
theorem ñ:type_of% @List.length_replicate:=@List.length_replicate
theorem Ü:type_of% @Nat.ne_of_gt:=@Nat.ne_of_gt
theorem þ:type_of% @List.mem_of_getElem?:=@List.mem_of_getElem?
theorem ê:type_of% @List.length_zip:=@List.length_zip
theorem õ:type_of% @Int.le_of_lt:=@Int.le_of_lt
theorem ě:type_of% @Int.mul_le_mul_of_nonneg_right:=@Int.mul_le_mul_of_nonneg_right
theorem ó:type_of% @List.mem_singleton:=@List.mem_singleton
theorem Ö:type_of% @List.mem_map:=@List.mem_map
theorem ö:type_of% @List.mem_append:=@List.mem_append
theorem ÿ:type_of% @List.getElem?_range:=@List.getElem?_range
theorem ă:type_of% @List.getElem?_replicate:=@List.getElem?_replicate
theorem ç:type_of% @Nat.not_lt:=@Nat.not_lt
theorem Č:type_of% @Nat.lt_of_le_of_lt:=@Nat.lt_of_le_of_lt
theorem ø:type_of% @Nat.le_of_eq:=@Nat.le_of_eq
theorem Ĝ:type_of% @List.getElem?_zip_eq_some:=@List.getElem?_zip_eq_some
theorem ù:type_of% @Nat.lt_irrefl:=@Nat.lt_irrefl
theorem č:type_of% @List.getElem?_set:=@List.getElem?_set
theorem ï:type_of% @List.length_take:=@List.length_take
theorem û:type_of% @Int.toNat_natCast:=@Int.toNat_natCast
theorem Ď:type_of% @List.map_snd_zip:=@List.map_snd_zip
theorem ď:type_of% @List.map_fst_zip:=@List.map_fst_zip
theorem Đ:type_of% @List.getElem_mem:=@List.getElem_mem
theorem đ:type_of% @Nat.add_sub_cancel:=@Nat.add_sub_cancel
theorem Ú:type_of% @List.map_append:=@List.map_append
theorem Ą:type_of% @List.mem_append_left:=@List.mem_append_left
theorem è:type_of% @List.all_eq_true:=@List.all_eq_true
theorem Í:type_of% @List.mem_cons:=@List.mem_cons
theorem Î:type_of% @List.map_cons:=@List.map_cons
theorem Ó:type_of% @List.mem_cons_self:=@List.mem_cons_self
theorem Ý:type_of% @List.not_mem_nil:=@List.not_mem_nil
theorem Õ:type_of% @List.length_cons:=@List.length_cons
theorem á:type_of% @List.zip_cons_cons:=@List.zip_cons_cons
theorem à:type_of% @Bool.false_ne_true:=@Bool.false_ne_true
theorem ë:type_of% @Nat.lt_succ_self:=@Nat.lt_succ_self
theorem ã:type_of% @List.lookup_cons:=@List.lookup_cons
theorem Ð:type_of% @Ne.symm:=@Ne.symm
theorem ð:type_of% @List.getElem?_set_self:=@List.getElem?_set_self
theorem ą:type_of% @Classical.byContradiction:=@Classical.byContradiction
theorem aQW:type_of% @PySem.W.mg_none_of:=@PySem.W.mg_none_of
theorem ü:type_of% @PySem.mem_of_lookup:=@PySem.mem_of_lookup
theorem ä:type_of% @Bool.and_eq_true:=@Bool.and_eq_true
theorem å:type_of% @List.map_map:=@List.map_map
theorem â:type_of% @List.append_nil:=@List.append_nil
theorem Ā:type_of% @List.find?_cons:=@List.find?_cons
theorem ò:type_of% @List.drop_eq_getElem_cons:=@List.drop_eq_getElem_cons
theorem ì:type_of% @List.length_singleton:=@List.length_singleton
theorem é:type_of% @Nat.zero_le:=@Nat.zero_le
theorem ā:type_of% @List.length_drop:=@List.length_drop
theorem ú:type_of% @Nat.sub_self:=@Nat.sub_self
theorem Ă:type_of% @Nat.zero_lt_succ:=@Nat.zero_lt_succ
theorem Ć:type_of% @List.mem_filter:=@List.mem_filter
theorem ý:type_of% @List.length_nil:=@List.length_nil
theorem Á:type_of% @if_pos:=@if_pos
theorem Â:type_of% @if_neg:=@if_neg
theorem Å:type_of% @And.intro:=@And.intro
set_option compiler.extract_closed false
noncomputable section
abbrev Zdb(x:PySem.Str):Prop:=(x == ("__debug__":PySem.Str))=false
abbrev Zcd(x:PySem.Str):Prop:=(x == ("__classdict__":PySem.Str))=false
abbrev Zse(a:PySem.Expr)(l:List PySem.Expr)(v:PySem.Env):Prop:=PySem.starEach (a::l) v=(false,PySem.eval a v)::PySem.starEach l v
abbrev Zbt(p:PySem.Pos)(l:List PySem.Expr)(v:PySem.Env):Prop:=(PySem.backTo p (PySem.starEach l v)).any (·.1)=false
abbrev Zfi(e:PySem.Expr)(v:PySem.Env):Prop:=∀x,PySem.foldedSetIterable e v x=pure x
set_option hygiene false
local macro_rules|`('a')=>`((by exact È ‹_›))
local macro_rules|`('b')=>`((model X.prog X.w))
local macro_rules|`('c')=>`((.list (cs.map aK)))
local macro_rules|`('d')=>`((aQ X xs scope C fp s H))
local macro_rules|`('e')=>`((by simp))
local macro_rules|`('f')=>`((W.kla_obj "<lambda>" kH params body scope clos ((X.mg "__name__").getD .none) c' ctv))
local macro_rules|`('g')=>`((List.replicate m 0))
local macro_rules|`('h')=>`((.ListComp elt [⟨tg,iter,ifs,0⟩] scope pos))
local macro_rules|`('i')=>`((.Name x p))
local macro_rules|`('j')=>`((List.replicate xs.length 0++ow))
local macro_rules|`('k')=>`((by grind))
local macro_rules|`('l')=>`((List Bx))
set_option hygiene true
local macro_rules(kind:=Lean.Parser.Tactic.tacticLet__)|s=>do
 let d:=s.getArgs.back![0]
 unless d.isOfKind ``Lean.Parser.Term.letPatDecl do Lean.Macro.throwUnsupported
 let k:=Lean.Syntax.node .none
 let o:=k `null
 let m:=fun y=>k ``Lean.Parser.Tactic.rcasesPatMed #[o #[y]]
 `(tactic|obtain $(⟨m (d[0].rewriteBottomUp fun x=>
  if x.isIdent then k ``Lean.Parser.Tactic.rcasesPat.one #[x] else
  if x.isOfKind ``Lean.Parser.Term.hole then k ``Lean.Parser.Tactic.rcasesPat.ignore #[x[0]] else
  if x.isOfKind ``Lean.Parser.Term.anonymousCtor then k ``Lean.Parser.Tactic.rcasesPat.tuple #[x[0],o (x[1].getArgs.map fun y=>if y.isAtom then y else k ``Lean.Parser.Tactic.rcasesPatLo #[m y,o #[]]),x[2]] else x)⟩):rcasesPatMed:=$(⟨d[4]⟩))
local macro_rules(kind:=Lean.Parser.Command.declaration)|s=>do
 if (s[1].isOfKind ``Lean.Parser.Command.definition||s[1].isOfKind ``Lean.Parser.Command.abbrev)&&s[0][4].isNone&&s[0][1].isNone then
  return s.setArg 0 (s[0].setArg 4 (Lean.mkNullNode #[Lean.mkNode ``Lean.Parser.Command.noncomputable #[Lean.mkAtom "noncomputable"]]))
 Lean.Macro.throwUnsupported
local macro_rules|`(⋯)=>`(by decide)
local macro_rules|`(∅)=>`(by lia)
local macro_rules|`(tactic|simp! [$as,*]$[$l:location]?)=>`(tactic|simp only[$as,*]$[$l]?)
local macro_rules|`(tactic|dsimp! [$as,*]$[$l:location]?)=>`(tactic|dsimp only[$as,*]$[$l]?)
local macro_rules| `(tactic|obtain $p:rcasesPatMed:=$e:term)=>`(tactic|first|(refine Classical.byContradiction λhn=>?_;rcases $e:term with $p:rcasesPatMed<;>refine hn ?_<;>clear hn)|rcases $e:term with $p:rcasesPatMed)
local macro_rules| `(tactic|rintro⟨$ps,*⟩)=>`(tactic|(intro x;obtain⟨$ps,*⟩:=x))
local macro_rules| `(tactic|rintro $p $q $ps*)=>`(tactic|(rintro $p;rintro $q $ps*))
local macro_rules| `(tactic|ac_nf0)=>`(tactic|first|exact Or.inl rfl|exact Or.inr rfl|exact Or.inr (Or.inl rfl)|exact Or.inr (Or.inr rfl))
theorem Zrf(h:True:=by rfl):True:=h
local macro_rules|`(↥$x)=>`(autoParam $x Zrf._auto_1)
theorem Zrd(h:True:=by decide):True:=h
local macro_rules|`(⇑$x)=>`(autoParam $x Zrd._auto_1)
theorem Zro(h:True:=by ac_nf0):True:=h
local macro_rules|`(#v[$x])=>`(autoParam $x Zro._auto_1)
theorem Zri(h:True:=by intro _;rfl):True:=h
local macro_rules|`(~~~$x)=>`(autoParam $x Zri._auto_1)
abbrev ZA:=PySem.Value->PySem.Shared->Prop
abbrev ZB:=List (PySem.Addr×PySem.Obj)
abbrev ZC:=PySem.W.Frag
abbrev ZD:=PySem.Str->Option PySem.Value
abbrev ZE:=List (List Int×Int)
abbrev ZF:=List (Int×Int)
abbrev ZG:=List PySem.Str
abbrev ZH:=List Nat
abbrev ZI:=List PySem.PyData
abbrev ZJ:=List PySem.Value
abbrev ZK:=List Int
abbrev ZL:=Option PySem.PyData
abbrev ZM:=List PySem.Addr
abbrev ZN:=Option PySem.Value
abbrev ZO:=List (Option PySem.PyData)->Prop
namespace L2
open PySem PySem.Spec PyProof.Rows
abbrev dP:=Sum Int Str
def A0:dP->Value->Bool
 |.inl k,v=>Value.isInt k v
 |.inr x,v=>Value.isStrOf x v
def ϸ(w:World):dP->Int
 |.inl k=>hashInt k
 |.inr x=>hashStr w x
theorem c7:∀{k:dP}{v:Value},A0 k v=true->(∃i t,k=Sum.inl i/\v=Value.int i t)\/(∃x t,k=Sum.inr x/\v=Value.str x t)
 |.inl i,v,h=>by
  let⟨t,e⟩:=Value.isInt_shape (k:=i) (v:=v) h;exact .inl ⟨i,t,rfl,e⟩
 |.inr x,v,h=>by
  let⟨t,e⟩:=Value.isStrOf_shape (x:=x) (v:=v) h;exact .inr ⟨x,t,rfl,e⟩
theorem OV(i:Int)(t:Tok):A0 (.inl i) (.int i t)=true:=by simp[A0,Value.isInt]
theorem OW(x:Str)(t:Tok):A0 (.inr x) (.str x t)=true:=by simp[A0,Value.isStrOf]
theorem Ϲ(a b:Int):decide ((Sum.inl a:dP)=Sum.inl b)=(a == b):=by
 grind
theorem Ϻ(a b:Str):decide ((Sum.inr a:dP)=Sum.inr b)=decide (a=b):=by
 grind
theorem ϻ(a:Int)(b:Str):decide ((Sum.inl a:dP)=Sum.inr b)=false:=decide_eq_false (λq=>nomatch q)
theorem aEO(a:Str)(b:Int):decide ((Sum.inr a:dP)=Sum.inl b)=false:=decide_eq_false (λq=>nomatch q)
def dH(prog:Program)(w:World):PySem.KeyKind prog w dP where
 is:=A0
 hash:=ϸ w
 inj:=λv a b ha hb=>by
  rcases c7 ha with ⟨i,t,rfl,rfl⟩|⟨x,t,rfl,rfl⟩
  .rcases c7 hb with ⟨j,u,rfl,e⟩|⟨y,u,rfl,e⟩
   all_goals grind
  .rcases c7 hb with ⟨j,u,rfl,e⟩|⟨y,u,rfl,e⟩
   all_goals grind
 byValue:=λk v h=>by
  rcases c7 h with ⟨i,t,rfl,rfl⟩|⟨x,t,rfl,rfl⟩<;>rfl
 pyHash:=λhv h=>by
  rcases c7 hv with ⟨i,t,rfl,rfl⟩|⟨x,t,rfl,rfl⟩
  .exact wpAny_pyHash_int h
  .exact wpAny_pyHash_str h
 eqBool:=λhu hv h=>by
  rcases c7 hu with ⟨i,t,rfl,rfl⟩|⟨x,t,rfl,rfl⟩
  .rcases c7 hv with ⟨j,u,rfl,rfl⟩|⟨y,u,rfl,rfl⟩
   .rw[Ϲ]at h;exact wpAny_eqBool_int h
   .rw[ϻ]at h;exact SeqAt.EqAt.int_str i t y u _ _ _ _ h
  .rcases c7 hv with ⟨j,u,rfl,rfl⟩|⟨y,u,rfl,rfl⟩
   .rw[aEO]at h;exact SeqAt.EqAt.str_int x t j u _ _ _ _ h
   .rw[Ϻ]at h;exact wpAny_eqBool_str h
 «strs»:=λk x t v h=>by
  rcases c7 h with ⟨i,u,rfl,e⟩|⟨y,u,rfl,e⟩
  .exact nomatch e
  .injection e with e1 _
   subst e1;cases v<;>rfl
theorem FE(prog:Program)(w:World)(i:Int)(t:Tok):(dH prog w).is (.inl i) (.int i t)=true:=OV i t
theorem FF(prog:Program)(w:World)(x:Str)(t:Tok):(dH prog w).is (.inr x) (.str x t)=true:=OW x t
inductive V where
 |non|bl (b:Bool)|int (i:Int)|str (x:Str)|byt (b:Array UInt8)|flt (b:UInt64)|ref (a:Addr)|ty (n:String)
 deriving DecidableEq
def bJ:V->Value->Prop
 |.non,u=>u=Value.none
 |.bl b,u=>u=Value.bool b
 |.int i,u=>∃t,u=Value.int i t
 |.str x,u=>∃t,u=Value.str x t
 |.byt b,u=>∃t,u=Value.bytes b t
 |.flt b,u=>∃t,u=Value.float b t
 |.ref a,u=>u=Value.ref a
 |.ty n,u=>u=Value.type n
abbrev bK:List V->ZJ->Prop:=Paired bJ
theorem bK.length(r:bK xs us):xs.length=us.length:=Paired.length r
theorem bK.get:∀{xs:List V}{us:ZJ}{i:Nat}{x:V},bK xs us->xs[i]?=some x->∃u,us[i]?=some u/\bJ x u
 |_,_,_,_,.nil,e=>by simp at e
 |_,_,0,_,.cons r _,e=>by simp at e;subst e;exact⟨_,rfl,r⟩
 |_,_,i+1,x,.cons _ t,e=>by
  let⟨u,h1,h2⟩:=bK.get (i:=i) (x:=x) t (by simpa using e);exact⟨u,by simpa using h1,h2⟩
theorem bK.set(r:bJ x u):∀{xs:List V}{us:ZJ}(i:Nat),bK xs us->bK (xs.set i x) (us.set i u)
 |_,_,_,.nil=>.nil
 |_,_,0,.cons _ t=>.cons r t
 |_,_,i+1,.cons q t=>.cons q (bK.set r i t)
theorem bK.append:∀{xs ys:List V}{us ws:ZJ},bK xs us->bK ys ws->bK (xs++ys) (us++ws)
 |_,_,_,_,.nil,s=>s
 |_,_,_,_,.cons r t,s=>.cons r (bK.append t s)
theorem bK.take:∀{xs:List V}{us:ZJ}(n:Nat),bK xs us->bK (xs.take n) (us.take n)
 |_,_,0,_=>.nil
 |_,_,_+1,.nil=>.nil
 |_,_,n+1,.cons r t=>.cons r (bK.take n t)
theorem bK.drop:∀{xs:List V}{us:ZJ}(n:Nat),bK xs us->bK (xs.drop n) (us.drop n)
 |_,_,0,r=>r
 |_,_,_+1,.nil=>.nil
 |_,_,n+1,.cons _ t=>bK.drop n t
def oX:Option V->ZN->Prop
 |some v,some u=>bJ v u
 |none,none=>True
 |_,_=>False
def KV{κ:Type}:List (κ×V)->List (κ×Value)->Prop:=Paired λ(p:κ×V)(q:κ×Value)=>p.1=q.1/\bJ p.2 q.2
def kV:dP->V
 |.inl i=>.int i
 |.inr x=>.str x
inductive HO where
  |lst (xs:List V)
  |tup (xs:List V)
  |dK (À:List (dP×V))|dT (À:List (List dP×V))
  |set (S:Int->Bool) (n:Nat)
  |ins (C dx:Addr) (fs:List (Str×V))
  |own (x:Addr)
  |xd (fs:List (Str×V))
  |met (f x:Addr)
  |rng (lo hi:Int)
  |frz (o:Obj) (u:HO)
  |tbl (ps:Array Value)
 |lam (t u:Value) (q:Str)
  |ext (φ:Heap->Prop)
abbrev Hp:=Addr->Option HO
def aX(H:Hp)(a:Addr)(o:HO):Hp:=λb=>if b=a then some o else H b
theorem aM:aX H a o a=some o:=by unfold aX;rw[Á rfl]
theorem aH(h:b≠a):aX H a o b=H b:=by unfold aX;rw[Â h]
theorem CG:aX (aX H a o) a u=aX H a u:=by
 funext b;unfold aX;split<;>rfl
theorem aIK{H:Hp}{a b:Addr}{o u:HO}(h:H a=some o)(h':H b=some u)(d:o≠u):a≠b:=by
 grind
theorem bM{H:Hp}{a b:Addr}{o:HO}(h:H a=some o)(h':H b=none):a≠b:=by
 grind
section
variable (P:Program)(w:World)
def dQ(H:Hp)(h:Heap)(a:Addr):HO->Prop
 |.lst xs=>xs.length<=sizeLine/\∃(its:ZJ)(n:Nat),bK xs its/\h.get? a=some {cls:=.type "list",data:=.seq its.toArray n}
 |.tup xs=>xs.length<=sizeLine/\∃its:ZJ,bK xs its/\IsTup h a its.toArray
 |.dK À=>À.length<=sizeLine/\(a == sysModules)=false/\∃vs,KV À vs/\h.DictOf (dH P w) a vs
 |.dT À=>À.length<=sizeLine/\(a == sysModules)=false/\∃xs:List (List dP×Addr×Value),
   Paired (λ(p:List dP×V)(q:List dP×Addr×Value)=>p.1=q.1/\H q.2.1=some (.tup (p.1.map kV))/\bJ p.2 q.2.2) À xs /\
   ∃o es ep,h.get? a=some o/\o.ExactDict/\o.data=.dict es ep/\es.toList=xs.map (entryOfKey (tupleKind (dH P w)))/\(xs.map (·.1)).Nodup
 |.set S n=>h.SetOf (intKind P w) a S n
 |.ins C dx fs=>H dx=some (.own a)/\fs.length<=1000/\dx≠a/\h.get? a=some (W.instObj C dx) /\
   ∃mA,h.Ns1 dx mA/\(∀f,oX (fs.lookup f) (mA f))/\PySem.Within mA (fs.map (·.1))
 |.own _=>∃o,h.get? a=some o
 |.xd fs=>∃mA,h.Ns1 a mA/\∀f,oX (fs.lookup f) (mA f)
 |.rng lo hi=>∃t u v,h.get? a=some {cls:=.type "range",data:=.fields #[.int lo t,.int hi u,.int 1 v]}
 |.frz o u=>h.get? a=some o/\dQ H h a u
 |.tbl ps=>h.get? a=some {cls:=.none,data:=.fields ps}
 |.lam t u q=>∃ps:Array Value,h.get? a=some {cls:=.none,data:=.fields ps}/\(ps=#[]\/∃c,ps=#[t,u,.ref c]/\H c=some (.own a)/\c≠a/\h.CodeRec (.ref c) q)
 |.met f x=>h.get? a=some (W.methodObj (.ref f) (.ref x))
 |.ext φ=>φ h/\(∃o,h.get? a=some o)/\∀h1 h2:Heap,φ h1->(∀o,h1.get? a=some o->h2.get? a=some o)->φ h2
def mR(H:Hp)(h:Heap):Prop:=∀a o,H a=some o->dQ P w H h a o
end
section
variable {P:Program}{w:World}{H:Hp}{h h':Heap}{a:Addr}{o:HO}
theorem dQ.lt(x:dQ P w H h a o):a<h.objs.size:=by
 cases o with
 |lst xs=>let⟨_,_,_,_,e⟩:=x;exact Heap.lt_size e
 |tup xs=>let⟨_,_,_,p⟩:=x;exact p.lt
 |dK À=>let⟨_,_,_,_,o,_,_,e,_⟩:=x;exact Heap.lt_size e
 |dT À=>let⟨_,_,_,_,o,_,_,e,_⟩:=x;exact Heap.lt_size e
 |set S n=>let⟨o,_,_,_,e,_⟩:=x;exact Heap.lt_size e
 |ins C dx fs=>let⟨_,_,_,e,_⟩:=x;exact Heap.lt_size e
 |own y=>let⟨_,e⟩:=x;exact Heap.lt_size e
 |xd fs=>let⟨_,⟨_,_,_,e,_⟩,_⟩:=x;exact Heap.lt_size e
 |rng lo hi=>let⟨_,_,_,e⟩:=x;exact Heap.lt_size e
 |frz ob u=>let⟨e,_⟩:=x;exact Heap.lt_size e
 |tbl ps=>exact Heap.lt_size (show h.get? a=some _ from x)
 |lam t u q=>let⟨_,e,_⟩:=x;exact Heap.lt_size e
 |met f y=>exact Heap.lt_size (show h.get? a=some _ from x)
 |ext φ=>let⟨_,⟨_,e⟩,_⟩:=x;exact Heap.lt_size e
theorem Paired.mapP :∀{l₁:List α}{l₂:List β},Paired F l₁ l₂->(∀a b,F a b->G a b)->Paired G l₁ l₂
 |_,_,.nil,_=>.nil
 |_,_,.cons r t,f=>.cons (f _ _ r) (Paired.mapP t f)
theorem dQ.stay(x:dQ P w H h a o)(k:∀b u,(b=a\/H b=some (.own a))->h.get? b=some u->h'.get? b=some u)(ho:∀b,H b=some (.own a)->H' b=some (.own a))(ht:∀b xs,H b=some (.tup xs)->H' b=some (.tup xs)):dQ P w H' h' a o:=by
 induction o with
 |lst xs=>let⟨z,its,n,r,e⟩:=x;exact⟨z,its,n,r,k _ _ (.inl rfl) e⟩
 |tup xs=>let⟨z,its,r,ob,e,c⟩:=x;exact⟨z,its,r,ob,k _ _ (.inl rfl) e,c⟩
 |dK À=>let⟨z,y,vs,r,ob,es,ep,e,c⟩:=x;exact⟨z,y,vs,r,ob,es,ep,k _ _ (.inl rfl) e,c⟩
 |dT À=>
  let⟨z,y,xs,r,ob,es,ep,e,c⟩:=x;exact⟨z,y,xs,Paired.mapP r λp q z=>⟨z.1,ht _ _ z.2.1,z.2.2⟩,ob,es,ep,k _ _ (.inl rfl) e,c⟩
 |set S n=>let⟨ob,es,ep,t,e,c⟩:=x;exact⟨ob,es,ep,t,k _ _ (.inl rfl) e,c⟩
 |ins C dx fs=>
  let⟨d,z,ne,e,mA,⟨od,es,ep,e2,c⟩,r⟩:=x;exact⟨ho _ d,z,ne,k _ _ (.inl rfl) e,mA,⟨od,es,ep,k _ _ (.inr d) e2,c⟩,r⟩
 |own y=>let⟨ob,e⟩:=x;exact⟨ob,k _ _ (.inl rfl) e⟩
 |xd fs=>let⟨mA,⟨od,es,ep,e,c⟩,r⟩:=x;exact⟨mA,⟨od,es,ep,k _ _ (.inl rfl) e,c⟩,r⟩
 |rng lo hi=>let⟨t,u,v,e⟩:=x;exact⟨t,u,v,k _ _ (.inl rfl) e⟩
 |frz ob u ih=>let⟨e,q⟩:=x;exact⟨k _ _ (.inl rfl) e,ih q⟩
 |tbl ps=>
  have e:h.get? a=some {cls:=.none,data:=.fields ps}:=x;show h'.get? a=some {cls:=.none,data:=.fields ps};exact k a _ (.inl rfl) e
 |lam t u q=>
  let⟨ps,e,r⟩:=x;refine⟨ps,k _ _ (.inl rfl) e,?_⟩;rcases r with r|⟨c,r1,r2,r3,b,ob,vs,tq,e1,e2,e3,e4⟩
  .exact .inl r
  .cases e1
   exact .inr ⟨c,r1,ho _ r2,r3,c,ob,vs,tq,rfl,k _ _ (.inr r2) e2,e3,e4⟩
 |met f y=>
  have e:h.get? a=some (W.methodObj (.ref f) (.ref y)):=x;show h'.get? a=some (W.methodObj (.ref f) (.ref y));exact k a _ (.inl rfl) e
 |ext φ=>let⟨p,⟨o,e⟩,st⟩:=x;exact⟨st _ _ p λo q=>k _ _ (.inl rfl) q,⟨o,k _ _ (.inl rfl) e⟩,st⟩
theorem mR.lt(x:mR P w H h)(e:H a=some o):a<h.objs.size:=(x a o e).lt
theorem mR.fresh(x:mR P w H h)(e:h.objs.size<=a):H a=none:=by
 cases q:H a with
 |none=>rfl
 |some u=>exact absurd (Ô (x.lt q) e) (ù _)
theorem mR.kept(x:mR P w H h)(k:∀b u,h.get? b=some u->h'.get? b=some u):mR P w H h':=λa o e=>
 (x a o e).stay (λb u _ q=>k b u q) (λ_ q=>q) λ_ _ q=>q
theorem mR.laid(x:mR P w H h)(k:∀b u,h.get? b=some u->h'.get? b=some u)(hp:h.objs.size<=a)(new:dQ P w (aX H a o) h' a o):mR P w (aX H a o) h':=λb u e=>by
 have hn:=x.fresh hp;by_cases hb:b=a
 .subst hb;rw[aM]at e;cases e;exact new
 .rw[aH hb]at e
  exact(x b u e).stay (λc v _ q=>k c v q) (λc q=>by rw[aH (bM q hn)];exact q) λc xs q=>by rw[aH (bM q hn)];exact q
end
def Rd(H:Hp)(a:Addr)(u:HO):Prop:=H a=some u\/∃o,H a=some (.frz o u)
theorem Rd.ok(r:Rd H a u)(x:mR P w H h):dQ P w H h a u:=by
 rcases r with r|⟨o,r⟩
 .exact x a u r
 .obtain⟨_,q⟩:=x a _ r
  exact q
def Ĥ:Option HO->Prop
 |some (.lst _)=>True
 |some (.dK _)=>True
 |some (.dT _)=>True
 |some (.set _ _)=>True
 |some (.ins _ _ _)=>True
 |some (.ext _)=>True
 |_=>False
section
theorem mR.write(ok:mR P w H h)(mu:Ĥ (H x))(he:e=x\/H e=some (.own x))(k:∀b u,b≠e->h.get? b=some u->h'.get? b=some u)(heo:∃u,h'.get? e=some u)(new:dQ P w (aX H x o') h' x o'):mR P w (aX H x o') h':=λb u q=>by
 have nown:∀c y,H c=some (.own y)->c≠x:=λc y r z=>by subst z;rw[r]at mu;exact mu
 have ntup:∀c xs,H c=some (.tup xs)->c≠x:=λc xs r z=>by subst z;rw[r]at mu;exact mu
 by_cases hb:b=x
 .subst hb;rw[aM]at q;cases q;exact new
 .rw[aH hb]at q
  by_cases hbe:b=e
  .have q':H b=some (.own x):=by
    rcases he with z|z
    .grind
    .rw[hbe];exact z
   rw[q]at q';cases q';let⟨v,hv⟩:=heo;exact⟨v,by rw[hbe];exact hv⟩
  .refine(ok b u q).stay (λc v hc r=>k c v ?_ r) (λc r=>by rw[aH (nown c b r)];exact r) λc xs r=>by rw[aH (ntup c xs r)];exact r
   grind
end
structure Un(fs ex:ZM)(H H':Hp)(h h':Heap):Prop where
 keep:∀b o,h.get? b=some o->H b=none->b∉fs->b∉ex->h'.get? b=some o
 slot:∀b o,h.get? b=some o->H b=none->b∈fs->b∉ex->∃sl,h'.get? b=some {o with slots:=sl}
 free:∀b o,h.get? b=some o->H b=none->b∉ex->H' b=none
 there:∀b o,h.get? b=some o->b∉ex->∃o',h'.get? b=some o'
 tups:∀b xs,H b=some (.tup xs)->H' b=some (.tup xs)
 frzs:∀b o u,H b=some (.frz o u)->H' b=some (.frz o u)
 tbls:∀b ps,H b=some (.tbl ps)->∃more,H' b=some (.tbl (ps++more))
section
variable {fs ex:ZM}{H:Hp}{h h':Heap}{a:Addr}{o:HO}
theorem Un.any(u:Un fs ex H H1 h h1)(q:h.get? b=some ob)(n:H b=none)(hx:b∉ex):∃sl,h1.get? b=some {ob with slots:=sl}:=by
 by_cases hb:b∈fs
 .exact u.slot b ob q n hb hx
 .exact⟨ob.slots,u.keep b ob q n hb hx⟩
theorem Un.kept(k:∀b u,h.get? b=some u->h'.get? b=some u):Un fs ex H H h h':=
 ⟨λb ob q _ _ _=>k b ob q,λb ob q _ _ _=>⟨ob.slots,k b ob q⟩,λ_ _ _ n _=>n,λb ob q _=>⟨ob,k b ob q⟩,λ_ _ q=>q,λ_ _ _ q=>q,λ_ ps q=>⟨#[],by rw[q];simp⟩⟩
theorem Un.refl:Un fs ex H H h h:=Un.kept λ_ _ q=>q
theorem Un.laid(k:∀b u,h.get? b=some u->h'.get? b=some u)(hp:h.objs.size<=a)(hn:H a=none):Un fs ex H (aX H a o) h h' where
 keep:=λb u q _ _ _=>k b u q
 slot:=λb u q _ _ _=>⟨u.slots,k b u q⟩
 free:=λb u q n _=>by rw[aH (Ì (Ô (Heap.lt_size q) hp))];exact n
 there:=λb u q _=>⟨u,k b u q⟩
 tups:=λb xs q=>by rw[aH (bM q hn)];exact q
 frzs:=λb u xs q=>by rw[aH (bM q hn)];exact q
 tbls:=λb ps q=>⟨#[],by rw[aH (bM q hn),q];simp⟩
theorem Un.write(mu:Ĥ (H x))(he:e=x\/H e=some (.own x))(k:∀b u,b≠e->h.get? b=some u->h'.get? b=some u)(heo:∃u,h'.get? e=some u):Un fs ex H (aX H x o) h h':=by
 have hx:∀b,H b=none->b≠x:=λb n z=>by subst z;rw[n]at mu;exact mu
 have hb:∀b,H b=none->b≠e:=λb n z=>by
  grind
 have hm:∀b u,H b=some u->¬Ĥ (some u)->b≠x:=λb u q nm z=>by grind
 refine⟨λb u q n _ _=>k b u (hb b n) q,λb u q n _ _=>⟨u.slots,k b u (hb b n) q⟩,λb u q n _=>by rw[aH (hx b n)];exact n,λb u q _=>?_,
  λb xs q=>by rw[aH (hm b _ q λz=>z)];exact q,λb u xs q=>by rw[aH (hm b _ q λz=>z)];exact q,λb ps q=>⟨#[],by rw[aH (hm b _ q λz=>z),q];simp⟩⟩
 grind
end
def ĵ(h:Heap)(H:Hp):ZM:=(List.range h.objs.size).filter λa=>(H a).isSome
def AB(h:Heap)(H:Hp):Heap:=W.hideAll h (ĵ h H)
theorem OX(h:Heap)(H:Hp):(AB h H).objs.size=h.objs.size:=W.hideAll_size _ _
theorem RM{h:Heap}{H:Hp}{b:Addr}{o:Obj}(e:h.get? b=some o)(n:H b=none):(AB h H).get? b=some o:=
 W.hideAll_get _ e λhm=>by
  have q:(H b).isSome=true:=(Ć.mp hm).2;rw[n]at q;simp at q
theorem YR(e:(AB h H).get? b=some o):h.get? b=some o/\H b=none:=by
 have e':h.get? b=some o:=W.of_hideAll (ĵ h H) e;refine⟨e',?_⟩;cases q:H b with
 |none=>rfl
 |some x=>
  have hm:b∈ĵ h H:=Ć.mpr ⟨List.mem_range.mpr (Heap.lt_size e'),by simp[q]⟩;have z:(AB h H).get? b=none:=W.hideAll_none (ĵ h H) hm;rw[z]at e;cases e
def YS(g h:Heap)(L:Addr):ZB:=(List.range h.objs.size).filterMap λa=>if a=L\/(g.get? a).isSome=true then none else (h.get? a).map λo=>(a,o)
def rest(g h:Heap)(L d:Addr):ZB:=(YS g h L).filter λp=>decide (p.1≠d)
structure Mod(K:ZC)(mg:ZD)(base:Heap):Prop where
 kin:K.In base
 glob:base.Ns mainGlobals mg
 blt:∃mb,base.Ns builtinsNs mb/\∀x:Str,x≠"__name__"->mb x=bootBuiltins x
 nolimit:base.NoLimit
structure Cx where
 prog:Program
 w:World
 K:ZC
 mg:ZD
 base:Heap
 A:Around
 N:ZG
 s₀:Shared
 H₀:Hp
 env:Env
 outer:List Env
 stack:List Env
 ex:ZM
 fn:Str->Bool
 calm:Bool
 pn:ZB
 xe:ZA
def vS(l:List Env):ZM:=l.filterMap (·.frame)
abbrev Cx.fs(X:Cx):ZM:=vS X.outer
def CH(sc:Scope)(x:Str):Prop:=sc.names.lookup x=some .local\/sc.names.lookup x=some .cell\/sc.names.lookup x=some .free
def Ē(sc:Scope)(x:Str):Prop:=sc.names.lookup x=some .local\/sc.names.lookup x=some .cell
def aLX(env:Env)(h:Heap)(m:ZD)(x:Str)(u:Value):Prop:=
 (env.kindOf x=some .local/\m x=some u)\/((env.kindOf x=some .cell\/env.kindOf x=some .free)/\∃c,env.cells.lookup x=some c/\h.IsCell c (some u))
structure Cx.Ok(X:Cx):Prop where
 mod:Mod X.K X.mg X.base
 kind:X.env.scope.kind=.function
 glob:X.env.globals=mainGlobals
 blt:X.env.builtins=builtinsNs
 above:X.s₀.heap.objs.size<=X.env.locals
 inj:∀x y c,X.env.cells.lookup x=some c->X.env.cells.lookup y=some c->x=y
 has:∀x,(X.env.kindOf x=some .cell\/X.env.kindOf x=some .free)->∃c,X.env.cells.lookup x=some c
 cab:∀x c,X.fn x=true->X.env.cells.lookup x=some c->X.s₀.heap.objs.size<=c
 hd:X.calm=true->X.A.handled=none
 frames:X.A.frames=some X.stack
 stk:X.stack=X.outer\/(X.stack=X.env::X.outer/\X.env.frame=some X.env.locals)
 exf:∀b∈X.ex,b≠X.env.locals/\∀x c,X.env.cells.lookup x=some c->c≠b
 bs:∀b o,X.base.get? b=some o->X.s₀.heap.get? b=some o/\X.H₀ b=none
 bsz:X.base.objs.size<=X.s₀.heap.objs.size
 noex:∀b o,X.base.get? b=some o->b∉X.ex
 exfs:∀b∈X.ex,b∉X.fs
 funs:X.s₀.heap.FunFrames X.base X.outer
 frf:∀b∈X.fs,X.H₀ b=none
structure Inv(X:Cx)(U:ZB)(σ:List (Option V))(H:Hp)(s:Shared):Prop where
 ok:X.Ok
 os:s.os=X.s₀.os
 bare:AllBare s.gens
 base:Un X.fs X.ex X.H₀ H X.s₀.heap s.heap
 loc:∃m,s.heap.Ns X.env.locals m/\∀(i:Nat)(x:Str)(v:V),X.N[i]?=some x->σ[i]?=some (some v)->CH X.env.scope x->∃u,bJ v u/\aLX X.env s.heap m x u
 cell:∀x c,X.env.cells.lookup x=some c->∃v,s.heap.IsCell c v
 free:H X.env.locals=none
 freeC:∀x c,X.env.cells.lookup x=some c->H c=none
 pin:∀p∈X.pn++U,s.heap.get? p.1=some p.2/\H p.1=none/\p.1≠X.env.locals/\p.1∉X.fs/\∀v,p.2.data≠.cell v
 hok:mR X.prog X.w H s.heap
 len:σ.length=X.N.length
section
variable {X:Cx}
theorem Cx.Ok.nofr(ok:X.Ok)(e:X.base.get? b=some o):b∉X.fs:=λhb=>by
 have:=(ok.funs.mem hb).1;rw[e]at this;cases this
theorem Inv.bs(I:Inv X U σ H s):∀b o,X.base.get? b=some o->s.heap.get? b=some o/\H b=none:=λb o e=>
 ⟨I.base.keep b o (I.ok.bs b o e).1 (I.ok.bs b o e).2 (I.ok.nofr e) (I.ok.noex b o e),I.base.free b o (I.ok.bs b o e).1 (I.ok.bs b o e).2 (I.ok.noex b o e)⟩
theorem Inv.bk(I:Inv X U σ H s):∀b o,X.base.get? b=some o->s.heap.get? b=some o:=λb o e=>(I.bs b o e).1
theorem Inv.mod(I:Inv X U σ H s):Mod X.K X.mg X.base:=I.ok.mod
theorem Inv.kIn(I:Inv X U σ H s):X.K.In s.heap:=I.ok.mod.kin.keeps I.bk
theorem Inv.nolimit(I:Inv X U σ H s):s.heap.NoLimit:=I.ok.mod.nolimit.keeps I.bk
theorem Inv.lt(I:Inv X U σ H s):X.env.locals<s.heap.objs.size:=let ⟨_,hn,_⟩:=I.loc;hn.lt
theorem Inv.sz(I:Inv X U σ H s):X.s₀.heap.objs.size<=s.heap.objs.size:=Ø I.ok.above (È I.lt)
theorem Inv.nofs(I:Inv X U σ H s){a:Addr}(h:s.heap.objs.size<=a):a∉X.fs:=λhb=>by
 let⟨_,o,ho,_⟩:=I.ok.funs.mem hb;exact absurd (Ô (Heap.lt_size ho) (Ø I.sz h)) (ù _)
theorem Inv.cne(I:Inv X U σ H s):∀x c,X.env.cells.lookup x=some c->c≠X.env.locals:=λx c e z=>by
 let⟨v,o,ho,hd⟩:=I.cell x c e;let⟨m,⟨o',es,ep,ho',hd',_⟩,_⟩:=I.loc
 grind
theorem Inv.funs(I:Inv X U σ H s):s.heap.FunFrames X.base X.outer:=by
 have all:∀(l:List Env),(∀b∈vS l,b∈X.fs)->X.s₀.heap.FunFrames X.base l->s.heap.FunFrames X.base l:=by
  intro l
  induction l with
  |nil=>intro _ _;trivial
  |cons env r ih=>
   intro hs hl;let⟨hk,⟨L,o,hf,hn,ho,hd⟩,hr⟩:=hl;have hL:L∈X.fs:=hs L (by unfold vS;rw[List.filterMap_cons,hf];exact Ó)
   let⟨sl,e⟩:=I.base.slot L o ho (I.ok.frf L hL) hL λz=>I.ok.exfs L z hL;exact⟨hk,⟨L,_,hf,hn,e,hd⟩,ih (λb hb=>hs b (by unfold vS;rw[List.filterMap_cons,hf];exact Ï _ hb)) hr⟩
 exact all X.outer (λ_ hb=>hb) I.ok.funs
theorem Inv.stack(I:Inv X U σ H s):s.heap.FunFrames X.base X.stack:=by
 rcases I.ok.stk with e|⟨e,hf⟩
 .rw[e];exact I.funs
 .rw[e]
  let⟨m,hn,_⟩:=I.loc;refine .cons (by rw[I.ok.kind];decide) hf hn ?_ I.funs;exact Heap.get?_none_of_le (Ø I.ok.bsz I.ok.above)
theorem Inv.stkSub(I:Inv X U σ H s):∀b∈vS X.stack,b∈X.env.locals::X.fs:=λb hb=>by
 rcases I.ok.stk with e|⟨e,hf⟩
 .grind
 .rw[e]at hb
  unfold vS at hb;rw[List.filterMap_cons,hf]at hb;exact hb
theorem Inv.stkFree(I:Inv X U σ H s):∀b∈vS X.stack,H b=none:=λb hb=>by
 rcases Í.mp (I.stkSub b hb)with e|hb
 .rw[e];exact I.free
 .obtain⟨_,o,ho,_⟩:=I.ok.funs.mem hb
  exact I.base.free b o ho (I.ok.frf b hb) λz=>I.ok.exfs b z hb
theorem Inv.step{ch:ZM}(I:Inv X U σ H s)(hch:∀b∈ch,(b∈X.ex\/X.s₀.heap.objs.size<=b)/\b≠X.env.locals/\(∀x c,X.env.cells.lookup x=some c->c≠b)/\∀p∈X.pn++U,p.1≠b)(keep:∀b o,b≠X.env.locals->b∉X.fs->b∉ch->s.heap.get? b=some o->H b=none->h'.get? b=some o)(slot:∀b o,b≠X.env.locals->b∈X.fs->b∉ch->s.heap.get? b=some o->H b=none->∃sl,h'.get? b=some {o with slots:=sl})(free:∀b o,b∉ch->s.heap.get? b=some o->H b=none->H' b=none)(there:∀b o,b∉ch->s.heap.get? b=some o->∃o',h'.get? b=some o')(tups:∀b xs,H b=some (.tup xs)->H' b=some (.tup xs))(frzs:∀b o u,H b=some (.frz o u)->H' b=some (.frz o u))(tbls:∀b ps,H b=some (.tbl ps)->∃more,H' b=some (.tbl (ps++more)))(ns:∀m,s.heap.Ns X.env.locals m->h'.Ns X.env.locals m)(hok:mR X.prog X.w H' h')(hg:AllBare g'):
  Inv X U σ H' {s with heap:=h',gens:=g',drawn:=d',toks:=t'}:=by
 have neL:∀b o,X.s₀.heap.get? b=some o->b≠X.env.locals:=λb o e=>Ì (Ô (Heap.lt_size e) I.ok.above);have neC:∀b o,X.s₀.heap.get? b=some o->b∉X.ex->b∉ch:=λb o e hx hb=>by
  rcases(hch b hb).1 with z|z
  .exact hx z
  .exact absurd (Ô (Heap.lt_size e) z) (ù _)
 have cellK:∀x c,X.env.cells.lookup x=some c->∀v,s.heap.IsCell c v->h'.IsCell c v:=λx c e v⟨o,ho,hd⟩=>by
  have nch:c∉ch:=λz=>(hch c z).2.2.1 x c e rfl;by_cases hc:c∈X.fs
  .obtain⟨sl,q⟩:=slot c o (I.cne x c e) hc nch ho (I.freeC x c e)
   exact⟨_,q,hd⟩
  .exact⟨o,keep c o (I.cne x c e) hc nch ho (I.freeC x c e),hd⟩
 refine⟨I.ok,I.os,hg,⟨λb o e n hb hx=>?_,λb o e n hb hx=>?_,λb o e n hx=>?_,λb o e hx=>?_,λb xs e=>tups b xs (I.base.tups b xs e),λb o xs e=>frzs b o xs (I.base.frzs b o xs e),λb ps e=>?_⟩,?_,λx c e=>?_,?_,λx c e=>?_,λp hp=>?_,hok,I.len⟩
 .exact keep b o (neL b o e) hb (neC b o e hx) (I.base.keep b o e n hb hx) (I.base.free b o e n hx)
 .obtain⟨sl,e1⟩:=I.base.slot b o e n hb hx
  let⟨sl',e2⟩:=slot b _ (neL b o e) hb (neC b o e hx) e1 (I.base.free b o e n hx);exact⟨sl',e2⟩
 .obtain⟨o',e1⟩:=I.base.there b o e hx
  exact free b o' (neC b o e hx) e1 (I.base.free b o e n hx)
 .obtain⟨o',e1⟩:=I.base.there b o e hx
  exact there b o' (neC b o e hx) e1
 .obtain⟨m1,e1⟩:=I.base.tbls b ps e
  let⟨m2,e2⟩:=tbls b _ e1;exact⟨m1++m2,by rw[e2,Array.append_assoc]⟩
 .obtain⟨m,hn,hl⟩:=I.loc
  refine⟨m,ns m hn,λi x v e1 e2 e3=>?_⟩;let⟨u,r,l⟩:=hl i x v e1 e2 e3;refine⟨u,r,?_⟩;rcases l with l|⟨k,c,e,z⟩
  .exact .inl l
  .exact .inr ⟨k,c,e,cellK x c e _ z⟩
 .obtain⟨v,z⟩:=I.cell x c e
  exact⟨v,cellK x c e v z⟩
 .obtain⟨m,⟨o,_,_,ho,_⟩,_⟩:=I.loc
  exact free _ o (λz=>(hch _ z).2.1 rfl) ho I.free
 .obtain⟨v,o,ho,hd⟩:=I.cell x c e
  exact free c o (λz=>(hch c z).2.2.1 x c e rfl) ho (I.freeC x c e)
 .obtain⟨e,n,ne,nf,d⟩:=I.pin p hp
  have nch:p.1∉ch:=λz=>(hch p.1 z).2.2.2 p hp rfl;exact⟨keep p.1 p.2 ne nf nch e n,free p.1 p.2 nch e n,ne,nf,d⟩
theorem Inv.un(I:Inv X U σ H s)(u:Un X.fs [] H H' s.heap h')(hok:mR X.prog X.w H' h'):Inv X U σ H' {s with heap:=h',toks:=t'}:=by
 let⟨m,⟨o,es,ep,ho,r⟩,_⟩:=id I.loc;let⟨sl,hL⟩:=u.any ho I.free 'e';exact I.step (g':=s.gens) (d':=s.drawn) (ch:=[]) (λ_ z=>nomatch z) (λb o _ hb _ e n=>u.keep b o e n hb 'e') (λb o _ hb _ e n=>u.slot b o e n hb 'e') (λb o _ e n=>u.free b o e n 'e') (λb o _ e=>u.there b o e 'e') u.tups u.frzs u.tbls (λm' hm=>by
  let⟨o',es',ep',ho',r'⟩:=hm;rw[ho]at ho';cases ho';exact⟨_,es',ep',hL,r'⟩) hok I.bare
theorem Inv.call(I:Inv X U σ H s)(u:Un (vS X.stack) ch H H' s.heap h')(hok:mR X.prog X.w H' h')(hg:AllBare g')(hch:∀b∈ch,(b∈X.ex\/X.s₀.heap.objs.size<=b)/\b≠X.env.locals/\(∀x c,X.env.cells.lookup x=some c->c≠b)/\∀p∈X.pn++U,p.1≠b):
  Inv X U σ H' {s with heap:=h',gens:=g',drawn:=d',toks:=t'}:=by
 let⟨m,⟨o,es,ep,ho,r⟩,_⟩:=id I.loc;let⟨sl,hL⟩:=u.any ho I.free λz=>(hch _ z).2.1 rfl;exact I.step (ch:=ch) hch (λb o hL hb hc e n=>u.keep b o e n (λz=>(Í.mp (I.stkSub b z)).elim hL hb) hc) (λb o _ _ hc e n=>u.any e n hc) (λb o hc e n=>u.free b o e n hc) (λb o hc e=>u.there b o e hc) u.tups u.frzs u.tbls (λm' hm=>by
  let⟨o',es',ep',ho',r'⟩:=hm;rw[ho]at ho';cases ho';exact⟨_,es',ep',hL,r'⟩) hok hg
theorem Inv.turned(I:Inv X U σ H s)(k:∀b o,b≠it->s.heap.get? b=some o->h'.get? b=some o)(hn:H it=none)(hL:it≠X.env.locals)(h1:it∈X.ex\/X.s₀.heap.objs.size<=it)(h2:∀x c,X.env.cells.lookup x=some c->c≠it)(h3:∀p∈X.pn++U,p.1≠it):Inv X U σ H {s with heap:=h',toks:=t'}:=by
 have nit:∀b u,H b=some u->b≠it:=λb u e z=>by rw[z,hn]at e;cases e
 refine I.step (g':=s.gens) (d':=s.drawn) (ch:=[it]) (λb hb=>?_) (λb o _ _ hc e _=>k b o (λz=>hc (by simp[z])) e) (λb o _ _ hc e _=>⟨o.slots,k b o (λz=>hc (by simp[z])) e⟩) (λ_ _ _ _ n=>n)
  (λb o hc e=>⟨o,k b o (λz=>hc (by simp[z])) e⟩) (λ_ _ e=>e) (λ_ _ _ e=>e) (λb ps e=>⟨#[],by rw[e];simp⟩) (λm hm=>?_) (λb u e=>?_) I.bare
 .have e:b=it:=by simpa using hb
  subst e;exact⟨h1,hL,h2,h3⟩
 .obtain⟨o,es,ep,ho,r⟩:=hm
  exact⟨o,es,ep,k _ o (Ð hL) ho,r⟩
 .refine(I.hok b u e).stay (λc v hc q=>k c v ?_ q) (λ_ q=>q) λ_ _ q=>q
  rcases hc with z|z
  .rw[z];exact nit b u e
  .exact nit c _ z
theorem Inv.tok(I:Inv X U σ H s)(t:Nat):Inv X U σ H {s with toks:=t}:=I.un (h':=s.heap) (t':=t) Un.refl I.hok
theorem Inv.kept(I:Inv X U σ H s)(k:∀b u,s.heap.get? b=some u->h'.get? b=some u):Inv X U σ H {s with heap:=h',toks:=t'}:=I.un (Un.kept k) (I.hok.kept k)
theorem Inv.laid(I:Inv X U σ H s)(k:∀b u,s.heap.get? b=some u->h'.get? b=some u)(hp:s.heap.objs.size<=a)(new:dQ X.prog X.w (aX H a o) h' a o):
  Inv X U σ (aX H a o) {s with heap:=h',toks:=t'}:=I.un (Un.laid k hp (I.hok.fresh hp)) (I.hok.laid k hp new)
theorem Inv.write(I:Inv X U σ H s)(mu:Ĥ (H x))(he:e=x\/H e=some (.own x))(k:∀b u,b≠e->s.heap.get? b=some u->h'.get? b=some u)(heo:∃u,h'.get? e=some u)(new:dQ X.prog X.w (aX H x o) h' x o):Inv X U σ (aX H x o) {s with heap:=h',toks:=t'}:=I.un (Un.write mu he k heo) (I.hok.write mu he k heo new)
theorem Inv.pins_of(I:Inv X U σ H s)(h:∀p∈pins',s.heap.get? p.1=some p.2/\H p.1=none/\p.1≠X.env.locals/\p.1∉X.fs/\∀v,p.2.data≠.cell v):Inv X pins' σ H s:=
 ⟨I.ok,I.os,I.bare,I.base,I.loc,I.cell,I.free,I.freeC,λp hp=>(ö.mp hp).elim (λz=>I.pin p (Ą _ z)) (h p),I.hok,I.len⟩
theorem FG{N:ZG}(hN:N.Nodup){i j:Nat}(a:N[i]?=some x)(b:N[j]?=some x):i=j:=by
 let⟨h1,e1⟩:=Ò.mp a;let⟨h2,e2⟩:=Ò.mp b;exact(List.getElem_inj hN).mp (e1.trans e2.symm)
theorem A1{M:Model}{A:Around}{E:ZA}{i:Nat}{x:Str}{v:V}{u:Value}{Q:Unit->Shared->Prop}(I:Inv X U σ H s)(hN:X.N.Nodup)(hi:X.N[i]?=some x)(hx:Ē X.env.scope x)(r:bJ v u)(h:∀s',Inv X U (σ.set i (some v)) H s'->(∃a,Heap.SameBut a s.heap s'.heap/\(a=X.env.locals\/X.env.cells.lookup x=some a))->Q () s')(hf:X.fn x=true\/X.env.scope.names.lookup x=some .local:=by first|exact .inl rfl|exact .inr rfl|assumption):wpAny M A (storeName X.env x u) Q E s:=by
 let⟨m,hn,hl⟩:=id I.loc;have hcls:(X.env.scope.kind == .class || (X.env.scope.kind == .module && X.env.locals != X.env.globals))=false:=by rw[I.ok.kind];rfl
 have hiσ:i<σ.length:=by rw[I.len];exact(Ò.mp hi).1
 have cne:=I.cne;have tracked:∀{a:Addr}{h':Heap},(∃o,s.heap.get? a=some o/\H a=none)->Heap.SameBut a s.heap h'->mR X.prog X.w H h':=λ{a h'}ha hs b ob e=>by
  let⟨_,_,hfree⟩:=ha;refine(I.hok b ob e).stay (λc w' hc q=>(hs.2 c ?_).trans q) (λ_ q=>q) λ_ _ q=>q
  grind
 rcases hx with hk|hk
 .refine wpAny_storeName_local hk hn (λh' hn' hs=>?_) hcls
  let⟨oL,_,_,hoL,_⟩:=id hn;refine h _ ⟨I.ok,I.os,I.bare,⟨λb o e n hb hx=>?_,λb o e n hb hx=>?_,I.base.free,λb o e hx=>?_,I.base.tups,I.base.frzs,I.base.tbls⟩,⟨_,hn',λj y v' e1 e2 e3=>?_⟩,λy c e=>?_,I.free,I.freeC,λp hp=>?_,tracked ⟨oL,hoL,I.free⟩ hs,by simpa using I.len⟩ ⟨_,hs,.inl rfl⟩
  .exact(hs.2 b (Ì (Ô (Heap.lt_size e) I.ok.above))).trans (I.base.keep b o e n hb hx)
  .obtain⟨sl,e1⟩:=I.base.slot b o e n hb hx
   exact⟨sl,(hs.2 b (Ì (Ô (Heap.lt_size e) I.ok.above))).trans e1⟩
  .obtain⟨o',e1⟩:=I.base.there b o e hx
   exact⟨o',(hs.2 b (Ì (Ô (Heap.lt_size e) I.ok.above))).trans e1⟩
  .by_cases hj:j=i
   .subst hj
    rw[hi]at e1;cases e1;rw[ð hiσ]at e2;cases e2;exact⟨u,r,.inl ⟨hk,by simp⟩⟩
   .rw[ß (Ð hj)]at e2
    let⟨u',r',q⟩:=hl j y v' e1 e2 e3;refine⟨u',r',?_⟩;rcases q with ⟨k,e⟩|⟨k,c,e,z⟩
    .refine .inl ⟨k,?_⟩
     have:y≠x:=λe=>hj (FG hN e1 (e▸hi));simp[this,e]
    .exact .inr ⟨k,c,e,z.sameBut hs (cne y c e)⟩
  .obtain⟨w',z⟩:=I.cell y c e
   exact⟨w',z.sameBut hs (cne y c e)⟩
  .obtain⟨e,n,ne,nf,d⟩:=I.pin p hp
   exact⟨(hs.2 p.1 ne).trans e,n,ne,nf,d⟩
 .have hfn:X.fn x=true:=by
   rcases hf with z|z
   .exact z
   .rw[z]at hk;cases hk
  let⟨c,hc⟩:=I.ok.has x (.inl hk);let⟨w',z⟩:=I.cell x c hc;refine wpAny_storeName_cell I.ok.kind hk hc z (λh' hc' hs=>?_);let⟨oc,hoc,hocd⟩:=id z;refine h {s with heap:=h'} ⟨I.ok,I.os,I.bare,⟨λb o e n hb hx=>?_,λb o e n hb hx=>?_,I.base.free,λb o e hx=>?_,I.base.tups,I.base.frzs,I.base.tbls⟩,⟨m,hn.sameBut hs (Ð (cne x c hc)),λj y v' e1 e2 e3=>?_⟩,λy c' e=>?_,I.free,I.freeC,λp hp=>?_,tracked ⟨oc,hoc,I.freeC x c hc⟩ hs,by simpa using I.len⟩ ⟨c,hs,.inr hc⟩
  .exact(hs.2 b (Ì (Ô (Heap.lt_size e) (I.ok.cab x c hfn hc)))).trans (I.base.keep b o e n hb hx)
  .obtain⟨sl,e1⟩:=I.base.slot b o e n hb hx
   exact⟨sl,(hs.2 b (Ì (Ô (Heap.lt_size e) (I.ok.cab x c hfn hc)))).trans e1⟩
  .obtain⟨o',e1⟩:=I.base.there b o e hx
   exact⟨o',(hs.2 b (Ì (Ô (Heap.lt_size e) (I.ok.cab x c hfn hc)))).trans e1⟩
  .by_cases hj:j=i
   .subst hj
    rw[hi]at e1;cases e1;rw[ð hiσ]at e2;cases e2;exact⟨u,r,.inr ⟨.inl hk,c,hc,hc'⟩⟩
   .rw[ß (Ð hj)]at e2
    let⟨u',r',q⟩:=hl j y v' e1 e2 e3;refine⟨u',r',?_⟩;rcases q with q|⟨k,c',e,z'⟩
    .exact .inl q
    .refine .inr ⟨k,c',e,z'.sameBut hs ?_⟩
     rintro rfl;exact hj (FG hN e1 (I.ok.inj _ _ _ e hc▸hi))
  .by_cases hcc:c'=c
   .grind
   .obtain⟨w2,z2⟩:=I.cell y c' e
    exact⟨w2,z2.sameBut hs hcc⟩
  .obtain⟨e,n,ne,nf,d⟩:=I.pin p hp
   refine⟨(hs.2 p.1 ?_).trans e,n,ne,nf,d⟩
   grind
theorem FH{M:Model}{A:Around}{E:ZA}{i:Nat}{x:Str}{v:V}{u:Value}{Q:Unit->Shared->Prop}(I:Inv X U σ H s)(hN:X.N.Nodup)(hi:X.N[i]?=some x)(hx:Ē X.env.scope x)(r:bJ v u)(h:∀s',Inv X U (σ.set i (some v)) H s'->Q () s')(hf:X.fn x=true\/X.env.scope.names.lookup x=some .local:=by first|exact .inl rfl|exact .inr rfl|assumption):wpAny M A (storeName X.env x u) Q E s:=
 A1 I hN hi hx r (λs' I' _=>h s' I') hf
theorem Inv.call'(I:Inv X U σ H s)(ho:s'.os=s.os)(u:Un (vS X.stack) ch H H' s.heap s'.heap)(hok:mR X.prog X.w H' s'.heap)(hg:AllBare s'.gens)(hch:∀b∈ch,(b∈X.ex\/X.s₀.heap.objs.size<=b)/\b≠X.env.locals/\(∀x c,X.env.cells.lookup x=some c->c≠b)/\∀p∈X.pn++U,p.1≠b):Inv X U σ H' s':=by
 let⟨h',g',d',t',o'⟩:=s';have e:o'=s.os:=ho;subst e;exact I.call (g':=g') (t':=t') (d':=d') u hok hg hch
end
abbrev XK:=Value->Option Addr->Hp->Prop
abbrev St:=List (Option V)
abbrev VK:=V->Hp->Prop
abbrev TE:=St->Hp->VK->Prop
abbrev TT:=St->Hp->(Bool->Hp->Prop)->Prop
abbrev TA:=St->Hp->(List V->Hp->Prop)->Prop
structure vT where
 nx:St->Hp->Prop
 rt:VK
 bk:St->Hp->Prop:=λ_ _=>False
 ct:St->Hp->Prop:=λ_ _=>False
abbrev TS:=vT->St->Hp->Prop
def EP(X:Cx)(U:ZB)(σ:St)(Q:VK)(u:Value)(s':Shared):Prop:=∃v H',Inv X U σ H' s'/\bJ v u/\Q v H'
def TP(X:Cx)(U:ZB)(σ:St)(Q:Bool->Hp->Prop)(b:Bool)(s':Shared):Prop:=∃H',Inv X U σ H' s'/\Q b H'
def AP(X:Cx)(U:ZB)(σ:St)(Q:List V->Hp->Prop)(us:ZJ)(s':Shared):Prop:=∃vs H',Inv X U σ H' s'/\bK vs us/\Q vs H'
def SP(X:Cx)(U:ZB)(D:vT)(f:Flow)(s':Shared):Prop:=
 match f with
 |.next=>∃σ' H',Inv X U σ' H' s'/\D.nx σ' H'
 |.brk=>∃σ' H',Inv X U σ' H' s'/\D.bk σ' H'
 |.cont=>∃σ' H',Inv X U σ' H' s'/\D.ct σ' H'
 |.ret u=>∃v σ' H',Inv X U σ' H' s'/\bJ v u/\D.rt v H'
def PE(X:Cx)(e:Expr)(t:TE):Prop:=
 ∀(U:ZB)(s:Shared)(σ:St)(H:Hp)(Q:VK),Inv X U σ H s->t σ H Q->wpAny 'b' X.A (eval e X.env) (EP X U σ Q) X.xe s
def PT(X:Cx)(e:Expr)(t:TT):Prop:=
 ∀(U:ZB)(s:Shared)(σ:St)(H:Hp)(Q:Bool->Hp->Prop),Inv X U σ H s->t σ H Q->wpAny 'b' X.A (isTrue e X.env (eval e X.env)) (TP X U σ Q) X.xe s
def PW(X:Cx)(e:Expr)(t:TT):Prop:=
 ∀(whole:Sem Value)(U:ZB)(s:Shared)(σ:St)(H:Hp)(Q:Bool->Hp->Prop),Inv X U σ H s->t σ H Q->wpAny 'b' X.A (isTrue e X.env whole) (TP X U σ Q) X.xe s
theorem PW.pt(h:PW X e t):PT X e t:=h _
def PA(X:Cx)(es:List Expr)(t:TA):Prop:=
 ∀(pos:Pos)(U:ZB)(s:Shared)(σ:St)(H:Hp)(Q:List V->Hp->Prop),Inv X U σ H s->t σ H Q->wpAny 'b' X.A (spliced (backTo pos (starEach es X.env))) (AP X U σ Q) X.xe s
def PS(X:Cx)(st:Stmt)(t:TS):Prop:=
 ∀(U:ZB)(s:Shared)(σ:St)(H:Hp)(D:vT),Inv X U σ H s->t D σ H->wpAny 'b' X.A (exec st X.env) (SP X U D) X.xe s
def E8(X:Cx)(st:List Stmt)(t:TS):Prop:=
 ∀(U:ZB)(s:Shared)(σ:St)(H:Hp)(D:vT),Inv X U σ H s->t D σ H->wpAny 'b' X.A (execs st X.env) (SP X U D) X.xe s
theorem cN{Q Q':α->Shared->Prop}(h:wpAny M A t Q E s)(hQ:∀a s,Q a s->Q' a s):wpAny M A t Q' E s:=wpAny_mono h hQ λ_ _ x=>x
section
variable {X:Cx}
theorem aO5(ha:PE X a ta)(hb:PE X b tb){R:V->V->Hp->Prop}(I:Inv X U σ H s)(h:ta σ H λx H1=>tb σ H1 λy H2=>R x y H2){f:Value->Value->Sem α}(hf:∀v u s2 x y H2,Inv X U σ H2 s2->bJ x v->bJ y u->R x y H2->wpAny 'b' X.A (f v u) Q X.xe s2):
  wpAny 'b' X.A (eval a X.env) (λv s₁=>wpAny 'b' X.A (eval b X.env) (λu s₂=>wpAny 'b' X.A (f v u) Q X.xe s₂) X.xe s₁) X.xe s:=by
 refine cN (ha U s σ H _ I h) λv s1 zQ=>?_;let⟨x,H1,I1,r1,q1⟩:=zQ;refine cN (hb U s1 σ H1 _ I1 q1) λu s2 zQ=>?_;let⟨y,H2,I2,r2,q2⟩:=zQ;exact hf v u s2 x y H2 I2 r1 r2 q2
def RN(i:Nat):TE:=λσ H Q=>∃v,σ[i]?=some (some v)/\Q v H
def tC(v:V):TE:=λ_ H Q=>Q v H
theorem eD{pos:Pos}(hN:X.N[i]?=some x)(hv:CH X.env.scope x)(hd:⇑(Zdb x))(hcd:⇑(Zcd x)):PE X (.Name x pos) (RN i):=by
 intro U s σ H Q I h;let⟨v,e,h⟩:=h;let⟨m,hn,hl⟩:=I.loc;let⟨u,r,l⟩:=hl i x v hN e hv;have fin:EP X U σ Q u s:=⟨v,H,I,r,h⟩;rcases l with ⟨hk,hm⟩|⟨hk,c,hc,hcell⟩
 .exact wpAny_Name (wpAny_loadName_local I.ok.kind hk hn hm fin) hd
 .rcases hk with hk|hk
  .exact wpAny_Name (wpAny_loadName_cell I.ok.kind hk hc hcell fin) hd
  .exact wpAny_Name (wpAny_loadName_free I.ok.kind hk hc hcell fin hcd) hd
theorem aEP:PE X (.Constant (.int i) j pos) (tC (.int i)):=λ_ _ _ H _ I h=>wpAny_Constant_int ⟨.int i,H,I.tok _,⟨_,rfl⟩,h⟩
theorem aIM:PE X (.Constant (.bool b) j pos) (tC (.bl b)):=λ_ _ _ H _ I h=>Constant_bool ⟨.bl b,H,I,rfl,h⟩
theorem aEQ:PE X (.Constant .none j pos) (tC .non):=λ_ _ _ H _ I h=>Constant_none ⟨.non,H,I,rfl,h⟩
theorem aER:PE X (.Constant (.str x) j pos) (tC (.str x)):=λ_ _ _ H _ I h=>Calls.Constant_str ⟨.str x,H,I.tok _,⟨_,rfl⟩,h⟩
def Gl(X:Cx)(x:Str):Prop:=X.env.kindOf x=some .globalImplicit
theorem rJ{E:ZA}{U:ZB}{s:Shared}{σ:St}{H:Hp}{x:Str}{u:Value}{pos:Pos}{Q:ZA}(I:Inv X U σ H s)(hg:Gl X x)(hm:X.mg x=some u)(h:Q u s)(hd:⇑(Zdb x)):wpAny 'b' X.A (eval (.Name x pos) X.env) Q E s:=
 Calls.Name_function_global I.ok.kind hg (Calls.loadGlobal_global (by rw[I.ok.glob];exact I.mod.glob.keeps I.bk) hm h) hd
theorem iE{E:ZA}{U:ZB}{s:Shared}{σ:St}{H:Hp}{x:Str}{u:Value}{pos:Pos}{Q:ZA}(I:Inv X U σ H s)(hg:Gl X x)(hm:X.mg x=none)(hv:bootBuiltins x=some u)(h:Q u s)(hn:⇑(x≠"__name__"))(hd:⇑(Zdb x)):wpAny 'b' X.A (eval (.Name x pos) X.env) Q E s:=by
 let⟨mb,h1,h2⟩:=I.mod.blt;exact Calls.Name_function_global I.ok.kind hg (Calls.loadGlobal_builtin (by rw[I.ok.glob];exact I.mod.glob.keeps I.bk) hm (by rw[I.ok.blt];exact h1.keeps I.bk) ((h2 x hn).trans hv) h) hd
theorem YT(hg:Gl X x)(hm:X.mg x=some u)(r:bJ v u)(hd:⇑(Zdb x)):PE X (.Name x pos) (tC v):=
 λ_ _ _ H _ I h=>rJ I hg hm ⟨v,H,I,r,h⟩ hd
theorem YU{pos:Pos}(hg:Gl X x)(hm:X.mg x=none)(hv:bootBuiltins x=some u)(r:bJ v u)(hn:⇑(x≠"__name__"))(hd:⇑(Zdb x)):PE X (.Name x pos) (tC v):=
 λ_ _ _ H _ I h=>iE I hg hm hv ⟨v,H,I,r,h⟩ hn hd
variable {a b:Expr}{ta tb:TE}{pos:Pos}
def PC(X:Cx)(op:CmpOp)(a b:Expr)(t:TE):Prop:=
 ∀(U:ZB)(s:Shared)(σ:St)(H:Hp)(Q:VK),Inv X U σ H s->t σ H Q ->
  wpAny 'b' X.A (eval a X.env) (λv s₁=>wpAny 'b' X.A (eval b X.env) (λu s₂=>wpAny 'b' X.A (compareOp op v u) (EP X U σ Q) X.xe s₂) X.xe s₁) X.xe s
theorem FI(b:Expr)(h:op≠.In)(h2:op≠.NotIn):behindInMarks op b=false:=by
 have e1:(op == CmpOp.In)=false:=by cases op<;>first|rfl|exact absurd rfl h
 have e2:(op == CmpOp.NotIn)=false:=by cases op<;>first|rfl|exact absurd rfl h2
 cases b<;>simp[behindInMarks,e1,e2]
def tB(t:TE):TT:=λσ H Q=>t σ H λx H1=>∃c,x=.bl c/\Q c H1
theorem aES(h:PC X op a b t)(h1:behindInMarks op b=false:=by first|exact FI _ ⋯ ⋯|rfl):PE X (.Compare a [op] [b] pos) t:=λU s σ H Q I hw=>wpAny_Compare1 (h U s σ H Q I hw) h1
theorem aET(h:PC X op a b t)(h1:behindInMarks op b=false:=by first|exact FI _ ⋯ ⋯|rfl):PT X (.Compare a [op] [b] pos) (tB t):=by
 intro U s σ H Q I hw;refine wpAny_isTrue_Compare1 (cN (h U s σ H _ I hw) λv s1 h1=>cN h1 λu s2 h2=>cN h2 λc s3 zQ=>?_) h1;let⟨x,H1,I1,r1,q1⟩:=zQ;let⟨d,rfl,q⟩:=q1;cases r1;exact wpAny_truthy_bool ⟨H1,I1,q⟩
theorem aEU(h:PE X e t)(he: ~~~(∀whole,isTrue e X.env whole=(do let v <- whole;standAt e.pos;holding [v] (truthy v)))):PT X e (tB t):=by
 intro U s σ H Q I hw;refine isTrue_plain (cN (h U s σ H _ I hw) λv s1 zQ=>?_) (he _);let⟨x,H1,I1,r1,q1⟩:=zQ;let⟨d,rfl,q⟩:=q1;cases r1;exact wpAny_truthy_bool ⟨H1,I1,q⟩
variable {tA tB':TT}{rest:List Expr}
def aLY(t u:TT):TT:=λσ H Q=>t σ H λc H1=>if c=true then u σ H1 Q else Q false H1
def aOA(t u:TT):TT:=λσ H Q=>t σ H λc H1=>if c=true then Q true H1 else u σ H1 Q
def aLZ(t:TT):TT:=λσ H Q=>t σ H λc H1=>Q (!c) H1
theorem YV(ha:PT X a tA):PW X (.BoolOp .And [a] pos) tA:=by
 intro wh U s σ H Q I h;refine isTrue_and (cN (ha U s σ H Q I h) λc s1 e=>?_);cases c with
 |true=>exact isTrue_and_nil e
 |false=>exact e
theorem aEV(ha:PT X a tA):PW X (.BoolOp .Or [a] pos) tA:=by
 intro wh U s σ H Q I h;refine isTrue_or (cN (ha U s σ H Q I h) λc s1 e=>?_);cases c with
 |false=>exact isTrue_or_nil e
 |true=>exact e
theorem aEW(ha:PT X a tA)(hb:PW X (.BoolOp .And (b::rest) pos) tB'):PW X (.BoolOp .And (a::b::rest) pos) (aLY tA tB'):=by
 intro wh U s σ H Q I h;refine isTrue_and (cN (ha U s σ H _ I h) λc s1 zQ=>?_);let⟨H1,I1,q1⟩:=zQ;cases c with
 |true=>exact hb wh U s1 σ H1 Q I1 q1
 |false=>exact⟨H1,I1,q1⟩
theorem aIN(ha:PT X a tA)(hb:PW X (.BoolOp .Or (b::rest) pos) tB'):PW X (.BoolOp .Or (a::b::rest) pos) (aOA tA tB'):=by
 intro wh U s σ H Q I h;refine isTrue_or (cN (ha U s σ H _ I h) λc s1 zQ=>?_);let⟨H1,I1,q1⟩:=zQ;cases c with
 |true=>exact⟨H1,I1,q1⟩
 |false=>exact hb wh U s1 σ H1 Q I1 q1
theorem aEX(ha:PT X a tA):PT X (.UnaryOp .Not a pos) (aLZ tA):=by
 intro U s σ H Q I h;exact isTrue_not (ha U s σ H (λc H1=>Q (!c) H1) I h)
def aIO(ta tb:TE):TE:=λσ H Q=>ta σ H λx H1=>∃c,x=.bl c/\if c=true then tb σ H1 Q else Q (.bl false) H1
def aL0(ta tb:TE):TE:=λσ H Q=>ta σ H λx H1=>∃c,x=.bl c/\if c=true then Q (.bl true) H1 else tb σ H1 Q
theorem aEY(h:PE X a t):PE X (.BoolOp op [a] pos) t:=λU s σ H Q I hw=>BoolOp_one (h U s σ H Q I hw)
theorem aEZ(ha:PE X a ta)(hb:PE X (.BoolOp .And (b::rest) pos) tb):PE X (.BoolOp .And (a::b::rest) pos) (aIO ta tb):=by
 intro U s σ H Q I h;refine BoolOp_and (cN (ha U s σ H _ I h) λv s1 zQ=>?_);let⟨x,H1,I1,r1,q1⟩:=zQ;let⟨c,rfl,q1⟩:=q1;cases r1;refine wpAny_truthy_bool ?_;cases c with
 |true=>exact hb U s1 σ H1 Q I1 q1
 |false=>exact⟨.bl false,H1,I1,rfl,q1⟩
theorem aIP(ha:PE X a ta)(hb:PE X (.BoolOp .Or (b::rest) pos) tb):PE X (.BoolOp .Or (a::b::rest) pos) (aL0 ta tb):=by
 intro U s σ H Q I h;refine BoolOp_or (cN (ha U s σ H _ I h) λv s1 zQ=>?_);let⟨x,H1,I1,r1,q1⟩:=zQ;let⟨c,rfl,q1⟩:=q1;cases r1;refine wpAny_truthy_bool ?_;cases c with
 |false=>exact hb U s1 σ H1 Q I1 q1
 |true=>exact⟨.bl true,H1,I1,rfl,q1⟩
end
def eJ(K:ZC)(H:Hp)(a:Addr)(xs:List V):Prop:=
 Rd H a (.lst xs) \/
  ∃(o:Obj)(its:Array Value)(n:Nat),K.lookup a=some o/\o.cls=.type "list"/\o.dict=none/\o.data=.seq its n/\its.size<=sizeLine/\bK xs its.toList
def rK(K:ZC)(H:Hp)(a:Addr)(xs:List V):Prop:=
 Rd H a (.tup xs) \/
  ∃(o:Obj)(its:Array Value)(n:Nat),K.lookup a=some o/\o.cls=.type "tuple"/\o.data=.seq its n/\its.size<=sizeLine/\bK xs its.toList
def aL1:Value->Option V
 |.none=>some .non
 |.bool b=>some (.bl b)
 |.int i _=>some (.int i)
 |.str x _=>some (.str x)
 |.bytes b _=>some (.byt b)
 |.float b _=>some (.flt b)
 |.ref a=>some (.ref a)
 |.type n=>some (.ty n)
 |_=>none
theorem bJ.abs(r:bJ x u):aL1 u=some x:=by
 cases x with
 |non=>cases r;rfl
 |bl _=>cases r;rfl
 |int _=>let⟨t,rfl⟩:=r;rfl
 |str _=>let⟨t,rfl⟩:=r;rfl
 |byt _=>let⟨t,rfl⟩:=r;rfl
 |flt _=>let⟨t,rfl⟩:=r;rfl
 |ref _=>cases r;rfl
 |ty _=>cases r;rfl
theorem bJ.inj(r:bJ x u)(q:bJ y u):x=y:=Option.some.inj (r.abs.symm.trans q.abs)
theorem bK.inj:∀{xs ys:List V}{us:ZJ},bK xs us->bK ys us->xs=ys
 |_,_,_,.nil,.nil=>rfl
 |_,_,_,.cons r t,.cons r' t'=>by rw[r.inj r',bK.inj t t']
section
variable {X:Cx}{U:ZB}{σ:St}{H:Hp}{s:Shared}{a:Addr}{xs ys:List V}
theorem eJ.of{K:ZC}(h:H a=some (.lst xs)):eJ K H a xs:=.inl (.inl h)
theorem rK.of{K:ZC}(h:H a=some (.tup xs)):rK K H a xs:=.inl (.inl h)
theorem Inv.list(I:Inv X U σ H s)(h:eJ X.K H a xs):∃its:ZJ,bK xs its/\PlainL s.heap a its.toArray/\xs.length<=sizeLine:=by
 rcases h with h|⟨o,its,n,hk,hc,hd,hs,hz,r⟩
 .obtain⟨z,its,n,r,e⟩:=h.ok I.hok
  exact⟨its,r,⟨_,n,e,rfl,rfl,rfl⟩,z⟩
 .refine⟨its.toList,r,⟨o,n,I.kIn a o hk,hc,hd,by simpa using hs⟩,?_⟩
  have e:=r.length
  grind
theorem Inv.tuple(I:Inv X U σ H s)(h:rK X.K H a xs):∃its:ZJ,bK xs its/\IsTup s.heap a its.toArray/\xs.length<=sizeLine:=by
 rcases h with h|⟨o,its,n,hk,hc,hs,hz,r⟩
 .obtain⟨z,its,r,p⟩:=h.ok I.hok
  exact⟨its,r,p,z⟩
 .refine⟨its.toList,r,⟨o,I.kIn a o hk,hc,n,by simpa using hs⟩,?_⟩
  have e:=r.length
  grind
theorem Inv.list_inj(I:Inv X U σ H s)(h:eJ X.K H a xs)(h':eJ X.K H a ys):xs=ys:=by
 let⟨its,r,⟨o,n,e,_,_,d⟩,_⟩:=I.list h;let⟨its',r',⟨o',n',e',_,_,d'⟩,_⟩:=I.list h';rw[e]at e';cases e';rw[d]at d';injection d' with d1 _;have:its=its':=by simpa using congrArg Array.toList d1
 subst this;exact r.inj r'
theorem Inv.tuple_inj(I:Inv X U σ H s)(h:rK X.K H a xs)(h':rK X.K H a ys):xs=ys:=by
 let⟨its,r,⟨o,e,_,n,d⟩,_⟩:=I.tuple h;let⟨its',r',⟨o',e',_,n',d'⟩,_⟩:=I.tuple h';rw[e]at e';cases e';rw[d]at d';injection d' with d1 _;have:its=its':=by simpa using congrArg Array.toList d1
 subst this;exact r.inj r'
end
section
end
section
variable {X:Cx}{st:Stmt}{rest:List Stmt}{t u:TS}
def aIQ:TS:=λD σ H=>D.nx σ H
def aL2(t u:TS):TS:=λD σ H=>t {D with nx:=u D} σ H
theorem LW:E8 X [] aIQ:=λ_ _ σ H _ I h=>wpAny_execs_nil ⟨σ,H,I,h⟩
theorem RO(h1:PS X st t)(h2:E8 X rest u):E8 X (st::rest) (aL2 t u):=by
 intro U s σ H D I h;refine wpAny_execs_cons (cN (h1 U s σ H {D with nx:=u D} I h) λf s1 q=>?_);cases f with
 |next=>
  let⟨σ',H',I',q⟩:=q;exact h2 U s1 σ' H' D I' q
 |ret v=>exact q
 |brk=>exact q
 |cont=>exact q
theorem YW(h1:PS X st t):E8 X [st] t:=by
 intro U s σ H D I h;refine wpAny_execs_cons (cN (h1 U s σ H D I h) λf s1 q=>?_);cases f with
 |next=>exact wpAny_execs_nil q
 |ret v=>exact q
 |brk=>exact q
 |cont=>exact q
theorem Inv.quiet(I:Inv X U σ H s):interactive X.env=false:=by simp[interactive,I.ok.kind]
def aIR(te:TE):TS:=λD σ H=>te σ H λ_ H1=>D.nx σ H1
theorem YX(he:PE X e te)(hs:↥(swapsWith e none pos.line X.env=pure false)):PS X (.Expr e pos) (aIR te):=by
 intro U s σ H D I h;exact wpAny_Expr_any (cN (he U s σ H _ I h) λv s1 zQ=>by let⟨x,H1,I1,r1,q1⟩:=zQ;exact ⟨σ,H1,I1,q1⟩) I.quiet hs
def aL3(te:TE):TS:=λD σ H=>te σ H D.rt
theorem aE0(he:PE X e te):PS X (.Return (some e) pos) (aL3 te):=by
 intro U s σ H D I h;exact wpAny_Return_some (cN (he U s σ H _ I h) λv s1 zQ=>by let⟨x,H1,I1,r1,q1⟩:=zQ;exact ⟨x,σ,H1,I1,r1,q1⟩)
def aL4(c:TT)(t u:TS):TS:=λD σ H=>c σ H λb H1=>if b=true then t D σ H1 else u D σ H1
theorem aIS(hc:PT X c tc)(ha:E8 X a t)(hb:E8 X b u):PS X (.If c a b pos) (aL4 tc t u):=by
 intro U s σ H D I h;refine wpAny_If (cN (hc U s σ H _ I h) λd s1 zQ=>?_);let⟨H1,I1,q1⟩:=zQ;cases d with
 |true=>exact ha U s1 σ H1 D I1 q1
 |false=>exact hb U s1 σ H1 D I1 q1
end
abbrev TG:=V->St->Hp->(St->Hp->Prop)->Prop
abbrev RP:=List V->St->Hp->(St->Hp->Prop)->Prop
def PG(X:Cx)(target:Expr)(t:TG):Prop:=
 ∀(U:ZB)(s:Shared)(σ:St)(H:Hp)(v:V)(u:Value)(Q:St->Hp->Prop),Inv X U σ H s->bJ v u->t v σ H Q ->
  wpAny 'b' X.A (assign target X.env u) (λ_ s'=>∃σ' H',Inv X U σ' H' s'/\Q σ' H') X.xe s
def ĥ(X:Cx)(ts:List Expr)(t:RP):Prop:=
 ∀(U:ZB)(s:Shared)(σ:St)(H:Hp)(vs:List V)(us:ZJ)(Q:St->Hp->Prop),Inv X U σ H s->bK vs us->t vs σ H Q ->
  wpAny 'b' X.A (assignInOrder ((assignEach ts X.env).map (·.2)) us) (λ_ s'=>∃σ' H',Inv X U σ' H' s'/\Q σ' H') X.xe s
abbrev Ŷ:=V->V->V->Hp->(Hp->Prop)->Prop
def ŷ(X:Cx)(t:Ŷ):Prop:=
 ∀(U:ZB)(s:Shared)(σ:St)(H:Hp)(o i v:V)(ov iv u:Value)(Q:Hp->Prop),Inv X U σ H s->bJ o ov->bJ i iv->bJ v u->t o i v H Q ->
  wpAny 'b' X.A (setItem ov iv u) (λ_ s'=>∃H',Inv X U σ H' s'/\Q H') X.xe s
section
variable {X:Cx}{pos:Pos}
def pE(i:Nat):TG:=λv σ H Q=>Q (σ.set i (some v)) H
theorem cW(hN:X.N.Nodup)(hi:X.N[i]?=some x)(hx:Ē X.env.scope x)(hf:X.fn x=true\/X.env.scope.names.lookup x=some .local:=by first|exact .inl rfl|exact .inr rfl|assumption):PG X (.Name x pos) (pE i):=by
 intro U s σ H v u Q I r h;exact wpAny_assign_Name (FH I hN hi hx r (λs' I'=>⟨_,H,I',h⟩) hf)
def RQ:RP:=λvs σ H Q=>vs=[]/\Q σ H
def FJ(t:TG)(u:RP):RP:=λvs σ H Q=>∃v r,vs=v::r/\t v σ H λσ' H'=>u r σ' H' Q
theorem n9:ĥ X [] RQ:=by
 intro U s σ H vs us Q I r h;let⟨e,h⟩:=h;subst e;cases r;exact assignInOrder_nil ⟨σ,H,I,h⟩
theorem dY(h1:PG X e t)(h2:ĥ X es u)(hs:↥((assignEach (e::es) X.env).map (·.2)=assign e X.env::(assignEach es X.env).map (·.2))):ĥ X (e::es) (FJ t u):=by
 intro U s σ H vs us Q I r h;let⟨v,vr,e1,h⟩:=h;subst e1;cases r with
 |cons r rr=>
  rw[hs];refine assignInOrder_cons (cN (h1 U s σ H _ _ _ I r h) λ_ s1 zQ=>?_);let⟨σ1,H1,I1,q1⟩:=zQ;exact h2 U s1 σ1 H1 _ _ Q I1 rr q1
def Ŏ(K:ZC)(n:Nat)(t:RP):TG:=λv σ H Q=>∃a xs,v=.ref a/\rK K H a xs/\xs.length=n/\t xs σ H Q
theorem tW{k:Nat}(hc:X.calm=true)(h:ĥ X es t)(hn:↥((assignEach es X.env).length=n))(hst:↥((assignEach es X.env).findIdx? (·.1)=none)):PG X (.Tuple es k pos) (Ŏ X.K n t):=by
 intro U s σ H v u Q I r hw;let⟨a,xs,e1,hq,hl,hw⟩:=hw;subst e1;cases r;let⟨its,rv,ht,hz⟩:=I.tuple hq;refine assign_Tuple_tuple (I.ok.hd hc) ht (by simp[hn,<- hl,rv.length]) hst λh' hx=>?_;have I1:Inv X U σ H {s with heap:=h'}:=I.kept (t':=s.toks) λb o e=>hx b o (Ì (Heap.lt_size e)) e;exact h U _ σ H xs _ Q I1 (by simpa using rv) hw
def aL5(to ti:TE)(t:Ŷ):TG:=λv σ H Q=>to σ H λo H1=>ti σ H1 λi H2=>t o i v H2 λH3=>Q σ H3
theorem RR(ho:PE X o to)(hi:PE X i ti)(hs:ŷ X t)(ha: ~~~(∀v,assign (.Subscript o i pos) X.env v=(do
   let ov <- holding [v] (eval o X.env);let iv <- holding [v,ov] (eval i X.env)
   standAt pos
   holding [v,ov,iv] (setItem ov iv v)
   release [v,ov,iv] []))):PG X (.Subscript o i pos) (aL5 to ti t):=by
 intro U s σ H v u Q I r h;rw[ha];refine wpAny_bind (wpAny_holding (cN (ho U s σ H _ I h) λov s1 zQ=>?_));let⟨x,H1,I1,r1,q1⟩:=zQ;refine wpAny_bind (wpAny_holding (cN (hi U s1 σ H1 _ I1 q1) λiv s2 zQ=>?_));let⟨y,H2,I2,r2,q2⟩:=zQ;refine wpAny_bind (wpAny_standAt (wpAny_bind (wpAny_holding (cN (hs U s2 σ H2 x y v ov iv u _ I2 r1 r2 r q2) λ_ s3 zQ=>?_))));let⟨H3,I3,q3⟩:=zQ;exact wpAny_release ⟨σ,H3,I3,q3⟩
def YY(te:TE)(g:TG):TS:=λD σ H=>te σ H λx H1=>g x σ H1 D.nx
theorem RS(he:PE X e te)(hg:PG X tg g)(hs:↥(swapsWithSole [tg] e pos.line X.env=pure false))(hw:↥(swappedStores [tg] e X.env=pure none))(h1:↥((assignEach [tg] X.env).map (·.2)=[assign tg X.env])):PS X (.Assign [tg] e pos) (YY te g):=by
 intro U s σ H D I h;refine wpAny_Assign_stores (cN (he U s σ H _ I h) λv s1 zQ=>?_) hs hw;let⟨x,H1,I1,r1,q1⟩:=zQ;rw[h1];exact cN (hg U s1 σ H1 x v _ I1 r1 q1) λ_ s2 q=>q
theorem aE3(hN:X.N.Nodup)(hi:X.N[i]?=some x)(hx:Ē X.env.scope x)(he:PE X e te)(hs:↥(swapsWith e (some (.Name x pos')) pos.line X.env=pure false))(hf:X.fn x=true\/X.env.scope.names.lookup x=some .local:=by first|exact .inl rfl|exact .inr rfl|assumption):
  PS X (.Assign [.Name x pos'] e pos) (YY te (pE i)):=by
 intro U s σ H D I h;refine wpAny_Assign_Name (cN (he U s σ H _ I h) λv s1 zQ=>?_) hs;let⟨y,H1,I1,r1,q1⟩:=zQ;exact FH I1 hN hi hx r1 (λs2 I2=>⟨_,H1,I2,q1⟩) hf
end
section
def aE4(c:TT)(tb:TS):TS:=λD σ H=>∃W:Nat->St->Hp->Prop,(∃m,W m σ H)/\∀m σ H,W m σ H ->
 c σ H λb H1=>if b=true then ∃N:St->Hp->Prop,(∀σ' H',N σ' H'->∃m',m'<m/\W m' σ' H')/\tb {D with nx:=N,ct:=N,bk:=D.nx} σ H1 else D.nx σ H1
theorem RT(hp:PassesOwn 'b' X.A X.env X.xe)(hc:PT X c tc)(hb:E8 X body tb):PS X (.While c body [] pos) (aE4 tc tb):=by
 intro U s σ H D I h;let⟨W,⟨m0,w0⟩,turn⟩:=h;refine wpAny_While (codeAny_whileLoop (λn s'=>∃σ' H',Inv X U σ' H' s'/\W n σ' H') ?_ m0 ⟨σ,H,I,w0⟩);rintro n s1 ⟨σ1,H1,I1,w1⟩;refine wpAny_passesOwn hp (cN (hc U s1 σ1 H1 _ I1 (turn n σ1 H1 w1)) λb s2 zQ=>?_);let⟨H2,I2,q2⟩:=zQ;cases b with
 |true=>
  let⟨N,hN,q2⟩:=q2;rw[Á rfl];refine wpAny_passesOwn hp (cN (hb U s2 σ1 H2 _ I2 q2) λf s3 q3=>?_);cases f with
  |next=>
   let⟨σ3,H3,I3,n3⟩:=q3;let⟨m',hm,w3⟩:=hN σ3 H3 n3;exact⟨m',hm,σ3,H3,I3,w3⟩
  |cont=>
   let⟨σ3,H3,I3,n3⟩:=q3;let⟨m',hm,w3⟩:=hN σ3 H3 n3;exact⟨m',hm,σ3,H3,I3,w3⟩
  |brk=>exact q3
  |ret v=>exact q3
 |false=>
  rw[Â à];exact wpAny_execs_nil ⟨σ1,H2,I2,q2⟩
end
structure It where
 go:Nat->Hp->Prop
 yld:Nat->Hp->V->Hp->Prop
 stop:Nat->Hp->Prop
def vU(X:Cx)(U:ZB)(H:Hp)(b:Addr):Prop:=
 H b=none/\b≠X.env.locals/\b∉X.fs/\(b∈X.ex\/X.s₀.heap.objs.size<=b)/\(∀x c,X.env.cells.lookup x=some c->c≠b)/\∀p∈X.pn++U,p.1≠b
theorem Inv.fpOk{X:Cx}{U:ZB}{σ:St}{H H':Hp}{s:Shared}{b:Addr}(I:Inv X U σ H s)(hb:s.heap.objs.size<=b)(hn:H' b=none):vU X U H' b:=by
 refine⟨hn,Ü (Ô I.lt hb),I.nofs hb,.inr (Ø I.sz hb),λx c e z=>?_,λp hp z=>?_⟩
 .obtain⟨v,q⟩:=I.cell x c e
  exact absurd (Ô q.lt (by rw[z];exact hb)) (ù _)
 .exact absurd (Ô (Heap.lt_size (I.pin p hp).1) (by rw[z];exact hb)) (ù _)
structure FK(P:Program)(w:World)(K:ZC)(tg:Expr)(J:It)(fp:ZM)(it:Addr)(tn:Nat->Heap->Prop):Prop where
 mem:it∈fp
 obj:∀i h,tn i h->∀b∈fp,∃o,h.get? b=some o/\∀v,o.data≠.cell v
 keep:∀i h h',tn i h->(∀b∈fp,∀o,h.get? b=some o->h'.get? b=some o)->tn i h'
 item:∀(X:Cx),X.prog=P->X.w=w->X.K=K->X.calm=true->∀(i:Nat)(U:ZB)(s:Shared)(σ:St)(H:Hp)(E:ZA),Inv X U σ H s->(∀b∈fp,vU X U H b)->tn i s.heap->J.go i H ->
  wpAny (model P w) X.A (pyNext (.ref it)) (λr s1=>∃u,r=some u /\
   wpAny (model P w) X.A (letOwnedTupleGo tg (.ref it) u) (λ_ s2=>∃x H',Inv X U σ H' s2/\bJ x u/\J.yld i H x H'/\tn (i+1) s2.heap/\∀b∈fp,H' b=none) E s1) E s
 done:∀(X:Cx),X.prog=P->X.w=w->X.K=K->X.calm=true->∀(i:Nat)(U:ZB)(s:Shared)(σ:St)(H:Hp)(E:ZA),Inv X U σ H s->(∀b∈fp,vU X U H b)->tn i s.heap->J.stop i H ->
  wpAny (model P w) X.A (pyNext (.ref it)) (λr s1=>r=none/\Inv X U σ H s1) E s
 self:∀(A:Around)(i:Nat)(s:Shared)(Q:ZA)(E:ZA),tn i s.heap->Q (.ref it) s->wpAny (model P w) A (pyIter (.ref it)) Q E s
abbrev TI:=St->Hp->(It->Hp->Prop)->Prop
def ŏ(X:Cx)(U:ZB)(σ:St)(tg:Expr)(R:It->Hp->Prop)(itv:Value)(s2:Shared):Prop:=
 ∃(it:Addr)(fp:ZM)(tn:Nat->Heap->Prop)(J:It)(H':Hp),itv=.ref it/\Inv X U σ H' s2/\FK X.prog X.w X.K tg J fp it tn/\tn 0 s2.heap/\(∀b∈fp,vU X U H' b)/\R J H'
def PI(X:Cx)(tg iter:Expr)(wi:TI):Prop:=
 ∀(U:ZB)(s:Shared)(σ:St)(H:Hp)(R:It->Hp->Prop),Inv X U σ H s->wi σ H R ->
  wpAny 'b' X.A (eval iter X.env) (λv s1=>wpAny 'b' X.A (pyIter v) (ŏ X U σ tg R) X.xe s1) X.xe s
theorem FL{M:Model}{A:Around}{E:ZA}{s:Shared}{tg:Expr}{it:Addr}{u:Value}{o:Obj}{n:String}{vs:Array Value}{Q:Unit->Shared->Prop}(ho:s.heap.get? it=some o)(hc:o.cls=.type n)(hd:o.data=.fields vs)(hn:["enumerate","zip","dict_itemiterator","dict_reverseitemiterator","odict_iterator","itertools.zip_longest","itertools.pairwise"].contains n=false)(hQ:Q () s):wpAny M A (letOwnedTupleGo tg (.ref it) u) Q E s:=by
 unfold letOwnedTupleGo;cases tg<;>first
  |exact wpAny_pure hQ
  | (cases u<;>first
    |exact wpAny_pure hQ
    | (refine wpAny_bind (wpAny_load ho ?_)
       rw[hc,hd];show wpAny M A (if (["enumerate","zip","dict_itemiterator","dict_reverseitemiterator","odict_iterator","itertools.zip_longest","itertools.pairwise"].contains n && vs[0]? == some (rawInt _))=true then _ else _) Q E s;rw[Â 'k'];exact wpAny_pure hQ))
def Ő(K:ZC)(a:Addr):It:=
 ⟨λi H=>∃xs x,eJ K H a xs/\xs[i]?=some x,λi H x H'=>H'=H/\∀xs,eJ K H a xs->xs[i]?=some x,λi H=>∃xs,eJ K H a xs/\xs.length<=i⟩
def ő(K:ZC)(a:Addr):It:=
 ⟨λi H=>∃xs x,rK K H a xs/\xs[i]?=some x,λi H x H'=>H'=H/\∀xs,rK K H a xs->xs[i]?=some x,λi H=>∃xs,rK K H a xs/\xs.length<=i⟩
def Ħ(lo:Int)(n:Nat):It:=⟨λi _=>i<n,λi H x H'=>H'=H/\x=.int (lo+i),λi _=>n<=i⟩
theorem OY{P:Program}{w:World}{K:ZC}{tg:Expr}(a it:Addr):FK P w K tg (Ő K a) [it] it (λi h=>h.IsListIter it a i) where
 mem:=by simp
 obj:=λi h st b hb=>by
  have e:b=it:=by simpa using hb
  subst e;let⟨o,e,c,d⟩:=st;exact⟨o,e,λv z=>by rw[d]at z;cases z⟩
 keep:=λi h h' st k=>st.at λo e=>k it 'e' o e
 item:=by
  intro X hP hw hK hc i U s σ H E I hf st hg;subst hP hw hK;let⟨xs,x,hq,hx⟩:=hg;let⟨its,rv,p,hz⟩:=I.list hq;let⟨u,hu,ru⟩:=rv.get hx;let⟨f0,f1,f2,f3,f4,f5⟩:=hf it 'e';refine wpAny_pyNext_list_item st p.isList (x:=u) (by simpa using hu) λh' st' sb=>?_;have I1:Inv X U σ H {s with heap:=h'}:=I.turned (t':=s.toks) (λb o hb e=>(sb.2 b hb).trans e) f0 f1 f3 f4 f5;let⟨o,e,c,d⟩:=id st';exact⟨u,rfl,FL (s:={s with heap:=h'}) e c d ⋯ ⟨x,H,I1,ru,⟨rfl,λys hy=>by rw[I.list_inj hy hq];exact hx⟩,st',λb hb=>(hf b hb).1⟩⟩
 done:=by
  intro X hP hw hK hc i U s σ H E I hf st hg;subst hP hw hK;let⟨xs,hq,hx⟩:=hg;let⟨its,rv,p,hz⟩:=I.list hq;let⟨f0,f1,f2,f3,f4,f5⟩:=hf it 'e';have hl:=rv.length;exact wpAny_pyNext_list_end (I.ok.hd hc) st p.isList (by simp;lia) λh' eb=>⟨rfl,I.turned (t':=s.toks) (λb o hb e=>eb b o hb e) f0 f1 f3 f4 f5⟩
 self:=λ_ _ _ _ _ st h=>wpAny_pyIter_listiter st h
theorem JR{P:Program}{w:World}{K:ZC}{tg:Expr}(a it:Addr):FK P w K tg (ő K a) [it] it (λi h=>h.IsTupleIter it a i) where
 mem:=by simp
 obj:=λi h st b hb=>by
  have e:b=it:=by simpa using hb
  subst e;let⟨o,e,c,d⟩:=st
  grind
 keep:=λi h h' st k=>st.at λo e=>k it 'e' o e
 item:=by
  intro X hP hw hK hc i U s σ H E I hf st hg;subst hP hw hK;let⟨xs,x,hq,hx⟩:=hg;let⟨its,rv,p,hz⟩:=I.tuple hq;let⟨u,hu,ru⟩:=rv.get hx;let⟨f0,f1,f2,f3,f4,f5⟩:=hf it 'e';refine wpAny_pyNext_tuple_item st (show s.heap.IsTuple a its.toArray from p) (x:=u) (by simpa using hu) λh' st' sb=>?_;have I1:Inv X U σ H {s with heap:=h'}:=I.turned (t':=s.toks) (λb o hb e=>(sb.2 b hb).trans e) f0 f1 f3 f4 f5;let⟨o,e,c,d⟩:=id st';exact⟨u,rfl,FL (s:={s with heap:=h'}) e c d ⋯ ⟨x,H,I1,ru,⟨rfl,λys hy=>by rw[I.tuple_inj hy hq];exact hx⟩,st',λb hb=>(hf b hb).1⟩⟩
 done:=by
  intro X hP hw hK hc i U s σ H E I hf st hg;subst hP hw hK;let⟨xs,hq,hx⟩:=hg;let⟨its,rv,p,hz⟩:=I.tuple hq;let⟨f0,f1,f2,f3,f4,f5⟩:=hf it 'e';have hl:=rv.length;exact wpAny_pyNext_tuple_end (I.ok.hd hc) st (show s.heap.IsTuple a its.toArray from p) (by simp;lia) λh' eb=>⟨rfl,I.turned (t':=s.toks) (λb o hb e=>eb b o hb e) f0 f1 f3 f4 f5⟩
 self:=λ_ _ _ _ _ st h=>wpAny_pyIter_tupleiter st h
theorem JS{P:Program}{w:World}{K:ZC}{tg:Expr}(it:Addr)(lo:Int)(n:Nat):FK P w K tg (Ħ lo n) [it] it (λi h=>IsRangeIter h it (lo+(i:Nat)*1) ((n:Int)-(i:Nat)) 1) where
 mem:=by simp
 obj:=λi h st b hb=>by
  grind
 keep:=λi h h' st k=>k it 'e' _ st
 item:=by
  intro X hP hw hK hc i U s σ H E I hf st hg;subst hP hw hK;let⟨f0,f1,f2,f3,f4,f5⟩:=hf it 'e';have W:=Walks.range (prog:=X.prog) (w:=X.w) (I.ok.hd hc) it lo 1 n;refine W.item i s _ _ hg st λv h' tk hv st' kk=>?_;let⟨t,rfl⟩:=hv;have I1:Inv X U σ H {s with heap:=h',toks:=tk}:=I.turned (λb o hb e=>kk b o (by simpa using hb) e) f0 f1 f3 f4 f5;refine⟨_,rfl,FL (s:={s with heap:=h',toks:=tk}) (n:="range_iterator") st' rfl rfl ⋯ ⟨.int (lo+i),H,I1,⟨t,?_⟩,⟨rfl,rfl⟩,st',λb hb=>(hf b hb).1⟩⟩;rw[Int.mul_one]
 done:=by
  intro X hP hw hK hc i U s σ H E I hf st hg;subst hP hw hK;let⟨f0,f1,f2,f3,f4,f5⟩:=hf it 'e';exact wpAny_pyNext_range_end (I.ok.hd hc) st (by have:n<=i:=hg;lia) λh' eb=>⟨rfl,I.turned (t':=s.toks) (λb o hb e=>eb b o hb e) f0 f1 f3 f4 f5⟩
 self:=λ_ _ _ _ _ st h=>wpAny_pyIter_rangeiter st h
section
variable {X:Cx}{tg:Expr}
theorem FM{U:ZB}{σ:St}{H:Hp}{s:Shared}{R:It->Hp->Prop}{E:ZA}{lo hi:Int}{t u v:Tok}{tk:Nat}(I:Inv X U σ H s)(h1:-(2^62)<=lo)(h2:lo<2^62)(h3:-(2^62)<=hi)(h4:hi<2^62)(q:R (Ħ lo (hi-lo).toNat) H):wpAny 'b' X.A (pyIter (.ref s.heap.objs.size)) (ŏ X U σ tg R) E {s with heap:=s.heap.push {cls:=.type "range",data:=.fields #[.int lo t,.int hi u,.int 1 v]},toks:=tk}:=by
 refine wpAny_pyIter_range (IsRange.new ..) (small_one h1 h2 h3 h4) ?_;have I1:Inv X U σ H {s with heap:=s.heap.push {cls:=.type "range",data:=.fields #[.int lo t,.int hi u,.int 1 v]},toks:=tk}:=I.kept λb o e=>Heap.get?_push_of_some _ e;refine⟨(s.heap.push {cls:=.type "range",data:=.fields #[.int lo t,.int hi u,.int 1 v]}).objs.size,[(s.heap.push {cls:=.type "range",data:=.fields #[.int lo t,.int hi u,.int 1 v]}).objs.size],_,_,H,rfl,
  I1.kept (t':=tk) λb o e=>Heap.get?_push_of_some _ e,JS _ lo (hi-lo).toNat,?_,λb hb=>?_,q⟩
 .have e1:lo+((0:Nat):Int)*1=lo:=by simp
  have e2:(((hi-lo).toNat:Nat):Int)-((0:Nat):Int)=Builtin.Range.rangeSize lo hi 1:=by rw[rangeSize_one];split<;>lia
  show IsRangeIter _ _ (lo+((0:Nat):Int)*1) ((((hi-lo).toNat:Nat):Int)-((0:Nat):Int)) 1;rw[e1,e2];exact Heap.get?_push_size _ rfl
 .have e:b=(s.heap.push {cls:=.type "range",data:=.fields #[.int lo t,.int hi u,.int 1 v]}).objs.size:=by simpa using hb
  subst e;exact I1.fpOk (Ç _) (I1.hok.fresh (Ç _))
def aIW(ta:TA):TI:=λσ H R=>ta σ H λvs H1=>∃j:Int,vs=[.int j]/\-(2^62)<=j/\j<2^62/\R (Ħ 0 j.toNat) H1
def aIX(ta:TA):TI:=λσ H R=>ta σ H λvs H1=>∃i j:Int,vs=[.int i,.int j]/\(-(2^62)<=i/\i<2^62/\-(2^62)<=j/\j<2^62)/\R (Ħ i (j-i).toNat) H1
theorem OZ(hg:Gl X "range")(hm:X.mg "range"=none)(ha:PA X [a] ta)(hs:↥(starEach [a] X.env=[(false,eval a X.env)])):PI X tg (.Call (.Name "range" p) [a] [] pos) (aIW ta):=by
 intro U s σ H R I h;refine Call_ (iE I hg hm boot_range (PyProof.Rows.callWith_type1 (cN (ha pos U s σ H _ I h) λus s1 zQ=>?_) hs rfl));let⟨vs,H1,I1,r1,q1⟩:=zQ;let⟨j,e,q1,q2,q⟩:=q1;subst e;cases r1 with
 |cons r rr=>
  cases rr;let⟨t,rfl⟩:=r;exact call_range_1 (FM I1 ⋯ ⋯ q1 q2 (by simpa using q))
theorem O0{p pos:Pos}(hg:Gl X "range")(hm:X.mg "range"=none)(ha:PA X [a,b] ta)(hs:↥(starEach [a,b] X.env=[(false,eval a X.env),(false,eval b X.env)]))(hs2:↥(starEach [b] X.env=[(false,eval b X.env)])):
  PI X tg (.Call (.Name "range" p) [a,b] [] pos) (aIX ta):=by
 intro U s σ H R I h;refine Call_ (iE I hg hm boot_range (PyProof.Rows.callWith_type1 (cN (ha pos U s σ H _ I h) λus s1 zQ=>?_) (by rw[hs,hs2]) (by rw[hs2];rfl)));let⟨vs,H1,I1,r1,q1⟩:=zQ;let⟨i,j,e,⟨q1,q2,q3,q4⟩,q⟩:=q1;subst e;cases r1 with
 |cons r rr=>
  cases rr with
  |cons r' rr=>
   cases rr;let⟨t,rfl⟩:=r;let⟨t',rfl⟩:=r';exact call_range_2 (FM I1 q1 q2 q3 q4 q)
def aL9(wi:TI)(g:TG)(tb:TS):TS:=λD σ H=>wi σ H λJ H1=>∃W:Nat->Nat->St->Hp->Prop,(∃m,W 0 m σ H1)/\∀i m σ H,W i m σ H ->
 (J.stop i H/\D.nx σ H)\/(J.go i H/\∃N:St->Hp->Prop,(∀σ' H',N σ' H'->∃m',m'<m/\W (i+1) m' σ' H')/\∀x H',J.yld i H x H'->g x σ H' λσ2 H2=>tb {D with nx:=N,ct:=N,bk:=D.nx} σ2 H2)
def wI(fp:ZM)(h:Heap):ZB:=fp.filterMap λb=>(h.get? b).map λo=>(b,o)
theorem p9(hb:b∈fp)(e:h.get? b=some o):(b,o)∈wI fp h:=List.mem_filterMap.mpr ⟨b,hb,by rw[e];rfl⟩
theorem O1(hp:p∈wI fp h):p.1∈fp/\h.get? p.1=some p.2:=by
 let⟨b,hb,e⟩:=List.mem_filterMap.mp hp;cases q:h.get? b with
 |none=>rw[q]at e;cases e
 |some o=>
  grind
theorem Inv.pinned(I:Inv X U σ H s)(hf:∀b∈fp,vU X U H b)(ho:∀b∈fp,∃o,s.heap.get? b=some o/\∀v,o.data≠.cell v):Inv X (U++wI fp s.heap) σ H s:=
 I.pins_of λp hp=>(ö.mp hp).elim (λz=>I.pin p (Û _ z)) λz=>by
  let⟨hb,e⟩:=O1 z;let⟨f0,f1,f2,_⟩:=hf p.1 hb
  grind
theorem Inv.unpinned(I:Inv X (U++pl) σ H s):Inv X U σ H s:=I.pins_of λp hp=>I.pin p (Û _ (Ą _ hp))
theorem aE5(hp:PassesOwn 'b' X.A X.env X.xe)(hc:X.calm=true)(hi:PI X tg iter wi)(hg:PG X tg g)(hb:E8 X body tb)(hs: ~~~(Zfi iter X.env)):PS X (.For tg iter body [] pos) (aL9 wi g tb):=by
 intro U s σ H D I h;refine wpAny_For (cN (hi U s σ H _ I h) λv s1 h1=>cN h1 λitv s2 h2=>?_) hs;let⟨it,fp,tn,J,H2,e,I2,T,st2,f2,W,⟨m0,w0⟩,turn⟩:=h2;subst e
 -- what stays true of the iterator's objects through the loop
 have stat:∀{H':Hp},(∀b∈fp,H' b=none)->∀b∈fp,vU X U H' b:=λhn b hb=>⟨hn b hb,(f2 b hb).2⟩;refine codeAny_forLoop_any (λn s'=>∃i σ' H',Inv X U σ' H' s'/\tn i s'.heap/\(∀b∈fp,H' b=none)/\W i n σ' H') ?_ m0 ⟨0,σ,H2,I2,st2,λb hb=>(f2 b hb).1,w0⟩;rintro n s3 ⟨i,σ3,H3,I3,st3,fr3,w3⟩;rcases turn i n σ3 H3 w3 with ⟨stop,qn⟩|⟨go,N,hN,step⟩
 .refine wpAny_passesOwn hp (cN (T.done X rfl rfl rfl hc i U s3 σ3 H3 X.xe I3 (stat fr3) st3 stop) λr s4 zQ=>?_);let⟨hr,I4⟩:=zQ
  subst hr;exact wpAny_execs_nil ⟨σ3,H3,I4,qn⟩
 .refine wpAny_passesOwn hp (cN (T.item X rfl rfl rfl hc i U s3 σ3 H3 X.xe I3 (stat fr3) st3 go) λr s4 zQ=>?_);let⟨u,hr,h4⟩:=zQ
  subst hr;refine wpAny_passesOwn hp (cN h4 λ_ s5 zQ=>?_);let⟨x,H5,I5,r5,y5,st5,fr5⟩:=zQ;have I5':=I5.pinned (stat fr5) (T.obj _ _ st5);refine wpAny_passesOwn hp (cN (hg _ s5 σ3 H5 x u _ I5' r5 (step x H5 y5)) λ_ s6 zQ=>?_);let⟨σ6,H6,I6,q6⟩:=zQ;refine wpAny_passesOwn hp (cN (hb _ s6 σ6 H6 _ I6 q6) λf s7 q7=>?_);have again:∀{σ7:St}{H7:Hp},Inv X (U++wI fp s5.heap) σ7 H7 s7->N σ7 H7->∃m,m<n/\∃i σ' H',Inv X U σ' H' s7/\tn i s7.heap/\(∀b∈fp,H' b=none)/\W i m σ' H':=λ{σ7 H7}I7 n7=>by
   let⟨m',hm,w7⟩:=hN σ7 H7 n7;refine⟨m',hm,i+1,σ7,H7,I7.unpinned,T.keep _ _ _ st5 λb hb o e=>(I7.pin (b,o) (Û _ (Û _ (p9 hb e)))).1,λb hb=>?_,w7⟩;let⟨o,e,d⟩:=T.obj _ _ st5 b hb;exact(I7.pin (b,o) (Û _ (Û _ (p9 hb e)))).2.1
  cases f with
  |next=>let⟨σ7,H7,I7,n7⟩:=q7;exact again I7 n7
  |cont=>let⟨σ7,H7,I7,n7⟩:=q7;exact again I7 n7
  |brk=>let⟨σ7,H7,I7,q7⟩:=q7;exact⟨σ7,H7,I7.unpinned,q7⟩
  |ret v=>let⟨x7,σ7,H7,I7,r7,q7⟩:=q7;exact⟨x7,σ7,H7,I7.unpinned,r7,q7⟩
end
abbrev R2:=V->V->Hp->VK->Prop
def j3(X:Cx)(f:Value->Value->Sem Value)(r:R2):Prop:=
 ∀(U:ZB)(s:Shared)(σ:St)(H:Hp)(x y:V)(v u:Value)(Q:VK),Inv X U σ H s->bJ x v->bJ y u->r x y H Q ->
  wpAny 'b' X.A (f v u) (EP X U σ Q) X.xe s
def Œ(X:Cx)(f:Value->Sem Value)(r:V->Hp->VK->Prop):Prop:=
 ∀(U:ZB)(s:Shared)(σ:St)(H:Hp)(x:V)(v:Value)(Q:VK),Inv X U σ H s->bJ x v->r x H Q ->
  wpAny 'b' X.A (f v) (EP X U σ Q) X.xe s
def iM(X:Cx)(f:Value)(r:List V->Hp->VK->Prop):Prop:=
 ∀(U:ZB)(s:Shared)(σ:St)(H:Hp)(xs:List V)(us:ZJ)(Q:VK),Inv X U σ H s->bK xs us->r xs H Q ->
  wpAny 'b' X.A (call f us) (EP X U σ Q) X.xe s
def aMB(X:Cx)(r:V->Hp->(Bool->Hp->Prop)->Prop):Prop:=
 ∀(U:ZB)(s:Shared)(σ:St)(H:Hp)(x:V)(v:Value)(Q:Bool->Hp->Prop),Inv X U σ H s->bJ x v->r x H Q ->
  wpAny 'b' X.A (truthy v) (TP X U σ Q) X.xe s
def ħ(r:R2)(ta tb:TE):TE:=λσ H Q=>ta σ H λx H1=>tb σ H1 λy H2=>r x y H2 Q
def aOB(r:V->Hp->VK->Prop)(ta:TE):TE:=λσ H Q=>ta σ H λx H1=>r x H1 Q
def rI(C:Int->Int->Prop)(g:Int->Int->V):R2:=λx y H Q=>∃i j,x=.int i/\y=.int j/\C i j/\Q (g i j) H
def RU(g:Int->Int->V):R2:=λx y H Q=>∃i j,x=.int i/\y=.int j/\Q (g i j) H
def rU(g:Int->V):V->Hp->VK->Prop:=λx H Q=>∃i,x=.int i/\Q (g i) H
section
theorem œ(ha:PE X a ta)(hb:PE X b tb){R:V->V->Hp->Prop}(I:Inv X U σ H s)(h:ta σ H λx H1=>tb σ H1 λy H2=>R x y H2){f:Value->Value->Sem Value}(hf:∀v u s2 x y H2,Inv X U σ H2 s2->bJ x v->bJ y u->R x y H2->wpAny 'b' X.A (f v u) Q X.xe s2):
  wpAny 'b' X.A (eval a X.env) (λv s₁=>wpAny 'b' X.A (eval b X.env) (λu s₂=>wpAny 'b' X.A (f v u) Q X.xe s₂) X.xe s₁) X.xe s:=by
 refine cN (ha U s σ H _ I h) λv s1 zQ=>?_;let⟨x,H1,I1,r1,q1⟩:=zQ;refine cN (hb U s1 σ H1 _ I1 q1) λu s2 zQ=>?_;let⟨y,H2,I2,r2,q2⟩:=zQ;exact hf v u s2 x y H2 I2 r1 r2 q2
theorem aIZ(ho:j3 X (binaryOp op) r)(ha:PE X a ta)(hb:PE X b tb):PE X (.BinOp a op b pos) (ħ r ta tb):=by
 intro U s σ H Q I h;exact wpAny_BinOp (œ ha hb I h λv u s2 x y H2 I2 rx ry q=>ho U s2 σ H2 x y v u Q I2 rx ry q)
theorem aI0(ho:Œ X (unaryOp op) r)(ha:PE X a ta):PE X (.UnaryOp op a pos) (aOB r ta):=by
 intro U s σ H Q I h;exact UnaryOp_ (cN (ha U s σ H _ I h) λv s1 zQ=>by let⟨x,H1,I1,r1,q1⟩:=zQ;exact ho U s1 σ H1 x v Q I1 r1 q1)
theorem Ķ{f:Value->Value->Sem Value}{C:Int->Int->Prop}{g:Int->Int->Int}(rule:∀(i j:Int)(t u:Tok)(s:Shared)(Q:ZA)(E:ZA),C i j->Q (.int (g i j) s.toks) {s with toks:=s.toks+1}->wpAny 'b' X.A (f (.int i t) (.int j u)) Q E s):
  j3 X f (rI C λi j=>.int (g i j)):=by
 intro U s σ H x y v u Q I rx ry h;let⟨i,j,rfl,rfl,hc,q⟩:=h;let⟨t,rfl⟩:=rx;let⟨t',rfl⟩:=ry;exact rule i j t t' s _ _ hc ⟨.int (g i j),H,I.tok _,⟨_,rfl⟩,q⟩
theorem Ÿ{f:Value->Value->Sem Value}{g:Int->Int->Int}(rule:∀(i j:Int)(t u:Tok)(s:Shared)(Q:ZA)(E:ZA),Q (.int (g i j) s.toks) {s with toks:=s.toks+1}->wpAny 'b' X.A (f (.int i t) (.int j u)) Q E s):
  j3 X f (RU λi j=>.int (g i j)):=by
 intro U s σ H x y v u Q I rx ry h;let⟨i,j,rfl,rfl,q⟩:=h;let⟨t,rfl⟩:=rx;let⟨t',rfl⟩:=ry;exact rule i j t t' s _ _ ⟨.int (g i j),H,I.tok _,⟨_,rfl⟩,q⟩
theorem Ŕ{f:Value->Value->Sem Value}{g:Int->Int->Bool}(rule:∀(i j:Int)(t u:Tok)(s:Shared)(Q:ZA)(E:ZA),Q (.bool (g i j)) s->wpAny 'b' X.A (f (.int i t) (.int j u)) Q E s):
  j3 X f (RU λi j=>.bl (g i j)):=by
 intro U s σ H x y v u Q I rx ry h;let⟨i,j,rfl,rfl,q⟩:=h;let⟨t,rfl⟩:=rx;let⟨t',rfl⟩:=ry;exact rule i j t t' s _ _ ⟨.bl (g i j),H,I,rfl,q⟩
def YZ(i j:Int):Prop:=0<=j/\j<=1000000/\i.natAbs<2^64
theorem aE8:j3 X (binaryOp .Add) (RU λi j=>.int (i+j)):=Ÿ λ_ _ _ _ _ _ _ q=>add_int q
theorem aE9:j3 X (binaryOp .Sub) (RU λi j=>.int (i-j)):=Ÿ λ_ _ _ _ _ _ _ q=>sub_int q
theorem Y0:j3 X (binaryOp .Mod) (rI (λ_ j=>j≠0) λi j=>.int (i.fmod j)):=Ķ λ_ _ _ _ _ _ _ hc q=>mod_int' hc q
theorem aFA:j3 X (binaryOp .Pow) (rI YZ λi j=>.int (i^j.toNat)):=Ķ λ_ _ _ _ _ _ _ hc q=>pow_int_small hc.1 hc.2.1 hc.2.2 q
theorem aOC{f:Value->Sem Value}{g:Int->Int}(rule:∀(i:Int)(t:Tok)(s:Shared)(Q:ZA)(E:ZA),Q (.int (g i) s.toks) {s with toks:=s.toks+1}->wpAny 'b' X.A (f (.int i t)) Q E s):
  Œ X f (rU λi=>.int (g i)):=by
 intro U s σ H x v Q I rx h;let⟨i,rfl,q⟩:=h;let⟨t,rfl⟩:=rx;exact rule i t s _ _ ⟨.int (g i),H,I.tok _,⟨_,rfl⟩,q⟩
theorem aFB:Œ X (unaryOp .USub) (rU λi=>.int (-i)):=aOC λ_ _ _ _ _ q=>neg_int q
end
section
theorem mZ{U:ZB}{σ:St}{H:Hp}{s:Shared}{Q:VK}{k k':Bool}(I:Inv X U σ H s)(q:Q (.bl k) H)(e:k=k'):EP X U σ Q (.bool k') s:=by
 subst e;exact⟨.bl k,H,I,rfl,q⟩
theorem pF:j3 X (compareOp .Lt) (RU λi j=>.bl (decide (i<j))):=Ŕ λ_ _ _ _ _ _ _ q=>lt_int q
theorem RV:j3 X (compareOp .LtE) (RU λi j=>.bl (decide (i<=j))):=Ŕ λ_ _ _ _ _ _ _ q=>le_int q
theorem rM:j3 X (compareOp .Gt) (RU λi j=>.bl (decide (j<i))):=Ŕ λ_ _ _ _ _ _ _ q=>gt_int q
theorem RW:j3 X (compareOp .Is) (λx y H Q=>y=.non/\Q (.bl (decide (x=.non))) H):=by
 intro U s σ H x y v u Q I rx ry h;let⟨rfl,q⟩:=h;cases ry;refine is_none_gen (mZ I q ?_);cases x<;>first
  |(cases rx;rfl)
  |(let⟨t,rfl⟩:=rx;rfl)
theorem Y1:j3 X (compareOp .IsNot) (λx y H Q=>y=.non/\Q (.bl (!decide (x=.non))) H):=by
 intro U s σ H x y v u Q I rx ry h;let⟨rfl,q⟩:=h;cases ry;refine isnot_none_gen (mZ I q ?_);cases x<;>first
  |(cases rx;rfl)
  |(let⟨t,rfl⟩:=rx;rfl)
theorem j3.or(h:j3 X f r)(h':j3 X f r'):j3 X f (λx y H Q=>r x y H Q\/r' x y H Q):=by
 intro U s σ H x y v u Q I rx ry q;rcases q with q|q
 .exact h U s σ H x y v u Q I rx ry q
 .exact h' U s σ H x y v u Q I rx ry q
theorem bA(b:Expr)(h:⇑(op≠.In))(h2:⇑(op≠.NotIn)):behindInMarks op b=false:=by
 have e1:(op == CmpOp.In)=false:=by cases op<;>first|rfl|exact absurd rfl h
 have e2:(op == CmpOp.NotIn)=false:=by cases op<;>first|rfl|exact absurd rfl h2
 cases b<;>simp[behindInMarks,e1,e2]
theorem Y2(ho:j3 X (compareOp op) r)(ha:PE X a ta)(hb:PE X b tb)(hm:behindInMarks op b=false):PE X (.Compare a [op] [b] pos) (ħ r ta tb):=by
 intro U s σ H Q I h;exact wpAny_Compare1 (œ ha hb I h λv u s2 x y H2 I2 rx ry q=>ho U s2 σ H2 x y v u Q I2 rx ry q) hm
def Ź(t:TE):TT:=λσ H Q=>t σ H λx H'=>∃k,x=.bl k/\Q k H'
theorem Y3(ho:j3 X (compareOp op) r)(ha:PE X a ta)(hb:PE X b tb)(hm:behindInMarks op b=false):PT X (.Compare a [op] [b] pos) (Ź (ħ r ta tb)):=by
 intro U s σ H Q I h;refine wpAny_isTrue_Compare1 (cN (ha U s σ H _ I h) λv s1⟨x,H1,I1,r1,q1⟩=>cN (hb U s1 σ H1 _ I1 q1) λu s2⟨y,H2,I2,r2,q2⟩=>
  cN (ho U s2 σ H2 x y v u _ I2 r1 r2 q2) λc s3⟨z,H3,I3,r3,k,e,q3⟩=>?_) hm
 subst e;cases r3;exact wpAny_truthy_bool ⟨H3,I3,q3⟩
def JT(r r':R2)(ta tb tc:TE):TE:=λσ H Q=>ta σ H λx H1=>tb σ H1 λy H2=>r x y H2 λz H3=>∃k,z=.bl k /\
 (if k=true then tc σ H3 λw' H4=>r' y w' H4 Q else Q (.bl false) H3)
theorem RY(ho:j3 X (compareOp op) r)(ho':j3 X (compareOp op') r')(ha:PE X a ta)(hb:PE X b tb)(hc:PE X c tc)(hm:lastMarks [op,op'] [b,c]=false:=by with_unfolding_all rfl):PE X (.Compare a [op,op'] [b,c] pos) (JT r r' ta tb tc):=by
 intro U s σ H Q I h;refine Compare_chain (cN (ha U s σ H _ I h) λv s1⟨x,H1,I1,r1,q1⟩=>chain_link (cN (hb U s1 σ H1 _ I1 q1) λu s2⟨y,H2,I2,r2,q2⟩=>
  cN (ho U s2 σ H2 x y v u _ I2 r1 r2 q2) λd s3⟨z,H3,I3,r3,k,e,q3⟩=>?_)) hm
 subst e;cases r3;refine wpAny_truthy_bool ?_;cases k with
 |false=>exact ite_ff ⟨.bl false,H3,I3,rfl,q3⟩
 |true=>exact ite_tt (chain_last (cN (hc U s3 σ H3 _ I3 q3) λw' s4 zQ=>by let⟨z',H4,I4,r4,q4⟩:=zQ;exact ho' U s4 σ H4 y z' u w' Q I4 r2 r4 q4))
theorem RZ(ho:j3 X (compareOp op) r)(ho':j3 X (compareOp op') r')(ha:PE X a ta)(hb:PE X b tb)(hc:PE X c tc)(hm:lastMarks [op,op'] [b,c]=false:=by with_unfolding_all rfl):PT X (.Compare a [op,op'] [b,c] pos) (Ź (JT r r' ta tb tc)):=by
 intro U s σ H Q I h;refine isTrue_chain (cN (ha U s σ H _ I h) λv s1⟨x,H1,I1,r1,q1⟩=>test_link (cN (hb U s1 σ H1 _ I1 q1) λu s2⟨y,H2,I2,r2,q2⟩=>
  cN (ho U s2 σ H2 x y v u _ I2 r1 r2 q2) λd s3⟨z,H3,I3,r3,k,e,q3⟩=>?_)) hm
 subst e;cases r3;refine wpAny_truthy_bool ?_;cases k with
 |false=>
  let⟨k',e',q'⟩:=q3;cases e';exact ite_ff ⟨H3,I3,q'⟩
 |true=>
  refine ite_tt (test_last (cN (hc U s3 σ H3 _ I3 q3) λw' s4⟨z',H4,I4,r4,q4⟩=>cN (ho' U s4 σ H4 y z' u w' _ I4 r2 r4 q4) λd' s5 zQ=>?_));let⟨z2,H5,I5,r5,k2,e2,q5⟩:=zQ;subst e2;cases r5;exact wpAny_truthy_bool ⟨H5,I5,q5⟩
def ź(K:ZC)(x:V)(H:Hp)(k:Bool):Prop:=
 match x with
 |.non=>k=false
 |.bl b=>k=b
 |.int i=>k=(i != 0)
 |.str y=>y.length<=sizeLine/\k=((y.length:Int) != 0)
 |.byt y=>y.size<=sizeLine/\k=((y.size:Int) != 0)
 |.ref p=>(∃xs,eJ K H p xs/\k=!xs.isEmpty)\/(∃xs,rK K H p xs/\k=!xs.isEmpty)\/∃À,H p=some (.dK À)/\k=!À.isEmpty
 |_=>False
theorem JU{vs:List (κ×Value)}(r:KV À vs):(!vs.isEmpty)=!À.isEmpty:=by
 cases r<;>rfl
theorem wJ(r:bK xs its):(!its.toArray.isEmpty)=!xs.isEmpty:=by
 cases r<;>simp
theorem qA:(sizeLine:Nat)<2^63:=by rw[sizeLine_eq];decide
theorem aFC:aMB X (λx H Q=>∃k,ź X.K x H k/\Q k H):=by
 intro U s σ H x v Q I rx h;let⟨k,e,q⟩:=h;have hl:=qA;have hs:sizeLine=16777216:=sizeLine_eq;cases x with
 |non=>
  cases rx;have e':k=false:=e;subst e';exact truthy_none ⟨H,I,q⟩
 |bl b=>
  cases rx;have e':k=b:=e;subst e';exact wpAny_truthy_bool ⟨H,I,q⟩
 |int i=>
  let⟨t,rfl⟩:=rx;have e':k=(i != 0):=e;subst e';exact PySem.P.truthy_int ⟨H,I,q⟩
 |str y=>
  let⟨t,rfl⟩:=rx;obtain⟨hy,e'⟩:y.length<=sizeLine/\k=((y.length:Int) != 0):=e;subst e';exact PySem.P.truthy_str ∅ ⟨H,I.tok _,q⟩
 |byt y=>
  let⟨t,rfl⟩:=rx;obtain⟨hy,e'⟩:y.size<=sizeLine/\k=((y.size:Int) != 0):=e;subst e';exact W.truthy_bytes ∅ ⟨H,I.tok _,q⟩
 |ref p=>
  cases rx;have e':(∃xs,eJ X.K H p xs/\k=!xs.isEmpty)\/(∃xs,rK X.K H p xs/\k=!xs.isEmpty)\/∃À,H p=some (.dK À)/\k=!À.isEmpty:=e;rcases e' with ⟨xs,hx,e'⟩|⟨xs,hx,e'⟩|⟨À,hx,e'⟩
  .subst e'
   let⟨its,r,pl,hz⟩:=I.list hx;have hlen:=r.length;exact wpAny_truthy_list pl.isList 'k' ⟨H,I.tok _,by rw[wJ r];exact q⟩
  .subst e'
   let⟨its,r,pl,hz⟩:=I.tuple hx;have hlen:=r.length;exact truthy_tuple pl 'k' ⟨H,I.tok _,by rw[wJ r];exact q⟩
  .subst e'
   obtain⟨hz,hS,vs,r,m⟩:À.length<=sizeLine/\(p == sysModules)=false/\∃vs,KV À vs/\s.heap.DictOf (dH X.prog X.w) p vs:=I.hok p _ hx;have hlen:À.length=vs.length:=Paired.length r;exact wpAny_truthy_dict hS m ∅ ⟨H,I.tok _,by rw[JU r];exact q⟩
 |_=>exact(show False from e).elim
theorem R8(ha:PE X a ta)(he:∀whole,isTrue a X.env whole=(do let v <- whole;standAt a.pos;holding [v] (truthy v))):
  PT X a (λσ H Q=>ta σ H λx H'=>∃k,ź X.K x H' k/\Q k H'):=by
 intro U s σ H Q I h;exact isTrue_plain (cN (ha U s σ H _ I h) λv s1 zQ=>by let⟨x,H1,I1,r1,q1⟩:=zQ;exact aFC U s1 σ H1 x v Q I1 r1 q1) (he _)
theorem JV:j3 X (binaryOp .Add) (λx y H Q=>∃i j,x=.str i/\y=.str j/\i.length+j.length<=sizeLine/\Q (.str (i++j)) H):=by
 intro U s σ H x y v u Q I rx ry h;let⟨i,j,rfl,rfl,hz,q⟩:=h;let⟨t,rfl⟩:=rx;let⟨t',rfl⟩:=ry;exact add_str (λt' tk=>⟨.str (i++j),H,I.tok _,⟨_,rfl⟩,q⟩) hz
theorem pG(r:bK [x] us):∃u,us=[u]/\bJ x u:=by
 cases r with
 |cons r1 r2=>cases r2;exact⟨_,rfl,r1⟩
theorem aI3(r:bK [x,y] us):∃u w',us=[u,w']/\bJ x u/\bJ y w':=by
 cases r with
 |cons r1 r2=>
  cases r2 with
  |cons r3 r4=>cases r4;exact⟨_,_,rfl,r1,r3⟩
theorem rN:iM X (.builtin "abs") (λxs H Q=>∃i,xs=[.int i]/\Q (.int (if i<0 then -i else i)) H):=by
 intro U s σ H xs us Q I r h;let⟨i,rfl,q⟩:=h;let⟨u,rfl,t,rfl⟩:=pG r;exact call_abs_int λu tk=>⟨.int (if i<0 then -i else i),H,I.tok _,⟨_,rfl⟩,q⟩
end
structure JW(h:Heap)(x dx C:Addr)(mA:ZD):Prop where
 obj:h.get? x=some (W.instObj C dx)
 ns:h.Ns1 dx mA
 ne:dx≠x
theorem O2{h:Heap}(n:h.Ns1 dx mA):∃od,h.get? dx=some od/\∀name,W.lookIn name od=some (mA name):=by
 let⟨o,es,ep,ho,hd,hk,_,hm⟩:=n;refine⟨o,ho,λname=>?_⟩;have e:=hm name;unfold nsFind findBy at e;rw[<- Array.find?_toList]at e;unfold W.lookIn;rw[hd];dsimp only;split
 .grind
 .rename_i q
  rw[q]at e;have a:es.toList.any (·.refKey)=false:=by
   rw[List.any_eq_false];intro y hy;let⟨z,t,hkey⟩:=hk y (Array.mem_toList_iff.mp hy);simp[DictEntry.refKey,hkey]
  grind
theorem JW.look(I:JW h x dx C mA):∃od,W.InstAt h x (W.instObj C dx) C (some od)/\∀name,W.lookIn name od=some (mA name):=
 let ⟨od,ho,hl⟩:=O2 I.ns
 ⟨od,⟨I.obj,rfl,rfl,ho⟩,hl⟩
section
variable {prog:Program}{w:World}{A:Around}{E:ZA}{s:Shared}{K:ZC}{x dx C f:Addr}{mA:ZD}{name:Str}{v:Value}
theorem Y4{expr:Bool}{Q:ZA}(X:K.In s.heap)(I:JW s.heap x dx C mA)(hg:W.plainGet K C name=true)(hh:W.hasDictIn K C=true)(ha:W.findIn K (.ref C) name=some none)(hv:mA name=some v)(hv':W.handedIn v=true)(h:Q v {s with toks:=s.toks+1}):
  wpAny (model prog w) A (getAttr (.ref x) name expr) Q E s:=by
 let⟨od,J,hl⟩:=I.look;exact W.get_value X J (W.plainGet_of hg).1 (W.findObj_own hh ha rfl (by rw[hl,hv])) hv' h
theorem R9{pl:Sem Bool}{Q:Value×ZJ->Shared->Prop}(X:K.In s.heap)(I:JW s.heap x dx C mA)(hg:W.plainGet K C name=true)(hf:W.findIn K (.ref C) name=some (some (.ref f)))(ht:W.isFn K (.ref f)=true)(hv:mA name=none)(h:Q (.ref f,[.ref x]) s):
  wpAny (model prog w) A (getMethod (.ref x) name pl) Q E s:=by
 let⟨od,J,hl⟩:=I.look;exact W.method_fn X J (W.plainGet_of hg).1 (W.plainGet_of hg).2 hf (beq_iff_eq.mp ht) (by show (W.lookIn name od).map (·.isSome)=some false;rw[hl,hv];rfl) h
theorem Y5{ns:ZG}{Q:Unit->Shared->Prop}(X:K.In s.heap)(I:JW s.heap x dx C mA)(hs:W.findIn K (.ref C) "__setattr__"=some (some (.builtin "object.__setattr__")))(hp:W.plainOver K C=true)(ht:W.takerIn K C name=some none)(hh:W.hasDictIn K C=true)(hw:PySem.Within mA ns)(hsz:ns.length<=sizeLine)(h:∀h',JW h' x dx C (λy=>if y=name then some v else mA y)->Heap.SameBut dx s.heap h'->Q () {s with heap:=h',toks:=s.toks+2}):
  wpAny (model prog w) A (setAttr (.ref x) name v) Q E s:=by
 let⟨od,J,hl⟩:=I.look;refine W.set_plain X J hs (W.osa_open (s:={s with toks:=s.toks+1}) (r:=none) X J hp ht λb=>?_);let⟨cd,hc,hd'⟩:=W.any_some hh;have hx:s.heap.get? x=some ⟨.ref C,some dx,.plain,#[]⟩:=I.obj;refine wpAny_bind (wpAny_pure (wpAny_bind (wpAny_bind (wpAny_loadPart hx (wpAny_bind (W.Looks.here (s:={s with toks:=s.toks+1}) (W.looks_clsIn X hc) ?_))))));rw[hd'];refine wpAny_pure (a:=some dx) (wpAny_bind (wpAny_pure (wpAny_bind ?_)));refine wpAny_nsSet1 (s:={s with toks:=s.toks+1}) I.ns λh' hn2 hs2=>?_;let⟨oD,esD,epD,hoD,hdD,hcD⟩:=hn2.count (PySem.Within.cons name v hw);refine wpAny_bind (wpAny_lookBehind hoD (by rw[hdD];exact pastItsLine_dict (Ø hcD 'k')) ?_)
 exact wpAny_pure (h _ ⟨(hs2.2 _ (Ð I.ne)).trans I.obj,hn2,I.ne⟩ hs2)
theorem SA(X:K.In s.heap)(hm:W.makesIn K C=true)(hi:W.findIn K (.ref C) "__init__"=some (some (.ref f)))(hf:W.typeIn K (.ref f)=some (.type "function"))(h:codeAny (model prog w) (A.under (.builtin "type.__call__" ⟨.ref C::vs,kw⟩)) (.call (.ref f) ⟨.ref (s.heap.objs.size+1)::vs,kw⟩) (W.InitBack (s.heap.objs.size+1) R)
   {s with heap:=(s.heap.push W.emptyDict).push (W.instObj C s.heap.objs.size)}):
  codeAny (model prog w) A (.call (.ref C) ⟨vs,kw⟩) R s:=by
 let⟨hh,g,d,t,os⟩:=s;exact W.make_core (W.makes_of X hm) (W.looks_findIn X hi) (λself=>W.bind_fn X self hf) (.inl rfl) h
end
def kF(f:Str)(v:V):List (Str×V)->List (Str×V)
 |[]=>[(f,v)]
 |(g,x)::r=>if g=f then (g,v)::r else (g,x)::kF f v r
theorem u9(f g:Str)(v:V):∀fs:List (Str×V),(kF f v fs).lookup g=if g=f then some v else fs.lookup g
 |[]=>by
  show List.lookup g [(f,v)]=_
  grind
 |(k,x)::r=>by
  have ih:=u9 f g v r;rw[show kF f v ((k,x)::r)=(if k=f then (k,v)::r else (k,x)::kF f v r)from rfl]
  grind
theorem tX(f:Str)(v:V):∀fs:List (Str×V),f∈(kF f v fs).map (·.1)/\∀g,g∈fs.map (·.1)->g∈(kF f v fs).map (·.1)
 |[]=>⟨by simp[kF],λg h=>by simp at h⟩
 |(k,x)::r=>by
  let⟨i1,i2⟩:=tX f v r;rw[show kF f v ((k,x)::r)=(if k=f then (k,v)::r else (k,x)::kF f v r)from rfl]
  grind
theorem vA(f:Str)(v:V):∀fs:List (Str×V),(kF f v fs).length<=fs.length+1
 |[]=>by simp[kF]
 |(k,x)::r=>by
  have ih:=vA f v r;rw[show kF f v ((k,x)::r)=(if k=f then (k,v)::r else (k,x)::kF f v r)from rfl]
  grind
theorem oX.some_of(r:oX (some v) o):∃u,o=some u/\bJ v u:=by
 cases o with
 |none=>exact(show False from r).elim
 |some u=>exact⟨u,rfl,r⟩
theorem oX.none_of(r:oX none o):o=none:=by
 cases o with
 |none=>rfl
 |some u=>exact(show False from r).elim
theorem O3(r:bJ v u):W.handedIn u=true:=by
 cases v with
 |non=>cases (show u=Value.none from r);rfl
 |bl b=>cases (show u=Value.bool b from r);rfl
 |int i=>let⟨t,e⟩:=(show ∃t,u=Value.int i t from r);cases e;rfl
 |str x=>let⟨t,e⟩:=(show ∃t,u=Value.str x t from r);cases e;rfl
 |byt b=>let⟨t,e⟩:=(show ∃t,u=Value.bytes b t from r);cases e;rfl
 |flt b=>let⟨t,e⟩:=(show ∃t,u=Value.float b t from r);cases e;rfl
 |ref a=>cases (show u=Value.ref a from r);rfl
 |ty n=>cases (show u=Value.type n from r);rfl
section
theorem CI(hok:mR P w H h)(e:H a=some (.ins C dx fs)):∃mA,JW h a dx C mA/\(∀f,oX (fs.lookup f) (mA f))/\PySem.Within mA (fs.map (·.1))/\fs.length<=1000/\H dx=some (.own a):=by
 let⟨d,z,ne,ob,mA,n,r,q⟩:=(show dQ P w H h a (.ins C dx fs)from hok a _ e);exact⟨mA,⟨ob,n,ne⟩,r,q,z,d⟩
end
structure RF(K:ZC)(C:Addr):Prop where
 pg:W.plainGet K C Str.empty=true
 hd:W.hasDictIn K C=true
 po:W.plainOver K C=true
 sa:W.findIn K (.ref C) "__setattr__"=some (some (.builtin "object.__setattr__"))
theorem RF.get{K:ZC}(c:RF K C)(f:Str):W.plainGet K C f=true:=c.pg
def lJ(K:ZC)(C:Addr)(f:Str):Prop:=W.findIn K (.ref C) f=some none
theorem lJ.taker{K:ZC}(n:lJ K C f):W.takerIn K C f=some none:=by
 unfold W.takerIn;rw[show W.findIn K (.ref C) f=some none from n];rfl
structure Y6(K:ZC)(C:Addr)(m:Str)(f:Addr):Prop where
 at_:W.findIn K (.ref C) m=some (some (.ref f))
 fn:W.isFn K (.ref f)=true
 kp:W.keepIn K (.ref f)=true
section
variable {X:Cx}{U:ZB}{σ:St}{H:Hp}{s:Shared}{a C dx:Addr}{fs:List (Str×V)}{f:Str}{v:V}{A:Around}{E:ZA}
theorem JX(I:Inv X U σ H s)(e:H a=some (.ins C dx fs))(c:RF X.K C)(n:lJ X.K C f)(l:fs.lookup f=some v)(h:∀u s',Inv X U σ H s'->bJ v u->Q u s'):wpAny 'b' A (getAttr (.ref a) f b) Q E s:=by
 let⟨mA,O,r,_,_,_⟩:=CI I.hok e;let⟨u,hu,ru⟩:=oX.some_of (v:=v) (o:=mA f) (by rw[<- l];exact r f);exact Y4 I.kIn O (c.get f) c.hd n hu (O3 ru) (h u _ (I.tok _) ru)
theorem JY{m:Str}{g:Addr}{pl:Sem Bool}{Q:Value×ZJ->Shared->Prop}(I:Inv X U σ H s)(e:H a=some (.ins C dx fs))(c:RF X.K C)(k:Y6 X.K C m g)(l:fs.lookup m=none)(h:Q (.ref g,[.ref a]) s):wpAny 'b' A (getMethod (.ref a) m pl) Q E s:=by
 let⟨mA,O,r,_,_,_⟩:=CI I.hok e;have hn:mA m=none:=oX.none_of (by rw[<- l];exact r m);exact R9 I.kIn O (c.get m) k.at_ k.fn hn h
theorem JZ{y:V}{u:Value}{Q:Unit->Shared->Prop}(I:Inv X U σ H s)(e:H a=some (.ins C dx fs))(c:RF X.K C)(n:lJ X.K C f)(hl:fs.length<1000)(ry:bJ y u)(h:∀s',Inv X U σ (aX H a (.ins C dx (kF f y fs))) s'->Q () s'):wpAny 'b' A (setAttr (.ref a) f u) Q E s:=by
 let⟨mA,O,r,wi,_,ho⟩:=CI I.hok e;have hz:(fs.map (·.1)).length<=sizeLine:=by rw[Ä,sizeLine_eq];lia
 refine Y5 I.kIn O c.sa c.po n.taker c.hd wi hz λh' O' sb=>h _ ?_;have hd:∃o,h'.get? dx=some o:=let ⟨o,_,_,e',_⟩:=O'.ns;⟨o,e'⟩
 refine I.write (x:=a) (e:=dx) (by rw[e];exact True.intro) (.inr ho) (λb q hb z=>(sb.2 b hb).trans z) hd ?_;refine⟨by rw[aH O.ne];exact ho,?_,O.ne,O'.obj,_,O'.ns,λg=>?_,λg hg=>?_⟩
 .have:=vA f y fs;exact Ø ‹_› ‹_›
 .show oX ((kF f y fs).lookup g) (if g=f then some u else mA g)
  rw[u9];by_cases q:g=f
  .rw[Á q,Á q];exact ry
  grind
 .by_cases q:g=f
  .rw[q];exact(tX f y fs).1
  .refine(tX f y fs).2 g (wi g λz=>hg ?_)
   grind
theorem Inv.made(I:Inv X U σ H s):Inv X U σ (aX (aX H s.heap.objs.size (.own (s.heap.objs.size+1))) (s.heap.objs.size+1) (.ins C s.heap.objs.size []))
  {s with heap:=(s.heap.push W.emptyDict).push (W.instObj C s.heap.objs.size)}:=by
 have e1:(s.heap.push W.emptyDict).get? s.heap.objs.size=some W.emptyDict:=Heap.get?_push_size s.heap rfl;have e2:((s.heap.push W.emptyDict).push (W.instObj C s.heap.objs.size)).get? (s.heap.objs.size+1)=some (W.instObj C s.heap.objs.size):=by
  have:=Heap.get?_push_size (s.heap.push W.emptyDict) (o:=W.instObj C s.heap.objs.size) rfl
  rwa [Heap.size_push]at this
 have e3:(s.heap.push W.emptyDict).Ns s.heap.objs.size (λ_=>none):=⟨W.emptyDict,#[],_,e1,rfl,(λe he=>absurd he 'e'),λ_=>rfl⟩;have I1:=I.laid (a:=s.heap.objs.size) (o:=.own (s.heap.objs.size+1)) (h':=s.heap.push W.emptyDict) (t':=s.toks) (λb u q=>Heap.get?_push_of_some _ q) (Ç _) ⟨_,e1⟩;refine I1.laid (a:=s.heap.objs.size+1) (o:=.ins C s.heap.objs.size []) (t':=s.toks) (λb u q=>Heap.get?_push_of_some _ q) (ø (Heap.size_push _ _)) ?_;have ne:s.heap.objs.size≠s.heap.objs.size+1:=Ì (ë _);refine⟨by rw[aH ne,aM],é _,ne,e2,λ_=>none,(Heap.Ns1.of_empty e3).at λo q=>Heap.get?_push_of_some _ q,λ_=>True.intro,λy hy=>absurd rfl hy⟩
theorem Y7(hb:attributeBase e f env (eval e env)=eval e env)(h:wpAny (model prog w) A (eval e env) (λo s₁=>wpAny (model prog w) A (getAttr o f true) Q E s₁) E s):wpAny (model prog w) A (eval (.Attribute e f pos) env) Q E s:=
 Attribute_any_ h (by rw[arm_eval_Attribute,hb])
end
def aMC(K:ZC)(ta:TE)(f:Str):TE:=λσ H Q=>ta σ H λx H1=>∃a C dx fs v,x=.ref a/\H1 a=some (.ins C dx fs)/\RF K C/\lJ K C f/\fs.lookup f=some v/\Q v H1
def aMD(K:ZC)(ta tv:TE)(f:Str):TS:=λD σ H=>tv σ H λy H1=>ta σ H1 λx H2=>∃a C dx fs,x=.ref a/\H2 a=some (.ins C dx fs)/\RF K C/\lJ K C f/\fs.length<1000 /\
 D.nx σ (aX H2 a (.ins C dx (kF f y fs)))
section
theorem CJ(he:PE X e ta)(hb:attributeBase e f X.env (eval e X.env)=eval e X.env):PE X (.Attribute e f pos) (aMC X.K ta f):=by
 intro U s σ H Q I h;refine Y7 hb (cN (he U s σ H _ I h) λu s1 zQ=>?_);let⟨x,H1,I1,rx,a,C,dx,fs,v,ex,ea,c,n,l,q⟩:=zQ;subst ex;obtain rfl:u=Value.ref a:=rx;exact JX I1 ea c n l λu' s2 I2 ru=>⟨v,H1,I2,ru,q⟩
theorem aFD(ha:PE X o ta)(hv:PE X value tv)(hs:swapsWith value (some (.Attribute o f pos')) pos.line X.env=pure false):PS X (.Assign [.Attribute o f pos'] value pos) (aMD X.K ta tv f):=by
 intro U s σ H D I h;refine plainObj_wpAny_Assign_Attribute (cN (hv U s σ H _ I h) λu s1⟨y,H1,I1,ry,q⟩=>cN (ha U s1 σ H1 _ I1 q) λov s2 zQ=>?_) hs;let⟨x,H2,I2,rx,a,C,dx,fs,ex,ea,c,n,l,q2⟩:=zQ;subst ex;obtain rfl:ov=Value.ref a:=rx;exact JZ I2 ea c n l ry λs3 I3=>⟨σ,_,I3,q2⟩
end
section
end
structure fB(k:Nat)(A:Around):Prop where
 hd:A.handled=none
 dp:A.depth+3*k+5<recursionLimit
 un:A.units+16*k+200<cLine
theorem fB.mono(r:fB k A)(h:j<=k):fB j A:=⟨r.hd,by have:=r.dp;lia,by have:=r.un;lia⟩
theorem fB.deeper(r:fB (k+1) A)(env:Env):fB k (A.deeper env):=
 ⟨r.hd,by have:=r.dp;show A.depth+1+3*k+5<_;lia,by have:=r.un;show A.units+3+16*k+200<_;lia⟩
theorem J1{A:Around}:(A.under (.builtin "type.__call__" ⟨.ref C::us,kw⟩)).depth=A.depth+1:=by
 first|rfl|simp[Around.under,Code.weight,Code.isCreation,Code.isGuard,Code.isCaller,Code.frames,Code.isFrame,guardIds]
theorem J2{A:Around}:(A.under (.builtin "type.__call__" ⟨.ref C::us,kw⟩)).units=A.units+1:=by
 first|rfl|simp[Around.under,Code.cUnits,Code.frames,Code.isFrame]
theorem fB.make(r:fB (k+1) A)(C:Addr)(us:ZJ)(kw:List (Str×Value)):fB k (A.under (.builtin "type.__call__" ⟨.ref C::us,kw⟩)):=
 ⟨r.hd,by have:=r.dp;rw[J1];lia,by have:=r.un;rw[J2];lia⟩
theorem fB.depth(r:fB k A):A.depth<recursionLimit:=by have:=r.dp;lia
theorem fB.units(r:fB k A):A.units+64<cLine:=by have:=r.un;lia
def ŕ:TA:=λ_ H Q=>Q [] H
def SB(ta:TE)(tr:TA):TA:=λσ H Q=>ta σ H λx H1=>tr σ H1 λxs H2=>Q (x::xs) H2
section
theorem m4:PA X [] ŕ:=λ_ _ _ _ H Q I h=>Calls.spliced_nil ⟨[],H,I,.nil,h⟩
theorem gY(ha:PE X e te)(hr:PA X es t)(hs:↥(Zse e es X.env)):PA X (e::es) (SB te t):=by
 intro pos U s σ H Q I h;rw[hs];show wpAny _ _ (spliced ((false,eval e X.env)::backTo pos (starEach es X.env))) _ _ s;refine Calls.spliced_cons (cN (ha U s σ H _ I h) λu s1 zQ=>?_);let⟨x,H1,I1,r1,q1⟩:=zQ;exact cN (hr pos U s1 σ H1 _ I1 q1) λus s2 zQ=>by let⟨xs,H2,I2,r2,q2⟩:=zQ;exact ⟨x::xs,H2,I2,.cons r1 r2,q2⟩
def aME(t:TA):TE:=λσ H Q=>t σ H λxs H1=>xs.length<=sizeLine/\∀p,H1 p=none->Q (.ref p) (aX H1 p (.tup xs))
def aMF(t:TA):TE:=λσ H Q=>t σ H λxs H1=>xs.length<=sizeLine/\∀p,H1 p=none->Q (.ref p) (aX H1 p (.lst xs))
theorem aFF(h:PA X es t):PE X (.Tuple es x1 pos) (aME t):=by
 intro U s σ H Q I hq;refine wpAny_Tuple_spliced (cN (h pos U s σ H _ I hq) λus s1⟨xs,H1,I1,r,z,q⟩=>⟨by rw[<- r.length];exact z,?_⟩);have hf:H1 s1.heap.objs.size=none:=I1.hok.fresh (Ç _);refine⟨.ref s1.heap.objs.size,aX H1 s1.heap.objs.size (.tup xs),I1.laid (t':=s1.toks) (λb u e=>Heap.get?_push_of_some _ e) (Ç _) ?_,rfl,q _ hf⟩;exact⟨z,us,r,⟨_,Heap.get?_push_size _ rfl,rfl,_,rfl⟩⟩
theorem aFG(h:PA X es t):PE X (.List es pos) (aMF t):=by
 intro U s σ H Q I hq;refine wpAny_List_spliced (cN (h pos U s σ H _ I hq) λus s1⟨xs,H1,I1,r,z,q⟩=>⟨by rw[<- r.length];exact z,?_⟩);have hf:H1 s1.heap.objs.size=none:=I1.hok.fresh (Ç _);refine⟨.ref s1.heap.objs.size,aX H1 s1.heap.objs.size (.lst xs),I1.laid (t':=s1.toks) (λb u e=>Heap.get?_push_of_some _ e) (Ç _) ?_,rfl,q _ hf⟩;exact⟨z,us,0,r,Heap.get?_push_size _ rfl⟩
end
abbrev Sp:=List V->Hp->VK->XK->Prop
abbrev SC:=List Env->Hp->Shared->XK->ZA
structure J3(P:Program)(w:World)(K:ZC)(mg:ZD)(base:Heap)(A:Around)(outer:List Env)(s:Shared)(H:Hp):Prop where
 frames:A.frames=some outer
 mod:Mod K mg base
 bs:∀b o,base.get? b=some o->s.heap.get? b=some o/\H b=none
 bsz:base.objs.size<=s.heap.objs.size
 funs:s.heap.FunFrames base outer
 frf:∀b∈vS outer,H b=none
 hok:mR P w H s.heap
 bare:AllBare s.gens
def CE(outer:List Env)(P:Program)(w:World)(H:Hp)(s:Shared)(Q:VK)(u:Value)(s':Shared):Prop:=
 ∃v H',s'.os=s.os/\AllBare s'.gens/\Un (vS outer) [] H H' s.heap s'.heap/\mR P w H' s'.heap/\bJ v u/\Q v H'
def CR(CX:SC)(outer:List Env)(P:Program)(w:World)(H:Hp)(s:Shared)(Q:VK)(E:XK)(r:Result)(s':Shared):Prop:=
 match r with
 |.ok (.ret u)=>CE outer P w H s Q u s'
 |.ok _=>False
 |.error e=>CX outer H s E e s'
structure rO(P:Program)(w:World)(K:ZC)(mg:ZD)(base:Heap)(CX:SC)(k:Nat)(f:Addr)(fd:FuncData)(ps:ZG)(sp:Sp):Prop where
 len:∀vs H Q E,sp vs H Q E->vs.length=ps.length
 run:∀(A:Around)(outer:List Env)(s:Shared)(H:Hp)(args:Args)(us:ZJ)(vs:List V)(Q:VK)(E:XK),fB k A->J3 P w K mg base A outer s H->BindsTo s fd args (ps.zip us)->bK vs us->sp vs H Q E ->
  codeAny (model P w) A (.call (.ref f) args) (CR CX outer P w H s Q E) s
theorem J3.make{K:ZC}(e:J3 P w K mg base A outer s H)(C:Addr)(us:ZJ)(kw:List (Str×Value)):
  J3 P w K mg base (A.under (.builtin "type.__call__" ⟨.ref C::us,kw⟩)) outer s H:=⟨by first|exact e.frames|(simpa[Around.under,Code.envs,Code.isFrame,pushEnvs]using e.frames),e.mod,e.bs,e.bsz,e.funs,e.frf,e.hok,e.bare⟩
section
variable {X:Cx}{U:ZB}{σ:St}{H:Hp}{s s':Shared}
theorem Inv.env0(I:Inv X U σ H s):J3 X.prog X.w X.K X.mg X.base X.A X.stack s H:=
 ⟨I.ok.frames,I.ok.mod,I.bs,Ø I.ok.bsz I.sz,I.stack,I.stkFree,I.hok,I.bare⟩
theorem Inv.after(I:Inv X U σ H s)(h:CE X.stack X.prog X.w H s Q u s'):EP X U σ Q u s':=by
 let⟨v,H',os,bare,un,hok,r,q⟩:=h;let⟨hh,g,d,t,os'⟩:=s';obtain rfl:os'=s.os:=os;exact⟨v,H',I.call (h':=hh) (g':=g) (d':=d) (t':=t) (ch:=[]) un hok bare (λb z=>absurd z 'e'),r,q⟩
end
def pH(K:ZC)(fd:FuncData)(ps:ZG)(ds:ZJ):Prop:=
 ∀(s:Shared)(us:ZJ),K.In s.heap->(us++ds).length=ps.length->BindsTo s fd ⟨us,[]⟩ (ps.zip (us++ds))
theorem pH.all{K:ZC}(h:∀us:ZJ,us.length=ps.length->bindArgs fd ⟨us,[]⟩=pure (ps.zip us)):pH K fd ps []:=λs us _ hl=>by
 rw[â]at hl⊢;exact .of_eq (h us hl)
section
structure Mk(K:ZC)(C f:Addr):Prop where
 makes:W.makesIn K C=true
 init:W.findIn K (.ref C) "__init__"=some (some (.ref f))
 fn:W.isFn K (.ref f)=true
 kp:W.keepIn K (.ref C)=true
end
section
end
structure jM(N P:ZG)(sc:Scope):Prop where
 kind:sc.kind=.function
 co:sc.isCoroutine=false
 gen:sc.isGenerator=false
 nd:N.Nodup
 pre:N.take P.length=P
 par:∀x∈P,sc.names.lookup x=some .local\/sc.names.lookup x=some .cell
 nofree:∀y∈sc.names,y.2≠.free
theorem A5{kindOf:Str->Option NameKind}:∀{binds:List (Str×Value)}{m:ZD},(∀v,(x,v)∉binds)->bindL kindOf binds m x=m x
 |[],_,_=>rfl
 |(n,v)::r,m,h=>by
  unfold bindL;rw[A5 λw hw=>h w (Ï _ hw)];split
  all_goals grind
theorem A6{kindOf:Str->Option NameKind}:∀{binds:List (Str×Value)}{m:ZD},(∀v,(x,v)∉binds)->bindC kindOf binds m x=m x
 |[],_,_=>rfl
 |(n,v)::r,m,h=>by
  unfold bindC;rw[A6 λw hw=>h w (Ï _ hw)];split
  all_goals grind
theorem A7{kindOf:Str->Option NameKind}{x:Str}{v:Value}:∀{P:ZG}{vs:ZJ}{i:Nat}{m:ZD},P.Nodup->P[i]?=some x->vs[i]?=some v->kindOf x=some .local ->
  bindL kindOf (P.zip vs) m x=some v
 |[],_,_,_,_,h,_,_=>by simp at h
 |_::_,[],_,_,_,_,h,_=>by simp at h
 |p::P,w::vs,0,m,nd,h1,h2,hk=>by
  simp at h1 h2;subst h1;subst h2;show bindL kindOf ((p,w)::P.zip vs) m p=_;unfold bindL;rw[A5 λv hv=>(List.nodup_cons.mp nd).1 (List.of_mem_zip hv).1,Á hk];simp
 |p::P,w::vs,i+1,m,nd,h1,h2,hk=>by
  show bindL kindOf ((p,w)::P.zip vs) m x=_;unfold bindL;exact A7 (i:=i) (List.nodup_cons.mp nd).2 (by simpa using h1) (by simpa using h2) hk
theorem A8{kindOf:Str->Option NameKind}{x:Str}{v:Value}:∀{P:ZG}{vs:ZJ}{i:Nat}{m:ZD},P.Nodup->P[i]?=some x->vs[i]?=some v->kindOf x≠some .local ->
  bindC kindOf (P.zip vs) m x=some v
 |[],_,_,_,_,h,_,_=>by simp at h
 |_::_,[],_,_,_,_,h,_=>by simp at h
 |p::P,w::vs,0,m,nd,h1,h2,hk=>by
  simp at h1 h2;subst h1;subst h2;show bindC kindOf ((p,w)::P.zip vs) m p=_;unfold bindC;rw[A6 λv hv=>(List.nodup_cons.mp nd).1 (List.of_mem_zip hv).1,Â hk];simp
 |p::P,w::vs,i+1,m,nd,h1,h2,hk=>by
  show bindC kindOf ((p,w)::P.zip vs) m x=_;unfold bindC;exact A8 (i:=i) (List.nodup_cons.mp nd).2 (by simpa using h1) (by simpa using h2) hk
def start(N:ZG)(vs:List V):St:=vs.map some++List.replicate (N.length-vs.length) none
def qB(CX:SC)(P:Program)(w:World)(K:ZC)(mg:ZD)(base:Heap)(N:ZG)(qual:Str)(scope:Scope)(f:Addr)(cd:Value)(A:Around)(outer:List Env)(s:Shared)(H:Hp)(E:XK):Cx where
 prog:=P
 w:=w
 K:=K
 mg:=mg
 base:=base
 A:=A.deeper (envOfC qual scope s.heap.objs.size f cd)
 N:=N
 s₀:=s
 H₀:=H
 env:=envOfC qual scope s.heap.objs.size f cd
 outer:=outer
 stack:=envOfC qual scope s.heap.objs.size f cd::outer
 ex:=[]
 calm:=true
 fn:=λ_=>true
 pn:=[]
 xe:=λe s'=>wpAny (model P w) (A.deeper (envOfC qual scope s.heap.objs.size f cd)) (leaving (envOfC qual scope s.heap.objs.size f cd) e) (λ_ s''=>CX outer H s E e s'') (λe' s''=>CX outer H s E e' s'') s'
theorem FN{sc:Scope}(h:sc.names.lookup x=some .cell):∃c,(cellsFrom n sc.names []).lookup x=some c:=by
 have q:=W.cellsFrom_some sc.names n [] (.inl h);exact Option.isSome_iff_exists.mp q
theorem O4{K:ZC}{outer:List Env}{s s1:Shared}{H:Hp}{E:XK}{us:ZJ}{vs:List V}(S:jM N ps scope)(hd:A.handled=none)(e0:J3 P w K mg base A outer s H)(hl:vs.length=ps.length)(r:bK vs us)(x:InCallC s s.heap.objs.size (bindL (envOfC qual scope s.heap.objs.size f cd).kindOf (ps.zip us) λ_=>none) (cellsFrom (s.heap.objs.size+1) scope.names []) (bindC (envOfC qual scope s.heap.objs.size f cd).kindOf (ps.zip us) λ_=>none) s1):
  Inv (qB CX P w K mg base N qual scope f cd A outer s H E) [] (start N vs) H s1:=by
 have hpl:ps.length<=N.length:=by have:=congrArg List.length S.pre;rw[ï]at this;lia
 let⟨h1,tk,rfl,hk⟩:=x.done;have noA:∀b:Addr,b∉(qB CX P w K mg base N qual scope f cd A outer s H E).ex:=λb z=>absurd (show b∈([]:ZM)from z) 'e';refine⟨⟨e0.mod,S.kind,rfl,rfl,Ç _,λy z c h1 h2=>?_,λy hy=>?_,λy c _ h=>?_,λ_=>hd,Around.frames_deeper e0.frames,.inr ⟨rfl,rfl⟩,λb z=>absurd z (noA b),e0.bs,e0.bsz,λb _ _=>noA b,λb z=>absurd z (noA b),e0.funs,e0.frf⟩,
  rfl,e0.bare,Un.kept hk,⟨_,x.toInCall.ns,λi y v h1 h2 h3=>?_⟩,λy c h=>⟨_,x.cell y c h⟩,e0.hok.fresh (Ç _),λy c h=>?_,λp hp=>absurd (show p∈([]:ZB)from hp) 'e',e0.hok.kept hk,?_⟩
 .exact name_of_addr x.apart (ü h1) (ü h2)
 .have hy:scope.names.lookup y=some .cell\/scope.names.lookup y=some .free:=hy
  rcases hy with hy|hy
  .exact FN hy
  .exact absurd rfl (S.nofree _ (ü hy))
 .exact È (x.above y c (ü h))
 .have hi:i<vs.length:=by
   unfold start at h2;by_cases hi:i<vs.length
   .exact hi
   .rw[Þ (by simpa using hi)]at h2
    rw[ă]at h2;split at h2<;>cases h2
  have ha:vs[i]?=some v:=by
   unfold start at h2;rw[î (by simpa using hi),Ñ]at h2;cases e:vs[i]? with
   |none=>rw[e]at h2;cases h2
   |some a=>rw[e]at h2;cases h2;rfl
  let⟨u,hu,rv⟩:=r.get ha;have hp:ps[i]?=some y:=by
   rw[<- S.pre,List.getElem?_take_of_lt (by exact ô ‹_› ‹_›)];exact h1
  have ndP:ps.Nodup:=by rw[<- S.pre];exact S.nd.sublist (List.take_sublist _ _)
  refine⟨u,rv,?_⟩;rcases S.par y (þ hp)with k|k
  .exact .inl ⟨k,A7 ndP hp hu k⟩
  .obtain⟨c,e⟩:=FN (n:=s.heap.objs.size+1) k
   refine .inr ⟨.inl k,c,e,?_⟩;have q:=x.cell y c e;rw[A8 ndP hp hu (by show scope.names.lookup y≠_;rw[k];decide)]at q
   exact q
 .exact e0.hok.fresh (È (x.above y c (ü h)))
 .unfold start
  show _=N.length;rw[Ë,Ä,ñ];lia
theorem aI4{K:ZC}{dV kV doc pm cdv ct oc:Value}{an od:Option Addr}{osl:Array (ZN)}{N ps:ZG}{sp:Sp}(lk:K.lookup f=some ⟨oc,od,.func (W.fnOf name qual params body scope dV kV doc pm an cdv ct),osl⟩)(hcd:W.codeIn K cdv qual=true)(S:jM N ps scope)(len:∀vs H Q E,sp vs H Q E->vs.length=ps.length)(hbody:∀(A:Around)(outer:List Env)(s:Shared)(H:Hp)(vs:List V)(Q:VK)(E:XK),fB k (A.deeper (envOfC qual scope s.heap.objs.size f cdv))->sp vs H Q E ->
   ∃t,E8 (qB CX P w K mg base N qual scope f cdv A outer s H E) body t/\t {nx:=λ_ H'=>Q .non H',rt:=Q} (start N vs) H):
  rO P w K mg base CX (k+1) f (W.fnOf name qual params body scope dV kV doc pm an cdv ct) ps sp:=by
 refine⟨len,λA outer s H args us vs Q E hr e0 hb r hsp=>?_⟩;have hl:=len _ _ _ _ hsp;have KX:K.In s.heap:=e0.mod.kin.keeps λb o e=>(e0.bs b o e).1;have lim:s.heap.NoLimit:=e0.mod.nolimit.keeps λb o e=>(e0.bs b o e).1;have hkind:∀y∈ps.zip us,scope.names.lookup y.1=some .local\/(scope.names.lookup y.1=some .cell/\((cellsFrom (s.heap.objs.size+1) scope.names []).lookup y.1).isSome=true):=λ⟨n,v⟩hy=>by
  rcases S.par n (List.of_mem_zip hy).1 with q|q
  .exact .inl q
  .exact .inr ⟨q,W.cellsFrom_some _ _ _ (.inl q)⟩
 refine codeAny_call_function hr.depth (KX _ _ lk) rfl S.co S.gen rfl (W.codeRec_of KX hcd) (hb _ _ _ _ ?_);refine wpAny_newFunctionEnv_cells S.kind hkind λenv he s1 x=>?_;subst he;refine⟨lim.keeps x.toInCall.keep,codeAny_func ?_⟩;let⟨t,ht,hq⟩:=hbody A outer s H vs Q E (hr.deeper _) hsp;have I:Inv (qB CX P w K mg base N qual scope f cdv A outer s H E) [] (start N vs) H s1:=O4 S hr.hd e0 hl r x;refine wpAny_mono (ht [] s1 (start N vs) H _ I hq) (λfl s' hs=>?_) λe s' hs=>hs;have fin:∀{σ':St}{H':Hp}{v:V}{u:Value},Inv (qB CX P w K mg base N qual scope f cdv A outer s H E) [] σ' H' s'->bJ v u->Q v H'->CE outer P w H s Q u s':=
  λ{σ' H' v u}J rv q=>⟨v,H',J.os,J.bare,J.base,J.hok,rv,q⟩
 cases fl with
 |ret u=>
  let⟨v,σ',H',J,rv,q⟩:=hs;exact fin J rv q
 |next=>
  let⟨σ',H',J,q⟩:=hs;exact fin (v:=V.non) (u:=Value.none) J rfl q
 |brk=>
  let⟨_,_,_,q⟩:=hs;exact False.elim q
 |cont=>
  let⟨_,_,_,q⟩:=hs;exact False.elim q
section
variable {X:Cx}{x:Str}{p pos:Pos}{e:Expr}{es:List Expr}{t:TA}{id T:String}{r:List V->Hp->VK->Prop}
def Ŗ(r:List V->Hp->VK->Prop)(t:TA):TE:=λσ H Q=>t σ H λvs H1=>r vs H1 Q
theorem wK(hc:iM X (.builtin id) r)(hg:Gl X x)(hm:X.mg x=none)(hv:bootBuiltins x=some (.builtin id))(ha:PA X (e::es) t)(hn:⇑(x≠"__name__"))(hdb:⇑(Zdb x))(he:↥(Zse e es X.env))(hpl:↥(Zbt pos es X.env)):PE X (.Call 'i' (e::es) [] pos) (Ŗ r t):=by
 intro U s σ H Q I h;refine wpAny_Call_Name_kw (iE I hg hm hv ?_ hn hdb);exact PyProof.Rows.callWith_builtin1 (cN (ha pos U s σ H _ I h) λus s1 zQ=>by let⟨vs,H1,I1,r1,q1⟩:=zQ;exact hc U s1 σ H1 vs us Q I1 r1 q1) he hpl
theorem tY(hc:iM X (.type T) r)(hg:Gl X x)(hm:X.mg x=none)(hv:bootBuiltins x=some (.type T))(ha:PA X (e::es) t)(hn:⇑(x≠"__name__"))(hdb:⇑(Zdb x))(he:↥(Zse e es X.env))(hpl:↥(Zbt pos es X.env)):PE X (.Call 'i' (e::es) [] pos) (Ŗ r t):=by
 intro U s σ H Q I h;refine wpAny_Call_Name_kw (iE I hg hm hv ?_ hn hdb);exact PyProof.Rows.callWith_type1 (cN (ha pos U s σ H _ I h) λus s1 zQ=>by let⟨vs,H1,I1,r1,q1⟩:=zQ;exact hc U s1 σ H1 vs us Q I1 r1 q1) he hpl
end
end L2
namespace HT
open PySem PyProof.Rows
section
open PySem.SeqAt
open PySem.AutoSeq1 (wpAny_loadPart')
open PySem.MeetsSeq PySem.MeetsSeq2 PySem.MeetsSeq3
end
section
variable {prog:Program}{w:World}{A:Around}{E:ZA}{s:Shared}
theorem cat_tup{t b:Addr}{vs ws:ZJ}{Q:ZA}(ht:IsTup s.heap t vs.toArray)(hb:IsTup s.heap b ws.toArray)(hv:vs≠[])(h1:ws=[]->Q (.ref t) s)(h2:ws≠[]->Q (.ref s.heap.objs.size) {s with heap:=s.heap.push {cls:=.type "tuple",data:=.seq (vs++ws).toArray}})(hsz:vs.length+ws.length<=sizeLine):wpAny (model prog w) A (binaryOp .Add (.ref t) (.ref b)) Q E s:=by
 let⟨⟨cls,dd,data,sl⟩,ho,hc,n,hd⟩:=id ht;let⟨⟨cls2,dd2,data2,sl2⟩,ho2,hc2,n2,hd2⟩:=id hb;simp only at hc hd hc2 hd2;subst hc hd hc2 hd2;have e:vs.toArray++ws.toArray=(vs++ws).toArray:=by simp
 by_cases hw:ws=[]
 .exact concat_meets ⟨_,ho,rfl⟩ ⟨_,ho2,rfl⟩ noFill_tuple_add seq_tuple_add PySem.F.slot_tuple_add PySem.F.entry_tuple_add (PySem.F.args_tuple_add_2 _ _)
   (tuple_addW1 t b vs.toArray ws.toArray n n2 dd dd2 sl sl2 (by simpa using hv) (by simp[hw])) ⟨ho,ho2,h1 hw⟩
 .refine concat_meets ⟨_,ho,rfl⟩ ⟨_,ho2,rfl⟩ noFill_tuple_add seq_tuple_add PySem.F.slot_tuple_add PySem.F.entry_tuple_add (PySem.F.args_tuple_add_2 _ _)
   (tuple_addW2 t b vs.toArray ws.toArray n n2 dd dd2 sl sl2 (by simpa using hv) (by simpa using hw) 'k') ⟨ho,ho2,?_⟩
  rw[e];exact h2 hw
def sIx(n d:Nat):Option Int->Nat
 |none=>d
 |some v=>if v<0 then (v+(n:Int)).toNat else min v.toNat n
theorem sIx_none(n d:Nat):sIx n d none=d:=rfl
theorem sIx_nat(n d k:Nat):sIx n d (some (k:Int))=min k n:=by
 show (if (k:Int)<0 then ((k:Int)+(n:Int)).toNat else min (k:Int).toNat n)=min k n;rw[Â ∅,û]
theorem aFH(n d:Nat)(hd:d<=n)(o:Option Int):sIx n d o<=n:=by
 cases o with
 |none=>exact hd
 |some v=>
  show (if v<0 then (v+(n:Int)).toNat else min v.toNat n)<=n;by_cases hv:v<0
  .rw[Á hv];lia
  .rw[Â hv];exact Nat.min_le_right _ _
theorem LX(v:Int)(n d:Nat):(if v<0 then max (v+(n:Int)) 0 else min v (n:Int))=((sIx n d (some v):Nat):Int):=by
 show (if v<0 then max (v+(n:Int)) 0 else min v (n:Int))=(((if v<0 then (v+(n:Int)).toNat else min v.toNat n):Nat):Int)
 grind
theorem J4(lo hi:Option Int)(n:Nat):Builtin.Slice.sliceAdjust lo hi 1 (n:Int)=(((sIx n 0 lo:Nat):Int),((sIx n n hi:Nat):Int)):=by
 have h1:¬((1:Int)<0):=by decide
 unfold Builtin.Slice.sliceAdjust;simp![h1,if_false];refine Prod.ext ?_ ?_
 .cases lo with
  |none=>rfl
  |some v=>exact LX v n 0
 .cases hi with
  |none=>rfl
  |some v=>exact LX v n n
theorem J5(i j:Nat):Builtin.Slice.slicePlaces (i:Int) (j:Int) 1=j-i:=by
 unfold Builtin.Slice.slicePlaces;have h1:(1:Int)>0:=by decide
 simp![h1,if_true,Int.ediv_one];split<;>lia
theorem wL{v:Value}{o:Option Int}{Q:Option Int->Shared->Prop}(p:IsPart v o)(h:Q o s):wpAny (model prog w) A (Builtin.Slice.slicePartIndex v) Q E s:=by
 cases p with
 |none=>exact slicePart_none h
 |int i t=>exact slicePart_int h
theorem tZ{sl:Addr}{vl vu:Value}{lo hi:Option Int}{n:Nat}{Q:Int×Int×Nat->Shared->Prop}(hs:s.heap.IsSliceOf sl vl vu .none)(pl:IsPart vl lo)(pu:IsPart vu hi)(h:Q (((sIx n 0 lo:Nat):Int),1,sIx n n hi-sIx n 0 lo) s):wpAny (model prog w) A (Builtin.Slice.sliceApplied (.ref sl) (pure (n:Int))) Q E s:=by
 let⟨os,hos,hcs,hds⟩:=id hs;unfold Builtin.Slice.sliceApplied Builtin.Slice.sliceFields;refine wpAny_bind (wpAny_bind (wpAny_field hos hds (x:=vl) rfl (wpAny_bind (wpAny_field hos hds (x:=vu) rfl (wpAny_bind (wpAny_field hos hds (x:=.none) rfl (wpAny_pure ?_)))))));refine wpAny_bind (slicePart_none ?_);show wpAny _ _ (if ((1:Int) == 0)=true then _ else _) _ _ s;rw[Â ⋯];refine wpAny_bind (wL pl (wpAny_bind (wL pu (wpAny_bind (wpAny_pure ?_)))));show wpAny _ _ (match Builtin.Slice.sliceAdjust lo hi 1 (n:Int)with|(lo,hi)=>pure (lo,(1:Int),Builtin.Slice.slicePlaces lo hi 1)) _ _ s;rw[J4 lo hi n];show wpAny _ _ (pure (((sIx n 0 lo:Nat):Int),(1:Int),Builtin.Slice.slicePlaces ((sIx n 0 lo:Nat):Int) ((sIx n n hi:Nat):Int) 1)) _ _ s;rw[J5];exact wpAny_pure h
theorem SD(xs:Array Value)(i k:Nat):((List.range k).filterMap λ(m:Nat)=>xs[((i:Int)+(m:Int)*1).toNat]?).toArray=((xs.toList.drop i).take k).toArray:=by
 have e:(λ(m:Nat)=>xs[((i:Int)+(m:Int)*1).toNat]?)=λm=>xs[i+m]?:=by
  funext m;have:((i:Int)+(m:Int)*1).toNat=i+m:=by lia
  rw[this]
 rw[e];have:=pick_run xs i k;rw[List.filterMap_map]at this;have e2:((λx=>xs[x]?)∘λx=>i+x)=λm=>xs[i+m]?:=rfl;rw[e2]at this;rw[this]
theorem getItem_tuple_cut{t sl:Addr}{items:Array Value}{vl vu:Value}{lo hi:Option Int}{Q:ZA}(ht:IsTup s.heap t items)(hs:s.heap.IsSliceOf sl vl vu .none)(pl:IsPart vl lo)(pu:IsPart vu hi)(hw:¬(sIx items.size 0 lo=0/\sIx items.size items.size hi=items.size))(h:Q (.ref s.heap.objs.size) {s with heap:=s.heap.push {cls:=.type "tuple",data:=.seq ((items.toList.drop (sIx items.size 0 lo)).take (sIx items.size items.size hi-sIx items.size 0 lo)).toArray}})(hsz:items.size<=sizeLine):wpAny (model prog w) A (getItem (.ref t) (.ref sl)) Q E s:=by
 have htake:sizeOk (.seq ((items.toList.drop (sIx items.size 0 lo)).take (sIx items.size items.size hi-sIx items.size 0 lo)).toArray):=by
  show ((items.toList.drop (sIx items.size 0 lo)).take (sIx items.size items.size hi-sIx items.size 0 lo)).toArray.size<=sizeLine;rw[í,ï,ā,Array.length_toList];lia
 have hj:sIx items.size items.size hi<=items.size:=aFH _ _ (Ç _) hi;let⟨os,hos,hcs,hds⟩:=id hs;have hTs:s.TypeIs (.ref sl) "slice":=⟨os,hos,hcs⟩;unfold getItem
 try with_reducible refine wpAny_holding ?_
 first|refine wpAny_bind (wpAny_pure ?_)|skip
 refine wpAny_bind (wpAny_sequenceKey ht.typeIs ⋯ ?_);refine wpAny_bind (wpAny_callSpecial?_slot (name:=Str.ofString "__getitem__") ht.typeIs PyProof.Rows.slot_tuple_getitem
  (wpAny_call_entry PyProof.Rows.slot_tuple_getitem ht.typeIs entry_tuple_getitem ?_ (args_tuple_getitem _ _)))
 show wpAny _ _ (Builtin.Tuple.tupleItemsOf (.ref t) >>= _) _ _ s;refine wpAny_bind (tupleItemsOf_ ht ?_);refine wpAny_bind (wpAny_typeOf hTs ?_);rw[Á ⋯];refine wpAny_bind (tZ hs pl pu ?_);have hno:¬((((sIx items.size 0 lo:Nat):Int) == 0 && (1:Int) == 1 && (sIx items.size items.size hi-sIx items.size 0 lo) == items.size)=true):=by
  intro q;rw[ä,ä]at q;have q1:((sIx items.size 0 lo:Nat):Int)=0:=eq_of_beq q.1.1;have q2:sIx items.size items.size hi-sIx items.size 0 lo=items.size:=eq_of_beq q.2;exact hw ⟨∅,∅⟩
 show wpAny _ _ (if (((sIx items.size 0 lo:Nat):Int) == 0 && (1:Int) == 1 && (sIx items.size items.size hi-sIx items.size 0 lo) == items.size)=true then _ else _) _ _ s;rw[Â hno,SD]
 first
  |exact wpAny_bind (m:=Builtin.Tuple.tupleExact _) (wpAny_newObj_type (wpAny_pure ⟨_,rfl,wpAny_pure h⟩) htake)
  |exact wpAny_bind (m:=Builtin.Tuple.tupleExact _) (wpAny_newObj_type (wpAny_bind (wpAny_pure (wpAny_pure ⟨_,rfl,wpAny_pure h⟩))) htake)
  |exact wpAny_bind (wpAny_bind (m:=Builtin.Tuple.tupleExact _) (wpAny_newObj_type (wpAny_pure (wpAny_pure ⟨_,rfl,wpAny_pure h⟩)) htake))
  |exact wpAny_bind (wpAny_bind (m:=Builtin.Tuple.tupleExact _) (wpAny_newObj_type (wpAny_pure ⟨_,rfl,wpAny_pure h⟩) htake))
end
end HT
namespace L2
open PySem PySem.Spec PyProof.Rows
abbrev TO:=St->Hp->(Option Int->Hp->Prop)->Prop
def PO(X:Cx)(e:Option Expr)(t:TO):Prop:=
 ∀(U:ZB)(s:Shared)(σ:St)(H:Hp)(Q:Option Int->Hp->Prop),Inv X U σ H s->t σ H Q ->
  wpAny 'b' X.A (evalPart e X.env) (λu s'=>∃o H',Inv X U σ H' s'/\IsPart u o/\Q o H') X.xe s
def Y8:TO:=λ_ H Q=>Q none H
def aI5(t:TE):TO:=λσ H Q=>t σ H λx H1=>∃i,x=.int i/\Q (some i) H1
section
variable {X:Cx}{e:Expr}{te:TE}{lo hi:Option Expr}{tl th:TO}{pos p2:Pos}
theorem Y9:PO X none Y8:=by
 intro U s σ H Q I h;rw[evalPart_none];exact wpAny_pure ⟨none,H,I,.none,h⟩
theorem ZQ(h:PE X e te):PO X (some e) (aI5 te):=by
 intro U s σ H Q I hw;rw[evalPart_some];refine cN (h U s σ H _ I hw) λu s1 zQ=>?_;let⟨x,H1,I1,r1,q1⟩:=zQ;let⟨i,rfl,q⟩:=q1;let⟨t,rfl⟩:=r1;exact⟨some i,H1,I1,.int i t,q⟩
def ķ(X:Cx)(r:V->Option Int->Option Int->Hp->VK->Prop):Prop:=
 ∀(U:ZB)(s:Shared)(σ:St)(H:Hp)(x:V)(v vl vu:Value)(lo hi:Option Int)(sl:Addr)(Q:VK),Inv X U σ H s->bJ x v->s.heap.IsSliceOf sl vl vu .none->IsPart vl lo->IsPart vu hi->r x lo hi H Q ->
  ∃T id,typeLookup (.type T) "__getitem__"=pure (some (.builtin id))/\s.TypeIs v T/\wpAny 'b' X.A (getItem v (.ref sl)) (EP X U σ Q) X.xe s
def aOD(r:V->Option Int->Option Int->Hp->VK->Prop)(te:TE)(tl th:TO):TE:=λσ H Q=>te σ H λx H1=>tl σ H1 λl H2=>th σ H2 λu H3=>r x l u H3 Q
theorem FO(hr:ķ X r)(he:PE X e te)(hl:PO X lo tl)(hu:PO X hi th):PE X (.Subscript e (.Slice lo hi none p2) pos) (aOD r te tl th):=by
 intro U s σ H Q I h;refine Subscript_ (cN (he U s σ H _ I h) λv s1 zQ=>?_);let⟨x,H1,I1,r1,q1⟩:=zQ;refine wpAny_Slice (cN (hl U s1 σ H1 _ I1 q1) λvl s2⟨l,H2,I2,pl,q2⟩=>cN (hu U s2 σ H2 _ I2 q2) λvu s3 zQ=>?_);let⟨u,H3,I3,pu,q3⟩:=zQ;rw[evalPart_none];refine wpAny_pure ?_;have I4:Inv X U σ H3 {s3 with heap:=s3.heap.push {cls:=.type "slice",data:=.fields #[vl,vu,.none]}}:=I3.kept (t':=s3.toks) λb ob q=>Heap.get?_push_of_some _ q;let⟨T,id,hT,ht,hg⟩:=hr U {s3 with heap:=s3.heap.push {cls:=.type "slice",data:=.fields #[vl,vu,.none]}} σ H3 x v vl vu l u s3.heap.objs.size Q I4 r1 (Heap.IsSliceOf.new ..) pl pu q3;show wpAny 'b' X.A (subscriptTail e (.Slice lo hi none p2) v (.ref s3.heap.objs.size)) (EP X U σ Q) X.xe {s3 with heap:=s3.heap.push {cls:=.type "slice",data:=.fields #[vl,vu,.none]}};exact tail_any (ops:=[.ref s3.heap.objs.size,v]) ht hT hg (by with_unfolding_all rfl)
def CK(xs:List V)(lo hi:Option Int):List V:=(xs.drop (HT.sIx xs.length 0 lo)).take (HT.sIx xs.length xs.length hi-HT.sIx xs.length 0 lo)
theorem vB(xs:List V)(lo hi:Option Int):(CK xs lo hi).length<=xs.length:=by
 unfold CK;rw[ï,ā];lia
def Ż(K:ZC):V->Option Int->Option Int->Hp->VK->Prop:=λx lo hi H Q=>∃a xs,x=.ref a/\rK K H a xs /\
 ¬(HT.sIx xs.length 0 lo=0/\HT.sIx xs.length xs.length hi=xs.length)/\∀p,H p=none->Q (.ref p) (aX H p (.tup (CK xs lo hi)))
theorem SE:ķ X (Ż X.K):=by
 intro U s σ H x v vl vu lo hi sl Q I rx hs pl pu h;let⟨a,xs,rfl,hx,hw,q⟩:=h;cases rx;let⟨its,r,ht,hz⟩:=I.tuple hx;have hlen:its.toArray.size=xs.length:=by rw[í];exact r.length.symm
 refine⟨"tuple",_,PyProof.Rows.slot_tuple_getitem.lookup,ht.typeIs,?_⟩;refine HT.getItem_tuple_cut ht hs pl pu (by rw[hlen];exact hw) ?_ (by rw[hlen];exact hz);rw[hlen];refine⟨.ref s.heap.objs.size,_,I.laid (t':=s.toks) (o:=.tup (CK xs lo hi)) (λb ob q=>Heap.get?_push_of_some _ q) (Ç _) ?_,rfl,q _ (I.hok.fresh (Ç _))⟩;exact⟨Ø (vB xs lo hi) hz,_,(r.drop (HT.sIx xs.length 0 lo)).take (HT.sIx xs.length xs.length hi-HT.sIx xs.length 0 lo),IsTup.new _ _⟩
def ż(K:ZC):R2:=λx y H Q=>∃a b xs ys,x=.ref a/\y=.ref b/\rK K H a xs/\rK K H b ys/\xs≠[]/\xs.length+ys.length<=sizeLine /\
 (ys=[]->Q (.ref a) H)/\(ys≠[]->∀p,H p=none->Q (.ref p) (aX H p (.tup (xs++ys))))
theorem bK.nil_iff(r:bK xs us):us=[]↔xs=[]:=by
 cases r with
 |nil=>simp
 |cons _ _=>simp
theorem ZR:j3 X (binaryOp .Add) (ż X.K):=by
 intro U s σ H x y v u Q I rx ry h;let⟨a,b,xs,ys,rfl,rfl,ha,hb,hx,hz,q1,q2⟩:=h;cases rx;cases ry;let⟨its,r1,p1,_⟩:=I.tuple ha;let⟨its2,r2,p2,_⟩:=I.tuple hb;refine HT.cat_tup p1 p2 (λz=>hx (r1.nil_iff.mp z)) (λz=>⟨.ref a,H,I,rfl,q1 (r2.nil_iff.mp z)⟩) (λz=>?_) (by rw[<- r1.length,<- r2.length];exact hz);refine⟨.ref s.heap.objs.size,_,I.laid (t':=s.toks) (o:=.tup (xs++ys)) (λb ob q=>Heap.get?_push_of_some _ q) (Ç _) ?_,rfl,q2 (λw=>z (r2.nil_iff.mpr w)) _ (I.hok.fresh (Ç _))⟩;exact⟨by rw[Ë];exact hz,_,r1.append r2,IsTup.new _ _⟩
end
def mY(n:Nat)(i:Int):Option Nat:=if 0<=i then (if i<n then some i.toNat else none)else if -(n:Int)<=i then some (i+n).toNat else none
def atI{α:Type}(xs:List α)(i:Int):Option α:=(mY xs.length i).bind λj=>xs[j]?
theorem LY(h:mY n i=some j):seqIndex? i n=some j/\j<n/\-(n:Int)<=i/\i<n:=by
 unfold mY at h;by_cases h0:0<=i
 .rw[Á h0]at h
  by_cases h1:i<n
  .rw[Á h1]at h
   have e:i.toNat=j:=Option.some.inj h;exact⟨by rw[seqIndex_of h0 h1,e],∅,∅,h1⟩
  grind
 .rw[Â h0]at h
  by_cases h1:-(n:Int)<=i
  .rw[Á h1]at h
   have e:(i+n).toNat=j:=Option.some.inj h;exact⟨by rw[seqIndex_neg (by exact Int.not_le.mp ‹_›) h1,e],∅,h1,∅⟩
  grind
theorem CL{v:α}(h:atI xs i=some v):∃j,seqIndex? i xs.length=some j/\xs[j]?=some v/\j<xs.length/\-(xs.length:Int)<=i/\i<xs.length:=by
 unfold atI at h;cases e:mY xs.length i with
 |none=>rw[e]at h;cases h
 |some j=>
  rw[e]at h;let⟨h1,h2,h3,h4⟩:=LY e;exact⟨j,h1,h,h2,h3,h4⟩
theorem eE{j:Nat}{v:α}(h:xs[j]?=some v):atI xs (j:Int)=some v:=by
 have hj:j<xs.length:=(Ò.mp h).1;have e:mY xs.length (j:Int)=some j:=by
  unfold mY;rw[Á ∅,Á ∅];simp
 unfold atI;rw[e];exact h
def oA(b:Expr):Prop:=∀o i,subscripted b false o i=operate [o,i] (getItem o i)
def ZS(X:Cx)(r:R2):Prop:=
 ∀(value slice:Expr)(U:ZB)(s:Shared)(σ:St)(H:Hp)(x y:V)(v u:Value)(Q:VK),Inv X U σ H s->bJ x v->bJ y u->r x y H Q ->
  subscripted slice false v u=operate [v,u] (getItem v u)->wpAny 'b' X.A (subscriptTail value slice v u) (EP X U σ Q) X.xe s
def Ĩ(X:Cx)(id:String)(r:V->List V->Hp->VK->Prop):Prop:=
 ∀(U:ZB)(s:Shared)(σ:St)(H:Hp)(x:V)(xs:List V)(v:Value)(us:ZJ)(Q:VK),Inv X U σ H s->bJ x v->bK xs us->r x xs H Q ->
  wpAny 'b' X.A (call (.builtin id) (v::us)) (EP X U σ Q) X.xe s
section
variable {X:Cx}
theorem ZS.or(h:ZS X r)(h':ZS X r'):ZS X (λx y H Q=>r x y H Q\/r' x y H Q):=by
 intro value slice U s σ H x y v u Q I rx ry q hs;rcases q with q|q
 .exact h value slice U s σ H x y v u Q I rx ry q hs
 .exact h' value slice U s σ H x y v u Q I rx ry q hs
theorem FP(hr:ZS X r)(ha:PE X a ta)(hb:PE X b tb)(hs:oA b):PE X (.Subscript a b pos) (ħ r ta tb):=by
 intro U s σ H Q I h;exact Subscript_ (œ ha hb I h λv u s2 x y H2 I2 rx ry q=>hr a b U s2 σ H2 x y v u Q I2 rx ry q (hs _ _))
def ŗ(K:ZC):R2:=λx y H Q=>∃p xs i v,x=.ref p/\y=.int i/\eJ K H p xs/\atI xs i=some v/\Q v H
def Ž(K:ZC):R2:=λx y H Q=>∃p xs i v,x=.ref p/\y=.int i/\rK K H p xs/\atI xs i=some v/\Q v H
def ž:R2:=λx y H Q=>∃z i c,x=.str z/\y=.int i/\z.length<=sizeLine/\atI z.cps.toList i=some c/\Q (.str ⟨#[c]⟩) H
theorem rP:ZS X (ŗ X.K):=by
 intro value slice U s σ H x y v u Q I rx ry h hs;let⟨p,xs,i,z,rfl,rfl,hq,he,q⟩:=h;cases rx;let⟨t,rfl⟩:=ry;let⟨its,r,pl,hz⟩:=I.list hq;let⟨j,h1,h2,h3,h4,h5⟩:=CL he;let⟨w,ew,rw'⟩:=r.get h2;have hl:=r.length;have hn:=qA;have fin:EP X U σ Q w s:=⟨z,H,I,rw',q⟩;by_cases h0:0<=i
 .have hj:i.toNat=j:=by
   rw[seqIndex_of h0 h5]at h1;exact Option.some.inj h1
  exact item_listR pl.isList h0 ∅ (by rw[hj];simpa using ew) fin hs
 .have hj:(i+(its.toArray.size:Int)).toNat=j:=by
   rw[seqIndex_neg (by exact Int.not_le.mp ‹_›) h4]at h1;rw[í,<- hl];exact Option.some.inj h1
  exact subscriptTail_builtinR (x:=w) pl.isList.typeIs slot_list_getitem.lookup
   (wpAny_getItem_list_neg (Q:=λr s'=>r=w/\EP X U σ Q r s') pl.isList (by exact Int.not_le.mp ‹_›) 'k' ∅ (by rw[hj];simpa using ew) ⟨rfl,fin⟩) hs
theorem aFJ:ZS X (Ž X.K):=by
 intro value slice U s σ H x y v u Q I rx ry h hs;let⟨p,xs,i,z,rfl,rfl,hq,he,q⟩:=h;cases rx;let⟨t,rfl⟩:=ry;let⟨its,r,pl,hz⟩:=I.tuple hq;let⟨j,h1,h2,h3,h4,h5⟩:=CL he;let⟨w,ew,rw'⟩:=r.get h2;have hl:=r.length;have hn:=qA;have fin:EP X U σ Q w s:=⟨z,H,I,rw',q⟩;exact subscriptTail_builtinR (x:=w) pl.typeIs slot_tuple_getitem.lookup
  (getItem_tuple (j:=j) (Q:=λr s'=>r=w/\EP X U σ Q r s') pl ∅ ∅ 'k' (by simpa using ew) ⟨rfl,fin⟩) hs
theorem aFK:ZS X ž:=by
 intro value slice U s σ H x y v u Q I rx ry h hs;let⟨z,i,c,rfl,rfl,hz,he,q⟩:=h;let⟨t,rfl⟩:=rx;let⟨t',rfl⟩:=ry;let⟨j,h1,h2,h3,h4,h5⟩:=CL he;have hl:z.cps.toList.length=z.length:=by simp[Str.length]
 rw[hl]at h1 h4 h5;have hn:=qA;exact tail_any (typeIs_str s z t) slot_str_getitem.lookup (getItem_str (c:=c) (by
  grind) (by rw[h1];simpa using h2) ⟨.str ⟨#[c]⟩,H,I.tok _,⟨_,rfl⟩,q⟩) hs
def ſ(K:ZC):R2:=λx y H Q=>ŗ K x y H Q\/Ž K x y H Q\/ž x y H Q
theorem aFL:ZS X (ſ X.K):=rP.or (aFJ.or aFK)
theorem J6(its:ZJ)(n j:Nat)(u:Value):Obj.mapSeq (·.setIfInBounds j u) {cls:=.type "list",data:=.seq its.toArray n}={cls:=.type "list",data:=.seq (its.set j u).toArray n}:=by
 simp[Obj.mapSeq]
theorem Inv.lst(I:Inv X U σ H s)(h:H p=some (.lst xs)):
  ∃(its:ZJ)(n:Nat),bK xs its/\s.heap.get? p=some {cls:=.type "list",data:=.seq its.toArray n}/\xs.length<=sizeLine:=by
 let⟨z,its,n,r,e⟩:=I.hok p _ h;exact⟨its,n,r,e,z⟩
theorem Inv.lstUpd{U:ZB}{σ:St}{H:Hp}{s:Shared}{p:Addr}{xs ys:List V}{its its':ZJ}{n n':Nat}{f:Obj->Obj}(I:Inv X U σ H s)(h:H p=some (.lst xs))(ho:s.heap.get? p=some {cls:=.type "list",data:=.seq its.toArray n})(hf:f {cls:=.type "list",data:=.seq its.toArray n}={cls:=.type "list",data:=.seq its'.toArray n'})(r:bK ys its')(hz:ys.length<=sizeLine)(t:Nat):
  Inv X U σ (aX H p (.lst ys)) {s with heap:=s.heap.update p f,toks:=t}:=by
 have e:(s.heap.update p f).get? p=some {cls:=.type "list",data:=.seq its'.toArray n'}:=by
  rw[Heap.get?_update_self f ho (by rw[hf]<;>rfl),hf]
 refine I.write (x:=p) (e:=p) (by rw[h];trivial) (.inl rfl) (λb u hb q=>(Heap.get?_update_other _ _ (Ð hb)).trans q) ⟨_,e⟩ ?_;exact⟨hz,its',n',r,e⟩
def aJA:V->V->V->Hp->(Hp->Prop)->Prop:=λo i v H Q=>∃p xs k j,o=.ref p/\i=.int k/\H p=some (.lst xs)/\mY xs.length k=some j/\Q (aX H p (.lst (xs.set j v)))
theorem FQ:ŷ X aJA:=by
 intro U s σ H o i v ov iv u Q I ro ri rv h;let⟨p,xs,k,j,rfl,rfl,hp,hj,q⟩:=h;cases ro;let⟨t,rfl⟩:=ri;let⟨its,n,r,ho,hz⟩:=I.lst hp;let⟨h1,h2,h3,h4⟩:=LY hj;have hl:=r.length;have hn:=qA;have I':Inv X U σ (aX H p (.lst (xs.set j v))) {s with heap:=s.heap.update p (Obj.mapSeq (·.setIfInBounds j u))}:=
  I.lstUpd hp ho (J6 its n j u) (r.set rv j) (by rw[Ù];exact hz) s.toks
 by_cases h0:0<=k
 .have hk:k.toNat=j:=by
   rw[seqIndex_of h0 h4]at h1;exact Option.some.inj h1
  exact W.ki_setAt ho h0 ∅ (by rw[í,<- hl];exact h4) (by rw[hk];exact⟨_,I',q⟩)
 .have hk:(k+(its.toArray.size:Int)).toNat=j:=by
   rw[seqIndex_neg (by exact Int.not_le.mp ‹_›) h3]at h1;rw[í,<- hl];exact Option.some.inj h1
  exact W.ki_setBack ho (by exact Int.not_le.mp ‹_›) (by rw[í,<- hl];exact h3) ∅ (by rw[hk];exact⟨_,I',q⟩)
theorem CN(lo hi:Option Int)(n:Nat):(sliceBounds lo hi none n).1=((HT.sIx n 0 lo:Nat):Int)/\(sliceBounds lo hi none n).2.1=((HT.sIx n n hi:Nat):Int)/\(sliceBounds lo hi none n).2.2=1:=by
 refine⟨?_,?_,rfl⟩
 .cases lo with
  |none=>simp[sliceBounds,HT.sIx]
  |some i=>
   simp![sliceBounds,HT.sIx,Option.getD_none,show (1:Int)>0 by decide,if_true]
   grind
 .cases hi with
  |none=>simp[sliceBounds,HT.sIx]
  |some i=>
   simp![sliceBounds,HT.sIx,Option.getD_none,show (1:Int)>0 by decide,if_true]
   grind
theorem AC(its:ZJ)(lo hi:Option Int):slicePick its.toArray lo hi none=((its.drop (HT.sIx its.length 0 lo)).take (HT.sIx its.length its.length hi-HT.sIx its.length 0 lo)).toArray:=by
 let⟨h1,h2,h3⟩:=CN lo hi its.toArray.size;unfold slicePick;rw[h1,h2,h3];simp![sliceRange_one,pick_run,í]<;>rfl
def Α(K:ZC):V->Option Int->Option Int->Hp->VK->Prop:=λx lo hi H Q=>∃a xs,x=.ref a/\eJ K H a xs/\∀p,H p=none->Q (.ref p) (aX H p (.lst (CK xs lo hi)))
theorem jN:ķ X (Α X.K):=by
 intro U s σ H x v vl vu lo hi sl Q I rx hs pl pu h;let⟨a,xs,rfl,hx,q⟩:=h;cases rx;let⟨its,r,ht,hz⟩:=I.list hx;have hlen:=r.length;refine⟨"list",_,slot_list_getitem.lookup,ht.isList.typeIs,?_⟩;refine wpAny_getItem_list_slice ht.isList hs pl pu .none 'e' ?_ 'k';rw[AC,<- hlen];refine⟨.ref s.heap.objs.size,_,I.laid (t':=s.toks) (o:=.lst (CK xs lo hi)) (λb ob q=>Heap.get?_push_of_some _ q) (Ç _) ?_,rfl,q _ (I.hok.fresh (Ç _))⟩;exact⟨Ø (vB xs lo hi) hz,_,0,(r.drop (HT.sIx xs.length 0 lo)).take (HT.sIx xs.length xs.length hi-HT.sIx xs.length 0 lo),Heap.get?_push_size _ rfl⟩
def pJ:V->Bool
 |.non=>true
 |.bl _=>true
 |.int _=>true
 |.str _=>true
 |_=>false
def ē:V->V->Bool
 |.non,.non=>true
 |.bl a,.bl b=>a == b
 |.bl a,.int b=>(if a then 1 else 0) == b
 |.int a,.bl b=>a == (if b then 1 else 0)
 |.int a,.int b=>a == b
 |.str a,.str b=>a == b
 |_,_=>false
theorem aFM(ry:bJ y u)(rx:bJ x v)(fy:pJ y=true)(fx:pJ x=true):SeqAt.EqAt A s u v (ē y x):=by
 cases y with
 |non=>
  cases ry;cases x with
  |non=>cases rx;exact SeqAt.EqAt.same _
  |bl b=>cases rx;exact SeqAt.EqAt.none_bool b
  |int b=>let⟨t,rfl⟩:=rx;exact SeqAt.EqAt.none_int b t
  |str b=>let⟨t,rfl⟩:=rx;exact SeqAt.EqAt.none_str b t
  |_=>exact absurd (show false=true from fx) à
 |bl a=>
  cases ry;cases x with
  |non=>cases rx;exact SeqAt.EqAt.bool_none a
  |bl b=>cases rx;exact SeqAt.EqAt.bool_bool a b
  |int b=>let⟨t,rfl⟩:=rx;exact SeqAt.EqAt.bool_int a b t
  |str b=>let⟨t,rfl⟩:=rx;exact SeqAt.EqAt.bool_str a b t
  |_=>exact absurd (show false=true from fx) à
 |int a=>
  let⟨t',rfl⟩:=ry;cases x with
  |non=>cases rx;exact SeqAt.EqAt.int_none a t'
  |bl b=>cases rx;exact SeqAt.EqAt.int_bool a t' b
  |int b=>let⟨t,rfl⟩:=rx;exact SeqAt.EqAt.int_int a t' b t
  |str b=>let⟨t,rfl⟩:=rx;exact SeqAt.EqAt.int_str a t' b t
  |_=>exact absurd (show false=true from fx) à
 |str a=>
  let⟨t',rfl⟩:=ry;cases x with
  |non=>cases rx;exact SeqAt.EqAt.str_none a t'
  |bl b=>cases rx;exact SeqAt.EqAt.str_bool a t' b
  |int b=>let⟨t,rfl⟩:=rx;exact SeqAt.EqAt.str_int a t' b t
  |str b=>let⟨t,rfl⟩:=rx;exact SeqAt.EqAt.str_str a t' b t
  |_=>exact absurd (show false=true from fx) à
 |_=>exact absurd (show false=true from fy) à
def ZT(x:V)(u:Value):Bool:=match u with
 |.none=>ē .non x
 |.bool b=>ē (.bl b) x
 |.int i _=>ē (.int i) x
 |.str z _=>ē (.str z) x
 |_=>false
theorem SF(r:bJ y u)(f:pJ y=true):ZT x u=ē y x:=by
 cases y with
 |non=>cases r;rfl
 |bl b=>cases r;rfl
 |int i=>let⟨t,rfl⟩:=r;rfl
 |str z=>let⟨t,rfl⟩:=r;rfl
 |_=>exact absurd (show false=true from f) à
theorem CO :∀{xs:List V}{us:ZJ},bK xs us->xs.all pJ=true->us.any (ZT x)=xs.any λy=>ē y x
 |_,_,.nil,_=>rfl
 |y::xs,u::us,.cons r t,f=>by
  rw[List.all_cons,ä]at f;rw[List.any_cons,List.any_cons,SF r f.1,CO t f.2]
theorem wM(rx:bJ x v)(fx:pJ x=true):∀{xs:List V}{us:ZJ},bK xs us->xs.all pJ=true->∀u∈us,SeqAt.EqAt A s u v (ZT x u)
 |_,_,.nil,_=>λu hu=>by cases hu
 |y::xs,u::us,.cons r t,f=>λu' hu=>by
  rw[List.all_cons,ä]at f;rcases Í.mp hu with rfl|hu
  .rw[SF r f.1];exact aFM r rx f.1 fx
  .exact wM rx fx t f.2 u' hu
def Ĕ(x:V)(xs:List V):Bool:=xs.any λy=>ē y x
def Β(K:ZC)(neg:Bool):R2:=λx y H Q=>∃p xs,y=.ref p/\(eJ K H p xs\/rK K H p xs)/\pJ x=true/\xs.all pJ=true/\Q (.bl (if neg then !Ĕ x xs else Ĕ x xs)) H
theorem CP:j3 X (compareOp .NotIn) (Β X.K true):=by
 intro U s σ H x y v u Q I rx ry h;let⟨p,xs,rfl,hq,fx,fs,q⟩:=h;cases ry;rcases hq with hq|hq
 .obtain⟨its,r,pl,hz⟩:=I.list hq
  refine SeqAt.notIn_listAt (ZT x) pl.isList (λw hw=>wM rx fx r fs w (by simpa using hw)) ⟨.bl _,H,I,rfl,?_⟩;rw[show its.toArray.any (ZT x)=its.any (ZT x) by simp,CO r fs];exact q
 .obtain⟨its,r,pl,hz⟩:=I.tuple hq
  refine SeqAt.notIn_tupleAt (ZT x) pl (λw hw=>wM rx fx r fs w (by simpa using hw)) ⟨.bl _,H,I,rfl,?_⟩;rw[show its.toArray.any (ZT x)=its.any (ZT x) by simp,CO r fs];exact q
theorem rQ:iM X (.builtin "len") (λxs H Q=>∃p ys,xs=[.ref p]/\(eJ X.K H p ys\/rK X.K H p ys)/\Q (.int ys.length) H):=by
 intro U s σ H xs us Q I r h;let⟨p,ys,rfl,hq,q⟩:=h;let⟨u,rfl,rx⟩:=pG r;cases rx;have hn:=qA;rcases hq with hq|hq
 .obtain⟨its,r',pl,hz⟩:=I.list hq
  have hlen:=r'.length;exact Calls.call_len_list pl.isList 'k' ⟨.int ys.length,H,I.tok _,⟨s.toks+1,by grind⟩,q⟩
 .obtain⟨its,r',pl,hz⟩:=I.tuple hq
  have hlen:=r'.length;exact len_tuple pl 'k' ⟨.int ys.length,H,I.tok _,⟨s.toks+1,by grind⟩,q⟩
theorem CQ:iM X (.builtin "len") (λxs H Q=>∃z,xs=[.str z]/\z.length<=sizeLine/\Q (.int z.length) H):=by
 intro U s σ H xs us Q I r h;let⟨z,rfl,hz,q⟩:=h;let⟨u,rfl,t,rfl⟩:=pG r;have hn:=qA;exact len_str ∅ ⟨.int z.length,H,I.tok _,⟨_,rfl⟩,q⟩
theorem iM.or(h:iM X f r)(h':iM X f r'):iM X f (λxs H Q=>r xs H Q\/r' xs H Q):=by
 intro U s σ H xs us Q I rs q;rcases q with q|q
 .exact h U s σ H xs us Q I rs q
 .exact h' U s σ H xs us Q I rs q
theorem lK:iM X (.type "list") (λxs H Q=>∃p ys,xs=[.ref p]/\(eJ X.K H p ys\/rK X.K H p ys)/\∀l,H l=none->Q (.ref l) (aX H l (.lst ys))):=by
 intro U s σ H xs us Q I r h;let⟨p,ys,rfl,hq,q⟩:=h;let⟨u,rfl,rx⟩:=pG r;cases rx;have fin:∀(its:ZJ),bK ys its->ys.length<=sizeLine->∀(h':Heap)(c':Nat),(∀b o',s.heap.get? b=some o'->h'.get? b=some o') ->
   h'.get? s.heap.objs.size=some {cls:=.type "list",dict:=none,data:=.seq its.toArray c',slots:=#[]}->EP X U σ Q (.ref s.heap.objs.size) {s with heap:=h'}:=λits r' hz h' c' kp e=>
  ⟨.ref s.heap.objs.size,_,I.laid (t':=s.toks) kp (Ç _) (show dQ X.prog X.w _ h' _ (.lst ys)from⟨hz,its,c',r',e⟩),rfl,q _ (I.hok.fresh (Ç _))⟩
 rcases hq with hq|hq
 .obtain⟨its,r',pl,hz⟩:=I.list hq
  have hlen:=r'.length;let⟨o,ho,hc,n,hd⟩:=pl.isList;exact call_list_seq p (.inl rfl) ho hc hd (λh' c' kp e=>fin its r' hz h' c' kp e) 'k'
 .obtain⟨its,r',pl,hz⟩:=I.tuple hq
  have hlen:=r'.length;let⟨o,ho,hc,n,hd⟩:=pl;exact call_list_seq p (.inr rfl) ho hc hd (λh' c' kp e=>fin its r' hz h' c' kp e) 'k'
def ĸ(K:ZC)(T:String)(x:V)(H:Hp):Prop:=match x with
 |.str _=>T="str"
 |.int _=>T="int"
 |.ref p=>(T="list"/\∃xs,eJ K H p xs)\/(T="tuple"/\∃o,K.lookup p=some o/\o.cls=.type "tuple"/\o.dict=none) \/
   (T="dict"/\((∃À,H p=some (.dK À))\/∃À,H p=some (.dT À)))\/(T="set"/\∃S n,H p=some (.set S n))
 |_=>False
theorem SG(I:Inv X U σ H s)(r:bJ x v)(ty:ĸ X.K T x H):
  s.TypeIs v T/\∀a,v=.ref a->∃ob,s.heap.get? a=some ob/\ob.dict=none:=by
 cases x with
 |str z=>
  let⟨t,rfl⟩:=r;cases (show T="str"from ty);exact⟨typeIs_str s z t,λ_ e=>nomatch e⟩
 |int i=>
  let⟨t,rfl⟩:=r;cases (show T="int"from ty);exact⟨typeIs_int s i t,λ_ e=>nomatch e⟩
 |ref p=>
  cases r;rcases ty with ⟨rfl,xs,hq⟩|⟨rfl,o,hk,hc,hd⟩|⟨rfl,hk⟩|⟨rfl,S,n,hk⟩
  .obtain⟨its,_,pl,_⟩:=I.list hq
   refine⟨pl.isList.typeIs,λa e=>?_⟩;cases e;let⟨o,n,e,c,hd,_⟩:=pl;exact⟨o,e,hd⟩
  .refine⟨⟨o,I.kIn p o hk,hc⟩,λa e=>?_⟩
   cases e;exact⟨o,I.kIn _ o hk,hd⟩
  .have z:∃o,s.heap.get? p=some o/\o.ExactDict:=by
    rcases hk with ⟨À,hk⟩|⟨À,hk⟩
    .obtain⟨_,_,_,_,o,_,_,e,ex,_⟩:=I.hok p _ hk
     exact⟨o,e,ex⟩
    .obtain⟨_,_,_,_,o,_,_,e,ex,_⟩:=I.hok p _ hk
     exact⟨o,e,ex⟩
   let⟨o,e,ex⟩:=z;refine⟨⟨o,e,ex.1⟩,λa e2=>?_⟩;cases e2;exact⟨o,e,ex.2.1⟩
  .obtain⟨o,_,_,_,e,ex,_⟩:=I.hok p _ hk
   refine⟨⟨o,e,ex.1⟩,λa e2=>?_⟩;cases e2;exact⟨o,e,ex.2.1⟩
 |_=>exact False.elim ty
def aMH(K:ZC)(T:String)(r:V->List V->Hp->VK->Prop)(to:TE):TE:=λσ H Q=>to σ H λx H1=>ĸ K T x H1/\r x [] H1 Q
def Γ(K:ZC)(T:String)(r:V->List V->Hp->VK->Prop)(to:TE)(t:TA):TE:=λσ H Q=>to σ H λx H1=>ĸ K T x H1/\t σ H1 λxs H2=>r x xs H2 Q
variable {o e:Expr}{es:List Expr}{to:TE}{t:TA}{name:Str}{apos cpos:Pos}{T id:String}{r:V->List V->Hp->VK->Prop}
theorem aFN(pa:PlainAttrs T)(slot:Slot T name id)(hty:typeOf (.builtin id)=pure (.type "method_descriptor"))(hm:Ĩ X id r)(ho:PE X o to)(hbase:↥(attributeBase o name X.env (eval o X.env)=eval o X.env))(hline:↥((apos.endLine == cpos.line)=true)):PE X (.Call (.Attribute o name apos) [] [] cpos) (aMH X.K T r to):=by
 intro U s σ H Q I h;refine wpAny_Call_method0_late hbase hline (cN (ho U s σ H _ I h) λv s1 zQ=>?_);let⟨x,H1,I1,r1,ty,q1⟩:=zQ;let⟨h1,h2⟩:=SG I1 r1 ty;exact⟨T,id,pa,slot,hty,h1,h2,Calls.callWith_builtin rfl (PySem.evalArgs_none (hm U s1 σ H1 x [] v [] Q I1 r1 .nil q1))⟩
theorem Δ(pa:PlainAttrs T)(slot:Slot T name id)(hty:typeOf (.builtin id)=pure (.type "method_descriptor"))(hm:Ĩ X id r)(ho:PE X o to)(ha:PA X (e::es) t)(hbase:↥(attributeBase o name X.env (eval o X.env)=eval o X.env))(hfew:↥(((backTo cpos (starEach (e::es) X.env)).all (λx=>!x.1) && (backToKw cpos (keywordEach [] X.env)).all (λx=>x.1.isSome)
   && decide ((e::es).length+([]:List Keyword).length+(if ([]:List Keyword).isEmpty then 0 else 1)<30))=true))(hline:↥((apos.endLine == cpos.line)=true))(hs:↥(Zse e es X.env))(hplain:↥(Zbt cpos es X.env)):
  PE X (.Call (.Attribute o name apos) (e::es) [] cpos) (Γ X.K T r to t):=by
 intro U s σ H Q I h;refine wpAny_Call_method_late hbase hfew hline rfl (cN (ho U s σ H _ I h) λv s1 zQ=>?_);let⟨x,H1,I1,r1,ty,q1⟩:=zQ;let⟨h1,h2⟩:=SG I1 r1 ty;refine⟨T,id,pa,slot,hty,h1,h2,?_⟩;have hA:=ha cpos U s1 σ H1 _ I1 q1;rw[hs]at hA⊢;refine Calls.callWith_builtin (by show (false || (backTo cpos (starEach es X.env)).any (·.1))=false;rw[hplain]<;>rfl) (Calls.evalArgs_plain ?_)
 exact cN hA λus s2 zQ=>by let⟨vs,H2,I2,r2,q2⟩:=zQ;exact hm U s2 σ H2 x vs v us Q I2 r1 r2 q2
end
def Ř(X:Cx)(id:String)(r:V->List V->Hp->VK->Prop):Prop:=
 ∀(U:ZB)(s:Shared)(σ:St)(H:Hp)(x:V)(xs:List V)(v:Value)(us:ZJ)(Q:VK),Inv X U σ H s->bJ x v->bK xs us->r x xs H Q ->
  wpAny 'b' X.A (call (.builtin id) (v::us)) (EP X U σ Q) X.xe s
theorem bK.one:∀{x:V}{us:ZJ},bK [x] us->∃u,us=[u]/\bJ x u:=λh=>pG h
theorem bK.zero:∀{us:ZJ},bK [] us->us=[]
 |_,.nil=>rfl
theorem bK.dropLast(h:bK xs us):bK xs.dropLast us.dropLast:=by
 induction h with
 |nil=>exact .nil
 |cons r t ih=>
  cases t with
  |nil=>exact .nil
  |cons q t'=>exact .cons r ih
theorem J7{α:Type}(l:List α):l.eraseIdx (l.length-1)=l.dropLast:=by
 grind
section
variable {X:Cx}{U:ZB}{σ:St}{H:Hp}{s:Shared}{l:Addr}{xs ys:List V}
theorem Inv.lset{its its':ZJ}{n:Nat}{f:Array Value->Array Value}{t':Nat}(I:Inv X U σ H s)(hH:H l=some (.lst xs))(e:s.heap.get? l=some {cls:=.type "list",data:=.seq its.toArray n})(hf:f its.toArray=its'.toArray)(hv:bK ys its')(hz:ys.length<=sizeLine):
  Inv X U σ (aX H l (.lst ys)) {s with heap:=s.heap.update l (Obj.mapSeq f),toks:=t'}:=by
 have q:=PySem.IsL.update e f;rw[hf]at q;refine I.write (x:=l) (e:=l) (by rw[hH];exact trivial) (.inl rfl) (λb' u hb hu=>(Heap.get?_update_other s.heap (Obj.mapSeq f) (Ð hb)).trans hu) ⟨_,q⟩ ?_;exact⟨hz,its',_,hv,q⟩
theorem Inv.lnew(I:Inv X U σ H s)(hv:bK ys its)(hz:ys.length<=sizeLine):
  Inv X U σ (aX H s.heap.objs.size (.lst ys)) {s with heap:=s.heap.push {cls:=.type "list",data:=.seq its.toArray},toks:=t'}:=
 I.laid (λ_ _ q=>Heap.get?_push_of_some _ q) (Ç _) ⟨hz,its,0,hv,Heap.get?_push_size _ rfl⟩
theorem Inv.fresh(I:Inv X U σ H s):H s.heap.objs.size=none:=I.hok.fresh (Ç _)
theorem Inv.lstM(I:Inv X U σ H s)(hH:H l=some (.lst xs)):xs.length<=sizeLine/\∃(its:ZJ)(n:Nat),bK xs its/\xs.length=its.length/\s.heap.get? l=some {cls:=.type "list",data:=.seq its.toArray n}:=by
 let⟨z,its,n,r,e⟩:=I.hok l _ hH;exact⟨z,its,n,r,r.length,e⟩
theorem SH(h:n<=sizeLine):Builtin.List.listTooLong n=false:=by
 unfold Builtin.List.listTooLong
 grind
end
section
def LZ:V->List V->Hp->VK->Prop:=λx vs H Q=>∃l xs y,x=.ref l/\vs=[y]/\H l=some (.lst xs)/\xs.length<sizeLine/\Q .non (aX H l (.lst (xs++[y])))
theorem t5:Ř X "list.append" LZ:=by
 intro U s σ H x vs v us Q I rx rv h;let⟨l,xs,y,rfl,rfl,hH,hz,q⟩:=h;cases rx;let⟨u,rfl,ru⟩:=rv.one;let⟨z,its,n,r,hl,e⟩:=I.lstM hH;refine call_meets F.slot_list_append ⟨_,e,rfl⟩ F.entry_list_append (F.args_list_append_2 _ _) (PySem.list_append l its.toArray n u (by rw[í];lia)) ⟨e,?_⟩;refine⟨.non,_,I.lset (its':=its++[u]) hH e 'e' (r.append (.cons ru .nil)) ?_,rfl,q⟩;rw[Ë,ì];assumption
def Ε:V->List V->Hp->VK->Prop:=λx vs H Q=>∃l xs y,x=.ref l/\vs=[]/\H l=some (.lst xs)/\xs[xs.length-1]?=some y/\Q y (aX H l (.lst xs.dropLast))
theorem aFO:Ř X "list.pop" Ε:=by
 intro U s σ H x vs v us Q I rx rv h;let⟨l,xs,y,rfl,rfl,hH,hy,q⟩:=h;cases rx;have hus:=rv.zero;subst hus;let⟨z,its,n,r,hl,e⟩:=I.lstM hH;let⟨u,hu,ru⟩:=r.get hy;have hy':its.toArray[its.toArray.size-1]?=some u:=by
  show its.toArray[its.length-1]?=some u;rw[<- Array.getElem?_toList,<- hl];exact hu
 refine call_meets F.slot_list_pop ⟨_,e,rfl⟩ F.entry_list_pop (F.args_list_pop_1 _) (MeetsSeq.list_pop_last l its.toArray n u hy' (by rw[í];lia)) ⟨e,?_⟩;refine⟨y,_,I.lset (its':=its.dropLast) hH e ?_ r.dropLast ?_,ru,q⟩
 .show its.toArray.eraseIdxIfInBounds (its.toArray.size-1)=its.dropLast.toArray
  rw[í,List.eraseIdxIfInBounds_toArray,J7]
 .rw[List.length_dropLast]
  lia
end
section
end
section
end
end L2
namespace Att
open PySem PySem.W PySem.Calls PyProof.Rows
theorem vV :∀(ns:ZK)(vs:ZJ),WellAll P h vs (ns.map WData.int)->IntsAre vs ns:=by
 intro ns
 induction ns with
 |nil=>
  intro vs w;rw[List.map_nil]at w;cases w;exact .nil
 |cons n ns ih=>
  intro vs w;rw[Î]at w;cases w with
  |cons a b=>
   cases a;exact .cons _ _ (ih _ b)
theorem O5{l:OpenLaw}(hn:l.most=some n){vals:ZJ}(hpre:l.row.toRowW.claim.pre args=true)(hwl:WellAll P h vals args):
  ∃a vs ns,vals=[Value.ref a]/\args=[WData.list (ns.map WData.int)]/\h.get? a=some {cls:=.type "list",data:=.seq vs.toArray}/\IntsAre vs ns/\ns.length<=n:=by
 have hsh:WShape.hasAll [] args [.list .int]=true:=(pre_splitW hpre).1;have hc:l.pre.holds [] {args:=args}=true:=(pre_splitW hpre).2;let⟨d,r,rfl,h1,h2⟩:=hasAllW_cons hsh;obtain rfl:=hasAllW_nil h2;let⟨xs,rfl,h3⟩:=hasW_list h1;let⟨ns,rfl⟩:=items_int h3;have hlen:ns.length<=n:=by
  unfold OpenLaw.pre at hc;have h4:(WTm.not (.lt (.lit (.int (n:Int))) (.len (.arg 0)))).holds [] {args:=[.list (ns.map .int)]}=true:=by
   have h4:=(holds_andW hc).1;rw[hn]at h4;exact h4
  have h5:=condW_of h4 (w_not (w_lt w_lit (w_len_list (w_arg rfl))));rw[Ä]at h5;refine Nat.le_of_not_lt λq=>?_;have q':(n:Int)<((ns.length:Nat):Int):=by lia
  first
   |grind
   |(simp at h5;lia)
 cases hwl with
 |cons w1 w2=>
  cases w2;cases w1 with
  |list ho hall=>exact⟨_,_,ns,rfl,rfl,ho,vV ns _ hall,hlen⟩
theorem O6(l:OpenLaw)(args:List WData):l.row.toRowW.claim.post args (.bool true) args=true:=
 postW_of (r:=l.row.toRowW) (X:=(true == true))
  (show WShape.has [] (.bool true) .bool=true by first|rfl|decide|simp[WShape.has,WShape.arms,WShape.armsAll])
  (show (WTm.eq .res (.lit (.bool true))).value [] {args:=args,res:=some (.bool true),after:=args}=some (.bool (true == true))from w_eq_bool (w_res rfl) w_lit) rfl
theorem attach_call{l:OpenLaw}{n:Nat}{q:Program}{loose:ZG}{XP:(ZD)->Heap->Prop}{YP:World->Heap->Prop}{d:DefRec}(hn:l.most=some n)(hdf:d.params.defaults=[])(call:∀(w:World)(s₀ s₁:Shared)(mg mb:ZD)(fa:Addr)(o:Obj)(pm cd doc:Value)(a:Addr)(vs:ZJ)(ns:ZK),
   Ground q loose [] XP w s₀ mg mb s₁.heap->YP w s₁.heap ->
   s₁.heap.get? fa=some o->o.data=.func (docDef d.name d.params d.body d.scope pm cd doc)->s₁.heap.CodeRec cd d.name->mg d.name=some (.ref fa) ->
   s₁.heap.get? a=some {cls:=.type "list",data:=.seq vs.toArray}->IntsAre vs ns->ns.length<=n->s₁.gens=#[] ->
   codeAny (model l.prog w) callerA (.call (.ref fa) ⟨[.ref a],[]⟩) (λr s'=>r=.ok (.ret (.bool true))/\OldK s₁.heap s'.heap/\s'.os=s₁.os/\AllBare s'.gens) s₁):
  WalkO q loose XP YP l.row.toRowW d [] (λf vs=>PySem.call f vs):=by
 intro w s₀ s₁ mg mb G Y fa o pm cd doc dV kV ho hd hcd hD hmg hg args vals as hpre hlay hrd hwl hlo;obtain rfl:dV=.none:=Dflts.none hD hdf;obtain rfl:kV=.none:=Dflts.noKw hD;let⟨a,vs,ns,rfl,rfl,hobj,hints,hlen⟩:=O5 hn hpre hwl;refine enter_call (codeAny_mono (call w s₀ s₁ mg mb fa o pm cd doc a vs ns G Y ho (fd_plain hd) hcd hmg hobj hints hlen hg) λr s' hq=>?_);let⟨rfl,h2,h3,h4⟩:=hq;exact⟨.inl ⟨.bool true,.bool true,[],rfl,λ_=>rfl,.bool true,O6 l _,λ_=>⟨List.Pairwise.nil,λ_ hm=>(nomatch hm)⟩⟩,h2,h3,h4⟩
section
end
end Att
namespace L2
open PySem PySem.Spec PyProof.Rows
theorem A9:∀{vs:ZJ}{ns:ZK},IntsAre vs ns->bK (ns.map V.int) vs
 |_,_,.nil=>.nil
 |_,_,.cons n t h=>.cons ⟨t,rfl⟩ (A9 h)
def oB(s:Stmt):Arguments:=match s with
 |.FunctionDef _ a _ _ _ _ _ _ _ _=>a
 |_=>{posonlyargs:=[],args:=[],vararg:=none,kwonlyargs:=[],kw_defaults:=[],kwarg:=none,defaults:=[]}
def dS(s:Stmt):List Stmt:=match s with
 |.FunctionDef _ _ b _ _ _ _ _ _ _=>b
 |_=>[]
def bC(s:Stmt):Scope:=match s with
 |.FunctionDef _ _ _ _ _ _ sc _ _ _=>sc
 |_=>{kind:=.function,names:=[],isGenerator:=false,isCoroutine:=false}
structure RH(K:ZC)(x qual:Str)(st:Stmt)(f:Addr)(fd:FuncData):Prop where
 ex:∃(oc:Value)(od:Option Addr)(kV doc pm:Value)(an:Option Addr)(cdv ct:Value)(osl:Array (ZN)),
  fd=W.fnOf x qual (oB st) (dS st) (bC st) .none kV doc pm an cdv ct/\K.lookup f=some ⟨oc,od,.func fd,osl⟩/\W.codeIn K cdv qual=true
 kp:W.keepIn K (.ref f)=true
section
variable {K:ZC}
theorem RH.binds{st:Stmt}(F:RH K x qual st f fd)(h:∀(kV doc pm:Value)(an:Option Addr)(cdv ct:Value)(us:ZJ),us.length=ps.length->bindArgs (W.fnOf x qual (oB st) (dS st) (bC st) .none kV doc pm an cdv ct) ⟨us,[]⟩=pure (ps.zip us)):pH K fd ps []:=by
 let⟨oc,od,kV,doc,pm,an,cdv,ct,osl,rfl,lk,hcd⟩:=F.ex;exact .all (h kV doc pm an cdv ct)
theorem J8{st:Stmt}{kV doc pm cdv ct:Value}(l:K.lookup f=some ⟨oc,od,.func (W.fnOf x qual (oB st) (dS st) (bC st) .none kV doc pm an cdv ct),osl⟩)(c:W.codeIn K cdv qual=true)(k:W.keepIn K (.ref f)=true):RH K x qual st f (W.fnOf x qual (oB st) (dS st) (bC st) .none kV doc pm an cdv ct):=⟨⟨oc,od,kV,doc,pm,an,cdv,ct,osl,rfl,l,c⟩,k⟩
end
section
variable {X:Cx}
theorem pv(i:Nat){pos:Pos}(hN:↥(X.N[i]?=some x))(hv:#v[CH X.env.scope x])(hd:⇑(Zdb x))(hcd:⇑(Zcd x)):PE X (.Name x pos) (RN i):=eD hN hv hd hcd
end
def aI(H H':Hp):Prop:=∀b o,H b=some o->H' b=some o
theorem aI.refl(H:Hp):aI H H:=λ_ _ h=>h
theorem aI.seq{K:ZC}(e:aI H H')(h:eJ K H a xs):eJ K H' a xs:=by
 rcases h with (h|⟨o,h⟩)|h
 .exact .inl (.inl (e _ _ h))
 .exact .inl (.inr ⟨o,e _ _ h⟩)
 .exact .inr h
theorem SI:bootBuiltins "len"=some (.builtin "len"):=by decide +kernel
theorem CS:bootBuiltins "abs"=some (.builtin "abs"):=by decide +kernel
theorem AD:bootBuiltins "isinstance"=some (.builtin "isinstance"):=by decide +kernel
theorem aFP:bootBuiltins "all"=some (.builtin "all"):=by decide +kernel
theorem oC:bootBuiltins "list"=some (.type "list"):=by decide +kernel
theorem aFQ:bootBuiltins "str"=some (.type "str"):=by decide +kernel
def fJ(n:Nat)(x:Int):Prop:=x.natAbs<2^n
theorem fJ.le(h:fJ n y)(e:x.natAbs<=y.natAbs):fJ n x:=Č e h
theorem fJ.mono(h:fJ m x)(e:m<=n):fJ n x:=Ô h (Nat.pow_le_pow_right ⋯ e)
theorem fJ.neg(h:fJ n x):fJ n (-x):=h.le ∅
theorem fJ.add(h:fJ m x)(g:fJ n y)(e:max m n+1<=k):fJ k (x+y):=by
 have a:fJ (max m n) x:=h.mono (Nat.le_max_left ..);have b:fJ (max m n) y:=g.mono (Nat.le_max_right ..);have c:2^(max m n+1)=2^max m n+2^max m n:=by rw[Nat.pow_succ];lia
 have d:(x+y).natAbs<2^(max m n+1):=by
  rw[c];have:=Int.natAbs_add_le x y;unfold fJ at a b;lia
 exact fJ.mono (m:=max m n+1) d e
theorem fJ.sub(h:fJ m x)(g:fJ n y)(e:max m n+1<=k):fJ k (x-y):=by
 rw[Int.sub_eq_add_neg];exact h.add g.neg e
theorem fJ.mul(h:fJ m x)(g:fJ n y)(e:m+n<=k):fJ k (x*y):=by
 have d:(x*y).natAbs<2^(m+n):=by
  rw[Int.natAbs_mul,Nat.pow_add];exact Nat.mul_lt_mul'' h g
 exact fJ.mono (m:=m+n) d e
theorem fJ.mulOk(h:fJ m x)(g:fJ n y)(e:⇑(m+n<=134217728)):IntMulOk x y:=.of_le (intBits_le_iff.mpr h) (intBits_le_iff.mpr g) e
theorem fJ.log2(h:fJ n x)(e:⇑(n<=9000)):x.natAbs.log2<9000:=by
 by_cases h0:x.natAbs=0
 .rw[h0];decide
 .exact Ô ((Nat.log2_lt h0).mpr h) e
theorem aJD(h1:-(2^64)<i)(h2:i<2^64):IntMulOk i j:=.of_left (intBits_le_64 h1 h2)
theorem aJE(h1:-(2^64)<j)(h2:j<2^64):IntMulOk i j:=.of_right (intBits_le_64 h1 h2)
section
theorem ZU:j3 X (binaryOp .Mult) (rI IntMulOk λi j=>.int (i*j)):=Ķ λ_ _ _ _ _ _ _ hc q=>mul_int q hc
def Ζ(_ j:Int):Prop:=j≠0/\j.natAbs.log2<9000
theorem SJ:j3 X (binaryOp .FloorDiv) (rI Ζ λi j=>.int (i.fdiv j)):=Ķ λ_ _ _ _ _ _ _ hc q=>floordiv_int hc.1 q (.inl (PyProof.noPylong_of_log2 hc.2))
theorem SK:j3 X (compareOp .Is) (λx y H Q=>∃c d,x=.bl c/\y=.bl d/\Q (.bl (c == d)) H):=by
 intro U s σ H x y v u Q I rx ry h;let⟨c,d,rfl,rfl,q⟩:=h;cases rx;cases ry;exact is_bool (mZ I q rfl)
theorem ZV:j3 X (compareOp .IsNot) (λx y H Q=>∃c d,x=.bl c/\y=.bl d/\Q (.bl (c != d)) H):=by
 intro U s σ H x y v u Q I rx ry h;let⟨c,d,rfl,rfl,q⟩:=h;cases rx;cases ry;exact isnot_bool (mZ I q rfl)
theorem aJF{pos:Pos}(hg:Gl X x)(hm:X.mg x=none)(hv:bootBuiltins x=some (.type n))(hn:⇑(x≠"__name__"))(hd:⇑(Zdb x)):PE X (.Name x pos) (tC (.ty n)):=YU (v:=.ty n) hg hm hv rfl hn hd
end
def E9:dP->PyData
 |.inl i=>.int i
 |.inr x=>.str x
def aJG(K:ZC)(H:Hp)(a:Addr)(ks:List PyData)(xs:List V):Prop:=
 ∃(nm:Str)(fs:ZG)(C dx:Addr)(vs:List V),xs=.str nm::vs/\ks=.none::fs.map PyData.str/\fs.length=vs.length/\H a=some (.ins C dx (fs.zip vs))/\H dx=some (.own a)/\W.nsIn K mainGlobals nm=some (some (.ref C))
def aJH(H:Hp)(a:Addr)(ks:List PyData)(xs:List V):Prop:=∃(ms:List dP),ks=ms.map E9/\ms.length=xs.length/\H a=some (.dK (ms.zip xs))
mutual
def bI(K:ZC)(H:Hp):PyData->V->Prop
 |.none,v=>v=.non
 |.bool b,v=>v=.bl b
 |.int i,v=>v=.int i
 |.str x,v=>v=.str x
 |.list ds,v=>∃(a:Addr)(xs:List V),v=.ref a/\eJ K H a xs/\aD K H ds xs
 |.tuple ds,v=>∃(a:Addr)(xs:List V),v=.ref a/\rK K H a xs/\aD K H ds xs
 |.dict À,v=>∃(a:Addr)(xs:List V),v=.ref a/\(aJG K H a (À.map Prod.fst) xs\/aJH H a (À.map Prod.fst) xs)/\iN K H À xs
def aD(K:ZC)(H:Hp):List PyData->List V->Prop
 |[],xs=>xs=[]
 |d::ds,xs=>∃(x:V)(r:List V),xs=x::r/\bI K H d x/\aD K H ds r
def iN(K:ZC)(H:Hp):List (PyData×PyData)->List V->Prop
 |[],xs=>xs=[]
 |(_,d)::ds,xs=>∃(x:V)(r:List V),xs=x::r/\bI K H d x/\iN K H ds r
end
section
mutual
theorem bI.reads(I:Inv X U σ H s):∀(d:PyData)(v:V)(u:Value),d.canLay0=true->bI X.K H d v->bJ v u->∃as,Reads s.heap u d as
 |.none,v,u,_,h,r=>by
  unfold bI at h;subst h;cases (show u=Value.none from r);exact⟨_,.none⟩
 |.bool b,v,u,_,h,r=>by
  unfold bI at h;subst h;cases (show u=Value.bool b from r);exact⟨_,.bool b⟩
 |.int i,v,u,_,h,r=>by
  unfold bI at h;subst h;let⟨t,rfl⟩:=(show ∃t,u=Value.int i t from r);exact⟨_,.int i t⟩
 |.str x,v,u,_,h,r=>by
  unfold bI at h;subst h;let⟨t,rfl⟩:=(show ∃t,u=Value.str x t from r);exact⟨_,.str x t⟩
 |.list ds,v,u,l,h,r=>by
  unfold bI at h;let⟨a,xs,rfl,hs,ha⟩:=h;cases (show u=Value.ref a from r);let⟨its,rv,p,_⟩:=I.list hs;let⟨as,q⟩:=aD.reads I ds xs its (by simpa[PyData.canLay0]using l) ha rv;let⟨o,ho,hc,n,hd⟩:=p.isList;exact⟨_,.list ho hc hd (by simpa using q)⟩
 |.tuple ds,v,u,l,h,r=>by
  unfold bI at h;let⟨a,xs,rfl,hs,ha⟩:=h;cases (show u=Value.ref a from r);let⟨its,rv,p,_⟩:=I.tuple hs;let⟨as,q⟩:=aD.reads I ds xs its (by simpa[PyData.canLay0]using l) ha rv;let⟨o,ho,hc,n,hd⟩:=p;exact⟨_,.tuple ho hc hd (by simpa using q)⟩
 |.dict _,v,u,l,h,r=>by
  simp[PyData.canLay0]at l
theorem aD.reads(I:Inv X U σ H s):∀(ds:List PyData)(xs:List V)(us:ZJ),PyData.canLayAll0 ds=true->aD X.K H ds xs->bK xs us->∃as,ReadsAll s.heap us ds as
 |[],xs,us,_,h,r=>by
  unfold aD at h;subst h;cases r;exact⟨_,.nil⟩
 |d::ds,xs,us,l,h,r=>by
  unfold aD at h;let⟨x,t,rfl,hx,ht⟩:=h;simp![PyData.canLayAll0,ä]at l;cases r with
  |cons rx rt=>
   let⟨as,p⟩:=bI.reads I d x _ l.1 hx rx;let⟨bs,q⟩:=aD.reads I ds t _ l.2 ht rt;exact⟨_,.cons p q⟩
end
end
theorem gO(h:SeqAt.shaped d=true):d.canLay0=true:=by
 unfold SeqAt.shaped at h;rw[ä]at h;exact h.1
section
theorem fK(hu:X.A.units+64<cLine):j3 X (compareOp .Eq) (λx y H Q=>∃d e,bI X.K H d x/\bI X.K H e y/\SeqAt.shaped d=true/\SeqAt.shaped e=true/\Q (.bl (PyData.eqv d e)) H):=by
 intro U s σ H x y v u Q I rx ry h;let⟨d,e,hd,he,sd,se,q⟩:=h;let⟨as,ra⟩:=bI.reads I d x v (gO sd) hd rx;let⟨bs,rb⟩:=bI.reads I e y u (gO se) he ry;exact SeqAt.compareEq_shaped ra rb sd se hu (mZ I q rfl)
theorem m5(hu:X.A.units+64<cLine):j3 X (compareOp .NotEq) (λx y H Q=>∃d e,bI X.K H d x/\bI X.K H e y/\SeqAt.shaped d=true/\SeqAt.shaped e=true/\Q (.bl (!PyData.eqv d e)) H):=by
 intro U s σ H x y v u Q I rx ry h;let⟨d,e,hd,he,sd,se,q⟩:=h;let⟨as,ra⟩:=bI.reads I d x v (gO sd) hd rx;let⟨bs,rb⟩:=bI.reads I e y u (gO se) he ry;exact SeqAt.compareNe_reads ra rb (SeqAt.canLay_of_shaped sd) (SeqAt.canLay_of_shaped se) (SeqAt.room_of_shaped sd hu) (mZ I q rfl)
end
theorem cL{H:Hp}{p:Addr}(h:H p=none)(o:HO):aI H (aX H p o):=λb u q=>by rw[aH (bM q h)];exact q
theorem aI.seqT{K:ZC}(e:aI H H')(h:rK K H a xs):rK K H' a xs:=by
 rcases h with (h|⟨o,h⟩)|h
 .exact .inl (.inl (e _ _ h))
 .exact .inl (.inr ⟨o,e _ _ h⟩)
 .exact .inr h
mutual
theorem aI.rep{K:ZC}{H H':Hp}(e:aI H H'):∀(d:PyData)(v:V),bI K H d v->bI K H' d v
 |.none,v,h=>by unfold bI at h⊢;exact h
 |.bool b,v,h=>by unfold bI at h⊢;exact h
 |.int i,v,h=>by unfold bI at h⊢;exact h
 |.str x,v,h=>by unfold bI at h⊢;exact h
 |.list ds,v,h=>by
  unfold bI at h⊢;let⟨a,xs,rfl,hs,ha⟩:=h;exact⟨a,xs,rfl,e.seq hs,aI.repAll e ds xs ha⟩
 |.tuple ds,v,h=>by
  unfold bI at h⊢;let⟨a,xs,rfl,hs,ha⟩:=h;exact⟨a,xs,rfl,e.seqT hs,aI.repAll e ds xs ha⟩
 |.dict À,v,h=>by
  unfold bI at h⊢;let⟨a,xs,rfl,hs,ha⟩:=h;refine⟨a,xs,rfl,?_,aI.repKV e À xs ha⟩;rcases hs with ⟨nm,fs,C,dx,vs,h1,h2,h3,h4,h5,h6⟩|⟨ms,h1,h2,h3⟩
  .exact .inl ⟨nm,fs,C,dx,vs,h1,h2,h3,e _ _ h4,e _ _ h5,h6⟩
  .exact .inr ⟨ms,h1,h2,e _ _ h3⟩
theorem aI.repAll{K:ZC}{H H':Hp}(e:aI H H'):∀(ds:List PyData)(xs:List V),aD K H ds xs->aD K H' ds xs
 |[],xs,h=>by unfold aD at h⊢;exact h
 |d::ds,xs,h=>by
  unfold aD at h⊢;let⟨x,t,rfl,hx,ht⟩:=h;exact⟨x,t,rfl,aI.rep e d x hx,aI.repAll e ds t ht⟩
theorem aI.repKV{K:ZC}{H H':Hp}(e:aI H H'):∀(ds:List (PyData×PyData))(xs:List V),iN K H ds xs->iN K H' ds xs
 |[],xs,h=>by unfold iN at h⊢;exact h
 |(_,d)::ds,xs,h=>by
  unfold iN at h⊢;let⟨x,t,rfl,hx,ht⟩:=h;exact⟨x,t,rfl,aI.rep e d x hx,aI.repKV e ds t ht⟩
end
theorem wN{K:ZC}:∀{ks ds:List PyData}{xs:List V},ks.length=ds.length->aD K H ds xs->iN K H (ks.zip ds) xs
 |[],[],xs,_,h=>by unfold aD at h;unfold List.zip List.zipWith iN;exact h
 |k::ks,d::ds,xs,l,h=>by
  unfold aD at h;let⟨x,t,rfl,hx,ht⟩:=h;rw[á];unfold iN;exact⟨x,t,rfl,hx,wN (by simpa using l) ht⟩
theorem iN.all{K:ZC}:∀{À:List (PyData×PyData)}{xs:List V},iN K H À xs->aD K H (À.map Prod.snd) xs
 |[],xs,h=>by unfold iN at h;unfold List.map aD;exact h
 |(_,d)::ds,xs,h=>by
  unfold iN at h;let⟨x,t,rfl,hx,ht⟩:=h;rw[Î];unfold aD;exact⟨x,t,rfl,hx,iN.all ht⟩
theorem aOE(h:0<=j)(h1:j<=1000000)(h2:i.natAbs<2^64):YZ i j:=⟨h,h1,h2⟩
theorem CT{j:Nat}{v:α}(e:k=(j:Int))(h:xs[j]?=some v):atI xs k=some v:=by
 rw[e];exact eE h
def Ĺ(t b x:Int):Int:=if b<0 then -(x/(Int.gcd t b:Int))else x/(Int.gcd t b:Int)
theorem FR:Int.gcd b (a % b)=Int.gcd a b:=by
 rw[Int.emod_def,Int.gcd_sub_mul_left_right,Int.gcd_comm]
theorem FS(d:(Int.gcd t b:Int)∣x):x.fdiv (if b<0 then -(Int.gcd t b:Int)else (Int.gcd t b:Int))=Ĺ t b x:=by
 unfold Ĺ;split
 .rw[Int.fdiv_eq_ediv_of_dvd ((Int.neg_dvd).mpr d),Int.ediv_neg]
 .rw[Int.fdiv_eq_ediv_of_dvd d]
end L2
set_option maxRecDepth 100000
set_option maxHeartbeats 4000000
namespace L2
open PySem PySem.Spec PyProof.Rows
def gK(cells:List (Str×Addr)):List (Str×NameKind)->List (Str×Addr)->List (Str×Addr)
 |[],acc=>acc
 |(n,k)::r,acc=>if k == .free then (match cells.lookup n with|some a=>gK cells r ((n,a)::acc)|none=>gK cells r acc)else gK cells r acc
def freeIn(cells:List (Str×Addr))(names:List (Str×NameKind)):Prop:=∀n,(n,NameKind.free)∈names->∃c,cells.lookup n=some c
theorem t6 :∀(names:List (Str×NameKind))(acc:List (Str×Addr)),freeIn env.cells names ->
  (forIn names acc λ(x:Str×NameKind)(cs:List (Str×Addr))=>(if x.2 == .free then do let c <- cellOf env x.1;pure (ForInStep.yield ((x.1,c)::cs))else pure (ForInStep.yield cs):Sem (ForInStep (List (Str×Addr)))))=pure (gK env.cells names acc)
 |[],acc,_=>by rfl
 |(n,k)::r,acc,h=>by
  have hr:freeIn env.cells r:=λm hm=>h m (Ï _ hm);rw[List.forIn_cons];unfold gK;cases hk:k == NameKind.free with
  |false=>
   rw[Â (by simp[hk]),Â 'e'];exact t6 r acc hr
  |true=>
   rw[Á (by simp[hk]),Á rfl];have e:k=.free:=by cases k<;>first|rfl|exact absurd hk ⋯
   let⟨c,hc⟩:=h n (by rw[e];exact Ó);rw[hc];have e2:cellOf env n=pure c:=by unfold cellOf;rw[hc]
   rw[show cellOf env (n,k).1=pure c from e2];exact t6 r ((n,c)::acc) hr
theorem L3(h:freeIn env.cells scope.names):closureFor scope env=pure (gK env.cells scope.names []):=by
 have e:=t6 (env:=env) scope.names [] h;unfold closureFor;exact(congrArg (λm=>m >>= λcs=>(pure cs:Sem (List (Str×Addr)))) e).trans rfl
theorem oE :∀(names:List (Str×NameKind))(acc:List (Str×Addr)),(∀n c,(n,c)∈acc->cells.lookup n=some c)->(n,c)∈gK cells names acc->cells.lookup n=some c
 |[],acc,ha,h=>ha _ _ h
 |(m,k)::r,acc,ha,h=>by
  unfold gK at h;split at h
  .split at h
   .rename_i a hm
    refine oE r _ (λn' c' hn=>?_) h;rcases Í.mp hn with e|hn
    .cases e;exact hm
    .exact ha _ _ hn
   .exact oE r _ ha h
  .exact oE r _ ha h
theorem rR{scope:Scope}(h:(gK cells scope.names []).lookup n=some c):cells.lookup n=some c:=
 oE scope.names [] (λ_ _ h=>absurd h 'e') (ü h)
theorem oF :∀(names:List (Str×NameKind))(acc:List (Str×Addr)),(n,c)∈acc->(n,c)∈gK cells names acc
 |[],_,h=>h
 |(m,k)::r,acc,h=>by
  unfold gK;split
  .split
   .exact oF r _ (Ï _ h)
   .exact oF r _ h
  .exact oF r _ h
theorem rS(hc:cells.lookup n=some c):∀(names:List (Str×NameKind))(acc:List (Str×Addr)),(n,NameKind.free)∈names->(n,c)∈gK cells names acc
 |(m,k)::r,acc,h=>by
  unfold gK;rcases Í.mp h with e|h
  .cases e
   rw[Á ⋯,hc];exact oF r _ Ó
  .split
   .split
    .exact rS hc r _ h
    .exact rS hc r _ h
   .exact rS hc r _ h
theorem pK{α:Type}{c:α}:∀{l:List (Str×α)},(n,c)∈l->∃d,l.lookup n=some d
 |(m,d)::r,h=>by
  rw[ã];cases e:n == m with
  |true=>exact⟨d,rfl⟩
  |false=>
   rcases Í.mp h with q|q
   .cases q;simp at e
   .exact pK q
theorem wO{scope:Scope}(h:scope.names.lookup n=some .free)(hc:cells.lookup n=some c):(gK cells scope.names []).lookup n=some c:=by
 let⟨d,hd⟩:=pK (rS hc scope.names [] (ü h));have:=rR hd;rw[hc]at this;cases this;exact hd
theorem lM:(relabel scope env).names.lookup x=(scope.names.lookup x).map λk=>if (k == .free && env.scope.kind == .function && env.kindOf x == some .cell)then .cell else k:=by
 unfold relabel;show List.lookup x (scope.names.map _)=_
 induction scope.names with
 |nil=>rfl
 |cons p r ih=>
  let⟨n,k⟩:=p;show List.lookup x ((if (k == NameKind.free && env.scope.kind == .function && env.kindOf n == some .cell)=true then (n,NameKind.cell)else (n,k))::_)=_;cases hx:x == n with
  |true=>
   have e:x=n:=by simpa using hx
   subst e;cases hc:(k == NameKind.free && env.scope.kind == .function && env.kindOf x == some .cell)with
   |true=>rw[Á rfl,ã,ã];simp![beq_self_eq_true,Option.map_some,hc,if_true]
   |false=>rw[Â 'e',ã,ã];simp![beq_self_eq_true,Option.map_some,hc];rfl
  |false=>
   have e:∀k',List.lookup x ((n,k')::(r.map λ(n,k)=>if (k == NameKind.free && env.scope.kind == .function && env.kindOf n == some .cell)=true then (n,NameKind.cell)else (n,k)))=List.lookup x (r.map λ(n,k)=>if (k == NameKind.free && env.scope.kind == .function && env.kindOf n == some .cell)=true then (n,NameKind.cell)else (n,k)):=λk'=>by rw[ã,hx]
   have e2:List.lookup x ((n,k)::r)=List.lookup x r:=by rw[ã,hx]
   rw[e2,<- ih];split<;>exact e _
def m6(xs N:ZG):ZG:=N.map λn=>if xs.contains n then (".":Str)++n else n
def dJ(N xs:ZG)(names onames:List (Str×NameKind)):Bool:=
 (names.all λp=>p.2 != .cell) && (names.all λp=>p.2 != .local || names.lookup p.1 == some .local) && (names.all λp=>p.2 != .free || (onames.lookup p.1 == some .cell || onames.lookup p.1 == some .free)) &&
  xs.all (λx=>names.lookup x == some .local) && ((m6 xs N).zip N).all λp=>names.lookup p.1 == none || names.lookup p.1 == some .globalImplicit || (names.lookup p.1 == some .free && p.1 == p.2)
abbrev aQ(X:Cx)(xs:ZG)(scope:Scope)(C:Addr)(fp:ZM)(s:Shared)(H:Hp):Cx:=
 {X with N:=xs++m6 xs X.N,s₀:=s,H₀:=H,env:=compEnvC scope (gK X.env.cells scope.names []) C X.env,outer:=X.stack,ex:=fp,fn:=λ_=>false,pn:=[],xe:=λ_ _=>False}
section
variable {X:Cx}{U:ZB}{σ:St}{H H':Hp}{s s':Shared}{a:Addr}{o:HO}
theorem mR.adopt(x:mR P w H h)(hn:H a=none)(new:dQ P w (aX H a o) h a o):mR P w (aX H a o) h:=λb u e=>by
 by_cases hb:b=a
 .subst hb;rw[aM]at e;cases e;exact new
 .rw[aH hb]at e
  exact(x b u e).stay (λ_ _ _ q=>q) (λc q=>by rw[aH (bM q hn)];exact q) λc xs q=>by rw[aH (bM q hn)];exact q
theorem Inv.adopt(I:Inv X U σ H s)(hn:H a=none)(ha:X.s₀.heap.objs.size<=a)(hL:a≠X.env.locals)(hc:∀x c,X.env.cells.lookup x=some c->c≠a)(hp:∀p∈X.pn++U,p.1≠a)(new:dQ X.prog X.w (aX H a o) s.heap a o):Inv X U σ (aX H a o) s:=by
 refine⟨I.ok,I.os,I.bare,⟨I.base.keep,I.base.slot,λb u e n hx=>?_,I.base.there,λb xs e=>?_,λb u v e=>?_,λb ps e=>?_⟩,I.loc,I.cell,?_,λx c e=>?_,λp h=>?_,I.hok.adopt hn new,I.len⟩
 .rw[aH (Ì (Ô (Heap.lt_size e) ha))];exact I.base.free b u e n hx
 .have q:=I.base.tups b xs e;rw[aH (bM q hn)];exact q
 .have q:=I.base.frzs b u v e;rw[aH (bM q hn)];exact q
 .obtain⟨more,q⟩:=I.base.tbls b ps e;exact⟨more,by rw[aH (bM q hn)];exact q⟩
 .rw[aH (Ð hL)];exact I.free
 .rw[aH (hc x c e)];exact I.freeC x c e
 .obtain⟨e,n,ne,nf,d⟩:=I.pin p h
  exact⟨e,by rw[aH (hp p h)];exact n,ne,nf,d⟩
theorem vC(h:dJ N xs names on=true):∀y∈names,y.2≠.cell:=λy hy e=>by
 unfold dJ at h;simp![ä,è]at h;have:=h.1.1.1.1 y hy;rw[e]at this;exact absurd this ⋯
theorem rT(h:dJ N xs names on=true):∀y∈names,y.2=.local->names.lookup y.1=some .local:=λy hy e=>by
 unfold dJ at h;simp![ä,è]at h;have:=h.1.1.1.2 y hy;rw[e]at this;simpa using this
theorem vD(h:dJ N xs names on=true):∀n,(n,NameKind.free)∈names->on.lookup n=some .cell\/on.lookup n=some .free:=λn hn=>by
 unfold dJ at h;simp![ä,è]at h;have:=h.1.1.2 _ hn;simpa using this
theorem FT(h:dJ N xs names on=true){i:Nat}(e:(m6 xs N)[i]?=some y):(names.lookup y=some .free/\N[i]?=some y)\/names.lookup y=none\/names.lookup y=some .globalImplicit:=by
 unfold dJ at h;simp![ä]at h;have hl:(m6 xs N).length=N.length:=by unfold m6;rw[Ä]
 let⟨hi,ei⟩:=Ò.mp e;have hz:((m6 xs N).zip N)[i]?=some (y,N[i]):=by
  rw[Ĝ];exact⟨e,É (by exact ô ‹_› ‹_›)⟩
 have q:=è.mp h.2 _ (þ hz);simp![Bool.or_eq_true,ä,beq_iff_eq]at q;rcases q with (q|q)|⟨q,q2⟩
 .exact .inr (.inl q)
 .exact .inr (.inr q)
 .exact .inl ⟨q,by rw[É (by exact ô ‹_› ‹_›),<- q2]⟩
theorem Inv.freeIn{scope:Scope}(I:Inv X U σ H s)(hok:dJ X.N xs scope.names X.env.scope.names=true):freeIn X.env.cells scope.names:=λn hn=>I.ok.has n (vD hok n hn)
theorem FU(h:(relabel scope env).names.lookup x=some .cell\/(relabel scope env).names.lookup x=some .free)(hc:∀y∈scope.names,y.2≠.cell):scope.names.lookup x=some .free:=by
 rw[lM]at h;cases e:scope.names.lookup x with
 |none=>rw[e]at h;simp at h
 |some k=>
  rw[e]at h;cases k with
  |free=>rfl
  |cell=>exact absurd rfl (hc _ (ü e))
  |_=>simp at h
theorem Inv.block(I:Inv X U σ H s)(hok:dJ X.N xs scope.names X.env.scope.names=true)(hk:scope.kind=.function)(hfp:∀b∈fp,vU X U H b)(hobj:∀b∈fp,∃o,s.heap.get? b=some o)(hC:s.heap.objs.size<=C)(hns:s'.heap.Ns C m)(keep:∀b o,s.heap.get? b=some o->s'.heap.get? b=some o)(hos:s'.os=s.os)(hg:AllBare s'.gens):
  Inv 'd' [] (List.replicate xs.length none++σ) H s':=by
 have hcell:=vC hok;have hno:∀x c,(gK X.env.cells scope.names []).lookup x=some c->X.env.cells.lookup x=some c:=λx c h=>rR h;have ltf:∀b∈fp,b<s.heap.objs.size:=λb hb=>let ⟨_,e⟩:=hobj b hb;Heap.lt_size e
 refine⟨⟨I.ok.mod,hk,I.ok.glob,I.ok.blt,hC,λx y c h1 h2=>I.ok.inj x y c (hno _ _ h1) (hno _ _ h2),λx hx=>?_,λx c h _=>absurd h 'e',I.ok.hd,I.ok.frames,.inl rfl,λb hb=>⟨?_,λx c h=>(hfp b hb).2.2.2.2.1 x c (hno _ _ h)⟩,I.bs,Ø I.ok.bsz I.sz,λb u e hb=>?_,λb hb hf=>?_,I.stack,I.stkFree⟩,
  hos,hg,Un.kept keep,⟨m,hns,λi x v e1 e2 e3=>?_⟩,λx c h=>?_,I.hok.fresh hC,λx c h=>I.freeC x c (hno _ _ h),λp hp=>absurd (show p∈([]:ZB)from hp) 'e',I.hok.kept keep,?_⟩
 .have hf:=FU (show (relabel scope X.env).names.lookup x=some .cell\/(relabel scope X.env).names.lookup x=some .free from hx) hcell
  let⟨c,hc⟩:=I.freeIn hok x (ü hf);exact⟨c,wO hf hc⟩
 .exact Ì (Ô (ltf b hb) hC)
 .rcases(hfp b hb).2.2.2.1 with z|z
  .exact I.ok.noex b u e z
  .exact absurd (Ô (Heap.lt_size e) (Ø I.ok.bsz z)) (ù _)
 .rcases Í.mp (I.stkSub b hf)with z|z
  .exact(hfp b hb).2.1 z
  .exact(hfp b hb).2.2.1 z
 .have e1:(xs++m6 xs X.N)[i]?=some x:=e1
  by_cases hi:i<xs.length
  .rw[î (by simpa using hi),ă,Á hi]at e2
   cases e2
  .rw[Þ (by exact ç.mp ‹_›)]at e1
   rw[Þ (by rw[ñ];exact ç.mp ‹_›),ñ]at e2;rcases FT hok e1 with ⟨q1,q2⟩|q|q
   .have kd:=vD hok x (ü q1)
    let⟨m0,_,hl⟩:=I.loc;let⟨u,ru,lk⟩:=hl _ x v q2 e2 (by rcases kd with z|z;exact .inr (.inl z);exact .inr (.inr z))
    refine⟨u,ru,.inr ⟨?_,?_⟩⟩
    .show (relabel scope X.env).names.lookup x=some .cell\/(relabel scope X.env).names.lookup x=some .free
     rw[lM,q1];by_cases hc:(NameKind.free == NameKind.free && X.env.scope.kind == .function && X.env.kindOf x == some .cell)=true
     .left;rw[Option.map_some,Á hc]
     .right;rw[Option.map_some,Â hc]
    .rcases lk with ⟨z,_⟩|⟨_,c,hc,hcell⟩
     .have z:X.env.scope.names.lookup x=some .local:=z
      rw[z]at kd;rcases kd with kd|kd<;>cases kd
     .refine⟨c,wO q1 hc,?_⟩
      let⟨oc,hoc,hd⟩:=hcell;exact⟨oc,keep _ _ hoc,hd⟩
   all_goals
    have e3:(relabel scope X.env).names.lookup x=some .local\/(relabel scope X.env).names.lookup x=some .cell\/(relabel scope X.env).names.lookup x=some .free:=e3;rw[lM,q]at e3;simp at e3
 .obtain⟨v,oc,hoc,hd⟩:=I.cell x c (hno _ _ h)
  exact⟨v,oc,keep _ _ hoc,hd⟩
 .show (List.replicate xs.length none++σ).length=(xs++m6 xs X.N).length
  rw[Ë,Ë,ñ,I.len];unfold m6;rw[Ä]
theorem Inv.unblock(I:Inv X U σ H s)(hfp:∀b∈fp,vU X U H b)(J:Inv 'd' pins' σ' H' s'):Inv X U σ H' s':=
 I.call' (ch:=fp) J.os J.base J.hok J.bare λb hb=>⟨(hfp b hb).2.2.2.1,(hfp b hb).2.1,(hfp b hb).2.2.2.2.1,(hfp b hb).2.2.2.2.2⟩
end
theorem m7{prog:Program}{w:World}{A:Around}{R:Result->Shared->Prop}{s:Shared}{elt target iter:Expr}{ifs:List Expr}{scope:Scope}{pos:Pos}{it acc:Value}{env:Env}(I:Nat->Shared->Prop)(turn:∀n s,I n s->wpAny (model prog w) A (pyNext it) (λr s₁=>match r with
   |none=>R (.ok .next) s₁
   |some v=>wpAny (model prog w) A (letOwnedTupleGo target it v) (λ_ s₁'=>wpAny (model prog w) A (assign target env v) (λ_ s₂=>
     wpAny (model prog w) A (forIn ifs true λc r=>if r=true then do let ok <- isTrue c env (eval c env);pure (ForInStep.yield ok)else pure (ForInStep.yield r)) (λok s₃=>
      if ok=true then wpAny (model prog w) A (eval elt env) (λx s₄=>
       wpAny (model prog w) A (call (.builtin "list.append") [acc,x]) (λ_ s₅=>∃m,m<n/\I m s₅) (λ_ _=>False) s₄) (λ_ _=>False) s₃
      else ∃m,m<n/\I m s₃) (λ_ _=>False) s₂) (λ_ _=>False) s₁') (λ_ _=>False) s₁) (λ_ _=>False) s)(n:Nat)(h:I n s):codeAny (model prog w) A (.compLoop (.ListComp elt [⟨target,iter,ifs,0⟩] scope pos) 0 it acc env) R s:=by
 refine codeAny_loop rfl I (λn s hI=>?_) n h;show wpAny _ A ((compTurn (.ListComp elt [⟨target,iter,ifs,0⟩] scope pos) 0 it acc env).onRaise (λx=>do noteFrame x env;theTreesLotGoes x)) _ _ s;refine wpAny_noted ?_;rw[compTurn_list];refine wpAny_bind (wpAny_standAt (wpAny_bind (wpAny_mono (turn n s hI) (λr s₁ h₁=>?_) λ_ _ h'=>h'.elim)));cases r with
 |none=>exact wpAny_pure h₁
 |some v=>
  refine wpAny_bind (wpAny_mono h₁ (λ_ s₁' h₁'=>?_) λ_ _ h'=>h'.elim);refine wpAny_bind (wpAny_mono h₁' (λ_ s₂ h₂=>wpAny_bind (wpAny_mono h₂ (λok s₃ h₃=>?_) λ_ _ h'=>h'.elim)) λ_ _ h'=>h'.elim);cases ok with
  |false=>exact wpAny_pure ⟨rfl,h₃⟩
  |true=>
   exact wpAny_bind (wpAny_bind (wpAny_mono h₃ (λx s₄ h₄=>wpAny_bind (wpAny_mono h₄ (λ_ s₅ h₅=>wpAny_pure (wpAny_pure ⟨rfl,h₅⟩)) λ_ _ h'=>h'.elim)) λ_ _ h'=>h'.elim))
def O7(X:Cx)(ifs:List Expr)(t:TT):Prop:=
 ∀(U:ZB)(s:Shared)(σ:St)(H:Hp)(Q:Bool->Hp->Prop),Inv X U σ H s->t σ H Q ->
  wpAny 'b' X.A (forIn ifs true λc r=>if r=true then do let ok <- isTrue c X.env (eval c X.env);pure (ForInStep.yield ok)else pure (ForInStep.yield r)) (TP X U σ Q) X.xe s
theorem CU:O7 X [] (λ_ H Q=>Q true H):=λ_ _ _ H _ I h=>wpAny_tests_nil ⟨H,I,h⟩
theorem ZW(h:PT X c t):O7 X [c] t:=λU s σ H Q I hq=>wpAny_tests_one (h U s σ H Q I hq)
def L5(k:Nat)(wi:TI)(g:TG)(ti:TT)(te:TE):TE:=λσ H Q=>wi σ H λJ H1=>∃W:Nat->Nat->List V->St->Hp->Prop,(∃m,W 0 m [] (List.replicate k none++σ) H1)/\∀i m ys σ' H',W i m ys σ' H' ->
 (J.stop i H'/\∀p,H' p=none->Q (.ref p) (aX H' p (.lst ys))) \/
 (J.go i H'/\ys.length<sizeLine/\∃N:List V->St->Hp->Prop,(∀zs σ'' H'',N zs σ'' H''->∃m',m'<m/\W (i+1) m' zs σ'' H'') /\
  ∀x H2,J.yld i H' x H2->g x σ' H2 λσ2 H3=>ti σ2 H3 λb H4=>if b=true then te σ2 H4 λy H5=>N (ys++[y]) σ2 H5 else N ys σ2 H4)
section
variable {X:Cx}{pos:Pos}{tg elt iter:Expr}{ifs:List Expr}{scope:Scope}{xs:ZG}{wi:TI}{g:TG}{ti:TT}{te:TE}
theorem wP{U:ZB}{σ:St}{s:Shared}{Q:VK}{itv:Value}{E:ZA}{R:Value->Addr->Result->Shared->Prop}(hc:X.calm=true)(hk:scope.kind=.function)(hok:dJ X.N xs scope.names X.env.scope.names=true)(hg:∀C fp s H,PG 'd' tg g)(hif:∀C fp s H,O7 'd' ifs ti)(he:∀C fp s H,PE 'd' elt te)(h:ŏ X U σ tg (λJ H1=>∃W:Nat->Nat->List V->St->Hp->Prop,(∃m,W 0 m [] (List.replicate xs.length none++σ) H1)/\∀i m ys σ' H',W i m ys σ' H' ->
   (J.stop i H'/\∀p,H' p=none->Q (.ref p) (aX H' p (.lst ys))) \/
   (J.go i H'/\ys.length<sizeLine/\∃N:List V->St->Hp->Prop,(∀zs σ'' H'',N zs σ'' H''->∃m',m'<m/\W (i+1) m' zs σ'' H'') /\
    ∀x H2,J.yld i H' x H2->g x σ' H2 λσ2 H3=>ti σ2 H3 λb H4=>if b=true then te σ2 H4 λy H5=>N (ys++[y]) σ2 H5 else N ys σ2 H4)) itv s)(hR:∀D C H' m s',Inv X U σ H' s'->Q (.ref D) H'->s'.heap.Ns C m->H' C=none->X.s₀.heap.objs.size<=C->C≠X.env.locals->(∀x c,X.env.cells.lookup x=some c->c≠C)->(∀p∈X.pn++U,p.1≠C)->R (.ref D) C (.ok .next) s'):
  wpAny 'b' X.A (newList []) (λacc s₃=>wpAny 'b' X.A (newFunctionEnv scope X.env.globals (gK X.env.cells scope.names []) [] X.env.qual none .none (some X.env)) (λcenv s₄=>
   codeAny 'b' X.A (.compStart 'h' 0 itv acc {cenv with scope:=relabel scope X.env}) (R acc cenv.locals) s₄) E s₃) E s:=by
 let⟨it,fp,tn,J,H1,rfl,I,T,st0,hfp,W,⟨m0,w0⟩,turn⟩:=h;have hcell:=vC hok;refine wpAny_newObj_type (wpAny_newFunctionEnv hcell (by intro y hy;simp at hy) (λh₁ hns₁ hsb₁=>?_) hk);dsimp only at hns₁ hsb₁⊢;generalize hH2:s.heap.push {cls:=.type "list",dict:=none,data:=.seq ([]:ZJ).toArray}=G2 at hns₁ hsb₁⊢;have hC:G2.objs.size=s.heap.objs.size+1:=by rw[<- hH2,Heap.size_push]
 have hDC:s.heap.objs.size≠G2.objs.size:=by rw[hC];exact Ì (ë _)
 have hCle:s.heap.objs.size<=G2.objs.size:=by rw[hC];exact Nat.le_succ _
 have old:∀b o,s.heap.get? b=some o->h₁.get? b=some o:=λb o e=>hsb₁.extBut b o (Ì (Ô (Heap.lt_size e) hCle)) (Heap.get?_push_of_some _ (hH2▸Heap.get?_push_of_some _ e));have hacc:h₁.get? s.heap.objs.size=some {cls:=.type "list",data:=.seq ([]:ZJ).toArray 0}:=hsb₁.extBut _ _ hDC (Heap.get?_push_of_some _ (hH2▸Heap.get?_push_size _ rfl));have objs:∀b∈fp,∃o,s.heap.get? b=some o:=λb hb=>let ⟨o,e,_⟩:=T.obj 0 _ st0 b hb;⟨o,e⟩
 have ltf:∀b∈fp,b<s.heap.objs.size:=λb hb=>let ⟨_,e⟩:=objs b hb;Heap.lt_size e
 generalize hD:s.heap.objs.size=D at hC hDC hCle hacc ltf⊢;generalize hCC:G2.objs.size=C at hC hDC hCle hns₁ hsb₁⊢;have J0:Inv (aQ X xs scope C fp s H1) [] (List.replicate xs.length none++σ) H1 {s with heap:=h₁,toks:=s.toks+([]:List (Str×Value)).length}:=
  I.block hok hk hfp objs (by rw[hD];exact hCle) hns₁ old rfl I.bare
 have cD:∀x c,X.env.cells.lookup x=some c->c≠D/\c≠C:=λx c h=>by
  let⟨v,q⟩:=I.cell x c h;have:=q.lt;rw[hD]at this;exact⟨Ì this,Ì (Ô this hCle)⟩
 have pD:∀p∈X.pn++U,p.1≠D/\p.1≠C:=λp hp=>by
  have:=Heap.lt_size (I.pin p hp).1;rw[hD]at this;exact⟨Ì this,Ì (Ô this hCle)⟩
 have lL:=I.lt;have lS:=I.sz;rw[hD]at lL lS;have lSC:X.s₀.heap.objs.size<=C:=Ø lS hCle;have lLD:D≠X.env.locals:=Ü lL;have lLC:C≠X.env.locals:=Ü (Ô lL hCle);have Dfs:D∉vS X.stack:=λz=>by
  let⟨_,o,ho,_⟩:=(I.stack).mem z;have:=Heap.lt_size ho;rw[hD]at this;exact ù _ this
 have fpb:∀{H':Hp}{ob:Obj},(∀b∈fp,H' b=none)->∀b∈fp,vU (aQ X xs scope C fp s H1) [(D,ob)] H' b:=λ{H' ob}hn b hb=>
  ⟨hn b hb,Ì (Ô (ltf b hb) hCle),λz=>by
   rcases Í.mp (I.stkSub b z)with z|z
   .exact(hfp b hb).2.1 z
   .exact(hfp b hb).2.2.1 z,.inl hb,λx c h=>(hfp b hb).2.2.2.2.1 x c (rR h),λp hp=>by
    have e:p=(D,ob):=by simpa using hp
    rw[e];exact Ü (ltf b hb)⟩
 have loop:∀s₃:Shared,s₃={s with heap:=h₁,toks:=s.toks+([]:List (Str×Value)).length} ->
   codeAny 'b' X.A (.compLoop 'h' 0 (.ref it) (.ref D) (compEnvC scope (gK X.env.cells scope.names []) C X.env)) (R (.ref D) C) s₃:=by
  rintro s₃ rfl;refine m7 (λn s'=>∃i σ' H' ys its k,Inv (aQ X xs scope C fp s H1) [] σ' H' s'/\tn i s'.heap/\(∀b∈fp,H' b=none)/\W i n ys σ' H'/\bK ys its/\ys.length<=sizeLine /\
   s'.heap.get? D=some {cls:=.type "list",data:=.seq its.toArray k}/\H' D=none) ?_ m0 ⟨0,_,H1,[],[],0,J0,T.keep _ _ _ st0 λb hb o e=>old b o e,λb hb=>(hfp b hb).1,w0,.nil,é _,hacc,I.hok.fresh (by rw[hD];exact Ç _)⟩
  rintro n s1 ⟨i,σ1,K1,ys,its,k,I1,st1,fr1,w1,rv,hz,hd,nd⟩;have lys:=rv.length;generalize hob:({cls:=.type "list",data:=.seq its.toArray k}:Obj)=ob at hd;have I1':Inv (aQ X xs scope C fp s H1) [(D,ob)] σ1 K1 s1:=I1.pins_of λp hp=>by
   have e:p=(D,ob):=by simpa using hp
   rw[e];exact⟨hd,nd,hDC,Dfs,λv=>by rw[<- hob];exact λz=>by cases z⟩
  rcases turn i n ys σ1 K1 w1 with ⟨stop,qn⟩|⟨go,hlt,N,hN,step⟩
  .refine cN (T.done (aQ X xs scope C fp s H1) rfl rfl rfl hc i [(D,ob)] s1 σ1 K1 (λ_ _=>False) I1' (fpb fr1) st1 stop) λr s2 zQ=>?_;let⟨hr,I2⟩:=zQ
   subst hr;have un:=I.unblock hfp I2;have hd2:=(I2.pin (D,ob) 'e').1;let⟨m2,hn2,_⟩:=I2.loc;refine hR D C (aX K1 D (.lst ys)) m2 s2 (un.adopt nd lS lLD (λx c h=>(cD x c h).1) (λp hp=>(pD p hp).1) ⟨hz,its,k,rv,by rw[hob];exact hd2⟩) (qn D nd) hn2 ?_ lSC lLC (λx c h=>(cD x c h).2) λp hp=>(pD p hp).2;rw[aH (Ð hDC)];exact I2.free
  .refine cN (T.item (aQ X xs scope C fp s H1) rfl rfl rfl hc i [(D,ob)] s1 σ1 K1 (λ_ _=>False) I1' (fpb fr1) st1 go) λr s2 zQ=>?_;let⟨u,hr,h2⟩:=zQ
   subst hr;refine cN h2 λ_ s3 zQ=>?_;let⟨x,H3,I3,r3,y3,st3,fr3⟩:=zQ;have I3':=I3.pinned (fpb fr3) (T.obj _ _ st3);have again:∀{σ7:St}{H7:Hp}{s7:Shared},Inv (aQ X xs scope C fp s H1) ([(D,ob)]++wI fp s3.heap) σ7 H7 s7->Inv (aQ X xs scope C fp s H1) [] σ7 H7 s7/\tn (i+1) s7.heap/\(∀b∈fp,H7 b=none)/\s7.heap.get? D=some ob/\H7 D=none:=λ{σ7 H7 s7}I7=>by
    have pi:∀b∈fp,∀o,s3.heap.get? b=some o->s7.heap.get? b=some o/\H7 b=none:=λb hb o e=>by
     have q:=I7.pin (b,o) (Û _ (Û _ (p9 hb e)));exact⟨q.1,q.2.1⟩
    have pd:=I7.pin (D,ob) (Û _ (Ą _ 'e'));refine⟨I7.pins_of λp hp=>absurd hp 'e',T.keep _ _ _ st3 λb hb o e=>(pi b hb o e).1,λb hb=>?_,pd.1,pd.2.1⟩;let⟨o,e,_⟩:=T.obj _ _ st3 b hb;exact(pi b hb o e).2
   refine cN (hg C fp s H1 _ s3 σ1 H3 x u _ I3' r3 (step x H3 y3)) λ_ s4 zQ=>?_;let⟨σ4,H4,I4,q4⟩:=zQ;refine cN (hif C fp s H1 _ s4 σ4 H4 _ I4 q4) λb s5 zQ=>?_;let⟨H5,I5,q5⟩:=zQ;cases b with
   |false=>
    rw[Â à]at q5⊢;let⟨m',hm,w5⟩:=hN _ _ _ q5;let⟨a1,a2,a3,a4,a5⟩:=again I5;exact⟨m',hm,i+1,σ4,H5,ys,its,k,a1,a2,a3,w5,rv,hz,by rw[hob];exact a4,a5⟩
   |true=>
    rw[Á rfl]at q5⊢;refine cN (he C fp s H1 _ s5 σ4 H5 _ I5 q5) λy s6 zQ=>?_;let⟨yv,H6,I6,r6,q6⟩:=zQ;let⟨m',hm,w6⟩:=hN _ _ _ q6;let⟨a1,a2,a3,a4,a5⟩:=again I6;rw[<- hob]at a4;refine call_meets F.slot_list_append ⟨_,a4,rfl⟩ F.entry_list_append (F.args_list_append_2 _ _) (PySem.list_append D its.toArray k y (by rw[í];lia)) ⟨a4,?_⟩;have qd:∃k',(s6.heap.update D (Obj.mapSeq λz=>z.push y)).get? D=some {cls:=.type "list",data:=.seq (its++[y]).toArray k'}:=by
     have e:(its++[y]).toArray=its.toArray.push y:=by simp
     rw[e];exact⟨_,PySem.IsL.update a4 λz=>z.push y⟩
    let⟨k',qd⟩:=qd;refine⟨m',hm,i+1,σ4,H6,ys++[yv],its++[y],k',a1.turned (it:=D) (t':=s6.toks) (λb o hb e=>(Heap.get?_update_other s6.heap _ (Ð hb)).trans e) a5 hDC (.inr (ø hD)) (λx c h=>(cD x c (rR h)).1) (λp hp=>absurd (show p∈([]:ZB)from hp) 'e'),?_,a3,w6,rv.append (.cons r6 .nil),by rw[Ë];exact hlt,qd,a5⟩;exact T.keep _ _ _ a2 λb hb o e=>(Heap.get?_update_other s6.heap _ (λz=>by rw[<- z]at hb;exact absurd (ltf D hb) (ù _))).trans e
 exact codeAny_compStart_list (loop _ rfl) (T.self _ 0 _ _ _ (T.keep _ _ _ st0 λb hb o e=>old b o e) (loop _ rfl))
theorem FV(hc:X.calm=true)(hi:PI X tg iter wi)(hg:∀C fp s H,PG 'd' tg g)(hif:∀C fp s H,O7 'd' ifs ti)(he:∀C fp s H,PE 'd' elt te)(hk:↥(scope.kind=.function))(hok:↥(dJ X.N xs scope.names X.env.scope.names=true))(hs: ~~~(Zfi iter X.env)):
  PE X 'h' (L5 xs.length wi g ti te):=by
 intro U s σ H Q I h;rw[eval_ListComp];refine wpAny_comprehension_free (use:=none) rfl hs (L3 (I.freeIn hok)) hk (rT hok) (cN (hi U s σ H _ I h) λv s1 h1=>cN h1 λitv s2 h2=>?_);refine wP (Q:=Q) hc hk hok hg hif he h2 λD C H' m s' I' q hn c1 c2 c3 c4 c5=>?_;exact⟨m,hn,λh' sb=>⟨.ref D,H',I'.turned (it:=C) (t':=s'.toks) (λb o hb e=>(sb.2 b hb).trans e) c1 c3 (.inr c2) c4 c5,rfl,q⟩⟩
theorem lN{pos' spos:Pos}(hc:X.calm=true)(hN:X.N.Nodup)(hx:X.N[i]?=some x)(hl:X.env.scope.names.lookup x=some .local)(hi:PI X tg iter wi)(hg:∀C fp s H,PG 'd' tg g)(hif:∀C fp s H,O7 'd' ifs ti)(he:∀C fp s H,PE 'd' elt te)(hsw:↥(swapsWith 'h' (some (.Name x pos')) spos.line X.env=pure true))(hk:↥(scope.kind=.function))(hok:↥(dJ X.N xs scope.names X.env.scope.names=true))(hs: ~~~(Zfi iter X.env)):
  PS X (.Assign [.Name x pos'] 'h' spos) (YY (L5 xs.length wi g ti te) (pE i)):=by
 intro U s σ H D I h;rw[exec_Assign_Name_used _ _ _ _ hsw];refine wpAny_bind (wpAny_standAt (wpAny_bind ?_));show wpAny _ X.A (do let _ <- comprehension 'h' scope X.env _ (newList []) false (eval iter X.env) (some (assign (.Name x pos') X.env))) _ _ s;refine wpAny_bind (wpAny_mono (wpAny_comprehension_free (use:=some (assign (.Name x pos') X.env)) (Q:=λ_ s'=>SP X U D .next s') rfl hs (L3 (I.freeIn hok)) hk (rT hok)
  (cN (hi U s σ H _ I h) λv s1 h1=>cN h1 λitv s2 h2=>?_)) (λ_ s' hq=>wpAny_pure (wpAny_pure hq)) λ_ _ e=>e)
 refine wP (Q:=λv H'=>D.nx (σ.set i (some v)) H') hc hk hok hg hif he h2 λD' C H' m s' I' q hn c1 c2 c3 c4 c5=>?_;show wpAny _ X.A (assign (.Name x pos') X.env (.ref D')) _ _ _;refine wpAny_assign_Name (A1 I' hN hx (.inl hl) (v:=.ref D') rfl (λs'' I'' zQ=>?_) (.inr hl));let⟨a,sb,ha⟩:=zQ;have hCa:C≠a:=by
  rcases ha with e|e
  .rw[e];exact c3
  .exact Ð (c4 _ _ e)
 exact⟨m,hn.sameBut sb hCa,λh' sb'=>⟨_,H',I''.turned (it:=C) (t':=s''.toks) (λb o hb e=>(sb'.2 b hb).trans e) c1 c3 (.inr c2) c4 c5,q⟩⟩
end
def mT(h:Heap)(e:Addr)(cls:Value)(ch:ZM):Prop:=
 ∃oe vs,h.get? e=some oe/\(oe.cls=cls/\oe.dict=none)/\oe.data=.fields vs/\1<vs.size /\
  ((vs[1]?=some .none/\ch=[e])\/∃T oT ts fl,vs[1]?=some (.ref T)/\ch=[e,T]/\T≠e/\h.get? T=some oT/\oT.data=.fields ts/\ts[3]?=some fl)
theorem wQ(o:Obj)(f:Array Value->Array Value):(o.mapFields f).dict=o.dict:=by
 unfold Obj.mapFields;split<;>rfl
structure XT(fs ch:ZM)(h h':Heap):Prop where
 keep:∀b o,b∉ch->b∉fs->h.get? b=some o->h'.get? b=some o
 slot:∀b o,b∉ch->h.get? b=some o->∃sl,h'.get? b=some {o with slots:=sl}
 there:∀b o,h.get? b=some o->∃o',h'.get? b=some o'
theorem XT.refl:XT fs ch h h:=⟨λ_ _ _ _ e=>e,λ_ o _ e=>⟨o.slots,e⟩,λ_ o e=>⟨o,e⟩⟩
theorem XT.trans{fs ch ch':ZM}{h h1 h2:Heap}(a:XT fs ch h h1)(b:XT fs ch' h1 h2)(hc:∀x∈ch',x∈ch\/h.get? x=none):XT fs ch h h2 where
 keep:=λx o n1 n2 e=>b.keep x o (λm=>(hc x m).elim n1 λz=>by rw[z]at e;cases e) n2 (a.keep x o n1 n2 e)
 slot:=λx o n1 e=>by
  let⟨sl,e1⟩:=a.slot x o n1 e;let⟨sl2,e2⟩:=b.slot x _ (λm=>(hc x m).elim n1 λz=>by rw[z]at e;cases e) e1;exact⟨sl2,e2⟩
 there:=λx o e=>by
  let⟨o1,e1⟩:=a.there x o e;exact b.there x o1 e1
section
variable {M:Model}{A:Around}{E:ZA}{s:Shared}{base:Heap}{env:Env}{outer:List Env}{L e:Addr}{cls:Value}{ch:ZM}{Q:Unit->Shared->Prop}
theorem FunFrames.noFields{h:Heap}(hl:h.FunFrames base l)(he:h.get? e=some o)(hd:o.data=.fields vs):e∉vS l:=λhm=>by
 let⟨_,o',ho,hnf⟩:=hl.mem hm
 grind
theorem L6{oe:Obj}{vs:Array Value}{head:Value}{hadNext:Bool}(hfr:A.frames=some (env::outer))(hl:s.heap.FunFrames base (env::outer))(hf:env.frame=some L)(he:s.heap.get? e=some oe)(hd:oe.data=.fields vs)(hsz:1<vs.size)(h:∀h',XT (vS (env::outer)) [e] s.heap h'->(∃oe' vs' T oT ts,h'.get? e=some oe'/\(oe'.cls=oe.cls/\oe'.dict=oe.dict)/\oe'.data=.fields vs'/\1<vs'.size/\vs'[1]?=some (.ref T)/\T≠e/\s.heap.get? T=none/\s.heap.objs.size<=T/\h'.get? T=some oT/\oT.data=.fields ts/\ts[3]?=some (rawInt L))->Q () {s with heap:=h'}):
  wpAny M A (do let a <- frameOf env;let pl <- entryPlaceOf L hadNext;let b <- EntryCells.newEntry head a .none (rawInt L) .none pl;setField (.ref e) 1 b) Q E s:=by
 have hene:=FunFrames.noFields hl he hd;refine wpAny_bind (wpAny_frameOf_fun hfr hl hf λh₁ hs₁=>?_);refine wpAny_bind (wpAny_entryPlaceOf λpl hpl=>?_);unfold EntryCells.newEntry newFields;refine wpAny_bind (wpAny_newObj_type ?_ (hpl.sizeOk5 _ _ _ _ _));have he₁:h₁.get? e=some oe:=(hs₁.2.1 e hene).trans he;have he₂:=Heap.get?_push_of_some (h:=h₁) {cls:=.type "traceback",dict:=none,data:=.fields ([head,.ref L,.none,rawInt L,.none]++(if pl.isEmpty then List.replicate 6 Value.none else pl)).toArray} he₁;refine wpAny_setField he₂ hd hsz (h _ ?_ ?_)
 all_goals have hTe:h₁.objs.size≠e:=Ü (Heap.lt_size he₁)
 all_goals have hd₃:=Obj.data_mapFields hd (·.setIfInBounds 1 (Value.ref h₁.objs.size))
 all_goals have he₃:=Heap.get?_update_self (Obj.mapFields (·.setIfInBounds 1 (Value.ref h₁.objs.size))) he₂ (Obj.isFreed_of_fields hd₃)
 .have keep:∀b o,b≠e->h₁.get? b=some o ->
   ((h₁.push {cls:=.type "traceback",dict:=none,data:=.fields ([head,.ref L,.none,rawInt L,.none]++(if pl.isEmpty then List.replicate 6 Value.none else pl)).toArray}).update e (Obj.mapFields (·.setIfInBounds 1 (Value.ref h₁.objs.size)))).get? b=some o:=
   λb o hbe hb=>by
    rw[Heap.get?_update_other _ _ (Ð hbe)];exact Heap.get?_push_of_some _ hb
  refine⟨λb o n1 n2 q=>keep b o (by simpa using n1) ((hs₁.2.1 b n2).trans q),λb o n1 q=>?_,λb o q=>?_⟩
  .obtain⟨sl,q1⟩:=hs₁.2.2 b o q
   exact⟨sl,keep b _ (by simpa using n1) q1⟩
  .by_cases hb:b=e
   .subst hb;exact⟨_,he₃⟩
   .obtain⟨sl,q1⟩:=hs₁.2.2 b o q
    exact⟨_,keep b _ hb q1⟩
 .have hT₃:=(Heap.get?_update_other (h₁.push {cls:=.type "traceback",dict:=none,data:=.fields ([head,.ref L,.none,rawInt L,.none]++(if pl.isEmpty then List.replicate 6 Value.none else pl)).toArray})
   (Obj.mapFields (·.setIfInBounds 1 (Value.ref h₁.objs.size))) (Ð hTe)).trans (Heap.get?_push_size h₁ rfl)
  have hsz1:s.heap.objs.size<=h₁.objs.size:=ø hs₁.1.symm;refine⟨_,_,h₁.objs.size,_,_,he₃,⟨Obj.cls_mapFields _ _,wQ _ _⟩,hd₃,by simpa using hsz,by simp[hsz],hTe,?_,hsz1,hT₃,rfl,by first|(simp;done)|(rcases hpl with rfl|⟨_,_,_,_,_,_,_,rfl⟩<;>simp)⟩;cases q:s.heap.get? h₁.objs.size with
  |none=>rfl
  |some o=>exact absurd (Heap.lt_size q) (Nat.not_lt_of_le hsz1)
def wR(h0 h:Heap)(e:Addr)(cls:Value)(ch ch':ZM)(fl:Value):Prop:=
 ∃oe vs T oT ts,h.get? e=some oe/\(oe.cls=cls/\oe.dict=none)/\oe.data=.fields vs/\1<vs.size/\vs[1]?=some (.ref T)/\ch'=[e,T]/\T≠e/\h.get? T=some oT/\oT.data=.fields ts/\ts[3]?=some fl/\(T∈ch\/(h0.get? T=none/\h0.objs.size<=T))
theorem wR.exc(x:wR h0 h e cls ch ch' fl):mT h e cls ch':=by
 let⟨oe,vs,T,oT,ts,h1,h2,h3,h4,h5,h6,h7,h8,h9,h10,_⟩:=x;exact⟨oe,vs,h1,h2,h3,h4,.inr ⟨T,oT,ts,fl,h5,h6,h7,h8,h9,h10⟩⟩
theorem wR.new(x:wR h0 h e cls ch ch' fl)(he:e∈ch):∀b∈ch',b∈ch\/(h0.get? b=none/\h0.objs.size<=b):=by
 let⟨oe,vs,T,oT,ts,h1,h2,h3,h4,h5,h6,h7,h8,h9,h10,h11⟩:=x;subst h6;intro b hb;simp![Í,Ý,or_false]at hb;rcases hb with rfl|rfl
 .exact .inl he
 .exact h11
theorem mT.mem(x:mT h e cls ch):e∈ch:=by
 obtain⟨_,_,_,_,_,_,⟨_,rfl⟩|⟨_,_,_,_,_,rfl,_⟩⟩:=x<;>simp
theorem FunFrames.xt(hl:h.FunFrames base l)(hx:XT (vS l) ch h h')(hc:∀b∈ch,∃o vs,h.get? b=some o/\o.data=.fields vs):h'.FunFrames base l:=
 hl.of_keeps λb o ho hn=>by
  let⟨sl,q⟩:=hx.slot b o (λm=>by grind) ho;exact⟨_,q,rfl⟩
theorem mT.recs(x:mT h e cls ch):∀b∈ch,∃o vs,h.get? b=some o/\o.data=.fields vs:=by
 obtain⟨oe,vs,h1,h2,h3,h4,⟨h5,rfl⟩|⟨T,oT,ts,fl,h5,rfl,h6,h7,h8,h9⟩⟩:=x
 all_goals grind
theorem SL(hfr:A.frames=some (env::outer))(hl:s.heap.FunFrames base (env::outer))(hf:env.frame=some L)(x:mT s.heap e cls ch)(h:∀h' ch',XT (vS (env::outer)) ch s.heap h'->wR s.heap h' e cls ch ch' (rawInt L)->Q () {s with heap:=h'}):wpAny M A (noteFrame (.ref e) env) Q E s:=by
 have hrec:=x.recs;obtain⟨oe,vs,he,⟨rfl,hdi⟩,hd,hsz,⟨h1,rfl⟩|⟨T,oT,ts,fl,h1,rfl,hTe,hT,hdT,h3⟩⟩:=x
 .unfold noteFrame
  simp![hf];refine wpAny_bind (wpAny_field he hd h1 ?_);rw[Â ⋯];refine L6 hfr hl hf he hd hsz λh' xt m=>?_;let⟨oe',vs',T,oT,ts,q1,q2,q3,q4,q5,q6,q7,q8,q9,q10,q11⟩:=m;exact h h' [e,T] xt ⟨oe',vs',T,oT,ts,q1,⟨q2.1,q2.2.trans hdi⟩,q3,q4,q5,rfl,q6,q9,q10,q11,.inr ⟨q7,q8⟩⟩
 .unfold noteFrame
  simp![hf];refine wpAny_bind (wpAny_field he hd h1 ?_);rw[Á (show (Value.ref T != Value.none)=true from by simp)];refine wpAny_bind (wpAny_field hT hdT h3 ?_);by_cases hfl:fl=rawInt L
  .subst hfl
   rw[Á (show (rawInt L == rawInt L)=true from by simp)];exact wpAny_pure (h s.heap [e,T] XT.refl ⟨oe,vs,T,oT,ts,he,⟨rfl,hdi⟩,hd,hsz,h1,rfl,hTe,hT,hdT,h3,.inl 'e'⟩)
  .rw[Â (show ¬((fl == rawInt L)=true)from λz=>hfl (beq_iff_eq.mp z))]
   refine wpAny_bind (wpAny_setField hT hdT (Array.getElem?_eq_some_iff.mp h3).1 ?_);have other:∀b,b≠T->(s.heap.update T (Obj.mapFields (·.setIfInBounds 3 Value.none))).get? b=s.heap.get? b:=λb hb=>Heap.get?_update_other _ _ (Ð hb);have hself:=Heap.get?_update_self (Obj.mapFields (·.setIfInBounds 3 Value.none)) hT (Obj.isFreed_of_fields (Obj.data_mapFields hdT _));have xt1:XT (vS (env::outer)) [e,T] s.heap (s.heap.update T (Obj.mapFields (·.setIfInBounds 3 Value.none))):=by
    refine⟨λb o n1 n2 q=>(other b (by simp at n1;exact n1.2)).trans q,λb o n1 q=>⟨o.slots,(other b (by simp at n1;exact n1.2)).trans q⟩,λb o q=>?_⟩;by_cases hb:b=T
    .grind
    .grind
   refine L6 hfr (FunFrames.xt hl xt1 hrec) hf ((other e (Ð hTe)).trans he) hd hsz λh' xt m=>?_;let⟨oe',vs',T',oT',ts',q1,q2,q3,q4,q5,q6,q7,q8,q9,q10,q11⟩:=m;have hn:s.heap.get? T'=none:=by
    cases z:s.heap.get? T' with
    |none=>rfl
    |some o=>
     grind
   have hs':s.heap.objs.size<=T':=by
    have q8:(s.heap.update T (Obj.mapFields (·.setIfInBounds 3 Value.none))).objs.size<=T':=q8
    rwa [Heap.size_after_update]at q8
   exact h h' [e,T'] (xt1.trans xt λb hb=>by grind) ⟨oe',vs',T',oT',ts',q1,⟨q2.1,q2.2.trans hdi⟩,q3,q4,q5,rfl,q6,q9,q10,q11,.inr ⟨hn,hs'⟩⟩
theorem wS{fs:ZM}(x:mT s.heap e cls ch)(h:∀h',XT fs ch s.heap h'->mT h' e cls ch->Q () {s with heap:=h'}):wpAny M A (setFlight (.ref e) none) Q E s:=by
 obtain⟨oe,vs,he,⟨rfl,hdi⟩,hd,hsz,⟨h1,rfl⟩|⟨T,oT,ts,fl,h1,rfl,hTe,hT,hdT,h3⟩⟩:=x
 .unfold setFlight
  refine wpAny_bind (wpAny_field he hd h1 ?_);rw[Â ⋯];exact wpAny_pure (h s.heap XT.refl ⟨oe,vs,he,⟨rfl,hdi⟩,hd,hsz,.inl ⟨h1,rfl⟩⟩)
 .unfold setFlight
  refine wpAny_bind (wpAny_field he hd h1 ?_);rw[Á (show (Value.ref T != Value.none)=true from by simp)];have hsz3:=(Array.getElem?_eq_some_iff.mp h3).1;have other:∀b,b≠T->(s.heap.update T (Obj.mapFields (·.setIfInBounds 3 ((none:Option Addr).elim Value.none λf=>rawInt f)))).get? b=s.heap.get? b:=λb hb=>Heap.get?_update_other _ _ (Ð hb);have hself:=Heap.get?_update_self (Obj.mapFields (·.setIfInBounds 3 ((none:Option Addr).elim Value.none λf=>rawInt f))) hT (Obj.isFreed_of_fields (Obj.data_mapFields hdT _));refine wpAny_setField hT hdT hsz3 (h _ ?_ ?_)
  .refine⟨λb o n1 n2 q=>(other b (by simp at n1;exact n1.2)).trans q,λb o n1 q=>⟨o.slots,(other b (by simp at n1;exact n1.2)).trans q⟩,λb o q=>?_⟩
   grind
  .exact⟨oe,vs,(other e (Ð hTe)).trans he,⟨rfl,hdi⟩,hd,hsz,.inr ⟨T,_,_,_,h1,rfl,hTe,hself,Obj.data_mapFields hdT _,by simp[hsz3];rfl⟩⟩
theorem ZX(hfr:A.frames=some (env::outer))(hl:s.heap.FunFrames base (env::outer))(hf:env.frame=some L)(x:mT s.heap e cls ch)(h:∀h' ch',XT (vS (env::outer)) ch s.heap h'->mT h' e cls ch'->(∀b∈ch',b∈ch\/(s.heap.get? b=none/\s.heap.objs.size<=b))->Q () {s with heap:=h'}):wpAny M A (leaving env (.ref e)) Q E s:=by
 have hm:=x.mem;unfold leaving;refine wpAny_bind (SL hfr hl hf x λh1 ch1 xt1 m1=>?_);have hn:=m1.new hm;refine wS (fs:=vS (env::outer)) m1.exc λh2 xt2 e2=>?_;exact h h2 ch1 (xt1.trans xt2 λb hb=>(hn b hb).imp id (·.1)) e2 hn
end
section
variable {X:Cx}{U:ZB}{σ:St}{H H':Hp}{s:Shared}{h':Heap}{ch:ZM}{b:Addr}
structure pL(X:Cx)(U:ZB)(H:Hp)(b:Addr):Prop where
 un:H b=none
 new:b∈X.ex\/X.s₀.heap.get? b=none
 fr:b≠X.env.locals
 cell:∀x c,X.env.cells.lookup x=some c->c≠b
 pin:∀p∈X.pn++U,p.1≠b
theorem dQ.there(x:dQ P w H h a o):∃ob,h.get? a=some ob:=by
 cases o with
 |lst xs=>let⟨_,_,_,_,e⟩:=x;exact⟨_,e⟩
 |tup xs=>let⟨_,_,_,_,e,_⟩:=x;exact⟨_,e⟩
 |dK À=>let⟨_,_,_,_,o,_,_,e,_⟩:=x;exact⟨_,e⟩
 |dT À=>let⟨_,_,_,_,o,_,_,e,_⟩:=x;exact⟨_,e⟩
 |set S n=>let⟨o,_,_,_,e,_⟩:=x;exact⟨_,e⟩
 |ins C dx fs=>let⟨_,_,_,e,_⟩:=x;exact⟨_,e⟩
 |own y=>let⟨_,e⟩:=x;exact⟨_,e⟩
 |xd fs=>let⟨_,⟨_,_,_,e,_⟩,_⟩:=x;exact⟨_,e⟩
 |rng lo hi=>let⟨_,_,_,e⟩:=x;exact⟨_,e⟩
 |frz o u=>exact⟨_,x.1⟩
 |tbl ps=>exact⟨_,x⟩
 |lam t u q=>let⟨_,e,_⟩:=x;exact⟨_,e⟩
 |met f y=>exact⟨_,x⟩
 |ext φ=>exact x.2.1
theorem mR.none(x:mR P w H h)(e:h.get? a=Option.none):H a=Option.none:=by
 cases q:H a with
 |none=>rfl
 |some u=>
  let⟨o,z⟩:=(x a u q).there;rw[e]at z;cases z
theorem pL.of(I:Inv X U σ H s)(hn:H' b=none)(h:s.heap.get? b=none):pL X U H' b:=by
 refine⟨hn,?_,λe=>?_,λx c e z=>?_,λp hp z=>?_⟩
 .by_cases hx:b∈X.ex
  .exact .inl hx
  .refine .inr ?_
   cases q:X.s₀.heap.get? b with
   |none=>rfl
   |some o=>
    let⟨o',e⟩:=I.base.there b o q hx;rw[h]at e;cases e
 .obtain⟨m,⟨o,es,ep,ho,_⟩,_⟩:=I.loc
  grind
 .obtain⟨v,o,ho,_⟩:=I.cell x c e
  rw[z,h]at ho;cases ho
 .have:=(I.pin p hp).1
  grind
theorem XT.hok(I:Inv X U σ H s)(x:XT (vS X.stack) ch s.heap h')(hc:∀b∈ch,H b=none):mR X.prog X.w H h':=λa o e=>
 (I.hok a o e).stay (λb u hb q=>x.keep b u (λm=>by
  grind) (λm=>by
  have:=I.stkFree b m
  grind) q) (λ_ q=>q) λ_ _ q=>q
theorem Inv.xt(I:Inv X U σ H s)(x:XT (vS X.stack) ch s.heap h')(hc:∀b∈ch,pL X U H b):Inv X U σ H {s with heap:=h'}:=by
 have nl:∀b o,X.s₀.heap.get? b=some o->b≠X.env.locals:=λb o q e=>ù _ (Ô (Heap.lt_size q) (by rw[e];exact I.ok.above));have nc:∀b o,X.s₀.heap.get? b=some o->b∉X.ex->b∉ch:=λb o q hx m=>by rw[(hc b m).new.resolve_left hx]at q;cases q
 have cells:∀c v,(∃y,X.env.cells.lookup y=some c)->s.heap.IsCell c v->h'.IsCell c v:=λc v⟨y,e⟩⟨o,ho,hd⟩=>by
  let⟨sl,q⟩:=x.slot c o (λm=>(hc c m).cell y c e rfl) ho;exact⟨_,q,hd⟩
 refine⟨I.ok,I.os,I.bare,⟨λb o q n hf hx=>x.keep b o (nc b o q hx) (λz=>(Í.mp (I.stkSub b z)).elim (nl b o q) hf) (I.base.keep b o q n hf hx),λb o q n hf hx=>?_,I.base.free,λb o q hx=>?_,I.base.tups,I.base.frzs,I.base.tbls⟩,?_,λy c e=>?_,I.free,I.freeC,λp hp=>?_,x.hok I λb hb=>(hc b hb).un,I.len⟩
 .obtain⟨sl,e⟩:=I.base.slot b o q n hf hx
  let⟨sl2,e2⟩:=x.slot b _ (nc b o q hx) e;exact⟨sl2,e2⟩
 .obtain⟨o1,e1⟩:=I.base.there b o q hx
  exact x.there b o1 e1
 .obtain⟨m,⟨o,es,ep,ho,r⟩,hl⟩:=I.loc
  let⟨sl,q⟩:=x.slot X.env.locals o (λmm=>(hc _ mm).fr rfl) ho;refine⟨m,⟨_,es,ep,q,r⟩,λi y v e1 e2 e3=>?_⟩;let⟨u,r1,lk⟩:=hl i y v e1 e2 e3;refine⟨u,r1,?_⟩;rcases lk with lk|⟨lk,c,c1,c2⟩
  .exact .inl lk
  .exact .inr ⟨lk,c,c1,cells c _ ⟨y,c1⟩ c2⟩
 .obtain⟨v,q⟩:=I.cell y c e
  exact⟨v,cells c v ⟨y,e⟩ q⟩
 .obtain⟨e,n,ne,nf,d⟩:=I.pin p hp
  exact⟨x.keep p.1 p.2 (λm=>(hc p.1 m).pin p hp rfl) (λz=>(Í.mp (I.stkSub p.1 z)).elim ne nf) e,n,ne,nf,d⟩
def SM(X:Cx)(U:ZB)(H:Hp)(s:Shared)(nm:Str)(e:Value):Prop:=
 ∃a cls ch,e=.ref a/\W.nsIn X.K mainGlobals nm=some (some cls)/\mT s.heap a cls ch/\∀b∈ch,pL X U H b
end
abbrev D:=PyData
abbrev DS:=List (ZL)
inductive Res(α:Type) where
 |ok (a:α) (δ:DS)
 |err (x:D) (δ:DS)
 |stuck
def Res.bind{α β:Type}:Res α->(α->DS->Res β)->Res β
 |.ok a δ,k=>k a δ
 |.err x δ,_=>.err x δ
 |.stuck,_=>.stuck
abbrev M(α:Type):=DS->Res α
structure b8 where
 F0:Hp
 H0:Hp
 g0:Addr->Option (Nat×ZH)
 ps:ZH
 σ0:St
 owp:ZH
 wf:∀a i q,g0 a=some (i,q)->i∈ps
abbrev ř:=Nat×ZH
abbrev ZP:=Addr->Option ř
def kd:Nat->Nat
 |20=>2
 |30=>3
 |_=>0
def ch:Nat->Nat->Nat
 |20,1=>1
 |20,2=>1
 |20,_=>0
 |30,_=>0
 |n,_=>n-1
def dL(nm:Str)(fs:ZG)(ds:ZI):D:=.dict ((.none,.str nm)::(fs.map PyData.str).zip ds)
def kG(ms:List dP)(ds:ZI):D:=.dict ((ms.map E9).zip ds)
abbrev SN:=Addr×ZH×HO
def Nd(K:ZC)(k:Nat)(d:D)(ds:ZI)(v:V)(vs:List V)(cs:List SN):Prop:=match k with
 |0=>∃a,d=.list ds/\v=.ref a/\cs=[(a,[],.lst vs)]
 |1=>∃a,d=.tuple ds/\v=.ref a/\cs=[(a,[],.tup vs)]
 |2=>∃a nm fs C dx,d=dL nm fs ds/\v=.ref a/\fs.length=ds.length/\W.nsIn K mainGlobals nm=some (some (.ref C))/\cs=[(a,[],.ins C dx (fs.zip vs)),(dx,[1000],.own a)]
 |_=>∃a ms,d=kG ms ds/\v=.ref a/\ms.length=ds.length/\cs=[(a,[],.dK (ms.zip vs))]
def iQ(K:ZC)(F H:Hp)(g:ZP)(i:Nat):Nat->Nat->ZH->D->V->Prop
 |_,0,_,d,v=>bI K F d v
 |0,_+1,_,_,_=>False
 |f+1,c+1,p,d,v=>∃(ds:ZI)(vs:List V)(cs:List SN),Nd K (kd (c+1)) d ds v vs cs/\(∀x∈cs,g x.1=some (i,p++x.2.1)/\H x.1=some x.2.2/\F x.1=none)/\ds.length=vs.length /\
   ∀(k:Nat)(d':D)(v':V),ds[k]?=some d'->vs[k]?=some v'->iQ K F H g i f (ch (c+1) k) (p++[k]) d' v'
def aZ(K:ZC)(F H:Hp)(g:ZP)(i:Nat)(n:Nat)(p:ZH)(d:D)(v:V):Prop:=iQ K F H g i n n p d v
def m8:Str:="place_below"
def kH:Str:="place_below.<locals>.<lambda>"
def CV:List Stmt->Option Pos
 |[_,.Return (some (.Call _ _ (⟨_,.Lambda _ _ _ pos,_⟩::_) _)) _]=>some pos
 |_=>none
def jO(K:ZC):Option (Addr×Addr×Pos):=match W.nsIn K mainGlobals m8 with
 |some (some (.ref f))=>(match K.lookup f with
  |some ⟨_,_,.func fd,_⟩=>(match fd.body,W.tabIn K m8 with
   |.stmts b,some (c,P)=>(match CV b with
    |some pos=>some (c,P,pos)
    |none=>none)
   |_,_=>none)
  |_=>none)
 |_=>none
def YI(K:ZC)(F:Hp):Prop:=∀c P pos,jO K=some (c,P,pos)->F P=some (.lam (rawInt pos.line) (rawInt pos.col) kH)
theorem YI.mono{K:ZC}(h:YI K F)(s:aI F F'):YI K F':=λc P pos e=>s _ _ (h c P pos e)
def BB(K:ZC)(F0 F:Hp):Prop:=YI K F0/\aI F0 F
theorem BB.trans'{K:ZC}(a:BB K H H1)(b:aI H1 H2):BB K H H2:=⟨a.1,λc o h=>b c o (a.2 c o h)⟩
theorem BB.lm{K:ZC}(a:BB K H H1):YI K H1:=a.1.mono a.2
structure cI(K:ZC)(Z:b8)(ow:ZH)(g:ZP)(F H:Hp)(σ:St)(δ:DS):Prop where
 sub:aI F H
 f0:BB K Z.F0 F
 kept:∀b o,Z.g0 b=none->Z.H0 b=some o->H b=some o
 new:∀a,Z.F0 a=none->Z.H0 a≠none->F a=none
 there:∀b,Z.H0 b≠none->H b≠none
 lab:∀a i p,g a=some (i,p)->Z.H0 a=none\/∃q,Z.g0 a=some (i,q)
 len:δ.length=σ.length
 par:∀i∈Z.ps,σ[i]?=Z.σ0[i]?/\ow.getD i 0=Z.owp.getD i 0
 slot:∀(i:Nat)(d:D),δ[i]?=some (some d)->∃v,σ[i]?=some (some v)/\aZ K F H g i (ow.getD i 0) [] d v
def cP(K:ZC)(Z:b8)(ow:ZH)(F H:Hp)(σ:St)(δ:DS):Prop:=∃g,cI K Z ow g F H σ δ
def gJ(K:ZC)(Z:b8)(ow:ZH)(n:Nat)(d:D)(v:V)(F H:Hp)(σ:St)(δ:DS):Prop:=∃g,cI K Z ow g F H σ δ/\aZ K F H g 1000 n [] d v
theorem aI.trans'(a:aI H H1)(b:aI H1 H2):aI H H2:=λc o h=>b c o (a c o h)
theorem aD.len{K:ZC}:∀{ds:ZI}{vs:List V},aD K F ds vs->ds.length=vs.length
 |[],vs,h=>by unfold aD at h;rw[h];rfl
 |d::ds,vs,h=>by
  unfold aD at h;let⟨x,r,rfl,_,h⟩:=h;rw[Õ,Õ,aD.len h]
theorem aD.get{K:ZC}:∀{ds:ZI}{vs:List V}{i:Nat}{d:D},aD K F ds vs->ds[i]?=some d->∃v,vs[i]?=some v/\bI K F d v
 |d::ds,vs,0,d',h,e=>by
  unfold aD at h
  grind
 |d::ds,vs,i+1,d',h,e=>by
  unfold aD at h;let⟨x,r,rfl,hx,h⟩:=h;exact aD.get (i:=i) h e
theorem aD.of{K:ZC}{ds:ZI}(hl:ds.length=vs.length)(h:∀(k:Nat)(d:D)(v:V),ds[k]?=some d->vs[k]?=some v->bI K F d v):aD K F ds vs:=by
 induction ds generalizing vs with
 |nil=>
  cases vs with
  |nil=>unfold aD;rfl
  |cons v vs=>cases hl
 |cons d ds ih=>
  cases vs with
  |nil=>cases hl
  |cons v vs=>
   unfold aD;exact⟨v,vs,rfl,h 0 d v rfl rfl,ih (Nat.succ.inj hl) λk d' v' e1 e2=>h (k+1) d' v' e1 e2⟩
theorem aD.both{K:ZC}{ds:ZI}(h:aD K F ds vs)(k:Nat)(d:D)(v:V)(e1:ds[k]?=some d)(e2:vs[k]?=some v):bI K F d v:=by
 let⟨v',e,r⟩:=h.get e1
 grind
theorem lQ{K:ZC}:aD K F [] []:=by unfold aD;rfl
theorem lR{K:ZC}(h:bI K F d v)(t:aD K F ds vs):aD K F (d::ds) (v::vs):=by unfold aD;exact⟨v,vs,rfl,h,t⟩
theorem aD.app{K:ZC}:∀{ds es:ZI}{vs ws:List V},aD K F ds vs->aD K F es ws->aD K F (ds++es) (vs++ws)
 |[],es,vs,ws,h,t=>by unfold aD at h;rw[h];exact t
 |d::ds,es,vs,ws,h,t=>by
  unfold aD at h;let⟨x,r,rfl,hx,h⟩:=h;exact lR hx (aD.app h t)
theorem aD.take{K:ZC}(n:Nat)(h:aD K F ds vs):aD K F (ds.take n) (vs.take n):=
 aD.of (by rw[ï,ï,h.len]) λk d v e1 e2=>by
  rw[List.getElem?_take]at e1 e2;split at e1
  .rw[Á (by assumption)]at e2;exact h.both k d v e1 e2
  .cases e1
theorem aD.drop{K:ZC}(n:Nat)(h:aD K F ds vs):aD K F (ds.drop n) (vs.drop n):=
 aD.of (by rw[ā,ā,h.len]) λk d v e1 e2=>by
  rw[List.getElem?_drop]at e1 e2;exact h.both _ d v e1 e2
theorem L7:∀{c k:Nat},ch (c+1) k<=c:=by
 intro c k;unfold ch;split<;>lia
theorem iQ.trans{K:ZC}{g g':ZP}(hF:aI F F')(h:∀a p o,g a=some (i,p)->H a=some o->F a=none->g' a=some (j,q++p)/\H' a=some o/\F' a=none)(r:iQ K F H g i f c p d v):iQ K F' H' g' j f c (q++p) d v:=by
 induction f generalizing c p d v with
 |zero=>
  cases c with
  |zero=>exact hF.rep d v r
  |succ c=>exact r.elim
 |succ f ih=>
  cases c with
  |zero=>exact hF.rep d v r
  |succ c=>
   let⟨ds,vs,cs,nd,hc,hl,r⟩:=r;refine⟨ds,vs,cs,nd,λx hx=>?_,hl,λk d' v' q1 q2=>?_⟩
   .obtain⟨a1,a2,a3⟩:=hc x hx
    rw[List.append_assoc];exact h _ _ _ a1 a2 a3
   .rw[List.append_assoc]
    exact ih (r k d' v' q1 q2)
theorem iQ.fuel{K:ZC}(h1:c<=f)(h2:c<=f')(r:iQ K F H g i f c p d v):iQ K F H g i f' c p d v:=by
 induction f generalizing c f' p d v with
 |zero=>
  cases c with
  |zero=>unfold iQ at r⊢;exact r
  |succ c=>exact r.elim
 |succ f ih=>
  cases c with
  |zero=>unfold iQ at r⊢;exact r
  |succ c=>
   cases f' with
   |zero=>exact absurd h2 (Nat.not_succ_le_zero _)
   |succ f'=>
    let⟨ds,vs,cs,nd,hc,hl,r⟩:=r;exact⟨ds,vs,cs,nd,hc,hl,λk d' v' q1 q2=>ih (Ø L7 (Nat.le_of_succ_le_succ h1)) (Ø L7 (Nat.le_of_succ_le_succ h2)) (r k d' v' q1 q2)⟩
theorem aZ.open{K:ZC}(h:aZ K F H g i (c+1) p d v):
  ∃(ds:ZI)(vs:List V)(cs:List SN),Nd K (kd (c+1)) d ds v vs cs/\(∀x∈cs,g x.1=some (i,p++x.2.1)/\H x.1=some x.2.2/\F x.1=none)/\ds.length=vs.length /\
   ∀(k:Nat)(d':D)(v':V),ds[k]?=some d'->vs[k]?=some v'->aZ K F H g i (ch (c+1) k) (p++[k]) d' v':=by
 let⟨ds,vs,cs,nd,hc,hl,r⟩:=h;exact⟨ds,vs,cs,nd,hc,hl,λk d' v' q1 q2=>iQ.fuel L7 (Ç _) (r k d' v' q1 q2)⟩
theorem aZ.shut{K:ZC}{F H:Hp}{g:ZP}{i c:Nat}{p:ZH}{d:D}{v:V}{ds:ZI}{vs:List V}{cs:List SN}(nd:Nd K (kd (c+1)) d ds v vs cs)(hc:∀x∈cs,g x.1=some (i,p++x.2.1)/\H x.1=some x.2.2/\F x.1=none)(hl:ds.length=vs.length)(r:∀(k:Nat)(d':D)(v':V),ds[k]?=some d'->vs[k]?=some v'->aZ K F H g i (ch (c+1) k) (p++[k]) d' v'):aZ K F H g i (c+1) p d v:=
 ⟨ds,vs,cs,nd,hc,hl,λk d' v' q1 q2=>iQ.fuel (Ç _) L7 (r k d' v' q1 q2)⟩
theorem aZ.lst{K:ZC}{i c m:Nat}(h:aZ K F H g i (c+1) p d v)(hk:↥(kd (c+1)=0))(hm:∀k,ch (c+1) k=m:=by intro k;rfl):
  ∃(a:Addr)(ds:ZI)(vs:List V),d=.list ds/\v=.ref a/\g a=some (i,p)/\H a=some (.lst vs)/\F a=none/\ds.length=vs.length /\
   ∀(k:Nat)(d':D)(v':V),ds[k]?=some d'->vs[k]?=some v'->aZ K F H g i m (p++[k]) d' v':=by
 let⟨ds,vs,cs,nd,hc,hl,r⟩:=h.open;rw[hk]at nd;let⟨a,rfl,rfl,rfl⟩:=nd;let⟨a1,a2,a3⟩:=hc _ (ó.mpr rfl);exact⟨a,ds,vs,rfl,rfl,by simpa using a1,a2,a3,hl,λk d' v' q1 q2=>by rw[<- hm k];exact r k d' v' q1 q2⟩
theorem aZ.mkL{K:ZC}{g:ZP}(h:∃(a:Addr)(ds:ZI)(vs:List V),d=.list ds/\v=.ref a/\g a=some (i,p)/\H a=some (.lst vs)/\F a=none/\ds.length=vs.length /\
   ∀(k:Nat)(d':D)(v':V),ds[k]?=some d'->vs[k]?=some v'->aZ K F H g i m (p++[k]) d' v')(hk:↥(kd (c+1)=0))(hm:∀k,ch (c+1) k=m:=by intro k;rfl):aZ K F H g i (c+1) p d v:=by
 let⟨a,ds,vs,e1,e2,e3,e4,e5,e6,h⟩:=h;refine aZ.shut (ds:=ds) (vs:=vs) (cs:=[(a,[],.lst vs)]) (by rw[hk];exact⟨a,e1,e2,rfl⟩) (λx hx=>?_) e6 λk d' v' q1 q2=>by rw[hm k];exact h k d' v' q1 q2
 rw[ó.mp hx];exact⟨by simpa using e3,e4,e5⟩
theorem aZ.keepJ{K:ZC}{g g':ZP}(hF:aI F F')(h:∀a p o,g a=some (i,p)->H a=some o->F a=none->g' a=some (j,p)/\H' a=some o/\F' a=none)(r:aZ K F H g i n p d v):aZ K F' H' g' j n p d v:=
 iQ.trans (q:=[]) hF h r
theorem aZ.mono{K:ZC}(hF:aI F F')(hg:∀a l,l.1=i->g a=some l->g' a=some l)(hn:∀a l,l.1=i->g a=some l->F a=none->F' a=none)(hH:∀a l o,l.1=i->g a=some l->H a=some o->H' a=some o)(r:aZ K F H g i n p d v):aZ K F' H' g' i n p d v:=r.keepJ hF λa p o e1 e2 e3=>⟨hg a _ rfl e1,hH a _ _ rfl e1 e2,hn a _ rfl e1 e3⟩
theorem aZ.relab{K:ZC}{g g':ZP}(hg:∀a p,g a=some (i,p)->g' a=some (j,p))(r:aZ K F H g i n p d v):aZ K F H g' j n p d v:=
 r.keepJ (λ_ _ z=>z) λa p o e1 e2 e3=>⟨hg a p e1,e2,e3⟩
theorem Nd.rep{K:ZC}{F:Hp}{k:Nat}{d:D}{ds:ZI}{v:V}{vs:List V}{cs:List SN}(nd:Nd K k d ds v vs cs)(hc:∀x∈cs,F x.1=some x.2.2)(hl:ds.length=vs.length)(r:aD K F ds vs):bI K F d v:=by
 unfold Nd at nd;split at nd
 .obtain⟨a,rfl,rfl,rfl⟩:=nd
  unfold bI;exact⟨a,vs,rfl,eJ.of (hc _ (ó.mpr rfl)),r⟩
 .obtain⟨a,rfl,rfl,rfl⟩:=nd
  unfold bI;exact⟨a,vs,rfl,rK.of (hc _ (ó.mpr rfl)),r⟩
 .obtain⟨a,nm,fs,C,dx,rfl,rfl,hfl,hC,rfl⟩:=nd
  have h1:=hc _ (Ó);have h2:=hc _ (Ï _ (ó.mpr rfl));unfold dL bI;refine⟨a,.str nm::vs,rfl,.inl ⟨nm,fs,C,dx,vs,rfl,?_,by grind,h1,h2,hC⟩,?_⟩
  .rw[Î,ď 'k']
  .unfold iN
   exact⟨_,_,rfl,by unfold bI;rfl,wN 'k' r⟩
 .obtain⟨a,ms,rfl,rfl,hm,rfl⟩:=nd
  unfold kG bI;refine⟨a,vs,rfl,.inr ⟨ms,?_,by grind,hc _ (ó.mpr rfl)⟩,wN 'k' r⟩;rw[ď 'k']
theorem iQ.froze{K:ZC}{g:ZP}(hF:aI F F')(h:∀a p o,g a=some (i,p)->H a=some o->F a=none->F' a=some o):
  ∀{f c:Nat}{p:ZH}{d:D}{v:V},iQ K F H g i f c p d v->bI K F' d v
 |0,0,_,d,v,r=>hF.rep d v r
 |_+1,0,_,d,v,r=>hF.rep d v r
 |_+1,_+1,p,d,v,⟨ds,vs,cs,nd,hc,hl,r⟩=>nd.rep (λx hx=>by
   let⟨a1,a2,a3⟩:=hc x hx;exact h _ _ _ a1 a2 a3) hl (aD.of hl λk d' v' q1 q2=>iQ.froze hF h (r k d' v' q1 q2))
def YJ(g:ZP)(i:Nat)(F H:Hp):Hp:=λb=>open Classical in if ∃p,g b=some (i,p)then (if F b=none then H b else F b)else F b
theorem aFR{g:ZP}{i:Nat}{F H:Hp}{b:Addr}{p:ZH}(h:g b=some (i,p))(hn:F b=none):YJ g i F H b=H b:=by
 unfold YJ;rw[Á ⟨p,h⟩,Á hn]
theorem L8{g:ZP}{i:Nat}{F H:Hp}{b:Addr}(h:∀p,g b≠some (i,p)):YJ g i F H b=F b:=by
 unfold YJ;rw[Â λzQ=>by let⟨p,e⟩:=zQ;exact h p e]
theorem nA:aI F (YJ g i F H):=λb o e=>by
 unfold YJ
 simp_all
theorem ZY(hs:aI F H):aI (YJ g i F H) H:=λb o e=>by
 unfold YJ at e;split at e
 .split at e
  .exact e
  .exact hs b o e
 .exact hs b o e
theorem aZ.freeze{K:ZC}(r:aZ K F H g i n p d v):bI K (YJ g i F H) d v:=
 iQ.froze nA (λa p o e1 e2 e3=>by rw[aFR e1 e3];exact e2) r
section
variable {K:ZC}{Z:b8}{ow:ZH}{g:ZP}{F H:Hp}{σ:St}{δ:DS}
def ĕ(g:ZP)(i:Nat):ZP:=λb=>open Classical in if ∃p,g b=some (i,p)then none else g b
theorem CW{g:ZP}{i:Nat}{a:Addr}{l:ř}(h:l.1≠i)(e:g a=some l):ĕ g i a=some l:=by
 unfold ĕ
 grind
theorem CY(e:ĕ g i a=some l):g a=some l/\l.1≠i:=by
 unfold ĕ at e;split at e
 all_goals grind
theorem cI.freeze(R:cI K Z ow g F H σ δ)(i:Nat)(hP:i∉Z.ps):cI K Z (ow.set i 0) (ĕ g i) (YJ g i F H) H σ δ:=by
 refine⟨ZY R.sub,R.f0.trans' nA,R.kept,λa h1 h2=>?_,R.there,λa j p e=>R.lab a j p (CY e).1,R.len,λj hj=>⟨(R.par j hj).1,?_⟩,λj d e=>?_⟩
 .have q:∀p,g a≠some (i,p):=λp e=>(R.lab a i p e).elim h2 λ⟨q,z⟩=>hP (Z.wf a i q z)
  rw[L8 q];exact R.new a h1 h2
 .have:j≠i:=λe=>hP (by rw[<- e];exact hj)
  rw[Ê,ß (Ð this),<- Ê];exact(R.par j hj).2
 .obtain⟨v,e1,o⟩:=R.slot j d e
  refine⟨v,e1,?_⟩;by_cases hj:j=i
  .subst hj
   have:(ow.set j 0).getD j 0=0:=by
    rw[Ê,č];split
    .split<;>rfl
    .grind
   rw[this];exact o.freeze
  .have:(ow.set i 0).getD j 0=ow.getD j 0:=by rw[Ê,Ê,ß (Ð hj)]
   rw[this];exact o.mono nA (λa l hl e=>CW (by rw[hl];exact hj) e) (λa l hl e hn=>by rw[L8 (λp q=>by grind)];exact hn) λ_ _ _ _ _ h=>h
structure aO(Z:b8)(ow:ZH):Prop where
 ow:ow.length<=1000
 ps:1000∉Z.ps
theorem gJ.freeze(S:aO Z ow)(R:gJ K Z ow n d v F H σ δ):∃F',aI F F'/\gJ K Z ow 0 d v F' H σ δ:=by
 let⟨g,R,o⟩:=R;have R':=R.freeze 1000 S.ps;rw[List.set_eq_of_length_le S.ow]at R';exact⟨_,nA,_,R',o.freeze⟩
theorem gJ.rel(R:gJ K Z ow n d v F H σ δ):cP K Z ow F H σ δ:=let ⟨g,R,_⟩:=R;⟨g,R⟩
theorem gJ.rep(R:gJ K Z ow 0 d v F H σ δ):bI K F d v:=let ⟨_,_,o⟩:=R;o
theorem cP.x(R:cP K Z ow F H σ δ)(h:bI K F d v):gJ K Z ow 0 d v F H σ δ:=let ⟨g,R⟩:=R;⟨g,R,h⟩
theorem cP.sub(R:cP K Z ow F H σ δ):aI F H:=let ⟨_,R⟩:=R;R.sub
theorem cI.laid(R:cI K Z ow g F H σ δ)(hp:H p=none):cI K Z ow g (aX F p o) (aX H p o) σ δ:=by
 have fp:F p=none:=by
  cases e:F p with
  |none=>rfl
  |some u=>rw[R.sub p u e]at hp;cases hp
 have z:Z.H0 p=none:=by
  cases e:Z.H0 p with
  |none=>rfl
  |some u=>exact absurd hp (R.there p (by rw[e];simp))
 refine⟨λb u e=>?_,R.f0.trans' (cL fp o),λb u n e=>?_,λa h1 h2=>?_,λb h=>?_,R.lab,R.len,R.par,λi d e=>?_⟩
 .by_cases hb:b=p
  .subst hb;rw[aM]at e⊢;exact e
  .rw[aH hb]at e⊢;exact R.sub b u e
 .have:b≠p:=λq=>by rw[q,z]at e;cases e
  rw[aH this];exact R.kept b u n e
 .have:a≠p:=λq=>h2 (by rw[q,z])
  rw[aH this];exact R.new a h1 h2
 .have:b≠p:=λq=>h (by rw[q,z])
  rw[aH this];exact R.there b h
 .obtain⟨v,e1,ho⟩:=R.slot i d e
  refine⟨v,e1,?_⟩;refine ho.keepJ (cL fp o) λa q u e1 e2 e3=>?_;have:a≠p:=λz=>by rw[z,hp]at e2;cases e2
  exact⟨e1,by rw[aH this];exact e2,by rw[aH this];exact e3⟩
theorem cP.laid(R:cP K Z ow F H σ δ)(hp:H p=none):cP K Z ow (aX F p o) (aX H p o) σ δ:=let ⟨g,R⟩:=R;⟨g,R.laid hp⟩
theorem cP.fnone(R:cP K Z ow F H σ δ)(hp:H p=none):F p=none:=by
 cases e:F p with
 |none=>rfl
 |some u=>rw[R.sub p u e]at hp;cases hp
theorem cP.newList(S:aO Z ow)(R:cP K Z ow F H σ δ)(hp:H p=none)(h:aD K F ds vs):gJ K Z ow 1 (.list ds) (.ref p) F (aX H p (.lst vs)) σ δ:=by
 have fp:=R.fnone hp;let⟨g,R⟩:=R;have z:Z.H0 p=none:=by
  cases e:Z.H0 p with
  |none=>rfl
  |some u=>exact absurd hp (R.there p (by rw[e];simp))
 refine⟨λb=>if b=p then some (1000,[])else ĕ g 1000 b,⟨R.sub.trans' (cL hp _),R.f0,λb u n e=>?_,R.new,λb h=>?_,λa i q e=>?_,R.len,R.par,λi d e=>?_⟩,?_⟩
 .have:b≠p:=λq=>by rw[q,z]at e;cases e
  rw[aH this];exact R.kept b u n e
 .have:b≠p:=λq=>h (by rw[q,z])
  rw[aH this];exact R.there b h
 .split at e
  .rename_i q;rw[q];exact .inl z
  .exact R.lab a i q (CY e).1
 .obtain⟨v,e1,o⟩:=R.slot i d e
  refine⟨v,e1,?_⟩;by_cases hi:ow.getD i 0=0
  .rw[hi]at o⊢;exact o
  .have hi':i<1000:=by
    by_cases hl:i<ow.length
    .exact Ô hl S.ow
    .exact absurd (by rw[Ê,æ (by exact ç.mp ‹_›)];rfl) hi
   refine o.keepJ (λ_ _ z=>z) λa q u e1 e2 e3=>?_;have:a≠p:=λz=>by rw[z,hp]at e2;cases e2
   exact⟨by rw[Â this];exact CW (by show i≠1000;exact Ì ‹_›) e1,by rw[aH this];exact e2,e3⟩
 .refine aZ.mkL (m:=0) ?_
  exact⟨p,ds,vs,rfl,rfl,by rw[Á rfl],aM,fp,h.len,λk d' v' q1 q2=>h.both k d' v' q1 q2⟩
end
theorem PE.mono(h:PE X e t)(hm:∀σ H Q,t' σ H Q->t σ H Q):PE X e t':=λU s σ H Q I q=>h U s σ H Q I (hm σ H Q q)
theorem PT.mono(h:PT X e t)(hm:∀σ H Q,t' σ H Q->t σ H Q):PT X e t':=λU s σ H Q I q=>h U s σ H Q I (hm σ H Q q)
theorem PA.mono(h:PA X es t)(hm:∀σ H Q,t' σ H Q->t σ H Q):PA X es t':=λpos U s σ H Q I q=>h pos U s σ H Q I (hm σ H Q q)
theorem PS.mono{st:Stmt}(h:PS X st t)(hm:∀D σ H,t' D σ H->t D σ H):PS X st t':=λU s σ H D I q=>h U s σ H D I (hm D σ H q)
theorem E8.mono{st:List Stmt}(h:E8 X st t)(hm:∀D σ H,t' D σ H->t D σ H):E8 X st t':=λU s σ H D I q=>h U s σ H D I (hm D σ H q)
def XP(X:Cx)(Z:b8)(U:ZB)(F:Hp)(x:D)(δ:DS)(e:Value)(s:Shared):Prop:=
 ∃nm H F' σ,x=.str nm/\Inv X U σ H s/\cP X.K Z Z.owp F' H σ δ/\aI F F'/\SM X U H s nm e
structure iV(X:Cx)(Z:b8)(ow:ZH)(F:Hp)(x:D)(δ:DS):Prop where
 out:∀U e s,XP X Z U F x δ e s->X.xe e s
theorem iV.mono(h:iV X Z ow F x δ)(s:aI F F'):iV X Z ow F' x δ:=⟨λU e st z=>by
 let⟨nm,H,F1,σ,h1,h2,h3,h4,h5⟩:=z;exact h.out U e st ⟨nm,H,F1,σ,h1,h2,h3,s.trans' h4,h5⟩⟩
theorem iV.cast(h:iV X Z ox F x δ):iV X Z ow F x δ:=⟨h.out⟩
def YK(Z:b8):Bool:=(List.range Z.owp.length).all λi=>Z.ps.contains i || Z.owp.getD i 0 == 0
theorem aFS(h:YK Z=true)(hi:i∉Z.ps):Z.owp.getD i 0=0:=by
 by_cases hl:i<Z.owp.length
 .have:=è.mp h i (List.mem_range.mpr hl)
  grind
 grind
section
variable {K:ZC}{Z:b8}{ow:ZH}{g:ZP}{F H:Hp}{σ:St}{δ:DS}
def ZZ(ps:ZH)(g:ZP)(F H:Hp):Hp:=λb=>open Classical in if ∃i p,g b=some (i,p)/\i∉ps then (if F b=none then H b else F b)else F b
def SO(ps:ZH)(g:ZP):ZP:=λb=>open Classical in if ∃i p,g b=some (i,p)/\i∉ps then none else g b
theorem rV:aI F (ZZ ps g F H):=λb o e=>by
 unfold ZZ
 simp_all
theorem Z0(hs:aI F H):aI (ZZ ps g F H) H:=λb o e=>by
 unfold ZZ at e;split at e
 .split at e
  .exact e
  .exact hs b o e
 .exact hs b o e
theorem aZ.freezeN(hi:i∉ps)(r:aZ K F H g i n p d v):bI K (ZZ ps g F H) d v:=
 iQ.froze rV (λa p o e1 e2 e3=>by unfold ZZ;rw[Á ⟨i,p,e1,hi⟩,Á e3];exact e2) r
theorem cP.toP(hz:YK Z=true)(R:cP K Z ow F H σ δ):∃F',aI F F'/\cP K Z Z.owp F' H σ δ:=by
 let⟨g,R⟩:=R;refine⟨ZZ Z.ps g F H,rV,SO Z.ps g,Z0 R.sub,R.f0.trans' rV,R.kept,λa h1 h2=>?_,R.there,λa i p e=>?_,R.len,λi hi=>⟨(R.par i hi).1,rfl⟩,λi d e=>?_⟩
 .unfold ZZ
  rw[Â]
  .exact R.new a h1 h2
  .rintro⟨i,p,e,hi⟩
   rcases R.lab a i p e with z|⟨q,z⟩
   .exact h2 z
   .exact hi (Z.wf a i q z)
 .unfold SO at e
  split at e
  .cases e
  .exact R.lab a i p e
 .obtain⟨v,e1,o⟩:=R.slot i d e
  refine⟨v,e1,?_⟩;by_cases hi:i∈Z.ps
  .rw[<- (R.par i hi).2]
   refine o.mono rV (λa l hl e=>?_) (λa l hl e hn=>?_) λ_ _ _ _ _ h=>h
   .unfold SO
    grind
   .unfold ZZ
    grind
  .rw[aFS hz hi]
   exact o.freezeN hi
end
def kD(X:Cx)(Z:b8)(ow:ZH)(n:Nat)(r:Res D)(F:Hp)(σ:St)(Q:VK):Prop:=match r with
 |.ok d δ=>∀v H' F',gJ X.K Z ow n d v F' H' σ δ->aI F F'->Q v H'
 |.err x δ=>iV X Z ow F x δ
 |.stuck=>False
def tD(X:Cx)(Z:b8)(ow:ZH)(n:Nat)(f:M D):TE:=λσ H Q=>∃F δ,cP X.K Z ow F H σ δ/\kD X Z ow n (f δ) F σ Q
def DE(X:Cx)(Z:b8)(ow:ZH)(n:Nat)(e:Expr)(f:M D):Prop:=PE X e (tD X Z ow n f)
def kT(X:Cx)(Z:b8)(ow:ZH)(r:Res Bool)(F:Hp)(σ:St)(Q:Bool->Hp->Prop):Prop:=match r with
 |.ok b δ=>∀H' F',cP X.K Z ow F' H' σ δ->aI F F'->Q b H'
 |.err x δ=>iV X Z ow F x δ
 |.stuck=>False
def tT(X:Cx)(Z:b8)(ow:ZH)(f:M Bool):TT:=λσ H Q=>∃F δ,cP X.K Z ow F H σ δ/\kT X Z ow (f δ) F σ Q
def DT(X:Cx)(Z:b8)(ow:ZH)(e:Expr)(f:M Bool):Prop:=PT X e (tT X Z ow f)
inductive Arg where
 |own (i:Nat)
 |val (f:M D)
def rW(K:ZC)(F:Hp)(σ:St):List Arg->List (ZL)->List V->Prop
 |[],[],[]=>True
 |.own i::as,none::ds,v::vs=>σ[i]?=some (some v)/\rW K F σ as ds vs
 |.val _::as,some d::ds,v::vs=>bI K F d v/\rW K F σ as ds vs
 |_,_,_=>False
def cG:List Arg->M (List (ZL))
 |[]=>λδ=>.ok [] δ
 |.own i::as=>λδ=>match δ[i]? with
  |some (some _)=>(cG as δ).bind λds δ'=>.ok (none::ds) δ'
  |_=>.stuck
 |.val f::as=>λδ=>(f δ).bind λd δ1=>(cG as δ1).bind λds δ2=>.ok (some d::ds) δ2
def kA(X:Cx)(Z:b8)(ow:ZH)(as:List Arg)(r:Res (List (ZL)))(F:Hp)(σ:St)(Q:List V->Hp->Prop):Prop:=match r with
 |.ok ds δ=>∀vs H' F',cP X.K Z ow F' H' σ δ->aI F F'->rW X.K F' σ as ds vs->Q vs H'
 |.err x δ=>iV X Z ow F x δ
 |.stuck=>False
def ĺ(X:Cx)(Z:b8)(ow:ZH)(as:List Arg):TA:=λσ H Q=>∃F δ,cP X.K Z ow F H σ δ/\kA X Z ow as (cG as δ) F σ Q
def DA(X:Cx)(Z:b8)(ow:ZH)(es:List Expr)(as:List Arg):Prop:=PA X es (ĺ X Z ow as)
section
variable {X:Cx}{Z:b8}{ow:ZH}{pos:Pos}
theorem kD.mono(h:kD X Z ow n r F σ Q)(s:aI F F1)(q:∀v H',Q v H'->Q' v H'):kD X Z ow n r F1 σ Q':=by
 cases r with
 |ok d δ=>exact λv H' F' R s'=>q v H' (h v H' F' R (s.trans' s'))
 |err x δ=>exact iV.mono h s
 |stuck=>exact h
theorem kT.mono{Q Q':Bool->Hp->Prop}(h:kT X Z ow r F σ Q)(s:aI F F1)(q:∀v H',Q v H'->Q' v H'):kT X Z ow r F1 σ Q':=by
 cases r with
 |ok d δ=>exact λH' F' R s'=>q _ H' (h H' F' R (s.trans' s'))
 |err x δ=>exact iV.mono h s
 |stuck=>exact h
def bD(i:Nat):M D:=λδ=>match δ[i]? with
 |some (some d)=>.ok d δ
 |_=>.stuck
def dC(d:D):M D:=λδ=>.ok d δ
theorem qC(i:Nat){x:Str}(ho:↥(ow.getD i 0=0))(hN:↥(X.N[i]?=some x))(hv:#v[CH X.env.scope x])(hd:⇑(Zdb x))(hcd:⇑(Zcd x)):DE X Z ow 0 (.Name x pos) (bD i):=
 (eD hN hv hd hcd).mono λσ H Q h=>by
  let⟨F,δ,R,h⟩:=h;unfold bD at h;cases e:δ[i]? with
  |none=>rw[e]at h;exact h.elim
  |some o=>
   cases o with
   |none=>rw[e]at h;exact h.elim
   |some d=>
    rw[e]at h;let⟨g,R⟩:=R;let⟨v,e1,o⟩:=R.slot i d e;rw[ho]at o;exact⟨v,e1,h v H F ⟨g,R,o⟩ λ_ _ z=>z⟩
theorem nB(h:PE X e (tC v))(hr:∀F,bI X.K F d v):DE X Z ow 0 e (dC d):=h.mono λσ H Q h=>by
 let⟨F,δ,⟨g,R⟩,h⟩:=h;exact h v H F ⟨g,R,hr F⟩ λ_ _ z=>z
theorem aJ:DE X Z ow 0 (.Constant (.int i) j pos) (dC (.int i)):=nB aEP λF=>by unfold bI;rfl
theorem FW{b:Bool}:DE X Z ow 0 (.Constant (.bool b) j pos) (dC (.bool b)):=nB aIM λF=>by unfold bI;rfl
theorem wT:DE X Z ow 0 (.Constant .none j pos) (dC .none):=nB aEQ λF=>by unfold bI;rfl
theorem cO:DE X Z ow 0 (.Constant (.str x) j pos) (dC (.str x)):=nB aER λF=>by unfold bI;rfl
def iW(op:D->D->ZL)(f g:M D):M D:=λδ=>(f δ).bind λx δ1=>(g δ1).bind λy δ2=>match op x y with
 |some z=>.ok z δ2
 |none=>.stuck
def oG(X:Cx)(r:R2)(n:Nat)(op:D->D->ZL):Prop:=∀(Z:b8)(ow:ZH)(F H:Hp)(σ:St)(δ:DS)(a b:D)(x y:V)(d:D)(Q:VK),aO Z ow->cP X.K Z ow F H σ δ->bI X.K F a x->bI X.K F b y->op a b=some d ->
 (∀v H' F',gJ X.K Z ow n d v F' H' σ δ->aI F F'->Q v H')->r x y H Q
theorem CZ(S:aO Z ow)(os:oG X r n op)(h:tD X Z ow n (iW op f g) σ H Q):ħ r (tD X Z ow 0 f) (tD X Z ow 0 g) σ H Q:=by
 let⟨F,δ,R,h⟩:=h;unfold iW at h;refine⟨F,δ,R,?_⟩;cases e:f δ with
 |stuck=>rw[e]at h;exact h.elim
 |err x δ1=>rw[e]at h;exact h
 |ok d1 δ1=>
  rw[e]at h;intro x H1 F1 R1 s1;refine⟨F1,δ1,R1.rel,?_⟩;simp![Res.bind]at h;cases e2:g δ1 with
  |stuck=>rw[e2]at h;exact h.elim
  |err x δ2=>rw[e2]at h;exact iV.mono h s1
  |ok d2 δ2=>
   rw[e2]at h;simp![Res.bind]at h;intro y H2 F2 R2 s2;cases e3:op d1 d2 with
   |none=>rw[e3]at h;exact h.elim
   |some d=>
    rw[e3]at h;exact os Z ow F2 H2 σ δ2 d1 d2 x y d Q S R2.rel (s2.rep _ _ R1.rep) R2.rep e3 λv H' F' R' s'=>h v H' F' R' (s1.trans' (s2.trans' s'))
theorem vE(S:aO Z ow)(ho:j3 X (binaryOp o) r)(os:oG X r n op)(ha:DE X Z ow 0 a f)(hb:DE X Z ow 0 b g):DE X Z ow n (.BinOp a o b pos) (iW op f g):=
 (aIZ ho ha hb).mono λ_ _ _ h=>CZ S os h
theorem wU(S:aO Z ow)(ho:j3 X (compareOp o) r)(os:oG X r 0 op)(ha:DE X Z ow 0 a f)(hb:DE X Z ow 0 b g)(hm:behindInMarks o b=false):DE X Z ow 0 (.Compare a [o] [b] pos) (iW op f g):=
 (Y2 ho ha hb hm).mono λ_ _ _ h=>CZ S os h
def dB(f:M D):M Bool:=λδ=>(f δ).bind λd δ1=>match d with
 |.bool b=>.ok b δ1
 |_=>.stuck
theorem L9{Q:Bool->Hp->Prop}(h:tT X Z ow (dB f) σ H Q):tD X Z ow 0 f σ H (λx H'=>∃k,x=.bl k/\Q k H'):=by
 let⟨F,δ,R,h⟩:=h;unfold dB at h;refine⟨F,δ,R,?_⟩;cases e:f δ with
 |stuck=>rw[e]at h;exact h.elim
 |err x δ1=>rw[e]at h;exact h
 |ok d1 δ1=>
  rw[e]at h;intro x H1 F1 R1 s1;simp![Res.bind]at h;cases d1 with
  |bool k=>
   have q:=R1.rep;unfold bI at q;exact⟨k,q,h H1 F1 R1.rel s1⟩
  |_=>exact h.elim
theorem bE(S:aO Z ow)(ho:j3 X (compareOp o) r)(os:oG X r 0 op)(ha:DE X Z ow 0 a f)(hb:DE X Z ow 0 b g)(hm:behindInMarks o b=false):DT X Z ow (.Compare a [o] [b] pos) (dB (iW op f g)):=
 (Y3 ho ha hb hm).mono λ_ _ _ h=>CZ S os (L9 h)
theorem qD(h:DE X Z ow 0 e f)(he: ~~~(∀whole,isTrue e X.env whole=(do let v <- whole;standAt e.pos;holding [v] (truthy v)))):DT X Z ow e (dB f):=(aEU h he).mono λ_ _ _ h=>L9 h
def pM(f:M Bool):M Bool:=λδ=>(f δ).bind λb δ1=>.ok (!b) δ1
theorem qE{f:M Bool}(h:DT X Z ow e f):DT X Z ow (.UnaryOp .Not e pos) (pM f):=(aEX h).mono λσ H Q h=>by
 let⟨F,δ,R,h⟩:=h;unfold pM at h;refine⟨F,δ,R,?_⟩;cases e:f δ with
 |stuck=>rw[e]at h;exact h.elim
 |err x δ1=>rw[e]at h;exact h
 |ok b δ1=>rw[e]at h;exact h
def FX(f g:M Bool):M Bool:=λδ=>(f δ).bind λb δ1=>if b=true then g δ1 else .ok false δ1
def SQ(f g:M Bool):M Bool:=λδ=>(f δ).bind λb δ1=>if b=true then .ok true δ1 else g δ1
theorem PW.mono(h:PW X e t)(hm:∀σ H Q,t' σ H Q->t σ H Q):PW X e t':=λwh U s σ H Q I q=>h wh U s σ H Q I (hm σ H Q q)
theorem C0{f g:M Bool}{rest:List Expr}(ha:DT X Z ow a f)(hb:PW X (.BoolOp .And (b::rest) pos) (tT X Z ow g)):PW X (.BoolOp .And (a::b::rest) pos) (tT X Z ow (FX f g)):=(aEW ha hb).mono λσ H Q h=>by
 let⟨F,δ,R,h⟩:=h;unfold FX at h;refine⟨F,δ,R,?_⟩;cases e:f δ with
 |stuck=>rw[e]at h;exact h.elim
 |err x δ1=>rw[e]at h;exact h
 |ok k δ1=>
  rw[e]at h;simp![Res.bind]at h;intro H1 F1 R1 s1;cases k with
  |true=>rw[Á rfl]at h⊢;exact⟨F1,δ1,R1,h.mono s1 λ_ _ z=>z⟩
  |false=>rw[Â à]at h⊢;exact h H1 F1 R1 s1
theorem MA{f g:M Bool}{rest:List Expr}(ha:DT X Z ow a f)(hb:PW X (.BoolOp .Or (b::rest) pos) (tT X Z ow g)):PW X (.BoolOp .Or (a::b::rest) pos) (tT X Z ow (SQ f g)):=(aIN ha hb).mono λσ H Q h=>by
 let⟨F,δ,R,h⟩:=h;unfold SQ at h;refine⟨F,δ,R,?_⟩;cases e:f δ with
 |stuck=>rw[e]at h;exact h.elim
 |err x δ1=>rw[e]at h;exact h
 |ok k δ1=>
  rw[e]at h;simp![Res.bind]at h;intro H1 F1 R1 s1;cases k with
  |true=>rw[Á rfl]at h⊢;exact h H1 F1 R1 s1
  |false=>rw[Â à]at h⊢;exact⟨F1,δ1,R1,h.mono s1 λ_ _ z=>z⟩
def Ś(c:M Bool)(f g:M D):M D:=λδ=>(c δ).bind λb δ1=>if b=true then f δ1 else g δ1
theorem bN(S:aO Z ow)(h:DE X Z ow n e f):DE X Z ow 0 e f:=PE.mono h λσ H Q h=>by
 let⟨F,δ,R,h⟩:=h;refine⟨F,δ,R,?_⟩;cases e:f δ with
 |stuck=>rw[e]at h;exact h.elim
 |err x δ1=>rw[e]at h;exact h
 |ok d δ1=>
  rw[e]at h;intro v H1 F1 R1 s1;let⟨F2,s2,R2⟩:=R1.freeze S;exact h v H1 F2 R2 (s1.trans' s2)
end
def aY:List (M D)->M (ZI)
 |[]=>λδ=>.ok [] δ
 |f::fs=>λδ=>(f δ).bind λd δ1=>(aY fs δ1).bind λds δ2=>.ok (d::ds) δ2
def kV'(X:Cx)(Z:b8)(ow:ZH)(r:Res (ZI))(F:Hp)(σ:St)(Q:List V->Hp->Prop):Prop:=match r with
 |.ok ds δ=>∀vs H' F',cP X.K Z ow F' H' σ δ->aI F F'->aD X.K F' ds vs->Q vs H'
 |.err x δ=>iV X Z ow F x δ
 |.stuck=>False
def tV(X:Cx)(Z:b8)(ow:ZH)(fs:List (M D)):TA:=λσ H Q=>∃F δ,cP X.K Z ow F H σ δ/\kV' X Z ow (aY fs δ) F σ Q
def DV(X:Cx)(Z:b8)(ow:ZH)(es:List Expr)(fs:List (M D)):Prop:=PA X es (tV X Z ow fs)
section
variable {X:Cx}{Z:b8}{ow:ZH}{n:Nat}{pos:Pos}{e:Expr}{es:List Expr}{fs:List (M D)}
theorem aS:DV X Z ow [] []:=m4.mono λσ H Q h=>by
 let⟨F,δ,R,h⟩:=h;exact h [] H F R (aI.refl _) lQ
theorem aE(he:DE X Z ow 0 e f)(hs:DV X Z ow es fs)(hst:↥(Zse e es X.env)):DV X Z ow (e::es) (f::fs):=(gY he hs hst).mono λσ H Q h=>by
 let⟨F,δ,R,h⟩:=h;unfold aY at h;refine⟨F,δ,R,?_⟩;cases e1:f δ with
 |stuck=>rw[e1]at h;exact h.elim
 |err x δ1=>rw[e1]at h;exact h
 |ok d δ1=>
  rw[e1]at h;simp![Res.bind]at h;intro x H1 F1 R1 s1;refine⟨F1,δ1,R1.rel,?_⟩;cases e2:aY fs δ1 with
  |stuck=>rw[e2]at h;exact h.elim
  |err x δ2=>rw[e2]at h;exact iV.mono h s1
  |ok ds δ2=>
   rw[e2]at h;intro vs H2 F2 R2 s2 z;exact h (x::vs) H2 F2 R2 (s1.trans' s2) (lR (s2.rep _ _ R1.rep) z)
theorem cJ:DA X Z ow [] []:=m4.mono λσ H Q h=>by
 let⟨F,δ,R,h⟩:=h;exact h [] H F R (aI.refl _) trivial
theorem aL(he:DE X Z ow 0 e f)(hs:DA X Z ow es as)(hst:↥(Zse e es X.env)):DA X Z ow (e::es) (.val f::as):=(gY he hs hst).mono λσ H Q h=>by
 let⟨F,δ,R,h⟩:=h;unfold cG at h;refine⟨F,δ,R,?_⟩;cases e1:f δ with
 |stuck=>rw[e1]at h;exact h.elim
 |err x δ1=>rw[e1]at h;exact h
 |ok d δ1=>
  rw[e1]at h;simp![Res.bind]at h;intro x H1 F1 R1 s1;refine⟨F1,δ1,R1.rel,?_⟩;cases e2:cG as δ1 with
  |stuck=>rw[e2]at h;exact h.elim
  |err x δ2=>rw[e2]at h;exact iV.mono h s1
  |ok ds δ2=>
   rw[e2]at h;intro vs H2 F2 R2 s2 z;exact h (x::vs) H2 F2 R2 (s1.trans' s2) ⟨s2.rep _ _ R1.rep,z⟩
theorem aFT(i:Nat)(hs:DA X Z ow es as)(hst:↥(starEach (.Name x p::es) X.env=(false,eval 'i' X.env)::starEach es X.env))(hN:↥(X.N[i]?=some x))(hv:#v[CH X.env.scope x])(hd:⇑(Zdb x))(hcd:⇑(Zcd x)):DA X Z ow (.Name x p::es) (.own i::as):=
 (gY (eD hN hv hd hcd) hs hst).mono λσ H Q h=>by
  let⟨F,δ,R,h⟩:=h;unfold cG at h;cases e:δ[i]? with
  |none=>rw[e]at h;exact h.elim
  |some o=>
   cases o with
   |none=>rw[e]at h;exact h.elim
   |some d=>
    rw[e]at h;let⟨g,R'⟩:=id R;let⟨v,e1,_⟩:=R'.slot i d e;refine⟨v,e1,F,δ,R,?_⟩;cases e2:cG as δ with
    |stuck=>simp![e2]at h;exact h.elim
    |err x δ2=>simp![e2]at h;exact h
    |ok ds δ2=>
     simp![e2]at h;intro vs H2 F2 R2 s2 z;exact h (v::vs) H2 F2 R2 s2 ⟨e1,z⟩
def FY(fs:List (M D)):M D:=λδ=>(aY fs δ).bind λds δ1=>if ds.length<=sizeLine then .ok (.tuple ds) δ1 else .stuck
def FZ(fs:List (M D)):M D:=λδ=>(aY fs δ).bind λds δ1=>if ds.length<=sizeLine then .ok (.list ds) δ1 else .stuck
theorem qF{K:ZC}{F:Hp}{p:Addr}{ds:ZI}{vs:List V}(hp:F p=none)(h:aD K F ds vs):bI K (aX F p (.tup vs)) (.tuple ds) (.ref p):=by
 unfold bI;exact⟨p,vs,rfl,rK.of aM,(cL hp _).repAll ds vs h⟩
theorem bP(h:DV X Z ow es fs):DE X Z ow 0 (.Tuple es x1 pos) (FY fs):=(aFF h).mono λσ H Q h=>by
 let⟨F,δ,R,h⟩:=h;unfold FY at h;refine⟨F,δ,R,?_⟩;cases e:aY fs δ with
 |stuck=>rw[e]at h;exact h.elim
 |err x δ1=>rw[e]at h;exact h
 |ok ds δ1=>
  rw[e]at h;simp![Res.bind]at h;intro vs H1 F1 R1 s1 z;split at h
  .rename_i hl
   refine⟨by rw[<- z.len];exact hl,λp hp=>?_⟩;have fp:=R1.fnone hp;exact h _ _ (aX F1 p (.tup vs)) ((R1.laid hp).x (qF fp z)) (s1.trans' (cL fp _))
  .exact h.elim
theorem bT(S:aO Z ow)(h:DV X Z ow es fs):DE X Z ow 1 (.List es pos) (FZ fs):=(aFG h).mono λσ H Q h=>by
 let⟨F,δ,R,h⟩:=h;unfold FZ at h;refine⟨F,δ,R,?_⟩;cases e:aY fs δ with
 |stuck=>rw[e]at h;exact h.elim
 |err x δ1=>rw[e]at h;exact h
 |ok ds δ1=>
  rw[e]at h;simp![Res.bind]at h;intro vs H1 F1 R1 s1 z;split at h
  .rename_i hl
   exact⟨by rw[<- z.len];exact hl,λp hp=>h _ _ F1 (R1.newList S hp z) s1⟩
  .exact h.elim
def O8(op:ZI->ZL)(fs:List (M D)):M D:=λδ=>(aY fs δ).bind λds δ1=>match op ds with
 |some d=>.ok d δ1
 |none=>.stuck
def Ė(X:Cx)(r:List V->Hp->VK->Prop)(n:Nat)(op:ZI->ZL):Prop:=∀(Z:b8)(ow:ZH)(F H:Hp)(σ:St)(δ:DS)(ds:ZI)(vs:List V)(d:D)(Q:VK),aO Z ow->cP X.K Z ow F H σ δ->aD X.K F ds vs->op ds=some d ->
 (∀v H' F',gJ X.K Z ow n d v F' H' σ δ->aI F F'->Q v H')->r vs H Q
theorem SR(S:aO Z ow)(os:Ė X r n op)(h:tD X Z ow n (O8 op fs) σ H Q):Ŗ r (tV X Z ow fs) σ H Q:=by
 let⟨F,δ,R,h⟩:=h;unfold O8 at h;refine⟨F,δ,R,?_⟩;cases e:aY fs δ with
 |stuck=>rw[e]at h;exact h.elim
 |err x δ1=>rw[e]at h;exact h
 |ok ds δ1=>
  rw[e]at h;simp![Res.bind]at h;intro vs H1 F1 R1 s1 z;cases e3:op ds with
  |none=>rw[e3]at h;exact h.elim
  |some d=>
   rw[e3]at h;exact os Z ow F1 H1 σ δ1 ds vs d Q S R1 z e3 λv H' F' R' s'=>h v H' F' R' (s1.trans' s')
theorem iX{id:String}{p:Pos}(S:aO Z ow)(hc:iM X (.builtin id) r)(os:Ė X r n op)(hg:Gl X x)(hm:X.mg x=none)(hv:bootBuiltins x=some (.builtin id))(ha:DV X Z ow (e::es) fs)(hn:⇑(x≠"__name__"))(hdb:⇑(Zdb x))(he:↥(Zse e es X.env))(hpl:↥(Zbt pos es X.env)):
  DE X Z ow n (.Call 'i' (e::es) [] pos) (O8 op fs):=PE.mono (wK hc hg hm hv ha hn hdb he hpl) λ_ _ _ h=>SR S os h
theorem t7{p:Pos}(S:aO Z ow)(hc:iM X (.type T) r)(os:Ė X r n op)(hg:Gl X x)(hm:X.mg x=none)(hv:bootBuiltins x=some (.type T))(ha:DV X Z ow (e::es) fs)(hn:⇑(x≠"__name__"))(hdb:⇑(Zdb x))(he:↥(Zse e es X.env))(hpl:↥(Zbt pos es X.env)):
  DE X Z ow n (.Call 'i' (e::es) [] pos) (O8 op fs):=PE.mono (tY hc hg hm hv ha hn hdb he hpl) λ_ _ _ h=>SR S os h
end
inductive Fl where
 |next|brk|cont
 |ret (d:D)
def kS(X:Cx)(Z:b8)(ow' ol ox:ZH)(rm:Nat)(r:Res Fl)(F:Hp)(Dn:vT):Prop:=match r with
 |.ok .next δ=>∀σ' H' F',cP X.K Z ow' F' H' σ' δ->aI F F'->Dn.nx σ' H'
 |.ok .brk δ=>∀σ' H' F',cP X.K Z ol F' H' σ' δ->aI F F'->Dn.bk σ' H'
 |.ok .cont δ=>∀σ' H' F',cP X.K Z ol F' H' σ' δ->aI F F'->Dn.ct σ' H'
 |.ok (.ret d) δ=>∀v σ' H' F' owr,gJ X.K Z owr rm d v F' H' σ' δ->aI F F'->Dn.rt v H'
 |.err x δ=>iV X Z ox F x δ
 |.stuck=>False
def tS(X:Cx)(Z:b8)(ow ow' ol ox:ZH)(rm:Nat)(f:M Fl):TS:=λDn σ H=>∃F δ,cP X.K Z ow F H σ δ/\kS X Z ow' ol ox rm (f δ) F Dn
def AE(X:Cx)(Z:b8)(ow ow' ol ox:ZH)(rm:Nat)(st:Stmt)(f:M Fl):Prop:=PS X st (tS X Z ow ow' ol ox rm f)
def AF(X:Cx)(Z:b8)(ow ow' ol ox:ZH)(rm:Nat)(st:List Stmt)(f:M Fl):Prop:=E8 X st (tS X Z ow ow' ol ox rm f)
section
variable {X:Cx}{Z:b8}{ow ow' ow1 ol ox:ZH}{n rm:Nat}{pos:Pos}{e:Expr}{f:M D}{st:Stmt}{sts:List Stmt}{u v:M Fl}{F:Hp}
theorem kS.mono(h:kS X Z ow' ol ox rm r F Dn)(s:aI F F1):kS X Z ow' ol ox rm r F1 Dn:=by
 cases r with
 |ok fl δ=>
  cases fl with
  |next=>exact λσ' H' F' R s'=>h σ' H' F' R (s.trans' s')
  |brk=>exact λσ' H' F' R s'=>h σ' H' F' R (s.trans' s')
  |cont=>exact λσ' H' F' R s'=>h σ' H' F' R (s.trans' s')
  |ret d=>exact λv σ' H' F' owr R s'=>h v σ' H' F' owr R (s.trans' s')
 |err x δ=>exact iV.mono h s
 |stuck=>exact h
def wV:M Fl:=λδ=>.ok .next δ
theorem bB:AF X Z ow ow ol ox rm [] wV:=E8.mono LW λDn σ H h=>by
 let⟨F,δ,R,h⟩:=h;exact h σ H F R (aI.refl _)
def dW(u v:M Fl):M Fl:=λδ=>(u δ).bind λfl δ1=>match fl with
 |.next=>v δ1
 |fl=>.ok fl δ1
theorem aA(h1:AE X Z ow ow1 ol ox rm st u)(h2:AF X Z ow1 ow' ol ox rm sts v):AF X Z ow ow' ol ox rm (st::sts) (dW u v):=E8.mono (RO h1 h2) λDn σ H h=>by
 let⟨F,δ,R,h⟩:=h;unfold dW at h;refine⟨F,δ,R,?_⟩;cases e:u δ with
 |stuck=>rw[e]at h;exact h.elim
 |err x δ1=>rw[e]at h;exact h
 |ok fl δ1=>
  rw[e]at h;simp![Res.bind]at h;cases fl with
  |next=>exact λσ' H' F' R' s'=>⟨F',δ1,R',h.mono s'⟩
  |brk=>exact h
  |cont=>exact h
  |ret d=>exact h
theorem aC(h1:AE X Z ow ow' ol ox rm st u):AF X Z ow ow' ol ox rm [st] u:=E8.mono (YW h1) λDn σ H h=>h
def t8(f:M D):M Fl:=λδ=>(f δ).bind λd δ1=>.ok (.ret d) δ1
theorem aN(h:DE X Z ow rm e f):AE X Z ow ow' ol ox rm (.Return (some e) pos) (t8 f):=PS.mono (aE0 h) λDn σ H h=>by
 let⟨F,δ,R,h⟩:=h;unfold t8 at h;refine⟨F,δ,R,?_⟩;cases e:f δ with
 |stuck=>rw[e]at h;exact h.elim
 |err x δ1=>rw[e]at h;exact iV.cast h
 |ok d δ1=>
  rw[e]at h;exact λv H' F' R' s'=>h v σ H' F' ow R' s'
def pN(f:M D):M Fl:=λδ=>(f δ).bind λ_ δ1=>.ok .next δ1
theorem bR(h:DE X Z ow n e f)(hs:↥(swapsWith e none pos.line X.env=pure false)):AE X Z ow ow ol ox rm (.Expr e pos) (pN f):=PS.mono (YX h hs) λDn σ H h=>by
 let⟨F,δ,R,h⟩:=h;unfold pN at h;refine⟨F,δ,R,?_⟩;cases e:f δ with
 |stuck=>rw[e]at h;exact h.elim
 |err x δ1=>rw[e]at h;exact iV.cast h
 |ok d δ1=>
  rw[e]at h;exact λv H' F' R' s'=>h σ H' F' R'.rel s'
def mX(c:M Bool)(u v:M Fl):M Fl:=λδ=>(c δ).bind λb δ1=>if b=true then u δ1 else v δ1
theorem cH(hc:DT X Z ow c k)(ha:AF X Z ow ow' ol ox rm sa u)(hb:AF X Z ow ow' ol ox rm sb v):AE X Z ow ow' ol ox rm (.If c sa sb pos) (mX k u v):=PS.mono (aIS hc ha hb) λDn σ H h=>by
 let⟨F,δ,R,h⟩:=h;unfold mX at h;refine⟨F,δ,R,?_⟩;cases e:k δ with
 |stuck=>rw[e]at h;exact h.elim
 |err x δ1=>rw[e]at h;exact iV.cast h
 |ok d δ1=>
  rw[e]at h;simp![Res.bind]at h;intro H1 F1 R1 s1;cases d with
  |true=>rw[Á rfl]at h⊢;exact⟨F1,δ1,R1,h.mono s1⟩
  |false=>rw[Â à]at h⊢;exact⟨F1,δ1,R1,h.mono s1⟩
theorem cP.freeze(i:Nat)(R:cP X.K Z ow F H σ δ)(hi:i∉Z.ps):∃F',aI F F'/\cP X.K Z (ow.set i 0) F' H σ δ:=let ⟨_,R⟩:=R;⟨_,nA,_,R.freeze i hi⟩
theorem dE{l:ZH}(h:l.contains i=false):i∉l:=λm=>by rw[List.contains_iff_mem.mpr m]at h;cases h
theorem bV(i:Nat)(h:AF X Z (ow.set i 0) ow' ol ox rm sts u)(hi:↥(Z.ps.contains i=false)):AF X Z ow ow' ol ox rm sts u:=E8.mono h λDn σ H h=>by
 let⟨F,δ,R,h⟩:=h;let⟨F',s,R'⟩:=R.freeze i (dE hi);exact⟨F',δ,R',h.mono s⟩
theorem gJ.store{v:V}(S:aO Z ow)(R:gJ X.K Z ow n d v F H σ δ)(hi:i<δ.length)(hps:i∉Z.ps)(hl:i<ow.length):cP X.K Z (ow.set i n) F H (σ.set i (some v)) (δ.set i (some d)):=by
 let⟨g,R,o⟩:=R;have i1:i<1000:=Ô hl S.ow;have hg:∀(a:Addr)(l:ř),l.1≠i->l.1≠1000->g a=some l->(λb=>match g b with|some (j,p)=>if j=1000 then some (i,p)else if j=i then none else some (j,p)|none=>none:ZP) a=some l:=λa l h1 h2 e=>by
  let⟨j,p⟩:=l;dsimp only;rw[e];dsimp only;rw[Â h2,Â h1]
 refine⟨λb=>match g b with|some (j,p)=>if j=1000 then some (i,p)else if j=i then none else some (j,p)|none=>none,R.sub,R.f0,R.kept,R.new,R.there,λa j p e=>?_,by rw[Ù,Ù];exact R.len,λj hj=>?_,λj d' e=>?_⟩
 .cases q:g a with
  |none=>rw[q]at e;cases e
  |some l=>
   let⟨j',p'⟩:=l;rw[q]at e;have e:(if j'=1000 then some (i,p')else if j'=i then none else some (j',p'))=some (j,p):=e;split at e
   .rename_i z
    refine .inl ((R.lab a j' p' q).elim id λzQ=>by let⟨q',w⟩:=zQ;exact absurd (Z.wf a j' q' w) (by rw[z];exact S.ps))
   .split at e
    .cases e
    .cases e;exact R.lab a j p q
 .have ne:j≠i:=λz=>hps (by rw[<- z];exact hj)
  rw[ß (Ð ne),Ê,ß (Ð ne),<- Ê];exact R.par j hj
 .by_cases hj:j=i
  .subst hj
   rw[ð hi]at e;cases e;refine⟨v,ð (by rw[<- R.len];exact hi),?_⟩;have:(ow.set j n).getD j 0=n:=by rw[Ê,ð hl];rfl
   rw[this];exact o.relab λa p e=>by rw[e];exact Á rfl
  .rw[ß (Ð hj)]at e
   let⟨w,e1,o1⟩:=R.slot j d' e;refine⟨w,by rw[ß (Ð hj)];exact e1,?_⟩;have:(ow.set i n).getD j 0=ow.getD j 0:=by rw[Ê,Ê,ß (Ð hj)]
   rw[this];by_cases hz:ow.getD j 0=0
   .rw[hz]at o1⊢;exact o1
   .have j1:j<1000:=by
     by_cases hl:j<ow.length
     .exact Ô hl S.ow
     .exact absurd (by rw[Ê,æ (by exact ç.mp ‹_›)];rfl) hz
    exact o1.mono (aI.refl _) (λa l hl e=>hg a l (by rw[hl];exact hj) (by rw[hl];exact Ì ‹_›) e) (λ_ _ _ _ h=>h) λ_ _ _ _ _ h=>h
def fL(i:Nat)(f:M D):M Fl:=λδ=>(f δ).bind λd δ1=>if i<δ1.length then .ok .next (δ1.set i (some d))else .stuck
theorem v2(S:aO Z ow)(hps:i∉Z.ps)(hl:i<ow.length)(h:tS X Z ow (ow.set i n) ol ox rm (fL i f) Dn σ H):YY (tD X Z ow n f) (pE i) Dn σ H:=by
 let⟨F,δ,R,h⟩:=h;unfold fL at h;refine⟨F,δ,R,?_⟩;cases e:f δ with
 |stuck=>rw[e]at h;exact h.elim
 |err x δ1=>rw[e]at h;exact iV.cast h
 |ok d δ1=>
  rw[e]at h;simp![Res.bind]at h;intro v H1 F1 R1 s1;split at h
  .rename_i hi
   exact h _ H1 F1 (R1.store S hi hps hl) s1
  .exact h.elim
theorem aG(i:Nat){pos':Pos}(S:aO Z ow)(h:DE X Z ow n e f)(hN:X.N.Nodup)(hi:↥(X.N[i]?=some x))(hx:#v[Ē X.env.scope x])(hps:↥(Z.ps.contains i=false))(hl:⇑(i<ow.length))(hs:↥(swapsWith e (some (.Name x pos')) pos.line X.env=pure false))(hf:X.fn x=true\/X.env.scope.names.lookup x=some .local:=by first|exact .inl rfl|exact .inr rfl|assumption):
  AE X Z ow (ow.set i n) ol ox rm (.Assign [.Name x pos'] e pos) (fL i f):=PS.mono (aE3 hN hi hx h hs hf) λDn σ H h=>v2 S (dE hps) hl h
end
def fQ(set:D->DS->Option DS)(body:M Fl):ZI->M Fl
 |[]=>λδ=>.ok .next δ
 |d::ds=>λδ=>match set d δ with
  |none=>.stuck
  |some δ1=>(body δ1).bind λfl δ2=>match fl with
   |.next=>fQ set body ds δ2
   |.cont=>fQ set body ds δ2
   |.brk=>.ok .next δ2
   |.ret d=>.ok (.ret d) δ2
def ĩ(X:Cx)(Z:b8)(ow:ZH)(g:TG)(set:D->DS->Option DS):Prop:=∀(F H:Hp)(σ:St)(δ δ':DS)(d:D)(v:V)(Q:St->Hp->Prop),cP X.K Z ow F H σ δ->bI X.K F d v->set d δ=some δ'->(∀σ',cP X.K Z ow F H σ' δ'->Q σ' H)->g v σ H Q
def eK(i:Nat):D->DS->Option DS:=λd δ=>if i<δ.length then some (δ.set i (some d))else none
def t9(is:ZH):D->DS->Option DS:=λd δ=>match d with
 |.tuple ds=>if ds.length=is.length then (is.zip ds).foldl (λ(o:Option DS)(p:Nat×D)=>o.bind λδ=>eK p.1 p.2 δ) (some δ)else none
 |_=>none
section
variable {X:Cx}{Z:b8}{ow ol ox:ZH}{rm:Nat}{u:M Fl}{g:TG}{set:D->DS->Option DS}
theorem Η(h:ow.getD i 0=0):ow.set i 0=ow:=by
 by_cases hi:i<ow.length
 .apply List.ext_getElem?
  intro j;by_cases hj:j=i
  .subst hj
   rw[ð hi];rw[Ê,É hi]at h;rw[É hi];exact congrArg some h.symm
  .rw[ß (Ð hj)]
 .exact List.set_eq_of_length_le (by exact ç.mp ‹_›)
theorem MB(S:aO Z ow)(hps:i∉Z.ps)(hl:i<ow.length)(h0:ow.getD i 0=0):ĩ X Z ow (pE i) (eK i):=λF H σ δ δ' d v Q R r e q=>by
 unfold eK at e;split at e
 .rename_i hi
  cases e;have:=(R.x r).store S hi hps hl;rw[Η h0]at this;exact q _ this
 .cases e
theorem BC(S:aO Z ow):∀(is:ZH)(t:RP),(∀i∈is,i∉Z.ps/\i<ow.length/\ow.getD i 0=0)->t=is.foldr (λi u=>FJ (pE i) u) RQ ->
  ∀(F H:Hp)(σ:St)(δ δ':DS)(ds:ZI)(vs:List V)(Q:St->Hp->Prop),cP X.K Z ow F H σ δ->aD X.K F ds vs->ds.length=is.length->(is.zip ds).foldl (λ(o:Option DS)(p:Nat×D)=>o.bind λδ=>eK p.1 p.2 δ) (some δ)=some δ' ->
   (∀σ',cP X.K Z ow F H σ' δ'->Q σ' H)->t vs σ H Q
 |[],t,_,ht,F,H,σ,δ,δ',ds,vs,Q,R,r,hl,e,q=>by
  cases ds with
  |cons _ _=>cases hl
  |nil=>
   unfold aD at r;subst ht r;cases e;exact⟨rfl,q σ R⟩
 |i::is,t,hi,ht,F,H,σ,δ,δ',ds,vs,Q,R,r,hl,e,q=>by
  cases ds with
  |nil=>cases hl
  |cons d ds=>
   unfold aD at r;let⟨x,rest,rfl,rx,r⟩:=r;subst ht;rw[á,List.foldl_cons]at e;have no:∀(l:List (Nat×D)),l.foldl (λ(o:Option DS)(p:Nat×D)=>o.bind λδ=>eK p.1 p.2 δ) none=none:=λl=>by
    induction l with
    |nil=>rfl
    |cons p l ih=>rw[List.foldl_cons];exact ih
   cases e1:eK i d δ with
   |none=>
    rw[show ((some δ:Option DS).bind λδ=>eK (i,d).1 (i,d).2 δ)=none from e1,no]at e;cases e
   |some δ1=>
    rw[show ((some δ:Option DS).bind λδ=>eK (i,d).1 (i,d).2 δ)=some δ1 from e1]at e;let⟨h1,h2,h3⟩:=hi i Ó;refine⟨x,rest,rfl,MB S h1 h2 h3 F H σ δ δ1 d x _ R rx e1 λσ' R'=>?_⟩;exact BC S is _ (λj hj=>hi j (Ï _ hj)) rfl F H σ' δ1 δ' ds rest Q R' r (by simpa using hl) e q
theorem aFU(S:aO Z ow)(hi:∀i∈is,i∉Z.ps/\i<ow.length/\ow.getD i 0=0)(ht:t=is.foldr (λi u=>FJ (pE i) u) RQ):ĩ X Z ow (Ŏ X.K is.length t) (t9 is):=λF H σ δ δ' d v Q R r e q=>by
 unfold t9 at e;cases d with
 |tuple ds=>
  dsimp only at e;split at e
  .rename_i hl
   unfold bI at r;let⟨a,xs,rfl,hq,ra⟩:=r;exact⟨a,xs,rfl,R.sub.seqT hq,by rw[<- ra.len];exact hl,BC S is t hi ht F H σ δ δ' ds xs Q R ra hl e q⟩
  .cases e
 |_=>cases e
theorem Z1{ds:ZI}{d:D}(hg:ĩ X Z ow g set)(R:cP X.K Z ow F H σ δ)(s1:aI F1 F)(hk:kS X Z ow ol ox rm (fQ set u (ds.drop k) δ) F Dn)(hd:ds[k]?=some d)(rx:bI X.K F d x)(Pv:Nat->St->Hp->Prop)(hP:∀k σ H F δ,cP X.K Z ow F H σ δ->aI F1 F->kS X Z ow ol ox rm (fQ set u (ds.drop k) δ) F Dn->Pv k σ H):
  g x σ H λσ2 H2=>tS X Z ow ow ow ox rm u {Dn with nx:=Pv (k+1),ct:=Pv (k+1),bk:=Dn.nx} σ2 H2:=by
 have e:ds.drop k=d::ds.drop (k+1):=by
  let⟨hlt,rfl⟩:=Ò.mp hd;exact ò hlt
 rw[e]at hk;unfold fQ at hk;cases e1:set d δ with
 |none=>simp![e1]at hk;exact hk.elim
 |some δ1=>
  simp![e1]at hk;refine hg F H σ δ δ1 d x _ R rx e1 λσ' R'=>⟨F,δ1,R',?_⟩;cases e2:u δ1 with
  |stuck=>rw[e2]at hk;exact hk.elim
  |err y δ2=>rw[e2]at hk;exact hk
  |ok fl δ2=>
   rw[e2]at hk;simp![Res.bind]at hk;cases fl with
   |next=>exact λσ2 H2 F2 R2 s2=>hP _ σ2 H2 F2 δ2 R2 (s1.trans' s2) (hk.mono s2)
   |cont=>exact λσ2 H2 F2 R2 s2=>hP _ σ2 H2 F2 δ2 R2 (s1.trans' s2) (hk.mono s2)
   |brk=>exact hk
   |ret d=>exact hk
def aMK(K:ZC)(tl:TE):TI:=λσ H R=>tl σ H λx H1=>(∃a,x=.ref a/\(∃xs,eJ K H1 a xs)/\R (Ő K a) H1)\/(∃a,x=.ref a/\(∃xs,rK K H1 a xs)/\R (ő K a) H1)
theorem aFV(hl:PE X l tl):PI X tg l (aMK X.K tl):=by
 intro U s σ H R I h;refine cN (hl U s σ H _ I h) λv s1 zQ=>?_;let⟨x,H1,I1,r1,q1⟩:=zQ;rcases q1 with ⟨a,e,⟨xs,hq⟩,q⟩|⟨a,e,⟨xs,hq⟩,q⟩
 .subst e
  cases r1;let⟨its,rv,p,hz⟩:=I1.list hq;refine wpAny_pyIter_list p.isList ?_;refine⟨s1.heap.objs.size,[s1.heap.objs.size],_,_,H1,rfl,I1.kept (t':=s1.toks) λb o e=>Heap.get?_push_of_some _ e,OY a _,⟨_,Heap.get?_push_size _ rfl,rfl,rfl⟩,λb hb=>?_,q⟩;have e:b=s1.heap.objs.size:=by simpa using hb
  subst e;exact I1.fpOk (Ç _) (I1.hok.fresh (Ç _))
 .subst e
  cases r1;let⟨its,rv,p,hz⟩:=I1.tuple hq;refine wpAny_pyIter_tuple (show s1.heap.IsTuple a its.toArray from p) ?_;refine⟨s1.heap.objs.size,[s1.heap.objs.size],_,_,H1,rfl,I1.kept (t':=s1.toks) λb o e=>Heap.get?_push_of_some _ e,JR a _,⟨_,Heap.get?_push_size _ rfl,rfl,rfl⟩,λb hb=>?_,q⟩;have e:b=s1.heap.objs.size:=by simpa using hb
  subst e;exact I1.fpOk (Ç _) (I1.hok.fresh (Ç _))
def jI(lo:Int)(n:Nat):ZI:=(List.range n).map λ(k:Nat)=>PyData.int (lo+(k:Int))
theorem C1{lo:Int}(h:k<n):(jI lo n)[k]?=some (.int (lo+(k:Int))):=by
 unfold jI;rw[Ñ,ÿ h];rfl
theorem fW{lo:Int}:(jI lo n).length=n:=by unfold jI;rw[Ä,List.length_range]
def kJ:ZI->Option (Int×Nat)
 |[.int j]=>if -(2^62)<=j/\j<2^62 then some (0,j.toNat)else none
 |[.int i,.int j]=>if -(2^62)<=i/\i<2^62/\-(2^62)<=j/\j<2^62 then some (i,(j-i).toNat)else none
 |_=>none
theorem kK:∀{fs:List (M D)}{δ δ1:DS}{ds:ZI},aY fs δ=.ok ds δ1->ds.length=fs.length
 |[],δ,δ1,ds,h=>by cases h;rfl
 |f::fs,δ,δ1,ds,h=>by
  unfold aY at h;cases e:f δ with
  |stuck=>rw[e]at h;cases h
  |err x δ2=>rw[e]at h;cases h
  |ok d δ2=>
   rw[e]at h;simp![Res.bind]at h;cases e2:aY fs δ2 with
   |stuck=>rw[e2]at h;cases h
   |err x δ3=>rw[e2]at h;cases h
   |ok ds' δ3=>
    rw[e2]at h;cases h;rw[Õ,Õ,kK e2]
theorem F7{lo:Int}(h:kJ ds=some (lo,n))(hl:ds.length=1):∃j:Int,ds=[.int j]/\-(2^62)<=j/\j<2^62/\lo=0/\n=j.toNat:=by
 unfold kJ at h;split at h
 .rename_i j
  split at h
  .rename_i hj;cases h;exact⟨j,rfl,hj.1,hj.2,rfl,rfl⟩
  .cases h
 .cases hl
 .cases h
theorem F8{lo:Int}(h:kJ ds=some (lo,n))(hl:ds.length=2):∃i j:Int,ds=[.int i,.int j]/\(-(2^62)<=i/\i<2^62/\-(2^62)<=j/\j<2^62)/\lo=i/\n=(j-i).toNat:=by
 unfold kJ at h;split at h
 .cases hl
 .rename_i i j
  split at h
  .rename_i hj;cases h;exact⟨_,j,rfl,hj,rfl,rfl⟩
  .cases h
 .cases h
theorem wW{K:ZC}(h:aD K F [.int j] vs):vs=[.int j]:=by
 unfold aD at h;let⟨x,r,rfl,rx,h⟩:=h;unfold aD at h;unfold bI at rx;rw[h,rx]
theorem F9{K:ZC}(h:aD K F [.int i,.int j] vs):vs=[.int i,.int j]:=by
 unfold aD at h;let⟨x,r,rfl,rx,h⟩:=h;unfold bI at rx;rw[rx,wW h]
def vF(c:M Bool)(u:M Fl):Nat->M Fl
 |0=>λ_=>.stuck
 |n+1=>λδ=>(c δ).bind λb δ1=>if b=true then (u δ1).bind λfl δ2=>(match fl with
   |.next=>vF c u n δ2
   |.cont=>vF c u n δ2
   |.brk=>.ok .next δ2
   |.ret d=>.ok (.ret d) δ2)else .ok .next δ1
def fC(c:M Bool)(u:M Fl):M Fl:=λδ=>open Classical in if h:∃n,vF c u n δ≠.stuck then vF c u h.choose δ else .stuck
theorem wX :∀{n:Nat}{δ:DS},vF c u n δ≠.stuck->vF c u (n+1) δ=vF c u n δ
 |0,δ,h=>absurd rfl h
 |n+1,δ,h=>by
  have e:∀m,vF c u (m+1) δ=(c δ).bind λb δ1=>if b=true then (u δ1).bind λfl δ2=>(match fl with
   |.next=>vF c u m δ2
   |.cont=>vF c u m δ2
   |.brk=>.ok .next δ2
   |.ret d=>.ok (.ret d) δ2)else .ok .next δ1:=λm=>rfl
  rw[e n]at h;rw[e (n+1),e n];cases e1:c δ with
  |stuck=>rfl
  |err x δ1=>rfl
  |ok b δ1=>
   rw[e1]at h;simp![Res.bind]at h⊢;cases b with
   |false=>rfl
   |true=>
    rw[Á rfl]at h⊢;rw[Á rfl];cases e2:u δ1 with
    |stuck=>rfl
    |err x δ2=>rfl
    |ok fl δ2=>
     rw[e2]at h;simp only at h⊢;cases fl with
     |next=>exact wX h
     |cont=>exact wX h
     |brk=>rfl
     |ret d=>rfl
theorem SS(h:vF c u n δ≠.stuck)(l:n<=m):vF c u m δ=vF c u n δ:=by
 induction l with
 |refl=>rfl
 |step l ih=>rw[wX (by rw[ih];exact h),ih]
theorem oH(n:Nat)(h:vF c u n δ≠.stuck):fC c u δ=vF c u n δ:=by
 have ex:∃n,vF c u n δ≠.stuck:=⟨n,h⟩;unfold fC;rw[dif_pos ex];rcases Nat.le_total n ex.choose with l|l
 .exact SS h l
 .exact(SS ex.choose_spec l).symm
theorem eQ:fC c u δ=(c δ).bind λb δ1=>if b=true then (u δ1).bind λfl δ2=>(match fl with
   |.next=>fC c u δ2
   |.cont=>fC c u δ2
   |.brk=>.ok .next δ2
   |.ret d=>.ok (.ret d) δ2)else .ok .next δ1:=by
 have e:∀m,vF c u (m+1) δ=(c δ).bind λb δ1=>if b=true then (u δ1).bind λfl δ2=>(match fl with
   |.next=>vF c u m δ2
   |.cont=>vF c u m δ2
   |.brk=>.ok .next δ2
   |.ret d=>.ok (.ret d) δ2)else .ok .next δ1:=λm=>rfl
 have go:∀(δ2:DS),(∀m,vF c u m δ2=.stuck)->fC c u δ2=.stuck:=λδ2 h=>by
  unfold fC;rw[dif_neg λzQ=>by let⟨n,q⟩:=zQ;exact q (h n)]
 by_cases ex:∃n,vF c u n δ≠.stuck
 .obtain⟨n,h⟩:=ex
  cases n with
  |zero=>exact absurd rfl h
  |succ n=>
   rw[oH (n+1) h,e n];rw[e n]at h;cases e1:c δ with
   |stuck=>rfl
   |err x δ1=>rfl
   |ok b δ1=>
    rw[e1]at h;simp![Res.bind]at h⊢;cases b with
    |false=>rfl
    |true=>
     rw[Á rfl]at h⊢;rw[Á rfl];cases e2:u δ1 with
     |stuck=>rfl
     |err x δ2=>rfl
     |ok fl δ2=>
      rw[e2]at h;simp only at h⊢;cases fl with
      |next=>exact(oH n h).symm
      |cont=>exact(oH n h).symm
      |brk=>rfl
      |ret d=>rfl
 .have all:∀n,vF c u n δ=.stuck:=λn=>ą λq=>ex ⟨n,q⟩
  rw[go δ all];have a1:=λm=>(e m).symm.trans (all (m+1));cases e1:c δ with
  |stuck=>rfl
  |err x δ1=>have:=a1 0;rw[e1]at this;cases this
  |ok b δ1=>
   simp![Res.bind];cases b with
   |false=>have:=a1 0;rw[e1]at this;simp![Res.bind]at this;cases this
   |true=>
    rw[Á rfl];cases e2:u δ1 with
    |stuck=>rfl
    |err x δ2=>have:=a1 0;rw[e1]at this;simp![Res.bind,if_true,e2]at this;cases this
    |ok fl δ2=>
     cases fl with
     |next=>exact(go δ2 λm=>by have:=a1 m;rw[e1]at this;simp![Res.bind,if_true,e2]at this;exact this).symm
     |cont=>exact(go δ2 λm=>by have:=a1 m;rw[e1]at this;simp![Res.bind,if_true,e2]at this;exact this).symm
     |brk=>have:=a1 0;rw[e1]at this;simp![Res.bind,if_true,e2]at this;cases this
     |ret d=>have:=a1 0;rw[e1]at this;simp![Res.bind,if_true,e2]at this;cases this
theorem GA(hp:PassesOwn 'b' X.A X.env X.xe)(hc:DT X Z ow e k)(hb:AF X Z ow ow ow ox rm sts u):AE X Z ow ow ol ox rm (.While e sts [] pos) (fC k u):=PS.mono (RT hp hc hb) λDn σ H h=>by
 let⟨F,δ,R,h⟩:=h;have ex:∃n,vF k u n δ≠.stuck:=ą λq=>by
  unfold fC at h;rw[dif_neg q]at h;exact h
 let⟨n0,hn⟩:=ex;rw[oH n0 hn]at h;refine⟨λm σ H=>∃F2 δ2,cP X.K Z ow F2 H σ δ2/\kS X Z ow ol ox rm (vF k u m δ2) F2 Dn,⟨n0,F,δ,R,h⟩,?_⟩;rintro m σ1 H1 ⟨F1,δ1,R1,k1⟩;cases m with
 |zero=>exact k1.elim
 |succ m=>
  unfold vF at k1;refine⟨F1,δ1,R1,?_⟩;cases e1:k δ1 with
  |stuck=>rw[e1]at k1;exact k1.elim
  |err x δ2=>rw[e1]at k1;exact iV.cast k1
  |ok b δ2=>
   rw[e1]at k1;simp![Res.bind]at k1;intro H2 F2 R2 s2;cases b with
   |false=>rw[Â à]at k1⊢;exact k1 σ1 H2 F2 R2 s2
   |true=>
    rw[Á rfl]at k1⊢;refine⟨λσ3 H3=>∃F3 δ3,cP X.K Z ow F3 H3 σ3 δ3/\kS X Z ow ol ox rm (vF k u m δ3) F3 Dn,λσ' H'⟨F3,δ3,R3,k3⟩=>⟨m,ë _,F3,δ3,R3,k3⟩,F2,δ2,R2,?_⟩;cases e2:u δ2 with
    |stuck=>rw[e2]at k1;exact k1.elim
    |err x δ3=>rw[e2]at k1;exact iV.mono k1 s2
    |ok fl δ3=>
     rw[e2]at k1;simp only at k1;cases fl with
     |next=>exact λσ3 H3 F3 R3 s3=>⟨F3,δ3,R3,k1.mono (s2.trans' s3)⟩
     |cont=>exact λσ3 H3 F3 R3 s3=>⟨F3,δ3,R3,k1.mono (s2.trans' s3)⟩
     |brk=>exact kS.mono (r:=.ok .next δ3) k1 s2
     |ret d=>exact kS.mono (r:=.ok (.ret d) δ3) k1 s2
end
structure Z2(K:ZC)(ps owp:ZH)(rm:Nat)(F H:Hp)(g:ZP)(vs:List V)(F' H':Hp)(g':ZP)(outs:ZI)(d:D)(v:V):Prop where
 s:aI F F'
 sub:aI F' H'
 kept:∀b o,g b=none->H b=some o->H' b=some o
 new:∀a,F a=none->H a≠none->F' a=none
 there:∀b,H b≠none->H' b≠none
 lab:∀a i p,g' a=some (i,p)->H a=none\/∃q,g a=some (i,q)
 ret:aZ K F' H' g' 1000 rm [] d v
 olen:outs.length=ps.length
 out:∀(k i:Nat)(d':D),ps[k]?=some i->outs[k]?=some d'->∃v',vs[i]?=some v'/\aZ K F' H' g' i (owp.getD i 0) [] d' v'
def aML(K:ZC)(ps owp:ZH)(rm:Nat)(F H:Hp)(g:ZP)(vs:List V)(Q:VK)(E:XK):Res D->Prop
 |.ok d outs=>∀v H' F' g',Z2 K ps owp rm F H g vs F' H' g' (outs.filterMap id) d v->Q v H'
 |.err x outs=>∀nm,x=.str nm->∀H' F' g',Z2 K ps owp 0 F H g vs F' H' g' (outs.filterMap id) .none .non->E (.str nm 0) none H'
 |.stuck=>False
def ś(K:ZC)(ps owp:ZH)(rm:Nat)(f:ZI->Res D):Sp:=λvs H Q E=>∃F g ds,YI K F/\aI F H/\ds.length=vs.length/\(∀a i p,g a=some (i,p)->i∈ps) /\
 (∀(i:Nat)(d:D)(v:V),ds[i]?=some d->vs[i]?=some v->aZ K F H g i (owp.getD i 0) [] d v)/\aML K ps owp rm F H g vs Q E (f ds)
def AG(P:Program)(w:World)(K:ZC):SC:=λouter H s E e s'=>∃nm a cls ch H',e=.ref a/\W.nsIn K mainGlobals nm=some (some cls)/\s'.os=s.os/\AllBare s'.gens/\Un (vS outer) [] H H' s.heap s'.heap/\mR P w H' s'.heap /\
 mT s'.heap a cls ch/\(∀b∈ch,H' b=none/\s.heap.get? b=none)/\E (.str nm 0) none H'
def fX(δ:DS):ZH->Option (ZI)
 |[]=>some []
 |i::is=>match δ[i]?,fX δ is with
  |some (some d),some ds=>some (d::ds)
  |_,_=>none
theorem BD :∀{is:ZH}{ds:ZI},fX δ is=some ds->ds.length=is.length/\∀(k i:Nat)(d:D),is[k]?=some i->ds[k]?=some d->δ[i]?=some (some d)
 |[],ds,h=>by cases h;exact⟨rfl,λk i d e=>by simp at e⟩
 |i::is,ds,h=>by
  unfold fX at h;split at h
  .rename_i d ds' e1 e2
   cases h;let⟨h1,h2⟩:=BD e2;refine⟨by simp[h1],λk j d' q1 q2=>?_⟩;cases k with
   |zero=>cases q1;cases q2;exact e1
   |succ k=>exact h2 k j d' (by simpa using q1) (by simpa using q2)
  .cases h
def aP(m:Nat)(ps:ZH)(rm:Nat)(body:M Fl):ZI->Res D:=λds=>match body (ds.map some++List.replicate (m-ds.length) none)with
 |.ok (.ret d) δ=>(match fX δ ps with
  |some outs=>.ok d (outs.map some)
  |none=>.stuck)
 |.ok .next δ=>if rm=0 then (match fX δ ps with
  |some outs=>.ok .none (outs.map some)
  |none=>.stuck)else .stuck
 |.ok _ _=>.stuck
 |.err x δ=>(match fX δ ps with
  |some outs=>.err x (outs.map some)
  |none=>.stuck)
 |.stuck=>.stuck
section
variable {P:Program}{w:World}{K:ZC}{mg:ZD}{base:Heap}
theorem RH.okG{st:Stmt}(F:RH K x qual st f fd)(S:jM N ps (bC st))(len:∀vs H Q E,sp vs H Q E->vs.length=ps.length)(hbody:∀(cdv:Value)(_:fd.code=cdv)(A:Around)(outer:List Env)(s:Shared)(H:Hp)(vs:List V)(Q:VK)(E:XK),fB k (A.deeper (envOfC qual (bC st) s.heap.objs.size f cdv))->sp vs H Q E ->
   ∃t,E8 (qB CX P w K mg base N qual (bC st) f cdv A outer s H E) (dS st) t/\t {nx:=λ_ H'=>Q .non H',rt:=Q} (start N vs) H):rO P w K mg base CX (k+1) f fd ps sp:=by
 let⟨oc,od,kV,doc,pm,an,cdv,ct,osl,rfl,lk,hcd⟩:=F.ex;exact aI4 lk hcd S len λA outer s H vs Q E hr hsp=>hbody cdv rfl A outer s H vs Q E hr hsp
theorem SU 
  (I:Inv (qB (AG P w K) P w K mg base N qual sc f cdv A outer s H E) U σ H1 s1) (fl:SM (qB (AG P w K) P w K mg base N qual sc f cdv A outer s H E) U H1 s1 nm e) (q:E (.str nm 0) none H1):
  (qB (AG P w K) P w K mg base N qual sc f cdv A outer s H E).xe e s1:=by
 let⟨a,cls,ch,rfl,hn,x,hc⟩:=fl;refine ZX (base:=base) (outer:=outer) (L:=s.heap.objs.size) I.ok.frames I.stack rfl x λh' ch' xt x' new=>?_;have I2:=I.xt xt hc;refine⟨nm,a,cls,ch',H1,rfl,hn,I2.os,I2.bare,I2.base,I2.hok,x',λb hb=>?_,q⟩;rcases new b hb with m|⟨m0,m⟩
 .exact⟨(hc b m).un,(hc b m).new.resolve_left λz=>by cases z⟩
 .refine⟨I.hok.fresh m,?_⟩
  show s.heap.get? b=none;cases q:s.heap.get? b with
  |none=>rfl
  |some o=>
   let⟨o',e'⟩:=I.base.there b o q (λz=>by cases z);rw[m0]at e';cases e'
theorem RH.okD{st:Stmt}(Fn:RH K x qual st f fd)(S:jM N pn (bC st))(hN:owp.length=N.length)(hb:∀(cdv:Value)(_:fd.code=cdv)(A:Around)(outer:List Env)(s:Shared)(H:Hp)(E:XK)(F0:Hp)(g0:ZP)(σ0:St)(wf:∀a i q,g0 a=some (i,q)->i∈ps),fB k (A.deeper (envOfC qual (bC st) s.heap.objs.size f cdv)) ->
   ∃ow',AF (qB (AG P w K) P w K mg base N qual (bC st) f cdv A outer s H E) ⟨F0,H,g0,ps,σ0,owp,wf⟩ owp ow' ow' ow' rm (dS st) body):rO P w K mg base (AG P w K) (k+1) f fd pn (λvs H Q E=>vs.length=pn.length/\ś K ps owp rm (aP N.length ps rm body) vs H Q E):=by
 refine Fn.okG S (λvs H Q E h=>h.1) λcdv ec A outer s H vs Q E hr h=>?_;let⟨hl,F,g,ds,hL,hs,hd,hg,hv,q⟩:=h;let Z:b8:=⟨F,H,g,ps,start N vs,owp,hg⟩;let⟨ow',hB⟩:=hb cdv ec A outer s H E F g (start N vs) hg hr;refine⟨_,hB,F,ds.map some++List.replicate (N.length-ds.length) none,⟨g,hs,⟨hL,aI.refl _⟩,λ_ _ _ e=>e,λ_ h _=>h,λ_ h=>h,λa i p e=>.inr ⟨p,e⟩,?_,λi _=>⟨rfl,rfl⟩,λi d' e=>?_⟩,?_⟩
 .have hpl:pn.length<=N.length:=by have:=congrArg List.length S.pre;rw[ï]at this;lia
  unfold start;simp![Ë,Ä,ñ,hd]
 .have hi:i<ds.length:=by
   by_cases hi:i<ds.length
   .exact hi
   .rw[Þ (by simpa using hi),ă]at e
    split at e<;>cases e
  rw[î (by simpa using hi),Ñ,É hi]at e;have ed:ds[i]?=some d':=by
   rw[É hi];simpa using e
  have hi':i<vs.length:=by exact ô ‹_› ‹_›
  refine⟨vs[i],?_,hv i d' _ ed (É hi')⟩;unfold start;rw[î (by simpa using hi'),Ñ,É hi'];rfl
 .have fin:∀{rm:Nat}{d0:D}{δ:DS}{v:V}{σ':St}{H' F':Hp}{owr:ZH}{os:ZI},gJ K Z owr rm d0 v F' H' σ' δ->fX δ ps=some os->∃g',Z2 K ps owp rm F H g vs F' H' g' ((os.map some).filterMap id) d0 v:=λ{rm d0 δ v σ' H' F' owr os}R ho=>by
   have eo:(os.map some).filterMap id=os:=by rw[List.filterMap_map];exact List.filterMap_some
   rw[eo];let⟨g',R,o⟩:=R;let⟨ol,oa⟩:=BD ho;refine⟨g',R.f0.2,R.sub,R.kept,R.new,R.there,R.lab,o,ol,λk i d' h1 h2=>?_⟩;let⟨v',e1,o1⟩:=R.slot i d' (oa k i d' h1 h2);let⟨p1,p2⟩:=R.par i (þ h1);rw[show Z.owp=owp from rfl]at p2;rw[p2]at o1;refine⟨v',?_,o1⟩;rw[p1]at e1;have e1:(start N vs)[i]?=some (some v'):=e1;unfold start at e1;by_cases hi:i<vs.length
   .rw[î (by simpa using hi),Ñ,É hi]at e1
    rw[É hi];simpa using e1
   .rw[Þ (by simpa using hi),ă]at e1
    split at e1<;>cases e1
  unfold aP at q;cases e:body (ds.map some++List.replicate (N.length-ds.length) none)with
  |stuck=>rw[e]at q;exact q.elim
  |err y δ=>
   rw[e]at q;dsimp only at q;cases ho:fX δ ps with
   |none=>rw[ho]at q;exact q.elim
   |some os=>
    rw[ho]at q;refine⟨λU e1 s1 xp=>?_⟩;let⟨nm,H1,F1,σ1,rfl,I,R,_,fl⟩:=xp;let⟨g1,R⟩:=R;have RX:gJ K Z owp 0 .none .non F1 H1 σ1 δ:=⟨g1,R,by show bI K F1 .none .non;unfold bI;rfl⟩;let⟨g',T⟩:=fin RX ho;exact SU I fl (q nm rfl H1 F1 g' T)
  |ok fl δ=>
   rw[e]at q;cases fl with
   |brk=>exact q.elim
   |cont=>exact q.elim
   |ret d0=>
    dsimp only at q;intro v σ' H' F' owr R _;cases ho:fX δ ps with
    |none=>rw[ho]at q;exact q.elim
    |some os=>
     rw[ho]at q;let⟨g',T⟩:=fin R ho;exact q v H' F' g' T
   |next=>
    dsimp only at q;intro σ' H' F' R _;by_cases hrm:rm=0
    .rw[Á hrm]at q
     cases ho:fX δ ps with
     |none=>rw[ho]at q;exact q.elim
     |some os=>
      rw[ho]at q;let⟨g',R⟩:=R;have RX:gJ K Z ow' rm .none .non F' H' σ' δ:=⟨g',R,by rw[hrm];show bI K F' .none .non;unfold bI;rfl⟩;let⟨g2,T⟩:=fin RX ho;exact q .non H' F' g2 T
    .rw[Â hrm]at q;exact q.elim
end
def aU:List Arg->ZH
 |[]=>[]
 |.own i::as=>i::aU as
 |.val _::as=>aU as
def fY:Nat->List Arg->ZH
 |_,[]=>[]
 |k,.own _::as=>k::fY (k+1) as
 |k,.val _::as=>fY (k+1) as
def dM(δ:DS):List Arg->List (ZL)->Option (ZI)
 |[],[]=>some []
 |.own i::as,none::ds=>match δ[i]?,dM δ as ds with
  |some (some d),some r=>some (d::r)
  |_,_=>none
 |.val _::as,some d::ds=>(dM δ as ds).map (d::·)
 |_,_=>none
def bS:ZH->ZI->DS->DS
 |i::is,d::ds,δ=>bS is ds (δ.set i (some d))
 |_,_,δ=>δ
def dR(fn:ZI->Res D)(as:List Arg):M D:=λδ=>(cG as δ).bind λods δ1=>match dM δ1 as ods with
 |none=>.stuck
 |some ds=>match fn ds with
  |.ok d outs=>.ok d (bS (aU as) (outs.filterMap id) δ1)
  |.err x outs=>.err x (bS (aU as) (outs.filterMap id) δ1)
  |.stuck=>.stuck
def gL:Nat->List Arg->Nat->Option Nat
 |_,[],_=>none
 |k,.own i::as,j=>if i=j then some k else gL (k+1) as j
 |k,.val _::as,j=>gL (k+1) as j
theorem GB:∀{k:Nat}{as:List Arg}{j m:Nat},gL k as j=some m->k<=m
 |k,.own i::as,j,m,h=>by
  unfold gL at h;split at h
  .cases h;exact Ç _
  .exact Nat.le_of_succ_le (GB h)
 |k,.val _::as,j,m,h=>Nat.le_of_succ_le (GB (show gL (k+1) as j=some m from h))
theorem kL:∀{k:Nat}{as:List Arg}{i m:Nat},gL k as i=some m->∃q,as[q]?=some (.own i)/\m=k+q/\m∈fY k as
 |k,.own s::as,i,m,h=>by
  unfold gL at h;split at h
  .rename_i e;cases h;exact⟨0,by rw[e];rfl,rfl,Ó⟩
  .obtain⟨q,e1,e2,e3⟩:=kL h
   exact⟨q+1,e1,∅,Ï _ e3⟩
 |k,.val _::as,i,m,h=>by
  let⟨q,e1,e2,e3⟩:=kL (k:=k+1) (as:=as) h;exact⟨q+1,e1,∅,e3⟩
theorem uA:∀{k:Nat}{as:List Arg}{t m i:Nat},(fY k as)[t]?=some m->(aU as)[t]?=some i->as[m-k]?=some (.own i)/\k<=m
 |k,.own s::as,0,m,i,h1,h2=>by cases h1;cases h2;exact⟨by rw[ú];rfl,Ç _⟩
 |k,.own s::as,t+1,m,i,h1,h2=>by
  let⟨e1,e2⟩:=uA (k:=k+1) (as:=as) (t:=t) h1 h2;exact⟨by rw[show m-k=(m-(k+1))+1 by lia];exact e1,by exact È ‹_›⟩
 |k,.val _::as,t,m,i,h1,h2=>by
  let⟨e1,e2⟩:=uA (k:=k+1) (as:=as) (t:=t) h1 h2;exact⟨by rw[show m-k=(m-(k+1))+1 by lia];exact e1,by exact È ‹_›⟩
theorem rX:∀{as:List Arg}{q i:Nat},as[q]?=some (.own i)->i∈aU as
 |.own s::as,0,i,h=>by cases h;exact Ó
 |.own s::as,q+1,i,h=>Ï _ (rX (as:=as) (q:=q) h)
 |.val _::as,0,i,h=>by cases h
 |.val _::as,q+1,i,h=>rX (as:=as) (q:=q) h
theorem uB:∀{k:Nat}{as:List Arg}{q i:Nat},(aU as).Nodup->as[q]?=some (.own i)->gL k as i=some (k+q)
 |k,.own s::as,0,i,_,h=>by cases h;unfold gL;rw[Á rfl];rfl
 |k,.own s::as,q+1,i,nd,h=>by
  have nd':=List.nodup_cons.mp (show (s::aU as).Nodup from nd);have h:as[q]?=some (.own i):=h;have hm:i∈aU as:=rX h;have ne:¬s=i:=λe=>nd'.1 (by rw[e];exact hm);unfold gL;rw[Â ne,uB nd'.2 h];congr 1;lia
 |k,.val _::as,0,i,_,h=>by cases h
 |k,.val _::as,q+1,i,nd,h=>by
  have e:gL (k+1) as i=some (k+1+q):=uB (q:=q) nd h;show gL (k+1) as i=_;rw[e];congr 1;lia
theorem kM{K:ZC}:∀{as:List Arg}{ods:List (ZL)}{ds:ZI}{vs:List V},dM δ as ods=some ds->rW K F σ as ods vs->ds.length=as.length/\vs.length=as.length /\
  ∀(q:Nat)(d:D)(v:V),ds[q]?=some d->vs[q]?=some v->(∃i,as[q]?=some (.own i)/\δ[i]?=some (some d)/\σ[i]?=some (some v))\/((∃f,as[q]?=some (.val f))/\bI K F d v)
 |[],[],ds,[],h,_=>by cases h;exact⟨rfl,rfl,λq d v e=>by simp at e⟩
 |.own i::as,none::ods,ds,v::vs,h,⟨z1,z2⟩=>by
  unfold dM at h;split at h
  .rename_i d r e1 e2
   cases h;let⟨h1,h2,h3⟩:=kM e2 z2;refine⟨by simp[h1],by simp[h2],λq d' v' q1 q2=>?_⟩;cases q with
   |zero=>cases q1;cases q2;exact .inl ⟨i,rfl,e1,z1⟩
   |succ q=>exact h3 q d' v' q1 q2
  .cases h
 |.val f::as,some d::ods,ds,v::vs,h,⟨z1,z2⟩=>by
  unfold dM at h;cases e:dM δ as ods with
  |none=>rw[e]at h;cases h
  |some r=>
   rw[e]at h;cases h;let⟨h1,h2,h3⟩:=kM e z2;refine⟨by simp[h1],by simp[h2],λq d' v' q1 q2=>?_⟩;cases q with
   |zero=>cases q1;cases q2;exact .inr ⟨⟨f,rfl⟩,z1⟩
   |succ q=>exact h3 q d' v' q1 q2
theorem vG:∀{is:ZH}{ds:ZI}{δ:DS},(bS is ds δ).length=δ.length
 |[],_,_=>by unfold bS;rfl
 |_::_,[],_=>by unfold bS;rfl
 |i::is,d::ds,δ=>by
  unfold bS;rw[vG,Ù]
theorem nC:∀{is:ZH}{ds:ZI}{δ:DS}{j:Nat},j∉is->(bS is ds δ)[j]?=δ[j]?
 |[],_,_,_,_=>by unfold bS;rfl
 |_::_,[],_,_,_=>by unfold bS;rfl
 |i::is,d::ds,δ,j,h=>by
  unfold bS;rw[nC λm=>h (Ï _ m),ß λe=>h (by rw[e];exact Ó)]
theorem wY:∀{is:ZH}{ds:ZI}{δ:DS}{j:Nat}{d:D},is.Nodup->is.length=ds.length->j∈is->(bS is ds δ)[j]?=some (some d)->∃t:Nat,is[t]?=some j/\ds[t]?=some d
 |i::is,d::ds,δ,j,d',nd,hl,hm,h=>by
  unfold bS at h;have nd:=List.nodup_cons.mp nd;by_cases e:j=i
  .subst e
   rw[nC nd.1,č]at h;split at h
   .split at h
    .cases h;exact⟨0,rfl,rfl⟩
    .cases h
   .rename_i z;exact absurd rfl z
  .obtain⟨t,t1,t2⟩:=wY nd.2 (by simpa using hl) ((Í.mp hm).resolve_left e) h
   exact⟨t+1,t1,t2⟩
section
variable {X:Cx}{Z:b8}{ow:ZH}{pos:Pos}{as:List Arg}{F H:Hp}{σ:St}{δ:DS}{g:ZP}
def C2(as:List Arg)(g:ZP):ZP:=λa=>match g a with
 |some (i,p)=>(gL 0 as i).map λj=>(j,p)
 |none=>none
def SV(as:List Arg)(g g':ZP):ZP:=λa=>match g' a with
 |some (j,p)=>if j=1000 then some (1000,p)else (match as[j]? with|some (.own i)=>some (i,p)|_=>none)
 |none=>match g a with
  |some (i,p)=>if i=1000\/(gL 0 as i).isSome=true then none else some (i,p)
  |none=>none
theorem aJK{a:Addr}{i j:Nat}{p:ZH}(h:g a=some (i,p))(e:gL 0 as i=some j):C2 as g a=some (j,p):=by
 unfold C2;rw[h];dsimp only;rw[e];rfl
theorem MC(h:C2 as g a=some (j,p)):∃i,g a=some (i,p)/\gL 0 as i=some j:=by
 unfold C2 at h;cases e:g a with
 |none=>rw[e]at h;cases h
 |some l=>
  let⟨i,q⟩:=l;rw[e]at h;dsimp only at h;cases e2:gL 0 as i with
  |none=>rw[e2]at h;cases h
  |some m=>rw[e2]at h;cases h;exact⟨i,rfl,e2⟩
theorem GC(S:aO Z ow)(R:cI X.K Z ow g F H σ δ)(hA:rW X.K F σ as ods vs)(hf:dM δ as ods=some ds)(hps:fY 0 as=ps)(nd:(aU as).Nodup)(hm:∀q i,as[q]?=some (.own i)->owp.getD q 0=ow.getD i 0)(hlt:as.length<=1000)(T:Z2 X.K ps owp rm F H (C2 as g) vs F' H' g' outs d v):gJ X.K Z ow rm d v F' H' σ (bS (aU as) outs δ):=by
 let⟨l1,l2,hat⟩:=kM hf hA;have keepOut:∀{a:Addr}{i:Nat}{p:ZH},g a=some (i,p)->i∉aU as->C2 as g a=none:=λ{a i p}e hi=>by
  cases e1:C2 as g a with
  |none=>rfl
  |some l=>
   let⟨j,r⟩:=l;let⟨i',e2,e3⟩:=MC e1;rw[e]at e2;cases e2;let⟨q,e4,_⟩:=kL e3;exact absurd (rX e4) hi
 have h0:∀a,H a=none->Z.H0 a=none:=λa e=>by
  cases e1:Z.H0 a with
  |none=>rfl
  |some o=>exact absurd e (R.there a (by rw[e1];simp))
 refine⟨SV as g g',⟨T.sub,R.f0.trans' T.s,λb o n e=>?_,λa z1 z2=>T.new a (R.new a z1 z2) (R.there a z2),λb z=>T.there b (R.there b z),λa i p e=>?_,by rw[vG];exact R.len,R.par,λi d' e=>?_⟩,?_⟩
 .refine T.kept b o ?_ (R.kept b o n e)
  cases e1:C2 as g b with
  |none=>rfl
  |some l=>
   let⟨j,r⟩:=l;let⟨i',e2,e3⟩:=MC e1;rcases R.lab b i' r e2 with z|⟨q',z⟩
   .rw[z]at e;cases e
   .rw[z]at n;cases n
 .unfold SV at e
  cases e1:g' a with
  |some l=>
   let⟨j,r⟩:=l;rw[e1]at e;dsimp only at e;rcases T.lab a j r e1 with z|⟨q',z⟩
   .exact .inl (h0 a z)
   .obtain⟨i',z1,z2⟩:=MC z
    let⟨q2,z3,z4,_⟩:=kL z2;have:j=q2:=by lia
    subst this;have hj:j≠1000:=λw=>by
     have:=(Ò.mp z3).1;lia
    rw[Â hj,z3]at e;cases e;exact R.lab a i q' z1
  |none=>
   rw[e1]at e;dsimp only at e;cases e2:g a with
   |none=>rw[e2]at e;cases e
   |some l=>
    let⟨j,r⟩:=l;rw[e2]at e;dsimp only at e;split at e
    .cases e
    .cases e;exact R.lab a i p e2
 .by_cases hi:i∈aU as
  .have hl:(aU as).length=outs.length:=by
    rw[T.olen,<- hps];have:∀(k:Nat)(as:List Arg),(aU as).length=(fY k as).length:=by
     intro k as
     induction as generalizing k with
     |nil=>rfl
     |cons a as ih=>
      cases a with
      |own i=>exact congrArg Nat.succ (ih (k+1))
      |val f=>exact ih (k+1)
    exact this 0 as
   let⟨t,t1,t2⟩:=wY nd hl hi e;have hpos:∃m,ps[t]?=some m:=by
    have:t<ps.length:=by rw[<- T.olen];exact(Ò.mp t2).1
    exact⟨ps[t],É this⟩
   let⟨m,hm1⟩:=hpos;let⟨v',o1,o2⟩:=T.out t m d' hm1 t2;have e3:=(uA (k:=0) (by rw[hps];exact hm1) t1).1;rw[Nat.sub_zero]at e3;have hlm:m<ds.length:=by
    have:=(Ò.mp e3).1;exact ô ‹_› (Eq.symm ‹_›)
   rcases hat m ds[m] v' (É hlm) o1 with ⟨s,a1,a2,a3⟩|⟨⟨f,a1⟩,a2⟩
   .rw[e3]at a1;cases a1
    refine⟨v',a3,?_⟩;rw[hm m i e3]at o2;refine o2.relab λa p e4=>?_;unfold SV;rw[e4];dsimp only;have hj:m≠1000:=λw=>by
     have:=(Ò.mp e3).1;lia
    rw[Â hj,e3]
   .rw[e3]at a1;cases a1
  .rw[nC hi]at e
   let⟨w,w1,o⟩:=R.slot i d' e;refine⟨w,w1,?_⟩;by_cases hz:ow.getD i 0=0
   .rw[hz]at o⊢;exact T.s.rep _ _ o
   .have i1:i<1000:=by
     by_cases hl:i<ow.length
     .exact Ô hl S.ow
     .exact absurd (by rw[Ê,æ (by exact ç.mp ‹_›)];rfl) hz
    refine aZ.keepJ T.s (λa q u e3 e4 e5=>?_) o;have gn:=keepOut e3 hi;have g'n:g' a=none:=by
     cases e7:g' a with
     |none=>rfl
     |some l=>
      let⟨j,r⟩:=l;rcases T.lab a j r e7 with z|⟨q',z⟩
      .rw[e4]at z;cases z
      .rw[gn]at z;cases z
    refine⟨?_,T.kept a _ gn e4,T.new a e5 (by rw[e4];simp)⟩;unfold SV;rw[g'n,e3];dsimp only;rw[Â];rintro(z|z)
    .lia
    .cases e8:gL 0 as i with
     |none=>rw[e8]at z;cases z
     |some m=>let⟨q,e9,_⟩:=kL e8;exact hi (rX e9)
 .refine T.ret.relab λa p e=>?_
  unfold SV;rw[e];exact Á rfl
theorem MD{fn:ZI->Res D}{ps owp:ZH}{rm:Nat}{ods:List (ZL)}{ds:ZI}{vs:List V}{Q:VK}{E:XK}(S:aO Z ow)(R:cP X.K Z ow F H σ δ)(hA:rW X.K F σ as ods vs)(hf:dM δ as ods=some ds)(hps:fY 0 as=ps)(nd:(aU as).Nodup)(hm:∀q i,as[q]?=some (.own i)->owp.getD q 0=ow.getD i 0)(hv:∀q f,as[q]?=some (.val f)->owp.getD q 0=0)(hlt:as.length<=1000)(q:match fn ds with
   |.ok d outs=>∀v H' F',gJ X.K Z ow rm d v F' H' σ (bS (aU as) (outs.filterMap id) δ)->aI F F'->Q v H'
   |.err x outs=>∀nm,x=.str nm->∀H' F',cP X.K Z ow F' H' σ (bS (aU as) (outs.filterMap id) δ)->aI F F'->E (.str nm 0) none H'
   |.stuck=>False):ś X.K ps owp rm fn vs H Q E:=by
 let⟨g,R⟩:=R;let⟨l1,l2,hat⟩:=kM hf hA;refine⟨F,C2 as g,ds,R.f0.lm,R.sub,∅,λa i p e=>?_,λi d' v' e1 e2=>?_,?_⟩
 .obtain⟨j,_,e2⟩:=MC e
  let⟨_,_,_,e3⟩:=kL e2;rw[<- hps];exact e3
 .rcases hat i d' v' e1 e2 with ⟨s,a1,a2,a3⟩|⟨⟨f,a1⟩,a2⟩
  .rw[hm i s a1]
   let⟨w,w1,o⟩:=R.slot s d' a2;rw[a3]at w1;cases w1;exact o.relab λa p e=>aJK e (by rw[uB nd a1];simp)
  .rw[hv i f a1];exact a2
 .cases e:fn ds with
  |stuck=>rw[e]at q;exact q
  |ok d outs=>
   rw[e]at q;exact λv H' F' g' T=>q v H' F' (GC S R hA hf hps nd hm hlt T) T.s
  |err x outs=>
   rw[e]at q;exact λnm hx H' F' g' T=>q nm hx H' F' (GC S R hA hf hps nd hm hlt T).rel T.s
def fG(owp ow:ZH):Nat->List Arg->Bool
 |_,[]=>true
 |k,.own i::as=>(owp.getD k 0 == ow.getD i 0) && fG owp ow (k+1) as
 |k,.val _::as=>(owp.getD k 0 == 0) && fG owp ow (k+1) as
theorem lU :∀{k:Nat}{as:List Arg},fG owp ow k as=true->(∀q i,as[q]?=some (.own i)->owp.getD (k+q) 0=ow.getD i 0)/\(∀q f,as[q]?=some (.val f)->owp.getD (k+q) 0=0)
 |k,[],_=>⟨λq i e=>by simp at e,λq f e=>by simp at e⟩
 |k,.own s::as,h=>by
  unfold fG at h;rw[ä,beq_iff_eq]at h;let⟨h1,h2⟩:=lU h.2;refine⟨λq i e=>?_,λq f e=>?_⟩
  .cases q with
   |zero=>cases e;exact h.1
   |succ q=>have:=h1 q i e;rw[show k+(q+1)=k+1+q by lia];exact this
  .cases q with
   |zero=>cases e
   |succ q=>have:=h2 q f e;rw[show k+(q+1)=k+1+q by lia];exact this
 |k,.val _::as,h=>by
  unfold fG at h;rw[ä,beq_iff_eq]at h;let⟨h1,h2⟩:=lU h.2;refine⟨λq i e=>?_,λq f e=>?_⟩
  .cases q with
   |zero=>cases e
   |succ q=>have:=h1 q i e;rw[show k+(q+1)=k+1+q by lia];exact this
  .cases q with
   |zero=>exact h.1
   |succ q=>have:=h2 q f e;rw[show k+(q+1)=k+1+q by lia];exact this
abbrev SW(K:ZC)(pn:ZG)(ps owp:ZH)(rm:Nat)(fn:ZI->Res D):Sp:=λvs H Q E=>vs.length=pn.length/\ś K ps owp rm fn vs H Q E
def SX(sp:Sp)(E:St->XK)(t:TA):TE:=λσ H Q=>t σ H λvs H1=>sp vs H1 Q (E σ)
def EX(X:Cx)(σ:St):XK:=λv _ H'=>∀nm,v=.str nm 0->∀U e s',Inv X U σ H' s'->SM X U H' s' nm e->X.xe e s'
theorem SY{p:Pos}(Fk:rO X.prog X.w X.K X.mg X.base (AG X.prog X.w X.K) k f fd pn sp)(hr:fB k X.A)(hg:Gl X x)(hmg:X.mg x=some (.ref f))(hk:W.keepIn X.K (.ref f)=true)(hb:pH X.K fd pn [])(ha:PA X (e::es) t)(hdb:⇑(Zdb x))(he:↥(Zse e es X.env))(hpl:↥(Zbt pos es X.env)):
  PE X (.Call 'i' (e::es) [] pos) (SX sp (EX X) t):=by
 intro U s σ H Q I h;refine wpAny_Call_Name_kw (rJ I hg hmg ?_ hdb);refine W.callWith_K (h₀:=X.base) I.ok.mod.kin hk (cN (ha pos U s σ H _ I h) λus s1⟨vs,H1,I1,r,q⟩=>⟨I1.kIn,?_⟩) he hpl;have hl:us.length=pn.length:=by rw[<- r.length];exact Fk.len _ _ _ _ q
 have hb':=hb s1 us I1.kIn (by rw[â];exact hl);rw[â]at hb';refine wpAny_call (codeAny_mono (Fk.run X.A X.stack s1 H1 ⟨us,[]⟩ us vs Q (EX X σ) hr I1.env0 hb' r q) λr s' hq=>?_);cases r with
 |error e=>
  let⟨nm,a,cls,ch,H',rfl,hn,os,bare,un,hok,x,new,q2⟩:=hq;have I2:Inv X U σ H' s':=I1.call' os un hok bare λb z=>absurd z 'e';exact q2 nm rfl U _ s' I2 ⟨a,cls,ch,rfl,hn,x,λb hb=>pL.of I1 (new b hb).1 (new b hb).2⟩
 |ok fl=>
  cases fl with
  |ret u=>exact I1.after hq
  |next=>exact False.elim hq
  |brk=>exact False.elim hq
  |cont=>exact False.elim hq
theorem GD(S:aO Z ow)(hz:YK Z=true)(hl:as.length=pn.length)(hps:fY 0 as=ps)(nd:decide (aU as).Nodup=true)(hm:fG owp ow 0 as=true)(hlt:as.length<=1000)(h:tD X Z ow rm (dR fn as) σ H Q):SX (SW X.K pn ps owp rm fn) (EX X) (ĺ X Z ow as) σ H Q:=by
 let⟨F,δ,R,h⟩:=h;unfold dR at h;refine⟨F,δ,R,?_⟩;let⟨m1,m2⟩:=lU hm;cases e:cG as δ with
 |stuck=>rw[e]at h;exact h.elim
 |err x δ1=>rw[e]at h;exact h
 |ok ods δ1=>
  rw[e]at h;simp![Res.bind]at h;intro vs H1 F1 R1 s1 z;cases e2:dM δ1 as ods with
  |none=>rw[e2]at h;exact h.elim
  |some ds=>
   rw[e2]at h;dsimp only at h;have l2:=(kM e2 z).2.1;refine⟨by exact Eq.trans ‹_› ‹_›,MD S R1 z e2 hps (of_decide_eq_true nd) (λq i e=>by have:=m1 q i e;rwa [Nat.zero_add]at this) (λq f e=>by have:=m2 q f e;rwa [Nat.zero_add]at this) hlt ?_⟩
   cases e3:fn ds with
   |stuck=>rw[e3]at h;exact h.elim
   |err x outs=>
    rw[e3]at h;dsimp only at h⊢;intro nm hx H' F' R' s' nm' hnm U e s2 I2 fl;injection hnm with hnm;subst hnm;let⟨F2,s3,R2⟩:=R'.toP hz;exact h.out U e s2 ⟨nm,H',F2,σ,hx,I2,R2,s1.trans' (s'.trans' s3),fl⟩
   |ok d outs=>
    rw[e3]at h;dsimp only at h⊢;exact λv H' F' R' s'=>h v H' F' R' (s1.trans' s')
theorem Z3{p:Pos}(S:aO Z ow)(Fk:rO X.prog X.w X.K X.mg X.base (AG X.prog X.w X.K) k f fd pn (SW X.K pn ps owp rm fn))(hr:fB k X.A)(hg:Gl X x)(hmg:X.mg x=some (.ref f))(hk:W.keepIn X.K (.ref f)=true)(hb:pH X.K fd pn [])(ha:DA X Z ow (e::es) as)(hz:↥(YK Z=true))(hl:↥(as.length=pn.length))(hps:↥(fY 0 as=ps))(nd:↥(decide (aU as).Nodup=true))(hm:↥(fG owp ow 0 as=true))(hlt:⇑(as.length<=1000))(hdb:⇑(Zdb x))(he:↥(Zse e es X.env))(hpl:↥(Zbt pos es X.env)):
  DE X Z ow rm (.Call 'i' (e::es) [] pos) (dR fn as):=PE.mono (SY Fk hr hg hmg hk hb ha hdb he hpl) λ_ _ _ h=>GD S hz hl hps nd hm hlt h
end
section
variable {X:Cx}{Z:b8}{ow ol ox:ZH}{n rm:Nat}{pos:Pos}{e a b:Expr}{f h:M D}{F H:Hp}{σ:St}{δ:DS}{g:ZP}{K:ZC}
theorem aZ.relabP{g':ZP}(hg:∀a p,g a=some (i,p)->g' a=some (j,q++p))(r:aZ K F H g i n p d v):aZ K F H g' j n (q++p) d v:=
 iQ.trans (λ_ _ z=>z) (λa p o e1 e2 e3=>⟨hg a p e1,e2,e3⟩) r
theorem cP.rewrite{a:Addr}(S:aO Z ow)(R:cP K Z ow F H σ δ)(ho:ow.getD i 0=1)(hd:δ[i]?=some (some (.list ds)))(hs:σ[i]?=some (some (.ref a)))(hr:aD K F ds' vs'):
  cP K Z ow F (aX H a (.lst vs')) σ (δ.set i (some (.list ds'))):=by
 let⟨g,R⟩:=R;let⟨v,e1,o⟩:=R.slot i _ hd;rw[hs]at e1;cases e1;rw[ho]at o;let⟨a',ds0,vs0,q1,q2,q3,q4,q5,q6,q7⟩:=o.lst (m:=0);cases q1;cases q2;have hi:i<δ.length:=(Ò.mp hd).1;refine⟨g,λb u e=>?_,R.f0,λb u n e=>?_,R.new,λb z=>?_,R.lab,by rw[Ù];exact R.len,R.par,λj d e=>?_⟩
 .have:b≠a:=λz=>by rw[z,q5]at e;cases e
  rw[aH this];exact R.sub b u e
 .have:b≠a:=λz=>by
   subst z;rcases R.lab b i [] q3 with w|⟨q,w⟩
   all_goals grind
  rw[aH this];exact R.kept b u n e
 .by_cases hb:b=a
  .subst hb;rw[aM];simp
  .rw[aH hb];exact R.there b z
 .by_cases hj:j=i
  .subst hj
   rw[ð hi]at e;cases e;refine⟨_,hs,?_⟩;rw[ho];exact aZ.mkL (m:=0) ⟨a,ds',vs',rfl,rfl,q3,aM,q5,hr.len,λk d' v' z1 z2=>hr.both k d' v' z1 z2⟩
  .rw[ß (Ð hj)]at e
   let⟨v,e1,o⟩:=R.slot j d e;refine⟨v,e1,o.mono (aI.refl _) (λ_ _ _ e=>e) (λ_ _ _ _ h=>h) λa' l u hl e h=>?_⟩;have:a'≠a:=λz=>by grind
   rw[aH this];exact h
theorem cP.ownAt{d:D}(R:cP K Z ow F H σ δ)(ho:ow.getD i 0=1)(hd:δ[i]?=some (some d)):∃a ds vs,d=.list ds/\σ[i]?=some (some (.ref a))/\H a=some (.lst vs)/\aD K F ds vs:=by
 let⟨g,R⟩:=R;let⟨v,e1,o⟩:=R.slot i _ hd;rw[ho]at o;let⟨a,ds0,vs0,q1,q2,q3,q4,q5,q6,q7⟩:=o.lst (m:=0);exact⟨a,ds0,vs0,q1,by rw[e1,q2],q4,aD.of q6 q7⟩
def J9(i:Nat)(op:ZI->ZI->Option (D×ZI))(fs:List (M D)):M D:=λδ=>match δ[i]? with
 |some (some _)=>(aY fs δ).bind λargs δ1=>(match δ1[i]? with
  |some (some (.list ds))=>(match op ds args with
   |some (ret,ds')=>.ok ret (δ1.set i (some (.list ds')))
   |none=>.stuck)
  |_=>.stuck)
 |_=>.stuck
def GE(X:Cx)(r:V->List V->Hp->VK->Prop)(op:ZI->ZI->Option (D×ZI)):Prop:=∀(F H:Hp)(l:Addr)(xs vs:List V)(ds args:ZI)(ret:D)(ds':ZI),H l=some (.lst xs)->aI F H->aD X.K F ds xs->aD X.K F args vs->op ds args=some (ret,ds') ->
 ∃xs' rv,aD X.K F ds' xs'/\bI X.K F ret rv/\∀Q:VK,Q rv (aX H l (.lst xs'))->r (.ref l) vs H Q
theorem Z4(S:aO Z ow)(ho:ow.getD i 0=1)(hm:GE X r op)(h:tD X Z ow 0 (J9 i op fs) σ H Q):Γ X.K "list" r (RN i) (tV X Z ow fs) σ H Q:=by
 let⟨F,δ,R,h⟩:=h;unfold J9 at h;cases e0:δ[i]? with
 |none=>rw[e0]at h;exact h.elim
 |some o=>
  cases o with
  |none=>rw[e0]at h;exact h.elim
  |some d0=>
   rw[e0]at h;dsimp only at h;let⟨a,ds0,vs0,q1,q2,q3,q4⟩:=R.ownAt ho e0;refine⟨_,q2,.inl ⟨rfl,vs0,eJ.of q3⟩,F,δ,R,?_⟩;cases e:aY fs δ with
   |stuck=>rw[e]at h;exact h.elim
   |err x δ1=>rw[e]at h;exact h
   |ok args δ1=>
    rw[e]at h;simp![Res.bind]at h;intro vs H1 F1 R1 s1 z;cases e1:δ1[i]? with
    |none=>rw[e1]at h;exact h.elim
    |some o=>
     cases o with
     |none=>rw[e1]at h;exact h.elim
     |some d1=>
      rw[e1]at h;let⟨a',ds1,vs1,p1,p2,p3,p4⟩:=R1.ownAt ho e1;rw[q2]at p2;cases p2;subst p1;dsimp only at h;cases e2:op ds1 args with
      |none=>rw[e2]at h;exact h.elim
      |some rr=>
       let⟨ret,ds'⟩:=rr;rw[e2]at h;dsimp only at h;let⟨xs',rv,w1,w2,w3⟩:=hm F1 H1 a vs1 vs ds1 args ret ds' p3 R1.sub p4 z e2;exact w3 Q (h _ _ F1 ((R1.rewrite S ho e1 q2 w1).x w2) s1)
theorem nD(i:Nat){x:Str}{p q:Pos}{id:String}(S:aO Z ow)(slot:Slot "list" name id)(hty:typeOf (.builtin id)=pure (.type "method_descriptor"))(hmr:Ĩ X id r)(hm:GE X r op)(ha:DV X Z ow (e::es) fs)(ho:↥(ow.getD i 0=1))(hN:↥(X.N[i]?=some x))(hv:#v[CH X.env.scope x])(hd:⇑(Zdb x))(hcd:⇑(Zcd x))(hbase:↥(attributeBase 'i' name X.env (eval 'i' X.env)=eval 'i' X.env))(hfew:↥(((backTo pos (starEach (e::es) X.env)).all (λx=>!x.1) && (backToKw pos (keywordEach [] X.env)).all (λx=>x.1.isSome)
   && decide ((e::es).length+([]:List Keyword).length+(if ([]:List Keyword).isEmpty then 0 else 1)<30))=true))(hline:↥((q.endLine == pos.line)=true))(hs:↥(Zse e es X.env))(hplain:↥(Zbt pos es X.env)):
  DE X Z ow 0 (.Call (.Attribute 'i' name q) (e::es) [] pos) (J9 i op fs):=PE.mono (Δ PySem.F.plainAttrs_list slot hty hmr (eD hN hv hd hcd) ha hbase hfew hline hs hplain) λ_ _ _ h=>Z4 S ho hm h
def KA:ZI->ZI->Option (D×ZI)
 |ds,[d]=>if ds.length<sizeLine then some (.none,ds++[d])else none
 |_,_=>none
theorem C3:bI K F .none .non:=by unfold bI;rfl
theorem qG:GE X LZ KA:=λF H l xs vs ds args ret ds' hl hs h1 h2 e=>by
 unfold KA at e;split at e
 .rename_i d
  split at e
  .rename_i hlt
   cases e;unfold aD at h2;let⟨x,r,rfl,hx,h2⟩:=h2;unfold aD at h2;subst h2;exact⟨xs++[x],.non,h1.app (lR hx lQ),C3,λQ q=>⟨l,xs,x,rfl,rfl,hl,by rw[<- h1.len];exact hlt,q⟩⟩
  .cases e
 .cases e
theorem cZ(i:Nat){x:Str}{p q:Pos}(S:aO Z ow)(ha:DE X Z ow 0 e f)(ho:↥(ow.getD i 0=1))(hN:↥(X.N[i]?=some x))(hv:#v[CH X.env.scope x])(hd:⇑(Zdb x))(hcd:⇑(Zcd x))(hbase:↥(attributeBase 'i' "append" X.env (eval 'i' X.env)=eval 'i' X.env))(hfew:↥(((backTo pos (starEach [e] X.env)).all (λx=>!x.1) && (backToKw pos (keywordEach [] X.env)).all (λx=>x.1.isSome)
   && decide ([e].length+([]:List Keyword).length+(if ([]:List Keyword).isEmpty then 0 else 1)<30))=true))(hline:↥((q.endLine == pos.line)=true))(hs:↥(Zse e [] X.env))(hplain:↥(Zbt pos [] X.env)):
  DE X Z ow 0 (.Call (.Attribute 'i' "append" q) [e] [] pos) (J9 i KA [f]):=nD i S PySem.F.slot_list_append PySem.F.type_list_append t5 qG (aE ha aS hs) ho hN hv hd hcd hbase hfew hline hs hplain
def SZ(i:Nat)(fk fv:M D):M Fl:=λδ=>(fv δ).bind λv δ1=>match δ1[i]? with
 |some (some _)=>(fk δ1).bind λk δ2=>(match δ2[i]?,k with
  |some (some (.list ds)),.int k=>(match mY ds.length k with
   |some j=>.ok .next (δ2.set i (some (.list (ds.set j v))))
   |none=>.stuck)
  |_,_=>.stuck)
 |_=>.stuck
theorem aD.set(h:aD K F ds vs)(j:Nat)(r:bI K F d v):aD K F (ds.set j d) (vs.set j v):=
 aD.of (by rw[Ù,Ù,h.len]) λk d' v' e1 e2=>by
  by_cases hk:j=k
  .grind
  .rw[ß hk]at e1 e2
   exact h.both k d' v' e1 e2
theorem C5(i:Nat){x:Str}{p:Pos}{spos tpos:Pos}(S:aO Z ow)(hv:DE X Z ow 0 ev fv)(hk:DE X Z ow 0 ek fk)(ho:↥(ow.getD i 0=1))(hN:↥(X.N[i]?=some x))(hvi:#v[CH X.env.scope x])(hd:⇑(Zdb x))(hcd:⇑(Zcd x))(ha: ~~~(∀v,assign (.Subscript 'i' ek tpos) X.env v=(do
   let ov <- holding [v] (eval 'i' X.env);let iv <- holding [v,ov] (eval ek X.env)
   standAt tpos
   holding [v,ov,iv] (setItem ov iv v)
   release [v,ov,iv] [])))(hs:↥(swapsWithSole [.Subscript 'i' ek tpos] ev spos.line X.env=pure false))(hw:↥(swappedStores [.Subscript 'i' ek tpos] ev X.env=pure none))(h1:↥((assignEach [.Subscript 'i' ek tpos] X.env).map (·.2)=[assign (.Subscript 'i' ek tpos) X.env])):
  AE X Z ow ow ol ox rm (.Assign [.Subscript 'i' ek tpos] ev spos) (SZ i fk fv):=PS.mono (RS hv (RR (eD hN hvi hd hcd) hk FQ ha) hs hw h1) λDn σ H h=>by
 let⟨F,δ,R,h⟩:=h;unfold SZ at h;refine⟨F,δ,R,?_⟩;cases e:fv δ with
 |stuck=>rw[e]at h;exact h.elim
 |err y δ1=>rw[e]at h;exact iV.cast h
 |ok dv δ1=>
  rw[e]at h;simp![Res.bind]at h;intro v H1 F1 R1 s1;cases e0:δ1[i]? with
  |none=>rw[e0]at h;exact h.elim
  |some o=>
   cases o with
   |none=>rw[e0]at h;exact h.elim
   |some d0=>
    rw[e0]at h;dsimp only at h;let⟨a,ds0,vs0,q1,q2,q3,q4⟩:=R1.rel.ownAt ho e0;refine⟨_,q2,F1,δ1,R1.rel,?_⟩;cases e1:fk δ1 with
    |stuck=>rw[e1]at h;exact h.elim
    |err y δ2=>rw[e1]at h;exact iV.cast (iV.mono h s1)
    |ok dk δ2=>
     rw[e1]at h;dsimp only at h;intro kv H2 F2 R2 s2;cases e2:δ2[i]? with
     |none=>rw[e2]at h;exact h.elim
     |some o=>
      cases o with
      |none=>rw[e2]at h;exact h.elim
      |some d1=>
       rw[e2]at h;let⟨a',ds1,vs1,p1,p2,p3,p4⟩:=R2.rel.ownAt ho e2;rw[q2]at p2;cases p2;subst p1;cases dk with
       |int k=>
        dsimp only at h;cases e3:mY ds1.length k with
        |none=>rw[e3]at h;exact h.elim
        |some j=>
         rw[e3]at h;have rk:=R2.rep;unfold bI at rk;subst rk;refine⟨a,vs1,k,j,rfl,rfl,p3,by rw[<- p4.len];exact e3,?_⟩;exact h σ _ F2 (R2.rel.rewrite S ho e2 q2 (p4.set j (s2.rep _ _ R1.rep))) (s1.trans' s2)
       |_=>exact h.elim
def fE:D->D->ZL
 |.list ds,.int i=>atI ds i
 |.tuple ds,.int i=>atI ds i
 |.str z,.int i=>if z.length<=sizeLine then (atI z.cps.toList i).map λc=>.str ⟨#[c]⟩else none
 |_,_=>none
theorem aD.atI{d:D}(h:aD K F ds vs)(e:L2.atI ds i=some d):∃v,L2.atI vs i=some v/\bI K F d v:=by
 unfold L2.atI at e⊢;rw[<- h.len];cases q:mY ds.length i with
 |none=>rw[q]at e;cases e
 |some j=>
  rw[q]at e;exact h.get e
theorem aJL:oG X (ſ X.K) 0 fE:=λZ ow F H σ δ a b x y d Q S R ra rb e q=>by
 unfold fE at e;split at e
 .rename_i ds i
  unfold bI at ra rb;let⟨p,xs,rfl,hq,rs⟩:=ra;subst rb;let⟨v,e1,r⟩:=rs.atI e;exact .inl ⟨p,xs,i,v,rfl,rfl,R.sub.seq hq,e1,q v H F (R.x r) (aI.refl _)⟩
 .rename_i ds i
  unfold bI at ra rb;let⟨p,xs,rfl,hq,rs⟩:=ra;subst rb;let⟨v,e1,r⟩:=rs.atI e;exact .inr (.inl ⟨p,xs,i,v,rfl,rfl,R.sub.seqT hq,e1,q v H F (R.x r) (aI.refl _)⟩)
 .rename_i z i
  unfold bI at ra rb;subst ra rb;split at e
  .rename_i hz
   cases e1:atI z.cps.toList i with
   |none=>rw[e1]at e;cases e
   |some c=>
    rw[e1]at e;cases e;exact .inr (.inr ⟨z,i,c,rfl,rfl,hz,e1,q _ H F (R.x (by unfold bI;rfl)) (aI.refl _)⟩)
  .cases e
 .cases e
theorem fR(S:aO Z ow)(ha:DE X Z ow 0 a f)(hb:DE X Z ow 0 b h)(hs:oA b:=by exact λ_ _=>rfl):DE X Z ow 0 (.Subscript a b pos) (iW fE f h):=PE.mono (FP aFL ha hb hs) λ_ _ _ q=>CZ S aJL q
def S1(i:Nat)(fk:M D):M D:=λδ=>match δ[i]? with
 |some (some _)=>(fk δ).bind λk δ1=>(match δ1[i]? with
  |some (some d)=>(match fE d k with
   |some r=>.ok r δ1
   |none=>.stuck)
  |_=>.stuck)
 |_=>.stuck
theorem aFW(i:Nat){x:Str}{p:Pos}(hb:DE X Z ow 0 b h)(ho:↥(ow.getD i 0=1))(hN:↥(X.N[i]?=some x))(hv:#v[CH X.env.scope x])(hd:⇑(Zdb x))(hcd:⇑(Zcd x))(hs:oA b:=by exact λ_ _=>rfl):
  DE X Z ow 0 (.Subscript 'i' b pos) (S1 i h):=PE.mono (FP rP (eD hN hv hd hcd) hb hs) λσ H Q q=>by
 let⟨F,δ,R,q⟩:=q;unfold S1 at q;cases e0:δ[i]? with
 |none=>rw[e0]at q;exact q.elim
 |some o=>
  cases o with
  |none=>rw[e0]at q;exact q.elim
  |some d0=>
   rw[e0]at q;dsimp only at q;let⟨a,ds0,vs0,q1,q2,q3,q4⟩:=R.ownAt ho e0;refine⟨_,q2,F,δ,R,?_⟩;cases e1:h δ with
   |stuck=>rw[e1]at q;exact q.elim
   |err y δ2=>rw[e1]at q;exact q
   |ok dk δ2=>
    rw[e1]at q;simp![Res.bind]at q;intro kv H2 F2 R2 s2;cases e2:δ2[i]? with
    |none=>rw[e2]at q;exact q.elim
    |some o=>
     cases o with
     |none=>rw[e2]at q;exact q.elim
     |some d1=>
      rw[e2]at q;let⟨a',ds1,vs1,p1,p2,p3,p4⟩:=R2.rel.ownAt ho e2;rw[q2]at p2;cases p2;subst p1;cases dk with
      |int k=>
       dsimp![fE]at q;cases e3:atI ds1 k with
       |none=>rw[e3]at q;exact q.elim
       |some r=>
        rw[e3]at q;have rk:=R2.rep;unfold bI at rk;subst rk;let⟨v,w1,w2⟩:=p4.atI e3;exact⟨a,vs1,k,v,rfl,rfl,eJ.of p3,w1,q v H2 F2 (R2.rel.x w2) s2⟩
      |_=>exact q.elim
def rY:ZI->ZL
 |[.list ds]=>some (.int ds.length)
 |[.tuple ds]=>some (.int ds.length)
 |[.str z]=>if z.length<=sizeLine then some (.int z.length)else none
 |_=>none
def GF(i:Nat):M D:=λδ=>match δ[i]? with
 |some (some d)=>(match rY [d]with
  |some r=>.ok r δ
  |none=>.stuck)
 |_=>.stuck
theorem C6(i:Nat){x:Str}{p p2:Pos}(hg:Gl X "len")(hm:X.mg "len"=none)(ho:↥(ow.getD i 0=1))(hN:↥(X.N[i]?=some x))(hv:#v[CH X.env.scope x])(hd:⇑(Zdb x))(hcd:⇑(Zcd x))(he:↥(starEach [.Name x p] X.env=(false,eval 'i' X.env)::starEach [] X.env))(hpl:↥(Zbt pos [] X.env)):DE X Z ow 0 (.Call (.Name "len" p2) [.Name x p] [] pos) (GF i):=
 PE.mono (wK rQ hg hm SI (gY (eD hN hv hd hcd) m4 he) ⋯ ⋯ he hpl) λσ H Q q=>by
  let⟨F,δ,R,q⟩:=q;unfold GF at q;cases e0:δ[i]? with
  |none=>rw[e0]at q;exact q.elim
  |some o=>
   cases o with
   |none=>rw[e0]at q;exact q.elim
   |some d0=>
    rw[e0]at q;let⟨a,ds0,vs0,rfl,q2,q3,q4⟩:=R.ownAt ho e0;refine⟨_,q2,a,vs0,rfl,.inl (eJ.of q3),?_⟩;dsimp![rY]at q;rw[q4.len]at q;exact q _ H F (R.x (by unfold bI;rfl)) (aI.refl _)
end
section
variable {a:Expr}{h:M D}{F:Hp}{K:ZC}
theorem iF(h:bI K F (.int i) v):v=.int i:=by unfold bI at h;exact h
theorem j4(h:bI K F (.str x) v):v=.str x:=by unfold bI at h;exact h
theorem mU(h:bI K F (.bool x) v):v=.bl x:=by unfold bI at h;exact h
theorem qH(h:bI K F .none v):v=.non:=by unfold bI at h;exact h
theorem kP(h:bI K F (.list ds) v):∃(a:Addr)(xs:List V),v=.ref a/\eJ K F a xs/\aD K F ds xs:=by unfold bI at h;exact h
theorem C7(h:bI K F (.tuple ds) v):∃(a:Addr)(xs:List V),v=.ref a/\rK K F a xs/\aD K F ds xs:=by unfold bI at h;exact h
theorem gM:bI K F (.int i) (.int i):=by unfold bI;rfl
theorem ME:bI K F (.str i) (.str i):=by unfold bI;rfl
theorem jJ:bI K F (.bool i) (.bl i):=by unfold bI;rfl
def iD(C:Int->Int->Prop)(g:Int->Int->D):D->D->ZL
 |.int i,.int j=>open Classical in if C i j then some (g i j)else none
 |_,_=>none
theorem C8(hg:∀F i j,bI X.K F (g' i j) (g i j)):oG X (rI C g) 0 (iD C g'):=λZ ow F H σ δ a b x y d Q S R ra rb e q=>by
 unfold iD at e;split at e
 .rename_i i j
  split at e
  .rename_i hc
   cases e;exact⟨i,j,iF ra,iF rb,hc,q _ H F (R.x (hg F i j)) (aI.refl _)⟩
  .cases e
 .cases e
def YL(g:Int->Int->D):D->D->ZL
 |.int i,.int j=>some (g i j)
 |_,_=>none
theorem rZ(hg:∀F i j,bI X.K F (g' i j) (g i j)):oG X (RU g) 0 (YL g'):=λZ ow F H σ δ a b x y d Q S R ra rb e q=>by
 unfold YL at e;split at e
 .rename_i i j
  cases e;exact⟨i,j,iF ra,iF rb,q _ H F (R.x (hg F i j)) (aI.refl _)⟩
 .cases e
theorem oG.or(h:oG X r n o)(h':oG X r' n o'):oG X (λx y H Q=>r x y H Q\/r' x y H Q) n (λa b=>(o a b).or (o' a b)):=λZ ow F H σ δ a b x y d Q S R ra rb e q=>by
 dsimp only at e;cases e1:o a b with
 |some d'=>
  rw[e1,Option.some_or]at e;cases e;exact .inl (h Z ow F H σ δ a b x y d Q S R ra rb e1 q)
 |none=>
  rw[e1,Option.none_or]at e;exact .inr (h' Z ow F H σ δ a b x y d Q S R ra rb e q)
def C9:D->D->ZL
 |.str i,.str j=>if i.length+j.length<=sizeLine then some (.str (i++j))else none
 |_,_=>none
def KB:D->D->ZL
 |.tuple i,.tuple j=>if i≠[]/\i.length+j.length<=sizeLine then some (.tuple (i++j))else none
 |_,_=>none
def S3:D->D->ZL
 |.list i,.list j=>if i.length+j.length<=sizeLine then some (.list (i++j))else none
 |_,_=>none
instance{l:ZI}:Decidable (l≠[]):=match l with
 |[]=>.isFalse λh=>h rfl
 |_::_=>.isTrue λh=>by cases h
theorem aFX:oG X (λx y H Q=>∃i j,x=.str i/\y=.str j/\i.length+j.length<=sizeLine/\Q (.str (i++j)) H) 0 C9:=λZ ow F H σ δ a b x y d Q S R ra rb e q=>by
 unfold C9 at e;split at e
 .rename_i i j
  split at e
  .rename_i hc
   cases e;exact⟨i,j,j4 ra,j4 rb,hc,q _ H F (R.x ME) (aI.refl _)⟩
  .cases e
 .cases e
theorem aFY:oG X (ż X.K) 0 KB:=λZ ow F H σ δ a b x y d Q S R ra rb e q=>by
 unfold KB at e;split at e
 .rename_i i j
  split at e
  .rename_i hc
   cases e;let⟨p,xs,rfl,hp,ha⟩:=C7 ra;let⟨p',ys,rfl,hp',hb⟩:=C7 rb;refine⟨p,p',xs,ys,rfl,rfl,R.sub.seqT hp,R.sub.seqT hp',λz=>?_,by rw[<- ha.len,<- hb.len];exact hc.2,λz=>?_,λz t ht=>?_⟩
   .have:=ha.len;rw[z]at this;exact hc.1 (List.length_eq_zero_iff.mp this)
   .have hj:j=[]:=by have:=hb.len;rw[z]at this;exact List.length_eq_zero_iff.mp this
    rw[hj,â]at q;exact q _ H F (R.x ra) (aI.refl _)
   .have ft:=R.fnone ht
    exact q _ _ (aX F t (.tup (xs++ys))) ((R.laid ht).x (qF ft (ha.app hb))) (cL ft _)
  .cases e
 .cases e
theorem O9(l:Addr)(items:Array Value)(n:Nat)(sl:Array (ZN))(b:Addr)(fM:Array Value)(n2:Nat)(sl2:Array (ZN))(hc0:items.size+fM.size<=sizeLine):
  Meets (Builtin.«list.__add__» ⟨[.ref l,.ref b],[]⟩) (λ_ R s=>s.heap.get? l=some ⟨.type "list",none,.seq items n,sl⟩/\s.heap.get? b=some ⟨.type "list",none,.seq fM n2,sl2⟩/\R (.ok (.ret (Value.ref s.heap.objs.size))) {s with heap:=s.heap.push {cls:=Value.type "list",data:=Data.seq (items++fM)},toks:=s.toks}):=
 .of_wp λprog w A R s h=>by
  let⟨hp,g,d,tk,os⟩:=s;let⟨hl,hb,h⟩:=h;have f1:=PySem.AutoSeq1.idx_int;have f2:=PySem.AutoSeq1.sub_tuple_tuple;have f3:=PySem.AutoSeq1.sub_list_list;have f4:=PySem.AutoSeq1.sub_tuple_list;have f5:=PySem.AutoSeq1.sub_list_tuple
  wp_walk using PySem.AutoSeq1.wpAny_loadPart' hl,PySem.AutoSeq1.wpAny_loadPart' hb
  exact⟨_,rfl,h⟩
theorem PB{prog:Program}{w:World}{A:Around}{E:ZA}{s:Shared}{l b:Addr}{items fM:Array Value}{n n2:Nat}{sl sl2:Array (ZN)}{Q:ZA}(hl:s.heap.get? l=some ⟨.type "list",none,.seq items n,sl⟩)(hb:s.heap.get? b=some ⟨.type "list",none,.seq fM n2,sl2⟩)(h:Q (.ref s.heap.objs.size) {s with heap:=s.heap.push {cls:=.type "list",data:=.seq (items++fM)}})(hsz:items.size+fM.size<=sizeLine):wpAny (model prog w) A (binaryOp .Add (.ref l) (.ref b)) Q E s:=
 concat_meets ⟨_,hl,rfl⟩ ⟨_,hb,rfl⟩ noFill_list_add seq_list_add F.slot_list_add F.entry_list_add (F.args_list_add_2 _ _) (O9 l items n sl b fM n2 sl2 hsz) ⟨hl,hb,h⟩
def Θ(K:ZC):R2:=λx y H Q=>∃l b xs zs,x=.ref l/\y=.ref b/\eJ K H l xs/\eJ K H b zs/\xs.length+zs.length<=sizeLine/\∀p,H p=none->Q (.ref p) (aX H p (.lst (xs++zs)))
theorem MF:j3 X (binaryOp .Add) (Θ X.K):=by
 intro U s σ H x y v u Q I rx ry h;let⟨l,b,xs,zs,rfl,rfl,hH,hB,hz,q⟩:=h;cases rx;cases ry;let⟨its,r,⟨o,n,e,c,dn,dd⟩,z⟩:=I.list hH;let⟨its2,r2,⟨o2,n2,e2,c2,dn2,dd2⟩,z2⟩:=I.list hB;let⟨oc,od,oda,osl⟩:=o;let⟨oc2,od2,oda2,osl2⟩:=o2;cases c;cases c2;cases dn;cases dn2;cases dd;cases dd2;have hl:=r.length;have hl2:=r2.length;refine PB e e2 ?_ 'k';have ea:its.toArray++its2.toArray=(its++its2).toArray:=by simp
 rw[ea];exact⟨.ref _,_,I.lnew (t':=s.toks) (r.append r2) 'k',rfl,q _ I.fresh⟩
theorem MG:oG X (Θ X.K) 1 S3:=λZ ow F H σ δ a b x y d Q S R ra rb e q=>by
 unfold S3 at e;split at e
 .rename_i i j
  split at e
  .rename_i hc
   cases e;let⟨p,xs,rfl,hp,ha⟩:=kP ra;let⟨p',ys,rfl,hp',hb⟩:=kP rb;exact⟨p,p',xs,ys,rfl,rfl,R.sub.seq hp,R.sub.seq hp',by rw[<- ha.len,<- hb.len];exact hc,λt ht=>q _ _ F (R.newList S ht (ha.app hb)) (aI.refl _)⟩
  .cases e
 .cases e
theorem oG.fz(h:oG X r n o):oG X r 0 o:=λZ ow F H σ δ a b x y d Q S R ra rb e q=>h Z ow F H σ δ a b x y d Q S R ra rb e λv H' F' R' s=>by
 let⟨F2,s2,R2⟩:=R'.freeze S;exact q v H' F2 R2 (s.trans' s2)
def KC:D->D->ZL:=λa b=>(YL (λi j=>.int (i+j)) a b).or ((C9 a b).or ((KB a b).or (S3 a b)))
theorem bF(S:aO Z ow)(ha:DE X Z ow 0 a f)(hb:DE X Z ow 0 b h):DE X Z ow 0 (.BinOp a .Add b pos) (iW KC f h):=
 vE S (aE8.or (JV.or (ZR.or MF))) ((rZ λ_ _ _=>gM).or (aFX.or (aFY.or MG.fz))) ha hb
theorem aFZ(S:aO Z ow)(ha:DE X Z ow 0 a f)(hb:DE X Z ow 0 b h):DE X Z ow 1 (.BinOp a .Add b pos) (iW S3 f h):=vE S MF MG ha hb
def Ŝ:D->D->ZL:=YL λi j=>.int (i-j)
theorem nE(S:aO Z ow)(ha:DE X Z ow 0 a f)(hb:DE X Z ow 0 b h):DE X Z ow 0 (.BinOp a .Sub b pos) (iW Ŝ f h):=vE S aE9 (rZ λ_ _ _=>gM) ha hb
def PD:D->D->ZL:=iD IntMulOk λi j=>.int (i*j)
theorem iG(S:aO Z ow)(ha:DE X Z ow 0 a f)(hb:DE X Z ow 0 b h):DE X Z ow 0 (.BinOp a .Mult b pos) (iW PD f h):=vE S ZU (C8 λ_ _ _=>gM) ha hb
def GG:D->D->ZL:=iD Ζ λi j=>.int (i.fdiv j)
theorem DB(S:aO Z ow)(ha:DE X Z ow 0 a f)(hb:DE X Z ow 0 b h):DE X Z ow 0 (.BinOp a .FloorDiv b pos) (iW GG f h):=vE S SJ (C8 λ_ _ _=>gM) ha hb
def DC:D->D->ZL:=iD (λ_ j=>j≠0) λi j=>.int (i.fmod j)
theorem iY(S:aO Z ow)(ha:DE X Z ow 0 a f)(hb:DE X Z ow 0 b h):DE X Z ow 0 (.BinOp a .Mod b pos) (iW DC f h):=vE S Y0 (C8 λ_ _ _=>gM) ha hb
def Z5:D->D->ZL:=iD YZ λi j=>.int (i^j.toNat)
theorem aF1(S:aO Z ow)(ha:DE X Z ow 0 a f)(hb:DE X Z ow 0 b h):DE X Z ow 0 (.BinOp a .Pow b pos) (iW Z5 f h):=vE S aFA (C8 λ_ _ _=>gM) ha hb
def DD(op:D->ZL)(f:M D):M D:=λδ=>(f δ).bind λd δ1=>match op d with
 |some r=>.ok r δ1
 |none=>.stuck
def ŝ:D->ZL
 |.int i=>some (.int (-i))
 |_=>none
theorem gQ(ha:DE X Z ow 0 a f):DE X Z ow 0 (.UnaryOp .USub a pos) (DD ŝ f):=PE.mono (aI0 aFB ha) λσ H Q q=>by
 let⟨F,δ,R,q⟩:=q;unfold DD at q;refine⟨F,δ,R,?_⟩;cases e:f δ with
 |stuck=>rw[e]at q;exact q.elim
 |err x δ1=>rw[e]at q;exact q
 |ok d δ1=>
  rw[e]at q;simp![Res.bind]at q;intro v H1 F1 R1 s1;cases d with
  |int i=>exact⟨i,iF R1.rep,q _ H1 F1 (R1.rel.x gM) s1⟩
  |_=>exact q.elim
def S4(f:M D):M D:=λδ=>(f δ).bind λd δ1=>match d with
 |.bool b=>.ok (.bool (!b)) δ1
 |_=>.stuck
def r9(f g:M D):M D:=λδ=>(f δ).bind λd δ1=>match d with
 |.bool b=>if b=true then g δ1 else .ok (.bool false) δ1
 |_=>.stuck
def S5(f g:M D):M D:=λδ=>(f δ).bind λd δ1=>match d with
 |.bool b=>if b=true then .ok (.bool true) δ1 else g δ1
 |_=>.stuck
theorem KD(h:DE X Z ow 0 a f):DE X Z ow 0 (.BoolOp op [a] pos) f:=PE.mono (aEY h) λ_ _ _ q=>q
theorem S6{rest:List Expr}(ha:DE X Z ow 0 a f)(hb:DE X Z ow 0 (.BoolOp .And (b::rest) pos) h):DE X Z ow 0 (.BoolOp .And (a::b::rest) pos) (r9 f h):=PE.mono (aEZ ha hb) λσ H Q q=>by
 let⟨F,δ,R,q⟩:=q;unfold r9 at q;refine⟨F,δ,R,?_⟩;cases e:f δ with
 |stuck=>rw[e]at q;exact q.elim
 |err x δ1=>rw[e]at q;exact q
 |ok d δ1=>
  rw[e]at q;simp![Res.bind]at q;intro v H1 F1 R1 s1;cases d with
  |bool i=>
   refine⟨i,mU R1.rep,?_⟩;dsimp only at q;cases i with
   |true=>rw[Á rfl]at q⊢;exact⟨F1,δ1,R1.rel,q.mono s1 λ_ _ z=>z⟩
   |false=>rw[Â à]at q⊢;exact q _ H1 F1 (R1.rel.x jJ) s1
  |_=>exact q.elim
theorem aJM{rest:List Expr}(ha:DE X Z ow 0 a f)(hb:DE X Z ow 0 (.BoolOp .Or (b::rest) pos) h):DE X Z ow 0 (.BoolOp .Or (a::b::rest) pos) (S5 f h):=PE.mono (aIP ha hb) λσ H Q q=>by
 let⟨F,δ,R,q⟩:=q;unfold S5 at q;refine⟨F,δ,R,?_⟩;cases e:f δ with
 |stuck=>rw[e]at q;exact q.elim
 |err x δ1=>rw[e]at q;exact q
 |ok d δ1=>
  rw[e]at q;simp![Res.bind]at q;intro v H1 F1 R1 s1;cases d with
  |bool i=>
   refine⟨i,mU R1.rep,?_⟩;dsimp only at q;cases i with
   |true=>rw[Á rfl]at q⊢;exact q _ H1 F1 (R1.rel.x jJ) s1
   |false=>rw[Â à]at q⊢;exact⟨F1,δ1,R1.rel,q.mono s1 λ_ _ z=>z⟩
  |_=>exact q.elim
theorem DF{f:M Bool}(ha:DT X Z ow a f):PW X (.BoolOp .And [a] pos) (tT X Z ow f):=YV ha
theorem DG{f:M Bool}(ha:DT X Z ow a f):PW X (.BoolOp .Or [a] pos) (tT X Z ow f):=aEV ha
theorem lV{f:M Bool}(h:PW X e (tT X Z ow f)):DT X Z ow e f:=h.pt
def PF:D->D->ZL:=λa b=>if SeqAt.shaped a=true/\SeqAt.shaped b=true then some (.bool (PyData.eqv a b))else none
def wZ:D->D->ZL:=λa b=>if SeqAt.shaped a=true/\SeqAt.shaped b=true then some (.bool (!PyData.eqv a b))else none
theorem iZ:oG X (λx y H Q=>∃d e,bI X.K H d x/\bI X.K H e y/\SeqAt.shaped d=true/\SeqAt.shaped e=true/\Q (.bl (PyData.eqv d e)) H) 0 PF:=λZ ow F H σ δ a b x y d Q S R ra rb e q=>by
 unfold PF at e;split at e
 .rename_i hc
  cases e;exact⟨a,b,R.sub.rep _ _ ra,R.sub.rep _ _ rb,hc.1,hc.2,q _ H F (R.x jJ) (aI.refl _)⟩
 .cases e
theorem vH:oG X (λx y H Q=>∃d e,bI X.K H d x/\bI X.K H e y/\SeqAt.shaped d=true/\SeqAt.shaped e=true/\Q (.bl (!PyData.eqv d e)) H) 0 wZ:=λZ ow F H σ δ a b x y d Q S R ra rb e q=>by
 unfold wZ at e;split at e
 .rename_i hc
  cases e;exact⟨a,b,R.sub.rep _ _ ra,R.sub.rep _ _ rb,hc.1,hc.2,q _ H F (R.x jJ) (aI.refl _)⟩
 .cases e
def Ş:D->D->ZL:=YL λi j=>.bool (decide (i<j))
def Ī:D->D->ZL:=YL λi j=>.bool (decide (i<=j))
def Ι:D->D->ZL:=YL λi j=>.bool (decide (j<i))
def aOF:D->D->ZL:=YL λi j=>.bool (decide (j<=i))
theorem pO:oG X (RU λi j=>.bl (decide (i<j))) 0 Ş:=rZ λ_ _ _=>jJ
theorem S7:oG X (RU λi j=>.bl (decide (i<=j))) 0 Ī:=rZ λ_ _ _=>jJ
theorem sA:oG X (RU λi j=>.bl (decide (j<i))) 0 Ι:=rZ λ_ _ _=>jJ
def ī:D->D->ZL
 |.bool c,.bool d=>some (.bool (c == d))
 |.none,.none=>some (.bool true)
 |.bool _,.none=>some (.bool false)
 |.int _,.none=>some (.bool false)
 |.str _,.none=>some (.bool false)
 |.list _,.none=>some (.bool false)
 |.tuple _,.none=>some (.bool false)
 |_,_=>none
def w8:D->D->ZL
 |.bool c,.bool d=>some (.bool (c != d))
 |.none,.none=>some (.bool false)
 |.bool _,.none=>some (.bool true)
 |.int _,.none=>some (.bool true)
 |.str _,.none=>some (.bool true)
 |.list _,.none=>some (.bool true)
 |.tuple _,.none=>some (.bool true)
 |_,_=>none
theorem Κ{d:D}(h:bI K F d v)(hd:d≠.none):v≠.non:=λz=>by
 subst z;cases d with
 |none=>exact hd rfl
 |bool b=>exact absurd (mU h) 'e'
 |int b=>exact absurd (iF h) 'e'
 |str b=>exact absurd (j4 h) 'e'
 |list b=>let⟨_,_,z,_⟩:=kP h;cases z
 |tuple b=>let⟨_,_,z,_⟩:=C7 h;cases z
 |dict b=>unfold bI at h;let⟨_,_,z,_⟩:=h;cases z
theorem Λ:oG X (λx y H Q=>(∃c d,x=.bl c/\y=.bl d/\Q (.bl (c == d)) H)\/(y=.non/\Q (.bl (decide (x=.non))) H)) 0 ī:=λZ ow F H σ δ a b x y d Q S R ra rb e q=>by
 unfold ī at e;split at e
 .cases e;exact .inl ⟨_,_,mU ra,mU rb,q _ H F (R.x jJ) (aI.refl _)⟩
 .cases e
  refine .inr ⟨qH rb,?_⟩;rw[decide_eq_true (qH ra)];exact q _ H F (R.x jJ) (aI.refl _)
 iterate 5
  .cases e
   refine .inr ⟨qH rb,?_⟩;rw[decide_eq_false (Κ ra 'e')];exact q _ H F (R.x jJ) (aI.refl _)
 .cases e
theorem S8:oG X (λx y H Q=>(∃c d,x=.bl c/\y=.bl d/\Q (.bl (c != d)) H)\/(y=.non/\Q (.bl (!decide (x=.non))) H)) 0 w8:=λZ ow F H σ δ a b x y d Q S R ra rb e q=>by
 unfold w8 at e;split at e
 .cases e;exact .inl ⟨_,_,mU ra,mU rb,q _ H F (R.x jJ) (aI.refl _)⟩
 .cases e
  refine .inr ⟨qH rb,?_⟩;rw[decide_eq_true (qH ra)];exact q _ H F (R.x jJ) (aI.refl _)
 iterate 5
  .cases e
   refine .inr ⟨qH rb,?_⟩;rw[decide_eq_false (Κ ra 'e')];exact q _ H F (R.x jJ) (aI.refl _)
 .cases e
def iH(o o':D->D->ZL)(f g k:M D):M D:=λδ=>(f δ).bind λx δ1=>(g δ1).bind λy δ2=>match o x y with
 |some (.bool true)=>(k δ2).bind λz δ3=>(match o' y z with
  |some r=>.ok r δ3
  |none=>.stuck)
 |some (.bool false)=>.ok (.bool false) δ2
 |_=>.stuck
theorem BE(S:aO Z ow)(os:oG X r 0 o)(os':oG X r' 0 o')(q:tD X Z ow 0 (iH o o' f h k) σ H Q):JT r r' (tD X Z ow 0 f) (tD X Z ow 0 h) (tD X Z ow 0 k) σ H Q:=by
 let⟨F,δ,R,q⟩:=q;unfold iH at q;refine⟨F,δ,R,?_⟩;cases e:f δ with
 |stuck=>rw[e]at q;exact q.elim
 |err x δ1=>rw[e]at q;exact q
 |ok d1 δ1=>
  rw[e]at q;simp![Res.bind]at q;intro x H1 F1 R1 s1;refine⟨F1,δ1,R1.rel,?_⟩;cases e2:h δ1 with
  |stuck=>rw[e2]at q;exact q.elim
  |err x δ2=>rw[e2]at q;exact iV.mono q s1
  |ok d2 δ2=>
   rw[e2]at q;dsimp only at q;intro y H2 F2 R2 s2;cases e3:o d1 d2 with
   |none=>rw[e3]at q;exact q.elim
   |some d=>
    refine os Z ow F2 H2 σ δ2 d1 d2 x y d _ S R2.rel (s2.rep _ _ R1.rep) R2.rep e3 λv H3 F3 R3 s3=>?_;cases d with
    |bool bb=>
     refine⟨bb,mU R3.rep,?_⟩;cases bb with
     |false=>
      rw[e3]at q;rw[Â à];exact q _ H3 F3 (R3.rel.x jJ) (s1.trans' (s2.trans' s3))
     |true=>
      rw[e3]at q;rw[Á rfl];dsimp only at q;refine⟨F3,δ2,R3.rel,?_⟩;cases e4:k δ2 with
      |stuck=>rw[e4]at q;exact q.elim
      |err x δ3=>rw[e4]at q;exact iV.mono q (s1.trans' (s2.trans' s3))
      |ok d3 δ3=>
       rw[e4]at q;dsimp only at q;intro z H4 F4 R4 s4;cases e5:o' d2 d3 with
       |none=>rw[e5]at q;exact q.elim
       |some r0=>
        rw[e5]at q;exact os' Z ow F4 H4 σ δ3 d2 d3 y z r0 Q S R4.rel ((s3.trans' s4).rep _ _ R2.rep) R4.rep e5 λv' H' F' R' s'=>q v' H' F' R' (s1.trans' (s2.trans' (s3.trans' (s4.trans' s'))))
    |_=>rw[e3]at q;exact q.elim
theorem GH(S:aO Z ow)(ho:j3 X (compareOp o1) r)(os:oG X r 0 o)(ho':j3 X (compareOp o2) r')(os':oG X r' 0 o')(ha:DE X Z ow 0 a f)(hb:DE X Z ow 0 b h)(hc:DE X Z ow 0 c k)(hm:lastMarks [o1,o2] [b,c]=false:=by with_unfolding_all rfl):DE X Z ow 0 (.Compare a [o1,o2] [b,c] pos) (iH o o' f h k):=PE.mono (RY ho ho' ha hb hc hm) λ_ _ _ q=>BE S os os' q
theorem S9(S:aO Z ow)(ho:j3 X (compareOp o1) r)(os:oG X r 0 o)(ho':j3 X (compareOp o2) r')(os':oG X r' 0 o')(ha:DE X Z ow 0 a f)(hb:DE X Z ow 0 b h)(hc:DE X Z ow 0 c k)(hm:lastMarks [o1,o2] [b,c]=false:=by with_unfolding_all rfl):DT X Z ow (.Compare a [o1,o2] [b,c] pos) (dB (iH o o' f h k)):=PT.mono (RZ ho ho' ha hb hc hm) λ_ _ _ q=>BE S os os' (L9 q)
end
structure RI(K:ZC)(F:Hp)(J:It)(ds:ZI):Prop where
 go:∀i H,aI F H->i<ds.length->J.go i H
 yld:∀i H x H' d,aI F H->J.yld i H x H'->ds[i]?=some d->(H'=H/\bI K F d x)\/∃p o,H p=none/\H'=aX H p o/\∀F2,aI F F2->F2 p=none->bI K (aX F2 p o) d x
 stop:∀H,aI F H->J.stop ds.length H
def kI(X:Cx)(Z:b8)(ow:ZH)(r:Res (ZI))(F:Hp)(σ:St)(R:It->Hp->Prop):Prop:=match r with
 |.ok ds δ=>∀J H' F',cP X.K Z ow F' H' σ δ->aI F F'->RI X.K F' J ds->R J H'
 |.err x δ=>iV X Z ow F x δ
 |.stuck=>False
def tI(X:Cx)(Z:b8)(ow:ZH)(f:M (ZI)):TI:=λσ H R=>∃F δ,cP X.K Z ow F H σ δ/\kI X Z ow (f δ) F σ R
def DI(X:Cx)(Z:b8)(ow:ZH)(tg e:Expr)(f:M (ZI)):Prop:=PI X tg e (tI X Z ow f)
theorem PI.mono(h:PI X tg e t)(hm:∀σ H R,t' σ H R->t σ H R):PI X tg e t':=λU s σ H R I q=>h U s σ H R I (hm σ H R q)
section
variable {X:Cx}{Z:b8}{ow ol ox:ZH}{n rm:Nat}{pos:Pos}{e tg a b:Expr}{f f':M D}{g:TG}{set:D->DS->Option DS}{K:ZC}{F H:Hp}{σ:St}{δ:DS}
theorem TB{a:Addr}{xs:List V}{ds:ZI}(h:eJ K F a xs)(r:aD K F ds xs):RI K F (Ő K a) ds where
 go:=λi H s hi=>⟨xs,xs[i]'(by rw[<- r.len];exact hi),s.seq h,É _⟩
 yld:=λi H x H' d s y e=>.inl ⟨y.1,by
  let⟨v,e1,q⟩:=r.get e;have:=y.2 xs (s.seq h);rw[e1]at this;cases this;exact q⟩
 stop:=λH s=>⟨xs,s.seq h,by rw[<- r.len];exact Ç _⟩
theorem Z6{a:Addr}{xs:List V}{ds:ZI}(h:rK K F a xs)(r:aD K F ds xs):RI K F (ő K a) ds where
 go:=λi H s hi=>⟨xs,xs[i]'(by rw[<- r.len];exact hi),s.seqT h,É _⟩
 yld:=λi H x H' d s y e=>.inl ⟨y.1,by
  let⟨v,e1,q⟩:=r.get e;have:=y.2 xs (s.seqT h);rw[e1]at this;cases this;exact q⟩
 stop:=λH s=>⟨xs,s.seqT h,by rw[<- r.len];exact Ç _⟩
theorem MH{lo:Int}{m:Nat}:RI K F (Ħ lo m) (jI lo m) where
 go:=λi H s hi=>by rw[fW]at hi;exact hi
 yld:=λi H x H' d s y e=>.inl ⟨y.1,by
  have hi:i<m:=by have:=(Ò.mp e).1;rwa [fW]at this
  rw[C1 hi]at e;cases e;rw[y.2];exact gM⟩
 stop:=λH s=>by rw[fW];exact Ç _
def j5(f:M D):M (ZI):=λδ=>(f δ).bind λd δ1=>match d with
 |.list ds=>.ok ds δ1
 |.tuple ds=>.ok ds δ1
 |_=>.stuck
theorem bU(h:DE X Z ow 0 e f):DI X Z ow tg e (j5 f):=(aFV h).mono λσ H R q=>by
 let⟨F,δ,Rl,q⟩:=q;unfold j5 at q;refine⟨F,δ,Rl,?_⟩;cases e1:f δ with
 |stuck=>rw[e1]at q;exact q.elim
 |err x δ1=>rw[e1]at q;exact q
 |ok d δ1=>
  rw[e1]at q;simp![Res.bind]at q;intro v H1 F1 R1 s1;have rp:=R1.rep;cases d with
  |list ds=>
   let⟨a,xs,rfl,hq,ra⟩:=kP rp;exact .inl ⟨a,rfl,⟨xs,R1.rel.sub.seq hq⟩,q _ H1 F1 R1.rel s1 (TB hq ra)⟩
  |tuple ds=>
   let⟨a,xs,rfl,hq,ra⟩:=C7 rp;exact .inr ⟨a,rfl,⟨xs,R1.rel.sub.seqT hq⟩,q _ H1 F1 R1.rel s1 (Z6 hq ra)⟩
  |_=>exact q.elim
def qI(fs:List (M D)):M (ZI):=λδ=>(aY fs δ).bind λds δ1=>match kJ ds with
 |some (lo,n)=>.ok (jI lo n) δ1
 |none=>.stuck
theorem eV(hgl:Gl X "range")(hm:X.mg "range"=none)(hi:DE X Z ow 0 b f)(hst:↥(Zse b [] X.env)):DI X Z ow tg (.Call (.Name "range" p2) [b] [] p3) (qI [f]):=
 (OZ hgl hm (aE hi aS hst) hst).mono λσ H R q=>by
  let⟨F,δ,Rl,q⟩:=q;unfold qI at q;refine⟨F,δ,Rl,?_⟩;cases e1:aY [f] δ with
  |stuck=>rw[e1]at q;exact q.elim
  |err x δ1=>rw[e1]at q;exact q
  |ok ds δ1=>
   rw[e1]at q;simp![Res.bind]at q;intro vs H1 F1 R1 s1 ra;cases e2:kJ ds with
   |none=>rw[e2]at q;exact q.elim
   |some p=>
    let⟨lo,m⟩:=p;rw[e2]at q;let⟨j,rfl,h1,h2,rfl,rfl⟩:=F7 e2 (kK e1);exact⟨j,wW ra,h1,h2,q _ H1 F1 R1 s1 MH⟩
theorem PH{p2 p3:Pos}(hgl:Gl X "range")(hm:X.mg "range"=none)(ha:DE X Z ow 0 a f')(hi:DE X Z ow 0 b f)(hst:↥(starEach [a,b] X.env=(false,eval a X.env)::starEach [b] X.env))(hst2:↥(Zse b [] X.env)):
  DI X Z ow tg (.Call (.Name "range" p2) [a,b] [] p3) (qI [f',f]):=
 (O0 hgl hm (aE ha (aE hi aS hst2) hst) (hst.trans (by rw[hst2];rfl)) hst2).mono λσ H R q=>by
  let⟨F,δ,Rl,q⟩:=q;unfold qI at q;refine⟨F,δ,Rl,?_⟩;cases e1:aY [f',f] δ with
  |stuck=>rw[e1]at q;exact q.elim
  |err x δ1=>rw[e1]at q;exact q
  |ok ds δ1=>
   rw[e1]at q;simp![Res.bind]at q;intro vs H1 F1 R1 s1 ra;cases e2:kJ ds with
   |none=>rw[e2]at q;exact q.elim
   |some p=>
    let⟨lo,m⟩:=p;rw[e2]at q;let⟨i,j,rfl,h1,rfl,rfl⟩:=F8 e2 (kK e1);exact⟨lo,j,F9 ra,h1,q _ H1 F1 R1 s1 MH⟩
theorem RI.turn{d:D}(T:RI X.K F1 J ds)(R:cP X.K Z ow F H σ δ)(s:aI F1 F)(y:J.yld i H x H')(e:ds[i]?=some d):∃F',aI F F'/\cP X.K Z ow F' H' σ δ/\bI X.K F' d x:=by
 rcases T.yld i H x H' d (s.trans' R.sub) y e with ⟨rfl,r⟩|⟨p,o,hp,rfl,r⟩
 .exact⟨F,aI.refl _,R,s.rep _ _ r⟩
 .have fp:=R.fnone hp
  exact⟨aX F p o,cL fp o,R.laid hp,r F s fp⟩
def mV(set:D->DS->Option DS)(f:M (ZI))(u:M Fl):M Fl:=λδ=>(f δ).bind λds δ1=>fQ set u ds δ1
theorem MI{f:M (ZI)}(hp:PassesOwn 'b' X.A X.env X.xe)(hc:X.calm=true)(hi:DI X Z ow tg e f)(hg:PG X tg g)(hs:ĩ X Z ow g set)(hb:AF X Z ow ow ow ox rm sts u)(hf: ~~~(Zfi e X.env)):AE X Z ow ow ol ox rm (.For tg e sts [] pos) (mV set f u):=PS.mono (aE5 hp hc hi hg hb hf) λDn σ H h=>by
 let⟨F,δ,R,h⟩:=h;unfold mV at h;refine⟨F,δ,R,?_⟩;cases e1:f δ with
 |stuck=>rw[e1]at h;exact h.elim
 |err x δ1=>rw[e1]at h;exact iV.cast h
 |ok ds δ1=>
  rw[e1]at h;simp![Res.bind]at h;intro J H1 F1 R1 s1 T;refine⟨λi m σ H=>m=ds.length-i/\i<=ds.length/\∃F2 δ,cP X.K Z ow F2 H σ δ/\aI F1 F2/\kS X Z ow ol ox rm (fQ set u (ds.drop i) δ) F2 Dn,⟨ds.length,rfl,é _,F1,δ1,R1,aI.refl _,h.mono s1⟩,?_⟩;rintro i m σ2 H2 ⟨rfl,hi,F2,δ2,R2,s2,k2⟩;by_cases hlt:i<ds.length
  .refine .inr ⟨T.go i H2 (s2.trans' R2.sub) hlt,λσ' H'=>∃F3 δ,cP X.K Z ow F3 H' σ' δ/\aI F1 F3/\kS X Z ow ol ox rm (fQ set u (ds.drop (i+1)) δ) F3 Dn,λσ' H' q=>⟨ds.length-(i+1),∅,rfl,hlt,q⟩,λx H' y=>?_⟩
   have ed:=É hlt;let⟨F3,s3,R3,r3⟩:=T.turn R2 s2 y ed;exact Z1 (Pv:=λj σ' H'=>∃F3 δ,cP X.K Z ow F3 H' σ' δ/\aI F1 F3/\kS X Z ow ol ox rm (fQ set u (ds.drop j) δ) F3 Dn) hs R3 (s2.trans' s3) (k2.mono s3) ed r3 λk σ H F δ q1 q2 q3=>⟨F,δ,q1,q2,q3⟩
  .have e:i=ds.length:=by lia
   subst e;rw[List.drop_length]at k2;exact .inl ⟨T.stop H2 (s2.trans' R2.sub),k2 σ2 H2 F2 R2 (aI.refl _)⟩
def TC(k:Nat)(g:ZP):ZP:=λa=>match g a with
 |some (i,p)=>if i=1000 then none else some (i+k,p)
 |none=>none
theorem KF{g:ZP}{a:Addr}(h:TC k g a=some (i,p)):∃j,g a=some (j,p)/\i=j+k/\j≠1000:=by
 unfold TC at h;cases e:g a with
 |none=>rw[e]at h;cases h
 |some l=>
  let⟨j,q⟩:=l;rw[e]at h;dsimp only at h;split at h
  .cases h
  .rename_i hj;cases h;exact⟨j,rfl,rfl,hj⟩
theorem KG{k:Nat}{g:ZP}{a:Addr}{j:Nat}{p:ZH}(h:g a=some (j,p))(hj:j≠1000):TC k g a=some (j+k,p):=by
 unfold TC;rw[h];exact Â hj
def b8.sh(Z:b8)(k:Nat):b8:=⟨Z.F0,Z.H0,TC k Z.g0,Z.ps.map (·+k),List.replicate k none++Z.σ0,List.replicate k 0++Z.owp,λa i q h=>by
 let⟨j,e1,e2,_⟩:=KF h;rw[e2];exact Ö.mpr ⟨j,Z.wf a j q e1,rfl⟩⟩
theorem lW:(List.replicate k 0++ow).getD (i+k) 0=ow.getD i 0:=by
 rw[Ê,Ê,Þ 'e',ñ,đ]
theorem aO.lt(S:aO Z ow)(h:ow.getD i 0≠0):i<1000:=by
 by_cases hl:i<ow.length
 .exact Ô hl S.ow
 .exact absurd (by rw[Ê,æ (by exact ç.mp ‹_›)];rfl) h
theorem aZ.sh{g:ZP}(hi:n=0\/i≠1000)(h:aZ K F H g i n p d v):aZ K F H (TC k g) (i+k) n p d v:=by
 rcases hi with rfl|hi
 .exact h
 .exact h.relab λa p e=>KG e hi
theorem cP.sh(S:aO Z ow)(R:cP K Z ow F H σ δ):cP K (Z.sh k) (List.replicate k 0++ow) F H (List.replicate k none++σ) (List.replicate k none++δ):=by
 let⟨g,R⟩:=R;refine⟨TC k g,R.sub,R.f0,λb o n e=>R.kept b o ?_ e,R.new,R.there,λa i p e=>?_,by simp[R.len],λi hi=>?_,λi d e=>?_⟩
 .cases e1:Z.g0 b with
  |none=>rfl
  |some l=>
   let⟨j,q⟩:=l;have n:TC k Z.g0 b=none:=n;rw[KG e1 λz=>S.ps (by rw[<- z];exact Z.wf b j q e1)]at n;cases n
 .obtain⟨j,e1,e2,e3⟩:=KF e
  rcases R.lab a j p e1 with z|⟨q,z⟩
  .exact .inl z
  .exact .inr ⟨q,by rw[e2];exact KG z e3⟩
 .obtain⟨j,hj,rfl⟩:=Ö.mp (show i∈Z.ps.map (·+k)from hi)
  let⟨p1,p2⟩:=R.par j hj;refine⟨?_,?_⟩
  .show (List.replicate k none++σ)[j+k]?=(List.replicate k none++Z.σ0)[j+k]?
   rw[Þ 'e',Þ 'e',ñ,đ];exact p1
  .show (List.replicate k 0++ow).getD (j+k) 0=(List.replicate k 0++Z.owp).getD (j+k) 0
   rw[lW,lW];exact p2
 .by_cases hi:i<k
  .rw[î (by simpa using hi),ă]at e
   split at e<;>cases e
  .rw[Þ (by simp;exact ç.mp ‹_›),ñ]at e
   let⟨v,e1,o⟩:=R.slot _ d e;obtain⟨j,rfl⟩:∃j,i=j+k:=⟨i-k,∅⟩;rw[đ]at e1 o;refine⟨v,by rw[Þ 'e',ñ,đ];exact e1,?_⟩;rw[lW];refine o.sh ?_;by_cases hz:ow.getD j 0=0
   .exact .inl hz
   .exact .inr (Ì (S.lt hz))
theorem cP.unsh(S:aO Z ow)(hs:aO (Z.sh k) (List.replicate k 0++ow))(R:cP K (Z.sh k) (List.replicate k 0++ow) F H σ' δ')(hσ:∀i,σ'[i+k]?=σ[i]?)(hl:σ'.length=σ.length+k)(hk:k<=δ'.length):cP K Z ow F H σ (δ'.drop k):=by
 let⟨g,R⟩:=R;have un:∀a i p,(λb=>match g b with|some (j,q)=>if j<k\/j-k=1000 then none else some (j-k,q)|none=>none:ZP) a=some (i,p)->g a=some (i+k,p):=λa i p e=>by
  dsimp only at e;cases e1:g a with
  |none=>rw[e1]at e;cases e
  |some l=>
   let⟨j,q⟩:=l;rw[e1]at e;dsimp only at e;split at e
   .cases e
   .rename_i hj
    cases e;have:j-k+k=j:=by lia
    rw[this]
 have ins:∀a i p,i≠1000->g a=some (i+k,p)->(λb=>match g b with|some (j,q)=>if j<k\/j-k=1000 then none else some (j-k,q)|none=>none:ZP) a=some (i,p):=λa i p hi e=>by
  dsimp only;rw[e];dsimp only;rw[Â ∅,đ]
 refine⟨λb=>match g b with|some (j,q)=>if j<k\/j-k=1000 then none else some (j-k,q)|none=>none,R.sub,R.f0,λb o n e=>R.kept b o ?_ e,R.new,R.there,λa i p e=>?_,?_,λi hi=>?_,λi d e=>?_⟩
 .show TC k Z.g0 b=none
  unfold TC;rw[n]
 .rcases R.lab a (i+k) p (un a i p e)with z|⟨q,z⟩
  .exact .inl z
  .obtain⟨j,e1,e2,_⟩:=KF (show TC k Z.g0 a=some (i+k,q)from z)
   have:i=j:=by lia
   rw[this];exact .inr ⟨q,e1⟩
 .rw[ā,R.len,hl];lia
 .obtain⟨p1,p2⟩:=R.par (i+k) (Ö.mpr ⟨i,hi,rfl⟩)
  have p1:σ'[i+k]?=(List.replicate k none++Z.σ0)[i+k]?:=p1;have p2:(List.replicate k 0++ow).getD (i+k) 0=(List.replicate k 0++Z.owp).getD (i+k) 0:=p2;rw[hσ,Þ 'e',ñ,đ]at p1;rw[lW,lW]at p2;exact⟨p1,p2⟩
 .rw[List.getElem?_drop,Nat.add_comm]at e
  let⟨v,e1,o⟩:=R.slot _ d e;rw[hσ]at e1;rw[lW]at o;refine⟨v,e1,?_⟩;by_cases hz:ow.getD i 0=0
  .rw[hz]at o⊢;exact o
  .exact o.relab λa p e=>ins a i p (Ì (S.lt hz)) e
def YM(X:Cx)(Z:b8)(ow:ZH)(k:Nat)(g:TG)(set:D->DS->Option DS):Prop:=∀(F H:Hp)(σ:St)(δ δ':DS)(d:D)(v:V)(Q:St->Hp->Prop),cP X.K Z ow F H σ δ->bI X.K F d v->set d δ=some δ'->(∀σ',cP X.K Z ow F H σ' δ'->σ'.length=σ.length->δ'.length=δ.length->(∀i,σ'[i+k]?=σ[i+k]?)->Q σ' H)->g v σ H Q
theorem kQ(S:aO Z ow)(hk:i<k)(hps:i∉Z.ps)(hl:i<ow.length)(h0:ow.getD i 0=0):YM X Z ow k (pE i) (eK i):=λF H σ δ δ' d v Q R r e q=>by
 unfold eK at e;split at e
 .rename_i hi
  cases e;have:=(R.x r).store S hi hps hl;rw[Η h0]at this;exact q _ this 'e' 'e' λj=>ß ∅
 .cases e
def bQ(set:D->DS->Option DS)(t:M Bool)(e:M D):ZI->ZI->DS->Res (ZI)
 |[],acc,δ=>.ok acc δ
 |d::ds,acc,δ=>match set d δ with
  |none=>.stuck
  |some δ1=>(t δ1).bind λb δ2=>if b=true then (e δ2).bind λy δ3=>(if acc.length<sizeLine then bQ set t e ds (acc++[y]) δ3 else .stuck)else (if acc.length<sizeLine then bQ set t e ds acc δ2 else .stuck)
def dZ(k:Nat)(set:D->DS->Option DS)(f:M (ZI))(t:M Bool)(e:M D):M D:=λδ=>(f δ).bind λds δ1=>match bQ set t e ds [] (List.replicate k none++δ1)with
 |.ok acc δ2=>if k<=δ2.length then .ok (.list acc) (δ2.drop k)else .stuck
 |_=>.stuck
def aOG(X:Cx)(Z:b8)(ow:ZH)(n:Nat)(r:Res D)(F:Hp)(σ:St)(Q:VK):Prop:=match r with
 |.ok d δ=>∀v H' F',gJ X.K Z ow n d v F' H' σ δ->aI F F'->Q v H'
 |_=>False
def ė(X:Cx)(Z:b8)(ow:ZH)(n:Nat)(f:M D):TE:=λσ H Q=>∃F δ,cP X.K Z ow F H σ δ/\aOG X Z ow n (f δ) F σ Q
def aOH(X:Cx)(Z:b8)(ow:ZH)(r:Res Bool)(F:Hp)(σ:St)(Q:Bool->Hp->Prop):Prop:=match r with
 |.ok b δ=>∀H' F',cP X.K Z ow F' H' σ δ->aI F F'->Q b H'
 |_=>False
def Ĭ(X:Cx)(Z:b8)(ow:ZH)(f:M Bool):TT:=λσ H Q=>∃F δ,cP X.K Z ow F H σ δ/\aOH X Z ow (f δ) F σ Q
theorem w9{k:Nat}{wi:TI}{fi:M (ZI)}{t:M Bool}{fe:M D}{Q:VK}(S:aO Z ow)(Sk:aO (Z.sh k) (List.replicate k 0++ow))(hs:YM X (Z.sh k) (List.replicate k 0++ow) k g set)(q:tD X Z ow 1 (dZ k set fi t fe) σ H Q):L5 k (tI X Z ow fi) g (Ĭ X (Z.sh k) (List.replicate k 0++ow) t) (ė X (Z.sh k) (List.replicate k 0++ow) 0 fe) σ H Q:=by
 let⟨F,δ,R,q⟩:=q;unfold dZ at q;refine⟨F,δ,R,?_⟩;cases e1:fi δ with
 |stuck=>rw[e1]at q;exact q.elim
 |err x δ1=>rw[e1]at q;exact q
 |ok ds δ1=>
  rw[e1]at q;simp![Res.bind]at q;intro J H1 F1 R1 s1 T;have hcase:∃acc δ2,bQ set t fe ds [] (List.replicate k none++δ1)=.ok acc δ2/\k<=δ2.length/\kD X Z ow 1 (.ok (.list acc) (δ2.drop k)) F σ Q:=by
   cases e2:bQ set t fe ds [] (List.replicate k none++δ1)with
   |stuck=>rw[e2]at q;exact q.elim
   |err x δ2=>rw[e2]at q;exact q.elim
   |ok acc δ2=>
    rw[e2]at q;dsimp only at q;split at q
    .rename_i hk;exact⟨acc,δ2,rfl,hk,q⟩
    .exact q.elim
  let⟨acc,δ2,e2,hk2,q⟩:=hcase;refine⟨λi m ys σ' H'=>m=ds.length-i/\i<=ds.length/\σ'.length=σ.length+k/\(∀i,σ'[i+k]?=σ[i]?)/\∃F2 δ' acc',cP X.K (Z.sh k) (List.replicate k 0++ow) F2 H' σ' δ'/\aI F1 F2/\aD X.K F2 acc' ys/\bQ set t fe (ds.drop i) acc' δ'=.ok acc δ2,
   ⟨ds.length,rfl,é _,by simp;exact Nat.add_comm _ _,λi=>by rw[Þ 'e',ñ,đ],F1,_,[],R1.sh S,aI.refl _,lQ,e2⟩,?_⟩
  rintro i m ys σ2 H2 ⟨rfl,hi,hl2,hσ2,F2,δ',acc',R2,s2,ra,e3⟩;by_cases hlt:i<ds.length
  .have ed:=É hlt
   have ee:ds.drop i=ds[i]::ds.drop (i+1):=ò hlt;rw[ee]at e3;unfold bQ at e3;cases e4:set ds[i] δ' with
   |none=>simp![e4]at e3;cases e3
   |some δ3=>
    simp![e4]at e3;have small:acc'.length<sizeLine:=by
     cases e5:t δ3 with
     |stuck=>rw[e5]at e3;cases e3
     |err x δ4=>rw[e5]at e3;cases e3
     |ok bb δ4=>
      rw[e5]at e3;simp![Res.bind]at e3;cases bb with
      |false=>
       rw[Â à]at e3;split at e3
       .assumption
       .cases e3
      |true=>
       rw[Á rfl]at e3;cases e6:fe δ4 with
       |stuck=>rw[e6]at e3;cases e3
       |err x δ5=>rw[e6]at e3;cases e3
       |ok y δ5=>
        rw[e6]at e3;dsimp only at e3;split at e3
        .assumption
        .cases e3
    refine .inr ⟨T.go i H2 (s2.trans' R2.sub) hlt,by rw[<- ra.len];exact small,λzs σ'' H''=>σ''.length=σ.length+k/\(∀i,σ''[i+k]?=σ[i]?)/\∃F3 δ' acc',cP X.K (Z.sh k) (List.replicate k 0++ow) F3 H'' σ'' δ'/\aI F1 F3/\aD X.K F3 acc' zs/\bQ set t fe (ds.drop (i+1)) acc' δ'=.ok acc δ2,λzs σ'' H'' z=>⟨ds.length-(i+1),∅,rfl,hlt,z⟩,λx H3 y=>?_⟩
    let⟨F3,s3,R3,r3⟩:=T.turn R2 s2 y ed;refine hs F3 H3 σ2 δ' δ3 ds[i] x _ R3 r3 e4 λσ3 R4 l3 _ hσ3=>⟨F3,δ3,R4,?_⟩;have hl3:σ3.length=σ.length+k:=by exact Eq.trans ‹_› ‹_›
    have hσ4:∀i,σ3[i+k]?=σ[i]?:=λi=>(hσ3 i).trans (hσ2 i);cases e5:t δ3 with
    |stuck=>rw[e5]at e3;cases e3
    |err x δ4=>rw[e5]at e3;cases e3
    |ok bb δ4=>
     rw[e5]at e3;simp![Res.bind]at e3;intro H5 F5 R5 s5;cases bb with
     |false=>
      rw[Â à,Á small]at e3;rw[Â à];exact⟨hl3,hσ4,F5,δ4,acc',R5,s2.trans' (s3.trans' s5),(s3.trans' s5).repAll _ _ ra,e3⟩
     |true=>
      rw[Á rfl]at e3;rw[Á rfl];refine⟨F5,δ4,R5,?_⟩;cases e6:fe δ4 with
      |stuck=>rw[e6]at e3;cases e3
      |err x δ5=>rw[e6]at e3;cases e3
      |ok yd δ5=>
       rw[e6]at e3;dsimp only at e3;rw[Á small]at e3;intro yv H6 F6 R6 s6;exact⟨hl3,hσ4,F6,δ5,acc'++[yd],R6.rel,s2.trans' (s3.trans' (s5.trans' s6)),((s3.trans' (s5.trans' s6)).repAll _ _ ra).app (lR R6.rep lQ),e3⟩
  .have e:i=ds.length:=by lia
   subst e;rw[List.drop_length]at e3;unfold bQ at e3;cases e3;refine .inl ⟨T.stop H2 (s2.trans' R2.sub),λp hp=>?_⟩;have R7:cP X.K Z ow F2 H2 σ (δ2.drop k):=R2.unsh S Sk hσ2 hl2 hk2;exact q _ _ F2 (R7.newList S hp ra) (s1.trans' s2)
theorem GI(hK:X'.K=X.K)(h:ė X Z ow n f σ H Q):tD X' Z ow n f σ H Q:=by
 let⟨F,δ,R,h⟩:=h;refine⟨F,δ,by rw[hK];exact R,?_⟩;cases e:f δ with
 |stuck=>rw[e]at h;exact h
 |err x δ1=>rw[e]at h;exact h.elim
 |ok d δ1=>rw[e]at h;exact λv H' F' R' s=>h v H' F' (by rw[<- hK];exact R') s
theorem TD{f:M Bool}(hK:X'.K=X.K)(h:Ĭ X Z ow f σ H Q):tT X' Z ow f σ H Q:=by
 let⟨F,δ,R,h⟩:=h;refine⟨F,δ,by rw[hK];exact R,?_⟩;cases e:f δ with
 |stuck=>rw[e]at h;exact h
 |err x δ1=>rw[e]at h;exact h.elim
 |ok d δ1=>rw[e]at h;exact λH' F' R' s=>h H' F' (by rw[<- hK];exact R') s
def eG:M Bool:=λδ=>.ok true δ
theorem bZ:O7 X [] (tT X Z ow eG):=λU s σ H Q I h=>by
 let⟨F,δ,R,h⟩:=h;exact CU U s σ H Q I (h H F R (aI.refl _))
theorem lX(h:DT X Z ow c t):O7 X [c] (tT X Z ow t):=ZW h
theorem sC(S:aO Z ow)(Sk:aO (Z.sh xs.length) 'j')(hc:X.calm=true)(hi:DI X Z ow tg iter fi)(hg:∀C fp s H,PG 'd' tg g)(hs:YM X (Z.sh xs.length) 'j' xs.length g set)(hif:∀C fp s H,O7 'd' ifs (tT 'd' (Z.sh xs.length) 'j' t))(he:∀C fp s H,DE 'd' (Z.sh xs.length) 'j' 0 elt fe)(hk:↥(scope.kind=.function))(hok:↥(dJ X.N xs scope.names X.env.scope.names=true))(hfs: ~~~(Zfi iter X.env)):
  DE X Z ow 1 'h' (dZ xs.length set fi t fe):=
 PE.mono (FV (ti:=Ĭ X (Z.sh xs.length) 'j' t) (te:=ė X (Z.sh xs.length) 'j' 0 fe) hc hi hg (λC fp s H U s' σ H' Q I h=>hif C fp s H U s' σ H' Q I (TD (X:=X) (X':=aQ X xs scope C fp s H) rfl h)) (λC fp s H=>PE.mono (he C fp s H) λ_ _ _ h=>GI (X:=X) (X':=aQ X xs scope C fp s H) rfl h) hk hok hfs)
  λ_ _ _ q=>w9 (wi:=tI X Z ow fi) S Sk hs q
theorem lY(i:Nat){pos' spos:Pos}(S:aO Z ow)(Sk:aO (Z.sh xs.length) 'j')(hc:X.calm=true)(hN:X.N.Nodup)(hi:DI X Z ow tg iter fi)(hg:∀C fp s H,PG 'd' tg g)(hs:YM X (Z.sh xs.length) 'j' xs.length g set)(hif:∀C fp s H,O7 'd' ifs (tT 'd' (Z.sh xs.length) 'j' t))(he:∀C fp s H,DE 'd' (Z.sh xs.length) 'j' 0 elt fe)(hx:↥(X.N[i]?=some x))(hl:↥(X.env.scope.names.lookup x=some .local))(hps:↥(Z.ps.contains i=false))(hlo:⇑(i<ow.length))(hsw:↥(swapsWith 'h' (some (.Name x pos')) spos.line X.env=pure true))(hk:↥(scope.kind=.function))(hok:↥(dJ X.N xs scope.names X.env.scope.names=true))(hfs: ~~~(Zfi iter X.env)):
  AE X Z ow (ow.set i 1) ol ox rm (.Assign [.Name x pos'] 'h' spos) (fL i (dZ xs.length set fi t fe)):=
 PS.mono (lN (ti:=Ĭ X (Z.sh xs.length) 'j' t) (te:=ė X (Z.sh xs.length) 'j' 0 fe) hc hN hx hl hi hg (λC fp s H U s' σ H' Q I h=>hif C fp s H U s' σ H' Q I (TD (X:=X) (X':=aQ X xs scope C fp s H) rfl h)) (λC fp s H=>PE.mono (he C fp s H) λ_ _ _ h=>GI (X:=X) (X':=aQ X xs scope C fp s H) rfl h) hsw hk hok hfs)
  λDn σ H h=>w9 (wi:=tI X Z ow fi) S Sk hs (v2 S (dE hps) hlo h)
end
section
variable {X:Cx}{Z:b8}{ow:ZH}{pos:Pos}{e:Expr}{f h:M D}{F:Hp}{K:ZC}
theorem AH(h:aD K F [d] vs):∃v,vs=[v]/\bI K F d v:=by
 unfold aD at h;let⟨x,r,rfl,rx,h⟩:=h;unfold aD at h;exact⟨x,by rw[h],rx⟩
theorem aF3:Ė X (λxs H Q=>(∃p ys,xs=[.ref p]/\(eJ X.K H p ys\/rK X.K H p ys)/\Q (.int ys.length) H)\/(∃z,xs=[.str z]/\z.length<=sizeLine/\Q (.int z.length) H)) 0 rY:=λZ ow F H σ δ ds vs d Q S R ra e q=>by
 unfold rY at e;split at e
 .cases e
  let⟨v,rfl,r⟩:=AH ra;let⟨p,xs,rfl,hp,hr⟩:=kP r;rw[hr.len]at q;exact .inl ⟨p,xs,rfl,.inl (R.sub.seq hp),q _ H F (R.x gM) (aI.refl _)⟩
 .cases e
  let⟨v,rfl,r⟩:=AH ra;let⟨p,xs,rfl,hp,hr⟩:=C7 r;rw[hr.len]at q;exact .inl ⟨p,xs,rfl,.inr (R.sub.seqT hp),q _ H F (R.x gM) (aI.refl _)⟩
 .split at e
  .rename_i hz
   cases e;let⟨v,rfl,r⟩:=AH ra;obtain rfl:=j4 r;exact .inr ⟨_,rfl,hz,q _ H F (R.x gM) (aI.refl _)⟩
  .cases e
 .cases e
theorem cK{p:Pos}(S:aO Z ow)(hg:Gl X "len")(hm:X.mg "len"=none)(ha:DE X Z ow 0 e f)(hs:↥(Zse e [] X.env))(hpl:↥(Zbt pos [] X.env)):DE X Z ow 0 (.Call (.Name "len" p) [e] [] pos) (O8 rY [f]):=
 iX S (rQ.or CQ) aF3 hg hm SI (aE ha aS hs) ⋯ ⋯ hs hpl
def ş:ZI->ZL
 |[.int i]=>some (.int (if i<0 then -i else i))
 |_=>none
theorem DJ:Ė X (λxs H Q=>∃i,xs=[.int i]/\Q (.int (if i<0 then -i else i)) H) 0 ş:=λZ ow F H σ δ ds vs d Q S R ra e q=>by
 unfold ş at e;split at e
 .cases e
  let⟨v,rfl,r⟩:=AH ra;exact⟨_,by rw[iF r],q _ H F (R.x gM) (aI.refl _)⟩
 .cases e
def MJ:ZI->ZL
 |[.list ds]=>some (.list ds)
 |[.tuple ds]=>some (.list ds)
 |_=>none
theorem DK:Ė X (λxs H Q=>∃p ys,xs=[.ref p]/\(eJ X.K H p ys\/rK X.K H p ys)/\∀l,H l=none->Q (.ref l) (aX H l (.lst ys))) 1 MJ:=λZ ow F H σ δ ds vs d Q S R ra e q=>by
 unfold MJ at e;split at e
 .cases e
  let⟨v,rfl,r⟩:=AH ra;let⟨p,xs,rfl,hp,hr⟩:=kP r;exact⟨p,xs,rfl,.inl (R.sub.seq hp),λl hl=>q _ _ F (R.newList S hl hr) (aI.refl _)⟩
 .cases e
  let⟨v,rfl,r⟩:=AH ra;let⟨p,xs,rfl,hp,hr⟩:=C7 r;exact⟨p,xs,rfl,.inr (R.sub.seqT hp),λl hl=>q _ _ F (R.newList S hl hr) (aI.refl _)⟩
 .cases e
inductive Ty where|int|bool|str|list|tuple
def Ty.name:Ty->String
 |.int=>"int"|.bool=>"bool"|.str=>"str"|.list=>"list"|.tuple=>"tuple"
def DL:Ty->D->ZL
 |.int,.int _=>some (.bool true)|.int,.bool _=>some (.bool true)|.bool,.bool _=>some (.bool true)|.str,.str _=>some (.bool true)|.list,.list _=>some (.bool true)|.tuple,.tuple _=>some (.bool true)
 |_,.dict _=>none
 |_,_=>some (.bool false)
theorem PJ(T:Ty):iM X (.builtin "isinstance") (λxs H Q=>∃(x:V)(d:D)(b:Bool),xs=[x,.ty T.name]/\bI X.K H d x/\DL T d=some (.bool b)/\Q (.bl b) H):=by
 intro U s σ H xs us Q I r h;let⟨x,d,b,rfl,rd,hb,q⟩:=h;let⟨u,v,rfl,rx,rc⟩:=aI3 r;obtain rfl:v=Value.type T.name:=rc;cases d with
 |none=>obtain rfl:=qH rd;cases (show u=Value.none from rx);exact W.kia_one W.kitx_none I.kIn True.intro (by cases T<;>cases hb<;>rfl) (λz=>nomatch z) λtk=>⟨.bl b,H,I.tok tk,rfl,q⟩
 |bool y=>obtain rfl:=mU rd;cases (show u=Value.bool y from rx);exact W.kia_one W.kitx_bool I.kIn True.intro (by cases T<;>cases hb<;>rfl) (λz=>nomatch z) λtk=>⟨.bl b,H,I.tok tk,rfl,q⟩
 |int i=>obtain rfl:=iF rd;let⟨t,q'⟩:=(show ∃t,u=Value.int i t from rx);cases q';exact W.kia_one W.kitx_int I.kIn True.intro (by cases T<;>cases hb<;>rfl) (λz=>nomatch z) λtk=>⟨.bl b,H,I.tok tk,rfl,q⟩
 |str i=>obtain rfl:=j4 rd;let⟨t,q'⟩:=(show ∃t,u=Value.str i t from rx);cases q';exact W.kia_one W.kitx_str I.kIn True.intro (by cases T<;>cases hb<;>rfl) (λz=>nomatch z) λtk=>⟨.bl b,H,I.tok tk,rfl,q⟩
 |list ds=>
  let⟨a,xs,rfl,hp,_⟩:=kP rd;cases (show u=Value.ref a from rx);let⟨_,_,⟨o,_,h1,h2,_⟩,_⟩:=I.list hp;exact W.kia_one W.kitx_list I.kIn ⟨o,h1,h2⟩ (by cases T<;>cases hb<;>rfl) (λz=>nomatch z) λtk=>⟨.bl b,H,I.tok tk,rfl,q⟩
 |tuple ds=>
  let⟨a,xs,rfl,hp,_⟩:=C7 rd;cases (show u=Value.ref a from rx);let⟨_,_,⟨o,h1,h2,_⟩,_⟩:=I.tuple hp;exact W.kia_one W.kitx_tuple I.kIn ⟨o,h1,h2⟩ (by cases T<;>cases hb<;>rfl) (λz=>nomatch z) λtk=>⟨.bl b,H,I.tok tk,rfl,q⟩
 |dict _=>cases T<;>cases hb
theorem TF(T:Ty){x:Str}{p p2:Pos}(hx:x=T.name)(hg:Gl X "isinstance")(hm:X.mg "isinstance"=none)(Ę:Gl X x)(hmt:X.mg x=none)(hbt:bootBuiltins x=some (.type T.name))(ha:DE X Z ow 0 e f)(hn:⇑(x≠"__name__"))(hd:⇑(Zdb x))(hs:↥(starEach [e,.Name x p2] X.env=(false,eval e X.env)::starEach [.Name x p2] X.env))(hs2:↥(starEach [.Name x p2] X.env=(false,eval (.Name x p2) X.env)::starEach [] X.env))(hpl:↥((backTo pos (starEach [.Name x p2] X.env)).any (·.1)=false)):
  DE X Z ow 0 (.Call (.Name "isinstance" p) [e,.Name x p2] [] pos) (DD (DL T) f):=
 PE.mono (wK (PJ T) hg hm AD (gY ha (gY (aJF Ę hmt hbt hn hd) m4 hs2) hs) ⋯ ⋯ hs hpl) λσ H Q q=>by
  let⟨F,δ,R,q⟩:=q;unfold DD at q;refine⟨F,δ,R,?_⟩;cases e:f δ with
  |stuck=>rw[e]at q;exact q.elim
  |err x δ1=>rw[e]at q;exact q
  |ok d δ1=>
   rw[e]at q;simp![Res.bind]at q;intro v H1 F1 R1 s1;have hb:∀r,DL T d=some r->∃b,r=.bool b:=λr h=>by
    unfold DL at h;split at h<;>cases h<;>exact⟨_,rfl⟩
   cases e1:DL T d with
   |none=>rw[e1]at q;exact q.elim
   |some r=>
    rw[e1]at q;let⟨b,rfl⟩:=hb r e1;exact⟨v,d,b,rfl,R1.rel.sub.rep _ _ R1.rep,e1,q _ H1 F1 (R1.rel.x jJ) s1⟩
def AI(xs:ZI)(lo hi:Option Int):ZI:=(xs.drop (HT.sIx xs.length 0 lo)).take (HT.sIx xs.length xs.length hi-HT.sIx xs.length 0 lo)
theorem aD.cut(r:aD K F ds vs)(lo hi:Option Int):aD K F (AI ds lo hi) (CK vs lo hi):=by
 unfold AI CK;rw[r.len];exact(r.drop _).take _
def j6:Option (M D)->M (Option Int)
 |none=>λδ=>.ok none δ
 |some f=>λδ=>(f δ).bind λd δ1=>match d with
  |.int i=>.ok (some i) δ1
  |_=>.stuck
def kO(X:Cx)(Z:b8)(ow:ZH)(r:Res (Option Int))(F:Hp)(σ:St)(Q:Option Int->Hp->Prop):Prop:=match r with
 |.ok o δ=>∀H' F',cP X.K Z ow F' H' σ δ->aI F F'->Q o H'
 |.err x δ=>iV X Z ow F x δ
 |.stuck=>False
def aOI(X:Cx)(Z:b8)(ow:ZH)(f:Option (M D)):TO:=λσ H Q=>∃F δ,cP X.K Z ow F H σ δ/\kO X Z ow (j6 f δ) F σ Q
def DO(X:Cx)(Z:b8)(ow:ZH)(e:Option Expr)(f:Option (M D)):Prop:=PO X e (aOI X Z ow f)
theorem PO.mono(h:PO X o t)(hm:∀σ H Q,t' σ H Q->t σ H Q):PO X o t':=λU s σ H Q I q=>h U s σ H Q I (hm σ H Q q)
theorem gZ:DO X Z ow none none:=PO.mono Y9 λσ H Q q=>by
 let⟨F,δ,R,q⟩:=q;exact q H F R (aI.refl _)
theorem fH(h:DE X Z ow 0 e f):DO X Z ow (some e) (some f):=PO.mono (ZQ h) λσ H Q q=>by
 let⟨F,δ,R,q⟩:=q;have q:kO X Z ow ((f δ).bind λd δ1=>match d with|.int i=>.ok (some i) δ1|_=>.stuck) F σ Q:=q;refine⟨F,δ,R,?_⟩;cases e:f δ with
 |stuck=>rw[e]at q;exact q.elim
 |err x δ1=>rw[e]at q;exact q
 |ok d δ1=>
  rw[e]at q;simp![Res.bind]at q;intro v H1 F1 R1 s1;cases d with
  |int i=>exact⟨i,iF R1.rep,q H1 F1 R1.rel s1⟩
  |_=>exact q.elim
def Ġ(op:D->Option Int->Option Int->ZL)(f:M D)(lo hi:Option (M D)):M D:=λδ=>(f δ).bind λd δ1=>(j6 lo δ1).bind λl δ2=>(j6 hi δ2).bind λu δ3=>match op d l u with
 |some r=>.ok r δ3
 |none=>.stuck
def Š(X:Cx)(r:V->Option Int->Option Int->Hp->VK->Prop)(n:Nat)(op:D->Option Int->Option Int->ZL):Prop:=∀(Z:b8)(ow:ZH)(F H:Hp)(σ:St)(δ:DS)(a:D)(x:V)(l u:Option Int)(d:D)(Q:VK),aO Z ow->cP X.K Z ow F H σ δ->bI X.K F a x->op a l u=some d ->
 (∀v H' F',gJ X.K Z ow n d v F' H' σ δ->aI F F'->Q v H')->r x l u H Q
theorem fZ{lo hi:Option Expr}(S:aO Z ow)(hr:ķ X r)(os:Š X r n op)(he:DE X Z ow 0 e f)(hl:DO X Z ow lo fl)(hu:DO X Z ow hi fh):
  DE X Z ow n (.Subscript e (.Slice lo hi none p2) pos) (Ġ op f fl fh):=PE.mono (FO hr he hl hu) λσ H Q q=>by
 let⟨F,δ,R,q⟩:=q;unfold Ġ at q;refine⟨F,δ,R,?_⟩;cases e1:f δ with
 |stuck=>rw[e1]at q;exact q.elim
 |err x δ1=>rw[e1]at q;exact q
 |ok d δ1=>
  rw[e1]at q;simp![Res.bind]at q;intro v H1 F1 R1 s1;refine⟨F1,δ1,R1.rel,?_⟩;cases e2:j6 fl δ1 with
  |stuck=>rw[e2]at q;exact q.elim
  |err x δ2=>rw[e2]at q;exact iV.mono q s1
  |ok l δ2=>
   rw[e2]at q;dsimp only at q;intro H2 F2 R2 s2;refine⟨F2,δ2,R2,?_⟩;cases e3:j6 fh δ2 with
   |stuck=>rw[e3]at q;exact q.elim
   |err x δ3=>rw[e3]at q;exact iV.mono q (s1.trans' s2)
   |ok u δ3=>
    rw[e3]at q;dsimp only at q;intro H3 F3 R3 s3;cases e4:op d l u with
    |none=>rw[e4]at q;exact q.elim
    |some r0=>
     rw[e4]at q;exact os Z ow F3 H3 σ δ3 d v l u r0 Q S R3 ((s2.trans' s3).rep _ _ R1.rep) e4 λv' H' F' R' s'=>q v' H' F' R' (s1.trans' (s2.trans' (s3.trans' s')))
def uC:D->Option Int->Option Int->ZL
 |.list ds,l,u=>some (.list (AI ds l u))
 |_,_,_=>none
theorem lZ:Š X (Α X.K) 1 uC:=λZ ow F H σ δ a x l u d Q S R ra e q=>by
 unfold uC at e;split at e
 .cases e
  let⟨p,xs,rfl,hp,hr⟩:=kP ra;exact⟨p,xs,rfl,R.sub.seq hp,λt ht=>q _ _ F (R.newList S ht (hr.cut l u)) (aI.refl _)⟩
 .cases e
def Z7:D->Option Int->Option Int->ZL
 |.tuple ds,l,u=>if HT.sIx ds.length 0 l=0/\HT.sIx ds.length ds.length u=ds.length then none else some (.tuple (AI ds l u))
 |_,_,_=>none
theorem TH:Š X (Ż X.K) 0 Z7:=λZ ow F H σ δ a x l u d Q S R ra e q=>by
 unfold Z7 at e;split at e
 .split at e
  .cases e
  .rename_i hw
   cases e;let⟨p,xs,rfl,hp,hr⟩:=C7 ra;rw[hr.len]at hw;refine⟨p,xs,rfl,R.sub.seqT hp,hw,λt ht=>?_⟩;have ft:=R.fnone ht;exact q _ _ (aX F t (.tup (CK xs l u))) ((R.laid ht).x (qF ft (hr.cut l u))) (cL ft _)
 .cases e
theorem aF(h1:↥(decide (ow.length<=1000)=true))(h2:↥(Z.ps.contains 1000=false)):aO Z ow:=⟨of_decide_eq_true h1,dE h2⟩
end
def š(x:Str):It:=⟨λi _=>i<x.cps.size,λi H v H'=>H'=H/\∃c,x.cps[i]?=some c/\v=.str ⟨#[c]⟩,λi _=>i=x.cps.size⟩
theorem TJ{K:ZC}(x:Str)(t:Tok)(it:Addr):FK P w K tg (š x) [it] it (λi h=>h.IsStrIter it (strIterType x) x t i):=by
 have hty:strIterType x="str_ascii_iterator"\/strIterType x="str_iterator":=by
  unfold strIterType;split
  .exact .inl rfl
  .exact .inr rfl
 have W:∀A:Around,A.handled=none->Walks P w A it [it] [it] x.cps.size (SignAt x) (λi h=>h.IsStrIter it (strIterType x) x t i):=λA hh=>by
  rcases hty with e|e
  .rw[e];exact Walks.strAscii hh it x t
  .rw[e];exact Walks.strWide hh it x t
 refine⟨by simp,λi h st b hb=>?_,λi h h' st k=>let ⟨o,ho,r⟩:=st;⟨o,k it 'e' o ho,r⟩,?_,?_,λA i s Q E st h=>?_⟩
 .have e:b=it:=by simpa using hb
  subst e;let⟨o,e,c,d⟩:=st;exact⟨o,e,λv z=>by rw[d]at z;cases z⟩
 .intro X hP hw hK hc i U s σ H E I hf st hg
  subst hP hw hK;let⟨f0,f1,f2,f3,f4,f5⟩:=hf it 'e';refine(W X.A (I.ok.hd hc)).item i s _ E hg st λv h' tk hv st' k=>?_;have I1:Inv X U σ H {s with heap:=h',toks:=tk}:=I.turned (t':=tk) (λb o hb e=>k b o (by simpa using hb) e) f0 f1 f3 f4 f5;let⟨c,u,hx,rfl⟩:=hv;let⟨o,e,cl,d⟩:=id st';refine⟨_,rfl,FL (s:={s with heap:=h',toks:=tk}) e cl d (by rcases hty with e|e<;>rw[e]<;>decide) ⟨.str ⟨#[c]⟩,H,I1,⟨u,rfl⟩,⟨rfl,c,hx,rfl⟩,st',λb hb=>(hf b hb).1⟩⟩
 .intro X hP hw hK hc i U s σ H E I hf st hg
  subst hP hw hK;let⟨f0,f1,f2,f3,f4,f5⟩:=hf it 'e';have hg:i=x.cps.size:=hg;subst hg;exact(W X.A (I.ok.hd hc)).done s _ E st λh' tk k=>⟨rfl,I.turned (t':=tk) (λb o hb e=>k b o (by simpa using hb) e) f0 f1 f3 f4 f5⟩
 .have st:s.heap.IsStrIter it (strIterType x) x t i:=st
  rcases hty with e|e
  .rw[e]at st;exact wpAny_pyIter_striter_ascii st h
  .rw[e]at st;exact wpAny_pyIter_striter_wide st h
section
variable {F:Hp}{K:ZC}
def aMQ(tl:TE):TI:=λσ H R=>tl σ H λx H1=>∃z,x=.str z/\R (š z) H1
theorem aF5(hl:PE X l tl):PI X tg l (aMQ tl):=by
 intro U s σ H R I h;refine cN (hl U s σ H _ I h) λv s1 zQ=>?_;let⟨x,H1,I1,r1,q1⟩:=zQ;let⟨z,rfl,q⟩:=q1;let⟨t,rfl⟩:=r1;refine wpAny_pyIter_strU ?_;refine⟨s1.heap.objs.size,[s1.heap.objs.size],_,_,H1,rfl,I1.kept (t':=s1.toks) λb o e=>Heap.get?_push_of_some _ e,TJ z t _,⟨_,Heap.get?_push_size _ rfl,rfl,rfl⟩,λb hb=>?_,q⟩;have e:b=s1.heap.objs.size:=by simpa using hb
 subst e;exact I1.fpOk (Ç _) (I1.hok.fresh (Ç _))
def mW(z:Str):ZI:=z.cps.toList.map λc=>.str ⟨#[c]⟩
theorem Z8{z:Str}:RI K F (š z) (mW z) where
 go:=λi H s hi=>by
  have:(mW z).length=z.cps.size:=by unfold mW;simp
  rw[this]at hi;exact hi
 yld:=λi H x H' d s y e=>.inl ⟨y.1,by
  let⟨c,hc,rfl⟩:=y.2;unfold mW at e;rw[Ñ]at e;have:z.cps.toList[i]?=some c:=by simpa using hc
  rw[this]at e;cases e;exact ME⟩
 stop:=λH s=>by
  show (mW z).length=z.cps.size;unfold mW;simp
def xA(f:M D):M (ZI):=λδ=>(f δ).bind λd δ1=>match d with
 |.str z=>.ok (mW z) δ1
 |_=>.stuck
theorem aF6(h:DE X Z ow 0 e f):DI X Z ow tg e (xA f):=(aF5 h).mono λσ H R q=>by
 let⟨F,δ,Rl,q⟩:=q;unfold xA at q;refine⟨F,δ,Rl,?_⟩;cases e1:f δ with
 |stuck=>rw[e1]at q;exact q.elim
 |err x δ1=>rw[e1]at q;exact q
 |ok d δ1=>
  rw[e1]at q;simp![Res.bind]at q;intro v H1 F1 R1 s1;cases d with
  |str z=>exact⟨z,j4 R1.rep,q _ H1 F1 R1.rel s1 Z8⟩
  |_=>exact q.elim
theorem BF:j3 X (compareOp .LtE) (λx y H Q=>∃i j,x=.str i/\y=.str j/\Q (.bl (!decide (j.cps.toList<i.cps.toList))) H):=by
 intro U s σ H x y v u Q I rx ry h;let⟨i,j,rfl,rfl,q⟩:=h;let⟨t,rfl⟩:=rx;let⟨t',rfl⟩:=ry;exact PySem.P.le_str ⟨.bl _,H,I,rfl,q⟩
def ĝ:D->D->ZL
 |.str i,.str j=>some (.bool (!decide (j.cps.toList<i.cps.toList)))
 |_,_=>none
theorem TK:oG X (λx y H Q=>∃i j,x=.str i/\y=.str j/\Q (.bl (!decide (j.cps.toList<i.cps.toList))) H) 0 ĝ:=λZ ow F H σ δ a b x y d Q S R ra rb e q=>by
 unfold ĝ at e;split at e
 .cases e;exact⟨_,_,j4 ra,j4 rb,q _ H F (R.x jJ) (aI.refl _)⟩
 .cases e
theorem bK.bl_at:∀{bs:List Bool}{us:ZJ}{i:Nat}{u:Value},bK (bs.map V.bl) us->us[i]?=some u->∃b,bs[i]?=some b/\u=.bool b
 |[],us,i,u,r,e=>by cases r;simp at e
 |b::bs,_,0,u,.cons r _,e=>by cases e;exact⟨b,rfl,r⟩
 |b::bs,_,i+1,u,.cons _ r,e=>by
  let⟨b',e1,e2⟩:=bK.bl_at (i:=i) r (by simpa using e);exact⟨b',e1,e2⟩
theorem PK{bs:List Bool}:(List.range bs.length).all (λi=>bs.getD i true)=bs.all id:=by
 rw[Bool.eq_iff_iff,è,è];constructor
 .intro h b hb
  let⟨i,hi,e⟩:=List.mem_iff_getElem.mp hb;have:=h i (List.mem_range.mpr hi);rw[Ê,É hi]at this;rw[<- e];exact this
 .intro h i hi
  have hi:=List.mem_range.mp hi;rw[Ê,É hi];exact h _ (Đ hi)
theorem GJ(hc:X.calm=true):iM X (.builtin "all") (λxs H Q=>∃(p:Addr)(bs:List Bool),xs=[.ref p]/\eJ X.K H p (bs.map V.bl)/\Q (.bl (bs.all id)) H):=by
 intro U s σ H xs us Q I r h;let⟨p,bs,rfl,hq,q⟩:=h;let⟨u,rfl,rx⟩:=pG r;cases rx;let⟨its,rv,pl,hz⟩:=I.list hq;refine call_all_walk (wpAny_pyIter_list pl.isList ?_);have hlen:=rv.length;rw[Ä]at hlen;have hne:p≠s.heap.objs.size:=by
  let⟨o,n,e,_⟩:=pl;exact Ì (Heap.lt_size e)
 have ph:Inv X U σ H {s with heap:=s.heap.push {cls:=.type "list_iterator",data:=.fields #[.ref p,.int 0 0]}}:=I.kept (t':=s.toks) λb o e=>Heap.get?_push_of_some _ e;let⟨its',rv',pl',_⟩:=ph.list hq;have e1:its=its':=by
  let⟨o,n,e,c,dn,d⟩:=pl;let⟨o',n',e',c',dn',d'⟩:=pl';have e'':=Heap.get?_push_of_some {cls:=.type "list_iterator",data:=.fields #[.ref p,.int 0 0]} e;rw[e'']at e';cases e';rw[d]at d';injection d' with d1 _;simpa using congrArg Array.toList d1
 subst e1;refine⟨s.heap.objs.size,_,_,_,_,_,λi=>bs.getD i true,rfl,Walks.list (A:=X.A.in1) (show X.A.in1.handled=none from I.ok.hd hc) s.heap.objs.size p hne its.toArray,⟨⟨_,Heap.get?_push_size _ rfl,rfl,rfl⟩,pl'.isList⟩,λi v s' Q' E' hv hQ=>?_,λh' tk k=>?_⟩
 .have hv:its.toArray[i]?=some v:=hv
  let⟨b,hb,rfl⟩:=bK.bl_at (i:=i) rv (by simpa using hv);have hQ:Q' (bs.getD i true) s':=hQ;rw[Ê,hb]at hQ;exact wpAny_truthy_bool hQ
 .have sz:its.toArray.size=bs.length:=by simp;exact Eq.symm ‹_›
  rw[sz,PK];have I2:=ph.turned (it:=s.heap.objs.size) (h':=h') (t':=tk) (λb o hb e=>k b o (by simpa using hb) e) (I.hok.fresh (Ç _)) (Ü I.lt) (.inr I.sz) (λx c e=>by
   let⟨v,q⟩:=I.cell x c e;exact Ì q.lt) λp hp=>Ì (Heap.lt_size (I.pin p hp).1)
  exact⟨.bl _,H,I2,rfl,q⟩
def sD:ZI->Option (List Bool)
 |[]=>some []
 |.bool b::r=>(sD r).map (b::·)
 |_=>none
theorem BG:∀{ds:ZI}{bs:List Bool}{vs:List V},sD ds=some bs->aD K F ds vs->vs=bs.map V.bl
 |[],bs,vs,h,r=>by
  cases h;unfold aD at r;rw[r];rfl
 |d::ds,bs,vs,h,r=>by
  unfold aD at r;let⟨x,rest,rfl,rx,r⟩:=r;cases d with
  |bool b=>
   have h:(sD ds).map (b::·)=some bs:=h;cases e:sD ds with
   |none=>rw[e]at h;cases h
   |some bs'=>
    rw[e]at h;cases h;rw[mU rx,BG e r];rfl
  |_=>cases h
def Ţ:ZI->ZL
 |[.list ds]=>(sD ds).map λbs=>.bool (bs.all id)
 |_=>none
theorem aF9:Ė X (λxs H Q=>∃(p:Addr)(bs:List Bool),xs=[.ref p]/\eJ X.K H p (bs.map V.bl)/\Q (.bl (bs.all id)) H) 0 Ţ:=λZ ow F H σ δ ds vs d Q S R ra e q=>by
 unfold Ţ at e;split at e
 .rename_i ds'
  cases e1:sD ds' with
  |none=>rw[e1]at e;cases e
  |some bs=>
   rw[e1]at e;cases e;let⟨v,rfl,r⟩:=AH ra;let⟨p,xs,rfl,hp,hr⟩:=kP r;rw[BG e1 hr]at hp;exact⟨p,bs,rfl,R.sub.seq hp,q _ H F (R.x jJ) (aI.refl _)⟩
 .cases e
theorem oJ(hg:Gl X x)(hm:∃t,X.mg x=some (.int i t))(hd:⇑(Zdb x)):DE X Z ow 0 (.Name x pos) (dC (.int i)):=by
 let⟨t,hm⟩:=hm;exact nB (YT hg hm (v:=.int i) ⟨t,rfl⟩ hd) λF=>gM
end
theorem PL{K:ZC}(z:AG P w K outer H s (λ_ _ _=>False) e s'):False:=by
 let⟨_,_,_,_,_,_,_,_,_,_,_,_,_,q⟩:=z;exact q
end L2
namespace L2
open PySem PySem.Spec
theorem DM{C:Int->Int->Prop}{g:Int->Int->D}{i j:Int}(h:C i j):iD C g (.int i) (.int j)=some (g i j):=by
 unfold iD;exact Á h
theorem GK(h:0<j):DC (.int i) (.int j)=some (.int (i % j)):=by
 rw[DC,DM (by show j≠0;exact Int.ne_of_gt ‹_›),Int.fmod_eq_emod_of_nonneg i (by exact õ ‹_›)]
theorem PM(h:0<j)(h2:j.natAbs.log2<9000):GG (.int i) (.int j)=some (.int (i/j)):=by
 rw[GG,DM ⟨by exact Int.ne_of_gt ‹_›,h2⟩,Int.fdiv_eq_ediv_of_nonneg i (by exact õ ‹_›)]
theorem Z9(h:IntMulOk i j):PD (.int i) (.int j)=some (.int (i*j)):=by rw[PD,DM h]
theorem aAA(h:YZ i j):Z5 (.int i) (.int j)=some (.int (i^j.toNat)):=by rw[Z5,DM h]
theorem aAB:PF (.int i) (.int j)=some (.bool (i == j)):=rfl
theorem MK:wZ (.int i) (.int j)=some (.bool (!(i == j))):=rfl
theorem TL:wZ (.bool i) (.bool j)=some (.bool (!(i == j))):=rfl
theorem xB{e:M D}{g:D->D}{δ:DS}:∀{ds acc:ZI}{o:ZL},(∀d∈ds,e (some d::δ)=.ok (g d) (some d::δ))->acc.length+ds.length<=sizeLine->∃o',bQ (eK 0) eG e ds acc (o::δ)=.ok (acc++ds.map g) (o'::δ)
 |[],acc,o,_,_=>⟨o,by simp[bQ]⟩
 |d::ds,acc,o,h,hl=>by
  have hd:=h d Ó;rw[Õ]at hl;let⟨o',ih⟩:=xB (ds:=ds) (acc:=acc++[g d]) (o:=some d) (λx hx=>h x (Ï _ hx)) (by simp;lia);refine⟨o',?_⟩;unfold bQ;have e1:eK 0 d (o::δ)=some (some d::δ):=by simp[eK]
  rw[e1];show Res.bind (eG (some d::δ)) _=_;simp![eG,Res.bind,if_true,hd];rw[Á ∅,ih];simp
theorem BH{f:M (ZI)}{e:M D}{g:D->D}{δ δ1:DS}{ds:ZI}(hf:f δ=.ok ds δ1)(he:∀d∈ds,e (some d::δ1)=.ok (g d) (some d::δ1))(hl:ds.length<=sizeLine):dZ 1 (eK 0) f eG e δ=.ok (.list (ds.map g)) δ1:=by
 unfold dZ;rw[hf];let⟨o',h⟩:=xB (acc:=[]) (o:=none) he (by simpa using hl);simp![Res.bind];rw[show List.replicate 1 (none:ZL)++δ1=none::δ1 from rfl,h];simp
theorem aIG{set:D->DS->Option DS}{u:M Fl}(I:Nat->ZO){ds:ZI}(hs:∀(k:Nat)(d:D)(δ:DS),ds[k]?=some d->I k δ->∃δ1 δ2,set d δ=some δ1/\(u δ1=.ok .next δ2\/u δ1=.ok .cont δ2)/\I (k+1) δ2)(h0:I 0 δ):
  ∃δ',fQ set u ds δ=.ok .next δ'/\I ds.length δ':=by
 have main:∀(n k:Nat)(δ:DS),k+n=ds.length->I k δ->∃δ',fQ set u (ds.drop k) δ=.ok .next δ'/\I ds.length δ':=by
  intro n
  induction n with
  |zero=>
   intro k δ hk h;have:k=ds.length:=by assumption
   subst this;rw[List.drop_length];exact⟨δ,rfl,h⟩
  |succ n ih=>
   intro k δ hk h;have hlt:k<ds.length:=by lia
   let⟨δ1,δ2,e1,e2,h2⟩:=hs k ds[k] δ (É hlt) h;let⟨δ',e3,h3⟩:=ih (k+1) δ2 ∅ h2;refine⟨δ',?_,h3⟩;rw[ò hlt];unfold fQ;rw[e1];rcases e2 with e2|e2
   .simp![e2,Res.bind];exact e3
   .simp![e2,Res.bind];exact e3
 have:=main ds.length 0 δ (by exact Nat.add_comm _ _) h0
 rwa [List.drop_zero]at this
theorem ML{u v:M Fl}{δ δ1:DS}(h:u δ=.ok .next δ1):dW u v δ=v δ1:=by unfold dW;rw[h];rfl
theorem TM{u v:M Fl}{δ δ1:DS}{d:D}(h:u δ=.ok (.ret d) δ1):dW u v δ=.ok (.ret d) δ1:=by unfold dW;rw[h];rfl
theorem GL{n k:Nat}{d:D}(h:(jI lo n)[k]?=some d):k<n/\d=.int (lo+(k:Int)):=by
 have hk:k<n:=by have:=(Ò.mp h).1;rwa [fW]at this
 rw[C1 hk]at h;cases h;exact⟨hk,rfl⟩
theorem TN(h:z.length=n)(hn:n<=sizeLine):rY [.str z]=some (.int n):=by
 show (if z.length<=sizeLine then some (PyData.int z.length)else none)=_;rw[Á (by rw[h];exact hn),h]
theorem aW{k:α->DS->Res β}:(Res.ok a δ).bind k=k a δ:=rfl
theorem iI{op:D->D->ZL}{f g:M D}{δ δ1 δ2:DS}{a b c:D}(hf:f δ=.ok a δ1)(hg:g δ1=.ok b δ2)(ho:op a b=some c):iW op f g δ=.ok c δ2:=by
 unfold iW;rw[hf,aW,hg,aW,ho]
theorem DN{op:ZI->ZL}{f:M D}{δ δ1:DS}{a c:D}(hf:f δ=.ok a δ1)(ho:op [a]=some c):O8 op [f] δ=.ok c δ1:=by
 unfold O8;rw[show aY [f] δ=.ok [a] δ1 by simp![aY,hf,aW],aW,ho]
theorem aGA{op:D->ZL}{f:M D}{δ δ1:DS}{a c:D}(hf:f δ=.ok a δ1)(ho:op a=some c):DD op f δ=.ok c δ1:=by
 unfold DD;rw[hf,aW,ho]
theorem pQ{f:M D}{δ δ1:DS}{b:Bool}(hf:f δ=.ok (.bool b) δ1):dB f δ=.ok b δ1:=by
 unfold dB;rw[hf,aW]
theorem MM{f:M D}{δ δ1:DS}{d:D}(hf:f δ=.ok d δ1):t8 f δ=.ok (.ret d) δ1:=by
 unfold t8;rw[hf,aW]
theorem aGB{c:M Bool}{u v:M Fl}{δ δ1:DS}(h:c δ=.ok true δ1):mX c u v δ=u δ1:=by unfold mX;rw[h,aW,Á rfl]
theorem TQ{c:M Bool}{u v:M Fl}{δ δ1:DS}(h:c δ=.ok false δ1):mX c u v δ=v δ1:=by unfold mX;rw[h,aW,Â à]
theorem aAC{f g:M D}{δ δ1:DS}(h:f δ=.ok (.bool true) δ1):r9 f g δ=g δ1:=by unfold r9;rw[h,aW];exact Á rfl
theorem aAD{f g:M D}{δ δ1:DS}(h:f δ=.ok (.bool false) δ1):r9 f g δ=.ok (.bool false) δ1:=by unfold r9;rw[h,aW];exact Â à
theorem nF{f:M Bool}{δ δ1:DS}{b:Bool}(h:f δ=.ok b δ1):pM f δ=.ok (!b) δ1:=by unfold pM;rw[h,aW]
theorem cX{i:Nat}{δ:DS}{d:D}(h:δ[i]?=some (some d)):bD i δ=.ok d δ:=by unfold bD;rw[h]
theorem hU:dC d δ=.ok d δ:=rfl
theorem uD{fn:ZI->Res D}{f:M D}{δ δ1:DS}{a c:D}{o:DS}(hf:f δ=.ok a δ1)(h:fn [a]=.ok c o):dR fn [.val f] δ=.ok c δ1:=by
 simp![dR,cG,hf,aW,dM,Option.map,h,aU,bS]
def TR(N B C:ZO)(R:D->ZO):Fl->ZO
 |.next,δ=>N δ
 |.brk,δ=>B δ
 |.cont,δ=>C δ
 |.ret d,δ=>R d δ
structure Wt{α:Type}(a:α):Type where
def bO(m:M Fl)(δ:DS)(N:ZO)(B C:ZO)(R:D->ZO)(_w:Wt (N,B,C,R):=⟨⟩):Prop:=match m δ with
 |.ok .next δ'=>N δ'
 |.ok .brk δ'=>B δ'
 |.ok .cont δ'=>C δ'
 |.ok (.ret d) δ'=>R d δ'
 |_=>False
def aV{α:Type}(f:M α)(δ:DS)(Q:α->ZO)(_w:Wt Q:=⟨⟩):Prop:=match f δ with
 |.ok a δ'=>Q a δ'
 |_=>False
section
variable {u:M Fl}{f k:M D}{δ δ1:DS}{N B C:ZO}{R:D->ZO}
theorem aV.of{f:M α}{a:α}{Q:α->ZO}(h:f δ=.ok a δ1)(q:Q a δ1):aV f δ Q:=by unfold aV;rw[h];exact q
theorem aV.ex{f:M α}{Q:α->ZO}(h:aV f δ Q):∃a δ1,f δ=.ok a δ1/\Q a δ1:=by
 unfold aV at h;cases e:f δ with
 |ok a δ1=>rw[e]at h;exact⟨a,δ1,rfl,h⟩
 |err x δ1=>rw[e]at h;exact h.elim
 |stuck=>rw[e]at h;exact h.elim
theorem bO.of{fl:Fl}(h:m δ=.ok fl δ1)(q:TR N B C R fl δ1):bO m δ N B C R:=by
 unfold bO;rw[h];cases fl<;>exact q
theorem bO.ex(h:bO m δ N B C R):∃fl δ1,m δ=.ok fl δ1/\TR N B C R fl δ1:=by
 unfold bO at h;cases e:m δ with
 |ok fl δ1=>rw[e]at h;exact⟨fl,δ1,rfl,by cases fl<;>exact h⟩
 |err x δ1=>rw[e]at h;exact h.elim
 |stuck=>rw[e]at h;exact h.elim
theorem TU(h:bO u δ (λδ1=>bO v δ1 N B C R) B C R):bO (dW u v) δ N B C R:=by
 let⟨fl,δ1,e,q⟩:=h.ex;cases fl with
 |next=>
  let⟨fl,δ2,e2,q⟩:=bO.ex q;exact .of ((ML e).trans e2) q
 |brk=>exact .of (fl:=.brk) (by unfold dW;rw[e];rfl) q
 |cont=>exact .of (fl:=.cont) (by unfold dW;rw[e];rfl) q
 |ret d=>exact .of (fl:=.ret d) (TM e) q
theorem aGC(h:aV f δ R):bO (t8 f) δ N B C R:=by
 let⟨d,δ1,e,q⟩:=h.ex;exact .of (fl:=.ret d) (MM e) q
theorem aJQ(h:aV c δ λb δ1=>if b=true then bO u δ1 N B C R else bO v δ1 N B C R):bO (mX c u v) δ N B C R:=by
 let⟨b,δ1,e,q⟩:=h.ex;cases b with
 |true=>
  rw[Á rfl]at q;let⟨fl,δ2,e2,q⟩:=q.ex;exact .of ((aGB e).trans e2) q
 |false=>
  rw[Â à]at q;let⟨fl,δ2,e2,q⟩:=q.ex;exact .of ((TQ e).trans e2) q
theorem aAE{set:D->DS->Option DS}(I:Nat->ZO){ds:ZI}(hs:∀(k:Nat)(d:D)(δ:DS),ds[k]?=some d->I k δ->∃δ1,set d δ=some δ1/\bO u δ1 (I (k+1)) N (I (k+1)) R)(hN:∀δ,I ds.length δ->N δ)(h0:I 0 δ):bO (fQ set u ds) δ N B C R:=by
 have main:∀(n k:Nat)(δ:DS),k+n=ds.length->I k δ->bO (fQ set u (ds.drop k)) δ N B C R:=by
  intro n
  induction n with
  |zero=>
   intro k δ hk h;have:k=ds.length:=by assumption
   subst this;rw[List.drop_length];exact .of (fl:=.next) rfl (hN δ h)
  |succ n ih=>
   intro k δ hk h;have hlt:k<ds.length:=by lia
   let⟨δ1,e1,w⟩:=hs k ds[k] δ (É hlt) h;let⟨fl,δ2,e2,q⟩:=w.ex;rw[ò hlt];cases fl with
   |next=>
    let⟨fl,δ3,e3,q⟩:=(ih (k+1) δ2 ∅ q).ex;exact .of (by unfold fQ;rw[e1];simp![e2,aW];exact e3) q
   |cont=>
    let⟨fl,δ3,e3,q⟩:=(ih (k+1) δ2 ∅ q).ex;exact .of (by unfold fQ;rw[e1];simp![e2,aW];exact e3) q
   |brk=>exact .of (fl:=.next) (by unfold fQ;rw[e1];simp![e2,aW]) q
   |ret d=>exact .of (fl:=.ret d) (by unfold fQ;rw[e1];simp![e2,aW]) q
 have:=main ds.length 0 δ (by exact Nat.add_comm _ _) h0
 rwa [List.drop_zero]at this
theorem dN{set:D->DS->Option DS}{f:M (ZI)}(I:Nat->ZO){ds:ZI}(hf:f δ=.ok ds δ1)(h0:I 0 δ1)(hs:∀(k:Nat)(d:D)(δ:DS),ds[k]?=some d->I k δ->∃δ1,set d δ=some δ1/\bO u δ1 (I (k+1)) N (I (k+1)) R)(hN:∀δ,I ds.length δ->N δ):bO (mV set f u) δ N B C R:=by
 let⟨fl,δ2,e,q⟩:=(aAE (B:=B) (C:=C) I hs hN h0).ex;exact .of (by unfold mV;rw[hf,aW];exact e) q
theorem TV{set:D->DS->Option DS}{j:Int}(I:Nat->ZO)(hf:f δ=.ok (.int j) δ1)(hj:-(2^62)<=j)(hj2:j<2^62)(h0:I 0 δ1)(hs:∀(k:Nat)(δ:DS),(k:Int)<j->I k δ->∃δ1,set (.int k) δ=some δ1/\bO u δ1 (I (k+1)) N (I (k+1)) R)(hN:∀δ,I j.toNat δ->N δ):bO (mV set (qI [f]) u) δ N B C R:=by
 refine dN (ds:=jI 0 j.toNat) (δ1:=δ1) I ?_ h0 (λk d δ hd hI=>?_) (λδ h=>hN δ (by rwa [fW]at h))
 .simp![qI,aY,hf,aW,kJ]
  rw[Á ⟨hj,hj2⟩]
 .obtain⟨hk,rfl⟩:=GL hd
  rw[Int.zero_add];exact hs k δ ∅ hI
theorem aR{os:ZI}(h:bO body (ds.map some++List.replicate (m0-ds.length) none) (λ_=>False) (λ_=>False) (λ_=>False) λr δ=>r=d/\fX δ ps=some os):aP m0 ps rm body ds=.ok d (os.map some):=by
 let⟨fl,δ1,e,q⟩:=h.ex;cases fl with
 |ret r=>
  let⟨rfl,ho⟩:=q;unfold aP;rw[e];dsimp only;rw[ho]
 |next=>exact q.elim
 |brk=>exact q.elim
 |cont=>exact q.elim
end
end L2
namespace L2
open PySem PySem.Spec PyProof.Rows
section
variable {X:Cx}{Z:b8}{ow:ZH}{h k:M D}{F H:Hp}{σ:St}{δ:DS}{K:ZC}
def KH:M Fl:=λ_=>.stuck
def ţ(set:D->DS->Option DS)(f:M D):M Fl:=λδ=>(f δ).bind λd δ1=>match set d δ1 with
 |some δ2=>.ok .next δ2
 |none=>.stuck
theorem bK.int_at:∀{ns:ZK}{us:ZJ}{i:Nat}{u:Value},bK (ns.map V.int) us->us[i]?=some u->∃m t,ns[i]?=some m/\u=.int m t
 |[],_,i,u,.nil,h=>by simp at h
 |m::ns,_,0,u,.cons r rr,h=>by
  let⟨t,rfl⟩:=r;cases h;exact⟨m,t,rfl,rfl⟩
 |m::ns,_,i+1,u,.cons r rr,h=>by
  let⟨m',t,h1,h2⟩:=bK.int_at (i:=i) rr (by simpa using h);exact⟨m',t,by simpa using h1,h2⟩
theorem vI{ns:ZK}:∀{j:Nat},j<=ns.length->preSum (λi=>ns.getD i 0) j=(ns.take j).sum
 |0,_=>rfl
 |j+1,h=>by
  show preSum (λi=>ns.getD i 0) j+ns.getD j 0=_;have e1:ns.getD j 0=ns[j]:=by rw[Ê,É (by assumption)];rfl
  have e2:ns.take (j+1)=ns.take j++[ns[j]]:=by rw[List.take_add_one,É (by assumption)];rfl
  rw[vI (Nat.le_of_succ_le h),e1,e2,List.sum_append];simp![List.sum_cons,List.sum_nil,Int.add_zero]
theorem DP(hc:X.calm=true):iM X (.builtin "sum") (λxs H Q=>∃(p:Addr)(ns:ZK),xs=[.ref p]/\eJ X.K H p (ns.map V.int)/\Q (.int ns.sum) H):=by
 intro U s σ H xs us Q I r h;let⟨p,ns,rfl,hq,q⟩:=h;let⟨u,rfl,rx⟩:=pG r;cases rx;let⟨its,rv,pl,hz⟩:=I.list hq;refine call_sum_walkAnyS (wpAny_pyIter_list pl.isList ?_);have hlen:=rv.length;rw[Ä]at hlen;have hne:p≠s.heap.objs.size:=by
  let⟨o,n,e,_⟩:=pl;exact Ì (Heap.lt_size e)
 have ph:Inv X U σ H {s with heap:=s.heap.push {cls:=.type "list_iterator",data:=.fields #[.ref p,.int 0 0]}}:=I.kept (t':=s.toks) λb o e=>Heap.get?_push_of_some _ e;let⟨its',rv',pl',_⟩:=ph.list hq;have e1:its=its':=by
  let⟨o,n,e,c,dn,d⟩:=pl;let⟨o',n',e',c',dn',d'⟩:=pl';have e'':=Heap.get?_push_of_some {cls:=.type "list_iterator",data:=.fields #[.ref p,.int 0 0]} e;rw[e'']at e';cases e';rw[d]at d';injection d' with d1 _;simpa using congrArg Array.toList d1
 subst e1;refine⟨s.heap.objs.size,_,_,_,_,_,_,λi=>ns.getD i 0,rfl,(Walks.list (A:=X.A.in1) (show X.A.in1.handled=none from I.ok.hd hc) s.heap.objs.size p hne its.toArray).toS,⟨⟨_,Heap.get?_push_size _ rfl,rfl,rfl⟩,pl'.isList⟩,λb hb=>?_,λi v hv=>?_,λs' t' mv=>?_⟩
 .have hb:b∈[s.heap.objs.size,p]:=hb
  have z:(s.heap.push {cls:=.type "list_iterator",data:=.fields #[.ref p,.int 0 0]}).objs.size=s.heap.objs.size+1:=by simp[Heap.push]
  show b<(s.heap.push _).objs.size;rw[z];simp![Í,Ý,or_false]at hb;rcases hb with rfl|rfl
  .exact ë _
  .obtain⟨o,n,e,_⟩:=pl
   exact Nat.lt_succ_of_lt (Heap.lt_size e)
 .have hv:its.toArray[i]?=some v:=hv
  let⟨m,t,hb,rfl⟩:=bK.int_at (i:=i) rv (by simpa using hv);refine⟨t,?_⟩;show _=Value.int (ns.getD i 0) t;rw[Ê,hb];rfl
 .have sz:its.toArray.size=ns.length:=by simp;exact Eq.symm ‹_›
  rw[sz,vI (Ç _),List.take_length];let⟨h',g',d',t2,o'⟩:=s';obtain rfl:g'=s.gens:=mv.gens;obtain rfl:d'=s.drawn:=mv.drawn;obtain rfl:o'=s.os:=mv.os;have I2:=ph.turned (it:=s.heap.objs.size) (h':=h') (t':=t2) (λb o hb e=>mv.heap b o (by simpa using hb) e) (I.hok.fresh (Ç _)) (Ü I.lt) (.inr I.sz) (λx c e=>by
   let⟨v,q⟩:=I.cell x c e;exact Ì q.lt) λp hp=>Ì (Heap.lt_size (I.pin p hp).1)
  exact⟨.int _,H,I2,⟨t',rfl⟩,q⟩
def cQ:ZI->Option (ZK)
 |[]=>some []
 |.int i::r=>(cQ r).map (i::·)
 |_=>none
theorem i5:cQ (l.map .int)=some l:=by
 induction l with
 |nil=>rfl
 |cons a l ih=>show (cQ (l.map .int)).map (a::·)=_;rw[ih];rfl
theorem i6:∀{ds:ZI}{bs:ZK}{vs:List V},cQ ds=some bs->aD K F ds vs->vs=bs.map V.int
 |[],bs,vs,h,r=>by
  cases h;unfold aD at r;rw[r];rfl
 |d::ds,bs,vs,h,r=>by
  unfold aD at r;let⟨x,rest,rfl,rx,r⟩:=r;cases d with
  |int b=>
   have h:(cQ ds).map (b::·)=some bs:=h;cases e:cQ ds with
   |none=>rw[e]at h;cases h
   |some bs'=>
    rw[e]at h;cases h;rw[iF rx,i6 e r];rfl
  |_=>cases h
def Ļ:ZI->ZL
 |[.list ds]=>(cQ ds).map λbs=>.int bs.sum
 |_=>none
theorem aGE:Ė X (λxs H Q=>∃(p:Addr)(ns:ZK),xs=[.ref p]/\eJ X.K H p (ns.map V.int)/\Q (.int ns.sum) H) 0 Ļ:=λZ ow F H σ δ ds vs d Q S R ra e q=>by
 unfold Ļ at e;split at e
 .rename_i ds'
  cases e1:cQ ds' with
  |none=>rw[e1]at e;cases e
  |some bs=>
   rw[e1]at e;cases e;let⟨v,rfl,r⟩:=AH ra;let⟨p,xs,rfl,hp,hr⟩:=kP r;rw[i6 e1 hr]at hp;exact⟨p,bs,rfl,R.sub.seq hp,q _ H F (R.x gM) (aI.refl _)⟩
 .cases e
def JN:D->Option V
 |.int i=>some (.int i)
 |.bool b=>some (.bl b)
 |.str z=>some (.str z)
 |.none=>some .non
 |_=>none
def KI:ZI->Option (List V)
 |[]=>some []
 |d::ds=>match JN d,KI ds with
  |some v,some vs=>some (v::vs)
  |_,_=>none
theorem v3(h:JN d=some v)(r:bI K F d x):x=v/\pJ v=true:=by
 cases d with
 |int i=>cases h;exact⟨iF r,rfl⟩
 |bool b=>cases h;exact⟨mU r,rfl⟩
 |str z=>cases h;exact⟨j4 r,rfl⟩
 |none=>cases h;unfold bI at r;exact⟨r,rfl⟩
 |_=>cases h
theorem xC:∀{ds:ZI}{vs xs:List V},KI ds=some vs->aD K F ds xs->xs=vs/\vs.all pJ=true
 |[],vs,xs,h,r=>by
  cases h;unfold aD at r;exact⟨r,rfl⟩
 |d::ds,vs,xs,h,r=>by
  unfold aD at r;let⟨x,rest,rfl,rx,r⟩:=r;unfold KI at h;split at h
  .rename_i v vs' e1 e2
   cases h;let⟨rfl,f1⟩:=v3 e1 rx;let⟨rfl,f2⟩:=xC e2 r;exact⟨rfl,by rw[List.all_cons,f1,f2];rfl⟩
  .cases h
def ę(neg:Bool):D->D->ZL
 |a,.list ds=>match JN a,KI ds with
  |some x,some xs=>some (.bool (if neg then !Ĕ x xs else Ĕ x xs))
  |_,_=>none
 |a,.tuple ds=>match JN a,KI ds with
  |some x,some xs=>some (.bool (if neg then !Ĕ x xs else Ĕ x xs))
  |_,_=>none
 |_,_=>none
theorem aGF:oG X (Β X.K neg) 0 (ę neg):=λZ ow F H σ δ a b x y d Q S R ra rb e q=>by
 unfold ę at e;split at e
 .split at e
  .rename_i v vs e1 e2
   cases e;let⟨p,xs,rfl,hp,hr⟩:=kP rb;let⟨rfl,f1⟩:=v3 e1 ra;let⟨rfl,f2⟩:=xC e2 hr;exact⟨p,_,rfl,.inl (R.sub.seq hp),f1,f2,q _ H F (R.x jJ) (aI.refl _)⟩
  .cases e
 .split at e
  .rename_i v vs e1 e2
   cases e;let⟨p,xs,rfl,hp,hr⟩:=C7 rb;let⟨rfl,f1⟩:=v3 e1 ra;let⟨rfl,f2⟩:=xC e2 hr;exact⟨p,_,rfl,.inr (R.sub.seqT hp),f1,f2,q _ H F (R.x jJ) (aI.refl _)⟩
  .cases e
 .cases e
theorem xD{k:Nat}(S:aO Z ow):∀(is:ZH)(t:RP),(∀i∈is,i<k/\i∉Z.ps/\i<ow.length/\ow.getD i 0=0)->t=is.foldr (λi u=>FJ (pE i) u) RQ ->
  ∀(F H:Hp)(σ:St)(δ δ':DS)(ds:ZI)(vs:List V)(Q:St->Hp->Prop),cP X.K Z ow F H σ δ->aD X.K F ds vs->ds.length=is.length ->
   (is.zip ds).foldl (λ(o:Option DS)(p:Nat×D)=>o.bind λδ=>eK p.1 p.2 δ) (some δ)=some δ'->(∀σ',cP X.K Z ow F H σ' δ'->σ'.length=σ.length->δ'.length=δ.length->(∀i,σ'[i+k]?=σ[i+k]?)->Q σ' H)->t vs σ H Q
 |[],t,hi,ht,F,H,σ,δ,δ',ds,vs,Q,R,ra,hl,e,q=>by
  subst ht;cases ds with
  |cons _ _=>simp at hl
  |nil=>
   unfold aD at ra;cases e;exact⟨ra,q σ R rfl rfl λ_=>rfl⟩
 |i::is,t,hi,ht,F,H,σ,δ,δ',ds,vs,Q,R,ra,hl,e,q=>by
  subst ht;cases ds with
  |nil=>simp at hl
  |cons d ds=>
   unfold aD at ra;let⟨x,rest,rfl,rx,r⟩:=ra;rw[á,List.foldl_cons]at e;cases e1:eK i d δ with
   |none=>
    rw[show ((some δ:Option DS).bind λδ=>eK (i,d).1 (i,d).2 δ)=none from e1]at e;have:∀l:List (Nat×D),l.foldl (λ(o:Option DS)(p:Nat×D)=>o.bind λδ=>eK p.1 p.2 δ) none=none:=λl=>by induction l with|nil=>rfl|cons a l ih=>exact ih
    rw[this]at e;cases e
   |some δ1=>
    rw[show ((some δ:Option DS).bind λδ=>eK (i,d).1 (i,d).2 δ)=some δ1 from e1]at e;let⟨h0,h1,h2,h3⟩:=hi i Ó;refine⟨x,rest,rfl,kQ S h0 h1 h2 h3 F H σ δ δ1 d x _ R rx e1 λσ' R' l1 l2 l3=>?_⟩;exact xD S is _ (λj hj=>hi j (Ï _ hj)) rfl F H σ' δ1 δ' ds rest Q R' r (by simpa using hl) e λσ2 R2 m1 m2 m3=>q σ2 R2 (m1.trans l1) (m2.trans l2) λj=>(m3 j).trans (l3 j)
theorem sE{k:Nat}(S:aO Z ow)(hi:∀i∈is,i<k/\i∉Z.ps/\i<ow.length/\ow.getD i 0=0)(ht:t=is.foldr (λi u=>FJ (pE i) u) RQ):YM X Z ow k (Ŏ X.K is.length t) (t9 is):=λF H σ δ δ' d v Q R r e q=>by
 unfold t9 at e;cases d with
 |tuple ds=>
  dsimp only at e;split at e
  .rename_i hl
   unfold bI at r;let⟨a,xs,rfl,hq,ra⟩:=r;exact⟨a,xs,rfl,R.sub.seqT hq,by rw[<- ra.len];exact hl,xD S is t hi ht F H σ δ δ' ds xs Q R ra hl e q⟩
  .cases e
 |_=>cases e
end
section
def aOJ:ZI->ZI->Option (D×ZI)
 |ds,[.int i,d]=>if 0<=i/\i<2^62/\ds.length<sizeLine then some (.none,ds.take i.toNat++[d]++ds.drop i.toNat)else none
 |_,_=>none
theorem DQ(l:Addr)(items:Array Value)(n:Nat)(b:Addr)(fM:Array Value)(n2:Nat)(sl2:Array (ZN))(hc0:¬(!items.isEmpty && Builtin.List.listTooLong (items.size+fM.size))=true)(hc1:items.size<=sizeLine)(hs2:items.size+fM.size<=sizeLine+1):
  Meets (Builtin.«list.extend» ⟨[.ref l,.ref b],[]⟩) (λ_ R s=>s.heap.get? l=some {cls:=.type "list",dict:=none,data:=.seq items n,slots:=#[]}/\s.heap.get? b=some ⟨.type "list",none,.seq fM n2,sl2⟩/\R (.ok (.ret Value.none)) {s with heap:=s.heap.update l (Obj.mapSeq λx=>x++fM),toks:=s.toks}):=
 .of_wp λprog w A R s h=>by
  let⟨hp,g,d,tk,os⟩:=s;let⟨hl,hb,h⟩:=h;have f1:=PySem.AutoSeq1.idx_int;have f2:=PySem.AutoSeq1.sub_tuple_tuple;have f3:=PySem.AutoSeq1.sub_list_list;have f4:=PySem.AutoSeq1.sub_tuple_list;have f5:=PySem.AutoSeq1.sub_list_tuple;have hz':(items++fM).size<=sizeLine+1:=by rw[Array.size_append];exact hs2
  wp_walk using (wpAny_updateSeq hl rfl (hz:=hc1) (_hz':=hz')),PySem.AutoSeq1.wpAny_loadPart' hl,PySem.AutoSeq1.wpAny_loadPart' hb
  exact⟨_,rfl,h⟩
def Μ(K:ZC):V->List V->Hp->VK->Prop:=λx vs H Q=>∃l b xs zs,x=.ref l/\vs=[.ref b]/\H l=some (.lst xs)/\eJ K H b zs/\xs.length+zs.length<=sizeLine/\Q .non (aX H l (.lst (xs++zs)))
theorem l5:Ř X "list.extend" (Μ X.K):=by
 intro U s σ H x vs v us Q I rx rv h;let⟨l,b,xs,zs,rfl,rfl,hH,hB,hz,q⟩:=h;cases rx;let⟨u,rfl,ru⟩:=rv.one;cases ru;let⟨z,its,n,r,hl,e⟩:=I.lstM hH;let⟨its2,r2,⟨o2,n2,e2,c2,dn2,dd2⟩,z2⟩:=I.list hB;let⟨oc2,od2,oda2,osl2⟩:=o2;cases c2;cases dn2;cases dd2;have hl2:=r2.length;have hsz:its.toArray.size+its2.toArray.size<=sizeLine:=by rw[í,í];lia
 have hlong:¬(!its.toArray.isEmpty && Builtin.List.listTooLong (its.toArray.size+its2.toArray.size))=true:=by
  rw[SH hsz,Bool.and_false];exact à
 refine call_meets F.slot_list_extend ⟨_,e,rfl⟩ F.entry_list_extend (F.args_list_extend_2 _ _)
  (DQ l its.toArray n b its2.toArray n2 osl2 hlong (by rw[í];lia) (by exact Nat.le_succ_of_le ‹_›)) ⟨e,e2,?_⟩
 refine⟨.non,_,I.lset (its':=its++its2) hH e 'e' (r.append r2) ?_,rfl,q⟩;rw[Ë];assumption
def TW:ZI->ZI->Option (D×ZI)
 |ds,[.list zs]=>if ds.length+zs.length<=sizeLine then some (.none,ds++zs)else none
 |_,_=>none
theorem fO:GE X (Μ X.K) TW:=λF H l xs vs ds args ret ds' hl hs h1 h2 e=>by
 unfold TW at e;split at e
 .rename_i zs
  split at e
  .rename_i hlt
   cases e;let⟨v,rfl,r⟩:=AH h2;let⟨p,ys,rfl,hp,hr⟩:=kP r;exact⟨xs++ys,.non,h1.app hr,C3,λQ q=>⟨l,p,xs,ys,rfl,rfl,hl,hs.seq hp,by rw[<- h1.len,<- hr.len];exact hlt,q⟩⟩
  .cases e
 .cases e
end
section
variable {X:Cx}{Z:b8}{ow ol ox:ZH}{rm:Nat}{pos pos' p1 p2:Pos}{e:Expr}{x y:Str}{f:M (ZI)}{u:M Fl}{sts:List Stmt}
theorem f7(i:Nat)(hN:X.N.Nodup)(hi:DI X Z ow (.Name x pos') e f)(hb:AF X Z ow ow ow ox rm sts u)(hp:PassesOwn 'b' X.A X.env X.xe:=by exact PassesOwn.leaving)(hc:↥(X.calm=true))(hx:↥(X.N[i]?=some x))(hl:#v[Ē X.env.scope x])(hfn:#v[X.fn x=true\/X.env.scope.names.lookup x=some .local])(ok:↥((decide (ow.length<=1000) && !Z.ps.contains 1000 && !Z.ps.contains i && decide (i<ow.length) && (ow.getD i 0 == 0))=true))(hf: ~~~(Zfi e X.env)):AE X Z ow ow ol ox rm (.For (.Name x pos') e sts [] pos) (mV (eK i) f u):=by
 simp![ä,Bool.not_eq_true',decide_eq_true_eq,beq_iff_eq]at ok;exact MI hp hc hi (cW hN hx hl hfn) (MB ⟨ok.1.1.1.1,dE ok.1.1.1.2⟩ (dE ok.1.1.2) ok.1.2 ok.2) hb hf
theorem eI(i j:Nat)(hN:X.N.Nodup)(hi:DI X Z ow (.Tuple [.Name x p1,.Name y p2] k pos') e f)(hb:AF X Z ow ow ow ox rm sts u)(hp:PassesOwn 'b' X.A X.env X.xe:=by exact PassesOwn.leaving)(hc:↥(X.calm=true))(hx:↥(X.N[i]?=some x))(hy:↥(X.N[j]?=some y))(hl:#v[Ē X.env.scope x])(hm:#v[Ē X.env.scope y])(hfn:#v[X.fn x=true\/X.env.scope.names.lookup x=some .local])(hfm:#v[X.fn y=true\/X.env.scope.names.lookup y=some .local])(ok:↥((decide (ow.length<=1000) && !Z.ps.contains 1000 && [i,j].all λi=>!Z.ps.contains i && decide (i<ow.length) && (ow.getD i 0 == 0))=true))(hf: ~~~(Zfi e X.env)):AE X Z ow ow ol ox rm (.For (.Tuple [.Name x p1,.Name y p2] k pos') e sts [] pos) (mV (t9 [i,j]) f u):=by
 simp![ä,Bool.not_eq_true',decide_eq_true_eq,beq_iff_eq,è]at ok;exact MI hp hc hi (tW hc (dY (cW hN hx hl hfn) (dY (cW hN hy hm hfm) n9))) (aFU (is:=[i,j]) ⟨ok.1.1,dE ok.1.2⟩ (λi hi=>⟨dE (ok.2 i hi).1.1,(ok.2 i hi).1.2,(ok.2 i hi).2⟩) rfl) hb hf
end
section
variable {X:Cx}{Z:b8}{ow ol ox:ZH}{rm:Nat}{pos p1:Pos}{elt iter:Expr}{ifs:List Expr}{scope:Scope}{x:Str}{fi:M (ZI)}{t:M Bool}{fe:M D}
abbrev ļ(Z:b8)(ow:ZH)(n:Nat):Bool:=decide (ow.length<=1000) && !Z.ps.contains 1000 && decide ((List.replicate n 0++ow).length<=1000) && !(Z.sh n).ps.contains 1000 && (List.range n).all λi=>!(Z.sh n).ps.contains i
theorem f8(x:Str)(hi:DI X Z ow (.Name x p1) iter fi)(hif:∀C fp s H,O7 (aQ X [x] scope C fp s H) ifs (tT (aQ X [x] scope C fp s H) (Z.sh 1) (List.replicate 1 0++ow) t))(he:∀C fp s H,DE (aQ X [x] scope C fp s H) (Z.sh 1) (List.replicate 1 0++ow) 0 elt fe)(nd:↥(decide ([x]++m6 [x] X.N).Nodup=true))(hc:↥(X.calm=true))(ok:↥(ļ Z ow 1=true))(hl:∀C fp s H,(aQ X [x] scope C fp s H).env.scope.names.lookup x=some .local:=by intro _ _ _ _;rfl)(hk:↥(scope.kind=.function))(hok:↥(dJ X.N [x] scope.names X.env.scope.names=true))(hfs: ~~~(Zfi iter X.env)):
  DE X Z ow 1 (.ListComp elt [⟨.Name x p1,iter,ifs,0⟩] scope pos) (dZ 1 (eK 0) fi t fe):=by
 simp![ļ,ä,Bool.not_eq_true',decide_eq_true_eq,è,List.mem_range]at ok;exact sC (xs:=[x]) ⟨ok.1.1.1.1,dE ok.1.1.1.2⟩ ⟨ok.1.1.2,dE ok.1.2⟩ hc hi (λC fp s H=>cW (i:=0) (of_decide_eq_true nd) rfl (Or.inl (hl C fp s H)) (Or.inr (hl C fp s H))) (kQ ⟨ok.1.1.2,dE ok.1.2⟩ (Ă _) (dE (ok.2 0 ⋯)) (Ă _) rfl) hif he hk hok hfs
theorem dX(i:Nat)(x:Str){z:Str}{pos' spos:Pos}(hN:X.N.Nodup)(hi:DI X Z ow (.Name x p1) iter fi)(hif:∀C fp s H,O7 (aQ X [x] scope C fp s H) ifs (tT (aQ X [x] scope C fp s H) (Z.sh 1) (List.replicate 1 0++ow) t))(he:∀C fp s H,DE (aQ X [x] scope C fp s H) (Z.sh 1) (List.replicate 1 0++ow) 0 elt fe)(nd:↥(decide ([x]++m6 [x] X.N).Nodup=true))(hc:↥(X.calm=true))(ok:↥(ļ Z ow 1=true))(hl:∀C fp s H,(aQ X [x] scope C fp s H).env.scope.names.lookup x=some .local:=by intro _ _ _ _;rfl)(hx:↥(X.N[i]?=some z))(hz:↥(X.env.scope.names.lookup z=some .local))(hps:↥(Z.ps.contains i=false))(hlo:⇑(i<ow.length))(hsw:↥(swapsWith (.ListComp elt [⟨.Name x p1,iter,ifs,0⟩] scope pos) (some (.Name z pos')) spos.line X.env=pure true))(hk:↥(scope.kind=.function))(hok:↥(dJ X.N [x] scope.names X.env.scope.names=true))(hfs: ~~~(Zfi iter X.env)):
  AE X Z ow (ow.set i 1) ol ox rm (.Assign [.Name z pos'] (.ListComp elt [⟨.Name x p1,iter,ifs,0⟩] scope pos) spos) (fL i (dZ 1 (eK 0) fi t fe)):=by
 simp![ļ,ä,Bool.not_eq_true',decide_eq_true_eq,è,List.mem_range]at ok;exact lY i (xs:=[x]) ⟨ok.1.1.1.1,dE ok.1.1.1.2⟩ ⟨ok.1.1.2,dE ok.1.2⟩ hc hN hi (λC fp s H=>cW (i:=0) (of_decide_eq_true nd) rfl (Or.inl (hl C fp s H)) (Or.inr (hl C fp s H))) (kQ ⟨ok.1.1.2,dE ok.1.2⟩ (Ă _) (dE (ok.2 0 ⋯)) (Ă _) rfl) hif he hx hz hps hlo hsw hk hok hfs
end
section
variable {K:ZC}{X:Cx}{Z:b8}{ow:ZH}{n:Nat}{pos:Pos}{F H H':Hp}{σ:St}{δ:DS}{g:ZP}
def FA(g:ZP)(F H:Hp):Hp:=λb=>open Classical in if ∃l,g b=some l then (if F b=none then H b else F b)else F b
theorem GM:aI F (FA g F H):=λb o e=>by
 unfold FA;split
 .rw[Â (by rw[e];simp)];exact e
 .exact e
theorem aAG(hs:aI F H):aI (FA g F H) H:=λb o e=>by
 unfold FA at e;split at e
 .split at e
  .exact e
  .exact hs b o e
 .exact hs b o e
theorem aZ.freezeA(r:aZ K F H g i n p d v):bI K (FA g F H) d v:=
 iQ.froze GM (λa p o e1 e2 e3=>by unfold FA;rw[Á ⟨_,e1⟩,Á e3];exact e2) r
theorem cI.grow(R:cI K Z ow g F H σ δ)(h:aI H H'):cI K Z ow g F H' σ δ:=
 ⟨R.sub.trans' h,R.f0,λb o n e=>h b o (R.kept b o n e),R.new,λb z=>by
  cases e:H b with
  |none=>exact absurd e (R.there b z)
  |some o=>rw[h b o e];simp,R.lab,R.len,R.par,λi d e=>by
  let⟨v,e1,o⟩:=R.slot i d e;exact⟨v,e1,o.mono (λ_ _ z=>z) (λ_ _ _ z=>z) (λ_ _ _ _ z=>z) λa l ob _ _ z=>h a ob z⟩⟩
theorem GN(h:JN d=some x)(r:bI K F d v):bI K F' d v:=by
 let⟨rfl,_⟩:=v3 h r;cases d with
 |int i=>cases h;exact gM
 |bool b=>cases h;exact jJ
 |str z=>cases h;exact ME
 |none=>cases h;exact C3
 |_=>cases h
def fD(F H:Hp)(σ:St)(m:Nat):b8:=⟨F,H,λ_=>none,[],σ,List.replicate m 0,λ_ _ _ e=>by cases e⟩
theorem l6:'g'.getD i 0=0:=by
 rw[Ê,ă];split<;>rfl
theorem cI.bor(R:cI K Z ow g F H σ δ):cP K (fD (FA g F H) H σ m) 'g' (FA g F H) H σ δ:=
 ⟨λ_=>none,aAG R.sub,⟨R.f0.lm.mono GM,λ_ _ z=>z⟩,λ_ _ _ e=>e,λ_ h _=>h,λ_ h=>h,λ_ _ _ e=>(by cases e),R.len,λi hi=>(by cases hi),λi d e=>by
  let⟨v,e1,o⟩:=R.slot i d e;refine⟨v,e1,?_⟩;rw[l6];exact o.freezeA⟩
def PN(f:M D):M D:=λδ=>match f δ with
 |.ok d _=>(match JN d with|some _=>.ok d δ|none=>.stuck)
 |_=>.stuck
def MN(f:M Bool):M Bool:=λδ=>match f δ with
 |.ok b _=>.ok b δ
 |_=>.stuck
theorem uE(m:Nat)(h:∀F H σ,DE X (fD F H σ m) 'g' 0 e f):DE X Z ow 0 e (PN f):=λU s σ H Q I q=>by
 let⟨F,δ,⟨g,R⟩,q⟩:=q;unfold PN at q;refine h (FA g F H) H σ U s σ H Q I ⟨FA g F H,δ,R.bor,?_⟩;cases e1:f δ with
 |stuck=>rw[e1]at q;exact q.elim
 |err x δ1=>rw[e1]at q;exact q.elim
 |ok d δ1=>
  rw[e1]at q;dsimp only at q;cases e2:JN d with
  |none=>rw[e2]at q;exact q.elim
  |some x=>
   rw[e2]at q;rintro v H' F' ⟨g',R',o⟩ s';exact q v H' F ⟨g,R.grow λb o e=>R'.kept b o rfl e,GN e2 o⟩ λ_ _ z=>z
theorem aGG(m:Nat)(h:∀F H σ,DT X (fD F H σ m) 'g' e f):DT X Z ow e (MN f):=λU s σ H Q I q=>by
 let⟨F,δ,⟨g,R⟩,q⟩:=q;unfold MN at q;refine h (FA g F H) H σ U s σ H Q I ⟨FA g F H,δ,R.bor,?_⟩;cases e1:f δ with
 |stuck=>rw[e1]at q;exact q.elim
 |err x δ1=>rw[e1]at q;exact q.elim
 |ok d δ1=>
  rw[e1]at q;rintro H' F' ⟨g',R'⟩ s';exact q H' F ⟨g,R.grow λb o e=>R'.kept b o rfl e⟩ λ_ _ z=>z
def Ľ(i:Nat)(lo hi:Option (M D)):M D:=λδ=>match δ[i]? with
 |some (some _)=>(j6 lo δ).bind λl δ1=>(j6 hi δ1).bind λu δ2=>(match δ2[i]? with
  |some (some (.list ds))=>.ok (.list (AI ds l u)) δ2
  |_=>.stuck)
 |_=>.stuck
theorem TX(i:Nat){x:Str}{p p2:Pos}{lo hi:Option Expr}(S:aO Z ow)(hl:DO X Z ow lo fl)(hu:DO X Z ow hi fh)(ho:↥(ow.getD i 0=1))(hN:↥(X.N[i]?=some x))(hv:#v[CH X.env.scope x])(hd:⇑(Zdb x))(hcd:⇑(Zcd x)):
  DE X Z ow 1 (.Subscript 'i' (.Slice lo hi none p2) pos) (Ľ i fl fh):=PE.mono (FO jN (eD hN hv hd hcd) hl hu) λσ H Q q=>by
 let⟨F,δ,R,q⟩:=q;unfold Ľ at q;cases e0:δ[i]? with
 |none=>rw[e0]at q;exact q.elim
 |some o=>
  cases o with
  |none=>rw[e0]at q;exact q.elim
  |some d0=>
   rw[e0]at q;dsimp only at q;let⟨a,ds0,vs0,q1,q2,q3,q4⟩:=R.ownAt ho e0;refine⟨_,q2,F,δ,R,?_⟩;cases e1:j6 fl δ with
   |stuck=>rw[e1]at q;exact q.elim
   |err y δ2=>rw[e1]at q;exact q
   |ok l δ1=>
    rw[e1]at q;simp![Res.bind]at q;intro H1 F1 R1 s1;refine⟨F1,δ1,R1,?_⟩;cases e2:j6 fh δ1 with
    |stuck=>rw[e2]at q;exact q.elim
    |err y δ2=>rw[e2]at q;exact iV.mono q s1
    |ok u δ2=>
     rw[e2]at q;simp![Res.bind]at q;intro H2 F2 R2 s2;cases e3:δ2[i]? with
     |none=>rw[e3]at q;exact q.elim
     |some o=>
      cases o with
      |none=>rw[e3]at q;exact q.elim
      |some d1=>
       rw[e3]at q;let⟨a',ds1,vs1,p1,p2,p3,p4⟩:=R2.ownAt ho e3;rw[q2]at p2;cases p2;subst p1;exact⟨a,vs1,rfl,eJ.of p3,λt ht=>q _ _ F2 (R2.newList S ht (p4.cut l u)) (s1.trans' s2)⟩
end
theorem PP{K:ZC}(X:K.In h)(q:W.excIn K C bmB newId=true):
  ∃bm N nm q bs hdct sn sub ab col dd k0 k1 k2 k3 k5 mN,h.get? C=some (excClassObj nm q C N bs bm hdct sn sub ab col dd k0 k1 k2 k3 k5 newId)/\h.Ns N mN/\mN "__init__"=none/\OwnTail h bmB bm:=by
 unfold W.excIn at q;split at q
 .rename_i dd cd sl ho
  split at q
  .rename_i C' bm k0 k1 k2 k3 n k5 hm hs
   simp![ä,beq_iff_eq,Bool.not_eq_true']at q;let⟨⟨⟨⟨⟨rfl,rfl⟩,hdel⟩,ht⟩,hok⟩,hni⟩:=q;let⟨nm,bs,mro,ns,qn,hd,sn,sub,ab,col,del⟩:=cd;dsimp only at hm hdel hok hni;subst hm hdel;have hsl:sl=#[k0,k1,k2,k3,some (.builtin n),k5]:=by
    let⟨l⟩:=sl;simp only at hs;rw[hs]
   subst hsl;exact⟨bm,ns,nm,qn,bs,hd,sn,sub,ab,col,dd,k0,k1,k2,k3,k5,_,X _ _ ho,.of_isNs (W.isNs_of_in X hok),W.nsMap_none_of_in X hok hni,W.tail_of_in X ht⟩
  .cases q
 .cases q
section
variable {X:Cx}{Z:b8}{ow ow' ol ox:ZH}{rm:Nat}{pos np cpos:Pos}{e:Expr}{es:List Expr}{x:Str}{C:Addr}{B newId initId:String}{bmB:ZJ}{fs:List (M D)}
def j7(x:Str)(fs:List (M D)):M Fl:=λδ=>(aY fs δ).bind λds δ1=>if ds.length<=1000 then .err (.str x) δ1 else .stuck
theorem f9(S:aO Z ow)(FB:ExcBaseFacts B newId initId bmB)(hg:Gl X x)(hns:W.nsIn X.K mainGlobals x=some (some (.ref C)))(hmg:X.mg x=some (.ref C))(hC:W.excIn X.K C bmB newId=true)(hc:X.calm=true)(ha:DV X Z ow (e::es) fs)(hz:↥(YK Z=true))(hdb:⇑(Zdb x))(he:↥(Zse e es X.env))(hpl:↥(Zbt cpos es X.env)):
  AE X Z ow ow' ol ox rm (.Raise (some (.Call (.Name x np) (e::es) [] cpos)) none pos) (j7 x fs):=λU s σ H Dn I h=>by
 let⟨F,δ,R,h⟩:=h;unfold j7 at h;let⟨tl,N,nm,q,bs,hdct,sn,sub,ab,col,dd,k0,k1,k2,k3,k5,mN,hC0,hN,hni,T⟩:=PP I.ok.mod.kin hC;refine wpAny_Raise_call_subT (C:=C) (nm:=nm) (q:=q) (N:=N) (bs:=bs) (bm:=tl) (hdct:=hdct) (sn:=sn) (sub:=sub) (ab:=ab) (col:=col) (dd:=dd) (k0:=k0) (k1:=k1) (k2:=k2) (k3:=k3) (k5:=k5)
  FB (mN:=mN) (T.hasType FB.hasBase) (I.ok.hd hc) (by rw[he];show (false || (backTo cpos (starEach es X.env)).any (·.1))=false;rw[hpl];rfl) hni (rJ I hg hmg ⟨rfl,?_⟩ hdb)
 have hA:=ha cpos U s σ H (λvs H1=>vs.length<=1000/\∃F1 δ1,cP X.K Z ow F1 H1 σ δ1/\iV X Z ox F1 (.str x) δ1) I ⟨F,δ,R,?_⟩
 .rw[he]at hA⊢
  refine Calls.evalArgs_plain (wpAny_mono hA (λus s₂ h₂=>?_) λ_ _ y=>y);let⟨vs,H1,I1,r,hl,F1,δ1,R1,xo⟩:=h₂;refine⟨rfl,?_,I1.bk _ _ hC0,hN.keeps I1.bk,T.keeps I1.bk,λh' ea m=>?_⟩
  .show us.length<=sizeLine
   rw[<- r.length];exact Ø hl ⋯
  .obtain⟨t,q1,q2,q3⟩:=m.there
   have I2:Inv X U σ H1 {s₂ with heap:=h'}:=I1.kept (t':=s₂.toks) m.keeps;let⟨F2,s2,R2⟩:=R1.toP hz;refine xo.out U _ _ ⟨x,H1,F2,σ,rfl,I2,R2,s2,ea,.ref C,[ea],rfl,hns,⟨_,_,q1,⟨rfl,rfl⟩,rfl,(by show 1<6;decide),.inl ⟨rfl,rfl⟩⟩,λb hb=>?_⟩;simp![Í,Ý,or_false]at hb;subst hb;exact pL.of I1 (I1.hok.none m.new) m.new
 .cases e1:aY fs δ with
  |stuck=>rw[e1]at h;exact h.elim
  |err y δ1=>rw[e1]at h;exact iV.cast h
  |ok ds δ1=>
   rw[e1]at h;simp![Res.bind]at h;intro vs H' F' R' s' ra;by_cases hl:ds.length<=1000
   .rw[Á hl]at h
    exact⟨by rw[<- ra.len];exact hl,F',δ1,R',iV.mono h s'⟩
   .rw[Â hl]at h;exact h.elim
end
section
variable {K:ZC}{Z:b8}{ow ow':ZH}{g:ZP}{F H F1 H1:Hp}{σ σ1:St}{δ δ1:DS}
def b8.sub(ps:ZH)(g:ZP)(F H:Hp)(σ:St)(ow:ZH):b8:=
 ⟨F,H,SO ps g,ps,σ,ow,λa i q e=>by
  unfold SO at e
  simp_all⟩
theorem cI.enter(R:cI K Z ow g F H σ δ)(h:∀i,i∉ps->ow.getD i 0=0):cI K (b8.sub ps g F H σ ow) ow (SO ps g) F H σ δ:=by
 refine⟨R.sub,⟨R.f0.lm,λ_ _ z=>z⟩,λ_ _ _ z=>z,λ_ z _=>z,λ_ z=>z,λa i p e=>.inr ⟨p,e⟩,R.len,λi _=>⟨rfl,rfl⟩,λi d e=>?_⟩;let⟨v,e1,o⟩:=R.slot i d e;refine⟨v,e1,?_⟩;by_cases hi:i∈ps
 .refine o.mono (λ_ _ z=>z) (λa l hl e=>?_) (λ_ _ _ _ z=>z) λ_ _ _ _ _ z=>z
  unfold SO;rw[Â]
  .exact e
  .rintro⟨j,p,e2,hj⟩
   rw[e]at e2;cases e2;exact hj (by rw[show j=i from hl];exact hi)
 .rw[h i hi]at o⊢
  exact o
theorem cI.leave(R:cI K Z ow g F H σ δ)(hps:∀i∈Z.ps,i∈ps)(R1:cI K (b8.sub ps g F H σ ow) ow' g1 F1 H1 σ1 δ1):cI K Z ow' g1 F1 H1 σ1 δ1:=by
 have gl:∀a i q,SO ps g a=some (i,q)->g a=some (i,q):=λa i q e=>by
  unfold SO at e
  simp_all
 refine⟨R1.sub,R.f0.trans' R1.f0.2,λb o n e=>R1.kept b o ?_ (R.kept b o n e),λa z1 z2=>R1.new a (R.new a z1 z2) (R.there a z2),λb z=>R1.there b (R.there b z),λa i p e=>?_,R1.len,λi hi=>?_,R1.slot⟩
 .show SO ps g b=none
  cases q:SO ps g b with
  |none=>rfl
  |some l=>
   let⟨i,p⟩:=l;rcases R.lab b i p (gl b i p q)with z|⟨q',z⟩
   all_goals grind
 .rcases R1.lab a i p e with z|⟨q,z⟩
  .refine .inl ?_
   cases q:Z.H0 a with
   |none=>rfl
   |some o=>exact absurd z (R.there a (by rw[q];simp))
  .exact R.lab a i q (gl a i q z)
 .obtain⟨p1,p2⟩:=R1.par i (hps i hi)
  let⟨p3,p4⟩:=R.par i hi;exact⟨p1.trans p3,p2.trans p4⟩
end
abbrev Cx.tryB(X:Cx)(pn:ZB)(E:ZA):Cx:={X with pn:=pn,xe:=E}
abbrev Cx.hand(X:Cx)(a:Addr):Cx:={X with A:=X.A.mark (some (.ref a)),calm:=false,xe:=λ_ _=>False}
section
variable {X:Cx}{U pins2 pn:ZB}{σ:St}{H:Hp}{s:Shared}{E:ZA}{a:Addr}{nm:Str}{e:Value}
theorem Inv.toB(I:Inv X U σ H s)(E:ZA):Inv (X.tryB (X.pn++U) E) [] σ H s:=
 ⟨⟨I.ok.mod,I.ok.kind,I.ok.glob,I.ok.blt,I.ok.above,I.ok.inj,I.ok.has,I.ok.cab,I.ok.hd,I.ok.frames,I.ok.stk,I.ok.exf,I.ok.bs,I.ok.bsz,I.ok.noex,I.ok.exfs,I.ok.funs,I.ok.frf⟩,I.os,I.bare,I.base,I.loc,I.cell,I.free,I.freeC,λp hp=>I.pin p (by rwa [â]at hp),I.hok,I.len⟩
theorem Inv.ofB(I:Inv (X.tryB (X.pn++U) E) pins2 σ H s):Inv X U σ H s:=
 ⟨⟨I.ok.mod,I.ok.kind,I.ok.glob,I.ok.blt,I.ok.above,I.ok.inj,I.ok.has,I.ok.cab,I.ok.hd,I.ok.frames,I.ok.stk,I.ok.exf,I.ok.bs,I.ok.bsz,I.ok.noex,I.ok.exfs,I.ok.funs,I.ok.frf⟩,I.os,I.bare,I.base,I.loc,I.cell,I.free,I.freeC,λp hp=>I.pin p (Ą _ hp),I.hok,I.len⟩
theorem SM.ofB(f:SM (X.tryB (X.pn++U) E) pins2 H s nm e):SM X U H s nm e:=by
 let⟨a,cls,ch,h1,h2,h3,h4⟩:=f;exact⟨a,cls,ch,h1,h2,h3,λb hb=>⟨(h4 b hb).un,(h4 b hb).new,(h4 b hb).fr,(h4 b hb).cell,λp hp=>(h4 b hb).pin p (Ą _ hp)⟩⟩
theorem SP.ofB(h:SP (X.tryB (X.pn++U) E) [] Dn f s'):SP X U Dn f s':=by
 cases f with
 |next=>let⟨σ',H',I,q⟩:=h;exact⟨σ',H',I.ofB,q⟩
 |brk=>let⟨σ',H',I,q⟩:=h;exact⟨σ',H',I.ofB,q⟩
 |cont=>let⟨σ',H',I,q⟩:=h;exact⟨σ',H',I.ofB,q⟩
 |ret u=>let⟨v,σ',H',I,r,q⟩:=h;exact⟨v,σ',H',I.ofB,r,q⟩
theorem Inv.toH(I:Inv X U σ H s)(a:Addr):Inv (X.hand a) U σ H s:=
 ⟨⟨I.ok.mod,I.ok.kind,I.ok.glob,I.ok.blt,I.ok.above,I.ok.inj,I.ok.has,I.ok.cab,λz=>(by cases z),I.ok.frames,I.ok.stk,I.ok.exf,I.ok.bs,I.ok.bsz,I.ok.noex,I.ok.exfs,I.ok.funs,I.ok.frf⟩,I.os,I.bare,I.base,I.loc,I.cell,I.free,I.freeC,I.pin,I.hok,I.len⟩
theorem Inv.ofH{a:Addr}{hd:X.calm=true->X.A.handled=none}(I:Inv (X.hand a) U σ H s):Inv X U σ H s:=
 ⟨⟨I.ok.mod,I.ok.kind,I.ok.glob,I.ok.blt,I.ok.above,I.ok.inj,I.ok.has,I.ok.cab,hd,I.ok.frames,I.ok.stk,I.ok.exf,I.ok.bs,I.ok.bsz,I.ok.noex,I.ok.exfs,I.ok.funs,I.ok.frf⟩,I.os,I.bare,I.base,I.loc,I.cell,I.free,I.freeC,I.pin,I.hok,I.len⟩
theorem SP.ofH(hd:X.calm=true->X.A.handled=none)(h:SP (X.hand a) U Dn f s'):SP X U Dn f s':=by
 cases f with
 |next=>let⟨σ',H',I,q⟩:=h;exact⟨σ',H',I.ofH (hd:=hd),q⟩
 |brk=>let⟨σ',H',I,q⟩:=h;exact⟨σ',H',I.ofH (hd:=hd),q⟩
 |cont=>let⟨σ',H',I,q⟩:=h;exact⟨σ',H',I.ofH (hd:=hd),q⟩
 |ret u=>let⟨v,σ',H',I,r,q⟩:=h;exact⟨v,σ',H',I.ofH (hd:=hd),r,q⟩
def DH(X:Cx)(Z:b8)(ow ow' ol ox:ZH)(rm:Nat)(hs:List ExceptHandler)(u:Str->M Fl):Prop:=
 ∀(U:ZB)(s:Shared)(σ:St)(H:Hp)(Dn:vT)(nm:Str)(e:Value),Inv X U σ H s->SM X U H s nm e->tS X Z ow ow' ol ox rm (u nm) Dn σ H->wpAny 'b' X.A (handleBy e X.env hs) (SP X U Dn) X.xe s
theorem aGH:DH X Z ow ow' ol ox rm [] (λ_=>KH):=λU s σ H Dn nm e I fl h=>by
 let⟨F,δ,R,h⟩:=h;exact h.elim
def TY(u:M Fl)(hs:Str->M Fl):M Fl:=λδ=>match u δ with
 |.err (.str nm) δ1=>hs nm δ1
 |.err _ _=>.stuck
 |.ok fl δ1=>.ok fl δ1
 |.stuck=>.stuck
theorem SM.note(hst:X.stack=X.env::X.outer)(hfr:X.env.frame=some X.env.locals){Q:ZA}{E':ZA}(I:Inv X U σ H s)(f:SM X U H s nm e)(h:∀s',Inv X U σ H s'->SM X U H s' nm e->Q e s'):wpAny 'b' X.A (noteFrame e X.env) (λ_ s'=>wpAny 'b' X.A (setFlight e none) (λ_ s''=>Q e s'') E' s') E' s:=by
 let⟨a,cls,ch,rfl,hn,x,hc⟩:=f;have hf:=I.ok.frames;have hl:=I.stack;rw[hst]at hf hl;refine SL hf hl hfr x λh1 ch1 xt1 m1=>?_;rw[<- hst]at xt1;have I1:=I.xt xt1 hc;have hc1:∀b∈ch1,pL X U H b:=λb hb=>by
  rcases m1.new x.mem b hb with m|⟨m0,_⟩
  .exact hc b m
  .exact pL.of I (I.hok.none m0) m0
 refine wS (fs:=vS X.stack) m1.exc λh2 xt2 x2=>?_;exact h _ (I1.xt xt2 hc1) ⟨a,cls,ch1,rfl,hn,x2,hc1⟩
theorem aGI(ps:ZH)(hst:X.stack=X.env::X.outer)(hfr:X.env.frame=some X.env.locals)(hb:∀(K:ZA)(E1:ZA)(pn:ZB)(g:ZP)(F H:Hp)(σ:St),AF (X.tryB pn λe s'=>wpAny 'b' X.A (noteFrame e X.env) (λ_ s''=>K e s'') E1 s') (b8.sub ps g F H σ ow) ow ow' ol ox rm body u)(hh:DH X Z ow ow' ol ox rm (h0::hs) v)(hz:∀i,i∉ps->ow.getD i 0=0)(hps:∀i∈Z.ps,i∈ps):AE X Z ow ow' ol ox rm (.Try body (h0::hs) [] [] pos) (TY u v):=λU s σ H Dn I h=>by
 let⟨F,δ,⟨g,R⟩,h⟩:=h;refine wpAny_Try_except ?_;have hB:=hb (λe s''=>wpAny 'b' X.A (setFlight e none) (λ_ s₃=>wpAny 'b' X.A (handleBy e X.env (h0::hs)) (SP X U Dn) X.xe s₃) X.xe s'') X.xe (X.pn++U) g F H σ [] s σ H Dn (I.toB _) ⟨F,δ,⟨_,R.enter hz⟩,?_⟩
 .refine wpAny_mono hB (λf s1 q=>?_) λe s1 q=>q
  have q:=SP.ofB q;cases f with
  |next=>
   let⟨σ',H',I',q⟩:=q;exact LW U s1 σ' H' Dn I' q
  |brk=>exact q
  |cont=>exact q
  |ret w=>exact q
 .unfold TY at h
  cases e1:u δ with
  |stuck=>rw[e1]at h;exact h.elim
  |ok fl δ1=>
   rw[e1]at h;dsimp only at h;cases fl with
   |next=>exact λσ' H' F' R' s'=>h σ' H' F' (let ⟨g1,R1⟩:=R';⟨g1,R.leave hps R1⟩) s'
   |brk=>exact λσ' H' F' R' s'=>h σ' H' F' (let ⟨g1,R1⟩:=R';⟨g1,R.leave hps R1⟩) s'
   |cont=>exact λσ' H' F' R' s'=>h σ' H' F' (let ⟨g1,R1⟩:=R';⟨g1,R.leave hps R1⟩) s'
   |ret d=>exact λv σ' H' F' owr R' s'=>h v σ' H' F' owr (let ⟨g1,R1,o⟩:=R';⟨g1,R.leave hps R1,o⟩) s'
  |err x δ1=>
   rw[e1]at h;refine⟨λpins2 e s1 xp=>?_⟩;let⟨nm,H1,F1,σ1,rfl,I1,⟨g1,R1⟩,s2,fl⟩:=xp;have R2:cI X.K Z ow g1 F1 H1 σ1 δ1:=R.leave hps R1;exact SM.note (Q:=λe s'=>wpAny 'b' X.A (handleBy e X.env (h0::hs)) (SP X U Dn) X.xe s') hst hfr I1.ofB fl.ofB λs' I' fl'=>hh U s' σ1 H1 Dn nm e I' fl' ⟨F1,δ1,⟨g1,R2⟩,h.mono s2⟩
def ľ(v:M Fl):M Fl:=λδ=>match v δ with
 |.err _ _=>.stuck
 |r=>r
theorem aAJ(h:tS X Z ow ow' ol ox rm (ľ v) Dn σ H)(a:Addr):tS (X.hand a) Z ow ow' ol ox rm v Dn σ H:=by
 let⟨F,δ,R,h⟩:=h;refine⟨F,δ,R,?_⟩;unfold ľ at h;cases e:v δ with
 |stuck=>rw[e]at h;exact h.elim
 |err x δ1=>rw[e]at h;exact h.elim
 |ok fl δ1=>
  rw[e]at h;cases fl with
  |next=>exact h
  |brk=>exact h
  |cont=>exact h
  |ret d=>exact h
def uF(RJ:Option Bool)(v u:M Fl):M Fl:=match RJ with
 |some true=>ľ v
 |some false=>u
 |none=>KH
theorem DR{RJ:Str->Option Bool}(hg:Gl X c)(hmg:X.mg c=some (.ref C))(hA:∀nm r,RJ nm=some r->∀cls,W.nsIn X.K mainGlobals nm=some (some cls)->W.exmOne X.K cls (.ref C)=some r)(hv:∀a,AF (X.hand a) Z ow ow' ol ox rm (b0::suite) v)(hu:DH X Z ow ow' ol ox rm hs u)(hdb:⇑(Zdb c)):
  DH X Z ow ow' ol ox rm (.ExceptHandler (some (.Name c np)) none (b0::suite) pos::hs) (λnm=>uF (RJ nm) v (u nm)):=λU s σ H Dn nm e I fl h=>by
 let⟨a,cls,ch,rfl,hn,x,hc⟩:=id fl;have h:tS X Z ow ow' ol ox rm (uF (RJ nm) v (u nm)) Dn σ H:=h;cases e1:RJ nm with
 |none=>
  rw[e1]at h;let⟨F,δ,R,h⟩:=h;exact h.elim
 |some r=>
  rw[e1]at h;refine wpAny_handleBy_cons (codeAny_handlers_test (rJ (X:=X.hand a) (I.toH a) hg hmg ?_ hdb)) (by intro q;cases q);let⟨oe,vs,he,⟨hcl,_⟩,hd,_⟩:=id x;have LT:W.Looks 'b' s.heap (typeOf (.ref a)) cls:=hcl▸(W.Looks.ld he).andThen .now;refine(W.exm_one (M:=model X.prog X.w) I.kIn LT (hA nm r e1 cls hn)).here ?_;cases r with
  |true=>
   refine codeAny_handlers_suite (wS (fs:=vS X.stack) x λh2 xt2 x2=>?_);refine wpAny_mono (hv a U _ σ H Dn ((I.xt xt2 hc).toH a) ?_) (λf s1 q=>SP.ofH I.ok.hd q) λ_ _ z=>z.elim;exact aAJ h a
  |false=>exact hu U s σ H Dn nm _ I fl h
end
section
end
end L2
namespace L2
open PySem PySem.Spec PyProof.Rows PySem.W
structure Ŀ(K:Frag)(C:Addr):Prop where
 ga:findIn K (.ref C) "__getattribute__"=some (some (.builtin "BaseException.__getattribute__"))
 gn:findIn K (.ref C) "__getattr__"=some none
 ca:findIn K (.ref C) "__class__"=some (some (.builtin "object.__class__"))
 cl:(clsIn K C).isSome=true
 cg:specialIn K (.builtin "object.__class__") "__get__"=some (some (.builtin "getset_descriptor.__get__"))
 tk:takesIn K (.builtin "object.__class__")=some true
 ob:mroIn K C (.type "object")=some true
 be:mroIn K C (.type "BaseException")=some true
section
end
end L2
namespace L2
open PySem PySem.Spec PyProof.Rows
def RJ(l:List (Str×Bool))(nm:Str):Option Bool:=l.lookup nm
theorem KJ{K:ZC}(h:∀p∈l,∃cls,W.nsIn K mainGlobals p.1=some (some cls)/\W.exmOne K cls C=some p.2):
  ∀nm r,RJ l nm=some r->∀cls,W.nsIn K mainGlobals nm=some (some cls)->W.exmOne K cls C=some r:=λnm r e cls hn=>by
 let⟨cls',h1,h2⟩:=h (nm,r) (ü e)
 grind
theorem aJR{ps ow:ZH}(h:((List.range ow.length).all λi=>ps.contains i || ow.getD i 0 == 0)=true):∀i,i∉ps->ow.getD i 0=0:=λi hi=>by
 grind
theorem aGJ{ps qs:ZH}(h:qs.all ps.contains=true):∀i∈qs,i∈ps:=λi hi=>List.contains_iff_mem.mp (è.mp h i hi)
section
end
section
variable {X:Cx}{U:ZB}{σ:St}{H:Hp}{s:Shared}{h':Heap}
theorem Inv.turns{ch:ZM}(I:Inv X U σ H s)(k:∀b o,b∉ch->s.heap.get? b=some o->h'.get? b=some o)(hc:∀b∈ch,vU X U H b):
  Inv X U σ H {s with heap:=h',toks:=t'}:=by
 have off:∀b u,H b=some u->b∉ch:=λb u e z=>by have:=(hc b z).1;rw[this]at e;cases e
 refine I.step (g':=s.gens) (d':=s.drawn) (ch:=ch) (λb hb=>⟨(hc b hb).2.2.2.1,(hc b hb).2.1,(hc b hb).2.2.2.2.1,(hc b hb).2.2.2.2.2⟩) (λb o _ _ n e _=>k b o n e) (λb o _ _ n e _=>⟨o.slots,k b o n e⟩)
  (λb o n e z=>z) (λb o n e=>⟨o,k b o n e⟩) (λb ys e=>e) (λb o u e=>e) (λb ps e=>⟨#[],by rw[e];simp⟩) (λm hm=>?_) (λb u e=>?_) I.bare
 .obtain⟨o,es,ep,ho,q⟩:=hm
  exact⟨o,es,ep,k _ o (λz=>(hc _ z).2.1 rfl) ho,q⟩
 .refine(I.hok b u e).stay (λc v z q=>k c v ?_ q) (λc q=>q) λc ys q=>q
  grind
theorem Inv.pair{ch:ZM}(I:Inv X U σ H s)(k:∀b o,b∉ch->s.heap.get? b=some o->h'.get? b=some o)(hc:∀b∈ch,vU X U H b)(hT:s.heap.objs.size<=T)(hz:xs.length<=sizeLine)(r:bK xs us)(ht:IsTup h' T us.toArray):
  Inv X U σ (aX H T (.tup xs)) {s with heap:=h',toks:=t'}:=by
 have fT:H T=none:=I.hok.fresh hT;have off:∀b u,H b=some u->b∉ch:=λb u e z=>by have:=(hc b z).1;rw[this]at e;cases e
 have neT:∀b u,H b=some u->b≠T:=λb u e=>bM e fT;refine I.step (g':=s.gens) (d':=s.drawn) (ch:=ch) (λb hb=>⟨(hc b hb).2.2.2.1,(hc b hb).2.1,(hc b hb).2.2.2.2.1,(hc b hb).2.2.2.2.2⟩) (λb o _ _ n e _=>k b o n e) (λb o _ _ n e _=>⟨o.slots,k b o n e⟩)
  (λb o n e z=>?_) (λb o n e=>⟨o,k b o n e⟩) (λb ys e=>?_) (λb o u e=>?_) (λb ps e=>⟨#[],?_⟩) (λm hm=>?_) (λb u e=>?_) I.bare
 .rw[aH (Ì (Ô (Heap.lt_size e) hT))];exact z
 .rw[aH (neT b _ e)];exact e
 .rw[aH (neT b _ e)];exact e
 .rw[aH (neT b _ e),e];simp
 .obtain⟨o,es,ep,ho,q⟩:=hm
  exact⟨o,es,ep,k _ o (λz=>(hc _ z).2.1 rfl) ho,q⟩
 .by_cases hb:b=T
  .subst hb;rw[aM]at e;cases e;exact⟨hz,us,r,ht⟩
  .rw[aH hb]at e
   refine(I.hok b u e).stay (λc v z q=>k c v ?_ q) (λc q=>by rw[aH (neT c _ q)];exact q) λc ys q=>by rw[aH (neT c _ q)];exact q
   grind
end
def Ť(K:ZC)(a b:Addr):It:=
 ⟨λi H=>∃xs ys x y,eJ K H a xs/\eJ K H b ys/\xs[i]?=some x/\ys[i]?=some y,
   λi H v H'=>∃p x y,H p=none/\H'=aX H p (.tup [x,y])/\v=.ref p/\(∀xs,eJ K H a xs->xs[i]?=some x)/\∀ys,eJ K H b ys->ys[i]?=some y,
   λi H=>∃xs ys,eJ K H a xs/\eJ K H b ys/\(xs.length<=i\/ys.length<=i)⟩
structure aJS(z p q i1 i2 a b:Addr)(i:Nat)(h:Heap):Prop where
 z0:IsZip h z p q .none
 p0:IsPair h p (.ref i1) (.ref i2)
 q0:∃u v,IsPair h q u v
 a0:h.IsListIter i1 a i
 b0:h.IsListIter i2 b i
theorem TZ{P:Program}{w:World}{K:ZC}{es:List Expr}{n:Nat}{tp:Pos}(z p q i1 i2 a b:Addr)(D:ZipApart z p q i1 i2 a b):FK P w K (.Tuple es n tp) (Ť K a b) [z,p,q,i1,i2] z (aJS z p q i1 i2 a b) where
 mem:=by simp
 obj:=λi h st c hc=>by
  simp![Í,Ý,or_false]at hc;rcases hc with rfl|rfl|rfl|rfl|rfl
  .exact⟨_,st.z0,λv e=>by cases e⟩
  .exact⟨_,st.p0,λv e=>by cases e⟩
  .obtain⟨u,v,e⟩:=st.q0
   grind
  .obtain⟨o,e,_,d⟩:=st.a0
   grind
  .obtain⟨o,e,_,d⟩:=st.b0
   grind
 keep:=λi h h' st k=>⟨k z 'e' _ st.z0,k p 'e' _ st.p0,by
  let⟨u,v,e⟩:=st.q0
  grind,st.a0.at λo e=>k i1 'e' o e,st.b0.at λo e=>k i2 'e' o e⟩
 item:=by
  intro X hP hw hK hc i U s σ H E I hf st hg;subst hP hw hK;let⟨xs,ys,x,y,hx,hy,ex,ey⟩:=hg;let⟨ia,ra,pa,_⟩:=I.list hx;let⟨ib,rb,pb,_⟩:=I.list hy;let⟨u,hu,ru⟩:=ra.get ex;let⟨v,hv,rv⟩:=rb.get ey;let⟨c1,c2,hq⟩:=st.q0;refine wpAny_pyNext_zip_item D st.z0 st.p0 hq st.a0 st.b0 pa.isList pb.isList (x:=u) (y:=v) (by simpa using hu) (by simpa using hv) λh1 e1 e2 e3 e4 e5 e6 k1=>⟨_,rfl,?_⟩;refine wpAny_letOwnedTupleGo_zip (s:={s with heap:=h1}) e1 λh2 f1 f2=>?_;have hT:s.heap.objs.size≠z:=Ü (Heap.lt_size st.z0);have tup:IsTup h2 s.heap.objs.size #[u,v]:=⟨_,f2.extBut _ _ hT e5,rfl,_,rfl⟩;have kk:∀c o,c∉[z,q,i1,i2]->s.heap.get? c=some o->h2.get? c=some o:=λc o n e=>by
   simp![Í,Ý,or_false,not_or]at n;exact f2.extBut _ _ n.1 (k1 c o n.1 n.2.1 n.2.2.1 n.2.2.2 e)
  have fp:∀c∈[z,q,i1,i2],vU X U H c:=λc hc=>hf c (by
   grind)
  have I2:Inv X U σ (aX H s.heap.objs.size (.tup [x,y])) {s with heap:=h2,toks:=s.toks}:=I.pair (us:=[u,v]) kk fp (Ç _) (show 2<=sizeLine by decide) (.cons ru (.cons rv .nil)) tup;refine⟨.ref s.heap.objs.size,_,I2,rfl,⟨_,x,y,I.hok.fresh (Ç _),rfl,rfl,λxs' h=>by rw[I.list_inj h hx];exact ex,λys' h=>by rw[I.list_inj h hy];exact ey⟩,⟨f1,f2.extBut _ _ D.TIz (k1 _ _ D.TIz D.TITO D.TIi1 D.TIi2 st.p0),⟨_,_,f2.extBut _ _ D.TOz e2⟩,e3.extBut f2.extBut D.i1z,e4.extBut f2.extBut D.i2z⟩,λc hc=>?_⟩
  rw[aH]
  .exact(hf c hc).1
  .intro z0
   simp![Í,Ý,or_false]at hc;have lt:∀{c o},s.heap.get? c=some o->c≠s.heap.objs.size:=λe=>Ì (Heap.lt_size e);let⟨o1,g1,_⟩:=st.a0;let⟨o2,g2,_⟩:=st.b0;rcases hc with rfl|rfl|rfl|rfl|rfl
   .exact lt st.z0 z0
   .exact lt st.p0 z0
   all_goals grind
 done:=by
  intro X hP hw hK hc i U s σ H E I hf st hg;subst hP hw hK;let⟨xs,ys,hx,hy,hl⟩:=hg;let⟨ia,ra,pa,_⟩:=I.list hx;let⟨ib,rb,pb,_⟩:=I.list hy;let⟨c1,c2,hq⟩:=st.q0;have la:=ra.length;have lb:=rb.length;refine wpAny_pyNext_zip_end (I.ok.hd hc) D st.z0 st.p0 hq st.a0 st.b0 pa.isList pb.isList ?_ λh1 k1=>⟨rfl,I.turns (t':=s.toks) (ch:=[z,q,i1,i2]) (λc o n e=>?_) λc hc=>hf c ?_⟩
  all_goals grind
 self:=λ_ _ _ _ _ st h=>wpAny_pyIter_zip st.z0 h
section
def aMS(K:ZC)(ta:TA):TI:=λσ H R=>ta σ H λvs H1=>∃a b,vs=[.ref a,.ref b]/\(∃xs,eJ K H1 a xs)/\(∃ys,eJ K H1 b ys)/\R (Ť K a b) H1
theorem aGK{es:List Expr}{n:Nat}{tp p pos:Pos}(hg:Gl X "zip")(hm:X.mg "zip"=none)(ha:PA X [a,b] ta)(hs:↥(starEach [a,b] X.env=[(false,eval a X.env),(false,eval b X.env)]))(hs2:↥(starEach [b] X.env=[(false,eval b X.env)])):
  PI X (.Tuple es n tp) (.Call (.Name "zip" p) [a,b] [] pos) (aMS X.K ta):=by
 intro U s σ H R I h;refine Call_ (iE I hg hm boot_zip (callWith_type1 (cN (ha pos U s σ H _ I h) λus s1 zQ=>?_) (by rw[hs,hs2]) (by rw[hs2];rfl)));let⟨vs,H1,I1,r1,q1⟩:=zQ;let⟨l,m,e,⟨xs,hx⟩,⟨ys,hy⟩,q⟩:=q1;subst e;cases r1 with
 |cons r rr=>
  cases rr with
  |cons r' rr=>
   cases rr;cases r;cases r';let⟨ia,ra,pa,_⟩:=I1.list hx;let⟨ib,rb,pb,_⟩:=I1.list hy;refine call_zip_2 pa.isList pb.isList λh1 z1 z2 z3 z4 z5 sz kk=>wpAny_pyIter_zip (s:={s1 with heap:=h1}) z1 ?_;have la:l<s1.heap.objs.size:=by let⟨o,n,e,_⟩:=pa;exact Heap.lt_size e
   have lb:m<s1.heap.objs.size:=by let⟨o,n,e,_⟩:=pb;exact Heap.lt_size e
   have ge:∀c∈[s1.heap.objs.size+4,s1.heap.objs.size+2,s1.heap.objs.size+3,s1.heap.objs.size,s1.heap.objs.size+1],s1.heap.objs.size<=c:=λc hc=>by
    grind
   refine⟨_,_,_,_,H1,rfl,I1.kept (t':=s1.toks) kk,TZ _ _ _ _ _ l m ?_,⟨z1,z2,⟨_,_,z3⟩,z4,z5⟩,λc hc=>I1.fpOk (ge c hc) (I1.hok.fresh (ge c hc)),q⟩;have la:@LT.lt Nat instLTNat l s1.heap.objs.size:=la;have lb:@LT.lt Nat instLTNat m s1.heap.objs.size:=lb;constructor<;>(grind)
end
def oY(as bs:ZI):ZI:=List.zipWith (λa b=>PyData.tuple [a,b]) as bs
theorem MO{K:ZC}{F:Hp}{p:Addr}{x y:V}{d e:D}(h:F p=some (.tup [x,y]))(rx:bI K F d x)(ry:bI K F e y):bI K F (.tuple [d,e]) (.ref p):=by
 unfold bI;refine⟨p,_,rfl,rK.of h,?_⟩;unfold aD;refine⟨_,_,rfl,rx,?_⟩;unfold aD;refine⟨_,_,rfl,ry,?_⟩;unfold aD;rfl
theorem aAL{K:ZC}{F:Hp}{a b:Addr}{xs ys:List V}{ds es:ZI}(hx:eJ K F a xs)(hy:eJ K F b ys)(rx:aD K F ds xs)(ry:aD K F es ys):RI K F (Ť K a b) (oY ds es) where
 go:=λi H s hi=>by
  have hi:i<min ds.length es.length:=by simpa[oY]using hi
  have l1:=rx.len;have l2:=ry.len;exact⟨xs,ys,xs[i]'∅,ys[i]'∅,s.seq hx,s.seq hy,É _,É _⟩
 yld:=λi H v H' d s y e=>by
  let⟨p,x,y,hp,rfl,rfl,q1,q2⟩:=y;have hi:=(Ò.mp e).1;have hi:i<min ds.length es.length:=by simpa[oY]using hi
  have e1:ds[i]?=some ds[i]:=É ∅;have e2:es[i]?=some es[i]:=É ∅;have ee:(oY ds es)[i]?=some (.tuple [ds[i],es[i]]):=by unfold oY;rw[List.getElem?_zipWith,e1,e2]
  rw[ee]at e;cases e;let⟨x',f1,g1⟩:=rx.get e1;let⟨y',f2,g2⟩:=ry.get e2;have:=q1 xs (s.seq hx);rw[f1]at this;cases this;have:=q2 ys (s.seq hy);rw[f2]at this;cases this;refine .inr ⟨p,_,hp,rfl,λF2 s2 n=>MO aM ?_ ?_⟩
  .exact(s2.trans' (cL n _)).rep _ _ g1
  .exact(s2.trans' (cL n _)).rep _ _ g2
 stop:=λH s=>⟨xs,ys,s.seq hx,s.seq hy,by
  have l1:=rx.len;have l2:=ry.len;simp![oY,List.length_zipWith];lia⟩
def AJ(f g:M D):M (ZI):=λδ=>(aY [f,g] δ).bind λds δ1=>match ds with
 |[.list as,.list bs]=>.ok (oY as bs) δ1
 |_=>.stuck
section
theorem DU{es:List Expr}{n:Nat}{tp p2 p3:Pos}(hgl:Gl X "zip")(hm:X.mg "zip"=none)(ha:DE X Z ow 0 a f)(hb:DE X Z ow 0 b g)(hst:↥(starEach [a,b] X.env=(false,eval a X.env)::starEach [b] X.env))(hst2:↥(Zse b [] X.env)):
  DI X Z ow (.Tuple es n tp) (.Call (.Name "zip" p2) [a,b] [] p3) (AJ f g):=
 (aGK hgl hm (aE ha (aE hb aS hst2) hst) (hst.trans (by rw[hst2];rfl)) hst2).mono λσ H R q=>by
  let⟨F,δ,Rl,q⟩:=q;unfold AJ at q;refine⟨F,δ,Rl,?_⟩;cases e1:aY [f,g] δ with
  |stuck=>rw[e1]at q;exact q.elim
  |err x δ1=>rw[e1]at q;exact q
  |ok ds δ1=>
   rw[e1]at q;simp![Res.bind]at q;intro vs H1 F1 R1 s1 ra;split at q
   .rename_i as bs
    unfold aD at ra;let⟨x,t,rfl,rx,ra⟩:=ra;unfold aD at ra;let⟨y,t,rfl,ry,ra⟩:=ra;unfold aD at ra;subst ra;let⟨l,xs,rfl,hx,rx⟩:=kP rx;let⟨m,ys,rfl,hy,ry⟩:=kP ry;exact⟨l,m,rfl,⟨xs,R1.sub.seq hx⟩,⟨ys,R1.sub.seq hy⟩,q _ H1 F1 R1 s1 (aAL hx hy rx ry)⟩
   .exact q.elim
end
def ť(K:ZC)(a:Addr):It:=
 ⟨λi H=>∃xs x,eJ K H a xs/\xs[i]?=some x,
   λi H v H'=>∃p x,H p=none/\H'=aX H p (.tup [.int i,x])/\v=.ref p/\∀xs,eJ K H a xs->xs[i]?=some x,
   λi H=>∃xs,eJ K H a xs/\xs.length<=i⟩
structure aGL(e it a:Addr)(i:Nat)(h:Heap):Prop where
 e0:∃old,IsEnum h e it (i:Int) old
 a0:h.IsListIter it a i
theorem PQ{P:Program}{w:World}{K:ZC}{es:List Expr}{n:Nat}{tp:Pos}(e it a:Addr)(hne:e≠it):FK P w K (.Tuple es n tp) (ť K a) [e,it] e (aGL e it a) where
 mem:=by simp
 obj:=λi h st c hc=>by
  simp![Í,Ý,or_false]at hc;rcases hc with rfl|rfl
  .obtain⟨o,x⟩:=st.e0
   exact⟨_,x,λv e=>by cases e⟩
  .obtain⟨o,e,_,d⟩:=st.a0
   exact⟨o,e,λv x=>by rw[d]at x;cases x⟩
 keep:=λi h h' st k=>⟨by
  let⟨o,x⟩:=st.e0;exact⟨o,k e 'e' _ x⟩,st.a0.at λo x=>k it 'e' o x⟩
 item:=by
  intro X hP hw hK hc i U s σ H E I hf st hg;subst hP hw hK;let⟨xs,x,hx,ex⟩:=hg;let⟨ia,ra,pa,_⟩:=I.list hx;let⟨u,hu,ru⟩:=ra.get ex;let⟨old,he⟩:=st.e0;refine wpAny_pyNext_enum_item he st.a0 pa.isList (x:=u) (by simpa using hu) hne λh1 e1 e2 e3 e4 k1=>⟨_,rfl,?_⟩;refine wpAny_letOwnedTupleGo_enum (s:={s with heap:=h1,toks:=s.toks+1}) e1 λh2 f1 f2=>?_;have hT:s.heap.objs.size≠e:=Ü (Heap.lt_size he);have tup:IsTup h2 s.heap.objs.size #[.int i s.toks,u]:=⟨_,f2.extBut _ _ hT e3,rfl,_,rfl⟩;have kk:∀c o,c∉[e,it]->s.heap.get? c=some o->h2.get? c=some o:=λc o n x=>by
   simp![Í,Ý,or_false,not_or]at n;exact f2.extBut _ _ n.1 (k1 c o n.1 n.2 x)
  have I2:Inv X U σ (aX H s.heap.objs.size (.tup [.int i,x])) {s with heap:=h2,toks:=s.toks+1}:=I.pair (us:=[.int i s.toks,u]) kk hf (Ç _) (show 2<=sizeLine by decide) (.cons ⟨_,rfl⟩ (.cons ru .nil)) tup;refine⟨.ref s.heap.objs.size,_,I2,rfl,⟨_,x,I.hok.fresh (Ç _),rfl,rfl,λxs' h=>by rw[I.list_inj h hx];exact ex⟩,⟨⟨_,by simpa using f1⟩,e2.extBut f2.extBut hne.symm⟩,λc hc=>?_⟩;rw[aH]
  .exact(hf c hc).1
  .intro z0
   simp![Í,Ý,or_false]at hc;have lt:∀{c o},s.heap.get? c=some o->c≠s.heap.objs.size:=λe=>Ì (Heap.lt_size e);let⟨o1,g1,_⟩:=st.a0;rcases hc with rfl|rfl
   .exact lt he z0
   .exact lt g1 z0
 done:=by
  intro X hP hw hK hc i U s σ H E I hf st hg;subst hP hw hK;let⟨xs,hx,hl⟩:=hg;let⟨ia,ra,pa,_⟩:=I.list hx;let⟨old,he⟩:=st.e0;have la:=ra.length;refine wpAny_pyNext_enum_end (I.ok.hd hc) he st.a0 pa.isList (Array.getElem?_eq_none (by simp;lia)) λh1 k1=>⟨rfl,I.turns (t':=s.toks) (ch:=[e,it]) (λc o n x=>?_) hf⟩;simp![Í,Ý,or_false,not_or]at n;exact k1 c o n.2 x
 self:=λ_ _ _ _ _ st h=>by
  let⟨old,he⟩:=st.e0;exact wpAny_pyIter_enum he h
section
def aJT(K:ZC)(ta:TA):TI:=λσ H R=>ta σ H λvs H1=>∃a,vs=[.ref a]/\(∃xs,eJ K H1 a xs)/\R (ť K a) H1
theorem aAM(hg:Gl X "enumerate")(hm:X.mg "enumerate"=none)(ha:PA X [a] ta)(hs:↥(starEach [a] X.env=[(false,eval a X.env)])):
  PI X (.Tuple es n tp) (.Call (.Name "enumerate" p) [a] [] pos) (aJT X.K ta):=by
 intro U s σ H R I h;refine Call_ (iE I hg hm boot_enumerate (callWith_type1 (cN (ha pos U s σ H _ I h) λus s1 zQ=>?_) hs rfl));let⟨vs,H1,I1,r1,q1⟩:=zQ;let⟨l,e,⟨xs,hx⟩,q⟩:=q1;subst e;cases r1 with
 |cons r rr=>
  cases rr;cases r;let⟨ia,ra,pa,_⟩:=I1.list hx;refine call_enumerate_list pa.isList λh1 z1 z2 sz kk=>wpAny_pyIter_enum (s:={s1 with heap:=h1}) z1 ?_;have ge:∀c∈[s1.heap.objs.size+1,s1.heap.objs.size],s1.heap.objs.size<=c:=λc hc=>by
   simp![Í,Ý,or_false]at hc;rcases hc with rfl|rfl<;>lia
  exact⟨_,_,_,_,H1,rfl,I1.kept (t':=s1.toks) kk,PQ _ _ l (show ¬(s1.heap.objs.size+1=s1.heap.objs.size) by lia),⟨⟨_,z1⟩,z2⟩,λc hc=>I1.fpOk (ge c hc) (I1.hok.fresh (ge c hc)),q⟩
end
def eY(ds:ZI):ZI:=ds.mapIdx λi d=>PyData.tuple [.int i,d]
theorem T0{K:ZC}{F:Hp}{a:Addr}{xs:List V}{ds:ZI}(hx:eJ K F a xs)(rx:aD K F ds xs):RI K F (ť K a) (eY ds) where
 go:=λi H s hi=>by
  have hi:i<ds.length:=by simpa[eY]using hi
  have l1:=rx.len;exact⟨xs,xs[i]'(by exact ô ‹_› ‹_›),s.seq hx,É _⟩
 yld:=λi H v H' d s y e=>by
  let⟨p,x,hp,rfl,rfl,q1⟩:=y;have hi:=(Ò.mp e).1;have hi:i<ds.length:=by simpa[eY]using hi
  have e1:ds[i]?=some ds[i]:=É hi;have ee:(eY ds)[i]?=some (.tuple [.int i,ds[i]]):=by unfold eY;rw[List.getElem?_mapIdx,e1];rfl
  rw[ee]at e;cases e;let⟨x',f1,g1⟩:=rx.get e1;have:=q1 xs (s.seq hx);rw[f1]at this;cases this;exact .inr ⟨p,_,hp,rfl,λF2 s2 n=>MO aM gM ((s2.trans' (cL n _)).rep _ _ g1)⟩
 stop:=λH s=>⟨xs,s.seq hx,by
  have l1:=rx.len;simp![eY,List.length_mapIdx];lia⟩
def xE(f:M D):M (ZI):=λδ=>(aY [f] δ).bind λds δ1=>match ds with
 |[.list as]=>.ok (eY as) δ1
 |_=>.stuck
section
theorem g5(hgl:Gl X "enumerate")(hm:X.mg "enumerate"=none)(ha:DE X Z ow 0 a f)(hst:↥(Zse a [] X.env)):
  DI X Z ow (.Tuple es n tp) (.Call (.Name "enumerate" p2) [a] [] p3) (xE f):=
 (aAM hgl hm (aE ha aS hst) hst).mono λσ H R q=>by
  let⟨F,δ,Rl,q⟩:=q;unfold xE at q;refine⟨F,δ,Rl,?_⟩;cases e1:aY [f] δ with
  |stuck=>rw[e1]at q;exact q.elim
  |err x δ1=>rw[e1]at q;exact q
  |ok ds δ1=>
   rw[e1]at q;simp![Res.bind]at q;intro vs H1 F1 R1 s1 ra;split at q
   .rename_i as
    unfold aD at ra;let⟨x,t,rfl,rx,ra⟩:=ra;unfold aD at ra;subst ra;let⟨l,xs,rfl,hx,rx⟩:=kP rx;exact⟨l,rfl,⟨xs,R1.sub.seq hx⟩,q _ H1 F1 R1 s1 (T0 hx rx)⟩
   .exact q.elim
theorem aGM:bootBuiltins "sum"=some (.builtin "sum"):=by decide +kernel
end
section
end
section
end
section
end
abbrev zA(h:Heap)(l1:Addr):Heap:=h.push {cls:=.type "list_iterator",data:=.fields #[.ref l1,.int 0 0]}
abbrev zB(h:Heap)(l1 l2:Addr):Heap:=(zA h l1).push {cls:=.type "tuple_iterator",data:=.fields #[.ref l2,.int 0 0]}
section
end
section
end
section
end
end L2
namespace L2
open PySem PySem.Spec
def T1(o:ZL)(δ:DS)(Q:D->ZO)(_w:Wt Q:=⟨⟩):Prop:=∃r,o=some r/\Q r δ
def DW(o:Option (ZL))(δ:DS)(Q:D->ZO)(_w:Wt Q:=⟨⟩):Prop:=∃d,o=some (some d)/\Q d δ
def Ŧ(i:Nat)(d:D)(δ:DS)(N:ZO)(_w:Wt N:=⟨⟩):Prop:=i<δ.length/\N (δ.set i (some d))
def BI(d:D)(δ:DS)(Q:Bool->ZO)(_w:Wt Q:=⟨⟩):Prop:=∃b,d=.bool b/\Q b δ
def ŧ(o:Option DS)(N:ZO)(_w:Wt N:=⟨⟩):Prop:=∃δ,o=some δ/\N δ
def ŀ(o:Option (D×ZI))(i:Nat)(δ:DS)(Q:D->ZO)(_w:Wt Q:=⟨⟩):Prop:=∃ret ds',o=some (ret,ds')/\Q ret (δ.set i (some (.list ds')))
def RK:Prop:=aV (λ_=>(.stuck:Res Unit)) [] λ_ _=>bO (λ_=>.stuck) [] (λ_=>False) (λ_=>False) (λ_=>False) λ_ _=>False
theorem Ę:RK=False:=rfl
def Ł:Nat->D->DS->Option DS
 |_,_,[]=>none
 |0,d,_::l=>some (some d::l)
 |n+1,d,a::l=>match Ł n d l with
  |some l=>some (a::l)
  |none=>none
def vW(o:ZL)(δ:DS)(Q:D->ZO)(_w:Wt Q:=⟨⟩):Prop:=match o with
 |some r=>Q r δ
 |none=>RK
def gR(o:Option (ZL))(δ:DS)(Q:D->ZO)(_w:Wt Q:=⟨⟩):Prop:=match o with
 |some (some d)=>Q d δ
 |_=>RK
def DX(i:Nat)(d:D)(δ:DS)(N:ZO)(_w:Wt N:=⟨⟩):Prop:=match Ł i d δ with
 |some l=>N l
 |none=>RK
def xF(d:D)(δ:DS)(Q:Bool->ZO)(_w:Wt Q:=⟨⟩):Prop:=match d with
 |.bool b=>Q b δ
 |_=>RK
def ł(o:Option DS)(N:ZO)(_w:Wt N:=⟨⟩):Prop:=match o with
 |some δ=>N δ
 |none=>RK
def T2(r:Res D)(is:ZH)(δ:DS)(Q:D->ZO)(_w:Wt Q:=⟨⟩):Prop:=match r with
 |.ok d os=>Q d (bS is (os.filterMap id) δ)
 |_=>RK
def T3(o:Option (ZI))(fn:ZI->Res D)(is:ZH)(δ:DS)(Q:D->ZO)(_w:Wt Q:=⟨⟩):Prop:=match o with
 |some ds=>T2 (fn ds) is δ Q
 |none=>RK
def DY(o:Option (D×ZI))(i:Nat)(δ:DS)(Q:D->ZO)(_w:Wt Q:=⟨⟩):Prop:=match o with
 |some (ret,ds)=>Q ret (δ.set i (some (.list ds)))
 |none=>RK
def Ũ(o:Option (ZL))(i:Nat)(op:ZI->ZI->Option (D×ZI))(args:ZI)(δ:DS)(Q:D->ZO)(_w:Wt Q:=⟨⟩):Prop:=match o with
 |some (some (.list ds))=>DY (op ds args) i δ Q
 |_=>RK
def Ń(o:Option Nat)(ds:ZI)(v:D)(i:Nat)(δ:DS)(N:ZO)(_w:Wt N:=⟨⟩):Prop:=match o with
 |some j=>N (δ.set i (some (.list (ds.set j v))))
 |none=>RK
def ũ(o:Option (ZL))(k v:D)(i:Nat)(δ:DS)(N:ZO)(_w:Wt N:=⟨⟩):Prop:=match o,k with
 |some (some (.list ds)),.int n=>Ń (mY ds.length n) ds v i δ N
 |_,_=>RK
theorem j8:@vW=@T1:=by funext o δ Q w;cases o<;>simp[vW,T1,Ę]
theorem l7:@gR=@DW:=by funext o δ Q w;rcases o with _|_|d<;>simp[gR,DW,Ę]
theorem sF:@xF=@BI:=by funext d δ Q w;cases d<;>simp[xF,BI,Ę]
theorem aAQ:@ł=@ŧ:=by funext o N w;cases o<;>simp[ł,ŧ,Ę]
theorem MP:@DY=@ŀ:=by
 funext o i δ Q w;rcases o with _|⟨r,ds⟩
 .simp[DY,ŀ,Ę]
 .simp![DY,ŀ]
  exact propext ⟨λq=>⟨_,_,rfl,q⟩,λ⟨_,_,h,q⟩=>by cases h;exact q⟩
theorem MQ:∀{δ:DS}{i:Nat}{d:D},Ł i d δ=if i<δ.length then some (δ.set i (some d))else none
 |[],i,d=>by cases i<;>rfl
 |a::l,0,d=>rfl
 |a::l,i+1,d=>by
  rw[Ł,MQ (δ:=l)];by_cases h:i<l.length
  .rw[Á h,Á (show i+1<(a::l).length from Nat.succ_lt_succ h)];rfl
  .rw[Â h,Â (show ¬i+1<(a::l).length from λz=>h (Nat.lt_of_succ_lt_succ z))]
theorem aGR:@DX=@Ŧ:=by
 funext i d δ N w;unfold DX Ŧ;rw[MQ];by_cases h:i<δ.length
 .simp[h]
 .simp[h,Ę]
section
variable {δ:DS}{N:ZO}
theorem aMU:vW (some r) δ Q=Q r δ:=rfl
theorem aJU:gR (some (some d)) δ Q=Q d δ:=rfl
theorem aGS{Q:Bool->ZO}:xF (.bool b) δ Q=Q b δ:=rfl
theorem k_set:ł (some δ) N=N δ:=rfl
theorem k_fill:T3 (some ds) fn is δ Q=T2 (fn ds) is δ Q:=rfl
theorem aGT{os:DS}:T2 (.ok d os) [] δ Q=Q d δ:=rfl
theorem aGU:T2 (.ok d [some e]) [i] δ Q=Q d (δ.set i (some e)):=rfl
theorem aJV:Ũ (some (some (.list ds))) i op args δ Q=DY (op ds args) i δ Q:=rfl
theorem Ν:DY (some (r,ds)) i δ Q=Q r (δ.set i (some (.list ds))):=rfl
theorem Ξ:ũ (some (some (.list ds))) (.int n) v i δ N=Ń (mY ds.length n) ds v i δ N:=rfl
theorem Ο:Ń (some j) ds v i δ N=N (δ.set i (some (.list (ds.set j v)))):=rfl
theorem Ρ:vW (PD (.int i) (.int j)) δ Q=(IntMulOk i j/\Q (.int (i*j)) δ):=by
 rw[j8];refine propext ⟨λzQ=>?_,λzQ=>by let⟨h,p⟩:=zQ;exact ⟨_,Z9 h,p⟩⟩;let⟨r,h,p⟩:=zQ;unfold PD iD at h;dsimp only at h;split at h
 .rename_i hc;cases h;exact⟨hc,p⟩
 .cases h
theorem Τ{d:D}:DY (KA ds [d]) i δ Q=(ds.length<sizeLine/\Q .none (δ.set i (some (.list (ds++[d]))))):=by
 rw[MP];refine propext ⟨λzQ=>?_,λzQ=>by let⟨h,p⟩:=zQ;exact ⟨_,_,Á h,p⟩⟩;let⟨r,d2,h,p⟩:=zQ;unfold KA at h;dsimp only at h;split at h
 .rename_i hc;cases h;exact⟨hc,p⟩
 .cases h
theorem sG{a b:ZI}:vW (KC (.list a) (.list b)) δ Q=(a.length+b.length<=sizeLine/\Q (.list (a++b)) δ):=by
 have e:KC (.list a) (.list b)=if a.length+b.length<=sizeLine then some (.list (a++b))else none:=rfl;rw[e];rw[j8];unfold T1;split
 .rename_i h;simp[h]
 .rename_i h;simp[h]
theorem aGV:DX 0 d (a0::δ) N=N (some d::δ):=rfl
theorem aGW:DX 1 d (a0::a1::δ) N=N (a0::some d::δ):=rfl
theorem aGX:DX 2 d (a0::a1::a2::δ) N=N (a0::a1::some d::δ):=rfl
theorem aGY:DX 3 d (a0::a1::a2::a3::δ) N=N (a0::a1::a2::some d::δ):=rfl
theorem aGZ:DX 4 d (a0::a1::a2::a3::a4::δ) N=N (a0::a1::a2::a3::some d::δ):=rfl
theorem aG0:DX 5 d (a0::a1::a2::a3::a4::a5::δ) N=N (a0::a1::a2::a3::a4::some d::δ):=rfl
theorem aG1:DX 6 d (a0::a1::a2::a3::a4::a5::a6::δ) N=N (a0::a1::a2::a3::a4::a5::some d::δ):=rfl
theorem aG2:DX 7 d (a0::a1::a2::a3::a4::a5::a6::a7::δ) N=N (a0::a1::a2::a3::a4::a5::a6::some d::δ):=rfl
theorem aG3:DX 8 d (a0::a1::a2::a3::a4::a5::a6::a7::a8::δ) N=N (a0::a1::a2::a3::a4::a5::a6::a7::some d::δ):=rfl
theorem aG4:DX 9 d (a0::a1::a2::a3::a4::a5::a6::a7::a8::a9::δ) N=N (a0::a1::a2::a3::a4::a5::a6::a7::a8::some d::δ):=rfl
theorem aAR:DX 10 d (a0::a1::a2::a3::a4::a5::a6::a7::a8::a9::a10::δ) N=N (a0::a1::a2::a3::a4::a5::a6::a7::a8::a9::some d::δ):=rfl
theorem aAS:DX 11 d (a0::a1::a2::a3::a4::a5::a6::a7::a8::a9::a10::a11::δ) N=N (a0::a1::a2::a3::a4::a5::a6::a7::a8::a9::a10::some d::δ):=rfl
theorem DZ:DX 12 d (a0::a1::a2::a3::a4::a5::a6::a7::a8::a9::a10::a11::a12::δ) N=N (a0::a1::a2::a3::a4::a5::a6::a7::a8::a9::a10::a11::some d::δ):=rfl
theorem MR:DX 13 d (a0::a1::a2::a3::a4::a5::a6::a7::a8::a9::a10::a11::a12::a13::δ) N=N (a0::a1::a2::a3::a4::a5::a6::a7::a8::a9::a10::a11::a12::some d::δ):=rfl
theorem MS:DX 14 d (a0::a1::a2::a3::a4::a5::a6::a7::a8::a9::a10::a11::a12::a13::a14::δ) N=N (a0::a1::a2::a3::a4::a5::a6::a7::a8::a9::a10::a11::a12::a13::some d::δ):=rfl
theorem MT:DX 15 d (a0::a1::a2::a3::a4::a5::a6::a7::a8::a9::a10::a11::a12::a13::a14::a15::δ) N=N (a0::a1::a2::a3::a4::a5::a6::a7::a8::a9::a10::a11::a12::a13::a14::some d::δ):=rfl
end
section
theorem vJ:bO (dW u v) δ N B C R=bO u δ (λδ1=>bO v δ1 N B C R) B C R:=by
 refine propext ⟨λh=>?_,TU⟩;unfold bO dW at *;cases e:u δ with
 |stuck=>rw[e]at h;exact h
 |err x d=>rw[e]at h;exact h
 |ok fl d=>rw[e]at h;cases fl<;>exact h
theorem T5:bO wV δ N B C R=N δ:=rfl
theorem Υ:bO (λδ=>.ok .brk δ) δ N B C R=B δ:=rfl
theorem T6:bO (λδ=>.ok .cont δ) δ N B C R=C δ:=rfl
theorem Φ:bO (fL i f) δ N B C R=aV f δ λd δ1=>DX i d δ1 N:=by
 rw[aGR];unfold bO fL aV Ŧ;cases f δ with
 |ok a d=>
  dsimp![Res.bind];by_cases h:i<d.length
  .rw[Á h]
   exact propext ⟨λq=>⟨h,q⟩,And.right⟩
  .rw[Â h]
   exact propext ⟨False.elim,λq=>h q.1⟩
 |_=>rfl
theorem Χ:bO (t8 f) δ N B C R=aV f δ R:=by
 unfold bO t8 aV;cases f δ<;>rfl
theorem T7:bO (pN f) δ N B C R=aV f δ λ_ δ1=>N δ1:=by
 unfold bO pN aV;cases f δ<;>rfl
theorem Ψ:bO (mX c u v) δ N B C R=aV c δ λb δ1=>if b=true then bO u δ1 N B C R else bO v δ1 N B C R:=by
 refine propext ⟨λh=>?_,aJQ⟩;unfold bO mX at h;unfold aV;cases e:c δ with
 |stuck=>rw[e]at h;exact h
 |err x d=>rw[e]at h;exact h
 |ok b d=>
  rw[e]at h;cases b
  .exact h
  .exact h
theorem Ω{set:D->DS->Option DS}:bO (ţ set f) δ N B C R=aV f δ λd δ1=>ł (set d δ1) N:=by
 rw[aAQ];unfold bO ţ aV ŧ;cases f δ with
 |stuck=>rfl
 |err x d=>rfl
 |ok a d=>
  simp![Res.bind];cases set a d<;>simp
theorem γ:aV (bD i) δ Q=gR δ[i]? δ Q:=by
 rw[l7];unfold aV bD DW;cases δ[i]? with
 |none=>simp
 |some o=>cases o<;>simp
theorem ε:aV (dC d) δ Q=Q d δ:=rfl
theorem ζ:aV (iW op f g) δ Q=aV f δ λa δ1=>aV g δ1 λb δ2=>vW (op a b) δ2 Q:=by
 rw[j8];unfold aV iW T1;cases f δ with
 |stuck=>rfl
 |err x d=>rfl
 |ok a d=>
  simp![Res.bind];cases g d with
  |stuck=>rfl
  |err x d=>rfl
  |ok b d=>dsimp only;cases op a b<;>simp
theorem η:aV (DD op f) δ Q=aV f δ λa δ1=>vW (op a) δ1 Q:=by
 rw[j8];unfold aV DD T1;cases f δ with
 |stuck=>rfl
 |err x d=>rfl
 |ok a d=>simp![Res.bind];cases op a<;>simp
theorem MU{Q:ZI->ZO}:aV (aY []) δ Q=Q [] δ:=rfl
theorem T8{Q:ZI->ZO}:aV (aY (f::fs)) δ Q=aV f δ λa δ1=>aV (aY fs) δ1 λds δ2=>Q (a::ds) δ2:=by
 unfold aV;rw[aY];dsimp only;cases f δ with
 |stuck=>rfl
 |err x d=>rfl
 |ok a d=>
  simp![Res.bind];cases aY fs d<;>rfl
theorem θ:aV (O8 op fs) δ Q=aV (aY fs) δ λds δ1=>vW (op ds) δ1 Q:=by
 rw[j8];unfold aV O8 T1;cases aY fs δ with
 |stuck=>rfl
 |err x d=>rfl
 |ok a d=>simp![Res.bind];cases op a<;>simp
theorem ι:aV (FY fs) δ Q=aV (aY fs) δ λds δ1=>ds.length<=sizeLine/\Q (.tuple ds) δ1:=by
 unfold aV FY;cases aY fs δ with
 |stuck=>rfl
 |err x d=>rfl
 |ok a d=>
  simp![Res.bind];split
  .rename_i z;split at z
   .rename_i h;cases z;simp[h]
   .cases z
  .rename_i z
   split at z
   .rename_i h
    exact absurd rfl (z _ _)
   .rename_i h;simp[h]
theorem μ:aV (FZ fs) δ Q=aV (aY fs) δ λds δ1=>ds.length<=sizeLine/\Q (.list ds) δ1:=by
 unfold aV FZ;cases aY fs δ with
 |stuck=>rfl
 |err x d=>rfl
 |ok a d=>
  simp![Res.bind];split
  .rename_i z;split at z
   .rename_i h;cases z;simp[h]
   .cases z
  .rename_i z
   split at z
   .rename_i h
    exact absurd rfl (z _ _)
   .rename_i h;simp[h]
theorem ν{Q:Bool->ZO}:aV (dB f) δ Q=aV f δ λa δ1=>xF a δ1 Q:=by
 rw[sF];unfold aV dB BI;cases f δ with
 |stuck=>rfl
 |err x d=>rfl
 |ok a d=>cases a<;>simp[Res.bind]
theorem T9{Q:Bool->ZO}:aV (pM c) δ Q=aV c δ λb δ1=>Q (!b) δ1:=by
 unfold aV pM;cases c δ<;>rfl
theorem UA:aV (S4 f) δ Q=aV f δ λa δ1=>xF a δ1 λb δ2=>Q (.bool (!b)) δ2:=by
 rw[sF];unfold aV S4 BI;cases f δ with
 |stuck=>rfl
 |err x d=>rfl
 |ok a d=>cases a<;>simp[Res.bind]
theorem ξ{Q:Bool->ZO}:aV (SQ c c') δ Q=aV c δ λb δ1=>if b=true then Q true δ1 else aV c' δ1 Q:=by
 unfold aV SQ;cases c δ with
 |stuck=>rfl
 |err x d=>rfl
 |ok b d=>cases b<;>rfl
theorem UB{Q:Bool->ZO}:aV (FX c c') δ Q=aV c δ λb δ1=>if b=true then aV c' δ1 Q else Q false δ1:=by
 unfold aV FX;cases c δ with
 |stuck=>rfl
 |err x d=>rfl
 |ok b d=>cases b<;>rfl
theorem UC:aV (r9 f g) δ Q=aV f δ λa δ1=>xF a δ1 λb δ1=>if b=true then aV g δ1 Q else Q (.bool false) δ1:=by
 rw[sF];unfold aV r9 BI;cases f δ with
 |stuck=>rfl
 |err x d=>rfl
 |ok a d=>
  cases a with
  |bool b=>cases b<;>simp[Res.bind]
  |_=>simp[Res.bind]
theorem ο:aV (S5 f g) δ Q=aV f δ λa δ1=>xF a δ1 λb δ1=>if b=true then Q (.bool true) δ1 else aV g δ1 Q:=by
 rw[sF];unfold aV S5 BI;cases f δ with
 |stuck=>rfl
 |err x d=>rfl
 |ok a d=>
  cases a with
  |bool b=>cases b<;>simp[Res.bind]
  |_=>simp[Res.bind]
theorem UD:aV (dR fn as) δ Q=aV (cG as) δ λods δ1=>T3 (dM δ1 as ods) fn (aU as) δ1 Q:=by
 unfold aV dR T3 T2;cases cG as δ with
 |ok ods d=>
  dsimp![Res.bind];cases dM d as ods with
  |none=>rfl
  |some ds=>
   dsimp only;cases fn ds<;>rfl
 |_=>rfl
theorem MV{Q:List (ZL)->ZO}:aV (cG []) δ Q=Q [] δ:=rfl
theorem MW{Q:List (ZL)->ZO}:aV (cG (.val f::as)) δ Q=aV f δ λa δ1=>aV (cG as) δ1 λds δ2=>Q (some a::ds) δ2:=by
 unfold aV;rw[cG];dsimp only;cases f δ with
 |stuck=>rfl
 |err x d=>rfl
 |ok a d=>simp![Res.bind];cases cG as d<;>rfl
theorem MX{Q:List (ZL)->ZO}:aV (cG (.own j::as)) δ Q=gR δ[j]? δ λ_ δ=>aV (cG as) δ λds δ2=>Q (none::ds) δ2:=by
 rw[l7];unfold aV DW;rw[cG];dsimp only;cases δ[j]? with
 |none=>simp
 |some o=>
  cases o with
  |none=>simp
  |some d=>
   simp![Option.some.injEq,exists_eq_left'];cases cG as δ<;>rfl
theorem π:aV (J9 i op fs) δ Q=gR δ[i]? δ λ_ _=>aV (aY fs) δ λargs δ1=>Ũ δ1[i]? i op args δ1 Q:=by
 unfold aV J9 gR Ũ DY;cases δ[i]? with
 |none=>rfl
 |some o=>
  cases o with
  |none=>rfl
  |some d=>
   dsimp only;cases aY fs δ with
   |ok args δ1=>
    dsimp![Res.bind];cases δ1[i]? with
    |none=>rfl
    |some o=>
     cases o with
     |none=>rfl
     |some d=>
      cases d with
      |list ds=>
       dsimp only;cases op ds args with
       |none=>rfl
       |some p=>rfl
      |_=>rfl
   |_=>rfl
theorem ς:aV (S1 i fk) δ Q=gR δ[i]? δ λ_ _=>aV fk δ λk δ1=>gR δ1[i]? δ1 λd δ1=>vW (fE d k) δ1 Q:=by
 unfold aV S1 gR vW;cases δ[i]? with
 |none=>rfl
 |some o=>
  cases o with
  |none=>rfl
  |some d=>
   dsimp only;cases fk δ with
   |ok k δ1=>
    dsimp![Res.bind];cases δ1[i]? with
    |none=>rfl
    |some o=>
     cases o with
     |none=>rfl
     |some d=>
      dsimp only;cases fE d k<;>rfl
   |_=>rfl
theorem τ:bO (SZ i fk fv) δ N B C R=aV fv δ λv δ1=>gR δ1[i]? δ1 λ_ δ1=>aV fk δ1 λk δ2=>ũ δ2[i]? k v i δ2 N:=by
 unfold bO SZ aV gR ũ Ń;cases fv δ with
 |ok w δ1=>
  dsimp![Res.bind];cases δ1[i]? with
  |none=>rfl
  |some o=>
   cases o with
   |none=>rfl
   |some d=>
    dsimp only;cases fk δ1 with
    |ok k δ2=>
     dsimp only;cases δ2[i]? with
     |none=>rfl
     |some o=>
      cases o with
      |none=>rfl
      |some d=>
       cases d with
       |list ds=>
        cases k with
        |int n=>
         dsimp only;cases mY ds.length n<;>rfl
        |_=>rfl
       |_=>rfl
    |_=>rfl
 |_=>rfl
theorem UE:aV (GF i) δ Q=gR δ[i]? δ λd δ=>vW (rY [d]) δ Q:=by
 rw[l7,j8];unfold aV GF DW T1;cases δ[i]? with
 |none=>simp
 |some o=>
  cases o with
  |none=>simp
  |some d=>
   simp![Option.some.injEq,exists_eq_left'];cases e:rY [d]<;>simp
theorem υ:aV (Ś c f g) δ Q=aV c δ λb δ1=>if b=true then aV f δ1 Q else aV g δ1 Q:=by
 unfold aV Ś;cases c δ with
 |stuck=>rfl
 |err x d=>rfl
 |ok b d=>cases b<;>rfl
theorem aJ1{i j:Int}:KC (.int i) (.int j)=some (.int (i+j)):=rfl
theorem aJ2{i j:Int}:Ŝ (.int i) (.int j)=some (.int (i-j)):=rfl
theorem BJ{i:Int}:ŝ (.int i)=some (.int (-i)):=rfl
theorem aMV{i j:Int}:Ş (.int i) (.int j)=some (.bool (decide (i<j))):=rfl
theorem aMW{i j:Int}:Ī (.int i) (.int j)=some (.bool (decide (i<=j))):=rfl
theorem aMX{i j:Int}:Ι (.int i) (.int j)=some (.bool (decide (j<i))):=rfl
theorem aMY{i j:Int}:aOF (.int i) (.int j)=some (.bool (decide (j<=i))):=rfl
theorem AK{i j:Int}:PF (.int i) (.int j)=some (.bool (decide (i=j))):=by rw[aAB];congr 2
theorem χ{i j:Int}:wZ (.int i) (.int j)=some (.bool (decide (i≠j))):=by
 rw[MK];congr 2;rw[Bool.eq_iff_iff];simp
theorem ψ{i j:Bool}:wZ (.bool i) (.bool j)=some (.bool (decide (i≠j))):=by
 rw[TL];congr 2;cases i<;>cases j<;>rfl
theorem MY{i j:Int}(h:0<j):DC (.int i) (.int j)=some (.int (i % j)):=GK h
theorem aAT{i j:Int}(h:0<j)(h2:fJ 9000 j):GG (.int i) (.int j)=some (.int (i/j)):=PM h (fJ.log2 h2)
theorem ω{i:Int}:ş [.int i]=some (.int (i.natAbs:Int)):=by
 show some (PyData.int (if i<0 then -i else i))=_;congr 2;split<;>lia
theorem UF:rY [.list ds]=some (.int ds.length):=rfl
theorem aG5:rY [.tuple ds]=some (.int ds.length):=rfl
theorem aJ4{i:Int}:fE (.list ds) (.int i)=atI ds i:=rfl
theorem aJ5{i:Int}:fE (.tuple ds) (.int i)=atI ds i:=rfl
theorem BK{as:List α}:atI (a::as) 0=some a:=eE (j:=0) rfl
theorem xG{as:List α}:atI (a::b::as) 1=some b:=eE (j:=1) rfl
theorem xH{a b c:α}:atI (a::b::c::as) 2=some c:=eE (j:=2) rfl
theorem MZ{a b c d:α}:atI (a::b::c::d::as) 3=some d:=eE (j:=3) rfl
theorem ϊ{a b c d e:α}:atI (a::b::c::d::e::as) 4=some e:=eE (j:=4) rfl
theorem ϋ{a b c d e f:α}:atI (a::b::c::d::e::f::as) 5=some f:=eE (j:=5) rfl
theorem ό{a b c d e f g:α}:atI (a::b::c::d::e::f::g::as) 6=some g:=eE (j:=6) rfl
end
theorem M0(h:n<=1000):(n<=sizeLine)=True:=eq_true (Ø h ⋯)
theorem aMZ:DL .bool (.bool b)=some (.bool true):=rfl
theorem c8{d:D}(h:aV f δ λa δ1=>a=d/\δ1=δ):f δ=.ok d δ:=by
 let⟨a,δ1,e,rfl,rfl⟩:=h.ex;exact e
theorem xI{f e:M D}{δ:DS}{n:Int}{g:Nat->D}(hf:f δ=.ok (.int n) δ)(h0:0<=n)(h1:n<2^20)(he:∀k:Nat,(k:Int)<n->aV e (some (.int k)::δ) λa δ1=>a=g k/\δ1=some (.int k)::δ):dZ 1 (eK 0) (qI [f]) eG e δ=.ok (.list ((List.range n.toNat).map g)) δ:=by
 have hr:qI [f] δ=.ok (jI 0 n.toNat) δ:=by
  simp![qI,aY,hf,aW,kJ];rw[Á ⟨∅,∅⟩]
 have:=BH (e:=e) (g:=λd=>match d with|.int i=>g i.toNat|_=>.none) hr (λd hd=>by
  let⟨k,hk,rfl⟩:=Ö.mp hd;have hk:=List.mem_range.mp hk;have:=c8 (he k ∅);rw[Int.zero_add];exact this) (by rw[fW];show n.toNat<=2^24;lia)
 rw[this,jI];simp
theorem v4{set:D->DS->Option DS}{u:M Fl}{f:M D}{δ δ1:DS}{N B C:ZO}{R:D->ZO}{j:Int}(I:Nat->ZO)(hf:f δ=.ok (.int j) δ1)(hj:-1000<=j)(hj2:j<=1000)(h0:I 0 δ1)(hs:∀(k:Nat)(δ:DS),(k:Int)<j->I k δ->∃δ1,set (.int k) δ=some δ1/\bO u δ1 (I (k+1)) N (I (k+1)) R)(hN:∀δ,I j.toNat δ->N δ):bO (mV set (qI [f]) u) δ N B C R:=
 TV I hf ∅ ∅ h0 hs hN
theorem UG{set:D->DS->Option DS}{u:M Fl}{f:M D}{δ δ1:DS}{N B C:ZO}{R:D->ZO}{j:Nat}(I:Nat->ZO)(hf:f δ=.ok (.int (j:Int)) δ1)(hj:j<=1000)(h0:I 0 δ1)(hs:∀(k:Nat)(δ:DS),k<j->I k δ->∃δ1,set (.int k) δ=some δ1/\bO u δ1 (I (k+1)) N (I (k+1)) R)(hN:∀δ,I j δ->N δ):bO (mV set (qI [f]) u) δ N B C R:=
 v4 I hf ∅ ∅ h0 (λk δ hk=>hs k δ ∅) λδ h=>hN δ (by rwa [û]at h)
theorem i7{P:D->Prop}(h:bO body (ds.map some++List.replicate (m0-ds.length) none) (λ_=>False) (λ_=>False) (λ_=>False) λr _=>P r):∃r,aP m0 [] rm body ds=.ok r []/\P r:=by
 let⟨fl,δ1,e,q⟩:=h.ex;cases fl with
 |ret r=>exact⟨r,by unfold aP;rw[e];rfl,q⟩
 |next=>exact q.elim
 |brk=>exact q.elim
 |cont=>exact q.elim
end L2
namespace L2
open PySem
theorem aJ6{α β:Type}{f:α->β}{a:α}:(some a).map f=some (f a):=rfl
theorem aM0{α β:Type}{f:α->Option β}:List.filterMap f []=[]:=rfl
theorem aM1{α:Type}{a:α}{l:List α}:(a::l)[i+1]?=l[i]?:=rfl
theorem aM2{α:Type}{a:α}{l:List α}:(a::l)[0]?=some a:=rfl
theorem ύ{α:Type}{a b:α}:(some a=some b)=(a=b):=by simp
theorem ώ{α:Type}{p:α->Prop}{a:α}:(∃x,a=x/\p x)=p a:=by simp
theorem aM3{α:Type}{a:α}{l:List α}:(a::l).length=l.length+1:=rfl
theorem aM4{α:Type}:([]:List α).length=0:=rfl
theorem aM5{α:Type}{a x:α}{l:List α}:(a::l).set (i+1) x=a::l.set i x:=rfl
theorem aM6{α:Type}{a x:α}{l:List α}:(a::l).set 0 x=x::l:=rfl
theorem Ϗ{a b:Prop}:(if True then a else b)=a:=by simp
theorem ϐ{a b:Prop}:(if False then a else b)=b:=by simp
theorem aOK:type_of% (Å @vJ <| Å @T5 <| Å @Υ <| Å @T6 <| Å @Φ <| Å @Χ <| Å @T7 <| Å @Ψ <| Å @Ω <| Å @γ <| Å @ε <| Å @ζ <| Å @η <| Å @MU <| Å @T8 <| Å @θ <| Å @ι <| Å @μ <| Å @ν <| Å @T9 <| Å @UA <| Å @ξ <| Å @UB <| Å @UC <| Å @ο <| Å @UD <| Å @MV <| Å @MW <| Å @MX <| Å @π <| Å @ς <| Å @τ <| Å @UE <| Å @υ <| Å @BJ <| Å @AK <| Å @χ <| Å @ψ <| Å @ω <| Å @BK <| Å @xG <| Å @xH <| Å @MZ <| Å @ϊ <| Å @ϋ <| Å @ό <| Å @M0 <| Å @Ξ <| Å @Ο <| Å @Ρ <| Å @Τ <| Å @sG <| Å @DZ <| Å @MR <| Å @MS <| Å @MT <| Å @ύ <| Å @ώ <| Å @Nat.zero_add <| Å @true_and <| Å @and_true <| Å @Res.ok.injEq <| Å @PySem.PyData.bool.injEq <| Å @PySem.PyData.int.injEq <| Å @PySem.PyData.list.injEq <| Å @PySem.PyData.tuple.injEq <| Å @Bool.not_true <| Å @Bool.not_false <| Å @Bool.false_eq_true <| Å @Ϗ <| @ϐ):=
 Å @vJ <| Å @T5 <| Å @Υ <| Å @T6 <| Å @Φ <| Å @Χ <| Å @T7 <| Å @Ψ <| Å @Ω <| Å @γ <| Å @ε <| Å @ζ <| Å @η <| Å @MU <| Å @T8 <| Å @θ <| Å @ι <| Å @μ <| Å @ν <| Å @T9 <| Å @UA <| Å @ξ <| Å @UB <| Å @UC <| Å @ο <| Å @UD <| Å @MV <| Å @MW <| Å @MX <| Å @π <| Å @ς <| Å @τ <| Å @UE <| Å @υ <| Å @BJ <| Å @AK <| Å @χ <| Å @ψ <| Å @ω <| Å @BK <| Å @xG <| Å @xH <| Å @MZ <| Å @ϊ <| Å @ϋ <| Å @ό <| Å @M0 <| Å @Ξ <| Å @Ο <| Å @Ρ <| Å @Τ <| Å @sG <| Å @DZ <| Å @MR <| Å @MS <| Å @MT <| Å @ύ <| Å @ώ <| Å @Nat.zero_add <| Å @true_and <| Å @and_true <| Å @Res.ok.injEq <| Å @PySem.PyData.bool.injEq <| Å @PySem.PyData.int.injEq <| Å @PySem.PyData.list.injEq <| Å @PySem.PyData.tuple.injEq <| Å @Bool.not_true <| Å @Bool.not_false <| Å @Bool.false_eq_true <| Å @Ϗ <| @ϐ
end L2
namespace L2
open PySem PySem.Spec
structure Sh(k:Nat)(d:D):Prop where
 lay:d.canLay0=true
 dep:d.depth<=k
theorem KK :∀{ds:ZI},(∀d∈ds,Sh k d)->PyData.canLayAll0 ds=true/\PyData.depthAll ds<=k
 |[],_=>⟨by simp[PyData.canLayAll0],by simp[PyData.depthAll]⟩
 |d::ds,h=>by
  let⟨h1,h2⟩:=KK (ds:=ds) λx hx=>h x (Ï _ hx);have hd:=h d Ó;refine⟨by simp[PyData.canLayAll0,hd.lay,h1],?_⟩;have:=hd.dep;simp![PyData.depthAll];lia
theorem D0:Sh 1 (.int i):=⟨by simp[PyData.canLay0],by simp[PyData.depth]⟩
theorem D1{ds:ZI}(h:∀d∈ds,Sh k d):Sh (k+1) (.list ds):=by
 let⟨h1,h2⟩:=KK h;exact⟨by simpa[PyData.canLay0]using h1,by simp![PyData.depth];exact Nat.lt_succ_of_le ‹_›⟩
theorem uG{ds:ZI}(h:∀d∈ds,Sh k d):Sh (k+1) (.tuple ds):=by
 let⟨h1,h2⟩:=KK h;exact⟨by simpa[PyData.canLay0]using h1,by simp![PyData.depth];exact Nat.lt_succ_of_le ‹_›⟩
theorem Sh.mono(h:Sh k d)(e:k<=n):Sh n d:=⟨h.lay,Ø h.dep e⟩
theorem Sh.shaped(h:Sh k d)(e:k<=64):SeqAt.shaped d=true:=by
 unfold SeqAt.shaped;rw[h.lay,decide_eq_true (Ø h.dep e)];rfl
theorem M1(h:Sh k d)(e:k<=64):wZ d d=some (.bool false):=by
 unfold wZ;rw[Á ⟨h.shaped e,h.shaped e⟩,SeqAt.eqv_refl _ h.lay];rfl
theorem aAU(h:Sh k d)(e:k<=64):PF d d=some (.bool true):=by
 unfold PF;rw[Á ⟨h.shaped e,h.shaped e⟩,SeqAt.eqv_refl _ h.lay]
theorem M3:MJ [.list ds]=some (.list ds):=rfl
theorem aKA{xs:ZK}:Ļ [.list (xs.map PyData.int)]=some (.int xs.sum):=by
 show (cQ (xs.map PyData.int)).map _=_;rw[i5];rfl
theorem aG6{k:Nat}(h:k<=ds.length):uC (.list ds) none (some (k:Int))=some (.list (ds.take k)):=by
 show some (PyData.list (AI ds none (some (k:Int))))=_;unfold AI;rw[HT.sIx_none,HT.sIx_nat,List.drop_zero,Nat.sub_zero,Nat.min_eq_left h]
theorem kR{k:Nat}(h:k<=ds.length):uC (.list ds) (some (k:Int)) none=some (.list (ds.drop k)):=by
 show some (PyData.list (AI ds (some (k:Int)) none))=_;unfold AI;rw[HT.sIx_none,HT.sIx_nat,Nat.min_eq_left h,List.take_of_length_le 'e']
section
theorem GO:aV (Ġ op f lo hi) δ Q=aV f δ λd δ1=>aV (j6 lo) δ1 λl δ2=>aV (j6 hi) δ2 λu δ3=>vW (op d l u) δ3 Q:=by
 rw[j8];unfold aV Ġ T1;cases f δ with
 |stuck=>rfl
 |err x d=>rfl
 |ok a d=>
  simp![Res.bind];cases j6 lo d with
  |stuck=>rfl
  |err x d=>rfl
  |ok l d=>
   dsimp only;cases j6 hi d with
   |stuck=>rfl
   |err x d=>rfl
   |ok u d=>dsimp only;cases op a l u<;>simp
def ń(d:D)(δ:DS)(Q:Option Int->ZO)(_w:Wt Q:=⟨⟩):Prop:=∃i,d=.int i/\Q (some i) δ
theorem sH{Q:Option Int->ZO}:ń (.int i) δ Q=Q (some i) δ:=by unfold ń;simp
theorem l8{Q:Option Int->ZO}:aV (j6 none) δ Q=Q none δ:=rfl
theorem l9{Q:Option Int->ZO}:aV (j6 (some f)) δ Q=aV f δ λd δ1=>ń d δ1 Q:=by
 unfold aV j6 ń;dsimp only;cases f δ with
 |stuck=>rfl
 |err x d=>rfl
 |ok a d=>cases a<;>simp[Res.bind]
end
end L2
namespace L2
open PySem PySem.Spec PyProof.Rows
section
variable {X:Cx}{Z:b8}{ow:ZH}{pos:Pos}
theorem cP.give{K:ZC}{d:D}(S:aO Z ow)(hps:i∉Z.ps)(R:cP K Z ow F H σ δ)(e:δ[i]?=some (some d)):∃v,σ[i]?=some (some v)/\gJ K Z ow (ow.getD i 0) d v F H σ (δ.set i none):=by
 let⟨g,R⟩:=R;let⟨v,e1,o⟩:=R.slot i d e;refine⟨v,e1,λb=>match g b with|some (j,p)=>if j=i then some (1000,p)else if j=1000 then none else some (j,p)|none=>none,⟨R.sub,R.f0,R.kept,R.new,R.there,λa j p e=>?_,by rw[Ù];exact R.len,R.par,λj d' e=>?_⟩,?_⟩
 .cases q:g a with
  |none=>rw[q]at e;cases e
  |some l=>
   let⟨j',p'⟩:=l;rw[q]at e;have e:(if j'=i then some (1000,p')else if j'=1000 then none else some (j',p'))=some (j,p):=e;split at e
   .rename_i z
    refine .inl ((R.lab a j' p' q).elim id λzQ=>by let⟨q',w⟩:=zQ;exact absurd (Z.wf a j' q' w) (by rw[z];exact hps))
   .split at e
    .cases e
    .cases e;exact R.lab a j p q
 .have hj:j≠i:=λz=>by
   subst z;by_cases hl:j<δ.length
   .rw[ð hl]at e;cases e
   .rw[æ (by rw[Ù];exact ç.mp ‹_›)]at e;cases e
  rw[ß (Ð hj)]at e;let⟨w,e1,o1⟩:=R.slot j d' e;refine⟨w,e1,?_⟩;by_cases hz:ow.getD j 0=0
  .rw[hz]at o1⊢;exact o1
  .have j1:j<1000:=by
    by_cases hl:j<ow.length
    .exact Ô hl S.ow
    .exact absurd (by rw[Ê,æ (by exact ç.mp ‹_›)];rfl) hz
   exact o1.relab λa p e=>by
    rw[e];dsimp only;rw[Â hj,Â (by exact Ì ‹_›)]
 .exact o.relab λa p e=>by
   rw[e];exact Á rfl
def M4(i:Nat):M D:=λδ=>match δ[i]? with
 |some (some d)=>.ok d (δ.set i none)
 |_=>.stuck
theorem v5(i:Nat){x:Str}(S:aO Z ow)(ho:↥(ow.getD i 0=n))(hps:↥(Z.ps.contains i=false))(hN:↥(X.N[i]?=some x))(hv:#v[CH X.env.scope x])(hd:⇑(Zdb x))(hcd:⇑(Zcd x)):DE X Z ow n (.Name x pos) (M4 i):=
 (eD hN hv hd hcd).mono λσ H Q h=>by
  let⟨F,δ,R,h⟩:=h;unfold M4 at h;cases e:δ[i]? with
  |none=>rw[e]at h;exact h.elim
  |some o=>
   cases o with
   |none=>rw[e]at h;exact h.elim
   |some d=>
    rw[e]at h;let⟨v,e1,R'⟩:=R.give S (dE hps) e;rw[ho]at R';exact⟨v,e1,h v H F R' λ_ _ z=>z⟩
end
def gD:Option Int->ZK->Option Int
 |o,[]=>o
 |none,x::xs=>gD (some x) xs
 |some m,x::xs=>gD (some (if x>m then x else m)) xs
def ϑ:ZN->Array Value
 |none=>#[]
 |some v=>#[v,v]
def aKB(b:Option Int)(o:ZN):Prop:=match b,o with
 |none,none=>True
 |some m,some v=>∃t,v=.int m t
 |_,_=>False
section
variable {prog:Program}{w:World}{A:Around}{E:ZA}{s:Shared}
theorem GP(a d:Value):argsOk "max" ⟨[a],[("default",d)]⟩:=by unfold argsOk;kernel_rfl
theorem xJ:∀o:ZN,(ϑ o).size<=sizeLine
 |none=>by show 0<=sizeLine;decide
 |some _=>by show 2<=sizeLine;decide
theorem aAW{x m:Int}{t t':Tok}{Q:ZA}(h:Q (.bool (decide (x>m))) s):wpAny (model prog w) A (richCompare .Gt (.int x t) (.int m t')) Q E s:=CmpOf.ints_gt (P:=λi v=>∃t,v=.int (if i=0 then x else m) t) (λi=>if i=0 then x else m) (λ_ _ h=>h) 0 1 _ _ s Q E ⟨t,rfl⟩ ⟨t',rfl⟩ (by simpa using h)
theorem PR{R:Result->Shared->Prop}{I S:Addr}{fp wr:ZM}{n:Nat}{P:Nat->Value->Prop}{St:Nat->Heap->Prop}{dv:Value}{xs:ZK}(W:Walks prog w A.in1 I fp wr n P St)(hP:∀i v,P i v->∃x t,xs[i]?=some x/\v=.int x t)(hx:xs.length=n)(hSf:S∉fp):
  ∀(k i:Nat)(s:Shared)(b:Option Int)(o:ZN)(c:Nat),n-i=k->i<=n->St i s.heap->aKB b o->s.heap.get? S=some {cls:=.type "list",dict:=none,data:=.seq (ϑ o) c,slots:=#[]} ->
  (∀v h' tk,(match gD b (xs.drop i)with|none=>v=dv|some m=>∃t,v=.int m t)->(∀b o,b∉wr->b≠S->s.heap.get? b=some o->h'.get? b=some o)->R (.ok (.ret v)) {s with heap:=h',toks:=tk}) ->
  codeAny (model prog w) A (.builtin "max.loop" ⟨[.ref I,.none,.ref S],[("default",dv)]⟩) R s:=by
 have hSw:S∉wr:=λh=>hSf (W.sub _ h);have nm:(toString "max"++toString ".loop":String)="max.loop":=by decide
 intro k
 induction k with
 |zero=>
  intro i s b o c hk hi hst hb hS hR;obtain rfl:i=n:=by lia
  rw[List.drop_of_length_le (by exact ø ‹_›),show gD b []=b by cases b<;>rfl]at hR;refine codeAny_builtin F.entry_max_loop ?_;rw[Around.under_plainId F.plain_max_loop _];refine(show wpAny _ A.in1 (seqItems? (.ref S) >>= _) _ _ s from wpAny_bind (wpAny_seqItems hS rfl ?_));refine(show wpAny _ A.in1 (tryCatch (pyNext (.ref I)) _ >>= _) _ _ s from wpAny_bind (wpAny_tryCatch (W.done s _ _ hst λh' tk hk'=>?_)));cases o with
  |none=>
   cases b with
   |some m=>exact hb.elim
   |none=>exact wpAny_bind (wpAny_rule (wpAny_pure (hR dv h' tk rfl λb o h1 _ e=>hk' b o h1 e)))
  |some v=>
   cases b with
   |none=>exact hb.elim
   |some m=>
    refine(show wpAny _ A.in1 (updateSeq S (λ_=>#[]) >>= _) _ _ _ from wpAny_bind (wpAny_updateSeq (hk' S _ hSw hS) rfl (wpAny_bind (wpAny_letGo (wpAny_pure ?_))) (hz:=xJ _) (_hz':=é _)));exact hR v _ tk hb λb o h1 h2 e=>(Heap.get?_update_other _ _ (Ð h2)).trans (hk' b o h1 e)
 |succ k ih=>
  intro i s b o c hk hi hst hb hS hR;have hlt:i<n:=by lia
  refine codeAny_builtin F.entry_max_loop ?_;rw[Around.under_plainId F.plain_max_loop _];refine(show wpAny _ A.in1 (seqItems? (.ref S) >>= _) _ _ s from wpAny_bind (wpAny_seqItems hS rfl ?_));refine(show wpAny _ A.in1 (tryCatch (pyNext (.ref I)) _ >>= _) _ _ s from wpAny_bind (wpAny_tryCatch (W.item i s _ _ hlt hst λv h' tk hp hst' hk'=>?_)));have hS':=hk' S _ hSw hS;let⟨x,t,ex,rfl⟩:=hP i v hp;have ed:xs.drop i=x::xs.drop (i+1):=by
   let⟨h1,h2⟩:=Ò.mp ex;rw[ò h1,h2]
  rw[ed]at hR;have new:(∀v h' tk,(match gD (some x) (xs.drop (i+1))with|none=>v=dv|some m=>∃t,v=.int m t)->(∀b o,b∉wr->b≠S->s.heap.get? b=some o->h'.get? b=some o)->R (.ok (.ret v)) {s with heap:=h',toks:=tk})->codeAny (model prog w) A (.builtin "max.loop" ⟨[.ref I,.none,.ref S],[("default",dv)]⟩) R {s with heap:=h'.update S (Obj.mapSeq λ_=>#[.int x t,.int x t]),toks:=tk}:=λhR=>ih (i+1) _ (some x) (some (.int x t)) _ ∅ hlt (W.frame _ _ _ hst' λb hbf o e=>(Heap.get?_update_other _ _ (λh:S=b=>hSf (by rw[h];exact hbf))).trans e) ⟨t,rfl⟩ (Heap.get?_update_self _ hS' rfl) λv h'' tk'' hv hk''=>hR v h'' tk'' hv λb o h1 h2 e=>hk'' b o h1 h2 ((Heap.get?_update_other _ _ (Ð h2)).trans (hk' b o h1 e));cases o with
  |none=>
   cases b with
   |some m=>exact hb.elim
   |none=>
    refine(show wpAny _ A.in1 (updateSeq S (λ_=>#[.int x t,.int x t]) >>= _) _ _ _ from wpAny_bind (wpAny_updateSeq hS' rfl ?_ (hz:=xJ _) (_hz':=(by show 2<=sizeLine+1;decide))));rw[nm];exact wpAny_pure ⟨plainId_quiet F.plain_max_loop _,new hR⟩
  |some vb=>
   cases b with
   |none=>exact hb.elim
   |some m=>
    let⟨t',rfl⟩:=hb;refine(show wpAny _ A.in1 (tryCatch (holding [.int x t,.int x t] (richCompare .Gt (.int x t) (.int m t') >>= _)) _ >>= _) _ _ _ from wpAny_bind (wpAny_tryCatch (wpAny_holding (wpAny_bind (aAW ?_)))));refine wpAny_bind (wpAny_holding (wpAny_truthy_bool (wpAny_bind (wpAny_letGo (wpAny_pure ?_)))));by_cases hg:x>m
    .rw[show gD (some m) (x::xs.drop (i+1))=gD (some x) (xs.drop (i+1)) by simp[gD,hg]]at hR
     simp![hg,decide_true,if_true];refine wpAny_bind (wpAny_updateSeq hS' rfl (wpAny_bind (wpAny_letGo ?_)) (hz:=xJ _) (_hz':=(by show 2<=sizeLine+1;decide)));rw[nm];exact wpAny_pure ⟨plainId_quiet F.plain_max_loop _,new hR⟩
    .rw[show gD (some m) (x::xs.drop (i+1))=gD (some m) (xs.drop (i+1)) by simp[gD,hg]]at hR
     simp![hg,decide_false,Bool.false_eq_true,if_false];refine wpAny_bind (wpAny_letGo ?_);rw[nm];exact wpAny_pure ⟨plainId_quiet F.plain_max_loop _,ih (i+1) _ (some m) (some (.int m t')) c ∅ hlt hst' ⟨t',rfl⟩ hS' λv h'' tk'' hv hk''=>hR v h'' tk'' hv λb o h1 h2 e=>hk'' b o h1 h2 (hk' b o h1 e)⟩
theorem PU{x dv:Value}{xs:ZK}{Q:ZA}(h:wpAny (model prog w) A.in1 (pyIter x) (λit s₂=>∃I fp wr n P St,it=.ref I/\Walks prog w A.in1 I fp wr n P St/\St 0 s₂.heap/\(∀b∈fp,b<s₂.heap.objs.size)/\(∀i v,P i v->∃x t,xs[i]?=some x/\v=.int x t)/\xs.length=n /\
   ∀v h' tk,(match gD none xs with|none=>v=dv|some m=>∃t,v=.int m t)->(∀b o,b∉wr->s₂.heap.get? b=some o->h'.get? b=some o)->Q v {s₂ with heap:=h',toks:=tk}) E s):wpAny (model prog w) A (call (.builtin "max") [x] [("default",dv)]) Q E s:=by
 have nm:(toString "max"++toString ".loop":String)="max.loop":=by decide
 refine wpAny_call (codeAny_call_builtin F.plain_max F.entry_max ?_);simp![checkBuiltinCall,F.kind_max];have key:wpAny (model prog w) A.in1 (Builtin.«max» ⟨[x],[("default",dv)]⟩) (λfin s'=>match fin with
   |.done f=>(match (Except.ok f:Result)with|.ok (.ret v)=>Q v s'|.ok _=>False|.error e=>E e s')
   |.again c'=>c'.quiet=true/\codeAny (model prog w) A c' (λr s'=>match r with|.ok (.ret v)=>Q v s'|.ok _=>False|.error e=>E e s') s') E s:=by
  refine(show wpAny _ A.in1 (Builtin.Builtins.bindParams "max" ["key","default"] 0 ⟨[],[("default",dv)]⟩ >>= _) _ _ s from wpAny_bind (wpAny_of_eq (show Builtin.Builtins.bindParams "max" ["key","default"] 0 ⟨[],[("default",dv)]⟩=pure [none,some dv]from rfl) ?_));refine wpAny_bind (wpAny_pure (wpAny_bind (wpAny_mono h (λit s₂ h₂=>?_) λ_ _ e=>e)));let⟨I,fp,wr,n,P,St,rfl,W,hst,hfp,hP,hx,hQ⟩:=h₂;refine wpAny_bind (wpAny_newObj_type ?_);have hSf:s₂.heap.objs.size∉fp:=λhm=>ù _ (hfp _ hm);rw[nm];refine wpAny_pure ⟨plainId_quiet F.plain_max_loop _,PR (dv:=dv) W hP hx hSf _ 0 _ none none _ rfl (é _) (W.frame _ _ _ hst λb _ o e=>Heap.get?_push_of_some _ e) trivial (Heap.get?_push_size _ rfl) λv h' tk hv hk=>?_⟩;rw[List.drop_zero]at hv;exact hQ v h' tk hv λb o hbw e=>hk b o hbw (Ì (Heap.lt_size e)) (Heap.get?_push_of_some _ e)
 have ha:=GP x dv;cases hsig:Manifest.signature? "max"with
 |none=>exact wpAny_pure key
 |some sig=>
  simp![argsOk,hsig]at ha;have h2:Bind.checkArgs "max" sig ⟨[x],[("default",dv)]⟩=pure ():=ha;refine(show wpAny _ A.in1 (Bind.checkArgs "max" sig ⟨[x],[("default",dv)]⟩) _ _ s from ?_);rw[h2];exact wpAny_pure key
end
section
def aKC(X:Cx)(te tc:TE):TE:=λσ H Q=>SB te ŕ σ H λvs H1=>tc σ H1 λd H2=>∃(p:Addr)(xs:ZK),vs=[.ref p]/\eJ X.K H2 p (xs.map V.int)/\Q (match gD none xs with|none=>d|some m=>.int m) H2
theorem UH{U:ZB}{s:Shared}{σ:St}{H:Hp}{Q:VK}{p:Addr}{xs:ZK}{d:V}{dv:Value}(hc:X.calm=true)(I:Inv X U σ H s)(hq:eJ X.K H p (xs.map V.int))(rd:bJ d dv)(q:Q (match gD none xs with|none=>d|some m=>.int m) H):
  wpAny 'b' X.A (call (.builtin "max") [.ref p] [("default",dv)]) (EP X U σ Q) X.xe s:=by
 let⟨its,rv,pl,hz⟩:=I.list hq;refine PU (xs:=xs) (wpAny_pyIter_list pl.isList ?_);have hlen:=rv.length;rw[Ä]at hlen;have hlt:p<s.heap.objs.size:=by
  let⟨o,n,e,_⟩:=pl;exact Heap.lt_size e
 have ph:Inv X U σ H {s with heap:=s.heap.push {cls:=.type "list_iterator",data:=.fields #[.ref p,.int 0 0]}}:=I.kept (t':=s.toks) λb o e=>Heap.get?_push_of_some _ e;let⟨its',rv',pl',_⟩:=ph.list hq;have e1:its=its':=by
  let⟨o,n,e,c,dn,d⟩:=pl;let⟨o',n',e',c',dn',d'⟩:=pl';have e2:=Heap.get?_push_of_some {cls:=.type "list_iterator",data:=.fields #[.ref p,.int 0 0]} e;rw[e2]at e';cases e';rw[d]at d';injection d' with d1 _;simpa using congrArg Array.toList d1
 subst e1;refine⟨s.heap.objs.size,_,_,_,_,_,rfl,Walks.list (A:=X.A.in1) (show X.A.in1.handled=none from I.ok.hd hc) s.heap.objs.size p (Ì hlt) its.toArray,⟨⟨_,Heap.get?_push_size _ rfl,rfl,rfl⟩,pl'.isList⟩,λb hb=>?_,λi v hv=>?_,by simp;assumption,λv h' tk hv k=>?_⟩
 .show b<(s.heap.push _).objs.size
  rw[Heap.size_push]
  grind
 .have hv:its.toArray[i]?=some v:=hv
  exact bK.int_at (i:=i) rv (by simpa using hv)
 .have I2:=ph.turned (it:=s.heap.objs.size) (h':=h') (t':=tk) (λb o hb e=>k b o (by simpa using hb) e) (I.hok.fresh (Ç _)) (Ü I.lt) (.inr I.sz) (λx c e=>by
   let⟨v,q⟩:=I.cell x c e;exact Ì q.lt) λp hp=>Ì (Heap.lt_size (I.pin p hp).1)
  refine⟨_,H,I2,?_,q⟩;cases eb:gD none xs with
  |none=>grind
  |some m=>rw[eb]at hv;exact hv
theorem aAX{p pos kp:Pos}(hc:X.calm=true)(hg:Gl X "max")(hm:X.mg "max"=none)(ha:PE X e te)(hd:PE X c tc)(hs:↥(Zse e [] X.env))(hv:bootBuiltins "max"=some (.builtin "max"):=by decide +kernel):
  PE X (.Call (.Name "max" p) [e] [⟨some "default",c,kp⟩] pos) (aKC X te tc):=by
 intro U s σ H Q I h;refine wpAny_Call_Name_kw (iE I hg hm hv ?_ ⋯ ⋯);have a1:backTo pos (starEach [e] X.env)=(false,eval e X.env)::backTo pos (starEach [] X.env):=by rw[hs];rfl
 refine callWith_kw (cN ((gY ha m4 hs) pos U s σ H _ I h) λus s1 zQ=>?_) a1 (by rw[a1];rfl) rfl rfl;let⟨vs,H1,I1,r,q⟩:=zQ;refine kws_cons (cN (hd U s1 σ H1 _ I1 q) λu s2⟨d,H2,I2,rd,q2⟩=>kws_nil ?_);let⟨l,xs,rfl,hq,q2⟩:=q2;let⟨u',rfl,rx⟩:=pG r;cases rx;exact UH hc I2 hq rd q2
def GQ(f g:M D):M D:=λδ=>(f δ).bind λd δ1=>(g δ1).bind λe δ2=>match d,e with
 |.list ds,.int n=>(match cQ ds with
  |some xs=>.ok (.int ((gD none xs).getD n)) δ2
  |none=>.stuck)
 |_,_=>.stuck
theorem aAY(hc:X.calm=true)(hg:Gl X "max")(hm:X.mg "max"=none)(ha:DE X Z ow 0 e f)(hd:DE X Z ow 0 c g)(hs:↥(Zse e [] X.env)):DE X Z ow 0 (.Call (.Name "max" p) [e] [⟨some "default",c,kp⟩] pos) (GQ f g):=
 (aAX hc hg hm ha hd hs).mono λσ H Q h=>by
  let⟨F,δ,R,h⟩:=h;unfold GQ at h;refine⟨F,δ,R,?_⟩;cases e1:f δ with
  |stuck=>rw[e1]at h;exact h.elim
  |err x δ1=>rw[e1]at h;exact h
  |ok d1 δ1=>
   rw[e1]at h;intro x H1 F1 R1 s1;refine⟨F1,δ1,R1.rel,?_⟩;simp![Res.bind]at h;cases e2:g δ1 with
   |stuck=>rw[e2]at h;exact h.elim
   |err x δ2=>rw[e2]at h;exact iV.mono h s1
   |ok d2 δ2=>
    rw[e2]at h;simp![Res.bind]at h;intro y H2 F2 R2 s2;split at h
    .rename_i ds n
     cases e3:cQ ds with
     |none=>rw[e3]at h;exact h.elim
     |some xs=>
      rw[e3]at h;let⟨l,vs,rfl,hx,rx⟩:=kP R1.rep;rw[i6 e3 rx]at hx;have ry:=R2.rep;unfold bI at ry;subst ry;refine⟨l,xs,rfl,R2.rel.sub.seq (s2.seq hx),h _ H2 F2 (R2.rel.x ?_) (s1.trans' s2)⟩;cases gD none xs with
      |none=>show bI X.K F2 (.int n) (.int n);unfold bI;rfl
      |some m=>show bI X.K F2 (.int m) (.int m);unfold bI;rfl
    .exact h.elim
end
section
end
end L2
namespace L2
open PySem PySem.Spec
section
def M5:D->D->ZL
 |.list ds,.int n=>(cQ ds).map λxs=>.int ((gD none xs).getD n)
 |_,_=>none
theorem aAZ:GQ f g=iW M5 f g:=by
 funext δ;unfold GQ iW;cases f δ with
 |stuck=>rfl
 |err x d=>rfl
 |ok a d=>
  simp![Res.bind];cases g d with
  |stuck=>rfl
  |err x d=>rfl
  |ok b d=>
   simp![Res.bind];cases a<;>cases b<;>try rfl
   rename_i ds n;simp![M5];cases cQ ds<;>rfl
theorem aG7:aV (GQ f g) δ Q=aV (iW M5 f g) δ Q:=by rw[aAZ]
theorem xK:aV (M4 i) δ Q=gR δ[i]? δ λd δ=>Q d (δ.set i none):=by
 rw[l7];unfold aV M4 DW;cases e:δ[i]? with
 |none=>simp
 |some o=>cases o<;>simp
theorem aKD:aV (Ľ i lo hi) δ Q=gR δ[i]? δ λ_ _=>aV (j6 lo) δ λl δ1=>aV (j6 hi) δ1 λu δ2=>gR δ2[i]? δ2 λd δ2=>vW (uC d l u) δ2 Q:=by
 unfold aV Ľ gR vW;cases δ[i]? with
 |none=>rfl
 |some o=>
  cases o with
  |none=>rfl
  |some d0=>
   dsimp only;cases j6 lo δ with
   |ok l δ1=>
    dsimp![Res.bind];cases j6 hi δ1 with
    |ok u δ2=>
     dsimp only;cases δ2[i]? with
     |none=>rfl
     |some o=>
      cases o with
      |none=>rfl
      |some d=>cases d<;>rfl
    |_=>rfl
   |_=>rfl
theorem qJ{ds zs:ZI}:DY (TW ds [.list zs]) i δ Q=(ds.length+zs.length<=sizeLine/\Q .none (δ.set i (some (.list (ds++zs))))):=by
 by_cases h:ds.length+zs.length<=sizeLine
 .have:TW ds [.list zs]=some (.none,ds++zs):=Á h
  rw[this,Ν];simp[h]
 .have:TW ds [.list zs]=none:=Â h
  rw[this];simp[h,MP,ŀ]
end
end L2
namespace L2
open PySem PySem.Spec PyProof.Rows
def v6:D->Option (ZI)
 |.list xs=>some xs
 |.tuple xs=>some xs
 |_=>none
def ĭ:D->D->ZL:=λa b=>match v6 b with
 |some xs=>if SeqAt.shaped a=true/\SeqAt.shaped b=true then some (.bool (xs.any λy=>PyData.eqv y a))else none
 |none=>none
section
def ϒ(K:ZC):R2:=λx y H Q=>∃d e xs,bI K H d x/\bI K H e y/\v6 e=some xs/\SeqAt.shaped d=true/\SeqAt.shaped e=true/\Q (.bl (xs.any λy=>PyData.eqv y d)) H
theorem aG8(hu:X.A.units+64<cLine):j3 X (compareOp .In) (ϒ X.K):=by
 intro U s σ H x y v u Q I rx ry h;let⟨d,e,xs,hd,he,hi,sd,se,q⟩:=h;let⟨as,ra⟩:=bI.reads I d x v (gO sd) hd rx;let⟨bs,rb⟩:=bI.reads I e y u (gO se) he ry;have lay:=SeqAt.canLay_of_shaped se;have dep:=SeqAt.depth_of_shaped se;have ld:=SeqAt.canLay_of_shaped sd;cases e with
 |list ys=>
  cases hi;rw[PyData.depth]at dep;have:min (PyData.depthAll xs) d.depth<=PyData.depthAll xs:=Nat.min_le_left _ _;exact SeqAt.in_list_reads rb ra (by simpa[PyData.canLay0]using lay) ld ∅ (mZ I q rfl)
 |tuple ys=>
  cases hi;rw[PyData.depth]at dep;have:min (PyData.depthAll xs) d.depth<=PyData.depthAll xs:=Nat.min_le_left _ _;exact SeqAt.in_tuple_reads rb ra (by simpa[PyData.canLay0]using lay) ld ∅ (mZ I q rfl)
 |_=>cases hi
theorem aG9:oG X (ϒ X.K) 0 ĭ:=λZ ow F H σ δ a b x y d Q S R ra rb e q=>by
 unfold ĭ at e;cases hi:v6 b with
 |none=>rw[hi]at e;cases e
 |some xs=>
  rw[hi]at e;dsimp only at e;split at e
  .rename_i hc
   cases e;exact⟨a,b,xs,R.sub.rep _ _ ra,R.sub.rep _ _ rb,hi,hc.1,hc.2,q _ H F (R.x jJ) (aI.refl _)⟩
  .cases e
end
section
variable {X:Cx}{Z:b8}{ow ol ox:ZH}{n rm m:Nat}{pos:Pos}{e a b c tg:Expr}{f h:M D}{F F' H H':Hp}{σ:St}{δ δ':DS}{g g':ZP}{K:ZC}
theorem aZ.keep(hF:aI F F')(h:∀a p o,g a=some (i,p)->H a=some o->F a=none->g' a=some (i,p)/\H' a=some o/\F' a=none)(r:aZ K F H g i n p d v):aZ K F' H' g' i n p d v:=r.keepJ hF h
theorem iQ.updNe{b:Addr}{i i0:Nat}{q0:ZH}{o:HO}(hb:g b=some (i0,q0)){f c:Nat}{p:ZH}{d:D}{v:V}(hn:i≠i0\/¬p <+: q0)(r:iQ K F H g i f c p d v):iQ K F (aX H b o) g i f c p d v:=by
 induction f generalizing c p d v with
 |zero=>
  cases c with
  |zero=>exact r
  |succ c=>exact r.elim
 |succ f ih=>
  cases c with
  |zero=>exact r
  |succ c=>
   let⟨ds,vs,cs,nd,hc,hl,r⟩:=r;refine⟨ds,vs,cs,nd,λx hx=>?_,hl,λk d' v' z1 z2=>ih (hn.imp id λz w=>z ((List.prefix_append p [k]).trans w)) (r k d' v' z1 z2)⟩;let⟨a1,a2,a3⟩:=hc x hx;have ne:x.1≠b:=λz=>by
    rw[z,hb]at a1;cases a1;exact hn.elim (λz=>z rfl) λz=>z (List.prefix_append _ _)
   exact⟨a1,by rw[aH ne];exact a2,a3⟩
theorem aZ.updNe{b:Addr}{i i0:Nat}{q0:ZH}{o:HO}(hb:g b=some (i0,q0)){n:Nat}{p:ZH}{d:D}{v:V}(hn:i≠i0\/¬p <+: q0)(r:aZ K F H g i n p d v):aZ K F (aX H b o) g i n p d v:=iQ.updNe hb hn r
def JO:ZH->DS->DS
 |[],δ=>δ
 |_::_,[]=>[]
 |n::ow,o::δ=>(if n=0 then o else none)::JO ow δ
theorem M6:∀{ow:ZH}{δ:DS},(JO ow δ).length=δ.length
 |[],_=>rfl
 |_::_,[]=>rfl
 |n::ow,o::δ=>by unfold JO;rw[Õ,Õ,M6]
theorem UI:∀{ow:ZH}{δ:DS}{i:Nat}{d:D},(JO ow δ)[i]?=some (some d)->ow.getD i 0=0/\δ[i]?=some (some d)
 |[],_,i,_,e=>⟨by simp,e⟩
 |_::_,[],_,_,e=>by unfold JO at e;cases e
 |n::ow,o::δ,0,d,e=>by
  unfold JO at e;rw[List.getElem?_cons_zero]at e;split at e
  .rename_i h;exact⟨h,e⟩
  .cases e
 |n::ow,o::δ,i+1,d,e=>by
  unfold JO at e;rw[List.getElem?_cons_succ]at e;let⟨h1,h2⟩:=UI e;exact⟨by simpa using h1,by simpa using h2⟩
theorem cI.hide(R:cI K Z ow g F H σ δ):cP K (fD F H σ m) 'g' F H σ (JO ow δ):=
 ⟨λ_=>none,R.sub,⟨R.f0.lm,λ_ _ z=>z⟩,λ_ _ _ e=>e,λ_ h _=>h,λ_ h=>h,λ_ _ _ e=>(by cases e),by rw[M6];exact R.len,λi hi=>(by cases hi),λi d e=>by
  let⟨h0,e⟩:=UI e;let⟨v,e1,o⟩:=R.slot i d e;rw[h0]at o;exact⟨v,e1,by rw[l6];exact o⟩⟩
theorem cI.back(R:cI K Z ow g F H σ δ)(R':cI K (fD F H σ m) 'g' g' F' H' σ δ'):cI K Z ow g F' H' σ δ:=by
 have hk:∀b o,H b=some o->H' b=some o:=λb o e=>R'.kept b o rfl e;refine⟨R'.sub,R.f0.trans' R'.f0.2,λb o n e=>hk b o (R.kept b o n e),λa h1 h2=>R'.new a (R.new a h1 h2) (R.there a h2),λb h=>?_,R.lab,R.len,R.par,λi d e=>?_⟩
 .cases e:H b with
  |none=>exact absurd e (R.there b h)
  |some o=>rw[hk b o e];simp
 .obtain⟨v,e1,o⟩:=R.slot i d e
  exact⟨v,e1,o.keep (show aI F F' from R'.f0.2) λa p o e1 e2 e3=>⟨e1,hk a o e2,R'.new a e3 (show H a≠none by rw[e2];simp)⟩⟩
theorem cI.at2{i j:Nat}{ds inner:ZI}(R:cI K Z ow g F H σ δ)(ho:ow.getD i 0=2)(hd:δ[i]?=some (some (.list ds)))(hj:ds[j]?=some (.list inner)):
  ∃a vs b ws,σ[i]?=some (some (.ref a))/\H a=some (.lst vs)/\ds.length=vs.length/\vs[j]?=some (.ref b)/\H b=some (.lst ws)/\aD K F inner ws:=by
 let⟨v,e1,o⟩:=R.slot i _ hd;rw[ho]at o;let⟨a,ds0,vs,q1,q2,q3,q4,q5,q6,q7⟩:=o.lst (m:=1);cases q1;subst q2;have jl:j<vs.length:=by rw[<- q6];exact(Ò.mp hj).1
 let⟨b,inner',ws,w1,w2,w3,w4,w5,w6,w7⟩:=(q7 j _ _ hj (É jl)).lst (m:=0);cases w1;exact⟨a,vs,b,ws,e1,q4,q6,by rw[É jl,w2],w4,aD.of w6 w7⟩
theorem cI.rewrite2{a b:Addr}(R:cI K Z ow g F H σ δ)(ho:ow.getD i 0=2)(hd:δ[i]?=some (some (.list ds)))(hs:σ[i]?=some (some (.ref a)))(ha:H a=some (.lst vs))(hb:vs[j]?=some (.ref b))(hr:aD K F inner' vs'):
  cI K Z ow g F (aX H b (.lst vs')) σ (δ.set i (some (.list (ds.set j (.list inner'))))):=by
 let⟨v,e1,o⟩:=R.slot i _ hd;rw[hs]at e1;cases e1;rw[ho]at o;let⟨a',ds0,vs0,q1,q2,q3,q4,q5,q6,q7⟩:=o.lst (m:=1);cases q1;cases q2;rw[ha]at q4;cases q4;have jl:j<vs.length:=(Ò.mp hb).1;have jd:j<ds.length:=by exact ô ‹_› (Eq.symm ‹_›)
 let⟨b',inner,ws,w1,w2,w3,w4,w5,w6,w7⟩:=(q7 j _ _ (É jd) hb).lst (m:=0);cases w2;have hi:i<δ.length:=(Ò.mp hd).1;have nab:a≠b:=λz=>by rw[z,w3]at q3;cases q3
 refine⟨λb' u e=>?_,R.f0,λb' u n e=>?_,R.new,λb' z=>?_,R.lab,by rw[Ù];exact R.len,R.par,λk d e=>?_⟩
 .have:b'≠b:=λz=>by rw[z,w5]at e;cases e
  rw[aH this];exact R.sub b' u e
 .have:b'≠b:=λz=>by
   subst z;rcases R.lab b' i _ w3 with w|⟨q,w⟩
   .rw[w]at e;cases e
   .rw[w]at n;cases n
  rw[aH this];exact R.kept b' u n e
 .by_cases hb':b'=b
  .subst hb';rw[aM];simp
  .rw[aH hb'];exact R.there b' z
 .by_cases hk:k=i
  .subst hk
   rw[ð hi]at e;cases e;refine⟨_,hs,?_⟩;rw[ho];refine aZ.mkL (m:=1) ⟨a,_,vs,rfl,rfl,q3,by rw[aH nab];exact ha,q5,by rw[Ù];exact q6,λl d' v' z1 z2=>?_⟩
   by_cases hl:j=l
   .subst hl
    rw[ð jd]at z1;cases z1;rw[hb]at z2;cases z2;exact aZ.mkL (m:=0) ⟨b,inner',vs',rfl,rfl,w3,aM,w5,hr.len,λk d' v' z1 z2=>hr.both k d' v' z1 z2⟩
   .rw[ß hl]at z1
    refine aZ.updNe w3 (.inr λz=>?_) (q7 l d' v' z1 z2);have z:[l] <+: [j]:=z;let⟨t,ht⟩:=z;cases ht;exact hl rfl
  .rw[ß (Ð hk)]at e
   let⟨v,e1,o⟩:=R.slot k d e;exact⟨v,e1,aZ.updNe w3 (.inl hk) o⟩
def pR(ow:ZH)(i:Nat)(fk:M D)(op:ZI->ZI->Option (D×ZI))(fs:List (M D)):M D:=λδ=>match δ[i]? with
 |some (some (.list ds))=>(match fk δ with
  |.ok (.int k) _=>(match mY ds.length k with
   |some j=>(match ds[j]? with
    |some (.list inner)=>(match aY fs (JO ow δ)with
     |.ok args _=>(match op inner args with
      |some (ret,inner')=>.ok ret (δ.set i (some (.list (ds.set j (.list inner')))))
      |none=>.stuck)
     |_=>.stuck)
    |_=>.stuck)
   |none=>.stuck)
  |_=>.stuck)
 |_=>.stuck
theorem GR(h:pR ow i fk op fs δ=.ok d δ1):
  ∃ds k δ2 j inner args δ3 inner',δ[i]?=some (some (.list ds))/\fk δ=.ok (.int k) δ2/\mY ds.length k=some j/\ds[j]?=some (.list inner)/\aY fs (JO ow δ)=.ok args δ3/\op inner args=some (d,inner')/\δ1=δ.set i (some (.list (ds.set j (.list inner')))):=by
 unfold pR at h;split at h
 .rename_i ds e1
  split at h
  .rename_i k δ2 e2
   split at h
   .rename_i j e3
    split at h
    .rename_i inner e4
     split at h
     .rename_i args δ3 e5
      split at h
      .rename_i ret inner' e6
       cases h;exact⟨ds,k,δ2,j,inner,args,δ3,inner',e1,e2,e3,e4,e5,e6,rfl⟩
      .cases h
     .cases h
    .cases h
   .cases h
  .cases h
 .cases h
theorem UJ(h:pR ow i fk op fs δ=.err x δ1):False:=by
 unfold pR at h;split at h
 .split at h
  .split at h
   .split at h
    .split at h
     .split at h<;>cases h
     .cases h
    .cases h
   .cases h
  .cases h
 .cases h
theorem KL(m:Nat)(h:∀F H σ,DE X (fD F H σ m) 'g' 0 ek fk):PE X ek (λσ H Q=>∃F0,tD X (fD F0 H σ m) 'g' 0 fk σ H Q):=λU s σ H Q I zQ=>by let⟨F0,q⟩:=zQ;exact h F0 H σ U s σ H Q I q
theorem aHA(m:Nat)(h:∀F H σ,DV X (fD F H σ m) 'g' es fs):PA X es (λσ H Q=>∃F0,tV X (fD F0 H σ m) 'g' fs σ H Q):=λcp U s σ H Q I zQ=>by let⟨F0,q⟩:=zQ;exact h F0 H σ cp U s σ H Q I q
theorem GS(m:Nat)(ho:ow.getD i 0=2)(hm:GE X r op)(h:tD X Z ow 0 (pR ow i fk op fs) σ H Q):
  RN i σ H λx H1=>∃F0,tD X (fD F0 H1 σ m) 'g' 0 fk σ H1 λy H2=>ŗ X.K x y H2 λv H3=>ĸ X.K "list" v H3/\∃F1,tV X (fD F1 H3 σ m) 'g' fs σ H3 λxs H4=>r v xs H4 Q:=by
 let⟨F,δ,⟨g,R⟩,h⟩:=h;cases e:pR ow i fk op fs δ with
 |stuck=>rw[e]at h;exact h.elim
 |err x δ1=>exact(UJ e).elim
 |ok d δ1=>
  rw[e]at h;let⟨ds,k,δ2,j,inner,args,δ3,inner',e1,e2,e3,e4,e5,e6,rfl⟩:=GR e;let⟨a,vs,b,ws,q1,q2,q3,q4,q5,q6⟩:=R.at2 ho e1 e4;refine⟨_,q1,FA g F H,FA g F H,δ,R.bor,?_⟩;rw[e2];rintro v H1 F1 ⟨g1,R1,o1⟩ s1;have ev:v=.int k:=by
   have o1:bI X.K F1 (.int k) v:=o1;unfold bI at o1;exact o1
  subst ev;have hk:aI H H1:=λb o e=>R1.kept b o rfl e;have R2:=R.grow hk;refine⟨a,vs,k,.ref b,rfl,rfl,eJ.of (hk _ _ q2),?_,.inl ⟨rfl,ws,eJ.of (hk _ _ q5)⟩,F,F,JO ow δ,R2.hide,?_⟩
  .unfold atI
   rw[<- q3,e3];exact q4
  .rw[e5]
   rintro us H2 F2 ⟨g3,R3⟩ s3 ra;have hk2:aI H1 H2:=λb o e=>R3.kept b o rfl e;have R4:=R2.back R3;let⟨xs',rv,w1,w2,w3⟩:=hm F2 H2 b ws us inner args d inner' (hk2 _ _ (hk _ _ q5)) R4.sub (s3.repAll _ _ q6) ra e6;exact w3 Q (h rv _ F2 ⟨g,R4.rewrite2 ho e1 q1 (hk2 _ _ (hk _ _ q2)) q4 w1,w2⟩ s3)
theorem M7(i m:Nat){x:Str}{p p2 q:Pos}{id:String}(slot:Slot "list" name id)(hty:typeOf (.builtin id)=pure (.type "method_descriptor"))(hmr:Ĩ X id r)(hm:GE X r op)(hk:∀F H σ,DE X (fD F H σ m) 'g' 0 ek fk)(ha:∀F H σ,DV X (fD F H σ m) 'g' (e::es) fs)(ho:↥(ow.getD i 0=2))(hN:↥(X.N[i]?=some x))(hv:#v[CH X.env.scope x])(hd:⇑(Zdb x))(hcd:⇑(Zcd x))(hp:oA ek:=by exact λ_ _=>rfl)(hbase:↥(attributeBase (.Subscript 'i' ek p2) name X.env (eval (.Subscript 'i' ek p2) X.env)=eval (.Subscript 'i' ek p2) X.env))(hfew:↥(((backTo pos (starEach (e::es) X.env)).all (λx=>!x.1) && (backToKw pos (keywordEach [] X.env)).all (λx=>x.1.isSome)
   && decide ((e::es).length+([]:List Keyword).length+(if ([]:List Keyword).isEmpty then 0 else 1)<30))=true))(hline:↥((q.endLine == pos.line)=true))(hs:↥(Zse e es X.env))(hplain:↥(Zbt pos es X.env)):
  DE X Z ow 0 (.Call (.Attribute (.Subscript 'i' ek p2) name q) (e::es) [] pos) (pR ow i fk op fs):=PE.mono (Δ PySem.F.plainAttrs_list slot hty hmr (FP rP (eD hN hv hd hcd) (KL m hk) hp) (aHA m ha) hbase hfew hline hs hplain) λ_ _ _ h=>GS m ho hm h
theorem UK(i m:Nat){x:Str}{p p2 q:Pos}{id:String}(slot:Slot "list" name id)(hty:typeOf (.builtin id)=pure (.type "method_descriptor"))(hmr:Ĩ X id r)(hm:GE X r op)(hk:∀F H σ,DE X (fD F H σ m) 'g' 0 ek fk)(ho:↥(ow.getD i 0=2))(hN:↥(X.N[i]?=some x))(hv:#v[CH X.env.scope x])(hd:⇑(Zdb x))(hcd:⇑(Zcd x))(hp:oA ek:=by exact λ_ _=>rfl)(hbase:↥(attributeBase (.Subscript 'i' ek p2) name X.env (eval (.Subscript 'i' ek p2) X.env)=eval (.Subscript 'i' ek p2) X.env))(hline:↥((q.endLine == pos.line)=true)):
  DE X Z ow 0 (.Call (.Attribute (.Subscript 'i' ek p2) name q) [] [] pos) (pR ow i fk op []):=PE.mono (aFN PySem.F.plainAttrs_list slot hty hmr (FP rP (eD hN hv hd hcd) (KL m hk) hp) hbase hline) λσ H Q h=>by
 let⟨v,e1,F0,h⟩:=GS m ho hm h;refine⟨v,e1,F0,?_⟩;let⟨F1,δ,R,h⟩:=h;refine⟨F1,δ,R,h.mono (aI.refl _) λy H2 h=>?_⟩;let⟨a,vs,k,u,w1,w2,w3,w4,w5,F2,F3,δ3,R3,q3⟩:=h;refine⟨a,vs,k,u,w1,w2,w3,w4,w5,?_⟩;exact q3 [] H2 F3 R3 (aI.refl _) lQ
def Ņ:ZI->ZI->Option (D×ZI)
 |ds,[]=>(match ds[ds.length-1]? with
  |some d=>some (d,ds.dropLast)
  |none=>none)
 |_,_=>none
theorem aA1:GE X Ε Ņ:=λF H l xs vs ds args ret ds' hl hs h1 h2 e=>by
 unfold Ņ at e;split at e
 .split at e
  .rename_i d e1
   cases e;unfold aD at h2;subst h2;let⟨v,e2,r⟩:=h1.get e1;rw[h1.len]at e2;refine⟨xs.dropLast,v,?_,r,λQ q=>⟨l,xs,v,rfl,rfl,hl,e2,q⟩⟩;rw[List.dropLast_eq_take,List.dropLast_eq_take,<- h1.len];exact h1.take _
  .cases e
 .cases e
theorem cP.enter(hz:∀i,ow.getD i 0=0)(R:cP K Z ow F H σ δ):cP K (fD F H σ m) 'g' F H σ δ:=by
 let⟨g,R⟩:=R;exact⟨λ_=>none,R.sub,⟨R.f0.lm,λ_ _ z=>z⟩,λ_ _ _ e=>e,λ_ h _=>h,λ_ h=>h,λ_ _ _ e=>(by cases e),R.len,λi hi=>(by cases hi),λi d e=>by
  let⟨v,e1,o⟩:=R.slot i d e;rw[hz]at o;exact⟨v,e1,by rw[l6];exact o⟩⟩
theorem cP.leave(hz:∀i,ow.getD i 0=0)(R:cP K Z ow F H σ δ)(R':cI K (fD F H σ m) 'g' g' F' H' σ δ'):cP K Z ow F' H' σ δ':=by
 let⟨g,R⟩:=R;have hk:∀b o,H b=some o->H' b=some o:=λb o e=>R'.kept b o rfl e;refine⟨λ_=>none,R'.sub,R.f0.trans' R'.f0.2,λb o n e=>hk b o (R.kept b o n e),λa h1 h2=>R'.new a (R.new a h1 h2) (R.there a h2),λb h=>?_,λ_ _ _ e=>(by cases e),R'.len,R.par,λi d e=>?_⟩
 .cases e:H b with
  |none=>exact absurd e (R.there b h)
  |some o=>rw[hk b o e];simp
 .obtain⟨v,e1,o⟩:=R'.slot i d e
  rw[l6]at o;exact⟨v,e1,by rw[hz];exact o⟩
theorem cP.reg(hz:∀i,ow.getD i 0=0)(R:cP K Z ow F H σ δ)(hl:∀a i p,g a=some (i,p)->Z.H0 a=none):cI K Z ow g F H σ δ:=by
 let⟨g0,R⟩:=R;exact⟨R.sub,R.f0,R.kept,R.new,R.there,λa i p e=>.inl (hl a i p e),R.len,R.par,λi d e=>by
  let⟨v,e1,o⟩:=R.slot i d e;rw[hz]at o;exact⟨v,e1,by rw[hz];exact o⟩⟩
structure GT(K:ZC)(H0 F H:Hp)(ga:ZP)(n:Nat)(acc:ZI)(ys:List V):Prop where
 len:acc.length=ys.length
 own:∀(k:Nat)(d:D)(v:V),acc[k]?=some d->ys[k]?=some v->aZ K F H ga 1000 n [k] d v
 lab:∀a i p,ga a=some (i,p)->H0 a=none
theorem GT.keep(A:GT K H0 F H g n acc ys)(hF:aI F F')(h:∀a o,H a=some o->F a=none->H' a=some o/\F' a=none):GT K H0 F' H' g n acc ys:=
 ⟨A.len,λk d v e1 e2=>(A.own k d v e1 e2).keep hF λa p o z1 z2 z3=>⟨z1,h a o z2 z3⟩,A.lab⟩
theorem GT.add(A:GT K H0 F H g n acc ys)(R':cI K (fD F H σ m) 'g' g' F' H' σ δ')(o:aZ K F' H' g' 1000 n [] d v)(h0:∀a,H a=none->H0 a=none):
  ∃ga,GT K H0 F' H' ga n (acc++[d]) (ys++[v]):=by
 have hn:∀a l,g' a=some l->H a=none:=λa l e=>by
  let⟨i,p⟩:=l;rcases R'.lab a i p e with z|⟨q,z⟩
  .exact z
  .cases z
 refine⟨λb=>match g' b with|some (i,p)=>if i=1000 then some (1000,ys.length::p)else none|none=>g b,by simp[A.len],λk d' v' e1 e2=>?_,λa i p e=>?_⟩
 .by_cases hk:k<ys.length
  .rw[î (by rw[A.len];exact hk)]at e1
   rw[î hk]at e2;refine(A.own k d' v' e1 e2).keep (H:=H) (H':=H') (show aI F F' from R'.f0.2) λa p o z1(z2:H a=some o)z3=>⟨?_,R'.kept a o rfl z2,R'.new a z3 (show H a≠none by rw[z2];simp)⟩;cases z4:g' a with
   |none=>exact z1
   |some l=>rw[hn a l z4]at z2;cases z2
  .have hk':k=ys.length:=by
    have:=(Ò.mp e2).1;rw[Ë,ì]at this;lia
   subst hk';rw[Þ (Ç _),ú]at e2;rw[<- A.len,Þ (Ç _),ú]at e1;cases e1;cases e2;have:=aZ.relabP (g':=λb=>match g' b with|some (i,p)=>if i=1000 then some (1000,ys.length::p)else none|none=>g b) (j:=1000) (q:=[ys.length]) (λa p e=>by
    show (match g' a with|some (i,p)=>if i=1000 then some (1000,ys.length::p)else none|none=>g a)=_;rw[e];exact Á rfl) o
   exact this
 .cases z:g' a with
  |none=>rw[z]at e;exact A.lab a i p e
  |some l=>exact h0 a (hn a l z)
theorem RI.turn2{d:D}(T:RI X.K F1 J ds)(R:cP X.K Z ow F H σ δ)(s:aI F1 F)(y:J.yld i H x H')(e:ds[i]?=some d):∃F',aI F F'/\cP X.K Z ow F' H' σ δ/\bI X.K F' d x/\∀a o,H a=some o->F a=none->H' a=some o/\F' a=none:=by
 rcases T.yld i H x H' d (s.trans' R.sub) y e with ⟨rfl,r⟩|⟨p,o,hp,rfl,r⟩
 .exact⟨F,aI.refl _,R,s.rep _ _ r,λa o z1 z2=>⟨z1,z2⟩⟩
 .have fp:=R.fnone hp
  refine⟨aX F p o,cL fp o,R.laid hp,r F s fp,λa u z1 z2=>?_⟩;have:a≠p:=λz=>by rw[z,hp]at z1;cases z1
  rw[aH this,aH this];exact⟨z1,z2⟩
theorem PV(hz:∀i,ow.getD i 0=0)(i:Nat):(List.replicate k 0++ow).getD i 0=0:=by
 by_cases h:i<k
 .rw[Ê,î (by simpa using h),ă]
  split<;>rfl
 .obtain⟨j,rfl⟩:∃j,i=j+k:=⟨i-k,∅⟩
  rw[lW];exact hz j
theorem GU(h:ow.all (· == 0)=true)(i:Nat):ow.getD i 0=0:=by
 by_cases hl:i<ow.length
 .have:=è.mp h ow[i] (Đ hl)
  rw[Ê,É hl];simpa using this
 .rw[Ê,æ (by exact ç.mp ‹_›)];rfl
theorem BL{set:D->DS->Option DS}(m:Nat)(hkd:kd (n+1)=0)(hch:∀k,ch (n+1) k=n)(S:aO Z ow)(Sk:aO (Z.sh k) (List.replicate k 0++ow))(hz:∀i,ow.getD i 0=0)(hs:YM X (Z.sh k) (List.replicate k 0++ow) k gt set)(q:tD X Z ow (n+1) (dZ k set fi eG fe) σ H Q):L5 k (tI X Z ow fi) gt (λ_ H Q=>Q true H) (λσ H Q=>∃F0,ė X (fD F0 H σ m) 'g' n fe σ H Q) σ H Q:=by
 let⟨F,δ,R,q⟩:=q;unfold dZ at q;refine⟨F,δ,R,?_⟩;cases e1:fi δ with
 |stuck=>rw[e1]at q;exact q.elim
 |err x δ1=>rw[e1]at q;exact q
 |ok ds δ1=>
  rw[e1]at q;simp![Res.bind]at q;intro J H1 F1 R1 s1 T;have hcase:∃acc δ2,bQ set eG fe ds [] (List.replicate k none++δ1)=.ok acc δ2/\k<=δ2.length/\kD X Z ow (n+1) (.ok (.list acc) (δ2.drop k)) F σ Q:=by
   cases e2:bQ set eG fe ds [] (List.replicate k none++δ1)with
   |stuck=>rw[e2]at q;exact q.elim
   |err x δ2=>rw[e2]at q;exact q.elim
   |ok acc δ2=>
    rw[e2]at q;dsimp only at q;split at q
    .rename_i hk;exact⟨acc,δ2,rfl,hk,q⟩
    .exact q.elim
  let⟨acc,δ2,e2,hk2,q⟩:=hcase;have hz':∀i,(List.replicate k 0++ow).getD i 0=0:=PV hz;refine⟨λi m ys σ' H'=>m=ds.length-i/\i<=ds.length/\σ'.length=σ.length+k/\(∀i,σ'[i+k]?=σ[i]?)/\∃F2 δ' acc' ga,cP X.K (Z.sh k) (List.replicate k 0++ow) F2 H' σ' δ'/\aI F1 F2/\GT X.K Z.H0 F2 H' ga n acc' ys/\bQ set eG fe (ds.drop i) acc' δ'=.ok acc δ2,
   ⟨ds.length,rfl,é _,by simp;exact Nat.add_comm _ _,λi=>by rw[Þ 'e',ñ,đ],F1,_,[],λ_=>none,R1.sh S,aI.refl _,⟨rfl,λk d v e=>(by cases e),λa i p e=>(by cases e)⟩,e2⟩,?_⟩
  rintro i m' ys σ2 H2 ⟨rfl,hi,hl2,hσ2,F2,δ',acc',ga,R2,s2,A2,e3⟩;by_cases hlt:i<ds.length
  .have ed:=É hlt
   have ee:ds.drop i=ds[i]::ds.drop (i+1):=ò hlt;rw[ee]at e3;unfold bQ at e3;cases e4:set ds[i] δ' with
   |none=>simp![e4]at e3;cases e3
   |some δ3=>
    simp![e4]at e3;have e3':((fe δ3).bind λy δ3=>if acc'.length<sizeLine then bQ set eG fe (ds.drop (i+1)) (acc'++[y]) δ3 else .stuck)=.ok acc δ2:=e3;cases e6:fe δ3 with
    |stuck=>rw[e6]at e3';cases e3'
    |err x δ5=>rw[e6]at e3';cases e3'
    |ok yd δ5=>
     rw[e6]at e3';simp![Res.bind]at e3';split at e3'
     .rename_i small
      refine .inr ⟨T.go i H2 (s2.trans' R2.sub) hlt,by rw[<- A2.len];exact small,λzs σ'' H''=>σ''.length=σ.length+k/\(∀i,σ''[i+k]?=σ[i]?)/\∃F3 δ' acc' ga,cP X.K (Z.sh k) (List.replicate k 0++ow) F3 H'' σ'' δ'/\aI F1 F3/\GT X.K Z.H0 F3 H'' ga n acc' zs/\bQ set eG fe (ds.drop (i+1)) acc' δ'=.ok acc δ2,λzs σ'' H'' z=>⟨ds.length-(i+1),∅,rfl,hlt,z⟩,λx H3 y=>?_⟩
      let⟨F3,s3,R3,r3,k3⟩:=T.turn2 R2 s2 y ed;refine hs F3 H3 σ2 δ' δ3 ds[i] x _ R3 r3 e4 λσ3 R4 l3 _ hσ3=>?_;dsimp only;rw[Á rfl];refine⟨F3,F3,δ3,R4.enter hz',?_⟩;rw[e6];rintro yv H6 F6 ⟨g6,R6,o6⟩ s6;have hl3:σ3.length=σ.length+k:=by exact Eq.trans ‹_› ‹_›
      have hσ4:∀i,σ3[i+k]?=σ[i]?:=λi=>(hσ3 i).trans (hσ2 i);have A3:=A2.keep s3 k3;let⟨ga',A4⟩:=A3.add R6 o6 λa ha=>by
       cases z:Z.H0 a with
       |none=>rfl
       |some u=>
        let⟨g4,R4⟩:=R4;exact absurd ha (R4.there a (by show Z.H0 a≠none;rw[z];simp))
      exact⟨hl3,hσ4,F6,δ5,acc'++[yd],ga',R4.leave hz' R6,s2.trans' (s3.trans' s6),A4,e3'⟩
     .cases e3'
  .have e:i=ds.length:=by lia
   subst e;rw[List.drop_length]at e3;unfold bQ at e3;cases e3;refine .inl ⟨T.stop H2 (s2.trans' R2.sub),λp hp=>?_⟩;have R7:cP X.K Z ow F2 H2 σ (δ2.drop k):=R2.unsh S Sk hσ2 hl2 hk2;have fp:=R7.fnone hp;have zp:Z.H0 p=none:=by
    cases z:Z.H0 p with
    |none=>rfl
    |some u=>
     let⟨g4,R4⟩:=R7;exact absurd hp (R4.there p (by rw[z];simp))
   refine q _ _ F2 ⟨λb=>if b=p then some (1000,[])else ga b,(R7.reg hz λa i q e=>?_).grow (cL hp _),?_⟩ (s1.trans' s2)
   .split at e
    .rename_i z;rw[z];exact zp
    .exact A2.lab a i q e
   .refine aZ.mkL (hk:=hkd) (hm:=hch) ⟨p,acc,ys,rfl,rfl,Á rfl,aM,fp,A2.len,λk d v z1 z2=>?_⟩
    refine aZ.keep (aI.refl _) (λa q o y1 y2 y3=>?_) (A2.own k d v z1 z2);have:a≠p:=λz=>by rw[z,hp]at y2;cases y2
    rw[aH this];exact⟨by rw[Â this];exact y1,y2,y3⟩
theorem PX{set:D->DS->Option DS}(m:Nat)(S:aO Z ow)(Sk:aO (Z.sh xs.length) 'j')(hc:X.calm=true)(hi:DI X Z ow tg iter fi)(hg:∀C fp s H,PG 'd' tg gt)(hs:YM X (Z.sh xs.length) 'j' xs.length gt set)(he:∀C fp s H,∀F1 H1 σ1,DE 'd' (fD F1 H1 σ1 m) 'g' n elt fe)(hz:↥(ow.all (· == 0)=true))(hkd:↥(kd (n+1)=0))(hch: ~~~(∀k,ch (n+1) k=n))(hk:↥(scope.kind=.function))(hok:↥(dJ X.N xs scope.names X.env.scope.names=true))(hfs: ~~~(Zfi iter X.env)):
  DE X Z ow (n+1) (.ListComp elt [⟨tg,iter,[],0⟩] scope pos) (dZ xs.length set fi eG fe):=
 PE.mono (FV (ti:=λ_ H Q=>Q true H) (te:=λσ H Q=>∃F0,ė X (fD F0 H σ m) 'g' n fe σ H Q) hc hi hg (λC fp s H=>CU) (λC fp s H U s' σ H' Q I zQ=>by let⟨F0,h⟩:=zQ;exact he C fp s H F0 H' σ U s' σ H' Q I (GI (X:=X) (X':=aQ X xs scope C fp s H) rfl h)) hk hok hfs)
  λ_ _ _ q=>BL m hkd hch S Sk (GU hz) hs q
theorem AL(i:Nat){x:Str}{pos' spos:Pos}{set:D->DS->Option DS}(m:Nat)(S:aO Z ow)(Sk:aO (Z.sh xs.length) 'j')(hc:X.calm=true)(hN:X.N.Nodup)(hi:DI X Z ow tg iter fi)(hg:∀C fp s H,PG 'd' tg gt)(hs:YM X (Z.sh xs.length) 'j' xs.length gt set)(he:∀C fp s H,∀F1 H1 σ1,DE 'd' (fD F1 H1 σ1 m) 'g' n elt fe)(hz:↥(ow.all (· == 0)=true))(hkd:↥(kd (n+1)=0))(hch: ~~~(∀k,ch (n+1) k=n))(hx:↥(X.N[i]?=some x))(hl:↥(X.env.scope.names.lookup x=some .local))(hps:↥(Z.ps.contains i=false))(hlo:⇑(i<ow.length))(hsw:↥(swapsWith (.ListComp elt [⟨tg,iter,[],0⟩] scope pos) (some (.Name x pos')) spos.line X.env=pure true))(hk:↥(scope.kind=.function))(hok:↥(dJ X.N xs scope.names X.env.scope.names=true))(hfs: ~~~(Zfi iter X.env)):
  AE X Z ow (ow.set i (n+1)) ol ox rm (.Assign [.Name x pos'] (.ListComp elt [⟨tg,iter,[],0⟩] scope pos) spos) (fL i (dZ xs.length set fi eG fe)):=
 PS.mono (lN (ti:=λ_ H Q=>Q true H) (te:=λσ H Q=>∃F0,ė X (fD F0 H σ m) 'g' n fe σ H Q) hc hN hx hl hi hg (λC fp s H=>CU) (λC fp s H U s' σ H' Q I zQ=>by let⟨F0,h⟩:=zQ;exact he C fp s H F0 H' σ U s' σ H' Q I (GI (X:=X) (X':=aQ X xs scope C fp s H) rfl h)) hsw hk hok hfs)
  λDn σ H h=>BL m hkd hch S Sk (GU hz) hs (v2 S (dE hps) hlo h)
end
end L2
namespace L2
open PySem PySem.Spec
section
def UL(ow:ZH)(i:Nat)(o:Option (ZL))(k:D)(op:ZI->ZI->Option (D×ZI))(fs:List (M D))(δ:DS)(Q:D->ZO)(_w:Wt Q:=⟨⟩):Prop:=
 ∃ds n j inner,o=some (some (.list ds))/\k=.int n/\mY ds.length n=some j/\ds[j]?=some (.list inner)/\aV (aY fs) (JO ow δ) λargs _=>∃ret inner',op inner args=some (ret,inner')/\Q ret (δ.set i (some (.list (ds.set j (.list inner')))))
theorem KM:aV (pR ow i fk op fs) δ Q=aV fk δ λk _=>UL ow i δ[i]? k op fs δ Q:=by
 refine propext ⟨λh=>?_,λh=>?_⟩
 .obtain⟨d,δ1,e,q⟩:=h.ex
  let⟨ds,n,δ2,j,inner,args,δ3,inner',e1,e2,e3,e4,e5,e6,rfl⟩:=GR e;exact aV.of e2 ⟨ds,n,j,inner,e1,rfl,e3,e4,aV.of e5 ⟨d,inner',e6,q⟩⟩
 .obtain⟨k,δ2,e2,q⟩:=h.ex
  let⟨ds,n,j,inner,e1,rfl,e3,e4,w⟩:=q;let⟨args,δ3,e5,ret,inner',e6,q⟩:=w.ex;refine aV.of (a:=ret) (δ1:=δ.set i (some (.list (ds.set j (.list inner'))))) ?_ q;unfold pR;rw[e1];dsimp only;rw[e2];dsimp only;rw[e3];dsimp only;rw[e4];dsimp only;rw[e5];dsimp only;rw[e6]
def M8(o:Option (D×ZI))(ds:ZI)(j i:Nat)(δ:DS)(Q:D->ZO)(_w:Wt Q:=⟨⟩):Prop:=∃ret inner',o=some (ret,inner')/\Q ret (δ.set i (some (.list (ds.set j (.list inner')))))
theorem KN{ds inner:ZI}(e3:mY ds.length n=some j)(e4:ds[j]?=some (.list inner)):UL ow i (some (some (.list ds))) (.int n) op fs δ Q=aV (aY fs) (JO ow δ) λargs _=>M8 (op inner args) ds j i δ Q:=by
 unfold UL M8;refine propext ⟨λh=>?_,λh=>?_⟩
 .obtain⟨ds',n',j',inner',h1,h2,h3,h4,w⟩:=h
  cases h1;cases h2;rw[e3]at h3;cases h3;rw[e4]at h4;cases h4;exact w
 .exact⟨ds,n,j,inner,rfl,rfl,e3,e4,h⟩
theorem aHB:M8 (some (r,l)) ds j i δ Q=Q r (δ.set i (some (.list (ds.set j (.list l))))):=propext ⟨λ⟨_,_,h,q⟩=>by cases h;exact q,λq=>⟨_,_,rfl,q⟩⟩
theorem xL{d:D}:M8 (KA l [d]) ds j i δ Q=(l.length<sizeLine/\Q .none (δ.set i (some (.list (ds.set j (.list (l++[d]))))))):=by
 refine propext ⟨λzQ=>?_,λzQ=>by let⟨h,p⟩:=zQ;exact ⟨_,_,Á h,p⟩⟩;let⟨r,d2,h,p⟩:=zQ;unfold KA at h;dsimp only at h;split at h
 .rename_i hc;cases h;exact⟨hc,p⟩
 .cases h
end
end L2
namespace L2
open PySem PySem.Spec PyProof.Rows
end L2
namespace L2
open PySem PySem.Spec
end L2
namespace L2
open PySem PySem.Spec PyProof.Rows
section
end
end L2
namespace L2
open PySem PySem.Spec
end L2
namespace L2
open PySem PySem.Spec PyProof.Rows
section
end
section
def iR(x:Str)(n:Int):Str:=⟨(List.replicate n.toNat x.cps).foldl (·++·) #[]⟩
theorem GV :∀(n:Nat)(a:Array Nat),((List.replicate n x).foldl (·++·) a).size=a.size+n*x.size
 |0,a=>by simp
 |n+1,a=>by rw[List.replicate_succ,List.foldl_cons,GV n,Array.size_append,Nat.succ_mul];omega
theorem i8:(iR x n).length=n.toNat*x.length:=by
 show ((List.replicate n.toNat x.cps).foldl (·++·) #[]).size=_;rw[GV];simp;rfl
theorem UM(hx:x.all (·<0x110000)=true):∀(n:Nat)(a:Array Nat),a.all (·<0x110000)=true->((List.replicate n x).foldl (·++·) a).all (·<0x110000)=true
 |0,a,ha=>ha
 |n+1,a,ha=>by
  rw[List.replicate_succ,List.foldl_cons];refine UM hx n _ ?_;rw[Array.all_append,ha,hx];rfl
theorem M9(hx:PyData.strOk x=true):PyData.strOk (iR x n)=true:=UM hx _ _ 'e'
theorem NA:∀n:Nat,(List.replicate n (#[]:Array Nat)).foldl (·++·) #[]=#[]
 |0=>rfl
 |n+1=>by
  rw[List.replicate_succ,List.foldl_cons,Array.append_empty];exact NA n
theorem aA2:j3 X (binaryOp .Mult) (λx y H Q=>∃i n,x=.str i/\y=.int n/\i.length<=1000/\0<=n/\n<=1000/\Q (.str (iR i n)) H):=by
 intro U s σ H x y v u Q I rx ry h;let⟨i,n,rfl,rfl,h1,h2,h3,q⟩:=h;let⟨t,rfl⟩:=rx;let⟨t',rfl⟩:=ry;have hm:i.length*n.toNat<=1000*1000:=Nat.mul_le_mul h1 (by omega);have hz:sizeLine=2^24:=rfl;refine PySem.P.mul_str 'k' (λg1 _ g2=>?_) (λ_ _=>?_) ?_
 .have:(1000:Int)<=(2^63-1)/n:=Int.le_ediv_of_mul_le (by omega) (by omega)
  omega
 .unfold Builtin.Str.tooLong
  grind
 .split
  .rename_i g
   have e:n.toNat=0:=by omega
   have e2:iR i n=Str.empty:=by
    unfold iR;rw[e];rfl
   rw[e2]at q;exact⟨⋯,.str Str.empty,H,I.tok _,⟨_,rfl⟩,q⟩
  .split
   .rename_i g
    rw[Bool.or_eq_true,beq_iff_eq,beq_iff_eq]at g;refine⟨.str (iR i n),H,I,⟨t,?_⟩,q⟩;have:iR i n=i:=by
     unfold iR;rcases g with rfl|g
     .simp_all
     .have e:i.cps=#[]:=Array.eq_empty_of_size_eq_zero g
      rw[e,NA,<- e]
    rw[this]
   .refine⟨?_,.str (iR i n),H,I.tok _,⟨_,rfl⟩,q⟩
    have:=i8 (x:=i) (n:=n);unfold iR at this
    grind
def ņ:D->D->ZL
 |.str i,.int n=>if i.length<=1000/\0<=n/\n<=1000 then some (.str (iR i n))else none
 |_,_=>none
theorem aA4:oG X (λx y H Q=>∃i n,x=.str i/\y=.int n/\i.length<=1000/\0<=n/\n<=1000/\Q (.str (iR i n)) H) 0 ņ:=λZ ow F H σ δ a b x y d Q S R ra rb e q=>by
 unfold ņ at e;split at e
 .rename_i i n
  split at e
  .rename_i hc
   cases e;exact⟨i,n,j4 ra,iF rb,hc.1,hc.2.1,hc.2.2,q _ H F (R.x ME) (aI.refl _)⟩
  .cases e
 .cases e
theorem NB(S:aO Z ow)(ha:DE X Z ow 0 a f)(hb:DE X Z ow 0 b h):DE X Z ow 0 (.BinOp a .Mult b pos) (iW ņ f h):=vE S aA2 aA4 ha hb
theorem ϓ(h1:i.length<=1000)(h2:0<=n)(h3:n<=1000):ņ (.str i) (.int n)=some (.str (iR i n)):=Á ⟨h1,h2,h3⟩
end
def Ū(K:ZC)(a:Addr)(n:Nat):It:=
 ⟨λi H=>∃xs,eJ K H a xs/\xs.length=n/\i<n,
   λi H v H'=>H'=H/\∀xs,eJ K H a xs->xs[xs.length-1-i]?=some v,
   λi H=>i=n/\∃xs,eJ K H a xs⟩
theorem UN{P:Program}{w:World}{K:ZC}{tg:Expr}(a it:Addr)(n:Nat):FK P w K tg (Ū K a n) [it] it (λi h=>i<=n/\h.IsRevIter it a ((n:Int)-1-(i:Int))) where
 mem:=by simp
 obj:=λi h st b hb=>by
  have e:b=it:=by simpa using hb
  subst e;let⟨_,o,e,c,d⟩:=st;exact⟨o,e,λv z=>by rw[d]at z;cases z⟩
 keep:=λi h h' st k=>⟨st.1,st.2.at λo e=>k it 'e' o e⟩
 item:=by
  intro X hP hw hK hc i U s σ H E I hf st hg;subst hP hw hK;let⟨xs,hq,hl,hi⟩:=hg;subst hl;let⟨its,rv,p,hz⟩:=I.list hq;have hx:xs[xs.length-1-i]?=some (xs[xs.length-1-i]'(by omega)):=É (by omega);let⟨u,hu,ru⟩:=rv.get hx;let⟨f0,f1,f2,f3,f4,f5⟩:=hf it 'e';have e0:(xs.length:Int)-1-(i:Int)=((xs.length-1-i:Nat):Int):=by omega
  have st2:=st.2;rw[e0]at st2;refine wpAny_pyNext_rev_item st2 p.isList (x:=u) (by simpa using hu) λh' st' sb=>?_;have I1:Inv X U σ H {s with heap:=h'}:=I.turned (t':=s.toks) (λb o hb e=>(sb.2 b hb).trans e) f0 f1 f3 f4 f5;have e2:((xs.length-1-i:Nat):Int)-1=(xs.length:Int)-1-((i+1:Nat):Int):=by omega
  rw[e2]at st';let⟨o,e,c,d⟩:=id st';exact⟨u,rfl,FL (s:={s with heap:=h'}) e c d ⋯ ⟨xs[xs.length-1-i]'(by omega),H,I1,ru,⟨rfl,λys hy=>by rw[I.list_inj hy hq];exact hx⟩,⟨hi,st'⟩,λb hb=>(hf b hb).1⟩⟩
 done:=by
  intro X hP hw hK hc i U s σ H E I hf st hg;subst hP hw hK;let⟨rfl,xs,hq⟩:=hg;let⟨f0,f1,f2,f3,f4,f5⟩:=hf it 'e';have st2:=st.2;rw[show (i:Int)-1-(i:Int)=-1 by omega]at st2;exact wpAny_pyNext_rev_end (I.ok.hd hc) st2 λh' eb=>⟨rfl,I.turned (t':=s.toks) (λb o hb e=>eb b o hb e) f0 f1 f3 f4 f5⟩
 self:=λ_ _ _ _ _ st h=>wpAny_pyIter_revIter st.2 h
section
theorem AM:bootBuiltins "reversed"=some (.type "reversed"):=by first|rfl|kernel_rfl|decide +kernel
def aM8(K:ZC)(ta:TA):TI:=λσ H R=>ta σ H λvs H1=>∃a xs,vs=[.ref a]/\eJ K H1 a xs/\R (Ū K a xs.length) H1
theorem aHC(hg:Gl X "reversed")(hm:X.mg "reversed"=none)(ha:PA X [a] ta)(hs:↥(starEach [a] X.env=[(false,eval a X.env)])):
  PI X tg (.Call (.Name "reversed" p) [a] [] pos) (aM8 X.K ta):=by
 intro U s σ H R I h;refine Call_ (iE I hg hm AM (callWith_type1 (cN (ha pos U s σ H _ I h) λus s1 zQ=>?_) hs rfl));let⟨vs,H1,I1,r1,q1⟩:=zQ;let⟨l,xs,e,hx,q⟩:=q1;subst e;cases r1 with
 |cons r rr=>
  cases rr;cases r;let⟨ia,ra,pa,_⟩:=I1.list hx;have la:=ra.length;refine call_reversed_list pa.isList ?_;have st:(s1.heap.push (revObj l ((ia.toArray.size:Int)-1))).IsRevIter s1.heap.objs.size l ((xs.length:Int)-1-((0:Nat):Int)):=⟨_,Heap.get?_push_size _ rfl,rfl,by
   show Data.fields #[.ref l,rawInt ((ia.toArray.size:Int)-1)]=_;rw[í,<- la];simp⟩
  refine wpAny_pyIter_revIter (s:={s1 with heap:=s1.heap.push (revObj l ((ia.toArray.size:Int)-1))}) st ?_;refine⟨s1.heap.objs.size,[s1.heap.objs.size],_,_,H1,rfl,I1.kept (t':=s1.toks) λb o e=>Heap.get?_push_of_some _ e,UN l _ xs.length,⟨é _,st⟩,λb hb=>?_,q⟩;have e:b=s1.heap.objs.size:=by simpa using hb
  subst e;exact I1.fpOk (Ç _) (I1.hok.fresh (Ç _))
end
theorem aA5{K:ZC}{F:Hp}{a:Addr}{xs:List V}{ds:ZI}(hx:eJ K F a xs)(rx:aD K F ds xs):RI K F (Ū K a xs.length) ds.reverse where
 go:=λi H s hi=>by
  have l1:=rx.len;rw[List.length_reverse]at hi;exact⟨xs,s.seq hx,rfl,by omega⟩
 yld:=λi H v H' d s y e=>.inl ⟨y.1,by
  have l1:=rx.len;have hi:=(Ò.mp e).1;rw[List.length_reverse]at hi;rw[List.getElem?_reverse hi]at e;let⟨x',f1,g1⟩:=rx.get e;have:=y.2 xs (s.seq hx);rw[<- l1,f1]at this;cases this;exact g1⟩
 stop:=λH s=>⟨by rw[List.length_reverse,rx.len],xs,s.seq hx⟩
def Ň(f:M D):M (ZI):=λδ=>(aY [f] δ).bind λds δ1=>match ds with
 |[.list as]=>.ok as.reverse δ1
 |_=>.stuck
section
theorem aHD(hgl:Gl X "reversed")(hm:X.mg "reversed"=none)(ha:DE X Z ow 0 a f)(hst:↥(Zse a [] X.env)):
  DI X Z ow tg (.Call (.Name "reversed" p2) [a] [] p3) (Ň f):=
 (aHC hgl hm (aE ha aS hst) hst).mono λσ H R q=>by
  let⟨F,δ,Rl,q⟩:=q;unfold Ň at q;refine⟨F,δ,Rl,?_⟩;cases e1:aY [f] δ with
  |stuck=>rw[e1]at q;exact q.elim
  |err x δ1=>rw[e1]at q;exact q
  |ok ds δ1=>
   rw[e1]at q;simp![Res.bind]at q;intro vs H1 F1 R1 s1 ra;split at q
   .rename_i as
    let⟨v,rfl,r⟩:=AH ra;let⟨l,xs,rfl,hp,hr⟩:=kP r;exact⟨l,xs,rfl,R1.sub.seq hp,q _ H1 F1 R1 s1 (aA5 hp hr)⟩
   .exact q.elim
end
section
end
section
end
def jK(f:Str):ZG->Nat
 |[]=>0
 |g::r=>if g=f then 0 else jK f r+1
def AN(f:Str):ZG->ZG
 |[]=>[f]
 |g::r=>if g=f then g::r else g::AN f r
def vX{α:Type}(k:Nat)(y:α)(xs:List α):List α:=if k<xs.length then xs.set k y else xs++[y]
theorem UO :∀{fs:ZG},jK f fs<=fs.length
 |[]=>Ç _
 |g::r=>by
  unfold jK;split
  .exact é _
  .have:=UO (f:=f) (fs:=r);rw[Õ];exact Nat.lt_succ_of_le ‹_›
theorem BM{xs:List α}:vX (k+1) y (x::xs)=x::vX k y xs:=by
 unfold vX;by_cases h:k<xs.length
 .rw[Á (by rw[Õ];exact Nat.succ_lt_succ ‹_›),Á h];rfl
 .rw[Â (by rw[Õ];lia),Â h];rfl
theorem xM{xs:List α}:(vX k y xs).length=if k<xs.length then xs.length else xs.length+1:=by
 unfold vX;split
 .rw[Ù]
 .rw[Ë];rfl
theorem NC{xs:List α}(h:k<=xs.length)(j:Nat):(vX k y xs)[j]?=if j=k then some y else xs[j]?:=by
 unfold vX;by_cases hk:k<xs.length
 .rw[Á hk]
  by_cases hj:j=k
  .subst hj;rw[Á rfl,ð hk]
  .rw[Â hj,ß (Ð hj)]
 .rw[Â hk]
  have:k=xs.length:=by lia
  subst this;by_cases hj:j=xs.length
  .subst hj;rw[Á rfl,Þ (Ç _),ú];rfl
  .rw[Â hj]
   by_cases hl:j<xs.length
   .rw[î hl]
   .rw[æ (by rw[Ë,ì];lia),æ (by exact ç.mp ‹_›)]
theorem GW :∀{fs:ZG},(AN f fs).length=if jK f fs<fs.length then fs.length else fs.length+1
 |[]=>rfl
 |g::r=>by
  unfold AN jK;by_cases h:g=f
  .rw[Á h,Á h,Á (by rw[Õ];exact Ă _)]
  .rw[Â h,Â h,Õ,GW (f:=f) (fs:=r),Õ]
   by_cases q:jK f r<r.length
   .rw[Á q,Á (by exact Nat.succ_lt_succ ‹_›)]
   .rw[Â q,Â ∅]
theorem i9 :∀{fs:ZG}{vs:List V},fs.length=vs.length->(fs.zip vs).lookup f=vs[jK f fs]?
 |[],[],_=>rfl
 |g::fs,v::vs,h=>by
  rw[á];unfold jK;by_cases e:g=f
  .rw[Á e,ã,show (f == g)=true by rw[e];exact beq_self_eq_true _]
   rfl
  .rw[Â e,ã,show (f == g)=false from beq_eq_false_iff_ne.mpr (Ð e),List.getElem?_cons_succ]
   exact i9 (by simpa using h)
theorem GX :∀{fs:ZG}{vs:List V},fs.length=vs.length->kF f y (fs.zip vs)=(AN f fs).zip (vX (jK f fs) y vs)
 |[],[],_=>rfl
 |g::fs,v::vs,h=>by
  rw[á];unfold kF AN jK;by_cases e:g=f
  .rw[Á e,Á e,Á e];rfl
  .rw[Â e,Â e,Â e,BM,á,GX (by simpa using h)]
def mB(f:Str):List (D×D)->ZL
 |(.str g,d)::r=>if g=f then some d else mB f r
 |_=>none
def oZ(f:Str):List (D×D)->Nat
 |(.str g,_)::r=>if g=f then 0 else oZ f r+1
 |_=>0
def pT(f:Str)(y:D):List (D×D)->List (D×D)
 |(.str g,d)::r=>if g=f then (.str g,y)::r else (.str g,d)::pT f y r
 |_=>[(.str f,y)]
theorem nG :∀{fs:ZG}{ds:ZI},fs.length=ds.length->mB f ((fs.map PyData.str).zip ds)=ds[jK f fs]?
 |[],[],_=>rfl
 |g::fs,v::vs,h=>by
  rw[Î,á];unfold mB jK;by_cases e:g=f
  .rw[Á e,Á e];rfl
  .rw[Â e,Â e,List.getElem?_cons_succ]
   exact nG (by simpa using h)
theorem sI :∀{fs:ZG}{ds:ZI},fs.length=ds.length->oZ f ((fs.map PyData.str).zip ds)=jK f fs
 |[],[],_=>rfl
 |g::fs,v::vs,h=>by
  rw[Î,á];unfold oZ jK;rw[sI (by simpa using h)]
theorem uH :∀{fs:ZG}{ds:ZI},fs.length=ds.length->pT f y ((fs.map PyData.str).zip ds)=((AN f fs).map PyData.str).zip (vX (jK f fs) y ds)
 |[],[],_=>rfl
 |g::fs,v::vs,h=>by
  rw[Î,á];unfold pT AN jK;by_cases e:g=f
  .rw[Á e,Á e,Á e];rfl
  .rw[Â e,Â e,Â e,BM,Î,á,uH (by simpa using h)]
def gS(nm f:Str):D->ZL
 |.dict ((.none,.str n)::À)=>if n=nm then mB f À else none
 |_=>none
section
variable {X:Cx}{Z:b8}{ow:ZH}{pos:Pos}{e a c:Expr}{h:M D}{F H:Hp}{g:ZP}{K:ZC}{nm f:Str}
def UP(K:ZC)(nm f:Str):Prop:=∀C,W.nsIn K mainGlobals nm=some (some (.ref C))->RF K C/\lJ K C f
theorem GY:∀{À:List (D×D)}{fs:ZG},À.map Prod.fst=fs.map PyData.str->À=(fs.map PyData.str).zip (À.map Prod.snd)
 |[],[],_=>rfl
 |(k,d)::À,g::fs,h=>by
  rw[Î,Î]at h;injection h with h1 h2;rw[Î,Î,á,<- GY h2];exact congrArg (λk=>(k,d)::À) h1
theorem ND{d r:D}(h:bI K F d v)(e:gS nm f d=some r):∃a C dx fs y,v=.ref a/\F a=some (.ins C dx fs)/\W.nsIn K mainGlobals nm=some (some (.ref C))/\fs.lookup f=some y/\bI K F r y:=by
 unfold gS at e;split at e
 .rename_i n À
  split at e
  .rename_i hn
   subst hn;unfold bI at h;let⟨a,xs,rfl,hh,hr⟩:=h;rcases hh with ⟨nm',fs,C,dx,vs,h1,h2,h3,h4,h5,h6⟩|⟨ms,h1,_⟩
   .subst h1
    rw[Î]at h2;injection h2 with _ h2;unfold iN at hr;let⟨x,t,hx,r1,r2⟩:=hr;injection hx with hx1 hx2;subst hx2;unfold bI at r1;rw[<- hx1]at r1;injection r1 with r1;subst r1;rw[GY h2]at e;have hl:fs.length=(À.map Prod.snd).length:=by rw[<- Ä (f:=PyData.str),<- h2,Ä,Ä]
    rw[nG hl]at e;let⟨y,y1,y2⟩:=r2.all.get e;exact⟨a,C,dx,_,y,rfl,h4,h6,by rw[i9 h3];exact y1,y2⟩
   .exfalso
    rw[Î]at h1;cases ms with
    |nil=>cases h1
    |cons m ms=>
     rw[Î]at h1;injection h1 with h1 _;cases m<;>cases h1
  .cases e
 .cases e
theorem dO(nm:Str)(hc:UP X.K nm f)(ha:DE X Z ow 0 e fe)(hb:↥(attributeBase e f X.env (eval e X.env)=eval e X.env)):DE X Z ow 0 (.Attribute e f pos) (DD (gS nm f) fe):=PE.mono (CJ ha hb) λσ H Q q=>by
 let⟨F,δ,R,q⟩:=q;unfold DD at q;refine⟨F,δ,R,?_⟩;cases e1:fe δ with
 |stuck=>rw[e1]at q;exact q.elim
 |err x δ1=>rw[e1]at q;exact q
 |ok d δ1=>
  rw[e1]at q;simp![Res.bind]at q;intro v H1 F1 R1 s1;cases e2:gS nm f d with
  |none=>rw[e2]at q;exact q.elim
  |some r=>
   rw[e2]at q;let⟨a,C,dx,fs,y,rfl,h1,h2,h3,h4⟩:=ND R1.rep e2;let⟨c1,c2⟩:=hc C h2;exact⟨a,C,dx,fs,y,rfl,R1.rel.sub _ _ h1,c1,c2,h3,q y H1 F1 (R1.rel.x h4) s1⟩
theorem aZ.ins{i c:Nat}(h:aZ K F H g i c p d v)(hk:kd c=2):
  ∃a nm fs C dx ds vs,d=dL nm fs ds/\v=.ref a/\fs.length=ds.length/\ds.length=vs.length/\W.nsIn K mainGlobals nm=some (some (.ref C))/\g a=some (i,p)/\H a=some (.ins C dx (fs.zip vs))/\F a=none/\g dx=some (i,p++[1000])/\H dx=some (.own a)/\F dx=none /\
   ∀(k:Nat)(d':D)(v':V),ds[k]?=some d'->vs[k]?=some v'->aZ K F H g i (ch c k) (p++[k]) d' v':=by
 cases c with
 |zero=>cases hk
 |succ c=>
  let⟨ds,vs,cs,nd,hc,hl,r⟩:=h.open;rw[hk]at nd;let⟨a,nm,fs,C,dx,h1,h2,h3,h4,rfl⟩:=nd;let⟨a1,a2,a3⟩:=hc _ Ó;let⟨b1,b2,b3⟩:=hc _ (Ï _ (ó.mpr rfl));exact⟨a,nm,fs,C,dx,ds,vs,h1,h2,h3,hl,h4,by simpa using a1,a2,a3,b1,b2,b3,r⟩
theorem aZ.mkI{i c:Nat}{p:ZH}{a C dx:Addr}{fs:ZG}{ds:ZI}{vs:List V}(hk:kd c=2)(h3:fs.length=ds.length)(hl:ds.length=vs.length)(h4:W.nsIn K mainGlobals nm=some (some (.ref C)))(a1:g a=some (i,p))(a2:H a=some (.ins C dx (fs.zip vs)))(a3:F a=none)(b1:g dx=some (i,p++[1000]))(b2:H dx=some (.own a))(b3:F dx=none)(r:∀(k:Nat)(d':D)(v':V),ds[k]?=some d'->vs[k]?=some v'->aZ K F H g i (ch c k) (p++[k]) d' v'):aZ K F H g i c p (dL nm fs ds) (.ref a):=by
 cases c with
 |zero=>cases hk
 |succ c=>
  refine aZ.shut (ds:=ds) (vs:=vs) (cs:=[(a,[],.ins C dx (fs.zip vs)),(dx,[1000],.own a)]) (by rw[hk];exact⟨a,nm,fs,C,dx,rfl,rfl,h3,h4,rfl⟩) (λx hx=>?_) hl r
  rcases Í.mp hx with z|z
  .subst z;exact⟨by simpa using a1,a2,a3⟩
  .rw[ó.mp z];exact⟨b1,b2,b3⟩
def GZ(i c:Nat)(nm f:Str):M D:=λδ=>match δ[i]? with
 |some (some (.dict ((.none,.str n)::À)))=>if n=nm/\ch c (oZ f À)=0 then (match mB f À with
  |some r=>.ok r δ
  |none=>.stuck)else .stuck
 |_=>.stuck
theorem oK{n:Str}{À:List (D×D)}(h:(PyData.dict ((.none,.str n)::À):D)=dL nm fs ds):n=nm/\À=(fs.map PyData.str).zip ds:=by
 unfold dL at h;injection h with h;injection h with h1 h2;injection h1 with _ h1;injection h1 with h1;exact⟨h1,h2⟩
theorem oM(i:Nat)(nm:Str){c:Nat}{x:Str}{p:Pos}(hc:UP X.K nm f)(ho:↥(ow.getD i 0=c))(hk:↥(kd c=2))(hN:↥(X.N[i]?=some x))(hv:#v[CH X.env.scope x])(hd:⇑(Zdb x))(hcd:⇑(Zcd x))(hb:↥(attributeBase 'i' f X.env (eval 'i' X.env)=eval 'i' X.env)):DE X Z ow 0 (.Attribute 'i' f pos) (GZ i c nm f):=PE.mono (CJ (eD hN hv hd hcd) hb) λσ H Q q=>by
 let⟨F,δ,⟨g,R⟩,q⟩:=q;unfold GZ at q;split at q
 .rename_i n À e0
  split at q
  .rename_i hn
   let⟨rfl,hch⟩:=hn;cases e1:mB f À with
   |none=>rw[e1]at q;exact q.elim
   |some r=>
    rw[e1]at q;let⟨v,w1,o⟩:=R.slot i _ e0;rw[ho]at o;let⟨a,nm',fs,C,dx,ds,vs,d1,rfl,l1,l2,hC,_,hH,_,_,_,_,hch'⟩:=o.ins hk;let⟨rfl,rfl⟩:=oK d1;rw[nG l1]at e1;rw[sI l1]at hch;have hlt:jK f fs<vs.length:=by have:=(Ò.mp e1).1;exact ô ‹_› ‹_›
    have o1:=hch' _ _ _ e1 (É hlt);rw[hch]at o1;let⟨c1,c2⟩:=hc C hC;refine⟨_,w1,a,C,dx,_,vs[jK f fs],rfl,hH,c1,c2,?_,q _ H F ⟨g,R,o1⟩ λ_ _ z=>z⟩;rw[i9 (by exact Eq.trans ‹_› ‹_›)];exact É hlt
  .exact q.elim
 .exact q.elim
end
section
variable {X:Cx}{Z:b8}{ow ol ox:ZH}{n rm c i:Nat}{pos:Pos}{e:Expr}{fe:M D}{F H:Hp}{σ:St}{δ:DS}{g:ZP}{K:ZC}{nm f:Str}
theorem D2(S:aO Z ow)(h:ow.getD i 0≠0):i<1000:=by
 by_cases hl:i<ow.length
 .exact Ô hl S.ow
 .exact absurd (by rw[Ê,æ (by exact ç.mp ‹_›)];rfl) h
theorem aKG(hk:kd c=2):c≠0:=λz=>by rw[z]at hk;cases hk
theorem v7:∀{xs ys:ZG},xs.map PyData.str=ys.map PyData.str->xs=ys
 |[],[],_=>rfl
 |x::xs,y::ys,h=>by
  rw[Î,Î]at h;injection h with h1 h2;injection h1 with h1;rw[h1,v7 h2]
theorem gJ.putFld(S:aO Z ow)(R:gJ K Z ow n d v F H σ δ)(ho:ow.getD i 0=c)(hk:kd c=2)(hd:δ[i]?=some (some (dL nm fs ds)))(hl:fs.length=ds.length)(hs:σ[i]?=some (some (.ref a)))(hch:ch c (jK f fs)=n):
  ∃C dx vs,fs.length=vs.length/\W.nsIn K mainGlobals nm=some (some (.ref C))/\H a=some (.ins C dx (fs.zip vs))/\cP K Z ow F (aX H a (.ins C dx (kF f v (fs.zip vs)))) σ (δ.set i (some (dL nm (AN f fs) (vX (jK f fs) d ds)))):=by
 let⟨g,R,oh⟩:=R;let⟨v1,w1,o⟩:=R.slot i _ hd;rw[hs]at w1;cases w1;rw[ho]at o;have i1:i<1000:=D2 S (by rw[ho];exact aKG hk);let⟨a',nm',fs',C,dx,ds',vs,d1,ea,l1,l2,hC,a1,a2,a3,b1,b2,b3,hch'⟩:=o.ins hk;cases ea;let⟨rfl,ez⟩:=oK (nm:=nm') (n:=nm) (À:=(fs.map PyData.str).zip ds) d1;have efs:fs=fs':=by
  have:=congrArg (List.map Prod.fst) ez;rw[ď (by rw[Ä];exact ø ‹_›),ď (by rw[Ä];exact ø ‹_›)]at this;exact v7 this
 have eds:ds=ds':=by
  have:=congrArg (List.map Prod.snd) ez;rw[Ď (by rw[Ä];lia),Ď (by rw[Ä];lia)]at this;exact this
 subst efs eds;have hi:i<δ.length:=(Ò.mp hd).1;have nda:dx≠a:=λz=>by rw[z,a1]at b1;cases b1
 refine⟨C,dx,vs,by exact Eq.trans ‹_› ‹_›,hC,a2,λb=>match g b with|some (m,p)=>if m=1000 then some (i,jK f fs::p)else some (m,p)|none=>none,λb u e=>?_,R.f0,λb u m e=>?_,R.new,λb z=>?_,λb m p e=>?_,by rw[Ù];exact R.len,R.par,λj d' e=>?_⟩
 .have:b≠a:=λz=>by rw[z,a3]at e;cases e
  rw[aH this];exact R.sub b u e
 .have:b≠a:=λz=>by
   subst z;rcases R.lab b i [] a1 with w|⟨q,w⟩
   .rw[w]at e;cases e
   .rw[w]at m;cases m
  rw[aH this];exact R.kept b u m e
 .by_cases hb:b=a
  .subst hb;rw[aM];simp
  .rw[aH hb];exact R.there b z
 .cases eg:g b with
  |none=>rw[eg]at e;cases e
  |some l=>
   let⟨m',p'⟩:=l;rw[eg]at e;dsimp only at e;split at e
   .rename_i hm
    subst hm;rcases R.lab b 1000 p' eg with w|⟨q,w⟩
    .exact .inl w
    .exact absurd (Z.wf b 1000 q w) S.ps
   .cases e;exact R.lab b m p eg
 .have rl:∀{m:Nat},m≠1000->∀b p,g b=some (m,p)->(match g b with|some (m,p)=>if m=1000 then some (i,jK f fs::p)else some (m,p)|none=>none)=some (m,p):=λhm b p e=>by rw[e];exact Â hm
  by_cases hj:j=i
  .subst hj
   rw[ð hi]at e;cases e;refine⟨_,hs,?_⟩;rw[ho];have ile:jK f fs<=ds.length:=by have:=UO (f:=f) (fs:=fs);lia
   refine aZ.mkI (C:=C) (dx:=dx) (vs:=vX (jK f fs) v vs) hk ?_ ?_ hC (rl (by exact Ì ‹_›) _ _ a1) (by rw[aM,GX (by exact Eq.trans ‹_› ‹_›)]) a3 (rl (by exact Ì ‹_›) _ _ b1) (by rw[aH nda];exact b2) b3 λk d' v' z1 z2=>?_
   .rw[GW,xM,hl]
   .rw[xM,xM,l2]
   .rw[NC ile]at z1
    rw[NC ∅]at z2;by_cases hk':k=jK f fs
    .subst hk'
     rw[Á rfl]at z1 z2;cases z1;cases z2;rw[hch];have:=aZ.relabP (q:=[jK f fs]) (j:=j) (g':=λb=>match g b with|some (m,p)=>if m=1000 then some (j,jK f fs::p)else some (m,p)|none=>none) (λb p e=>by rw[e];exact Á rfl) (aZ.updNe (o:=.ins C dx (kF f v (fs.zip vs))) a1 (.inl (by exact Ü ‹_›)) oh);rw[â]at this;exact this
    .rw[Â hk']at z1 z2
     refine aZ.relab (rl (by exact Ì ‹_›)) (aZ.updNe a1 (.inr λw=>?_) (hch' k d' v' z1 z2));let⟨t,ht⟩:=w;cases ht
  .rw[ß (Ð hj)]at e
   let⟨v',e1,o'⟩:=R.slot j d' e;refine⟨v',e1,?_⟩;by_cases hz:ow.getD j 0=0
   .rw[hz]at o'⊢;exact o'
   .have j1:j<1000:=D2 S hz
    exact aZ.relab (rl (by exact Ì ‹_›)) (aZ.updNe a1 (.inl hj) o')
def sJ(i c n:Nat)(nm f:Str)(fe:M D):M Fl:=λδ=>(fe δ).bind λy δ1=>match δ1[i]? with
 |some (some (.dict ((.none,.str m)::À)))=>if m=nm/\ch c (oZ f À)=n/\À.length<1000 then .ok .next (δ1.set i (some (.dict ((.none,.str m)::pT f y À))))else .stuck
 |_=>.stuck
theorem G0{À:List (D×D)}(R:cI K Z ow g F H σ δ)(ho:ow.getD i 0=c)(hk:kd c=2)(hd:δ[i]?=some (some (.dict ((.none,.str m)::À)))):∃(a:Addr)(fs:ZG)(ds:ZI),À=(fs.map PyData.str).zip ds/\fs.length=ds.length/\σ[i]?=some (some (.ref a)):=by
 let⟨v1,w1,o⟩:=R.slot i _ hd;rw[ho]at o;let⟨a',nm',fs',C,dx,ds',vs,d1,ea,l1,_⟩:=o.ins hk;subst ea;let⟨_,ez⟩:=oK d1;exact⟨a',fs',ds',ez,l1,w1⟩
theorem nH(i:Nat)(nm:Str){x:Str}{p pos':Pos}(S:aO Z ow)(hc:UP X.K nm f)(hv:DE X Z ow n e fe)(ho:↥(ow.getD i 0=c))(hk:↥(kd c=2))(hN:↥(X.N[i]?=some x))(hvi:#v[CH X.env.scope x])(hd:⇑(Zdb x))(hcd:⇑(Zcd x))(hs:↥(swapsWith e (some (.Attribute 'i' f pos')) pos.line X.env=pure false)):AE X Z ow ow ol ox rm (.Assign [.Attribute 'i' f pos'] e pos) (sJ i c n nm f fe):=PS.mono (aFD (eD hN hvi hd hcd) hv hs) λDn σ H h=>by
 let⟨F,δ,R,h⟩:=h;unfold sJ at h;refine⟨F,δ,R,?_⟩;cases e1:fe δ with
 |stuck=>rw[e1]at h;exact h.elim
 |err y δ1=>rw[e1]at h;exact iV.cast h
 |ok dv δ1=>
  rw[e1]at h;simp![Res.bind]at h;intro v H1 F1 R1 s1;split at h
  .rename_i m À e0
   split at h
   .rename_i hh
    let⟨rfl,hch,hlt⟩:=hh;let⟨g1,RG,o1⟩:=R1;let⟨a,fs,ds,rfl,l1,w1⟩:=G0 RG ho hk e0;rw[sI l1]at hch;let⟨C,dx,vs,l3,hC,hH,R2⟩:=gJ.putFld (f:=f) S ⟨g1,RG,o1⟩ ho hk (show δ1[i]?=some (some (dL m fs ds))from e0) l1 w1 hch;let⟨c1,c2⟩:=hc C hC;rw[ê,Ä]at hlt;refine⟨_,w1,a,C,dx,_,rfl,hH,c1,c2,by rw[ê];lia,?_⟩;rw[uH l1]at h;exact h σ _ F1 R2 s1
   .exact h.elim
  .exact h.elim
end
theorem NE :∀{fs:ZG},jK f fs<fs.length->AN f fs=fs
 |g::r,h=>by
  unfold AN;unfold jK at h;by_cases e:g=f
  .rw[Á e]
  .rw[Â e]at h
   rw[Â e,NE (by rw[Õ]at h;exact Nat.le_of_lt_succ ‹_›)]
section
variable {X:Cx}{Z:b8}{ow ol ox:ZH}{rm c i:Nat}{pos spos tpos:Pos}{e:Expr}{fk fv:M D}{F H:Hp}{σ:St}{δ:DS}{g:ZP}{K:ZC}{nm f:Str}
theorem cI.atF(R:cI K Z ow g F H σ δ)(ho:ow.getD i 0=c)(hk:kd c=2)(hd:δ[i]?=some (some (dL nm fs ds)))(hl:fs.length=ds.length)(hch:ch c (jK f fs)=1)(hj:ds[jK f fs]?=some (.list inner)):
  ∃a C dx vs b ws,σ[i]?=some (some (.ref a))/\W.nsIn K mainGlobals nm=some (some (.ref C))/\H a=some (.ins C dx (fs.zip vs))/\fs.length=vs.length/\vs[jK f fs]?=some (.ref b)/\H b=some (.lst ws)/\aD K F inner ws/\g b=some (i,[jK f fs]):=by
 let⟨v1,w1,o⟩:=R.slot i _ hd;rw[ho]at o;let⟨a,nm',fs',C,dx,ds',vs,d1,ea,l1,l2,hC,a1,a2,a3,b1,b2,b3,hch'⟩:=o.ins hk;subst ea;let⟨rfl,ez⟩:=oK (nm:=nm') (n:=nm) (À:=(fs.map PyData.str).zip ds) d1;have efs:fs=fs':=by
  have:=congrArg (List.map Prod.fst) ez;rw[ď (by rw[Ä];exact ø ‹_›),ď (by rw[Ä];exact ø ‹_›)]at this;exact v7 this
 have eds:ds=ds':=by
  have:=congrArg (List.map Prod.snd) ez;rw[Ď (by rw[Ä];lia),Ď (by rw[Ä];lia)]at this;exact this
 subst efs eds;have jl:jK f fs<vs.length:=by have:=(Ò.mp hj).1;exact ô ‹_› ‹_›
 have o2:=hch' _ _ _ hj (É jl);rw[hch]at o2;let⟨b,inner',ws,y1,y2,y3,y4,y5,y6,y7⟩:=o2.lst (m:=0);cases y1;exact⟨a,C,dx,vs,b,ws,w1,hC,a2,by exact Eq.trans ‹_› ‹_›,by rw[É jl,y2],y4,aD.of y6 y7,y3⟩
theorem cI.rewriteF(R:cI K Z ow g F H σ δ)(ho:ow.getD i 0=c)(hk:kd c=2)(hd:δ[i]?=some (some (dL nm fs ds)))(hl:fs.length=ds.length)(hch:ch c (jK f fs)=1)(hj:ds[jK f fs]?=some (.list inner))(hs:σ[i]?=some (some (.ref a)))(ha:H a=some (.ins C dx (fs.zip vs)))(hb:vs[jK f fs]?=some (.ref b))(hvl:fs.length=vs.length)(hr:aD K F inner' ws'):cI K Z ow g F (aX H b (.lst ws')) σ (δ.set i (some (dL nm fs (ds.set (jK f fs) (.list inner'))))):=by
 let⟨v1,w1,o⟩:=R.slot i _ hd;rw[hs]at w1;cases w1;rw[ho]at o;let⟨a',nm',fs',C',dx',ds',vs',d1,ea,l1,l2,hC,a1,a2,a3,b1,b2,b3,hch'⟩:=o.ins hk;cases ea;let⟨rfl,ez⟩:=oK (nm:=nm') (n:=nm) (À:=(fs.map PyData.str).zip ds) d1;have efs:fs=fs':=by
  have:=congrArg (List.map Prod.fst) ez;rw[ď (by rw[Ä];exact ø ‹_›),ď (by rw[Ä];exact ø ‹_›)]at this;exact v7 this
 have eds:ds=ds':=by
  have:=congrArg (List.map Prod.snd) ez;rw[Ď (by rw[Ä];lia),Ď (by rw[Ä];lia)]at this;exact this
 subst efs eds;rw[ha]at a2;injection a2 with a2;injection a2 with q1 q2 q3;subst q1 q2;have evs:vs=vs':=by
  have:=congrArg (List.map Prod.snd) q3;rw[Ď ∅,Ď ∅]at this;exact this
 subst evs;have jl:jK f fs<vs.length:=(Ò.mp hb).1;have o2:=hch' _ _ _ hj hb;rw[hch]at o2;let⟨b',inner0,ws,y1,y2,y3,y4,y5,y6,y7⟩:=o2.lst (m:=0);cases y1;cases y2;have y3:g b=some (i,[jK f fs]):=y3;have hi:i<δ.length:=(Ò.mp hd).1;have nab:a≠b:=λz=>by rw[z,y3]at a1;cases a1
 have hne:dx≠b:=λz=>by rw[z,y4]at b2;cases b2
 refine⟨λb' u e=>?_,R.f0,λb' u n e=>?_,R.new,λb' z=>?_,R.lab,by rw[Ù];exact R.len,R.par,λk d e=>?_⟩
 .have:b'≠b:=λz=>by rw[z,y5]at e;cases e
  rw[aH this];exact R.sub b' u e
 .have:b'≠b:=λz=>by
   subst z;rcases R.lab b' i _ y3 with w|⟨q,w⟩
   .rw[w]at e;cases e
   .rw[w]at n;cases n
  rw[aH this];exact R.kept b' u n e
 .by_cases hb':b'=b
  .subst hb';rw[aM];simp
  .rw[aH hb'];exact R.there b' z
 .by_cases hki:k=i
  .subst hki
   rw[ð hi]at e;cases e;refine⟨_,hs,?_⟩;rw[ho];refine aZ.mkI (C:=C) (dx:=dx) (vs:=vs) hk (by rw[Ù];exact hl) (by rw[Ù];exact l2) hC a1 (by rw[aH nab];exact ha) a3 b1 (by rw[aH hne];exact b2) b3 λl d' v' z1 z2=>?_;by_cases hlq:jK f fs=l
   .subst hlq
    rw[ð (by exact ô ‹_› (Eq.symm ‹_›))]at z1;cases z1;rw[hb]at z2;cases z2;rw[hch];exact aZ.mkL (m:=0) ⟨b,inner',ws',rfl,rfl,y3,aM,y5,hr.len,λk d' v' z1 z2=>hr.both k d' v' z1 z2⟩
   .rw[ß hlq]at z1
    refine aZ.updNe y3 (.inr λz=>?_) (hch' l d' v' z1 z2);have z:[l] <+: [jK f fs]:=z;let⟨t,ht⟩:=z;injection ht with h1 _;exact hlq h1.symm
  .rw[ß (Ð hki)]at e
   let⟨v,e1,o⟩:=R.slot k d e;exact⟨v,e1,aZ.updNe y3 (.inl hki) o⟩
def sK(i c:Nat)(nm f:Str)(fk fv:M D):M Fl:=λδ=>(fv δ).bind λv δ1=>match δ1[i]?,fk δ1 with
 |some (some (.dict ((.none,.str m)::À))),.ok (.int k) _=>if m=nm/\ch c (oZ f À)=1 then (match mB f À with
  |some (.list ds)=>(match mY ds.length k with
   |some j=>.ok .next (δ1.set i (some (.dict ((.none,.str m)::pT f (.list (ds.set j v)) À))))
   |none=>.stuck)
  |_=>.stuck)else .stuck
 |_,_=>.stuck
theorem BN(i m:Nat)(nm:Str){x:Str}{p p2:Pos}(S:aO Z ow)(hc:UP X.K nm f)(hv:DE X Z ow 0 ev fv)(hk:∀F H σ,DE X (fD F H σ m) 'g' 0 ek fk)(ho:↥(ow.getD i 0=c))(hkd:↥(kd c=2))(hN:↥(X.N[i]?=some x))(hvi:#v[CH X.env.scope x])(hd:⇑(Zdb x))(hcd:⇑(Zcd x))(hb:↥(attributeBase 'i' f X.env (eval 'i' X.env)=eval 'i' X.env))(ha: ~~~(∀v,assign (.Subscript (.Attribute 'i' f p2) ek tpos) X.env v=(do
   let ov <- holding [v] (eval (.Attribute 'i' f p2) X.env);let iv <- holding [v,ov] (eval ek X.env)
   standAt tpos
   holding [v,ov,iv] (setItem ov iv v)
   release [v,ov,iv] [])))(hs:↥(swapsWithSole [.Subscript (.Attribute 'i' f p2) ek tpos] ev spos.line X.env=pure false))(hw:↥(swappedStores [.Subscript (.Attribute 'i' f p2) ek tpos] ev X.env=pure none))(h1:↥((assignEach [.Subscript (.Attribute 'i' f p2) ek tpos] X.env).map (·.2)=[assign (.Subscript (.Attribute 'i' f p2) ek tpos) X.env])):
  AE X Z ow ow ol ox rm (.Assign [.Subscript (.Attribute 'i' f p2) ek tpos] ev spos) (sK i c nm f fk fv):=PS.mono (RS hv (RR (CJ (eD hN hvi hd hcd) hb) (KL m hk) FQ ha) hs hw h1) λDn σ H h=>by
 let⟨F,δ,R,h⟩:=h;unfold sK at h;refine⟨F,δ,R,?_⟩;cases e1:fv δ with
 |stuck=>rw[e1]at h;exact h.elim
 |err y δ1=>rw[e1]at h;exact iV.cast h
 |ok dv δ1=>
  rw[e1]at h;simp![Res.bind]at h;rintro v H1 F1 ⟨g,R1,ov⟩ s1;have ov:bI X.K F1 dv v:=ov;split at h
  .rename_i mm À k δ2 e0 ek0
   split at h
   .rename_i hh
    let⟨rfl,hch⟩:=hh;split at h
    .rename_i ds eds
     split at h
     .rename_i j ej
      let⟨a0,fs,dd,rfl,l1,w1⟩:=G0 R1 ho hkd e0;rw[sI l1]at hch;rw[nG l1]at eds;let⟨a,C,dx,vs,b,ws,q1,hC,q2,q3,q4,q5,q6,q7⟩:=R1.atF ho hkd (show δ1[i]?=some (some (dL mm fs dd))from e0) l1 hch eds;let⟨c1,c2⟩:=hc C hC;refine⟨_,q1,a,C,dx,_,.ref b,rfl,q2,c1,c2,by rw[i9 q3];exact q4,FA g F1 H1,FA g F1 H1,δ1,R1.bor,?_⟩;rw[ek0];rintro kv H2 F2 ⟨g2,R2,o2⟩ s2;have evk:kv=.int k:=by
       have o2:bI X.K F2 (.int k) kv:=o2;unfold bI at o2;exact o2
      subst evk;have hsame:aI H1 H2:=λb o e=>R2.kept b o rfl e;have R3:=R1.grow hsame;refine⟨b,ws,k,j,rfl,rfl,hsame _ _ q5,by rw[<- q6.len];exact ej,?_⟩;have R4:=R3.rewriteF (f:=f) ho hkd (show δ1[i]?=some (some (dL mm fs dd))from e0) l1 hch eds q1 (hsame _ _ q2) q4 q3 (q6.set j ov);have hlt:jK f fs<dd.length:=(Ò.mp eds).1;rw[uH l1,NE (by exact ô ‹_› (Eq.symm ‹_›)),show vX (jK f fs) (PyData.list (ds.set j dv)) dd=dd.set (jK f fs) (.list (ds.set j dv))from Á hlt]at h;exact h σ _ F1 ⟨g,R4⟩ s1
     .exact h.elim
    .exact h.elim
   .exact h.elim
  .exact h.elim
def UQ(C:Addr)(m:Str)(sp:Sp)(E:St->XK)(ta:TE)(t:TA):TE:=λσ H Q=>ta σ H λx H1=>∃a dx fs,x=.ref a/\H1 a=some (.ins C dx fs)/\fs.lookup m=none/\t σ H1 λvs H2=>sp (x::vs) H2 Q (E σ)
theorem UR{pl:Sem Bool}{apos:Pos}(he:PE X o ta)(c:RF X.K C)(hm:Y6 X.K C m fa)(Fk:rO X.prog X.w X.K X.mg X.base (AG X.prog X.w X.K) k fa fd pn sp)(hr:fB k X.A)(hb:pH X.K fd pn [])(ha:PA X (e::es) t)(hst:↥(Zse e es X.env))(hpl:↥(Zbt pos es X.env))(ht:↥(eval (.Call (.Attribute o m apos) (e::es) [] pos) X.env=(do
   let ov <- eval o X.env
   standAt apos.atName
   let (f,first) <- holding [ov] (getMethod ov m pl)
   callWith pos f first (backTo pos (starEach (e::es) X.env)) (backToKw pos (keywordEach [] X.env))))):
  PE X (.Call (.Attribute o m apos) (e::es) [] pos) (UQ C m sp (EX X) ta t):=by
 intro U s σ H Q I h;refine W.methodCall_KW (pl:=pl) (cN (he U s σ H _ I h) λu s1 zQ=>?_) ht;let⟨x,H1,I1,rx,a,dx,fs,ex,ea,l,q⟩:=zQ;subst ex;obtain rfl:u=Value.ref a:=rx;refine JY I1 ea c hm l ?_;refine W.callWith_K (first:=[.ref a]) (h₀:=X.base) I.ok.mod.kin hm.kp (cN (ha pos U s1 σ H1 _ I1 q) λus s2⟨vs,H2,I2,r,q2⟩=>⟨I2.kIn,?_⟩) hst hpl;have r2:bK (V.ref a::vs) (Value.ref a::us):=.cons rfl r;have hl:(Value.ref a::us).length=pn.length:=by rw[<- r2.length];exact Fk.len _ _ _ _ q2
 have hb':=hb s2 (Value.ref a::us) I2.kIn (by rw[â];exact hl);rw[â]at hb';refine wpAny_call (codeAny_mono (Fk.run X.A X.stack s2 H2 ⟨Value.ref a::us,[]⟩ (Value.ref a::us) _ Q (EX X σ) hr I2.env0 hb' r2 q2) λr s' hq=>?_);cases r with
 |error e=>
  let⟨nm,a,cls,ch,H',rfl,hn,os,bare,un,hok,x,new,q3⟩:=hq;have I3:Inv X U σ H' s':=I2.call' os un hok bare λb z=>absurd z 'e';exact q3 nm rfl U _ s' I3 ⟨a,cls,ch,rfl,hn,x,λb hb=>pL.of I2 (new b hb).1 (new b hb).2⟩
 |ok fl=>
  cases fl with
  |ret u=>exact I2.after hq
  |next=>exact False.elim hq
  |brk=>exact False.elim hq
  |cont=>exact False.elim hq
def xN(i:Nat)(nm m:Str)(fn:ZI->Res D)(as:List Arg):M D:=λδ=>match δ[i]? with
 |some (some (.dict ((.none,.str n)::À)))=>if n=nm/\mB m À=none then dR fn (.own i::as) δ else .stuck
 |_=>.stuck
theorem PY{fs:ZG}{ds:ZI}{vs:List V}(l1:fs.length=ds.length)(l2:fs.length=vs.length)(h:mB m ((fs.map PyData.str).zip ds)=none):(fs.zip vs).lookup m=none:=by
 rw[nG l1]at h;rw[i9 l2];rw[List.getElem?_eq_none_iff]at h⊢;lia
def ň(K:ZC)(nm:Str)(C:Addr):Prop:=W.nsIn K mainGlobals nm=some (some (.ref C))/\RF K C
theorem US(S:aO Z ow)(hC:ň X.K nm C)(ho:kd (ow.getD i 0)=2)(hz:YK Z=true)(hl:as.length+1=pn.length)(hps:fY 0 (.own i::as)=ps)(nd:decide (aU (.own i::as)).Nodup=true)(hm:fG owp ow 0 (.own i::as)=true)(hlt:as.length+1<=1000)(h:tD X Z ow rm (xN i nm m fn as) σ H Q):UQ C m (SW X.K pn ps owp rm fn) (EX X) (RN i) (ĺ X Z ow as) σ H Q:=by
 let⟨F,δ,R,h⟩:=h;unfold xN at h;split at h
 .rename_i n À e0
  split at h
  .rename_i hh
   let⟨rfl,hg⟩:=hh;let⟨F0,δ0,R0,h0⟩:=GD (as:=.own i::as) (pn:=pn) (ps:=ps) (owp:=owp) S hz hl hps nd hm hlt ⟨F,δ,R,h⟩;let⟨g,RG⟩:=R;let⟨v,w1,o⟩:=RG.slot i _ e0;let⟨a,nm',fs,C',dx,ds,vs,d1,rfl,l1,l2,hC',_,hH,_⟩:=o.ins ho;let⟨rfl,rfl⟩:=oK d1;rw[hC.1]at hC';cases hC';refine⟨_,w1,a,dx,_,rfl,hH,PY l1 (by exact Eq.trans ‹_› ‹_›) hg,F0,δ0,R0,?_⟩;unfold cG at h0;split at h0
   .cases e1:cG as δ0 with
    |stuck=>rw[e1]at h0;exact h0.elim
    |err x δ1=>rw[e1]at h0;exact h0
    |ok ods δ1=>
     rw[e1]at h0;exact λus H' F' R' s' z=>h0 (.ref a::us) H' F' R' s' ⟨w1,z⟩
   .exact h0.elim
  .exact h.elim
 .exact h.elim
theorem aA8(i:Nat){pl:Sem Bool}{x:Str}{p apos:Pos}(S:aO Z ow)(hC:ň X.K nm C)(hme:Y6 X.K C m fa)(Fk:rO X.prog X.w X.K X.mg X.base (AG X.prog X.w X.K) k fa fd pn (SW X.K pn ps owp rm fn))(hr:fB k X.A)(hb:pH X.K fd pn [])(ha:DA X Z ow (e::es) as)(ho:↥(kd (ow.getD i 0)=2))(hz:↥(YK Z=true))(hl:↥(as.length+1=pn.length))(hps:↥(fY 0 (.own i::as)=ps))(nd:↥(decide (aU (.own i::as)).Nodup=true))(hm:↥(fG owp ow 0 (.own i::as)=true))(hlt:⇑(as.length+1<=1000))(hN:↥(X.N[i]?=some x))(hvi:#v[CH X.env.scope x])(hd:⇑(Zdb x))(hcd:⇑(Zcd x))(hst:↥(Zse e es X.env))(hpl:↥(Zbt pos es X.env))(ht:↥(eval (.Call (.Attribute 'i' m apos) (e::es) [] pos) X.env=(do
   let ov <- eval 'i' X.env
   standAt apos.atName
   let (f,first) <- holding [ov] (getMethod ov m pl)
   callWith pos f first (backTo pos (starEach (e::es) X.env)) (backToKw pos (keywordEach [] X.env))))):
  DE X Z ow rm (.Call (.Attribute 'i' m apos) (e::es) [] pos) (xN i nm m fn as):=PE.mono (UR (pl:=pl) (eD hN hvi hd hcd) hC.2 hme Fk hr hb ha hst hpl ht) λ_ _ _ h=>US S hC ho hz hl hps nd hm hlt h
def UT(C:Addr)(sp:Sp)(E:St->XK)(t:TA):TE:=λσ H Q=>t σ H λvs H1=>∀x dx,H1 x=none->H1 dx=none->dx≠x ->
 sp (.ref x::vs) (aX (aX H1 dx (.own x)) x (.ins C dx [])) (λv H2=>v=.non/\Q (.ref x) H2) (E σ)
theorem UU{p:Pos}(M:Mk X.K C fa)(Fk:rO X.prog X.w X.K X.mg X.base (AG X.prog X.w X.K) k fa fd pn sp)(hr:fB (k+1) X.A)(hg:Gl X x)(hm:X.mg x=some (.ref C))(hb:pH X.K fd pn [])(ha:PA X (e::es) t)(hdb:⇑(Zdb x))(he:↥(Zse e es X.env))(hpl:↥(Zbt pos es X.env)):
  PE X (.Call 'i' (e::es) [] pos) (UT C sp (EX X) t):=by
 intro U s0 σ H0 Q I0 h0;refine wpAny_Call_Name_kw (rJ I0 hg hm ?_ hdb);refine W.callWith_K (h₀:=X.base) I0.ok.mod.kin M.kp (cN (ha pos U s0 σ H0 _ I0 h0) λus s⟨vs,H,I,r,h⟩=>⟨I.kIn,?_⟩) he hpl;have hq:=h (s.heap.objs.size+1) s.heap.objs.size (I.hok.fresh (Nat.le_succ _)) (I.hok.fresh (Ç _)) (Ì (ë _));have I2:=Inv.made (C:=C) I;have r2:bK (V.ref (s.heap.objs.size+1)::vs) (Value.ref (s.heap.objs.size+1)::us):=.cons rfl r;have hl:(Value.ref (s.heap.objs.size+1)::us).length=pn.length:=by
  have e:=r2.length;rw[Fk.len _ _ _ _ hq]at e;exact e.symm
 have hb':=hb _ (Value.ref (s.heap.objs.size+1)::us) I2.kIn (by rw[â];exact hl);rw[â]at hb';refine wpAny_call (SA (f:=fa) I.kIn M.makes M.init (beq_iff_eq.mp M.fn) (codeAny_mono (Fk.run _ X.stack _ _ ⟨Value.ref (s.heap.objs.size+1)::us,[]⟩ (Value.ref (s.heap.objs.size+1)::us) _ _ (EX X σ) (hr.make C us [])
  (I2.env0.make C us []) hb' r2 hq) λr s' hq'=>?_))
 cases r with
 |error e=>
  let⟨nm,a,cls,ch,H',rfl,hn,os,bare,un,hok,x,new,q3⟩:=hq';have I3:Inv X U σ H' s':=I2.call' os un hok bare λb z=>absurd z 'e';exact q3 nm rfl U _ s' I3 ⟨a,cls,ch,rfl,hn,x,λb hb=>pL.of I2 (new b hb).1 (new b hb).2⟩
 |ok fl=>
  cases fl with
  |ret u=>
   let⟨v,H',I3,rv,ev,q3⟩:=I2.after hq';subst ev;exact⟨rv,⟨V.ref (s.heap.objs.size+1),H',I3,rfl,q3⟩⟩
  |next=>exact False.elim hq'
  |brk=>exact False.elim hq'
  |cont=>exact False.elim hq'
end
section
variable {X:Cx}{Z:b8}{ow:ZH}{c m:Nat}{pos:Pos}{e:Expr}{F H:Hp}{σ:St}{δ:DS}{g:ZP}{K:ZC}{nm:Str}
theorem sL(h:i≠ow.length):(ow++[c]).getD i 0=ow.getD i 0:=by
 rw[Ê,Ê];by_cases hl:i<ow.length
 .rw[î hl]
 .rw[æ (by rw[Ë,ì];lia),æ (by exact ç.mp ‹_›)]
theorem BO:(ow++[c]).getD ow.length 0=c:=by
 rw[Ê,Þ (Ç _),ú];rfl
theorem uI{α:Type}{xs:List α}{y:α}(h:i≠xs.length):(xs++[y])[i]?=xs[i]?:=by
 by_cases hl:i<xs.length
 .rw[î hl]
 .rw[æ (by rw[Ë,ì];lia),æ (by exact ç.mp ‹_›)]
theorem kU{α:Type}{xs:List α}{y:α}:(xs++[y])[xs.length]?=some y:=by
 rw[Þ (Ç _),ú];rfl
theorem cI.push(R:cI K Z ow g F H σ δ)(hk:kd c=2)(hC:W.nsIn K mainGlobals nm=some (some (.ref C)))(hx:H x=none)(hdx:H dx=none)(ne:dx≠x)(hm:δ.length=ow.length)(hps:ow.length∉Z.ps):
  cP K Z (ow++[c]) F (aX (aX H dx (.own x)) x (.ins C dx [])) (σ++[some (.ref x)]) (δ++[some (dL nm [] [])]):=by
 have hsm:σ.length=ow.length:=by rw[<- R.len];exact hm
 have fx:F x=none:=by
  cases e:F x with
  |none=>rfl
  |some u=>rw[R.sub x u e]at hx;cases hx
 have fdx:F dx=none:=by
  cases e:F dx with
  |none=>rfl
  |some u=>rw[R.sub dx u e]at hdx;cases hdx
 have h0:∀a,H a=none->Z.H0 a=none:=λa e=>by
  cases e1:Z.H0 a with
  |none=>rfl
  |some o=>exact absurd e (R.there a (by rw[e1];simp))
 have hk':∀b o,H b=some o->aX (aX H dx (.own x)) x (.ins C dx []) b=some o:=λb o e=>by
  rw[aH (λz=>by rw[z,hx]at e;cases e),aH (λz=>by rw[z,hdx]at e;cases e)];exact e
 refine⟨λb=>if b=x then some (ow.length,[])else if b=dx then some (ow.length,[1000])else g b,λb u e=>hk' b u (R.sub b u e),R.f0,λb u n e=>hk' b u (R.kept b u n e),R.new,λb z=>?_,λa i p e=>?_,by rw[Ë,Ë,R.len];rfl,λi hi=>?_,λi d e=>?_⟩
 .cases e:H b with
  |none=>exact absurd e (R.there b z)
  |some o=>rw[hk' b o e];simp
 .split at e
  .rename_i z;rw[z];exact .inl (h0 x hx)
  .split at e
   .rename_i z;rw[z];exact .inl (h0 dx hdx)
   .exact R.lab a i p e
 .have:i≠ow.length:=λz=>hps (by rw[<- z];exact hi)
  rw[uI ∅,sL this];exact R.par i hi
 .by_cases hi:i=ow.length
  .have e2:(δ++[some (dL nm [] [])])[i]?=some (some (dL nm [] [])):=by rw[hi,<- hm];exact kU
   rw[e2]at e;cases e;refine⟨.ref x,by rw[hi,<- hsm];exact kU,?_⟩;rw[hi,BO];exact aZ.mkI (C:=C) (dx:=dx) (vs:=[]) hk rfl rfl hC (Á rfl) aM fx (by rw[Â ne,Á rfl];rfl) (by rw[aH ne,aM]) fdx λk d' v' z1=>by cases z1
  .rw[uI ∅]at e
   let⟨v,e1,o⟩:=R.slot i d e;refine⟨v,by rw[uI ∅];exact e1,?_⟩;rw[sL hi];refine o.keepJ (aI.refl _) λa p u y1 y2 y3=>⟨?_,hk' a u y2,y3⟩;rw[Â (λz=>by rw[z,hx]at y2;cases y2),Â (λz=>by rw[z,hdx]at y2;cases y2)];exact y1
theorem cI.pop(S:aO Z ow)(R:cI K Z (ow++[c]) g F H (σ++[some v]) (δ++[some d]))(hm:δ.length=ow.length)(hps:ow.length∉Z.ps)(hlt:ow.length<1000):gJ K Z ow c d v F H σ δ:=by
 have hsm:σ.length=ow.length:=by have:=R.len;rw[Ë,Ë]at this;simp at this;lia
 refine⟨λb=>match g b with|some (j,p)=>if j=ow.length then some (1000,p)else if j=1000 then none else some (j,p)|none=>none,⟨R.sub,R.f0,R.kept,R.new,R.there,λa i p e=>?_,∅,λi hi=>?_,λi d' e=>?_⟩,?_⟩
 .cases eg:g a with
  |none=>rw[eg]at e;cases e
  |some l=>
   let⟨j,q⟩:=l;rw[eg]at e;dsimp only at e;split at e
   .rename_i z
    cases e;rcases R.lab a j _ eg with w|⟨q',w⟩
    .exact .inl w
    .exact absurd (Z.wf a j q' w) (by rw[z];exact hps)
   .split at e
    .cases e
    .cases e;exact R.lab a i p eg
 .have:i≠ow.length:=λz=>hps (by rw[<- z];exact hi)
  have q:=R.par i hi;rw[uI ∅,sL this]at q;exact q
 .have hi:i<δ.length:=(Ò.mp e).1
  let⟨v',e1,o⟩:=R.slot i d' (by rw[uI (by exact Ì ‹_›)];exact e);rw[uI ∅]at e1;rw[sL ∅]at o;refine⟨v',e1,o.relab λa p y=>?_⟩;rw[y];dsimp only;rw[Â ∅,Â ∅]
 .obtain⟨v',e1,o⟩:=R.slot ow.length d (by rw[<- hm];exact kU)
  rw[<- hsm,kU]at e1;cases e1;rw[BO]at o;refine o.relab λa p y=>?_;rw[y];exact Á rfl
def G1(m:Nat)(nm:Str)(fn:ZI->Res D)(as:List Arg):M D:=λδ=>(cG as δ).bind λods δ1=>if δ1.length=m then (match dM δ1 as ods with
 |some ds=>(match fn (dL nm [] []::ds)with
  |.ok .none [some d]=>.ok d δ1
  |.err x [some _]=>.err x δ1
  |_=>.stuck)
 |none=>.stuck)else .stuck
theorem xO{δ δ':DS}:∀{as:List Arg}{ods:List (ZL)},aU as=[]->dM δ as ods=dM δ' as ods
 |[],[],_=>rfl
 |[],_::_,_=>rfl
 |.own i::as,_,h=>by cases h
 |.val f::as,[],_=>rfl
 |.val f::as,none::ods,_=>rfl
 |.val f::as,some d::ods,h=>by unfold dM;rw[xO (δ:=δ) (δ':=δ') (as:=as) h]
theorem xP :∀{as:List Arg}{ods:List (ZL)}{vs:List V},aU as=[]->rW K F σ as ods vs->rW K F σ' as ods vs
 |[],[],[],_,_=>True.intro
 |.own i::as,_,_,h,_=>by cases h
 |.val f::as,some d::ods,v::vs,h,z=>⟨z.1,xP (as:=as) h z.2⟩
theorem G3{xs:DS}{y z:ZL}:(xs++[y]).set xs.length z=xs++[z]:=by
 rw[List.set_append_right _ _ (Ç _),ú];rfl
theorem UV(S:aO Z ow)(hC:ň X.K nm C)(hk:kd c=2)(hz:YK Z=true)(hl:as.length+1=pn.length)(hv:aU as=[])(hm:fG owp (ow++[c]) 0 (.own ow.length::as)=true)(hlt:as.length+1<=1000)(hps:ow.length∉Z.ps)(hlo:ow.length<1000)(h:tD X Z ow c (G1 ow.length nm fn as) σ H Q):UT C (SW X.K pn [0] owp 0 fn) (EX X) (ĺ X Z ow as) σ H Q:=by
 let⟨F,δ,R,h⟩:=h;unfold G1 at h;refine⟨F,δ,R,?_⟩;cases e:cG as δ with
 |stuck=>rw[e]at h;exact h.elim
 |err x δ1=>rw[e]at h;exact h
 |ok ods δ1=>
  rw[e]at h;simp![Res.bind]at h;rintro vs H1 F1 ⟨g1,R1⟩ s1 z x dx hx hdx ne;split at h
  .rename_i hml
   cases e2:dM δ1 as ods with
   |none=>rw[e2]at h;exact h.elim
   |some ds=>
    rw[e2]at h;dsimp only at h;have R2:=R1.push (c:=c) (nm:=nm) hk hC.1 hx hdx ne hml hps;have hsl:σ.length=ow.length:=by rw[<- R1.len];exact hml
    have zA:rW X.K F1 (σ++[some (.ref x)]) (.own ow.length::as) (none::ods) (.ref x::vs):=⟨by rw[<- hsl];exact kU,xP hv z⟩;have fA:dM (δ1++[some (dL nm [] [])]) (.own ow.length::as) (none::ods)=some (dL nm [] []::ds):=by
     unfold dM;rw[<- hml,kU,xO (δ':=δ1) hv,e2]
    have S2:aO Z (ow++[c]):=⟨by rw[Ë,ì];assumption,S.ps⟩;let⟨m1,m2⟩:=lU hm;have l2:=(kM fA zA).2.1;refine⟨by rw[l2];exact hl,MD S2 R2 zA fA ?_ ?_ (λq i e=>by have:=m1 q i e;rwa [Nat.zero_add]at this) (λq f e=>by have:=m2 q f e;rwa [Nat.zero_add]at this) hlt ?_⟩
    .have:∀(k:Nat)(as:List Arg),aU as=[]->fY k as=[]:=by
      intro k as
      induction as generalizing k with
      |nil=>intro _;rfl
      |cons a as ih=>
       cases a with
       |own i=>intro h;cases h
       |val f=>intro h;exact ih (k+1) h
     show 0::fY 1 as=[0];rw[this 1 as hv]
    .show (ow.length::aU as).Nodup
     rw[hv];simp
    .have es:aU (.own ow.length::as)=[ow.length]:=by show ow.length::aU as=_;rw[hv]
     rw[es];split at h
     .rename_i d e3
      rw[e3];intro v H' F' R' s';have hv':=R'.rep;unfold bI at hv';subst hv';let⟨g3,R3⟩:=R'.rel;have R3:cI X.K Z (ow++[c]) g3 F' H' (σ++[some (.ref x)]) ((δ1++[some (dL nm [] [])]).set ow.length (some d)):=R3;rw[<- hml,G3]at R3;exact⟨rfl,h _ H' F' (R3.pop S hml hps hlo) (s1.trans' s')⟩
     .rename_i x' d e3
      rw[e3];intro nm' hx' H' F' R' s' nm2 hnm U e s2 I2 fl;injection hnm with hnm;subst hnm;let⟨g3,R3⟩:=R';have R3:cI X.K Z (ow++[c]) g3 F' H' (σ++[some (.ref x)]) ((δ1++[some (dL nm [] [])]).set ow.length (some d)):=R3;rw[<- hml,G3]at R3;let⟨F2,s3,R4⟩:=(R3.pop S hml hps hlo).rel.toP hz;exact iV.out h U e s2 ⟨nm',H',F2,σ,hx',I2,R4,s1.trans' (s'.trans' s3),fl⟩
     .exact h.elim
  .exact h.elim
theorem aA9{p:Pos}(m:Nat)(S:aO Z ow)(hC:ň X.K x C)(M:Mk X.K C fa)(Fk:rO X.prog X.w X.K X.mg X.base (AG X.prog X.w X.K) k fa fd pn (SW X.K pn [0] owp 0 fn))(hr:fB (k+1) X.A)(hg:Gl X x)(hmg:X.mg x=some (.ref C))(hb:pH X.K fd pn [])(ha:DA X Z ow (e::es) as)(c:Nat)(hm0:↥(ow.length=m))(hk:↥(kd c=2))(hz:↥(YK Z=true))(hl:↥(as.length+1=pn.length))(hv:↥(aU as=[]))(hm:↥(fG owp (ow++[c]) 0 (.own ow.length::as)=true))(hlt:⇑(as.length+1<=1000))(hps:↥(Z.ps.contains ow.length=false))(hlo:⇑(ow.length<1000))(hdb:⇑(Zdb x))(he:↥(Zse e es X.env))(hpl:↥(Zbt pos es X.env)):
  DE X Z ow c (.Call 'i' (e::es) [] pos) (G1 m x fn as):=PE.mono (UU M Fk hr hg hmg hb ha hdb he hpl) λ_ _ _ h=>by subst hm0;exact UV S hC hk hz hl hv hm hlt (dE hps) hlo h
end
section
variable {κ:Type}[DecidableEq κ]
def qK(À:List (κ×V))(k:κ):Option V:=(À.find? λkv=>decide (kv.1=k)).map (·.2)
def uJ(À:List (κ×V))(k:κ)(v:V):List (κ×V):=
 if (À.any λkv=>decide (kv.1=k))=true then À.map (λkv=>if kv.1=k then (kv.1,v)else kv)else À++[(k,v)]
theorem sM{k:κ}(e:p.1=k):qK (p::r) k=some p.2:=by simp[qK,Ā,e]
theorem sN{k:κ}(e:¬p.1=k):qK (p::r) k=qK r k:=by simp[qK,Ā,e]
theorem G5(k:κ):∀À:List (κ×V),(À.any λkv=>decide (kv.1=k))=(qK À k).isSome
 |[]=>rfl
 |p::r=>by
  rw[List.any_cons];by_cases e:p.1=k
  .simp![sM e,decide_eq_true e,Bool.true_or,Option.isSome_some]
  .rw[sN e,decide_eq_false e,Bool.false_or];exact G5 k r
theorem vK(À:List (κ×V))(k:κ)(v:V):(uJ À k v).length<=À.length+1:=by
 unfold uJ;split
 .rw[Ä];exact Nat.le_succ _
 .rw[Ë,Õ,ý];exact ë _
theorem oX.isSome_eq(r:oX o u):o.isSome=u.isSome:=by
 cases o with
 |none=>cases u with
  |none=>rfl
  |some _=>exact(show False from r).elim
 |some _=>cases u with
  |none=>exact(show False from r).elim
  |some _=>rfl
theorem oX.getD(r:oX o u)(rd:bJ d d'):bJ (o.getD d) (u.getD d'):=by
 cases o with
 |none=>cases u with
  |none=>exact rd
  |some _=>exact(show False from r).elim
 |some _=>cases u with
  |none=>exact(show False from r).elim
  |some _=>exact r
theorem KV.val(r:KV À vs)(k:κ):oX (qK À k) (valueAt vs k):=by
 unfold KV at r
 induction r with
 |nil=>exact True.intro
 |@cons p q ps qs h t ih=>
  let⟨h1,h2⟩:=h;by_cases e:p.1=k
  .have e':q.1=k:=h1.symm.trans e
   have b:valueAt (q::qs) k=some q.2:=by simp[valueAt,Ā,e']
   rw[sM e,b];exact h2
  .have e':¬q.1=k:=λz=>e (h1.trans z)
   have b:valueAt (q::qs) k=valueAt qs k:=by simp[valueAt,Ā,e']
   rw[sN e,b];exact ih
theorem KV.any(r:KV À vs)(k:κ):(À.any λkv=>decide (kv.1=k))=vs.any λkv=>decide (kv.1=k):=by
 unfold KV at r
 induction r with
 |nil=>rfl
 |cons h t ih=>rw[List.any_cons,List.any_cons,ih,h.1]
theorem KV.repl(r:KV À vs)(k:κ)(ry:bJ y u):
  KV (À.map λkv=>if kv.1=k then (kv.1,y)else kv) (vs.map λkv=>if kv.1=k then (kv.1,u)else kv):=by
 unfold KV at r⊢
 induction r with
 |nil=>exact .nil
 |@cons p q ps qs h t ih=>
  rw[Î,Î];refine .cons ?_ ih;let⟨h1,h2⟩:=h;by_cases e:p.1=k
  .rw[Á e,Á (h1.symm.trans e)];exact⟨h1,ry⟩
  .rw[Â e,Â (λz=>e (h1.trans z))];exact⟨h1,h2⟩
theorem KV.put(r:KV À vs)(k:κ)(ry:bJ y u):KV (uJ À k y) (stored vs k u):=by
 unfold uJ stored;rw[r.any k];by_cases e:(vs.any λkv=>decide (kv.1=k))=true
 .rw[Á e,Á e];exact r.repl k ry
 .rw[Â e,Â e];exact Paired.snoc r ⟨rfl,ry⟩
theorem KV.length{À:List (κ×V)}{vs:List (κ×Value)}(r:KV À vs):À.length=vs.length:=Paired.length r
end
theorem NF(r:bJ (kV k) u):(dH P w).is k u=true:=by
 cases k with
 |inl i=>let⟨t,e⟩:=(show ∃t,u=Value.int i t from r);subst e;exact FE P w i t
 |inr x=>let⟨t,e⟩:=(show ∃t,u=Value.str x t from r);subst e;exact FF P w x t
theorem BP :∀{ks:List dP}{us:ZJ},bK (ks.map kV) us->ItemsAre (dH P w) ks us
 |[],_,r=>by rw[List.map_nil]at r;cases r;exact .nil
 |k::ks,_,r=>by
  rw[Î]at r;cases r with
  |cons h t=>exact .cons (NF h) (BP t)
abbrev KT(H:Hp):List (List dP×V)->List (List dP×Addr×Value)->Prop:=Paired λp q=>p.1=q.1/\H q.2.1=some (.tup (p.1.map kV))/\bJ p.2 q.2.2
theorem KT.val(r:KT H À xs)(k:List dP):oX (qK À k) ((atKey xs k).map (·.2)):=by
 induction r with
 |nil=>exact True.intro
 |@cons p q ps qs h t ih=>
  let⟨h1,_,h2⟩:=h;by_cases e:p.1=k
  .have e':q.1=k:=h1.symm.trans e
   have b:atKey (q::qs) k=some q.2:=by simp[atKey,Ā,e']
   rw[sM e,b];exact h2
  .have e':¬q.1=k:=λz=>e (h1.trans z)
   have b:atKey (q::qs) k=atKey qs k:=by simp[atKey,Ā,e']
   rw[sN e,b];exact ih
theorem KT.repl(r:KT H À xs)(k:List dP)(ry:bJ y u):
  KT H (À.map λkv=>if kv.1=k then (kv.1,y)else kv) (xs.map (putAt k u)):=by
 induction r with
 |nil=>exact .nil
 |@cons p q ps qs h t ih=>
  rw[Î,Î];refine .cons ?_ ih;let⟨h1,h2,h3⟩:=h;unfold putAt;by_cases e:p.1=k
  .rw[Á e,Á (h1.symm.trans e)];exact⟨h1,h2,ry⟩
  .rw[Â e,Â (λz=>e (h1.trans z))];exact⟨h1,h2,h3⟩
theorem KT.put(r:KT H À xs)(k:List dP)(hb:H b=some (.tup (k.map kV)))(ry:bJ y u):
  KT H (uJ À k y) (storedH xs k b u):=by
 have e:(À.any λkv=>decide (kv.1=k))=(atKey xs k).isSome:=by
  rw[G5,(r.val k).isSome_eq,Option.isSome_map]
 unfold uJ storedH;rw[e];by_cases q:(atKey xs k).isSome=true
 .rw[Á q,Á q];exact r.repl k ry
 .rw[Â q,Â q];exact Paired.snoc r ⟨rfl,hb,ry⟩
theorem KT.keeps(r:KT H À xs)(ht:∀b ys,H b=some (.tup ys)->H' b=some (.tup ys)):KT H' À xs:=
 Paired.mapP r λ_ _ z=>⟨z.1,ht _ _ z.2.1,z.2.2⟩
section
theorem ϔ(ok:mR P w H h)(e:Rd H a u):dQ P w H h a u:=e.ok ok
theorem NG(ok:mR P w H h)(e:Rd H a (.dK À)):À.length<=sizeLine/\(a == sysModules)=false/\∃vs,KV À vs/\h.DictOf (dH P w) a vs:=
 show dQ P w H h a (.dK À)from ϔ ok e
theorem aKH(ok:mR P w H h)(e:H a=some (.dK À)):À.length<=sizeLine/\(a == sysModules)=false/\∃vs,KV À vs/\h.DictOf (dH P w) a vs:=NG ok (.inl e)
theorem D3(ok:mR P w H h)(e:H a=some (.tup (ks.map kV))):(tupleKind (dH P w)).is h ks a:=by
 let⟨_,its,r,o,h1,h2,n,h3⟩:=(show dQ P w H h a (.tup (ks.map kV))from ok a _ e);exact⟨o,its.toArray,n,h1,h2,h3,by simpa using BP r⟩
theorem NH(ok:mR P w H h)(e:Rd H a (.dT À)):À.length<=sizeLine/\(a == sysModules)=false /\
  ∃xs,KT H À xs/\h.DictOfH (tupleKind (dH P w)) a xs:=by
 let⟨z,y,xs,r,o,es,ep,h1,h2,h3,h4,h5⟩:=(show dQ P w H h a (.dT À)from ϔ ok e);refine⟨z,y,xs,r,o,es,ep,h1,h2,h3,h4,λx hx=>?_,h5⟩;have all:∀{l:List (List dP×V)}{m:List (List dP×Addr×Value)},KT H l m->∀x∈m,(tupleKind (dH P w)).is h x.1 x.2.1:=by
  intro l m q
  induction q with
  |nil=>intro x hx;exact nomatch hx
  |@cons p q ps qs hq t ih=>
   intro x hx;rcases Í.mp hx with e|hx
   .subst e
    exact D3 ok (by rw[<- hq.1];exact hq.2.1)
   .exact ih x hx
 exact all r x hx
theorem aKI(ok:mR P w H h)(e:H a=some (.dT À)):À.length<=sizeLine/\(a == sysModules)=false /\
  ∃xs,KT H À xs/\h.DictOfH (tupleKind (dH P w)) a xs:=NH ok (.inl e)
end
def AO(H:Hp)(a:Addr)(y:V)(r:Option V):Prop:=
 (∃À k,Rd H a (.dK À)/\y=kV k/\r=qK À k)\/∃À k b,Rd H a (.dT À)/\y=.ref b/\H b=some (.tup (k.map kV))/\r=qK À k
def UW(H:Hp)(a:Addr)(y v:V)(H':Hp):Prop:=
 (∃À k,H a=some (.dK À)/\y=kV k/\À.length<sizeLine/\H'=aX H a (.dK (uJ À k v))) \/
 ∃À k b,H a=some (.dT À)/\y=.ref b/\H b=some (.tup (k.map kV))/\À.length<sizeLine/\H'=aX H a (.dT (uJ À k v))
theorem AO.k{H:Hp}{a:Addr}{À:List (dP×V)}{k:dP}(e:H a=some (.dK À)):AO H a (kV k) (qK À k):=.inl ⟨À,k,.inl e,rfl,rfl⟩
theorem UW.k{H:Hp}{a:Addr}{À:List (dP×V)}{k:dP}{v:V}(e:H a=some (.dK À))(hl:À.length<sizeLine):UW H a (kV k) v (aX H a (.dK (uJ À k v))):=.inl ⟨À,k,e,rfl,hl,rfl⟩
section
variable {X:Cx}{U:ZB}{σ:St}{H:Hp}{s:Shared}{a:Addr}{y v:V}{u r:Value}{o:Option V}{A:Around}{E:ZA}
theorem Inv.big(I:Inv X U σ H s):sysModules<s.heap.objs.size:=by
 have h:mainGlobals<s.heap.objs.size:=(I.mod.glob.keeps I.bk).lt;exact Nat.lt_trans ⋯ h
theorem aM9{Q:ZA}(hu:A.units+1<cLine)(I:Inv X U σ H s)(g:AO H a y o)(ry:bJ y u)(h:∀s',Inv X U σ H s'->Q (.bool o.isSome) s'):
  wpAny 'b' A (compareOp .In u (.ref a)) Q E s:=by
 rcases g with ⟨À,k,e,ey,l⟩|⟨À,k,b,e,ey,eb,l⟩
 .subst ey
  let⟨z,hd,vs,rel,dd⟩:=NG I.hok e;refine wpAny_in_of (NF ry) hd dd.mapOf ?_;rw[<- (rel.val k).isSome_eq,<- l];exact h _ (I.tok _)
 .subst ey
  cases (show u=Value.ref b from ry);let⟨z,hd,xs,rel,dd⟩:=NH I.hok e;refine wpAny_in_heap (tupleKind_room_in1 hu) (D3 I.hok eb) hd dd ?_;have q:=(rel.val k).isSome_eq;rw[Option.isSome_map]at q;rw[<- q,<- l];exact h _ (I.tok _)
theorem NI(I:Inv X U σ H s)(mu:Ĥ (H a))(hs:Heap.SameBut a s.heap h')(he:∃q,h'.get? a=some q)(new:dQ X.prog X.w (aX H a ob) h' a ob):
  Inv X U σ (aX H a ob) {s with heap:=h',toks:=t'}:=
 I.write (x:=a) (e:=a) mu (.inl rfl) (λb q hb z=>(hs.2 b hb).trans z) he new
theorem aHE(z:À.length<=sizeLine)(hd:(a == sysModules)=false)(rel:KV À vs)(dd:h'.DictOf (dH P w) a vs):
  dQ P w H' h' a (.dK À):=⟨z,hd,vs,rel,dd⟩
theorem PZ{H':Hp}{Q:Unit->Shared->Prop}(hu:A.units+1<cLine)(I:Inv X U σ H s)(g:UW H a y v H')(ry:bJ y u)(rv:bJ v r)(h:∀s',Inv X U σ H' s'->Q () s'):
  wpAny 'b' A (setItem (.ref a) u r) Q E s:=by
 rcases g with ⟨À,k,e,ey,l,eH⟩|⟨À,k,b,e,ey,eb,l,eH⟩
 .subst ey eH
  let⟨z,hd,vs,rel,dd⟩:=aKH I.hok e;have hz:vs.length<=sizeLine:=by rw[<- rel.length];exact z
  have hl:(uJ À k v).length<=sizeLine:=by have:=vK À k v;exact Ø ‹_› ‹_›
  refine wpAny_setItem_pairs (hsz:=hz) (NF ry) dd λh' dd' hs=>h _ ?_;have he:∃q,h'.get? a=some q:=let ⟨q,_,_,hq,_⟩:=dd';⟨q,hq⟩
  exact NI I (by rw[e];exact True.intro) hs he (aHE hl hd (rel.put k rv) dd')
 .subst ey eH
  cases (show u=Value.ref b from ry);let⟨z,hd,xs,rel,dd⟩:=aKI I.hok e;have hz:xs.length<=sizeLine:=by rw[<- Paired.length rel];exact z
  have hl:(uJ À k v).length<=sizeLine:=by have:=vK À k v;exact Ø ‹_› ‹_›
  refine wpAny_setItem_heap (hsz:=hz) (tupleKind_room_in1 hu) (D3 I.hok eb) dd λh' dd' hs=>h _ ?_;let⟨q,es,ep,hq,h2,h3,h4,_,h5⟩:=dd';refine NI I (by rw[e];exact True.intro) hs ⟨q,hq⟩ ⟨hl,hd,_,(rel.put k eb rv).keeps λc ys ec=>?_,q,es,ep,hq,h2,h3,h4,h5⟩;rw[aH (aIK ec e (λz=>nomatch z))];exact ec
end
section
end
def aNA(ty td:TE):TE:=λσ H Q=>ty σ H λy H1=>td σ H1 λx H2=>∃a o,x=.ref a/\AO H2 a y o/\Q (.bl o.isSome) H2
def aKJ(td ty tv:TE):TS:=λD σ H=>tv σ H λv H1=>td σ H1 λx H2=>ty σ H2 λy H3=>∃a H4,x=.ref a/\UW H3 a y v H4/\D.nx σ H4
section
theorem UX(hu:X.A.units+1<cLine)(hi:PE X i ty)(ho:PE X o td):PC X .In i o (aNA ty td):=by
 intro U s σ H Q I h;refine cN (hi U s σ H _ I h) λiv s1⟨y,H1,I1,ry,q1⟩=>cN (ho U s1 σ H1 _ I1 q1) λu s2 zQ=>?_;let⟨x,H2,I2,rx,a,ov,ex,g,q2⟩:=zQ;subst ex;obtain rfl:u=Value.ref a:=rx;exact aM9 hu I2 g ry λs3 I3=>⟨.bl ov.isSome,H2,I3,rfl,q2⟩
theorem aBA(hu:X.A.units+1<cLine)(ho:PE X o td)(hi:PE X i ty)(hv:PE X value tv)(hs:swapsWith value (some (.Subscript o i pos')) pos.line X.env=pure false):
  PS X (.Assign [.Subscript o i pos'] value pos) (aKJ td ty tv):=by
 intro U s σ H D I h;refine wpAny_Assign_Subscript (cN (hv U s σ H _ I h) λr s1⟨v,H1,I1,rv,q1⟩=>cN (ho U s1 σ H1 _ I1 q1) λu s2⟨x,H2,I2,rx,q2⟩=>cN (hi U s2 σ H2 _ I2 q2) λiv s3 zQ=>?_) hs;let⟨y,H3,I3,ry,a,H4,ex,g,q3⟩:=zQ;subst ex;obtain rfl:u=Value.ref a:=rx;exact PZ hu I3 g ry rv λs4 I4=>⟨σ,H4,I4,q3⟩
end
theorem UY(h:Heap)(hb:sysModules<h.objs.size):dQ P w H (h.push {cls:=.type "dict",data:=.dict #[]}) h.objs.size (.dK []):=
 ⟨é _,beq_eq_false_iff_ne.mpr (Ð (Ì hb)),[],.nil,Heap.DictOf.new h⟩
def aHF:TE:=λ_ H Q=>∀p,H p=none->Q (.ref p) (aX H p (.dK []))
section
theorem UZ:PE X (.Dict [] [] pos) aHF:=λU s σ H Q I h=>
 wpAny_Dict_empty ⟨.ref s.heap.objs.size,_,I.laid (a:=s.heap.objs.size) (o:=.dK []) (t':=s.toks) (λ_ _ q=>Heap.get?_push_of_some _ q) (Ç _) (UY s.heap I.big),rfl,h _ (I.hok.fresh (Ç _))⟩
end
structure M2(X:Cx)(o:Expr)(m:Str)(apos:Pos)(e f:Expr)(cpos:Pos):Prop where
 base:attributeBase o m X.env (eval o X.env)=eval o X.env
 few:((backTo cpos (starEach [e,f] X.env)).all (λx=>!x.1) && (backToKw cpos (keywordEach [] X.env)).all (λx=>x.1.isSome)
  && decide (([e,f]:List Expr).length+([]:List Keyword).length+(if ([]:List Keyword).isEmpty then 0 else 1)<30))=true
 line:(apos.endLine == cpos.line)=true
 trees:backTo cpos (starEach [e,f] X.env)=[(false,eval e X.env),(false,eval f X.env)]
def ϕ(H:Hp)(a:Addr):Prop:=(∃À,Rd H a (.dK À))\/∃À,Rd H a (.dT À)
theorem aHG(I:Inv X U σ H s)(d:ϕ H a):
  s.TypeIs (.ref a) "dict"/\(∀b,Value.ref a=.ref b->∃ob,s.heap.get? b=some ob/\ob.dict=none)/\(a == sysModules)=false:=by
 rcases d with ⟨À,e⟩|⟨À,e⟩
 .obtain⟨_,hd,vs,_,dd⟩:=NG I.hok e
  refine⟨dd.typeIs,λb q=>?_,hd⟩;cases q;let⟨ob,_,_,h1,h2,_⟩:=dd;exact⟨ob,h1,h2.2.1⟩
 .obtain⟨_,hd,xs,_,dd⟩:=NH I.hok e
  refine⟨dd.typeIs,λb q=>?_,hd⟩;cases q;let⟨ob,_,_,h1,h2,_⟩:=dd;exact⟨ob,h1,h2.2.1⟩
section
variable {X:Cx}{U:ZB}{σ:St}{H:Hp}{s:Shared}{a:Addr}{y d:V}{u r:Value}{o:Option V}{A:Around}{E:ZA}
theorem aHH(hu:A.units+1<cLine)(I:Inv X U σ H s)(g:AO H a y o)(ry:bJ y u)(rd:bJ d r)(h:∀w' s',Inv X U σ H s'->bJ (o.getD d) w'->Q w' s'):
  wpAny 'b' A (call (.builtin "dict.get") [.ref a,u,r]) Q E s:=by
 rcases g with ⟨À,k,e,ey,l⟩|⟨À,k,b,e,ey,eb,l⟩
 .subst ey
  let⟨z,hd,vs,rel,dd⟩:=NG I.hok e;refine call_meetsIn PySem.F.slot_dict_get dd.typeIs PySem.F.entry_dict_get (PySem.F.args_dict_get_3 _ _ _) (meets_dict_get_default (dH X.prog X.w) a (NF ry) hd r) ⟨_,dd.mapOf,h _ _ (I.tok _) ?_⟩;rw[l];exact(rel.val k).getD rd
 .subst ey
  cases (show u=Value.ref b from ry);let⟨z,hd,xs,rel,dd⟩:=NH I.hok e;refine call_meetsIn PySem.F.slot_dict_get dd.typeIs PySem.F.entry_dict_get (PySem.F.args_dict_get_3 _ _ _) (meetsH_dict_get_default (tupleKind (dH X.prog X.w)) a b hd r) ⟨tupleKind_room_in1 hu,k,xs,D3 I.hok eb,dd,h _ _ (I.tok _) ?_⟩;rw[l];exact(rel.val k).getD rd
end
def aHI(td ty tx:TE):TE:=λσ H Q=>td σ H λx H1=>∃a,x=.ref a/\ϕ H1 a/\ty σ H1 λy H2=>tx σ H2 λz H3=>∃o,AO H3 a y o/\Q (o.getD z) H3
section
theorem U0(hu:X.A.units+1<cLine)(ho:PE X o td)(he:PE X e ty)(hf:PE X f tx)(m:M2 X o "get" apos e f cpos):PE X (.Call (.Attribute o "get" apos) [e,f] [] cpos) (aHI td ty tx):=by
 intro U s σ H Q I h;refine wpAny_Call_method m.base m.few m.line PySem.F.plainAttrs_dict PySem.F.slot_dict_get PySem.F.type_dict_get (cN (ho U s σ H _ I h) λu s1⟨x,H1,I1,rx,a,ex,d,q1⟩=>?_);subst ex;obtain rfl:u=Value.ref a:=rx;let⟨t1,t2,_⟩:=aHG I1 d;refine⟨t1,t2,?_⟩;rw[m.trees];refine Calls.callWith_builtin rfl (Calls.evalArgs_plain (Calls.spliced_cons (cN (he U s1 σ H1 _ I1 q1) λiv s2⟨y,H2,I2,ry,q2⟩=>
  Calls.spliced_cons (cN (hf U s2 σ H2 _ I2 q2) λfv s3⟨z,H3,I3,rz,ov,g,q3⟩=>Calls.spliced_nil ?_))))
 exact aHH hu I3 g ry rz λw' s4 I4 rw'=>⟨_,H3,I4,rw',q3⟩
end
section
end
section
end
def dG:D->Option dP
 |.int i=>some (.inl i)
 |.str x=>some (.inr x)
 |_=>none
theorem sO(k:dP):dG (E9 k)=some k:=by cases k<;>rfl
def KO(k:dP)(ms:List dP):List dP:=if (ms.any λm=>decide (m=k))=true then ms else ms++[k]
def D4{α:Type}(k:dP)(y:α)(ms:List dP)(xs:List α):List α:=if (ms.any λm=>decide (m=k))=true then (ms.zip xs).map (λp=>if p.1=k then y else p.2)else xs++[y]
def KP(k:dP)(y:D)(À:List (D×D)):List (D×D):=
 if (À.any λkv=>decide (dG kv.1=some k))=true then À.map (λkv=>if dG kv.1=some k then (kv.1,y)else kv)else À++[(E9 k,y)]
def jP(k:dP)(À:List (D×D)):ZL:=(À.find? λkv=>decide (dG kv.1=some k)).map Prod.snd
theorem NJ{α:Type}:∀{ms:List dP}{xs:List α},ms.length=xs.length->((ms.zip xs).any λkv=>decide (kv.1=k))=ms.any λm=>decide (m=k)
 |[],[],_=>rfl
 |m::ms,x::xs,h=>by rw[á,List.any_cons,List.any_cons,NJ (by simpa using h)]
theorem G6 :∀{ms:List dP}{xs:ZI},ms.length=xs.length->(((ms.map E9).zip xs).any λkv=>decide (dG kv.1=some k))=ms.any λm=>decide (m=k)
 |[],[],_=>rfl
 |m::ms,x::xs,h=>by
  rw[Î,á,List.any_cons,List.any_cons,G6 (by simpa using h)];dsimp only;rw[sO]
  grind
theorem NK{α:Type}{y:α}:∀{ms:List dP}{xs:List α},ms.length=xs.length->(ms.zip xs).map (λkv=>if kv.1=k then (kv.1,y)else kv)=ms.zip ((ms.zip xs).map (λp=>if p.1=k then y else p.2))
 |[],[],_=>rfl
 |m::ms,x::xs,h=>by
  rw[á,Î,Î,á,NK (by simpa using h)];congr 1;dsimp only;split<;>rfl
theorem G7{y:D}:∀{ms:List dP}{xs:ZI},ms.length=xs.length->((ms.map E9).zip xs).map (λkv=>if dG kv.1=some k then (kv.1,y)else kv)=(ms.map E9).zip ((ms.zip xs).map (λp=>if p.1=k then y else p.2))
 |[],[],_=>rfl
 |m::ms,x::xs,h=>by
  rw[Î,á,á,Î,Î,á,G7 (by simpa using h)];congr 1;dsimp only;rw[sO]
  grind
theorem U1{xs:List α}(h:ms.length=xs.length):(KO k ms).length=(D4 k y ms xs).length:=by
 unfold KO D4;split
 .rw[Ä,ê];lia
 .rw[Ë,Ë,h];rfl
theorem U2(h:ms.length=xs.length):uJ (ms.zip xs) k y=(KO k ms).zip (D4 k y ms xs):=by
 unfold uJ KO D4;rw[NJ h];split
 .exact NK h
 .rw[List.zip_append h];rfl
theorem U3{xs:ZI}(h:ms.length=xs.length):KP k y ((ms.map E9).zip xs)=((KO k ms).map E9).zip (D4 k y ms xs):=by
 unfold KP KO D4;rw[G6 h];split
 .exact G7 h
 .rw[Ú,List.zip_append (by rw[Ä];exact h)];rfl
theorem uK{K:ZC}:∀{ms:List dP}{ds:ZI}{vs:List V},ms.length=ds.length->aD K F ds vs->(jP k ((ms.map E9).zip ds)=none/\qK (ms.zip vs) k=none)\/∃d v,jP k ((ms.map E9).zip ds)=some d/\qK (ms.zip vs) k=some v/\bI K F d v
 |[],[],vs,_,_=>.inl ⟨rfl,rfl⟩
 |m::ms,d::ds,vs,h,r=>by
  unfold aD at r;let⟨x,t,rfl,hx,ht⟩:=r;rw[Î,á,á];by_cases e:m=k
  .refine .inr ⟨d,x,?_,?_,hx⟩
   .unfold jP
    rw[Ā,decide_eq_true (by dsimp only;rw[sO,e])]
    rfl
   .exact sM e
  .have ih:=uK (k:=k) (ms:=ms) (by simpa using h) ht
   have e1:jP k ((E9 m,d)::(ms.map E9).zip ds)=jP k ((ms.map E9).zip ds):=by
    unfold jP;rw[Ā,decide_eq_false (by dsimp only;rw[sO];exact λz=>e (Option.some.inj z))]
   rw[e1,sN (by exact e)];exact ih
theorem ϖ{K:ZC}:∀{ms:List dP}{ds:ZI}{vs:List V},ms.length=ds.length->aD K F ds vs->bI K F d v->aD K F ((ms.zip ds).map (λp=>if p.1=k then d else p.2)) ((ms.zip vs).map (λp=>if p.1=k then v else p.2))
 |[],[],vs,_,r,_=>by unfold aD at r;subst r;exact lQ
 |m::ms,d'::ds,vs,h,r,hd=>by
  unfold aD at r;let⟨x,t,rfl,hx,ht⟩:=r;rw[á,á,Î,Î];refine lR ?_ (ϖ (by simpa using h) ht hd);dsimp only;split
  .exact hd
  .exact hx
theorem aBB{K:ZC}(h:ms.length=ds.length)(r:aD K F ds vs)(hd:bI K F d v):aD K F (D4 k d ms ds) (D4 k v ms vs):=by
 unfold D4;split
 .exact ϖ h r hd
 .exact r.app (lR hd lQ)
section
variable {X:Cx}{Z:b8}{ow ol ox:ZH}{rm i:Nat}{spos tpos:Pos}{fk fv:M D}{F H:Hp}{σ:St}{δ:DS}{g:ZP}{K:ZC}
theorem aZ.dct(h:aZ K F H g i 30 p d v):
  ∃a ms ds vs,d=kG ms ds/\v=.ref a/\ms.length=ds.length/\ds.length=vs.length/\g a=some (i,p)/\H a=some (.dK (ms.zip vs))/\F a=none/\aD K F ds vs:=by
 let⟨ds,vs,cs,nd,hc,hl,r⟩:=aZ.open (c:=29) h;let⟨a,ms,h1,h2,h3,rfl⟩:=nd;let⟨a1,a2,a3⟩:=hc _ (ó.mpr rfl);exact⟨a,ms,ds,vs,h1,h2,h3,hl,by simpa using a1,a2,a3,aD.of hl λk d' v' q1 q2=>r k d' v' q1 q2⟩
theorem aZ.mkD{i:Nat}{p:ZH}{a:Addr}{ms:List dP}{ds:ZI}{vs:List V}(h3:ms.length=ds.length)(a1:g a=some (i,p))(a2:H a=some (.dK (ms.zip vs)))(a3:F a=none)(r:aD K F ds vs):aZ K F H g i 30 p (kG ms ds) (.ref a):=by
 refine aZ.shut (c:=29) (ds:=ds) (vs:=vs) (cs:=[(a,[],.dK (ms.zip vs))]) ⟨a,ms,rfl,rfl,h3,rfl⟩ (λx hx=>?_) r.len λk d' v' q1 q2=>r.both k d' v' q1 q2;rw[ó.mp hx];exact⟨by simpa using a1,a2,a3⟩
theorem cP.newDict(S:aO Z ow)(R:cP K Z ow F H σ δ)(hp:H p=none):gJ K Z ow 30 (kG [] []) (.ref p) F (aX H p (.dK [])) σ δ:=by
 have fp:=R.fnone hp;let⟨g,R⟩:=R;have z:Z.H0 p=none:=by
  cases e:Z.H0 p with
  |none=>rfl
  |some u=>exact absurd hp (R.there p (by rw[e];simp))
 refine⟨λb=>if b=p then some (1000,[])else ĕ g 1000 b,⟨R.sub.trans' (cL hp _),R.f0,λb u n e=>?_,R.new,λb h=>?_,λa i q e=>?_,R.len,R.par,λi d e=>?_⟩,?_⟩
 .have:b≠p:=λq=>by rw[q,z]at e;cases e
  rw[aH this];exact R.kept b u n e
 .have:b≠p:=λq=>h (by rw[q,z])
  rw[aH this];exact R.there b h
 .split at e
  .rename_i q;rw[q];exact .inl z
  .exact R.lab a i q (CY e).1
 .obtain⟨v,e1,o⟩:=R.slot i d e
  refine⟨v,e1,?_⟩;by_cases hi:ow.getD i 0=0
  .rw[hi]at o⊢;exact o
  .have hi':i<1000:=D2 S hi
   refine o.keepJ (λ_ _ z=>z) λa q u e1 e2 e3=>?_;have:a≠p:=λz=>by rw[z,hp]at e2;cases e2
   exact⟨by rw[Â this];exact CW (by show i≠1000;exact Ì ‹_›) e1,by rw[aH this];exact e2,e3⟩
 .exact aZ.mkD (ms:=[]) (vs:=[]) rfl (Á rfl) aM fp lQ
theorem D5(S:aO Z ow):DE X Z ow 30 (.Dict [] [] pos) (dC (kG [] [])):=PE.mono UZ λσ H Q q=>by
 let⟨F,δ,R,q⟩:=q;exact λp hp=>q _ _ F (R.newDict S hp) (aI.refl _)
theorem cI.rewriteD(R:cI K Z ow g F H σ δ)(ho:ow.getD i 0=30)(hd:δ[i]?=some (some (kG ms ds)))(hs:σ[i]?=some (some (.ref a)))(hl:ms'.length=ds'.length)(hr:aD K F ds' vs'):
  cI K Z ow g F (aX H a (.dK (ms'.zip vs'))) σ (δ.set i (some (kG ms' ds'))):=by
 let⟨v,e1,o⟩:=R.slot i _ hd;rw[hs]at e1;cases e1;rw[ho]at o;let⟨a',ms0,ds0,vs0,q1,q2,q3,q4,q5,q6,q7,q8⟩:=o.dct;cases q2;have hi:i<δ.length:=(Ò.mp hd).1;refine⟨λb u e=>?_,R.f0,λb u n e=>?_,R.new,λb z=>?_,R.lab,by rw[Ù];exact R.len,R.par,λj d e=>?_⟩
 .have:b≠a:=λz=>by rw[z,q7]at e;cases e
  rw[aH this];exact R.sub b u e
 .have:b≠a:=λz=>by
   subst z;rcases R.lab b i [] q5 with w|⟨q,w⟩
   all_goals grind
  rw[aH this];exact R.kept b u n e
 .by_cases hb:b=a
  .subst hb;rw[aM];simp
  .rw[aH hb];exact R.there b z
 .by_cases hj:j=i
  .subst hj
   rw[ð hi]at e;cases e;refine⟨_,hs,?_⟩;rw[ho];exact aZ.mkD hl q5 aM q7 hr
  .rw[ß (Ð hj)]at e
   let⟨v,e1,o⟩:=R.slot j d e;exact⟨v,e1,aZ.updNe q5 (.inl hj) o⟩
def NL(i:Nat)(fk fv:M D):M Fl:=λδ=>(fv δ).bind λv δ1=>match δ1[i]? with
 |some (some _)=>(fk δ1).bind λk δ2=>(match δ2[i]?,dG k with
  |some (some (.dict À)),some ky=>if À.length<sizeLine then .ok .next (δ2.set i (some (.dict (KP ky v À))))else .stuck
  |_,_=>.stuck)
 |_=>.stuck
theorem D6(h:dG k=some ky)(r:bI K F k y):y=kV ky:=by
 cases k with
 |int i=>cases h;unfold bI at r;exact r
 |str x=>cases h;unfold bI at r;exact r
 |_=>cases h
theorem aHJ{À:List (D×D)}(h:(PyData.dict À:D)=kG ms ds):À=(ms.map E9).zip ds:=by
 unfold kG at h;injection h
theorem sQ(i:Nat){x:Str}{p:Pos}(hu:X.A.units+64<cLine)(hv:DE X Z ow 0 ev fv)(hk:DE X Z ow 0 ek fk)(ho:↥(ow.getD i 0=30))(hN:↥(X.N[i]?=some x))(hvi:#v[CH X.env.scope x])(hd:⇑(Zdb x))(hcd:⇑(Zcd x))(hs:↥(swapsWith ev (some (.Subscript 'i' ek tpos)) spos.line X.env=pure false)):
  AE X Z ow ow ol ox rm (.Assign [.Subscript 'i' ek tpos] ev spos) (NL i fk fv):=PS.mono (aBA ∅ (eD hN hvi hd hcd) hk hv hs) λDn σ H h=>by
 let⟨F,δ,R,h⟩:=h;unfold NL at h;refine⟨F,δ,R,?_⟩;cases e:fv δ with
 |stuck=>rw[e]at h;exact h.elim
 |err y δ1=>rw[e]at h;exact iV.cast h
 |ok dv δ1=>
  rw[e]at h;simp![Res.bind]at h;intro v H1 F1 R1 s1;cases e0:δ1[i]? with
  |none=>rw[e0]at h;exact h.elim
  |some o=>
   cases o with
   |none=>rw[e0]at h;exact h.elim
   |some d0=>
    rw[e0]at h;dsimp only at h;let⟨g0,R0⟩:=R1.rel;let⟨v0,w0,o0⟩:=R0.slot i _ e0;rw[ho]at o0;let⟨a,ms0,ds0,vs0,_,q2,_⟩:=o0.dct;subst q2;refine⟨_,w0,F1,δ1,R1.rel,?_⟩;cases e1:fk δ1 with
    |stuck=>rw[e1]at h;exact h.elim
    |err y δ2=>rw[e1]at h;exact iV.cast (iV.mono h s1)
    |ok dk δ2=>
     rw[e1]at h;dsimp only at h;intro kv H2 F2 R2 s2;let⟨g2,RG,ok2⟩:=R2;have ok2:bI X.K F2 dk kv:=ok2;split at h
     .rename_i À ky e2 e3
      split at h
      .rename_i hlt
       let⟨v1,w1,o1⟩:=RG.slot i _ e2;rw[ho]at o1;let⟨a',ms,ds,vs,d1,q2,l1,l2,_,hH,_,hr⟩:=o1.dct;rw[w0]at w1;cases w1;cases q2;obtain rfl:=aHJ d1;obtain rfl:=D6 e3 ok2;rw[ê,Ä]at hlt;refine⟨a,_,rfl,UW.k hH (by rw[ê];lia),?_⟩;rw[U2 'k'];rw[U3 l1]at h;have R3:=RG.rewriteD (ms':=KO ky ms) ho (show δ2[i]?=some (some (kG ms ds))from e2) w0 (U1 l1) (aBB (k:=ky) l1 hr (s2.rep _ _ R1.rep));exact h σ _ F2 ⟨g2,R3⟩ (s1.trans' s2)
      .exact h.elim
     .exact h.elim
def NM(fx fk fz:M D):M D:=λδ=>(fx δ).bind λx δ1=>match x with
 |.dict À=>if (À.all λkv=>(dG kv.1).isSome)=true then (fk δ1).bind λk δ2=>(fz δ2).bind λz δ3=>(match dG k with
  |some ky=>.ok ((jP ky À).getD z) δ3
  |none=>.stuck)else .stuck
 |_=>.stuck
theorem NO{À:List (D×D)}(h:bI K F (.dict À) v)(ha:(À.all λkv=>(dG kv.1).isSome)=true):∃(a:Addr)(ms:List dP)(ds:ZI)(vs:List V),À=(ms.map E9).zip ds/\ms.length=ds.length/\v=.ref a/\F a=some (.dK (ms.zip vs))/\aD K F ds vs:=by
 unfold bI at h;let⟨a,xs,rfl,hh,hr⟩:=h;rcases hh with ⟨nm,fs,C,dx,vs,h1,h2,_⟩|⟨ms,h1,h2,h3⟩
 .exfalso
  cases À with
  |nil=>cases h2
  |cons kv À=>
   rw[Î]at h2;injection h2 with h2 _;rw[List.all_cons,h2]at ha;cases ha
 .have hl:ms.length=(À.map Prod.snd).length:=by rw[<- Ä (f:=E9),<- h1,Ä,Ä]
  refine⟨a,ms,À.map Prod.snd,xs,?_,hl,rfl,h3,hr.all⟩;rw[<- h1];clear h1 hl h3 hr h2 ha
  induction À with
  |nil=>rfl
  |cons kv À ih=>grind
theorem NP{apos cpos:Pos}(hu:X.A.units+64<cLine)(ho:DE X Z ow 0 o fx)(he:DE X Z ow 0 e fk)(hf:DE X Z ow 0 f fz)(base:↥(attributeBase o "get" X.env (eval o X.env)=eval o X.env))(few:↥(((backTo cpos (starEach [e,f] X.env)).all (λx=>!x.1) && (backToKw cpos (keywordEach [] X.env)).all (λx=>x.1.isSome)
   && decide (([e,f]:List Expr).length+([]:List Keyword).length+(if ([]:List Keyword).isEmpty then 0 else 1)<30))=true))(line:↥((apos.endLine == cpos.line)=true))(trees:↥(backTo cpos (starEach [e,f] X.env)=[(false,eval e X.env),(false,eval f X.env)])):
  DE X Z ow 0 (.Call (.Attribute o "get" apos) [e,f] [] cpos) (NM fx fk fz):=PE.mono (U0 ∅ ho he hf ⟨base,few,line,trees⟩) λσ H Q q=>by
 let⟨F,δ,R,q⟩:=q;unfold NM at q;refine⟨F,δ,R,?_⟩;cases e1:fx δ with
 |stuck=>rw[e1]at q;exact q.elim
 |err y δ1=>rw[e1]at q;exact q
 |ok dx δ1=>
  rw[e1]at q;simp![Res.bind]at q;intro x H1 F1 R1 s1;split at q
  .rename_i À
   split at q
   .rename_i hall
    let⟨a,ms,ds,vs,rfl,l1,rfl,hF,hr⟩:=NO R1.rep hall;refine⟨a,rfl,.inl ⟨_,.inl (R1.rel.sub _ _ hF)⟩,F1,δ1,R1.rel,?_⟩;cases e2:fk δ1 with
    |stuck=>rw[e2]at q;exact q.elim
    |err y δ2=>rw[e2]at q;exact iV.mono q s1
    |ok dk δ2=>
     rw[e2]at q;simp![Res.bind]at q;intro y H2 F2 R2 s2;refine⟨F2,δ2,R2.rel,?_⟩;cases e3:fz δ2 with
     |stuck=>rw[e3]at q;exact q.elim
     |err y δ3=>rw[e3]at q;exact iV.mono q (s1.trans' s2)
     |ok dz δ3=>
      rw[e3]at q;simp![Res.bind]at q;intro z H3 F3 R3 s3;split at q
      .rename_i ky e4
       obtain rfl:=D6 e4 R2.rep;refine⟨qK (ms.zip vs) ky,AO.k (R3.rel.sub _ _ (s3 _ _ (s2 _ _ hF))),?_⟩;rcases uK (k:=ky) l1 hr with ⟨h1,h2⟩|⟨d,v,h1,h2,h3⟩
       .rw[h1]at q
        rw[h2];exact q z H3 F3 R3 (s1.trans' (s2.trans' s3))
       .rw[h1]at q
        rw[h2];exact q v H3 F3 (R3.rel.x ((s2.trans' s3).rep _ _ h3)) (s1.trans' (s2.trans' s3))
      .exact q.elim
   .exact q.elim
  .exact q.elim
end
section
def dU:List (M D)->M (ZI)
 |[],δ=>.ok [] δ
 |f::fs,δ=>match f δ with
  |.ok d δ1=>(match dU fs δ1 with
   |.ok ds δ2=>.ok (d::ds) δ2
   |_=>.stuck)
  |_=>.stuck
end
section
end
end L2
namespace L2
open PySem PySem.Spec
section
end
end L2
namespace L2
open PySem PySem.Spec PyProof.Rows
def U4(lo:Int)(n:Nat):List V:=(List.range n).map λ(k:Nat)=>V.int (lo+(k:Int))
def aNB(ta:TA):TE:=λσ H Q=>ta σ H λvs H1=>∃j:Int,vs=[.int j]/\-(2^62)<=j/\j<2^62/\∀r,H1 r=none->Q (.ref r) (aX H1 r (.rng 0 j))
def aNC(ta:TA):TE:=λσ H Q=>ta σ H λvs H1=>∃i j:Int,vs=[.int i,.int j]/\(-(2^62)<=i/\i<2^62/\-(2^62)<=j/\j<2^62)/\∀r,H1 r=none->Q (.ref r) (aX H1 r (.rng i j))
theorem ϗ:∀{vs:List V}{us:ZJ},vs.length=us.length->(∀(k:Nat)(v:V)(u:Value),vs[k]?=some v->us[k]?=some u->bJ v u)->bK vs us
 |[],[],_,_=>.nil
 |v::vs,u::us,hl,h=>.cons (h 0 v u rfl rfl) (ϗ (by simpa using hl) λk v' u' e1 e2=>h (k+1) v' u' e1 e2)
section
variable {X:Cx}{a b:Expr}{ta:TA}{p pos:Pos}
theorem aHK(hg:Gl X "range")(hm:X.mg "range"=none)(ha:PA X [a] ta)(hs:↥(starEach [a] X.env=[(false,eval a X.env)])):PE X (.Call (.Name "range" p) [a] [] pos) (aNB ta):=by
 intro U s σ H Q I h;refine Call_ (iE I hg hm boot_range (PyProof.Rows.callWith_type1 (cN (ha pos U s σ H _ I h) λus s1 zQ=>?_) hs rfl));let⟨vs,H1,I1,r1,q1⟩:=zQ;let⟨j,e,q1,q2,q⟩:=q1;subst e;cases r1 with
 |cons r rr=>
  cases rr;let⟨t,rfl⟩:=r;exact call_range_1 ⟨.ref _,_,I1.laid (o:=.rng 0 j) (λb o e=>Heap.get?_push_of_some _ e) (Ç _) (show ∃t u v,_ from⟨_,_,_,Heap.get?_push_size _ rfl⟩),rfl,q _ (I1.hok.fresh (Ç _))⟩
theorem aHL(hg:Gl X "range")(hm:X.mg "range"=none)(ha:PA X [a,b] ta)(hs:↥(starEach [a,b] X.env=[(false,eval a X.env),(false,eval b X.env)]))(hs2:↥(starEach [b] X.env=[(false,eval b X.env)])):PE X (.Call (.Name "range" p) [a,b] [] pos) (aNC ta):=by
 intro U s σ H Q I h;refine Call_ (iE I hg hm boot_range (PyProof.Rows.callWith_type1 (cN (ha pos U s σ H _ I h) λus s1 zQ=>?_) (by rw[hs,hs2]) (by rw[hs2];rfl)));let⟨vs,H1,I1,r1,q1⟩:=zQ;let⟨i,j,e,q1,q⟩:=q1;subst e;cases r1 with
 |cons r rr=>
  cases rr with
  |cons r' rr=>
   cases rr;let⟨t,rfl⟩:=r;let⟨t',rfl⟩:=r';exact call_range_2 ⟨.ref _,_,I1.laid (o:=.rng i j) (λb o e=>Heap.get?_push_of_some _ e) (Ç _) (show ∃t u v,_ from⟨_,_,_,Heap.get?_push_size _ rfl⟩),rfl,q _ (I1.hok.fresh (Ç _))⟩
theorem pU(hc:X.calm=true):iM X (.type "list") (λxs H Q=>∃p lo hi,xs=[.ref p]/\H p=some (.rng lo hi)/\(-(2^62)<=lo/\lo<2^62/\-(2^62)<=hi/\hi<2^62)/\(hi-lo).toNat<=sizeLine/\∀l,H l=none->Q (.ref l) (aX H l (.lst (U4 lo (hi-lo).toNat)))):=by
 intro U s σ H xs us Q I r h;let⟨p,lo,hi,rfl,hp,⟨h1,h2,h3,h4⟩,hz,q⟩:=h;let⟨u,rfl,rx⟩:=pG r;cases rx;let⟨t,u,v,e⟩:=I.hok p _ hp;refine call_list_range (I.ok.hd hc) (show IsRange s.heap p lo hi 1 t u v from e) (small_one h1 h2 h3 h4) (n:=(hi-lo).toNat) (by rw[rangeSize_one];split<;>lia) hz λh' tk acc' c' kp e it=>?_;let⟨i1,i2⟩:=it;refine⟨.ref _,_,I.laid (t':=tk) kp (Ç _) (show dQ X.prog X.w _ h' _ (.lst (U4 lo (hi-lo).toNat))from⟨by unfold U4;simpa using hz,acc'.toList,c',?_,by simpa using e⟩),rfl,q _ (I.hok.fresh (Ç _))⟩;refine ϗ ?_ λk v u e1 e2=>?_
 .unfold U4;simp[i1]
 .have hk:k<(hi-lo).toNat:=by
   have:=(Ò.mp e1).1;unfold U4 at this;simpa using this
  unfold U4 at e1;rw[Ñ,ÿ hk]at e1;cases e1;let⟨t',e3⟩:=i2 k u (by simpa using e2);exact⟨t',by rw[e3];simp⟩
end
section
variable {X:Cx}{Z:b8}{ow:ZH}{a b:Expr}{f g:M D}{p p2 p3 pos:Pos}
def BQ(fs:List (M D)):M D:=λδ=>(aY fs δ).bind λds δ1=>match kJ ds with
 |some (lo,n)=>if n<=sizeLine then .ok (.list (jI lo n)) δ1 else .stuck
 |none=>.stuck
theorem G8{K:ZC}{lo:Int}:aD K F (jI lo n) (U4 lo n):=aD.of (by rw[fW];unfold U4;simp) λk d v e1 e2=>by
 have hk:k<n:=by
  have:=(Ò.mp e1).1;rw[fW]at this;exact this
 rw[C1 hk]at e1;unfold U4 at e2;rw[Ñ,ÿ hk]at e2;cases e1;cases e2;exact gM
theorem U5(S:aO Z ow)(hc:X.calm=true)(hgl:Gl X "list")(hml:X.mg "list"=none)(hgr:Gl X "range")(hmr:X.mg "range"=none)(ha:DE X Z ow 0 a f)(hs:↥(Zse a [] X.env))(he:↥(starEach [.Call (.Name "range" p2) [a] [] p3] X.env=(false,eval (.Call (.Name "range" p2) [a] [] p3) X.env)::starEach [] X.env)):DE X Z ow 1 (.Call (.Name "list" p) [.Call (.Name "range" p2) [a] [] p3] [] pos) (BQ [f]):=
 PE.mono (tY (pU hc) hgl hml oC (gY (aHK hgr hmr (aE ha aS hs) hs) m4 he) ⋯ ⋯ he) λσ H Q q=>by
  let⟨F,δ,R,q⟩:=q;unfold BQ at q;refine⟨F,δ,R,?_⟩;cases e1:aY [f] δ with
  |stuck=>rw[e1]at q;exact q.elim
  |err x δ1=>rw[e1]at q;exact q
  |ok ds δ1=>
   rw[e1]at q;simp![Res.bind]at q;intro vs H1 F1 R1 s1 ra;cases e2:kJ ds with
   |none=>rw[e2]at q;exact q.elim
   |some m=>
    let⟨lo,m⟩:=m;rw[e2]at q;let⟨j,rfl,h1,h2,rfl,rfl⟩:=F7 e2 (kK e1);dsimp only at q;split at q
    .rename_i hz
     refine⟨j,wW ra,h1,h2,λr hr=>⟨r,0,j,rfl,aM,⟨⋯,⋯,h1,h2⟩,by simpa using hz,λl hl=>?_⟩⟩;have R2:=R1.laid (o:=.rng 0 j) hr;have fr:F1 r=none:=R1.fnone hr;have:=q (.ref l) _ _ (R2.newList (ds:=jI 0 j.toNat) (vs:=U4 0 (j-0).toNat) S hl (by rw[Int.sub_zero];exact G8)) (s1.trans' (cL fr _));exact this
    .exact q.elim
theorem U6(S:aO Z ow)(hc:X.calm=true)(hgl:Gl X "list")(hml:X.mg "list"=none)(hgr:Gl X "range")(hmr:X.mg "range"=none)(ha:DE X Z ow 0 a f)(hb:DE X Z ow 0 b g)(hs:↥(starEach [a,b] X.env=(false,eval a X.env)::starEach [b] X.env))(hs2:↥(Zse b [] X.env))(he:↥(starEach [.Call (.Name "range" p2) [a,b] [] p3] X.env=(false,eval (.Call (.Name "range" p2) [a,b] [] p3) X.env)::starEach [] X.env)):DE X Z ow 1 (.Call (.Name "list" p) [.Call (.Name "range" p2) [a,b] [] p3] [] pos) (BQ [f,g]):=
 PE.mono (tY (pU hc) hgl hml oC (gY (aHL hgr hmr (aE ha (aE hb aS hs2) hs) (hs.trans (by rw[hs2];rfl)) hs2) m4 he) ⋯ ⋯ he) λσ H Q q=>by
  let⟨F,δ,R,q⟩:=q;unfold BQ at q;refine⟨F,δ,R,?_⟩;cases e1:aY [f,g] δ with
  |stuck=>rw[e1]at q;exact q.elim
  |err x δ1=>rw[e1]at q;exact q
  |ok ds δ1=>
   rw[e1]at q;simp![Res.bind]at q;intro vs H1 F1 R1 s1 ra;cases e2:kJ ds with
   |none=>rw[e2]at q;exact q.elim
   |some m=>
    let⟨lo,m⟩:=m;rw[e2]at q;let⟨i,j,rfl,h1,rfl,rfl⟩:=F8 e2 (kK e1);dsimp only at q;split at q
    .rename_i hz
     refine⟨lo,j,F9 ra,h1,λr hr=>⟨r,lo,j,rfl,aM,h1,hz,λl hl=>?_⟩⟩;have R2:=R1.laid (o:=.rng lo j) hr;have fr:F1 r=none:=R1.fnone hr;exact q (.ref l) _ _ (R2.newList (ds:=jI lo (j-lo).toNat) (vs:=U4 lo (j-lo).toNat) S hl G8) (s1.trans' (cL fr _))
    .exact q.elim
end
structure sR(K:ZC)(mg:ZD)(base:Heap):Prop where
 bm:∃bm ob,mg "__builtins__"=some (.ref bm)/\bm≠builtinsNs/\base.get? bm=some ob/\ob.cls=.type "module"/\ob.dict=some builtinsNs/\ob.data=.plain
 cd:∀c P pos,jO K=some (c,P,pos)->W.CodeHd base c P
section
variable {X:Cx}{U:ZB}{σ:St}{H:Hp}{s:Shared}
structure G9(X:Cx)(U:ZB)(a:Addr):Prop where
 pin:∀p∈X.pn++U,p.1≠a
 new:X.s₀.heap.objs.size<=a
 loc:a≠X.env.locals
 cells:∀x c,X.env.cells.lookup x=some c->c≠a
theorem Inv.mine(I:Inv X U σ H s)(h:s.heap.objs.size<=a):G9 X U a:=
 ⟨λp hp=>Ì (Ô (Heap.lt_size (I.pin p hp).1) h),Ø I.sz h,Ü (Ô I.lt h),λx c e=>by
  let⟨v,q⟩:=I.cell x c e;exact Ì (Ô q.lt h)⟩
theorem Inv.repin(I:Inv X ((a,o)::U) σ H s)(m:G9 X U a)(k:∀b ob,b≠a->s.heap.get? b=some ob->h'.get? b=some ob)(e:h'.get? a=some o')(hd:∀v,o'.data≠.cell v):
  Inv X ((a,o')::U) σ H {s with heap:=h',toks:=t'}:=by
 let⟨p1,p2,p3,p4,p5⟩:=I.pin (a,o) (Û _ Ó);have I1:Inv X U σ H s:=I.pins_of λp hp=>I.pin p (Û _ (Ï _ hp));have I2:=I1.turned (h':=h') (t':=t') (it:=a) k p2 m.loc (.inr m.new) m.cells m.pin;refine I2.pins_of λp hp=>?_;rcases Í.mp hp with rfl|hp
 .exact⟨e,p2,p3,p4,hd⟩
 .exact I2.pin p (Û _ hp)
theorem Inv.pinNew(I:Inv X U σ H s)(e:s.heap.get? a=some o)(hn:H a=none)(hl:a≠X.env.locals)(hf:a∉X.fs)(hd:∀v,o.data≠.cell v):Inv X ((a,o)::U) σ H s:=I.pins_of λp hp=>by
 rcases Í.mp hp with rfl|hp
 .exact⟨e,hn,hl,hf,hd⟩
 .exact I.pin p (Û _ hp)
theorem Inv.unpin(I:Inv X (p::U) σ H s):Inv X U σ H s:=I.pins_of λq hq=>I.pin q (Û _ (Ï _ hq))
end
abbrev sS(pos:Pos):HO:=.lam (rawInt pos.line) (rawInt pos.col) kH
abbrev P0(pos:Pos)(c':Addr):Obj:=W.tabObj #[rawInt pos.line,rawInt pos.col,.ref c']
structure sT(X:Cx)(U:ZB)(σ:St)(H:Hp)(P:Addr)(pos:Pos)(fo:Obj)(f c':Addr)(H':Hp)(s':Shared):Prop where
 inv:Inv X U σ H' s'
 same:aI H H'
 fn:s'.heap.get? f=some fo
 un:H' f=none
 loc:f≠X.env.locals
 nf:f∉X.fs
 cd:s'.heap.CodeRec (.ref c') kH
 own:H' c'=some (.own P)
 ne:c'≠P
 tb:s'.heap.get? P=some (P0 pos c')
 lm:H' P=some (sS pos)
section
variable {X:Cx}{U:ZB}{σ:St}{H:Hp}{s:Shared}{params:Arguments}{body:Expr}{scope:Scope}{pos:Pos}{c P:Addr}{clos:List (Str×Addr)}
theorem U7{Q:ZA}{E:ZA}{M:Model}{A:Around}(I:Inv X U σ H s)(B:sR X.K X.mg X.base)(hl:jO X.K=some (c,P,pos))(hP:H P=some (sS pos))(hcode:X.env.code=.ref c)(hq:X.env.qual++"<lambda>"=kH)(hcl:closureFor scope X.env=pure clos)(hdef:defaultsOf params X.env=([],[]))(h:∀f c' ctv H' s',sT X U σ H P pos 'f' f c' H' s'->Q (.ref f) s'):wpAny M A (eval (.Lambda params body scope pos) X.env) Q E s:=by
 refine W.kla_eval hdef ?_;rw[hq];have hg:s.heap.Ns mainGlobals X.mg:=I.mod.glob.keeps I.bk;have C:W.CodeHd s.heap c P:=(B.cd c P pos hl).keeps I.bk;let⟨bm,ob,b1,b2,b3,b4,b5,b6⟩:=B.bm;have b3':=I.bk _ _ b3;let⟨ps,e1,e2⟩:=I.hok P _ hP;have hPl:P<s.heap.objs.size:=Heap.lt_size e1;have hgP:mainGlobals≠P:=λq=>by
  let⟨o,es,ep,e,hd,_⟩:=hg;rw[q,e1]at e;cases e;cases hd
 have hbP:bm≠P:=λq=>by rw[q,e1]at b3';cases b3';cases b4
 have hbG:bm≠mainGlobals:=λq=>by
  let⟨o,es,ep,e,hd,_⟩:=hg;rw[q,e]at b3';cases b3';rw[hd]at b6;cases b6
 have BA:s.heap.BuiltinsAt X.mg P:=⟨bm,ob,b1,b2,hbG,hbP,b3',b4,b5,b6⟩;have far:∀{n:Nat},s.heap.objs.size<=n->H n=none/\n≠X.env.locals/\n∉X.fs:=λ{n}hn=>⟨I.hok.fresh hn,Ü (Ô I.lt hn),I.nofs hn⟩;rcases e2 with rfl|⟨c',rfl,o1,o2,o3⟩
 .refine W.kla_makeFunction (mg:=X.mg) hcl I.ok.glob hg hcode C e1 trivial rfl hgP BA λc' ctv h' tk hx hge hlt hrec htb=>?_
  have hc:H c'=none:=(far hge).1;have hk:∀b o,b≠P->s.heap.get? b=some o->(h'.push 'f').get? b=some o:=λb o n e=>Heap.get?_push_of_some _ (hx b o n e);have ht:(h'.push 'f').get? P=some (P0 pos c'):=Heap.get?_push_of_some _ htb;have hr:(h'.push 'f').CodeRec (.ref c') kH:=hrec.push _;have ncP:c'≠P:=Ü (Ô hPl hge);have un:Un X.fs [] H (aX H c' (.own P)) s.heap (h'.push 'f'):=by
   have nP:∀b,H b=none->b≠P:=λb n z=>by rw[z,hP]at n;cases n
   refine⟨λb o e n _ _=>hk b o (nP b n) e,λb o e n _ _=>⟨o.slots,hk b o (nP b n) e⟩,λb o e n _=>?_,λb o e _=>?_,λb xs e=>?_,λb o u e=>?_,λb ps e=>⟨#[],?_⟩⟩
   .rw[aH (Ì (Ô (Heap.lt_size e) hge))];exact n
   .by_cases z:b=P
    .exact⟨_,z▸ht⟩
    .exact⟨o,hk b o z e⟩
   .rw[aH (bM e hc)];exact e
   .rw[aH (bM e hc)];exact e
   .rw[aH (bM e hc),e];simp
  have hok:mR X.prog X.w (aX H c' (.own P)) (h'.push 'f'):=λb o e=>by
   by_cases z:b=c'
   .subst z
    rw[aM]at e;cases e;let⟨_,o,_,_,q1,q2,_⟩:=hr;cases q1;exact⟨o,q2⟩
   .rw[aH z]at e
    by_cases y:b=P
    .subst y
     rw[hP]at e;cases e;exact⟨_,ht,.inr ⟨c',rfl,aM,ncP,hr⟩⟩
    .refine(I.hok b o e).stay (λd u hd q=>hk d u ?_ q) (λd q=>by rw[aH (bM q hc)];exact q) λd xs q=>by rw[aH (bM q hc)];exact q
     rcases hd with rfl|hd
     .exact y
     .rintro rfl;rw[hP]at hd;cases hd
  have hf:s.heap.objs.size<=h'.objs.size:=È (Č hge hlt);have I2:=I.un (t':=tk) un hok;refine h _ c' ctv (aX H c' (.own P)) _ ⟨I2,λb o e=>by rw[aH (bM e hc)];exact e,Heap.get?_push_size _ rfl,?_,(far hf).2.1,(far hf).2.2,hr,aM,ncP,ht,by rw[aH (Ð ncP)];exact hP⟩
  rw[aH (Ü hlt)];exact(far hf).1
 .have am:codeAmong pos (#[rawInt pos.line,rawInt pos.col,.ref c']:Array Value).toList=some (.ref c'):=codeAmong_snoc (pos:=pos) (c:=.ref c') [] trivial rfl
  refine W.kla_makeFunctionHit (mg:=X.mg) hcl I.ok.glob hg hcode C e1 trivial am BA λctv h' tk hk hsz=>?_;have hk':∀b o,s.heap.get? b=some o->(h'.push 'f').get? b=some o:=λb o e=>Heap.get?_push_of_some _ (hk b o e);have I2:=I.kept (t':=tk) hk';exact h _ c' ctv H _ ⟨I2,λ_ _ e=>e,Heap.get?_push_size _ rfl,(far hsz).1,(far hsz).2.1,(far hsz).2.2,o3.keeps hk',o1,o2,hk' _ _ e1,hP⟩
def pC(P c':Addr)(H:Hp):Hp:=λb=>open Classical in if b=P\/b=c' then none else H b
theorem iS(h1:b≠P)(h2:b≠c'):pC P c' H b=H b:=by
 unfold pC;rw[Â λz=>z.elim h1 h2]
theorem P1(e:pC P c' H b=some o):b≠P/\b≠c'/\H b=some o:=by
 unfold pC at e;split at e
 .cases e
 .rename_i z
  exact⟨λq=>z (.inl q),λq=>z (.inr q),e⟩
theorem kW{P c' b:Addr}{H:Hp}(e:H b=none):pC P c' H b=none:=by
 unfold pC;split
 .rfl
 .exact e
theorem aHM:pC P c' H P=none:=by unfold pC;rw[Á (.inl rfl)]
theorem aHN:pC P c' H c'=none:=by unfold pC;rw[Á (.inr rfl)]
theorem sT.hide(m:sT X U σ H P pos fo f c' H' s')(hfo:∀v,fo.data≠.cell v):∃oc vs t,oc.data=.fields vs/\vs[1]?=some (.str kH t)/\Inv X ((f,fo)::(c',oc)::(P,P0 pos c')::U) σ (pC P c' H') s':=by
 let⟨_,oc,vs,t,e0,e1,e2,e3⟩:=m.cd;cases e0;have nP:∀{b:Addr}{o:HO},H' b=some o->o≠sS pos->b≠P:=λ{b o}e n z=>by rw[z,m.lm]at e;cases e;exact n rfl
 have nc:∀{b:Addr}{o:HO},H' b=some o->o≠.own P->b≠c':=λ{b o}e n z=>by rw[z,m.own]at e;cases e;exact n rfl
 have I:=m.inv;have locP:P≠X.env.locals:=λz=>by have:=I.free;rw[<- z,m.lm]at this;cases this
 have locc:c'≠X.env.locals:=λz=>by have:=I.free;rw[<- z,m.own]at this;cases this
 have fsF:∀b∈X.fs,H' b=none:=λb hb=>by
  let⟨_,o,ho,_⟩:=I.ok.funs.mem hb;exact I.base.free b o ho (I.ok.frf b hb) λz=>I.ok.exfs b z hb
 have J:Inv X U σ (pC P c' H') s':=by
  refine⟨I.ok,I.os,I.bare,⟨I.base.keep,I.base.slot,λb o e n hx=>kW (I.base.free b o e n hx),I.base.there,λb xs e=>?_,λb o u e=>?_,λb ps e=>?_⟩,I.loc,I.cell,kW I.free,λx c e=>kW (I.freeC x c e),λp hp=>?_,λb o e=>?_,I.len⟩
  .have q:=I.base.tups b xs e
   rw[iS (nP q 'e') (nc q 'e')];exact q
  .have q:=I.base.frzs b o u e
   rw[iS (nP q 'e') (nc q 'e')];exact q
  .obtain⟨more,q⟩:=I.base.tbls b ps e
   exact⟨more,by rw[iS (nP q 'e') (nc q 'e')];exact q⟩
  .obtain⟨a1,a2,a3⟩:=I.pin p hp
   exact⟨a1,kW a2,a3⟩
  .obtain⟨h1,h2,e⟩:=P1 e
   refine(I.hok b o e).stay (λ_ _ _ q=>q) (λd q=>?_) λd xs q=>?_
   .rw[iS (nP q 'e') (λz=>by rw[z,m.own]at q;cases q;exact h1 rfl)];exact q
   .rw[iS (nP q 'e') (nc q 'e')];exact q
 refine⟨oc,vs,t,e2,e3,((J.pinNew m.tb aHM locP (λz=>by have:=fsF _ z;rw[m.lm]at this;cases this) (λv=>by simp)).pinNew e1 aHN locc (λz=>by have:=fsF _ z;rw[m.own]at this;cases this) (λv=>by rw[e2];simp)).pinNew m.fn (kW m.un) m.loc m.nf hfo⟩
def xQ(P c':Addr)(pos:Pos)(H:Hp):Hp:=λb=>open Classical in if b=P then some (sS pos)else if b=c' then some (.own P)else H b
theorem sT.show(m:sT X U σ H P pos fo f c' H' s')(e2:oc.data=.fields vs)(e3:vs[1]?=some (.str kH t))(I2:Inv X ((f,fo)::(c',oc)::(P,P0 pos c')::U) σ H2 s2)(hs:aI (pC P c' H') H2):Inv X U σ (xQ P c' pos H2) s2/\aI H (xQ P c' pos H2):=by
 have pc:=I2.pin (c',oc) (Û _ 'e');have pP:=I2.pin (P,P0 pos c') (Û _ 'e');have I:=m.inv;have neP:∀{b:Addr}{o:HO},H2 b=some o->b≠P:=λe z=>by rw[z,pP.2.1]at e;cases e
 have nec:∀{b:Addr}{o:HO},H2 b=some o->b≠c':=λe z=>by rw[z,pc.2.1]at e;cases e
 have ne:∀{b:Addr},b≠P->b≠c'->xQ P c' pos H2 b=H2 b:=λh1 h2=>by unfold xQ;rw[Â h1,Â h2]
 have up:∀{b:Addr}{o:HO},H2 b=some o->xQ P c' pos H2 b=some o:=λe=>by rw[ne (neP e) (nec e)];exact e
 have dn:∀{b:Addr},H' b=none->H2 b=none->xQ P c' pos H2 b=none:=λ{b}e1 e2=>by
  rw[ne (λz=>by rw[z,m.lm]at e1;cases e1) (λz=>by rw[z,m.own]at e1;cases e1)];exact e2
 have sP:xQ P c' pos H2 P=some (sS pos):=by unfold xQ;rw[Á rfl]
 have sc:xQ P c' pos H2 c'=some (.own P):=by unfold xQ;rw[Â m.ne,Á rfl]
 refine⟨⟨I2.ok,I2.os,I2.bare,⟨I2.base.keep,I2.base.slot,λb o e n hx=>dn (I.base.free b o e n hx) (I2.base.free b o e n hx),I2.base.there,λb xs e=>up (I2.base.tups b xs e),λb o u e=>up (I2.base.frzs b o u e),λb ps e=>?_⟩,I2.loc,I2.cell,dn I.free I2.free,λx c e=>dn (I.freeC x c e) (I2.freeC x c e),λp hp=>?_,λb o e=>?_,I2.len⟩,λb o e=>?_⟩
 .obtain⟨more,q⟩:=I2.base.tbls b ps e
  exact⟨more,up q⟩
 .have hp2:p∈X.pn++((f,fo)::(c',oc)::(P,P0 pos c')::U):=by
   rcases ö.mp hp with z|z
   .exact Ą _ z
   .exact Û _ (by simp[z])
  let⟨a1,a2,a3⟩:=I2.pin p hp2;exact⟨a1,dn (I.pin p hp).2.1 a2,a3⟩
 .by_cases h1:b=P
  .subst h1
   rw[sP]at e;cases e;exact⟨_,pP.1,.inr ⟨c',rfl,sc,m.ne,c',oc,vs,t,rfl,pc.1,e2,e3⟩⟩
  .by_cases h2:b=c'
   .subst h2
    rw[sc]at e;cases e;exact⟨oc,pc.1⟩
   .rw[ne h1 h2]at e
    exact(I2.hok b o e).stay (λ_ _ _ q=>q) (λd q=>up q) λd xs q=>up q
 .have e':=m.same b o e
  by_cases h1:b=P
  .subst h1;rw[m.lm]at e';cases e';exact sP
  .by_cases h2:b=c'
   .subst h2;rw[m.own]at e';cases e';exact sc
   .rw[ne h1 h2]
    exact hs b o (by rw[iS h1 h2];exact e')
end
abbrev lamE(scope:Scope)(x:Str)(cc:Addr)(s:Shared)(f c':Addr):Env:=W.envX kH scope s.heap.objs.size f (.ref c') [(x,cc)]
def ŉ(X:Cx)(scope:Scope)(p x:Str)(cc:Addr)(s:Shared)(H:Hp)(f c':Addr):Cx where
 prog:=X.prog
 w:=X.w
 K:=X.K
 mg:=X.mg
 base:=X.base
 A:=X.A.in1.deeper (lamE scope x cc s f c')
 N:=[p,x]
 s₀:=s
 H₀:=H
 env:=lamE scope x cc s f c'
 outer:=X.stack
 stack:=lamE scope x cc s f c'::X.stack
 ex:=[]
 calm:=true
 fn:=λy=>y == p
 pn:=[]
 xe:=λe s'=>wpAny 'b' (X.A.in1.deeper (lamE scope x cc s f c')) (leaving (lamE scope x cc s f c') e) (λ_ _=>False) (λ_ _=>False) s'
structure U8(scope:Scope)(p x:Str):Prop where
 names:scope.names=[(p,.local),(x,.free)]\/scope.names=[(x,.free),(p,.local)]
 ne:(p == x)=false
 kind:scope.kind=.function
 co:scope.isCoroutine=false
 gen:scope.isGenerator=false
section
variable {X:Cx}{U:ZB}{σ:St}{H:Hp}{s:Shared}{params:Arguments}{body:Expr}{scope:Scope}{p x:Str}{cc f c':Addr}
theorem U8.look(S:U8 scope p x):scope.names.lookup p=some .local/\scope.names.lookup x=some .free/\∀y,(scope.names.lookup y=some .cell\/scope.names.lookup y=some .free)->y=x:=by
 have h1:=S.ne;have h2:(x == p)=false:=by
  rw[beq_eq_false_iff_ne]at h1⊢;exact λz=>h1 z.symm
 rcases S.names with e|e<;>rw[e]
 .refine⟨by simp[ã],by simp[ã,h2],λy hy=>?_⟩
  by_cases q1:y=p
  .subst q1;simp[ã]at hy
  .by_cases q2:y=x
   .exact q2
   .simp[ã,beq_eq_false_iff_ne.mpr q1,beq_eq_false_iff_ne.mpr q2]at hy
 .refine⟨by simp[ã,h1],by simp[ã],λy hy=>?_⟩
  by_cases q2:y=x
  .exact q2
  .by_cases q1:y=p
   .subst q1;simp[ã,h1]at hy
   .simp[ã,beq_eq_false_iff_ne.mpr q1,beq_eq_false_iff_ne.mpr q2]at hy
theorem P3(I:Inv X U σ H s)(S:U8 scope p x)(hc:X.calm=true)(rv:bJ v u)(rt:bJ vt ut)(hcell:s.heap.IsCell cc (some ut))(hH:H cc=none)(hb:X.A.in1.frames=some X.stack)(hn:h1.Ns s.heap.objs.size (λy=>[(p,u)].reverse.lookup y))(hk:∀b o,s.heap.get? b=some o->h1.get? b=some o)(e1:s1={s with heap:=h1,toks:=s.toks+1}):
  Inv (ŉ X scope p x cc s H f c') [] [some v,some vt] H s1:=by
 subst e1;let⟨l1,l2,l3⟩:=S.look;have lx:∀y c,([(x,cc)]:List (Str×Addr)).lookup y=some c->y=x/\c=cc:=λy c e=>by
  rw[ã]at e;cases q:y == x with
  |true=>rw[q]at e;cases e;exact⟨eq_of_beq q,rfl⟩
  |false=>rw[q]at e;cases e
 have noA:∀b:Addr,b∉(ŉ X scope p x cc s H f c').ex:=λb z=>absurd (show b∈([]:ZM)from z) 'e';refine⟨⟨I.mod,S.kind,rfl,rfl,Ç _,λy z c a1 a2=>?_,λy hy=>?_,λy c a1 a2=>?_,λ_=>?_,Around.frames_deeper hb,.inr ⟨rfl,rfl⟩,λb z=>absurd z (noA b),I.bs,?_,λb _ _=>noA b,λb z=>absurd z (noA b),I.stack,I.stkFree⟩,
  rfl,I.bare,Un.kept hk,⟨_,hn,λi y v' a1 a2 a3=>?_⟩,λy c a=>?_,I.hok.fresh (Ç _),λy c a=>?_,λq hq=>absurd (show q∈([]:ZB)from hq) 'e',I.hok.kept hk,rfl⟩
 .rw[(lx y c a1).1,(lx z c a2).1]
 .have:=l3 y hy
  subst this;exact⟨cc,by show ([(y,cc)]:List (Str×Addr)).lookup y=some cc;simp[ã]⟩
 .have e:=(lx y c a2).1
  subst e;have a1:(y == p)=true:=a1;have:=S.ne;rw[eq_of_beq a1]at this;simp at this
 .exact I.ok.hd hc
 .exact Ø I.ok.bsz I.sz
 .match i,a1,a2 with
  |0,a1,a2=>
   cases a1;cases a2;exact⟨u,rv,.inl ⟨l1,by simp[ã]⟩⟩
  |1,a1,a2=>
   cases a1;cases a2;refine⟨ut,rt,.inr ⟨.inr l2,cc,by show ([(x,cc)]:List (Str×Addr)).lookup x=some cc;simp[ã],?_⟩⟩
   let⟨o,ho,hd⟩:=hcell;exact⟨o,hk _ _ ho,hd⟩
  |i+2,a1,a2=>cases a1
 .obtain⟨rfl,rfl⟩:=lx y c a
  let⟨o,ho,hd⟩:=hcell;exact⟨_,o,hk _ _ ho,hd⟩
 .obtain⟨rfl,rfl⟩:=lx y c a
  exact hH
theorem U9{i:Nat}(I:Inv X U σ H s)(S:U8 scope p x)(hc:X.calm=true)(hr:fB 0 X.A)(hfr:X.A.in1.frames=some X.stack)(hf:(f,W.kla_obj "<lambda>" kH params body scope [(x,cc)] pm c' ctv)∈U)(hoc:(c',oc)∈U)(e2:oc.data=.fields cvs)(e3:cvs[1]?=some (.str kH ct))(hN:X.N[i]?=some x)(hσ:σ[i]?=some (some vt))(hkd:X.env.scope.names.lookup x=some .cell)(hxc:X.env.cells.lookup x=some cc)(hbind:bindArgs (W.kla_fn "<lambda>" kH params body scope [(x,cc)] pm (.ref c') ctv) ⟨[u],[]⟩=pure [(p,u)])(rv:bJ v u)(hb:PE (ŉ X scope p x cc s H f c') body tb)(ht:tb [some v,some vt] H (λw H'=>w=.int k/\aI H H')):
  wpAny 'b' X.A.in1 (call (.ref f) [u]) (λu' s'=>∃t H',u'=.int k t/\aI H H'/\Inv X U σ H' s') E s:=by
 let⟨l1,l2,l3⟩:=S.look;let⟨m,_,hl⟩:=id I.loc;let⟨ut,rt,lk⟩:=hl i x vt hN hσ (.inr (.inl hkd));have hcell:s.heap.IsCell cc (some ut):=by
  rcases lk with ⟨q,_⟩|⟨_,c,q,z⟩
  .rw[show X.env.kindOf x=X.env.scope.names.lookup x from rfl,hkd]at q;cases q
  .rw[hxc]at q;cases q;exact z
 have pf:=I.pin _ (Û _ hf);have pc:=I.pin _ (Û _ hoc);refine wpAny_call (W.kla_callFunE (body:=body) ?_ pf.1 rfl S.co S.gen rfl ⟨c',oc,cvs,ct,rfl,pc.1,e2,e3⟩ ?_)
 .have:=hr.dp
  show X.A.depth<_;lia
 rw[hbind];have hnc:∀y∈scope.names,y.2≠.cell:=λy hy=>by
  rcases S.names with e|e<;>rw[e]at hy<;>simp at hy<;>rcases hy with rfl|rfl<;>(intro h;cases h)
 refine wpAny_pure (wpAny_newFunctionEnv hnc (λy hy=>by rw[ó.mp hy];exact l1) (λh1 hns hsb=>⟨I.nolimit.fresh _ hsb,?_⟩) S.kind);have hk1:∀b o,s.heap.get? b=some o->h1.get? b=some o:=λb o e=>hsb.extBut b o (Ì (Heap.lt_size e)) (Heap.get?_push_of_some _ e);show codeAny _ _ (.expr body (lamE scope x cc s f c')) _ _;have J:Inv (ŉ X scope p x cc s H f c') [] [some v,some vt] H {s with heap:=h1,toks:=s.toks+1}:=P3 I S hc rv rt hcell (I.freeC x cc hxc) hfr hns hk1 rfl;refine W.kla_codeExpr (wpAny_mono (hb [] _ [some v,some vt] H _ J ht) (λu' s' q=>?_) λe s' q=>?_)
 .obtain⟨w,H',J',rw',rfl,sm⟩:=q
  let⟨t,rfl⟩:=rw';exact⟨t,H',rfl,sm,I.call' (ch:=[]) J'.os J'.base J'.hok J'.bare (λ_ z=>nomatch z)⟩
 .exact wpAny_mono q (λ_ _ z=>z.elim) λ_ _ z=>z.elim
end
def cY{α:Type}:Option (α×Int)->List (α×Int)->Option (α×Int)
 |o,[]=>o
 |none,y::ys=>cY (some y) ys
 |some m,y::ys=>cY (some (if y.2<m.2 then y else m)) ys
def aKL(b:Option (V×Int))(o:Option (Value×Tok)):Prop:=match b,o with
 |none,none=>True
 |some m,some z=>bJ m.1 z.1
 |_,_=>False
def VA:Option (V×Int)->Option (Value×Tok)->Array Value
 |some m,some z=>#[z.1,.int m.2 z.2]
 |_,_=>#[]
section
variable {X:Cx}{U:ZB}{σ:St}{H0:Hp}{q l:Addr}{dv:Value}{R:Result->Shared->Prop}
theorem HA(a f d:Value):argsOk "min" ⟨[a],[("key",f),("default",d)]⟩:=by unfold argsOk;kernel_rfl
theorem aBD{prog:Program}{w:World}{A:Around}{E:ZA}{s:Shared}{x m:Int}{t t':Tok}{Q:ZA}(h:Q (.bool (decide (x<m))) s):wpAny (model prog w) A (richCompare .Lt (.int x t) (.int m t')) Q E s:=CmpOf.ints_lt (P:=λi v=>∃t,v=.int (if i=0 then x else m) t) (λi=>if i=0 then x else m) (λ_ _ h=>h) 0 1 _ _ s Q E ⟨t,rfl⟩ ⟨t',rfl⟩ (by simpa using h)
theorem xR(b:Option (V×Int))(o:Option (Value×Tok)):(VA b o).size<=sizeLine:=by
 unfold VA;split
 .show 2<=sizeLine;decide
 .show 0<=sizeLine;decide
abbrev vL(b:Option (V×Int))(o:Option (Value×Tok))(c:Nat):Obj:={cls:=.type "list",dict:=none,data:=.seq (VA b o) c,slots:=#[]}
theorem Inv.swp(I:Inv X (a::b::U) σ H s):Inv X (b::a::U) σ H s:=I.pins_of λp hp=>I.pin p (Û _ (by
 rcases Í.mp hp with rfl|hp
 .exact Ï _ Ó
 .rcases Í.mp hp with rfl|hp
  .exact Ó
  .exact Ï _ (Ï _ hp)))
theorem oN(o:Option (α×Int)):cY o []=o:=by cases o<;>rfl
theorem P4{vs:List V}{ks:ZK}(hlen:ks.length=vs.length)(hh:X.A.handled=none)(turn:∀(j:Nat)(v:V)(k:Int)(u:Value)(pins':ZB)(s:Shared)(H1:Hp),vs[j]?=some v->ks[j]?=some k->bJ v u->aI H0 H1->(∀p∈U,p∈pins')->Inv X pins' σ H1 s ->
   wpAny 'b' X.A.in1 (call (.ref q) [u]) (λu' s'=>∃t H',u'=.int k t/\aI H1 H'/\Inv X pins' σ H' s') (λ_ _=>False) s)(hl:∀H1,aI H0 H1->eJ X.K H1 l vs)(mI:G9 X U IA)(mS:G9 X U S)(hSI:S≠IA)(hlI:l≠IA)(done:∀u s' H1,(match cY none (vs.zip ks)with|none=>u=dv|some m=>bJ m.1 u)->aI H0 H1->Inv X U σ H1 s'->R (.ok (.ret u)) s'):
  ∀(r j:Nat)(s:Shared)(H1:Hp)(b:Option (V×Int))(o:Option (Value×Tok))(c:Nat)(oI:Obj),vs.length-j=r->j<=vs.length->cY b ((vs.zip ks).drop j)=cY none (vs.zip ks)->aKL b o->aI H0 H1 ->
   oI.cls=.type "list_iterator"->oI.data=.fields #[.ref l,.int j 0]->Inv X ((S,vL b o c)::(IA,oI)::U) σ H1 s ->
   codeAny 'b' X.A (.builtin "min.loop" ⟨[.ref IA,.ref q,.ref S],[("default",dv)]⟩) R s:=by
 have nm:(toString "min"++toString ".loop":String)="min.loop":=by decide
 have mS':∀oI:Obj,G9 X ((IA,oI)::U) S:=λoI=>⟨λp hp=>by
  rcases ö.mp hp with hp|hp
  .exact mS.pin p (Ą _ hp)
  .rcases Í.mp hp with rfl|hp
   .exact Ð hSI
   .exact mS.pin p (Û _ hp),mS.new,mS.loc,mS.cells⟩
 have mI':∀oS:Obj,G9 X ((S,oS)::U) IA:=λoS=>⟨λp hp=>by
  rcases ö.mp hp with hp|hp
  .exact mI.pin p (Ą _ hp)
  .rcases Í.mp hp with rfl|hp
   .exact hSI
   .exact mI.pin p (Û _ hp),mI.new,mI.loc,mI.cells⟩
 intro r
 induction r with
 |zero=>
  intro j s H1 b o c oI hr hj hb hbo sm hoc hod I;obtain rfl:j=vs.length:=by lia
  rw[List.drop_of_length_le (by rw[ê];lia),oN]at hb;have pS:=I.pin _ (Û _ Ó);have pI:=I.pin _ (Û _ (Ï _ Ó));let⟨its,rv,pl,hz⟩:=I.list (hl H1 sm);have hn:=rv.length;have W:=Walks.list (prog:=X.prog) (w:=X.w) (A:=X.A.in1) (show X.A.in1.handled=none from hh) IA l hlI its.toArray;refine codeAny_builtin F.entry_min_loop ?_;rw[Around.under_plainId F.plain_min_loop _];refine(show wpAny _ X.A.in1 (seqItems? (.ref S) >>= _) _ _ s from wpAny_bind (wpAny_seqItems pS.1 rfl ?_));refine(show wpAny _ X.A.in1 (tryCatch (pyNext (.ref IA)) _ >>= _) _ _ s from wpAny_bind (wpAny_tryCatch (W.done s _ _ ⟨⟨oI,pI.1,hoc,by rw[hod];simp[<- hn]⟩,pl.isList⟩ λh' tk hk'=>?_)))
  have I1:Inv X ((S,vL b o c)::U) σ H1 {s with heap:=h',toks:=tk}:=I.swp.unpin.turned (it:=IA) (λb o hb e=>hk' b o (by simpa using hb) e) pI.2.1 (mI' (vL b o c)).loc (.inr mI.new) mI.cells (mI' (vL b o c)).pin;cases o with
  |none=>
   cases b with
   |some m=>exact hbo.elim
   |none=>
    refine wpAny_bind (wpAny_rule (wpAny_pure (done dv _ H1 ?_ sm I1.unpin)));rw[<- hb]
  |some z=>
   cases b with
   |none=>exact hbo.elim
   |some m=>
    have pS1:=I1.pin _ (Û _ Ó);refine(show wpAny _ X.A.in1 (updateSeq S (λ_=>#[]) >>= _) _ _ _ from wpAny_bind (wpAny_updateSeq pS1.1 rfl (wpAny_bind (wpAny_letGo (wpAny_pure ?_))) (hz:=xR _ _) (_hz':=é _)));refine done z.1 _ H1 (by rw[<- hb];exact hbo) sm ?_;exact I1.unpin.turned (t':=tk) (it:=S) (λb o hb e=>(Heap.get?_update_other _ _ (Ð hb)).trans e) pS1.2.1 mS.loc (.inr mS.new) mS.cells mS.pin
 |succ r ih=>
  intro j s H1 b o c oI hr hj hb hbo sm hoc hod I;have hlt:j<vs.length:=by lia
  have pS:=I.pin _ (Û _ Ó);have pI:=I.pin _ (Û _ (Ï _ Ó));let⟨its,rv,pl,hz⟩:=I.list (hl H1 sm);have hn:=rv.length;have W:=Walks.list (prog:=X.prog) (w:=X.w) (A:=X.A.in1) (show X.A.in1.handled=none from hh) IA l hlI its.toArray;obtain⟨v,hv⟩:∃v,vs[j]?=some v:=⟨_,É hlt⟩;obtain⟨k,hk⟩:∃k,ks[j]?=some k:=⟨_,É (by exact ô ‹_› (Eq.symm ‹_›))⟩;have ed:(vs.zip ks).drop j=(v,k)::(vs.zip ks).drop (j+1):=by
   have hz:(vs.zip ks)[j]?=some (v,k):=by rw[Ĝ];exact⟨hv,hk⟩
   let⟨h1,h2⟩:=Ò.mp hz;rw[ò h1,h2]
  rw[ed]at hb;refine codeAny_builtin F.entry_min_loop ?_;rw[Around.under_plainId F.plain_min_loop _];refine(show wpAny _ X.A.in1 (seqItems? (.ref S) >>= _) _ _ s from wpAny_bind (wpAny_seqItems pS.1 rfl ?_));refine(show wpAny _ X.A.in1 (tryCatch (pyNext (.ref IA)) _ >>= _) _ _ s from wpAny_bind (wpAny_tryCatch (W.item j s _ _ (by simp;exact ô ‹_› ‹_›) ⟨⟨oI,pI.1,hoc,hod⟩,pl.isList⟩ λu h' tk hp hst' hk'=>?_)));let⟨oI',hoI',hoc',hod'⟩:=hst'.1;have ru:bJ v u:=by
   let⟨u',e1,e2⟩:=rv.get hv;have hp:its.toArray[j]?=some u:=hp;rw[List.getElem?_toArray,e1]at hp;cases hp;exact e2
  have I1:Inv X ((S,vL b o c)::(IA,oI')::U) σ H1 {s with heap:=h',toks:=tk}:=(I.swp.repin (mI' _) (λb o hb e=>hk' b o (by simpa using hb) e) hoI' (λv=>by rw[hod'];simp)).swp;have hsub:∀p∈U,p∈(S,vL b o c)::(IA,oI')::U:=λp hp=>Ï _ (Ï _ hp);refine(show wpAny _ X.A.in1 (tryCatch (holding [u] (call (.ref q) [u])) _ >>= _) _ _ _ from wpAny_bind (wpAny_tryCatch (wpAny_holding (wpAny_mono (turn j v k u _ _ H1 hv hk ru sm hsub I1) (λx s2 he=>?_) λ_ _ hF=>hF.elim))));let⟨t,H2,rfl,sm2,I2⟩:=he;have smA:aI H0 H2:=sm.trans' sm2;have pS2:=I2.pin _ (Û _ Ó);have new:cY (some (v,k)) ((vs.zip ks).drop (j+1))=cY none (vs.zip ks)->codeAny 'b' X.A (.builtin "min.loop" ⟨[.ref IA,.ref q,.ref S],[("default",dv)]⟩) R {s2 with heap:=s2.heap.update S (Obj.mapSeq λ_=>#[u,.int k t])}:=λhb=>by
   obtain⟨c2,hc2⟩:∃c2,(s2.heap.update S (Obj.mapSeq λ_=>#[u,.int k t])).get? S=some (vL (some (v,k)) (some (u,t)) c2):=⟨_,get?_update_seq pS2.1 λ_=>#[u,.int k t]⟩;exact ih (j+1) _ H2 (some (v,k)) (some (u,t)) c2 oI' ∅ hlt hb ru smA hoc' hod' (I2.repin (t':=s2.toks) (mS' oI') (λb o hb e=>(Heap.get?_update_other _ _ (Ð hb)).trans e) hc2 (λv=>by simp))
  cases o with
  |none=>
   cases b with
   |some m=>exact hbo.elim
   |none=>
    refine(show wpAny _ X.A.in1 (updateSeq S (λ_=>#[u,.int k t]) >>= _) _ _ _ from wpAny_bind (wpAny_updateSeq pS2.1 rfl ?_ (hz:=xR _ _) (_hz':=(by show 2<=sizeLine+1;decide))));rw[nm];exact wpAny_pure ⟨plainId_quiet F.plain_min_loop _,new hb⟩
  |some z=>
   cases b with
   |none=>exact hbo.elim
   |some m=>
    refine(show wpAny _ X.A.in1 (tryCatch (holding [u,.int k t] (richCompare .Lt (.int k t) (.int m.2 z.2) >>= _)) _ >>= _) _ _ _ from wpAny_bind (wpAny_tryCatch (wpAny_holding (wpAny_bind (aBD ?_)))));refine wpAny_bind (wpAny_holding (wpAny_truthy_bool (wpAny_bind (wpAny_letGo (wpAny_pure ?_)))));have hb':cY (some (if k<m.2 then (v,k)else m)) ((vs.zip ks).drop (j+1))=cY none (vs.zip ks):=hb;by_cases hg:k<m.2
    .rw[Á hg]at hb'
     simp![hg,decide_true,if_true];refine wpAny_bind (wpAny_updateSeq pS2.1 rfl (wpAny_bind (wpAny_letGo ?_)) (hz:=xR _ _) (_hz':=(by show 2<=sizeLine+1;decide)));rw[nm];exact wpAny_pure ⟨plainId_quiet F.plain_min_loop _,new hb'⟩
    .rw[Â hg]at hb'
     simp![hg,decide_false,Bool.false_eq_true,if_false];refine wpAny_bind (wpAny_letGo ?_);rw[nm];exact wpAny_pure ⟨plainId_quiet F.plain_min_loop _,ih (j+1) s2 H2 (some m) (some z) c oI' ∅ hlt hb' hbo smA hoc' hod' I2⟩
theorem P5{ks:ZK}(hlen:ks.length=vs.length)(hh:X.A.handled=none)(I:Inv X U σ H0 s)(hq:eJ X.K H0 l vs)(turn:∀(j:Nat)(v:V)(k:Int)(u:Value)(pins':ZB)(s:Shared)(H1:Hp),vs[j]?=some v->ks[j]?=some k->bJ v u->aI H0 H1->(∀p∈U,p∈pins')->Inv X pins' σ H1 s ->
   wpAny 'b' X.A.in1 (call (.ref q) [u]) (λu' s'=>∃t H',u'=.int k t/\aI H1 H'/\Inv X pins' σ H' s') (λ_ _=>False) s)(done:∀u s' H1,(match cY none (vs.zip ks)with|none=>u=dv|some m=>bJ m.1 u)->aI H0 H1->Inv X U σ H1 s'->Q u s'):
  wpAny 'b' X.A (call (.builtin "min") [.ref l] [("key",.ref q),("default",dv)]) Q E s:=by
 have nm:(toString "min"++toString ".loop":String)="min.loop":=by decide
 refine wpAny_call (codeAny_call_builtin F.plain_min F.entry_min ?_);simp![checkBuiltinCall,F.kind_min];let⟨its,rv,pl,hz⟩:=I.list hq;have hlt:l<s.heap.objs.size:=by
  let⟨o,n,e,_⟩:=pl;exact Heap.lt_size e
 have key:wpAny 'b' X.A.in1 (Builtin.«min» ⟨[.ref l],[("key",.ref q),("default",dv)]⟩) (λfin s'=>match fin with
   |.done f=>(match (Except.ok f:Result)with|.ok (.ret v)=>Q v s'|.ok _=>False|.error e=>E e s')
   |.again c'=>c'.quiet=true/\codeAny 'b' X.A c' (λr s'=>match r with|.ok (.ret v)=>Q v s'|.ok _=>False|.error e=>E e s') s') E s:=by
  refine(show wpAny _ X.A.in1 (Builtin.Builtins.bindParams "min" ["key","default"] 0 ⟨[],[("key",.ref q),("default",dv)]⟩ >>= _) _ _ s from wpAny_bind (wpAny_of_eq (show Builtin.Builtins.bindParams "min" ["key","default"] 0 ⟨[],[("key",.ref q),("default",dv)]⟩=pure [some (.ref q),some dv]from rfl) ?_));refine wpAny_bind (wpAny_pure (wpAny_bind (wpAny_pyIter_list pl.isList ?_)));refine wpAny_bind (wpAny_newObj_type ?_);rw[nm];have hS:(s.heap.push {cls:=.type "list_iterator",data:=.fields #[.ref l,.int 0 0]}).objs.size=s.heap.objs.size+1:=by rw[Heap.size_push]
  have I1:Inv X ((s.heap.objs.size,{cls:=.type "list_iterator",data:=.fields #[.ref l,.int 0 0]})::U) σ H0 {s with heap:=s.heap.push {cls:=.type "list_iterator",data:=.fields #[.ref l,.int 0 0]}}:=
   (I.kept (t':=s.toks) λb o e=>Heap.get?_push_of_some _ e).pinNew (Heap.get?_push_size _ rfl) (I.hok.fresh (Ç _)) (Ü I.lt) (I.nofs (Ç _)) (λv=>by simp)
  have mI:G9 X U s.heap.objs.size:=I.mine (Ç _);have mS:G9 X U (s.heap.push {cls:=.type "list_iterator",data:=.fields #[.ref l,.int 0 0]}).objs.size:=I.mine (by rw[hS];exact Nat.le_succ _);have I2:=(I1.kept (t':=s.toks) (h':=(s.heap.push {cls:=.type "list_iterator",data:=.fields #[.ref l,.int 0 0]}).push (vL none none 0)) λb o e=>Heap.get?_push_of_some _ e).pinNew (a:=(s.heap.push {cls:=.type "list_iterator",data:=.fields #[.ref l,.int 0 0]}).objs.size) (Heap.get?_push_size _ rfl) (I1.hok.fresh (Ç _)) (Ü I1.lt) (I1.nofs (Ç _)) (λv=>by simp);refine wpAny_pure ⟨plainId_quiet F.plain_min_loop _,P4 (H0:=H0) (dv:=dv) hlen hh turn (λH1 sm=>sm.seq hq) mI mS (λz=>Nat.succ_ne_self _ (hS.symm.trans z)) (Ì hlt) done _ 0 _ H0 none none 0 _ rfl (é _) (by rw[List.drop_zero]) trivial (λ_ _ e=>e) rfl rfl I2⟩
 have ha:=HA (.ref l) (.ref q) dv;cases hsig:Manifest.signature? "min"with
 |none=>exact wpAny_pure key
 |some sig=>
  simp![argsOk,hsig]at ha;have h2:Bind.checkArgs "min" sig ⟨[.ref l],[("key",.ref q),("default",dv)]⟩=pure ():=ha;refine(show wpAny _ X.A.in1 (Bind.checkArgs "min" sig ⟨[.ref l],[("key",.ref q),("default",dv)]⟩) _ _ s from ?_);rw[h2];exact wpAny_pure key
end
def iJ(hs:ZK):ZK->Option (ZK)
 |[]=>some []
 |n::ns=>match atI hs n,iJ hs ns with
  |some k,some ks=>some (k::ks)
  |_,_=>none
theorem xS :∀{ns ks:ZK},iJ hs ns=some ks->ks.length=ns.length
 |[],ks,h=>by cases h;rfl
 |n::ns,ks,h=>by
  unfold iJ at h;split at h
  .rename_i k ks' _ e2
   cases h;simp[xS e2]
  .cases h
theorem BR :∀{ns ks:ZK}{j:Nat}{n k:Int},iJ hs ns=some ks->ns[j]?=some n->ks[j]?=some k->atI hs n=some k
 |m::ns,ks,j,n,k,h,e1,e2=>by
  unfold iJ at h;split at h
  .rename_i k0 ks' q1 q2
   cases h;cases j with
   |zero=>cases e1;cases e2;exact q1
   |succ j=>exact BR q2 (by simpa using e1) (by simpa using e2)
  .cases h
theorem VB(h:atI hs n=some k):atI (hs.map V.int) n=some (.int k):=by
 unfold atI at h⊢;rw[Ä];cases e:mY hs.length n with
 |none=>rw[e]at h;cases h
 |some j=>
  rw[e]at h;have h:hs[j]?=some k:=h;show (hs.map V.int)[j]?=_;rw[Ñ,h];rfl
theorem BS:∀{ds:ZI}{l:ZK},cQ ds=some l->ds=l.map .int
 |[],l,h=>by cases h;rfl
 |.int i::r,l,h=>by
  unfold cQ at h;cases e:cQ r with
  |none=>rw[e]at h;cases h
  |some l'=>
   rw[e]at h;cases h;rw[BS e];rfl
 |.none::_,_,h=>by cases h
 |.bool _::_,_,h=>by cases h
 |.str _::_,_,h=>by cases h
 |.list _::_,_,h=>by cases h
 |.tuple _::_,_,h=>by cases h
 |.dict _::_,_,h=>by cases h
def v8(i:Nat)(nm fld:Str)(f:M D):M D:=λδ=>(f δ).bind λd δ1=>match d,δ1[i]? with
 |.list ds,some (some t)=>(match gS nm fld t with
  |some (.list hs)=>(match cQ hs,cQ ds with
   |some hs',some ns=>(match iJ hs' ns with
    |some ks=>.ok ((cY none (ns.zip ks)).elim .none λm=>.int m.1) δ1
    |none=>.stuck)
   |_,_=>.stuck)
  |_=>.stuck)
 |_,_=>.stuck
theorem uL(g:α->β):∀(o:Option (α×Int))(l:List (α×Int)),cY (o.map λm=>(g m.1,m.2)) (l.map λm=>(g m.1,m.2))=(cY o l).map λm=>(g m.1,m.2)
 |o,[]=>by rw[List.map_nil,oN,oN]
 |none,y::ys=>uL g (some y) ys
 |some m,y::ys=>by
  have:=uL g (some (if y.2<m.2 then y else m)) ys;rw[Î];show cY (some (if y.2<m.2 then (g y.1,y.2)else (g m.1,m.2))) _=_;rw[show (cY (some m) (y::ys))=cY (some (if y.2<m.2 then y else m)) ys from rfl,<- this];congr 1;split<;>rfl
theorem VC{K:ZC}(h:eJ K H l vs)(hP:H P=some (sS pos))(hc:H c'=some (.own P)):eJ K (pC P c' H) l vs:=by
 rcases h with (h|⟨o,h⟩)|h
 .exact .inl (.inl (by rw[iS (λz=>by rw[z,hP]at h;cases h) (λz=>by rw[z,hc]at h;cases h)];exact h))
 .exact .inl (.inr ⟨o,by rw[iS (λz=>by rw[z,hP]at h;cases h) (λz=>by rw[z,hc]at h;cases h)];exact h⟩)
 .exact .inr h
section
theorem P6(i:Nat)(nm:Str){pm kp kp2 p1 p2 p3 p4 cpos npos:Pos}{jj:_}(hr:fB 0 X.A)(hc:X.calm=true)(hg:Gl X "min")(hm:X.mg "min"=none)(B:sR X.K X.mg X.base)(hl:jO X.K=some (c,P,pos))(hcode:X.env.code=.ref c)(hat:UP X.K nm fld)(ha:DE X Z ow 0 e f)(Sc:U8 scope p x)(hbind:∀(u pm':Value)(c':Addr)(ctv:Value),bindArgs (W.kla_fn "<lambda>" kH params (.Subscript (.Attribute (.Name x p1) fld p2) (.Name p p3) p4) scope [(x,cc)] pm' (.ref c') ctv) ⟨[u],[]⟩=pure [(p,u)])(hd1:(x == ("__debug__":Str))=false)(hd2:(x == ("__classdict__":Str))=false)(hd3:(p == ("__debug__":Str))=false)(hd4:(p == ("__classdict__":Str))=false)(hq:↥(X.env.qual++"<lambda>"=kH))(hcl:↥(closureFor scope X.env=pure [(x,cc)]))(hdef:↥(defaultsOf params X.env=([],[])))(ho:↥(ow.getD i 0=0))(hN:↥(X.N[i]?=some x))(hkd:↥(X.env.scope.names.lookup x=some .cell))(hxc:↥(X.env.cells.lookup x=some cc))(hs:↥(Zse e [] X.env))(hv:bootBuiltins "min"=some (.builtin "min"):=by decide +kernel):
  DE X Z ow 0 (.Call (.Name "min" npos) [e] [⟨some "key",.Lambda params (.Subscript (.Attribute (.Name x p1) fld p2) (.Name p p3) p4) scope pos,kp⟩,⟨some "default",.Constant .none jj pm,kp2⟩] cpos) (v8 i nm fld f):=λU s σ H Q I h=>by
 let⟨F,δ,R,h⟩:=h;unfold v8 at h;refine wpAny_Call_Name_kw (iE I hg hm hv ?_ ⋯ ⋯);have a1:backTo cpos (starEach [e] X.env)=(false,eval e X.env)::backTo cpos (starEach [] X.env):=by rw[hs];rfl
 have pre:SB (tD X Z ow 0 f) ŕ σ H (λvs H1=>∃l ns F1 δ1 t hs' ks,vs=[.ref l]/\cP X.K Z ow F1 H1 σ δ1/\eJ X.K F1 l (ns.map V.int)/\aI F F1/\δ1[i]?=some (some t)/\gS nm fld t=some (.list (hs'.map .int))/\iJ hs' ns=some ks /\
   kD X Z ow 0 (.ok ((cY none (ns.zip ks)).elim .none λm=>.int m.1) δ1) F1 σ Q):=by
  refine⟨F,δ,R,?_⟩;cases e1:f δ with
  |stuck=>rw[e1]at h;exact h.elim
  |err y δ1=>rw[e1]at h;exact h
  |ok d δ1=>
   rw[e1]at h;simp![Res.bind]at h;intro v H1 F1 R1 s1;cases d with
   |list ds=>
    cases e2:δ1[i]? with
    |none=>rw[e2]at h;exact h.elim
    |some o=>
     cases o with
     |none=>rw[e2]at h;exact h.elim
     |some t=>
      rw[e2]at h;dsimp only at h;split at h
      .rename_i hs2 e3
       split at h
       .rename_i hs' ns e4 e5
        split at h
        .rename_i ks e6
         let⟨l,vs,rfl,hx,rx⟩:=kP R1.rep;rw[i6 e5 rx]at hx;have e7:hs2=hs'.map .int:=BS e4;subst e7;exact⟨l,ns,F1,δ1,t,hs',ks,rfl,R1.rel,hx,s1,e2,e3,e6,h.mono s1 λ_ _ z=>z⟩
        .exact h.elim
       .exact h.elim
      .exact h.elim
   |_=>exact h.elim
 refine callWith_kw (cN ((gY ha m4 hs) cpos U s σ H _ I pre) λus s1 zQ=>?_) a1 (by rw[a1];rfl) rfl rfl;let⟨vs,H1,I1,r,q⟩:=zQ;let⟨l,ns,F1,δ1,t,hs',ks,rfl,R1,hx,s1',ht,hf,hk,hQ⟩:=q;let⟨u',rfl,rx⟩:=pG r;cases rx;let⟨g,G⟩:=R1;have hP1:F1 P=some (sS pos):=G.f0.lm c P pos hl;have hP:H1 P=some (sS pos):=G.sub _ _ hP1;let⟨vt,ev,rt⟩:=G.slot i t ht;rw[ho]at rt;have rt:bI X.K F1 t vt:=rt;let⟨a,C,dx,fs,y,rfl,f1,f2,f3,f4⟩:=ND rt hf;let⟨lk,ws,rfl,hw,rw'⟩:=kP f4;have ew:=i6 i5 rw';subst ew;let⟨c1,c2⟩:=hat C f2;refine kws_cons (U7 I1 B hl hP hcode hq hcl hdef λfa c' ctv H2 s2 m=>kws_cons (Constant_none (kws_nil ?_)));let⟨oc,cvs,ct,e2,e3,I3⟩:=m.hide (λv=>by simp[W.kla_obj]);have up:∀{l:Addr}{vs:List V},eJ X.K F1 l vs->eJ X.K (pC P c' H2) l vs:=λh=>VC (m.same.seq (G.sub.seq h)) m.lm m.own;have upa:pC P c' H2 a=some (.ins C dx fs):=by
  have z:=m.same _ _ (G.sub _ _ f1);rw[iS (λq=>by rw[q,m.lm]at z;cases z) (λq=>by rw[q,m.own]at z;cases z)];exact z
 let⟨l1,l2,_⟩:=Sc.look;refine P5 (vs:=ns.map V.int) (ks:=ks) (by rw[Ä];exact xS hk) (I1.ok.hd hc) I3 (up hx) (λj v k u pins' s' H' hv hkk ru sm hsub I'=>?_) λu s' H' hu sm I'=>?_
 .rw[Ñ]at hv
  cases en:ns[j]? with
  |none=>rw[en]at hv;cases hv
  |some n=>
   rw[en]at hv;cases hv;have hkey:=VB (BR hk en hkk);refine U9 (p:=p) (k:=k) I' Sc hc hr I'.ok.frames (hsub _ Ó) (hsub _ (Ï _ Ó)) e2 e3 hN ev hkd hxc (hbind _ _ _ _) ru (FP rP (CJ (eD (i:=1) rfl (.inr (.inr l2)) hd1 hd2) rfl) (eD (i:=0) rfl (.inl l1) hd3 hd4) (λ_ _=>rfl)) ?_;exact⟨_,rfl,a,C,dx,fs,_,rfl,sm _ _ upa,c1,c2,f3,_,rfl,lk,hs'.map V.int,n,.int k,rfl,rfl,sm.seq (up hw),hkey,rfl,λ_ _ z=>z⟩
 .obtain⟨I4,sm4⟩:=m.show e2 e3 I' sm
  have G4:cP X.K Z ow F1 (xQ P c' pos H') σ δ1:=⟨g,G.grow sm4⟩;have ez:(ns.map V.int).zip ks=(ns.zip ks).map λm=>(V.int m.1,m.2):=by
   rw[List.zip_map_left];rfl
  rw[ez]at hu;have eb:=uL V.int none (ns.zip ks);rw[Option.map_none]at eb;rw[eb]at hu;cases eb2:cY none (ns.zip ks)with
  |none=>
   rw[eb2]at hu hQ;subst hu;exact⟨.non,_,I4,rfl,hQ .non _ F1 (G4.x (by show bI X.K F1 .none .non;unfold bI;rfl)) (λ_ _ z=>z)⟩
  |some m2=>
   rw[eb2]at hu hQ;exact⟨.int m2.1,_,I4,hu,hQ (.int m2.1) _ F1 (G4.x (by show bI X.K F1 (.int m2.1) (.int m2.1);unfold bI;rfl)) (λ_ _ z=>z)⟩
end
theorem KQ{K:ZC}{H:Hp}{a:Addr}{ns:ZK}{owp:ZH}{f:ZI->Res D}{x:Str}(hS:eJ K H a (ns.map V.int))(hf:f [.list (ns.map .int)]=.ok (.bool true) [])(hL:YI K H)(h0:↥(owp.getD 0 0=0)):
  SW K [x] [] owp 0 f [.ref a] H (λv H'=>v=.bl true/\aI H H') (λ_ _ _=>False):=by
 refine⟨rfl,H,λ_=>none,[.list (ns.map .int)],hL,aI.refl _,rfl,λa i p e=>(by cases e),λi d v e1 e2=>?_,by rw[hf];exact λv H' F' g' T=>⟨mU (F:=F') (K:=K) T.ret,λb o e=>T.kept b o rfl e⟩⟩
 cases i with
 |zero=>
  cases e1;cases e2;rw[h0];show bI K H _ _;unfold bI;refine⟨a,ns.map V.int,rfl,hS,?_⟩;clear hS hf
  induction ns with
  |nil=>exact lQ
  |cons n ns ih=>exact lR gM ih
 |succ i=>simp at e1
theorem P7{K:ZC}{ns:ZK}{c PT:Addr}{pos:Pos}(KX:K.In s₁.heap)(hns:s₁.heap.Ns mainGlobals mg)(hb:s₁.heap.Ns builtinsNs mb)(hbb:∀x:Str,x≠"__name__"->mb x=bootBuiltins x)(hlim:s₁.heap.NoLimit)(hg:s₁.gens=#[])(ha:s₁.heap.get? a=some {cls:=.type "list",data:=.seq vs.toArray})(hi:IntsAre vs ns)(hl:ns.length<=sizeLine)(hr:fB k callerA)(hlam:jO K=some (c,PT,pos))(hcd:W.CodeHd s₁.heap c PT)(hPT:s₁.heap.get? PT=some (W.tabObj #[]))(hnt:W.noTabs K=true)(hbm:∃bm ob,mg "__builtins__"=some (.ref bm)/\bm≠builtinsNs/\s₁.heap.get? bm=some ob/\ob.cls=.type "module"/\ob.dict=some builtinsNs/\ob.data=.plain)(F:∀base:Heap,K.In base->base.Ns mainGlobals mg->sR K mg base->rO P w K mg base CX k fa fd [x] sp)(hbind:∀(s:Shared)(u:Value),BindsTo s fd ⟨[u],[]⟩ [(x,u)])(hsp:∀H:Hp,YI K H->eJ K H a (ns.map V.int)->sp [.ref a] H (λv H'=>v=.bl true/\aI H H') λ_ _ _=>False)(hCX:∀H e s',CX [] H s₁ (λ_ _ _=>False) e s'->False):
  codeAny (model P w) callerA (.call (.ref fa) ⟨[.ref a],[]⟩) (λr s'=>r=.ok (.ret (.bool true))/\OldK s₁.heap s'.heap/\s'.os=s₁.os/\AllBare s'.gens) s₁:=by
 have rv:=A9 hi;have lenV:=hi.length;have haP:a≠PT:=λz=>by rw[z,hPT]at ha;cases ha
 have hKP:K.lookup PT=none:=by
  cases q:K.lookup PT with
  |none=>rfl
  |some o=>
   have e:=KX PT o q;rw[hPT]at e;cases e;have h2:=è.mp hnt (PT,_) (W.mem_of_lookupK q);exact absurd (show false=true from h2) à
 have core:∀H:Hp,H PT=some (sS pos)->eJ K H a (ns.map V.int)->mR P w H s₁.heap->(∀b u,H b=some u->(b=PT/\u=sS pos)\/(b=a/\u=.frz {cls:=.type "list",data:=.seq vs.toArray} (.lst (ns.map V.int))/\K.lookup a=none)) ->
   codeAny (model P w) callerA (.call (.ref fa) ⟨[.ref a],[]⟩) (λr s'=>r=.ok (.ret (.bool true))/\OldK s₁.heap s'.heap/\s'.os=s₁.os/\AllBare s'.gens) s₁:=by
  intro H hO hS hok hA;have base_of:∀{b:Addr}{o:Obj},s₁.heap.get? b=some o->H b=none->(AB s₁.heap H).get? b=some o:=λe n=>RM e n;have noA:∀{b:Addr}{o:Obj},s₁.heap.get? b=some o->(∀z,o.data≠.seq z 0)->o.cls≠.none->H b=none:=λ{b o}e d d2=>by
   cases q:H b with
   |none=>rfl
   |some u=>
    rcases hA b u q with ⟨rfl,_⟩|⟨rfl,_⟩
    .rw[hPT]at e;cases e;exact absurd rfl d2
    .rw[ha]at e;cases e;exact absurd rfl (d vs.toArray)
  have nsK:∀{b:Addr}{m:ZD},s₁.heap.Ns b m->(AB s₁.heap H).Ns b m:=λ{b m}⟨o,es,ep,e,d,r⟩=>⟨o,es,ep,base_of e (by
   cases q:H b with
   |none=>rfl
   |some u=>
    rcases hA b u q with ⟨rfl,_⟩|⟨rfl,_⟩
    .rw[hPT]at e;cases e;cases d
    .rw[ha]at e;cases e;cases d),d,r⟩
  have hKb:K.In (AB s₁.heap H):=λb o e=>base_of (KX b o e) (by
   cases q:H b with
   |none=>rfl
   |some u=>
    rcases hA b u q with ⟨rfl,_⟩|⟨rfl,_,z⟩
    .rw[hKP]at e;cases e
    .rw[z]at e;cases e)
  have hM:Mod K mg (AB s₁.heap H):=⟨hKb,nsK hns,⟨mb,nsK hb,hbb⟩,let ⟨mc,h1,h2⟩:=hlim;⟨mc,nsK h1,h2⟩⟩
  have hB:sR K mg (AB s₁.heap H):=by
   refine⟨?_,λc2 P2 pos2 e=>?_⟩
   .obtain⟨bm,ob,b1,b2,b3,b4,b5,b6⟩:=hbm
    exact⟨bm,ob,b1,b2,base_of b3 (noA b3 (λz=>by rw[b6];simp) (by rw[b4];simp)),b4,b5,b6⟩
   .rw[hlam]at e;cases e
    let⟨o,vs,file,tf,flags,tg,Ϙ,text,tt,e1,e2,e3,r⟩:=hcd;exact⟨o,vs,file,tf,flags,tg,Ϙ,text,tt,base_of e1 (noA e1 (λz=>by rw[e3];simp) (by rw[e2];simp)),e2,e3,r⟩
  have e0:J3 P w K mg (AB s₁.heap H) callerA [] s₁ H:=⟨rfl,hM,λb o e=>YR e,ø (OX _ _),trivial,λb hb=>absurd (show b∈([]:ZM)from hb) 'e',hok,.of_eq hg⟩;have hLm:YI K H:=λc2 P2 pos2 e=>by rw[hlam]at e;cases e;exact hO
  refine codeAny_mono ((F _ hKb (nsK hns) hB).run callerA [] s₁ H ⟨[.ref a],[]⟩ [.ref a] [.ref a] _ _ hr e0 (hbind s₁ (.ref a)) (.cons rfl .nil) (hsp H hLm hS)) λr s' h=>?_;cases r with
  |error e=>exact(hCX H e s' h).elim
  |ok fl=>
   cases fl with
   |next=>exact False.elim h
   |brk=>exact False.elim h
   |cont=>exact False.elim h
   |ret u=>
    let⟨v,H',os,bare,un,hok',r',q⟩:=h;let⟨q',sm⟩:=q;subst q';obtain rfl:u=Value.bool true:=r';refine⟨rfl,⟨λb o e=>?_,λb o e=>un.there b o e 'e'⟩,os,bare⟩;cases q:H b with
    |none=>exact .inl (un.keep b o e q (by intro z;exact absurd (show b∈([]:ZM)from z) 'e') 'e')
    |some u=>
     rcases hA b u q with ⟨rfl,rfl⟩|⟨rfl,rfl,_⟩
     .rw[hPT]at e;cases e
      let⟨ps,e1,_⟩:=hok' _ _ (sm _ _ q);exact .inr (.inl ⟨(hcd.tab hPT).isCodeTable,rfl,#[],ps,rfl,by rw[e1];simp⟩)
     .obtain⟨e2,_⟩:=hok' _ _ (sm _ _ q)
      rw[ha]at e;cases e;exact .inl e2
 cases hk:K.lookup a with
 |some o=>
  have e:=KX a o hk;rw[ha]at e;cases e;refine core (λb=>if b=PT then some (sS pos)else none) (Á rfl) (.inr ⟨_,vs.toArray,_,hk,rfl,rfl,rfl,by rw[í,lenV];exact hl,by simpa using rv⟩) (λb u z=>?_) λb u z=>?_
  .by_cases hb:b=PT
   .have z':=(Á hb).symm.trans z
    cases z';subst hb;exact⟨_,hPT,.inl rfl⟩
   .have z':=(Â hb).symm.trans z
    cases z'
  .by_cases hb:b=PT
   .have z':=(Á hb).symm.trans z
    cases z';exact .inl ⟨hb,rfl⟩
   .have z':=(Â hb).symm.trans z
    cases z'
 |none=>
  have eq1:∀b u,(if b=PT then some (sS pos)else if b=a then some (HO.frz {cls:=.type "list",data:=.seq vs.toArray} (.lst (ns.map V.int)))else none)=some u->(b=PT/\u=sS pos)\/(b=a/\u=.frz {cls:=.type "list",data:=.seq vs.toArray} (.lst (ns.map V.int))):=λb u z=>by
   split at z
   .rename_i h;cases z;exact .inl ⟨h,rfl⟩
   .split at z
    .rename_i h;cases z;exact .inr ⟨h,rfl⟩
    .cases z
  refine core (λb=>if b=PT then some (sS pos)else if b=a then some (.frz {cls:=.type "list",data:=.seq vs.toArray} (.lst (ns.map V.int)))else none) (Á rfl) (.inl (.inr ⟨{cls:=.type "list",data:=.seq vs.toArray},by dsimp only;rw[Â haP,Á rfl]⟩)) (λb u z=>?_) λb u z=>?_
  .rcases eq1 b u z with ⟨rfl,rfl⟩|⟨rfl,rfl⟩
   .exact⟨_,hPT,.inl rfl⟩
   .exact⟨ha,by rw[Ä];exact hl,vs,_,rv,ha⟩
  .rcases eq1 b u z with h|⟨h1,h2⟩
   .exact .inl h
   .exact .inr ⟨h1,h2,hk⟩
theorem P8{K:ZC}(h:jO K=some (c,P,pos)):W.tabIn K m8=some (c,P):=by
 unfold jO at h;split at h
 .split at h
  .split at h
   .rename_i e
    split at h
    .cases h;exact e
    .cases h
   .cases h
  .cases h
 .cases h
theorem walk_ofL{l:W.OpenLaw}{n k:Nat}{q:Program}{loose:ZG}{XP:(ZD)->Heap->Prop}{YP:World->Heap->Prop}{d dl:DefRec}{K:Params->ZC}{CX:World->SC}{sp:World->Sp}{x:Str}(hn:l.most=some n)(hn2:n<=sizeLine)(hdf:d.params.defaults=[])(hr:fB k callerA)(hY:∀(w:World)(h:Heap),YP w h->(K w.params).In h)(hrec:(recsOf q).find? (λe=>e.name == m8)=some dl)(F:∀(w:World)(mg:ZD)(fa:Addr)(h:Heap),(K w.params).In h->h.Ns mainGlobals mg->mg d.name=some (.ref fa) ->
   (W.noTabs (K w.params)=true/\∃c P pos,jO (K w.params)=some (c,P,pos))/\∃fd:FuncData,(∀(s:Shared)(u:Value),BindsTo s fd ⟨[u],[]⟩ [(x,u)]) /\
    ∀base:Heap,(K w.params).In base->base.Ns mainGlobals mg->sR (K w.params) mg base->rO l.prog w (K w.params) mg base (CX w) k fa fd [x] (sp w))(hsp:∀(w:World)(H:Hp)(a:Addr)(ns:ZK),ns.length<=n->YI (K w.params) H->eJ (K w.params) H a (ns.map V.int)->sp w [.ref a] H (λv H'=>v=.bl true/\aI H H') λ_ _ _=>False)(hCX:∀(w:World)(H:Hp)(s:Shared)(e:Value)(s':Shared),CX w [] H s (λ_ _ _=>False) e s'->False):
  W.WalkO q loose XP YP l.row.toRowW d [] (λf vs=>PySem.call f vs):=by
 refine Att.attach_call hn hdf λw s₀ s₁ mg mb fa o pm cd doc a vs ns G Y ho hd hcd hmg hobj hints hlen hg=>?_;have KX:=hY w _ Y;let⟨⟨hnt,c,P,pos,hlam⟩,fd,hb,hF⟩:=F w mg fa _ KX G.T.g hmg;let⟨t1,t2⟩:=W.tab_of G.T KX hrec (P8 hlam);exact P7 KX G.T.g G.T.b G.T.builtins G.T.nolimit hg hobj hints (Ø hlen hn2) hr hlam t1 t2 hnt G.T.bmain hF hb (λH hO hS=>hsp w H a ns hlen hO hS) λH e s'=>hCX w H s₁ e s'
def VD(s:Stmt)(k:Nat):Stmt:=match s with
 |.ClassDef _ _ _ b _ _ _ _ _ _ _=>b.getD k (.Pass ⟨0,0,0,0⟩)
 |s=>s
theorem xT{K:ZC}(n:W.nsIn K mainGlobals nm=some (some (.ref C)))(c:RF K C)(h:lJ K C f):UP K nm f:=λC' e=>by
 rw[n]at e;cases e;exact⟨c,h⟩
theorem VE{K:ZC}(a:W.nsIn K mainGlobals m8=some (some (.ref f)))(l:K.lookup f=some ⟨oc,od,.func fd,sl⟩)(hb:fd.body=.stmts b)(t:W.tabIn K m8=some (c,P))(hp:CV b=some pos):jO K=some (c,P,pos):=by
 unfold jO;rw[a];dsimp only;rw[l];dsimp only;rw[hb,t];dsimp only;rw[hp]
theorem VF{K:ZC}(a:W.nsIn K mainGlobals x=some (some (.ref f)))(l:K.lookup f=some ⟨oc,od,.func fd,sl⟩)(e:fd.code=.ref c)(lk:K.lookup c=some ⟨coc,cod,.fields cvs,csl⟩)(lv:(cvs[11]?:ZN)=some (.ref P)):W.tabIn K x=some (c,P):=by
 unfold W.tabIn;rw[a];dsimp only;rw[l];dsimp only;rw[e];dsimp only;rw[lk];dsimp only;rw[lv]
theorem VG{K:ZC}{st:Stmt}(a:W.nsIn K mainGlobals m8=some (some (.ref f)))(F:RH K x q st f fd)(e:fd.code=.ref c)(lk:K.lookup c=some ⟨coc,cod,.fields cvs,csl⟩)(lv:(cvs[11]?:ZN)=some (.ref P))(hp:CV (dS st)=some pos):jO K=some (c,P,pos):=by
 let⟨oc,od,kV,doc,pm,an,cdv,ct,osl,e1,l,_⟩:=F.ex;exact VE a l (by rw[e1]) (VF a l e lk lv) hp
end L2
namespace L2
open PySem PySem.Spec
def BT(c:Nat)(nm f:Str):D->ZL
 |.dict ((.none,.str n)::À)=>if n=nm/\ch c (oZ f À)=0 then mB f À else none
 |_=>none
def nI(c n:Nat)(nm f:Str)(y:D):D->ZL
 |.dict ((.none,.str m)::À)=>if m=nm/\ch c (oZ f À)=n/\À.length<1000 then some (.dict ((.none,.str m)::pT f y À))else none
 |_=>none
def xU(c:Nat)(nm f:Str)(k v:D):D->ZL
 |.dict ((.none,.str m)::À)=>if m=nm/\ch c (oZ f À)=1 then (match mB f À,k with
  |some (.list ds),.int k=>(match mY ds.length k with
   |some j=>some (.dict ((.none,.str m)::pT f (.list (ds.set j v)) À))
   |none=>none)
  |_,_=>none)else none
 |_=>none
def xV(nm m:Str):D->Prop
 |.dict ((.none,.str n)::À)=>n=nm/\mB m À=none
 |_=>False
def VH(o:Option (ZI))(nm:Str)(fn:ZI->Res D)(δ:DS)(Q:D->ZO)(_w:Wt Q:=⟨⟩):Prop:=∃ds d,o=some ds/\fn (dL nm [] []::ds)=.ok .none [some d]/\Q d δ
def xW(k v:D):D->ZL
 |.dict À=>(match dG k with
  |some ky=>if À.length<sizeLine then some (.dict (KP ky v À))else none
  |none=>none)
 |_=>none
def dctD':D->Bool
 |.dict À=>À.all λkv=>(dG kv.1).isSome
 |_=>false
def NQ(x k z:D):ZL:=match x with
 |.dict À=>(match dG k with
  |some ky=>some ((jP ky À).getD z)
  |none=>none)
 |_=>none
def HB(nm fld:Str)(d t:D):ZL:=match d with
 |.list ds=>(match gS nm fld t with
  |some (.list hs)=>(match cQ hs,cQ ds with
   |some hs',some ns=>(match iJ hs' ns with
    |some ks=>some ((cY none (ns.zip ks)).elim .none λm=>.int m.1)
    |none=>none)
   |_,_=>none)
  |_=>none)
 |_=>none
def ġ(ds:ZI):ZL:=match kJ ds with
 |some (lo,n)=>if n<=sizeLine then some (.list (jI lo n))else none
 |none=>none
section
theorem aBE:GZ i c nm f δ=(match δ[i]? with
 |some (some d)=>(match BT c nm f d with
  |some r=>Res.ok r δ
  |none=>.stuck)
 |_=>.stuck):=by
 unfold GZ;cases δ[i]? with
 |none=>rfl
 |some o=>
  cases o with
  |none=>rfl
  |some d=>
   cases d<;>try rfl
   rename_i À;cases À with
   |nil=>rfl
   |cons kv À=>
    let⟨k,v⟩:=kv;cases k<;>try rfl
    cases v<;>try rfl
    rename_i x;show _=(match (if x=nm/\ch c (oZ f À)=0 then mB f À else none)with|some r=>Res.ok r δ|none=>.stuck);dsimp only;by_cases h:x=nm/\ch c (oZ f À)=0
    .rw[Á h,Á h]
     try (cases mB f À<;>rfl)
    .rw[Â h,Â h]
theorem D7:aV (GZ i c nm f) δ Q=gR δ[i]? δ λd δ=>vW (BT c nm f d) δ Q:=by
 unfold aV gR vW;rw[aBE];cases δ[i]? with
 |none=>rfl
 |some o=>
  cases o with
  |none=>rfl
  |some d=>
   dsimp only;cases BT c nm f d with
   |none=>rfl
   |some r=>rfl
theorem aBF:sJ i c n nm f fe δ=(fe δ).bind λy δ1=>(match δ1[i]? with
 |some (some d)=>(match nI c n nm f y d with
  |some r=>Res.ok Fl.next (δ1.set i (some r))
  |none=>.stuck)
 |_=>.stuck):=by
 unfold sJ;congr 1;funext y δ1;cases δ1[i]? with
 |none=>rfl
 |some o=>
  cases o with
  |none=>rfl
  |some d=>
   cases d<;>try rfl
   rename_i À;cases À with
   |nil=>rfl
   |cons kv À=>
    let⟨k,v⟩:=kv;cases k<;>try rfl
    cases v<;>try rfl
    rename_i x;show _=(match (if x=nm/\ch c (oZ f À)=n/\À.length<1000 then some (PyData.dict ((.none,.str x)::pT f y À))else none)with|some r=>Res.ok Fl.next (δ1.set i (some r))|none=>.stuck);dsimp only;by_cases h:x=nm/\ch c (oZ f À)=n/\À.length<1000
    .rw[Á h,Á h]
    .rw[Â h,Â h]
theorem xX:bO (sJ i c n nm f fe) δ N B C R=aV fe δ λy δ1=>gR δ1[i]? δ1 λd δ1=>vW (nI c n nm f y d) δ1 λd' δ1=>N (δ1.set i (some d')):=by
 unfold bO aV gR vW;rw[aBF];cases fe δ with
 |stuck=>rfl
 |err x d=>rfl
 |ok y δ1=>
  dsimp![Res.bind];cases δ1[i]? with
  |none=>rfl
  |some o=>
   cases o with
   |none=>rfl
   |some d=>
    dsimp only;cases nI c n nm f y d with
    |none=>rfl
    |some r=>rfl
theorem aBG:sK i c nm f fk fv δ=(fv δ).bind λv δ1=>(match fk δ1 with
 |.ok k _=>(match δ1[i]? with
  |some (some d)=>(match xU c nm f k v d with
   |some r=>Res.ok Fl.next (δ1.set i (some r))
   |none=>.stuck)
  |_=>.stuck)
 |_=>.stuck):=by
 unfold sK;congr 1;funext v δ1;have dead:∀(o:Option (ZL))(rk:Res D),(∀k dd,rk≠.ok k dd)->(match o,rk with
  |some (some (.dict ((.none,.str m)::À))),.ok (.int k) _=>if m=nm/\ch c (oZ f À)=1 then (match mB f À with
   |some (.list ds)=>(match mY ds.length k with
    |some j=>Res.ok Fl.next (δ1.set i (some (.dict ((.none,.str m)::pT f (.list (ds.set j v)) À))))
    |none=>.stuck)
   |_=>.stuck)else .stuck
  |_,_=>(Res.stuck:Res Fl))=.stuck:=λo rk h=>by
  split
  .exact absurd rfl (h _ _)
  .rfl
 cases e:fk δ1 with
 |stuck=>exact dead _ _ (λ_ _ z=>by cases z)
 |err x dd=>exact dead _ _ (λ_ _ z=>by cases z)
 |ok kk dd=>
  cases δ1[i]? with
  |none=>rfl
  |some o=>
   cases o with
   |none=>rfl
   |some d=>
    cases d<;>try rfl
    rename_i À;cases À with
    |nil=>rfl
    |cons kv À=>
     let⟨k,w⟩:=kv;cases k<;>try rfl
     cases w<;>try rfl
     rename_i x;show _=(match (if x=nm/\ch c (oZ f À)=1 then (match mB f À,kk with
      |some (.list ds),.int k=>(match mY ds.length k with
       |some j=>some (PyData.dict ((.none,.str x)::pT f (.list (ds.set j v)) À))
       |none=>none)
      |_,_=>none)else none)with
      |some r=>Res.ok Fl.next (δ1.set i (some r))
      |none=>.stuck)
     by_cases h:x=nm/\ch c (oZ f À)=1
     .rw[Á h]
      cases kk with
      |int k=>
       dsimp only;rw[Á h];cases mB f À with
       |none=>rfl
       |some r=>
        cases r with
        |list ds=>
         dsimp only;cases mY ds.length k<;>rfl
        |_=>rfl
      |_=>
       dsimp only;cases mB f À with
       |none=>rfl
       |some r=>cases r<;>rfl
     .rw[Â h]
      cases kk with
      |int k=>dsimp only;rw[Â h]
      |_=>rfl
theorem VI:bO (sK i c nm f fk fv) δ N B C R=aV fv δ λv δ1=>aV fk δ1 λk _=>gR δ1[i]? δ1 λd δ1=>vW (xU c nm f k v d) δ1 λd' δ1=>N (δ1.set i (some d')):=by
 unfold bO aV gR vW;rw[aBG];cases fv δ with
 |stuck=>rfl
 |err x d=>rfl
 |ok y δ1=>
  dsimp![Res.bind];cases fk δ1 with
  |stuck=>rfl
  |err x d=>rfl
  |ok k δ2=>
   dsimp only;cases δ1[i]? with
   |none=>rfl
   |some o=>
    cases o with
    |none=>rfl
    |some d=>
     dsimp only;cases xU c nm f k y d with
     |none=>rfl
     |some r=>rfl
theorem D8:xN i nm m fn as δ=(match δ[i]? with
 |some (some d)=>open Classical in if xV nm m d then dR fn (.own i::as) δ else .stuck
 |_=>.stuck):=by
 unfold xN;cases δ[i]? with
 |none=>rfl
 |some o=>
  cases o with
  |none=>rfl
  |some d=>
   cases d<;>try (exact(Â (λz:False=>z)).symm)
   rename_i À;cases À with
   |nil=>exact(Â (λz:False=>z)).symm
   |cons kv À=>
    let⟨k,w⟩:=kv;cases k<;>try (exact(Â (λz:False=>z)).symm)
    cases w<;>try (exact(Â (λz:False=>z)).symm)
    rename_i x;dsimp only;by_cases h:x=nm/\mB m À=none
    .rw[Á h,Á (show xV nm m (.dict ((.none,.str x)::À))from h)]
    .rw[Â h,Â (show ¬xV nm m (.dict ((.none,.str x)::À))from h)]
theorem aHO:aV (xN i nm m fn as) δ Q=gR δ[i]? δ λd δ=>xV nm m d/\aV (dR fn (.own i::as)) δ Q:=by
 rw[l7];unfold DW;cases e:δ[i]? with
 |none=>unfold aV;rw[D8,e];simp
 |some o=>
  cases o with
  |none=>unfold aV;rw[D8,e];simp
  |some d=>
   simp![Option.some.injEq,exists_eq_left'];unfold aV;rw[D8,e];dsimp only;by_cases h:xV nm m d
   .rw[Á h];simp[h]
   .rw[Â h];simp[h]
theorem aHP:aV (G1 m0 nm fn as) δ Q=aV (cG as) δ λods δ1=>δ1.length=m0/\VH (dM δ1 as ods) nm fn δ1 Q:=by
 unfold aV G1 VH;cases cG as δ with
 |stuck=>rfl
 |err x d=>rfl
 |ok ods δ1=>
  simp![Res.bind];by_cases h:δ1.length=m0
  .rw[Á h]
   simp![h,true_and];cases dM δ1 as ods with
   |none=>simp
   |some ds=>
    simp![Option.some.injEq,exists_and_left,exists_eq_left'];cases e:fn (dL nm [] []::ds)with
    |stuck=>simp
    |err x os=>
     simp![reduceCtorEq,false_and,exists_false];split
     .rename_i z
      split at z
      .rename_i y;cases y
      .cases z
      .cases z
     .rfl
    |ok d os=>
     refine propext ⟨λz=>?_,λ⟨d2,z,q⟩=>?_⟩
     .split at z
      .rename_i y
       split at y
       .rename_i y2;cases y2;cases y;exact⟨_,rfl,z⟩
       .rename_i y2;cases y2
       .cases y
      .exact z.elim
     .cases z;exact q
  .rw[Â h];simp[h]
theorem xY:bO (NL i fk fv) δ N B C R=aV fv δ λv δ1=>gR δ1[i]? δ1 λ_ δ1=>aV fk δ1 λk δ2=>gR δ2[i]? δ2 λd δ2=>vW (xW k v d) δ2 λd' δ2=>N (δ2.set i (some d')):=by
 rw[l7,j8];unfold bO NL aV DW T1;cases fv δ with
 |stuck=>rfl
 |err x d=>rfl
 |ok v δ1=>
  simp![Res.bind];cases δ1[i]? with
  |none=>simp
  |some o=>
   cases o with
   |none=>simp
   |some d0=>
    simp![Option.some.injEq,exists_eq_left'];cases fk δ1 with
    |stuck=>rfl
    |err x d=>rfl
    |ok k δ2=>
     simp![Res.bind];cases δ2[i]? with
     |none=>simp
     |some o=>
      cases o with
      |none=>simp
      |some d=>
       simp![Option.some.injEq,exists_eq_left'];unfold xW;cases d with
       |dict À=>
        dsimp only;cases dG k with
        |none=>simp
        |some ky=>
         dsimp only;by_cases h:À.length<sizeLine
         .rw[Á h];simp[h]
         .rw[Â h];simp[h]
       |_=>simp
theorem VJ:aV (NM fx fk fz) δ Q=aV fx δ λx δ1=>dctD' x=true/\aV fk δ1 λk δ2=>aV fz δ2 λz δ3=>vW (NQ x k z) δ3 Q:=by
 unfold aV NM vW;cases fx δ with
 |stuck=>rfl
 |err x d=>rfl
 |ok x δ1=>
  dsimp![Res.bind];cases x with
  |dict À=>
   dsimp![dctD',NQ];by_cases h:(À.all λkv=>(dG kv.1).isSome)=true
   .rw[Á h]
    simp![h,true_and];cases fk δ1 with
    |stuck=>rfl
    |err x d=>rfl
    |ok k δ2=>
     dsimp![Res.bind];cases fz δ2 with
     |stuck=>rfl
     |err x d=>rfl
     |ok z δ3=>
      dsimp![Res.bind];cases dG k with
      |none=>rfl
      |some ky=>rfl
   .rw[Â h];simp[h]
  |_=>simp[dctD']
theorem VL:aV (v8 i nm f fe) δ Q=aV fe δ λd δ1=>gR δ1[i]? δ1 λt δ1=>vW (HB nm f d t) δ1 Q:=by
 rw[l7,j8];unfold aV v8 DW T1;cases fe δ with
 |stuck=>rfl
 |err x d=>rfl
 |ok d δ1=>
  simp![Res.bind];cases d with
  |list ds=>
   cases δ1[i]? with
   |none=>simp
   |some o=>
    cases o with
    |none=>simp
    |some t=>
     simp![Option.some.injEq,exists_eq_left'];unfold HB;dsimp only;cases gS nm f t with
     |none=>simp
     |some r=>
      cases r with
      |list hs=>
       dsimp only;cases cQ hs with
       |none=>simp
       |some hs'=>
        cases cQ ds with
        |none=>simp
        |some ns=>
         dsimp only;cases iJ hs' ns with
         |none=>simp
         |some ks=>simp
      |_=>simp
  |_=>simp[HB]
theorem aHQ:aV (BQ fs) δ Q=aV (aY fs) δ λds δ1=>vW (ġ ds) δ1 Q:=by
 rw[j8];unfold aV BQ T1 ġ;cases aY fs δ with
 |stuck=>rfl
 |err x d=>rfl
 |ok ds δ1=>
  simp![Res.bind];cases kJ ds with
  |none=>simp
  |some p=>
   let⟨lo,n⟩:=p;dsimp only;by_cases h:n<=sizeLine
   .rw[Á h];simp[h]
   .rw[Â h];simp[h]
def P9(d:D)(δ:DS)(Q:D->ZO)(_w:Wt Q:=⟨⟩):Prop:=(JN d).isSome=true/\Q d δ
theorem xZ:aV (PN fe) δ Q=aV fe δ λd _=>P9 d δ Q:=by
 unfold aV PN P9;cases fe δ with
 |stuck=>rfl
 |err x d=>rfl
 |ok d δ1=>
  dsimp only;cases JN d with
  |none=>simp
  |some v=>simp
theorem VM{i:Int}:P9 (.int i) δ Q=Q (.int i) δ:=by unfold P9;simp[JN]
theorem aHR:P9 .none δ Q=Q .none δ:=by unfold P9;simp[JN]
end
end L2
namespace PySem
namespace F
end F
section
end
end PySem
namespace L2
open PySem PySem.Spec PyProof.Rows
section
end
theorem Ŋ{P:ZJ->Prop}{us:ZJ}{n:Nat}(hl:us.length=n+1)(h:∀x xs,xs.length=n->P (x::xs)):P us:=by
 cases us with
 |nil=>cases hl
 |cons x xs=>exact h x xs (Nat.succ.inj hl)
theorem aOL{P:ZJ->Prop}{us:ZJ}(hl:us.length=0)(h:P []):P us:=by
 rw[List.length_eq_zero_iff.mp hl];exact h
theorem ϙ{P:ZJ->Prop}{us:ZJ}(hl:us.length=1)(h:∀a,P [a]):P us:=Ŋ hl λa _ hl=>aOL (P:=λus=>P (a::us)) hl (h a)
theorem Ϛ{P:ZJ->Prop}{us:ZJ}(hl:us.length=2)(h:∀a b,P [a,b]):P us:=Ŋ hl λa _ hl=>ϙ (P:=λus=>P (a::us)) hl (h a)
theorem ϛ{P:ZJ->Prop}{us:ZJ}(hl:us.length=3)(h:∀a b c,P [a,b,c]):P us:=Ŋ hl λa _ hl=>Ϛ (P:=λus=>P (a::us)) hl (h a)
theorem aOM{P:ZJ->Prop}{us:ZJ}(hl:us.length=4)(h:∀a b c d,P [a,b,c,d]):P us:=Ŋ hl λa _ hl=>ϛ (P:=λus=>P (a::us)) hl (h a)
theorem aN2{ps:ZG}(hl:us.length=1)(h:∀a,bindArgs fd ⟨[a],[]⟩=pure (ps.zip [a])):bindArgs fd ⟨us,[]⟩=pure (ps.zip us):=ϙ (P:=λus=>bindArgs fd ⟨us,[]⟩=pure (ps.zip us)) hl h
theorem aN3{ps:ZG}(hl:us.length=2)(h:∀a b,bindArgs fd ⟨[a,b],[]⟩=pure (ps.zip [a,b])):bindArgs fd ⟨us,[]⟩=pure (ps.zip us):=Ϛ (P:=λus=>bindArgs fd ⟨us,[]⟩=pure (ps.zip us)) hl h
theorem aN4{ps:ZG}(hl:us.length=3)(h:∀a b c,bindArgs fd ⟨[a,b,c],[]⟩=pure (ps.zip [a,b,c])):bindArgs fd ⟨us,[]⟩=pure (ps.zip us):=ϛ (P:=λus=>bindArgs fd ⟨us,[]⟩=pure (ps.zip us)) hl h
theorem aN5{ps:ZG}(hl:us.length=4)(h:∀a b c d,bindArgs fd ⟨[a,b,c,d],[]⟩=pure (ps.zip [a,b,c,d])):bindArgs fd ⟨us,[]⟩=pure (ps.zip us):=aOM (P:=λus=>bindArgs fd ⟨us,[]⟩=pure (ps.zip us)) hl h
section
variable {P:Program}{w:World}{K:ZC}{mg:ZD}{base:Heap}{x qual:Str}{st:Stmt}{N:ZG}{k lev rm:Nat}{ps owp:ZH}{body:M Fl}
structure Fd(K:ZC)(x qual:Str)(st:Stmt)(N:ZG)(k:Nat) where
 f:Addr
 fd:FuncData
 F:RH K x qual st f fd
 b:pH K fd (N.take k) []
structure Fg(K:ZC)(mg:ZD)(x:Str)(st:Stmt)(N:ZG)(k:Nat) extends Fd K x x st N k where
 m:mg x=some (.ref f)
abbrev Fd.Ok(X:Fd K x qual st N k)(P:Program)(w:World)(mg:ZD)(base:Heap)(lev:Nat)(ps owp:ZH)(rm:Nat)(d:ZI->Res D):Prop:=rO P w K mg base (AG P w K) lev X.f X.fd (N.take k) (SW K (N.take k) ps owp rm d)
theorem Fd.okD(X:Fd K x qual st N k)(S:jM N (N.take k) (bC st))(hb:∀{cdv:Value}{A:Around}{outer:List Env}{s:Shared}{H:Hp}{E:XK}{F0:Hp}{g0:ZP}{σ0:St}{wf:∀a i q,g0 a=some (i,q)->i∈ps}(_:X.fd.code=cdv)(_:fB lev (A.deeper (envOfC qual (bC st) s.heap.objs.size X.f cdv))),
   AF (qB (AG P w K) P w K mg base N qual (bC st) X.f cdv A outer s H E) ⟨F0,H,g0,ps,σ0,owp,wf⟩ owp owp owp owp rm (dS st) body)(hN:↥(owp.length=N.length)):X.Ok P w mg base (lev+1) ps owp rm (aP N.length ps rm body):=
 X.F.okD S hN λ_ hcd _ _ _ _ _ _ _ _ _ hr=>⟨owp,hb hcd hr⟩
theorem Fd.okE(X:Fd K x qual st N k)(owe:ZH)(S:jM N (N.take k) (bC st))(hb:∀{cdv:Value}{A:Around}{outer:List Env}{s:Shared}{H:Hp}{E:XK}{F0:Hp}{g0:ZP}{σ0:St}{wf:∀a i q,g0 a=some (i,q)->i∈ps}(_:X.fd.code=cdv)(_:fB lev (A.deeper (envOfC qual (bC st) s.heap.objs.size X.f cdv))),
   AF (qB (AG P w K) P w K mg base N qual (bC st) X.f cdv A outer s H E) ⟨F0,H,g0,ps,σ0,owp,wf⟩ owp owe owe owe rm (dS st) body)(hN:↥(owp.length=N.length)):X.Ok P w mg base (lev+1) ps owp rm (aP N.length ps rm body):=
 X.F.okD S hN λ_ hcd _ _ _ _ _ _ _ _ _ hr=>⟨owe,hb hcd hr⟩
def Į(N:ZG)(k:Nat)(sc:Scope):Bool:=(match sc.kind with|.function=>true|_=>false) && !sc.isCoroutine && !sc.isGenerator && decide N.Nodup && (N.take k).all (λx=>match sc.names.lookup x with|some .local=>true|some .cell=>true|_=>false) && sc.names.all (λy=>match y.2 with|.free=>false|_=>true)
theorem HC(h:Į N k sc=true):jM N (N.take k) sc:=by
 unfold Į at h;simp![ä,Bool.not_eq_true',decide_eq_true_eq,è]at h;let⟨⟨⟨⟨⟨h1,h2⟩,h3⟩,h4⟩,h5⟩,h6⟩:=h;refine⟨?_,h2,h3,h4,?_,λx hx=>?_,λy hy e=>?_⟩
 all_goals grind
def aKN{h:Heap}{f:Addr}{oc:Value}{od an:Option Addr}{osl:Array (ZN)}{kV doc pm cdv ct:Value}(X:K.In h)(G:h.Ns mainGlobals mg)(a:W.nsIn K mainGlobals x=some (some (.ref f)))(l:K.lookup f=some ⟨oc,od,.func (W.fnOf x x (oB st) (dS st) (bC st) .none kV doc pm an cdv ct),osl⟩)(c:W.codeIn K cdv x=true)(k':W.keepIn K (.ref f)=true)(hb:∀(kV doc pm:Value)(an:Option Addr)(cdv ct:Value)(us:ZJ),us.length=(N.take k).length->bindArgs (W.fnOf x x (oB st) (dS st) (bC st) .none kV doc pm an cdv ct) ⟨us,[]⟩=pure ((N.take k).zip us)):Fg K mg x st N k:=
 ⟨⟨f,_,J8 l c k',(J8 l c k').binds hb⟩,W.mg_of X G a⟩
theorem NR(X:K.In h)(G:h.Ns mainGlobals mg)(a:W.nsIn K mainGlobals x=some (some (.int v t))):∃t,mg x=some (.int v t):=⟨t,W.mg_of X G a⟩
theorem aB{pos p:Pos}(Y:Fg X.K X.mg x st N k)(Fk:Y.Ok X.prog X.w X.mg X.base lev ps owp rm fn)(hr:fB k1 X.A)(ha:DA X Z ow (e::es) as)(hk:⇑(lev<=k1))(S:aO Z ow:=by exact aF)(hg:Gl X x:=by exact rfl)(hz:↥(YK Z=true))(hl:↥(as.length=(N.take k).length))(hps:↥(fY 0 as=ps))(nd:↥(decide (aU as).Nodup=true))(hm:↥(fG owp ow 0 as=true))(hlt:⇑(as.length<=1000))(hdb:⇑(Zdb x))(he:↥(Zse e es X.env))(hpl:↥(Zbt pos es X.env)):
  DE X Z ow rm (.Call 'i' (e::es) [] pos) (dR fn as):=Z3 S Fk (hr.mono hk) hg Y.m Y.F.kp Y.b ha hz hl hps nd hm hlt hdb he hpl
end
theorem Fd.okN{K:ZC}{st:Stmt}(X:Fd K x qual st N k)(hb:∀{cdv:Value}{A:Around}{outer:List Env}{s:Shared}{H:Hp}{E:XK}{F0:Hp}{g0:ZP}{σ0:St}{wf:∀a i q,g0 a=some (i,q)->i∈ps}(_:X.fd.code=cdv)(_:fB lev (A.deeper (envOfC qual (bC st) s.heap.objs.size X.f cdv)))(_:N.Nodup),
   AF (qB (AG P w K) P w K mg base N qual (bC st) X.f cdv A outer s H E) ⟨F0,H,g0,ps,σ0,owp,wf⟩ owp owp owp owp rm (dS st) body)(h:Į N k (bC st)=true:=by decide +kernel)(hN:↥(owp.length=N.length)):X.Ok P w mg base (lev+1) ps owp rm (aP owp.length ps rm body):=by
 rw[hN];exact X.okD (HC h) (λa b=>hb a b (HC h).nd) hN
theorem Fd.okM{K:ZC}{st:Stmt}(X:Fd K x qual st N k)(owe:ZH)(hb:∀{cdv:Value}{A:Around}{outer:List Env}{s:Shared}{H:Hp}{E:XK}{F0:Hp}{g0:ZP}{σ0:St}{wf:∀a i q,g0 a=some (i,q)->i∈ps}(_:X.fd.code=cdv)(_:fB lev (A.deeper (envOfC qual (bC st) s.heap.objs.size X.f cdv)))(_:N.Nodup),
   AF (qB (AG P w K) P w K mg base N qual (bC st) X.f cdv A outer s H E) ⟨F0,H,g0,ps,σ0,owp,wf⟩ owp owe owe owe rm (dS st) body)(h:Į N k (bC st)=true:=by decide +kernel)(hN:↥(owp.length=N.length)):X.Ok P w mg base (lev+1) ps owp rm (aP owp.length ps rm body):=by
 rw[hN];exact X.okE owe (HC h) (λa b=>hb a b (HC h).nd) hN
def ŋ:ZG->Str->Nat->Option Nat
 |[],_,_=>none
 |y::ys,x,k=>if y == x then some k else ŋ ys x (k+1)
theorem NS:∀{N:ZG}{x:Str}{k i:Nat},ŋ N x k=some i->∃j,i=k+j/\N[j]?=some x
 |y::ys,x,k,i,h=>by
  unfold ŋ at h;by_cases e:(y == x)=true
  .rw[Á e]at h
   cases h;exact⟨0,rfl,congrArg some (eq_of_beq e)⟩
  .rw[Â e]at h
   let⟨j,e1,e2⟩:=NS h;exact⟨j+1,∅,e2⟩
def rL{α:Type}(r:Expr->Option α):List Expr->Option (List α)
 |[]=>some []
 |e::es=>(r e).bind λf=>(rL r es).bind λfs=>some (f::fs)
def aON:Operator->Option (D->D->ZL)
 |.Add=>some KC
 |.Sub=>some Ŝ
 |.Mult=>some PD
 |.Mod=>some DC
 |_=>none
def aOO:Const->Option (M D)
 |.int i=>some (dC (.int i))
 |.str x=>some (dC (.str x))
 |.none=>some (dC .none)
 |_=>none
def aND:NameKind->Bool
 |.globalImplicit=>false
 |.globalExplicit=>false
 |_=>true
def aOP(N:ZG)(nm:List (Str×NameKind))(ow:ZH)(x:Str):Option (M D):=(nm.lookup x).bind λk=>(ŋ N x 0).bind λi=>if aND k && ow.getD i 0 == 0 && !(x == "__debug__") && !(x == "__classdict__")then some (bD i)else none
def rE(N:ZG)(nm:List (Str×NameKind))(ow:ZH):Nat->Expr->Option (M D)
 |0,_=>none
 |n+1,e=>match e with
  |.Name x _=>aOP N nm ow x
  |.Constant c _ _=>aOO c
  |.BinOp a o b _=>(aON o).bind λg=>(rE N nm ow n a).bind λf=>(rE N nm ow n b).bind λh=>some (iW g f h)
  |.Subscript a b _=>(rE N nm ow n a).bind λf=>(rE N nm ow n b).bind λh=>some (iW fE f h)
  |.Tuple es _ _=>(rL (rE N nm ow n) es).bind λfs=>some (FY fs)
  |_=>none
theorem ob{α β:Type}{x:Option α}{f:α->Option β}{b:β}(h:x.bind f=some b):∃a,x=some a/\f a=some b:=Option.bind_eq_some_iff.mp h
section
variable {X:Cx}{Z:b8}{ow:ZH}{e:Expr}{f:M D}
structure ū(X:Cx)(Z:b8)(ow:ZH)(e:Expr)(f:M D):Prop where
 de:DE X Z ow 0 e f
 st:∀es,starEach (e::es) X.env=(false,eval e X.env)::starEach es X.env
 ix:oA e
theorem Ŭ(h:∀e f,r e=some f->ū X Z ow e f):∀{es:List Expr}{fs:List (M D)},rL r es=some fs->DV X Z ow es fs
 |[],fs,q=>by cases q;exact aS
 |e::es,fs,q=>by
  let⟨f,h1,q⟩:=ob q;let⟨gs,h2,q⟩:=ob q;cases q;exact aE (h _ _ h1).de (Ŭ h h2) ((h _ _ h1).st _)
theorem Ϝ{r:Expr->Option (M D)}(h:∀e f,r e=some f->ū X Z ow e f):∀{es:List Expr}{as:List Arg},rL (λe=>(r e).bind λf=>some (Arg.val f)) es=some as->DA X Z ow es as
 |[],as,q=>by cases q;exact cJ
 |e::es,as,q=>by
  let⟨a,h1,q⟩:=ob q;let⟨bs,h2,q⟩:=ob q;let⟨f,h3,q1⟩:=ob h1;cases q;cases q1;exact aL (h _ _ h3).de (Ϝ h h2) ((h _ _ h3).st _)
theorem NT(S:aO Z ow):∀(n:Nat)(e:Expr)(f:M D),rE X.N X.env.scope.names ow n e=some f->ū X Z ow e f
 |n+1,e,f,h=>by
  have ih:=NT S n;cases e with
  |Name x p=>
   refine⟨?_,λ_=>rfl,λ_ _=>rfl⟩;let⟨k,hk,h⟩:=ob h;let⟨i,hi,h⟩:=ob h;split at h
   .rename_i q
    cases h;let⟨j,rfl,hj⟩:=NS hi;simp![ä,Bool.not_eq_true',beq_iff_eq,Nat.zero_add]at q⊢;refine qC j q.1.1.2 hj ?_ q.1.2 q.2;have q:=q.1.1.1;cases k<;>cases q
    .exact .inl hk
    .exact .inr (.inl hk)
    .exact .inr (.inr hk)
   .cases h
  |Constant c k p=>
   refine⟨?_,λ_=>rfl,λ_ _=>rfl⟩;cases c<;>cases h
   all_goals first|exact aJ|exact cO|exact wT
  |BinOp a o b p=>
   let⟨g,h1,h⟩:=ob h;let⟨f1,h2,h⟩:=ob h;let⟨f2,h3,h⟩:=ob h;cases h;have a:=(ih _ _ h2).de;have b:=(ih _ _ h3).de;refine⟨?_,λ_=>rfl,λ_ _=>rfl⟩;cases o<;>cases h1
   all_goals first|exact bF S a b|exact nE S a b|exact iG S a b|exact iY S a b
  |Subscript a b p=>
   let⟨f1,h2,h⟩:=ob h;let⟨f2,h3,h⟩:=ob h;cases h;exact⟨fR S (ih _ _ h2).de (ih _ _ h3).de (ih _ _ h3).ix,λ_=>rfl,λ_ _=>rfl⟩
  |Tuple es k p=>
   let⟨fs,h2,h⟩:=ob h;cases h;exact⟨bP (Ŭ ih h2),λ_=>rfl,λ_ _=>rfl⟩
  |_=>cases h
theorem rx(S:aO Z ow:=by exact aF)(h:↥(rE X.N X.env.scope.names ow 9 e=some f)):DE X Z ow 0 e f:=(NT S 9 e f h).de
theorem rv{es:List Expr}{fs:List (M D)}(S:aO Z ow:=by exact aF)(h:↥(rL (rE X.N X.env.scope.names ow 9) es=some fs)):DV X Z ow es fs:=Ŭ (NT S 9) h
theorem ra{es:List Expr}{as:List Arg}(S:aO Z ow:=by exact aF)(h:↥(rL (λe=>(rE X.N X.env.scope.names ow 9 e).bind λf=>some (Arg.val f)) es=some as)):DA X Z ow es as:=Ϝ (NT S 9) h
end
section
end
section
end
section
def VN(k x:D):Option (ZL):=match x with
 |.dict À=>if (À.all λkv=>(dG kv.1).isSome)=true then (match dG k with
  |some ky=>some (jP ky À)
  |none=>none)else none
 |_=>none
def vM(n:Bool)(k x:D):ZL:=(VN k x).map λr=>.bool (r.isSome != n)
theorem VO{K:ZC}(e:VN k x=some r)(hk:bI K F k y)(hx:bI K F x v)(hs:aI F H):∃a o,v=.ref a/\AO H a y o/\((r=none/\o=none)\/∃d w,r=some d/\o=some w/\bI K F d w):=by
 unfold VN at e;split at e
 .rename_i À
  split at e
  .rename_i hall
   split at e
   .rename_i ky e4
    cases e;let⟨a,ms,ds,vs,rfl,l1,rfl,hF,hr⟩:=NO hx hall;obtain rfl:=D6 e4 hk;refine⟨a,qK (ms.zip vs) ky,rfl,AO.k (hs _ _ hF),?_⟩;rcases uK (k:=ky) l1 hr with ⟨h1,h2⟩|⟨d,w,h1,h2,h3⟩
    .exact .inl ⟨h1,h2⟩
    .exact .inr ⟨d,w,h1,h2,h3⟩
   .cases e
  .cases e
 .cases e
theorem VP(h:tD X Z ow 0 (iW (vM n) fk fx) σ H Q):tD X Z ow 0 fk σ H λy H1=>tD X Z ow 0 fx σ H1 λx H2=>∃a o,x=.ref a/\AO H2 a y o/\Q (.bl (o.isSome != n)) H2:=by
 let⟨F,δ,R,h⟩:=h;unfold iW at h;refine⟨F,δ,R,?_⟩;cases e:fk δ with
 |stuck=>rw[e]at h;exact h.elim
 |err x δ1=>rw[e]at h;exact h
 |ok d1 δ1=>
  rw[e]at h;simp![Res.bind]at h;intro y H1 F1 R1 s1;refine⟨F1,δ1,R1.rel,?_⟩;cases e2:fx δ1 with
  |stuck=>rw[e2]at h;exact h.elim
  |err x δ2=>rw[e2]at h;exact iV.mono h s1
  |ok d2 δ2=>
   rw[e2]at h;simp![Res.bind]at h;intro v H2 F2 R2 s2;unfold vM at h;cases e3:VN d1 d2 with
   |none=>rw[e3]at h;exact h.elim
   |some r=>
    rw[e3]at h;let⟨a,o,rfl,hg,hr⟩:=VO e3 (s2.rep _ _ R1.rep) R2.rep R2.rel.sub;have eo:o.isSome=r.isSome:=by
     rcases hr with ⟨rfl,rfl⟩|⟨d,w,rfl,rfl,_⟩<;>rfl
    refine⟨a,o,rfl,hg,?_⟩;rw[eo];exact h _ H2 F2 (R2.rel.x jJ) (s1.trans' s2)
theorem aNF(hu:X.A.units+64<cLine)(hi:DE X Z ow 0 i fk)(ho:DE X Z ow 0 o fx)(h1:↥(behindInMarks .In o=false)):DE X Z ow 0 (.Compare i [.In] [o] pos) (iW (vM false) fk fx):=
 PE.mono (aES (UX ∅ hi ho) h1) λσ H Q h=>by
  have:=VP h;simp![Bool.bne_false]at this;exact this
theorem aHT(hu:X.A.units+64<cLine)(hi:DE X Z ow 0 i fk)(ho:DE X Z ow 0 o fx)(h1:↥(behindInMarks .In o=false)):DT X Z ow (.Compare i [.In] [o] pos) (dB (iW (vM false) fk fx)):=
 (aET (UX ∅ hi ho) h1).mono λσ H Q h=>by
  have:=VP (L9 h);simp![Bool.bne_false]at this;exact this
end
section
variable {c i:Nat}{F H:Hp}{g:ZP}{K:ZC}
theorem aZ.mkC{p:ZH}{a:Addr}{ds:ZI}{vs:List V}(hk:kd c=0)(h0:c≠0)(a1:g a=some (i,p))(a2:H a=some (.lst vs))(a3:F a=none)(hl:ds.length=vs.length)(r:∀(k:Nat)(d':D)(v':V),ds[k]?=some d'->vs[k]?=some v'->aZ K F H g i (ch c k) (p++[k]) d' v'):aZ K F H g i c p (.list ds) (.ref a):=by
 cases c with
 |zero=>exact absurd rfl h0
 |succ c=>
  refine aZ.shut (ds:=ds) (vs:=vs) (cs:=[(a,[],.lst vs)]) (by rw[hk];exact⟨a,rfl,rfl,rfl⟩) (λx hx=>?_) hl r
  rw[ó.mp hx];exact⟨by simpa using a1,a2,a3⟩
end
section
end
section
end
section
end
section
def NU(f:M D):M Bool:=λδ=>(f δ).bind λd δ1=>match d with
 |.list ds=>.ok (!ds.isEmpty) δ1
 |_=>.stuck
theorem aHU(h:DE X Z ow 0 e f)(he: ~~~(∀whole,isTrue e X.env whole=(do let v <- whole;standAt e.pos;holding [v] (truthy v)))):DT X Z ow e (NU f):=(R8 h he).mono λσ H Q h=>by
 let⟨F,δ,R,h⟩:=h;unfold NU at h;refine⟨F,δ,R,?_⟩;cases e:f δ with
 |stuck=>rw[e]at h;exact h.elim
 |err x δ1=>rw[e]at h;exact h
 |ok d δ1=>
  rw[e]at h;simp![Res.bind]at h;intro v H1 F1 R1 s1;split at h
  .rename_i ds
   let⟨l,vs,rfl,hx,rx⟩:=kP R1.rep;refine⟨!ds.isEmpty,?_,h H1 F1 R1.rel s1⟩;refine .inl ⟨vs,R1.rel.sub.seq hx,?_⟩;have:=rx.len
   grind
  .exact h.elim
theorem aHV{δ:DS}{Q:Bool->ZO}{ds:ZI}{δ1:DS}(h:f δ=.ok (.list ds) δ1)(q:Q (!ds.isEmpty) δ1):aV (NU f) δ Q:=by
 unfold aV NU;rw[h];exact q
end
section
variable {X:Cx}{Z:b8}{ow ol ox:ZH}{rm:Nat}{pos:Pos}{tg:Expr}{g:TG}{set:D->DS->Option DS}{σ:St}{H:Hp}
def HD(f:M D):M D:=λδ=>match f δ with
 |.ok (.list ds) _=>if (ds.all λd=>(JN d).isSome)=true then .ok (.list ds) δ else .stuck
 |_=>.stuck
theorem VQ(m:Nat)(S:aO Z ow)(q:tD X Z ow 1 (HD f) σ H Q):∃F0,tD X (fD F0 H σ m) 'g' 1 f σ H Q:=by
 let⟨F,δ,⟨g,R⟩,q⟩:=q;unfold HD at q;refine⟨FA g F H,FA g F H,δ,R.bor,?_⟩;split at q
 .rename_i ds δ1 e1
  split at q
  .rename_i hfl
   rw[e1];rintro v H' F' ⟨g',R',o⟩ s';let⟨c,ds0,vs,q1,rfl,q3,q4,q5,q6,q7⟩:=o.lst (m:=0);cases q1;have hn:H c=none:=by
    rcases R'.lab c 1000 [] q3 with z|⟨r,z⟩
    .exact z
    .cases z
   have fc:F c=none:=by
    cases z:F c with
    |none=>rfl
    |some u=>rw[R.sub c u z]at hn;cases hn
   have zc:Z.H0 c=none:=by
    cases z:Z.H0 c with
    |none=>rfl
    |some u=>exact absurd hn (R.there c (by rw[z];simp))
   have R2:=R.grow (H':=H') λb o e=>R'.kept b o rfl e;refine q _ H' F ⟨λb=>open Classical in if b=c then some (1000,[])else ĕ g 1000 b,⟨R2.sub,R2.f0,R2.kept,R2.new,R2.there,λb j p e=>?_,R2.len,R2.par,λj d e=>?_⟩,?_⟩ (aI.refl _)
   .split at e
    .rename_i z;rw[z];exact .inl zc
    .exact R.lab b j p (CY e).1
   .obtain⟨w,y1,y2⟩:=R.slot j d e
    refine⟨w,y1,?_⟩;by_cases hz:ow.getD j 0=0
    .rw[hz]at y2⊢;exact y2
    .have j1:j<1000:=D2 S hz
     refine y2.keepJ (λ_ _ z=>z) λb p u z1 z2 z3=>?_;have z2':H b=some u:=z2;have nb:b≠c:=λz=>by rw[z,hn]at z2';cases z2'
     exact⟨by rw[Â nb];exact CW (by show j≠1000;lia) z1,R'.kept b u rfl z2',z3⟩
   .refine aZ.mkL (m:=0) ⟨c,_,vs,rfl,rfl,Á rfl,q4,fc,q6,λk d' v' z1 z2=>?_⟩
    let⟨y,hy⟩:=Option.isSome_iff_exists.mp (è.mp hfl d' (þ z1));exact GN hy (q7 k d' v' z1 z2)
  .exact q.elim
 .exact q.elim
theorem AQ(i:Nat){pos' spos:Pos}(m:Nat)(S:aO Z ow)(S0:∀F H σ,aO (fD F H σ m) 'g')(Sk:∀F H σ,aO ((fD F H σ m).sh xs.length) (List.replicate xs.length 0++List.replicate m 0))(hc:X.calm=true)(hN:X.N.Nodup)(hi:∀F H σ,DI X (fD F H σ m) 'g' tg iter fi)(hg:∀C fp s H,PG 'd' tg g)(hs:∀F H σ,YM X ((fD F H σ m).sh xs.length) (List.replicate xs.length 0++List.replicate m 0) xs.length g set)(hif:∀F0 H0 σ0,∀C fp s H,O7 'd' ifs (tT 'd' ((fD F0 H0 σ0 m).sh xs.length) (List.replicate xs.length 0++List.replicate m 0) t))(he:∀F0 H0 σ0,∀C fp s H,DE 'd' ((fD F0 H0 σ0 m).sh xs.length) (List.replicate xs.length 0++List.replicate m 0) 0 elt fe)(hx:↥(X.N[i]?=some x))(hl:↥(X.env.scope.names.lookup x=some .local))(hps:↥(Z.ps.contains i=false))(hlo:⇑(i<ow.length))(hsw:↥(swapsWith 'h' (some (.Name x pos')) spos.line X.env=pure true))(hk:↥(scope.kind=.function))(hok:↥(dJ X.N xs scope.names X.env.scope.names=true))(hfs: ~~~(Zfi iter X.env)):
  AE X Z ow (ow.set i 1) ol ox rm (.Assign [.Name x pos'] 'h' spos) (fL i (HD (dZ xs.length set fi t fe))):=λU s σ H Dn I h=>by
 let⟨F0,q⟩:=VQ m S (v2 S (dE hps) hlo h);exact lN (ti:=Ĭ X ((fD F0 H σ m).sh xs.length) (List.replicate xs.length 0++List.replicate m 0) t) (te:=ė X ((fD F0 H σ m).sh xs.length) (List.replicate xs.length 0++List.replicate m 0) 0 fe) hc hN hx hl (hi F0 H σ) hg (λC fp s H' U s' σ' H'' Q I h=>hif F0 H σ C fp s H' U s' σ' H'' Q I (TD (X:=X) (X':=aQ X xs scope C fp s H') rfl h)) (λC fp s H'=>PE.mono (he F0 H σ C fp s H') λ_ _ _ h=>GI (X:=X) (X':=aQ X xs scope C fp s H') rfl h) hsw hk hok hfs U s σ H Dn I (w9 (wi:=tI X (fD F0 H σ m) 'g' fi) (S0 F0 H σ) (Sk F0 H σ) (hs F0 H σ) q)
end
end L2
namespace L2
open PySem PySem.Spec
section
end
end L2
set_option maxRecDepth 100000
set_option maxHeartbeats 4000000
open L2 in
seal DE DT AE AF DV DA DI DO O7 PG ĩ YM ĥ PW
namespace Toy
open PySem L2
@[inline]def top(i:Nat):Stmt:=PySem.Challenge.pw_keel_k66_refused_voyages.main.body.getD i (.Pass ⟨0,0,0,0⟩)
abbrev qL:Stmt:=top 7
abbrev qM:ZG:=["one","other","rest"]
abbrev KR:Stmt:=top 8
abbrev KS:ZG:=["top","bottom","divisor"]
abbrev D9:Stmt:=top 11
abbrev EA:ZG:=["rooms","lines","tank","room","line"]
abbrev QA:Stmt:=top 12
abbrev QB:ZG:=["line","pivot_line","column","scale","step","share","numbers"]
theorem sU:(["one","other","line","pivot_line","column","scale","step","share","numbers"]:ZG).Nodup:=by decide +kernel
abbrev VR:Stmt:=top 13
abbrev VS:ZG:=["pivot_line","column","scale","numbers"]
abbrev pV:Stmt:=top 14
abbrev AR:ZG:=["table","below"]
theorem kX:(["place","line","table","below"]:ZG).Nodup:=by decide +kernel
abbrev EB:Stmt:=top 15
abbrev EC:ZG:=["table","line","column","best","one","other"]
abbrev ED:Stmt:=top 16
abbrev EE:ZG:=["table","line","best","column"]
abbrev KU:Stmt:=top 17
abbrev KW:ZG:=["table","rows","shares","first_row","first_room","parts"]
abbrev HE:Stmt:=top 18
abbrev HF:ZG:=["table","line","shares","number","share"]
abbrev HG:Stmt:=top 19
abbrev HH:ZG:=["table","rows","place","shares"]
abbrev HI:Stmt:=top 20
abbrev HJ:ZG:=["table","rows","rooms","reached","number","line","fills"]
abbrev uM:Stmt:=VD (top 10) 0
abbrev uO:ZG:=["self","rows","rooms"]
theorem iO:(["row","top","self","rows","rooms"]:ZG).Nodup:=by decide +kernel
abbrev EF:Stmt:=VD (top 10) 1
abbrev EG:ZG:=["self","place","column","pivot_line","lines","freed"]
abbrev aBI:Stmt:=top 21
abbrev aBJ:ZG:=["rows","rooms","table","place","column"]
abbrev aBK:Stmt:=top 26
abbrev aBL:ZG:=["sums","weight","place"]
abbrev QC:Stmt:=top 27
abbrev QD:ZG:=["ship","cargo","own","sums","stack","boxes","t","box","place"]
abbrev AS:Stmt:=top 28
abbrev AT:ZG:=["tanks","axis","high","sums"]
abbrev EH:Stmt:=top 29
abbrev EI:ZG:=["tanks","axis","low","sums"]
abbrev QE:Stmt:=top 30
abbrev QF:ZG:=["ship","cargo","bounds","tanks","sums"]
abbrev KY:Stmt:=top 32
abbrev KZ:ZG:=["ship"]
abbrev QG:Stmt:=top 33
abbrev QH:ZG:=["ship","cargo"]
abbrev QI:Stmt:=top 36
abbrev QJ:ZG:=["thing"]
abbrev K0:Stmt:=top 37
abbrev K2:ZG:=["ship","s","other","one","two"]
abbrev HK:Stmt:=top 39
abbrev HL:ZG:=["box","names"]
abbrev sV:Stmt:=top 40
abbrev sW:ZG:=["stack","s","boxes","rules","above","t","box"]
abbrev VT:Stmt:=top 41
abbrev VU:ZG:=["ship","one","other"]
abbrev yA:Stmt:=top 42
abbrev yB:ZG:=["cargo","placed","s","boxes","t","box"]
abbrev yC:Stmt:=top 43
abbrev yD:ZG:=["ship","cargo","rules","placed","number","one","other"]
abbrev VV:Stmt:=top 44
abbrev VW:ZG:=["ship","cargo","rules","s","boxes"]
abbrev yE:Stmt:=top 46
abbrev yF:ZG:=["boxes","port","t","box"]
abbrev uP:Stmt:=top 47
abbrev uQ:ZG:=["boxes","s","port","lifted","moves"]
abbrev K3:Stmt:=top 48
abbrev K4:ZG:=["cargo","call","moves","s","boxes"]
theorem pW:(["box","s","cargo","call","moves",".s","boxes"]:ZG).Nodup:=by decide +kernel
abbrev K5:Stmt:=top 49
abbrev K6:ZG:=["cargo","call"]
theorem pX:(["step","box","cargo","call"]:ZG).Nodup:=by decide +kernel
abbrev K7:Stmt:=top 50
abbrev K8:ZG:=["cargo","call"]
abbrev VX:Stmt:=top 51
abbrev VY:ZG:=["cargo"]
theorem HM:(["boxes","cargo"]:ZG).Nodup:=by decide +kernel
abbrev QK:Stmt:=top 52
abbrev QL:ZG:=["cargo","step","box","behind"]
abbrev K9:Stmt:=top 53
abbrev LA:ZG:=["cargo","names","boxes","box"]
abbrev AU:Stmt:=top 54
abbrev AV:ZG:=["ship","cargo","loads","names","box","s"]
abbrev LB:Stmt:=top 55
abbrev LC:ZG:=["ship","cargo","rules"]
abbrev VZ:Stmt:=top 56
abbrev V3:ZG:=["ship","cargo","call","behind","log","step","box","told"]
abbrev V4:Stmt:=top 58
abbrev V5:ZG:=["ship","cargo","calls","told","call","outcome"]
abbrev HN:Stmt:=top 60
abbrev HP:ZG:=["_law_script","_law_k"]
abbrev V6:Stmt:=top 61
abbrev V7:ZG:=["_law_script","_law_k","_law_many"]
abbrev QM:Stmt:=top 62
abbrev QN:ZG:=["_law_script","_law_k","_law_many"]
abbrev QO:Stmt:=top 63
abbrev QP:ZG:=["_law_script","_law_k","_law_many"]
abbrev V8:Stmt:=top 64
abbrev V9:ZG:=["_law_script","_law_k","_law_n","_law_letters","_law_many","_law_spot","_law_base","_law_sign"]
abbrev QQ:Stmt:=top 65
abbrev QR:ZG:=["_law_script"]
abbrev QS:Stmt:=top 66
abbrev QT:ZG:=["_law_script","_law_s","_law_along","_law_across","_law_high","_law_most","_law_name_here"]
abbrev WA:Stmt:=top 67
abbrev WB:ZG:=["_law_script","_law_k","_law_along","_law_across","_law_room"]
abbrev WC:Stmt:=top 68
abbrev WD:ZG:=["_law_script","_law_scale_here","_law_own","_law_long","_law_wide","_law_most","_law_bounds","_law_stacks","_law_tanks","_law_apart","_law_k","_law_one","_law_other_here"]
abbrev aBM:Stmt:=top 69
abbrev aBN:ZG:=["_law_script","_law_n","_law_scale_here","_law_port","_law_kind","_law_bears"]
abbrev QU:Stmt:=top 70
abbrev QV:ZG:=["_law_script","_law_ship_here","_law_many","_law_cargo_here","_law_n"]
theorem EJ:(["_law_stack_here","_law_script","_law_ship_here","_law_many","_law_cargo_here","_law_n"]:ZG).Nodup:=by decide +kernel
abbrev WF:Stmt:=top 71
abbrev WG:ZG:=["_law_script","_law_ship_here","_law_first","_law_turn","_law_loads","_law_n"]
abbrev WH:Stmt:=top 72
abbrev WI:ZG:=["_law_cargo_here","_law_call_here","_law_told","_law_s","_law_loads"]
abbrev EK:Stmt:=top 73
abbrev EL:ZG:=["_law_cargo_here","_law_names","_law_boxes"]
abbrev QW:Stmt:=top 74
abbrev QX:ZG:=["_law_script","_law_ship_here","_law_cargo_here","_law_many","_law_calls_here","_law_known","_law_here","_law_turn","_law_call_here","_law_free","_law_box_here","_law_name_here","_law_again"]
theorem EM:(["_law_name_here","_law_script","_law_ship_here","_law_cargo_here","_law_many","_law_calls_here","_law_known","_law_here","_law_turn","_law_call_here","_law_free","_law_box_here","._law_name_here","_law_again"]:ZG).Nodup:=by decide +kernel
abbrev WJ:Stmt:=top 75
abbrev WK:ZG:=["_law_script","_law_call_here","_law_box_here","_law_way"]
abbrev HQ:Stmt:=top 76
abbrev yG:ZG:=["_law_ship_here","_law_cargo_here","_law_calls_here","_law_told","_law_word_here"]
theorem gT:jM yG (yG.take 3) (bC HQ):=HC (by decide +kernel)
abbrev aKP:Stmt:=top 77
abbrev aKQ:ZG:=["_law_script","_law_ship_here","_law_many","_law_cargo_here","_law_calls_here","_law_at","_law_ahead","_law_bent_here","_law_handed","_law_trip","_law_found"]
abbrev aNG:Pos:=(CV (dS pV)).getD ⟨0,0,0,0⟩
set_option genInjectivity false in
set_option genSizeOf false in
structure Txt(K:ZC)(mg:ZD) where
 x0:Fg K mg "greatest_divisor" qL qM 2
 x1:Fg K mg "fraction" KR KS 2
 x2:Fg K mg "room_lines" D9 EA 1
 x3:Fg K mg "cleared" QA QB 4
 x4:Fg K mg "turned" VR VS 3
 x5:Fg K mg "place_below" pV AR 1
 x6:Fg K mg "goes_ahead" EB EC 4
 x7:Fg K mg "column_for" ED EE 2
 x8:Fg K mg "parts_of" KU KW 3
 x9:Fg K mg "shares_of" HE HF 2
 x10:Fg K mg "told_none" HG HH 3
 x11:Fg K mg "told_fill" HI HJ 3
 x12:Fd K "__init__" "Table.__init__" uM uO 3
 x13:Fd K "swap" "Table.swap" EF EG 3
 x14:Fg K mg "least" aBI aBJ 2
 x15:Fg K mg "added" aBK aBL 3
 x16:Fg K mg "weights" QC QD 2
 x17:Fg K mg "row_of_high" AS AT 4
 x18:Fg K mg "row_of_low" EH EI 4
 x19:Fg K mg "rows_of" QE QF 2
 x20:Fg K mg "rooms_of" KY KZ 1
 x21:Fg K mg "ballast" QG QH 2
 x22:Fg K mg "is_name" QI QJ 1
 x23:Fg K mg "apart_by" K0 K2 3
 x24:Fg K mg "check_box" HK HL 2
 x25:Fg K mg "broken_in_stack" sV sW 3
 x26:Fg K mg "far_of" VT VU 3
 x27:Fg K mg "placed_boxes" yA yB 1
 x28:Fg K mg "broken_apart" yC yD 2
 x29:Fg K mg "broken" VV VW 2
 x30:Fg K mg "lifted_boxes" yE yF 2
 x31:Fg K mg "moves_in_stack" uP uQ 3
 x32:Fg K mg "moves_of" K3 K4 2
 x33:Fg K mg "steps_of" K5 K6 2
 x34:Fg K mg "moved_at" K7 K8 2
 x35:Fg K mg "copied" VX VY 1
 x36:Fg K mg "stepped" QK QL 3
 x37:Fg K mg "names_in" K9 LA 1
 x38:Fg K mg "check_loads" AU AV 3
 x39:Fg K mg "standing" LB LC 2
 x40:Fg K mg "called" VZ V3 3
 x41:Fg K mg "voyage" V4 V5 3
 x42:Fg K mg "_law_cell_at" HN HP 2
 x43:Fg K mg "_law_draw" V6 V7 3
 x44:Fg K mg "_law_other" QM QN 3
 x45:Fg K mg "_law_third" QO QP 3
 x46:Fg K mg "_law_name" V8 V9 3
 x47:Fg K mg "_law_scale" QQ QR 1
 x48:Fg K mg "_law_stack" QS QT 2
 x49:Fg K mg "_law_tank" WA WB 2
 x50:Fg K mg "_law_ship" WC WD 1
 x51:Fg K mg "_law_box" aBM aBN 2
 x52:Fg K mg "_law_cargo" QU QV 3
 x53:Fg K mg "_law_call" WF WG 4
 x54:Fg K mg "_law_left" WH WI 2
 x55:Fg K mg "_law_names_of" EK EL 1
 x56:Fg K mg "_law_calls" QW QX 4
 x57:Fg K mg "_law_bent" WJ WK 2
 x58:Fg K mg "_law_word" HQ yG 3
 x59:Fg K mg "law" aKP aKQ 1
 c_Table:Addr
 n_Table:W.nsIn K mainGlobals "Table"=some (some (.ref c_Table))
 q_Table:mg "Table"=some (.ref c_Table)
 cl_Table:RF K c_Table
 x73:UP K "Table" "free"
 x74:UP K "Table" "goal"
 x75:UP K "Table" "held"
 x76:UP K "Table" "lines"
 x77:UP K "Table" "scale"
 mk_Table:Mk K c_Table x12.f
 me_Table_swap:Y6 K c_Table "swap" x13.f
 lamC:Addr
 lamP:Addr
 lamE:jO K=some (lamC,lamP,aNG)
 lamF:x5.fd.code=.ref lamC
 x60:mg "abs"=none
 x61:mg "all"=none
 x62:mg "enumerate"=none
 x63:mg "isinstance"=none
 x64:mg "len"=none
 x65:mg "list"=none
 x66:mg "max"=none
 x67:mg "min"=none
 x68:mg "range"=none
 x69:mg "reversed"=none
 x70:mg "str"=none
 x71:mg "sum"=none
 x72:mg "zip"=none
 g_ABOVE:∃t,mg "ABOVE"=some (.int 3 t)
 g_ACROSS:∃t,mg "ACROSS"=some (.int 2 t)
 g_ALONG:∃t,mg "ALONG"=some (.int 1 t)
 g_LONGEST_NAME:∃t,mg "LONGEST_NAME"=some (.int 8 t)
 c_NoName:Addr
 n_NoName:W.nsIn K mainGlobals "NoName"=some (some (.ref c_NoName))
 q_NoName:mg "NoName"=some (.ref c_NoName)
 e_NoName:W.excIn K c_NoName [.type "ValueError",.type "Exception",.type "BaseException",.type "object"] "ValueError.__new__"=true
 x_NoName:Ŀ K c_NoName
 c_NoNumber:Addr
 n_NoNumber:W.nsIn K mainGlobals "NoNumber"=some (some (.ref c_NoNumber))
 q_NoNumber:mg "NoNumber"=some (.ref c_NoNumber)
 e_NoNumber:W.excIn K c_NoNumber [.type "ValueError",.type "Exception",.type "BaseException",.type "object"] "ValueError.__new__"=true
 x_NoNumber:Ŀ K c_NoNumber
 c_NoStack:Addr
 n_NoStack:W.nsIn K mainGlobals "NoStack"=some (some (.ref c_NoStack))
 q_NoStack:mg "NoStack"=some (.ref c_NoStack)
 e_NoStack:W.excIn K c_NoStack [.type "ValueError",.type "Exception",.type "BaseException",.type "object"] "ValueError.__new__"=true
 x_NoStack:Ŀ K c_NoStack
 c_NoWeight:Addr
 n_NoWeight:W.nsIn K mainGlobals "NoWeight"=some (some (.ref c_NoWeight))
 q_NoWeight:mg "NoWeight"=some (.ref c_NoWeight)
 e_NoWeight:W.excIn K c_NoWeight [.type "ValueError",.type "Exception",.type "BaseException",.type "object"] "ValueError.__new__"=true
 x_NoWeight:Ŀ K c_NoWeight
 m_NoName_NoName:W.exmOne K (.ref c_NoName) (.ref c_NoName)=some true
 m_NoName_NoStack:W.exmOne K (.ref c_NoName) (.ref c_NoStack)=some false
 m_NoName_NoWeight:W.exmOne K (.ref c_NoName) (.ref c_NoWeight)=some false
 m_NoNumber_NoName:W.exmOne K (.ref c_NoNumber) (.ref c_NoName)=some false
 m_NoNumber_NoStack:W.exmOne K (.ref c_NoNumber) (.ref c_NoStack)=some false
 m_NoNumber_NoWeight:W.exmOne K (.ref c_NoNumber) (.ref c_NoWeight)=some false
 m_NoStack_NoName:W.exmOne K (.ref c_NoStack) (.ref c_NoName)=some false
 m_NoStack_NoStack:W.exmOne K (.ref c_NoStack) (.ref c_NoStack)=some true
 m_NoStack_NoWeight:W.exmOne K (.ref c_NoStack) (.ref c_NoWeight)=some false
 m_NoWeight_NoName:W.exmOne K (.ref c_NoWeight) (.ref c_NoName)=some false
 m_NoWeight_NoStack:W.exmOne K (.ref c_NoWeight) (.ref c_NoStack)=some false
 m_NoWeight_NoWeight:W.exmOne K (.ref c_NoWeight) (.ref c_NoWeight)=some true
abbrev Dq{x:Str}{st:Stmt}{N:ZG}{k:Nat}(p:∀{K mg},Txt K mg->Fg K mg x st N k)(lev:Nat)(ps ow:ZH)(rm:Nat):={b:M Fl // ∀{P:Program}{w:World}{K:ZC}{mg:ZD}{base:Heap}(T:Txt K mg)(_:sR K mg base),(p T).Ok P w mg base lev ps ow rm (aP ow.length ps rm b)}
open PySem.Spec PyProof.Rows in
def mq{x:Str}{st:Stmt}{N:ZG}{k lev rm:Nat}{p:∀{K mg},Txt K mg->Fg K mg x st N k}{ps ow:ZH}{b:M Fl}(h:∀{P:Program}{w:World}{K:ZC}{mg:ZD}{base:Heap}(T:Txt K mg)(_:sR K mg base){cdv:Value}{A:Around}{outer:List Env}{s:Shared}{H:Hp}{E:XK}{F0:Hp}{g0:ZP}{σ0:L2.St}{wf:∀a i q,g0 a=some (i,q)->i∈ps}(_:(p T).fd.code=cdv)(_:fB lev (A.deeper (envOfC x (bC st) s.heap.objs.size (p T).f cdv)))(_:N.Nodup),
  AF (qB (AG P w K) P w K mg base N x (bC st) (p T).f cdv A outer s H E) ⟨F0,H,g0,ps,σ0,ow,wf⟩ ow ow ow ow rm (dS st) b)(hs:Į N k (bC st)=true:=by decide +kernel)(hN:↥(ow.length=N.length)):Dq p (lev+1) ps ow rm:=⟨b,λT B=>(p T).okN (λa c d=>h T B a c d) hs hN⟩
abbrev Dn(R:∀(_:Program)(_:World)(K:ZC)(mg:ZD)(_:Heap),Txt K mg->M Fl->Prop):={b:M Fl // ∀{P:Program}{w:World}{K:ZC}{mg:ZD}{base:Heap}(T:Txt K mg)(_:sR K mg base),R P w K mg base T b}
local macro_rules| `(no_index $x:ident)=>`(haveI h:($x).1=?p:=(by unfold $x;dsimp![mq,List.length_cons,List.length_nil,List.set_cons_zero,List.set_cons_succ,List.getD,List.getElem?_cons_zero,List.getElem?_cons_succ,Option.getD_some,List.replicate_succ,List.replicate_zero,List.cons_append,List.nil_append,Nat.reduceAdd];exact rfl);?p)
section
variable {P:Program}{w:World}{K:ZC}{mg:ZD}{base:Heap}
def jA:Dq Txt.x0 1 [] [0,0,0] 0:=mq λT B=>λhcd hr nd=>(aA (GA PassesOwn.leaving (bE aF (m5 hr.units) vH rx aJ (bA _)) (aA (aG 2 aF rx nd) (aA (aG 0 aF rx nd) (aC (aG 1 aF rx nd))))) (aC (aN rx)))
def qN:M Fl:=no_index jA
def jB:ZI->Res D:=aP 3 [] 0 qN
def qO:Dq Txt.x1 2 [] [0,0,0] 0:=mq λT B=>λhcd hr nd=>(aA (cH (bE aF (fK hr.units) iZ rx aJ (bA _)) (aC (f9 aF PySem.F.excBase_ValueError rfl T.n_NoNumber T.q_NoNumber T.e_NoNumber rfl rv)) bB) (aA (aG 2 aF (aB (fn:=jB) T.x0 (jA.2 T B) hr (aL (iX aF rN DJ rfl T.x60 CS rv) (aL (iX aF rN DJ rfl T.x60 CS rv) cJ))) nd) (aA (cH (bE aF pF pO rx aJ (bA _)) (aC (aG 2 aF (gQ rx) nd)) bB) (aC (aN (bP (aE (DB aF rx rx) (aE (DB aF rx rx) aS))))))))
def qP:M Fl:=no_index qO
def mC:ZI->Res D:=aP 3 [] 0 qP
def sX:Dq Txt.x2 1 [] [0,0,0,0,0] 0:=mq λT B=>λhcd hr nd=>(aA (aG 1 aF (bT aF aS) nd) (aA (eI 2 3 nd (g5 rfl T.x62 rx) (aA (aG 4 aF (aFZ aF (bN aF (f8 "other" (bU rx) (λC fp s H=>bZ) (λC fp s H=>aJ))) (bN aF (bT aF rv))) nd) (aA (C5 4 aF aJ rx) (bV 4 (aC (bR (cZ 1 aF rx))))))) (bV 1 (aC (aN rx)))))
def mD:M Fl:=no_index sX
def sY:ZI->Res D:=aP 5 [] 0 mD
def uR:Dq Txt.x3 1 [] [0,0,0,0,0,0,0] 0:=mq λT B=>λhcd hr nd=>(aA (aG 4 aF (gQ rx) nd) (aA (aG 5 aF rx nd) (aA (lY 6 (xs:=[ "one" ,"other" ]) aF aF rfl nd (DU rfl T.x72 rx rx) (λC fp s H=>(tW rfl (dY (cW (i:=0) sU rfl (Or.inl rfl)) (dY (cW (i:=1) sU rfl (Or.inl rfl)) n9)))) (sE (is:=[0,1]) aF (by intro i hi;simp![Í,Ý,or_false]at hi;rcases hi with rfl|rfl<;>exact⟨⋯,dE rfl,⋯,rfl⟩) rfl) (λC fp s H=>bZ) (λC fp s H=>(DB aF rx rx))) (aA (C5 6 aF rx rx) (bV 6 (aC (aN rx)))))))
def uS:M Fl:=no_index uR
def uT:ZI->Res D:=aP 7 [] 0 uS
def HR:Dq Txt.x4 1 [] [0,0,0,0] 0:=mq λT B=>λhcd hr nd=>(aA (dX 3 "one" nd (bU rx) (λC fp s H=>bZ) (λC fp s H=>(gQ rx))) (aA (C5 3 aF (gQ rx) rx) (bV 3 (aC (aN rx)))))
def yH:M Fl:=no_index HR
def HS:ZI->Res D:=aP 4 [] 0 yH
def j9:Dq Txt.x5 1 [] [0,0] 0:=mq λT B=>λhcd hr nd=>(aA (lY 1 (xs:=[ "place" ,"line" ]) aF aF rfl nd (g5 rfl T.x62 (dO "Table" T.x76 rx)) (λC fp s H=>(tW rfl (dY (cW (i:=0) kX rfl (Or.inl rfl)) (dY (cW (i:=1) kX rfl (Or.inl rfl)) n9)))) (sE (is:=[0,1]) aF (by intro i hi;simp![Í,Ý,or_false]at hi;rcases hi with rfl|rfl<;>exact⟨⋯,dE rfl,⋯,rfl⟩) rfl) (λC fp s H=>(lX (bE aF pF pO (fR aF rx (gQ aJ)) aJ (bA _)))) (λC fp s H=>rx)) (aC (aN (uE 2 (λF H σ=>(P6 0 "Table" (hr.mono (é _)) rfl rfl T.x67 B T.lamE (hcd.symm.trans T.lamF) T.x75 rx ⟨by ac_nf0,rfl,rfl,rfl,rfl⟩ (λ_ _ _ _=>rfl) ⋯ ⋯ ⋯ ⋯))))))
def kB:M Fl:=no_index j9
def cE:ZI->Res D:=aP 2 [] 0 kB
def sZ:Dq Txt.x6 1 [] [0,0,0,0,0,0] 0:=mq λT B=>λhcd hr nd=>(aA (aG 4 aF (iG aF (fR aF (dO "Table" T.x74 rx) rx) (gQ rx)) nd) (aA (aG 5 aF (iG aF (fR aF (dO "Table" T.x74 rx) rx) (gQ rx)) nd) (aC (aN (aJM (wU aF pF pO rx rx (bA _)) (KD (S6 (wU aF (fK hr.units) iZ rx rx (bA _)) (KD (wU aF pF pO (fR aF (dO "Table" T.x73 rx) rx) (fR aF (dO "Table" T.x73 rx) rx) (bA _))))))))))
def mE:M Fl:=no_index sZ
def s8:ZI->Res D:=aP 6 [] 0 mE
def s9:Dq Txt.x7 2 [] [0,0,0,0] 0:=mq λT B=>λhcd hr nd=>(aA (aG 2 aF wT nd) (aA (f7 3 nd (eV rfl T.x68 (cK aF rfl T.x64 (dO "Table" T.x73 rx))) (aC (cH (lV (C0 (bE aF pF pO rx aJ (bA _)) (DF (lV (MA (bE aF (SK.or RW) Λ rx wT (bA _)) (DG (qD (aB (fn:=s8) T.x6 (sZ.2 T B) hr ra)))))))) (aC (aG 2 aF rx nd)) bB))) (aC (aN rx))))
def iT:M Fl:=no_index s9
def mF:ZI->Res D:=aP 4 [] 0 iT
def qQ:Dq Txt.x8 3 [] [0,0,0,0,0,0] 0:=mq λT B=>λhcd hr nd=>(aA (aG 3 aF (cK aF rfl T.x64 (dO "Table" T.x73 rx)) nd) (aA (aG 4 aF (bF aF rx (cK aF rfl T.x64 rx)) nd) (aA (dX 5 "number" nd (eV rfl T.x68 (bF aF rx (cK aF rfl T.x64 (dO "Table" T.x73 rx)))) (λC fp s H=>bZ) (λC fp s H=>(aB (fn:=mC) T.x1 (qO.2 T B) hr (aL (NP hr.units rx rx aJ) (aL (dO "Table" T.x77 rx) cJ))))) (aC (aN (bP (aE (bN aF (TX 5 aF (fH rx) (fH rx))) (aE (bN aF (TX 5 aF (fH rx) gZ)) aS))))))))
def qR:M Fl:=no_index qQ
def qS:ZI->Res D:=aP 6 [] 0 qR
def nJ:Dq Txt.x9 1 [] [0,0,0,0,0] 30:=mq λT B=>λhcd hr nd=>(aA (aG 2 aF (D5 aF) nd) (aA (eI 3 4 nd (DU rfl T.x72 (dO "Table" T.x73 rx) (bN aF (fZ aF jN lZ rx gZ (fH (gQ aJ))))) (aC (sQ 2 hr.units rx rx))) (aC (aN (v5 2 aF)))))
def nK:M Fl:=no_index nJ
def nL:ZI->Res D:=aP 5 [] 30 nK
def vN:Dq Txt.x10 4 [] [0,0,0,0] 0:=mq λT B=>λhcd hr nd=>(aA (aG 3 aF (aB (fn:=nL) T.x9 (nJ.2 T B) hr (aL rx (aL (fR aF (dO "Table" T.x76 rx) rx) cJ))) nd) (aA (sQ 3 hr.units (dO "Table" T.x77 rx) (fR aF (dO "Table" T.x75 rx) rx)) (bV 3 (aC (aN (bP (aE cO (aE (aB (fn:=qS) T.x8 (qQ.2 T B) hr ra) aS))))))))
def nM:M Fl:=no_index vN
def nN:ZI->Res D:=aP 4 [] 0 nM
def vO:Dq Txt.x11 4 [] [0,0,0,0,0,0,0] 0:=mq λT B=>λhcd hr nd=>(aA (aG 3 aF (D5 aF) nd) (aA (eI 4 5 nd (DU rfl T.x72 (dO "Table" T.x75 rx) (dO "Table" T.x76 rx)) (aC (sQ 3 hr.units (fR aF rx (gQ aJ)) rx))) (bV 3 (aA (dX 6 "number" nd (eV rfl T.x68 (cK aF rfl T.x64 rx)) (λC fp s H=>bZ) (λC fp s H=>(aB (fn:=mC) T.x1 (qO.2 T B) hr (aL (NP hr.units rx rx aJ) (aL (dO "Table" T.x77 rx) cJ))))) (bV 6 (aC (aN (bP (aE cO (aE rx (aE (aB (fn:=qS) T.x8 (qQ.2 T B) hr (aL rx (aL rx (aL (bN aF (aB (fn:=nL) T.x9 (nJ.2 T B) hr (aL rx (aL (dO "Table" T.x74 rx) cJ)))) cJ)))) aS)))))))))))
def nO:M Fl:=no_index vO
def nQ:ZI->Res D:=aP 7 [] 0 nO
def kY:Dn λP w K mg base T b=>T.x12.Ok P w mg base 2 [0] [20,0,0] 0 (aP 3 [0] 0 b):=⟨_,λT B=>T.x12.okN λhcd hr nd=>(aA (nH 0 "Table" aF T.x77 aJ) (aA (nH 0 "Table" aF T.x73 (U5 aF rfl rfl T.x65 rfl T.x68 (cK aF rfl T.x64 rx))) (aA (nH 0 "Table" aF T.x75 (U6 aF rfl rfl T.x65 rfl T.x68 (cK aF rfl T.x64 rx) (bF aF (bF aF (cK aF rfl T.x64 rx) (cK aF rfl T.x64 rx)) (cK aF rfl T.x64 rx)))) (aA (nH 0 "Table" aF T.x76 (bF aF (bN aF (sC (xs:=[ "row" ,"top" ]) aF aF rfl (bU rx) (λC fp s H=>(tW rfl (dY (cW (i:=0) iO rfl (Or.inl rfl)) (dY (cW (i:=1) iO rfl (Or.inl rfl)) n9)))) (sE (is:=[0,1]) aF (by intro i hi;simp![Í,Ý,or_false]at hi;rcases hi with rfl|rfl<;>exact⟨⋯,dE rfl,⋯,rfl⟩) rfl) (λC fp s H=>bZ) (λC fp s H=>(bF aF (bN aF (t7 aF lK DK rfl T.x65 oC rv)) (bN aF (bT aF rv)))))) (aB (fn:=sY) T.x2 (sX.2 T B) hr ra))) (aC (nH 0 "Table" aF T.x74 (bF aF (bN aF (f8 "room" (bU rx) (λC fp s H=>bZ) (λC fp s H=>aJ))) (bN aF (bT aF rv)))))))))⟩
def gU:M Fl:=no_index kY
def kZ:ZI->Res D:=aP 3 [0] 0 gU
theorem tE(T:Txt K mg)(B:sR K mg base):T.x12.Ok P w mg base 2 [0] [20,0,0] 0 kZ:=kY.2 T B
def tF:Dn λP w K mg base T b=>T.x13.Ok P w mg base 2 [0] [20,0,0,0,0,0] 0 (aP 6 [0] 0 b):=⟨_,λT B=>T.x13.okN λhcd hr nd=>(aA (aG 3 aF (fR aF (oM 0 "Table" T.x76) rx) nd) (aA (dX 4 "line" nd (bU (oM 0 "Table" T.x76)) (λC fp s H=>bZ) (λC fp s H=>(aB (fn:=uT) T.x3 (uR.2 T B) hr (aL rx (aL rx (aL rx (aL (oM 1 "Table" T.x77) cJ))))))) (aA (C5 4 aF (aB (fn:=HS) T.x4 (HR.2 T B) hr (aL rx (aL rx (aL (oM 0 "Table" T.x77) cJ)))) rx) (aA (nH 0 "Table" aF T.x74 (aB (fn:=uT) T.x3 (uR.2 T B) hr (aL (oM 0 "Table" T.x74) (aL rx (aL rx (aL (oM 0 "Table" T.x77) cJ)))))) (bV 4 (aA (nH 0 "Table" aF T.x76 rx) (aA (nH 0 "Table" aF T.x77 (gQ rx)) (aA (aG 5 aF (uE 6 (λF H σ=>(fR aF (dO "Table" T.x75 rx) rx))) nd) (aA (BN 0 6 "Table" aF T.x75 (uE 6 (λF H σ=>(fR aF (dO "Table" T.x73 rx) rx))) (λF H σ=>rx)) (aC (BN 0 6 "Table" aF T.x73 rx (λF H σ=>rx))))))))))))⟩
def mG:M Fl:=no_index tF
def mH:ZI->Res D:=aP 6 [0] 0 mG
theorem AW(T:Txt K mg)(B:sR K mg base):T.x13.Ok P w mg base 2 [0] [20,0,0,0,0,0] 0 mH:=tF.2 T B
def NV:Dq Txt.x14 5 [] [0,0,0,0,0] 0:=mq λT B=>λhcd hr nd=>(aA (aG 2 aF (aA9 5 aF ⟨T.n_Table,T.cl_Table⟩ T.mk_Table (tE T B) (hr.mono ⋯) (by rfl) T.q_Table T.x12.b ra 20) nd) (aA (aG 3 aF (uE 5 (λF H σ=>(aB (fn:=cE) T.x5 (j9.2 T B) hr ra))) nd) (aA (GA PassesOwn.leaving (bE aF (ZV.or Y1) S8 rx wT (bA _)) (aA (aG 4 aF (uE 5 (λF H σ=>(aB (fn:=mF) T.x7 (s9.2 T B) hr (aL rx (aL (fR aF (dO "Table" T.x76 rx) rx) cJ))))) nd) (aA (cH (bE aF (SK.or RW) Λ rx wT (bA _)) (bV 2 (aC (aN (aB (fn:=nN) T.x10 (vN.2 T B) hr ra)))) bB) (aA (bR (aA8 2 aF ⟨T.n_Table,T.cl_Table⟩ T.me_Table_swap (AW T B) (hr.mono ⋯) T.x13.b ra)) (aC (aG 3 aF (uE 5 (λF H σ=>(aB (fn:=cE) T.x5 (j9.2 T B) hr ra))) nd)))))) (bV 2 (aC (aN (aB (fn:=nQ) T.x11 (vO.2 T B) hr ra)))))))
def EN:M Fl:=no_index NV
def EO:ZI->Res D:=aP 5 [] 0 EN
def EQ:Dq Txt.x15 1 [] [0,0,0] 0:=mq λT B=>λhcd hr nd=>(aC (aN rx))
def ER:M Fl:=no_index EQ
def v9:ZI->Res D:=aP 3 [] 0 ER
def BU:Dq Txt.x16 2 [] [0,0,0,0,0,0,0,0,0] 0:=mq λT B=>λhcd hr nd=>(aA (aG 2 aF rx nd) (aA (aG 3 aF (aB (fn:=v9) T.x15 (EQ.2 T B) hr (aL rx (aL rx (aL (fZ aF SE TH rx (fH aJ) gZ) cJ)))) nd) (aA (eI 4 5 nd (DU rfl T.x72 rx rx) (aC (eI 6 7 nd (g5 rfl T.x62 rx) (aA (aG 8 aF rx nd) (aC (aG 3 aF (aB (fn:=v9) T.x15 (EQ.2 T B) hr ra) nd)))))) (aC (aN rx)))))
def uU:M Fl:=no_index BU
def BV:ZI->Res D:=aP 9 [] 0 uU
def g7:Dq Txt.x17 1 [] [0,0,0,0] 0:=mq λT B=>λhcd hr nd=>(aC (aN (bP (aE (bN aF (f8 "tank" (bU rx) (λC fp s H=>bZ) (λC fp s H=>rx))) rv))))
def kC:M Fl:=no_index g7
def g8:ZI->Res D:=aP 4 [] 0 kC
def mJ:Dq Txt.x18 1 [] [0,0,0,0] 0:=mq λT B=>λhcd hr nd=>(aC (aN (bP (aE (bN aF (f8 "tank" (bU rx) (λC fp s H=>bZ) (λC fp s H=>rx))) rv))))
def mK:M Fl:=no_index mJ
def mL:ZI->Res D:=aP 4 [] 0 mK
def BW:Dq Txt.x19 3 [] [0,0,0,0,0] 0:=mq λT B=>λhcd hr nd=>(aA (aG 2 aF rx nd) (aA (aG 3 aF rx nd) (aA (aG 4 aF (aB (fn:=BV) T.x16 (BU.2 T B) hr ra) nd) (aC (aN (bN aF (bT aF (aE (aB (fn:=g8) T.x17 (g7.2 T B) hr (aL rx (aL (oJ rfl T.g_ALONG) ra))) (aE (aB (fn:=mL) T.x18 (mJ.2 T B) hr (aL rx (aL (oJ rfl T.g_ALONG) ra))) (aE (aB (fn:=g8) T.x17 (g7.2 T B) hr (aL rx (aL (oJ rfl T.g_ACROSS) ra))) (aE (aB (fn:=mL) T.x18 (mJ.2 T B) hr (aL rx (aL (oJ rfl T.g_ACROSS) ra))) (aE (aB (fn:=g8) T.x17 (g7.2 T B) hr (aL rx (aL (oJ rfl T.g_ABOVE) ra))) (aE (bP (aE (bN aF (f8 "tank" (bU rx) (λC fp s H=>bZ) (λC fp s H=>aJ))) rv)) aS)))))))))))))
def uV:M Fl:=no_index BW
def uW:ZI->Res D:=aP 5 [] 0 uV
def yI:Dq Txt.x20 1 [] [0] 0:=mq λT B=>λhcd hr nd=>(aC (aN (bN aF (f8 "tank" (bU rx) (λC fp s H=>bZ) (λC fp s H=>rx)))))
def qT:M Fl:=no_index yI
def qU:ZI->Res D:=aP 1 [] 0 qT
def BX:Dq Txt.x21 6 [] [0,0] 0:=mq λT B=>λhcd hr nd=>(aC (aN (aB (fn:=EO) T.x14 (NV.2 T B) hr (aL (aB (fn:=uW) T.x19 (BW.2 T B) hr ra) (aL (aB (fn:=qU) T.x20 (yI.2 T B) hr ra) cJ)))))
def uX:M Fl:=no_index BX
def BY:ZI->Res D:=aP 2 [] 0 uX
def k4:Dq Txt.x22 1 [] [0] 0:=mq λT B=>λhcd hr nd=>(aA (cH (qE (qD (TF .str rfl rfl T.x63 rfl T.x70 aFQ rx))) (aC (aN FW)) bB) (aC (aN (S6 (GH aF RV S7 RV S7 aJ (cK aF rfl T.x64 rx) (oJ rfl T.g_LONGEST_NAME)) (KD (iX aF (GJ rfl) aF9 rfl T.x61 aFP (aE (bN aF (f8 "sign" (aF6 rx) (λC fp s H=>bZ) (λC fp s H=>(GH aF BF TK BF TK cO rx cO)))) aS)))))))
def oO:M Fl:=no_index k4
def fS:ZI->Res D:=aP 1 [] 0 oO
def yJ:Dq Txt.x23 1 [] [0,0,0,0,0] 0:=mq λT B=>λhcd hr nd=>(aA (aG 3 aF rx nd) (aA (aG 4 aF rx nd) (aC (aN (bF aF (iX aF rN DJ rfl T.x60 CS rv) (iX aF rN DJ rfl T.x60 CS rv))))))
def qV:M Fl:=no_index yJ
def yK:ZI->Res D:=aP 5 [] 0 qV
def vP:Dq Txt.x24 2 [1] [0,30] 0:=mq λT B=>λhcd hr nd=>(aA (cH (qE (qD (aB (fn:=fS) T.x22 (k4.2 T B) hr ra))) (aC (f9 aF PySem.F.excBase_ValueError rfl T.n_NoName T.q_NoName T.e_NoName rfl rv)) bB) (aA (cH (aGG 2 (λF H σ=>(aHT hr.units rx rx))) (aC (f9 aF PySem.F.excBase_ValueError rfl T.n_NoName T.q_NoName T.e_NoName rfl rv)) bB) (aA (cH (bE aF pF pO rx aJ (bA _)) (aC (f9 aF PySem.F.excBase_ValueError rfl T.n_NoWeight T.q_NoWeight T.e_NoWeight rfl rv)) bB) (aA (cH (qE (qD (aB (fn:=fS) T.x22 (k4.2 T B) hr ra))) (aC (f9 aF PySem.F.excBase_ValueError rfl T.n_NoName T.q_NoName T.e_NoName rfl rv)) bB) (aA (cH (qE (qD (aB (fn:=fS) T.x22 (k4.2 T B) hr ra))) (aC (f9 aF PySem.F.excBase_ValueError rfl T.n_NoName T.q_NoName T.e_NoName rfl rv)) bB) (aC (cH (bE aF pF pO rx aJ (bA _)) (aC (f9 aF PySem.F.excBase_ValueError rfl T.n_NoWeight T.q_NoWeight T.e_NoWeight rfl rv)) bB)))))))
def jQ:M Fl:=no_index vP
def jR:ZI->Res D:=aP 2 [1] 0 jQ
def jS:Dq Txt.x25 1 [] [0,0,0,0,0,0,0] 0:=mq λT B=>λhcd hr nd=>(aA (aG 3 aF (bT aF aS) nd) (aA (aG 4 aF (iX aF (DP rfl) aGE rfl T.x71 aGM (aE (bN aF (f8 "box" (bU rx) (λC fp s H=>bZ) (λC fp s H=>rx))) aS)) nd) (aA (cH (bE aF rM sA (cK aF rfl T.x64 rx) rx (bA _)) (aC (bR (cZ 3 aF rx))) bB) (aA (cH (bE aF rM sA rx rx (bA _)) (aC (bR (cZ 3 aF rx))) bB) (aA (eI 5 6 nd (g5 rfl T.x62 rx) (aA (aG 4 aF rx nd) (aC (cH (bE aF rM sA rx rx (bA _)) (aC (bR (cZ 3 aF rx))) bB)))) (bV 3 (aC (aN rx))))))))
def gF:M Fl:=no_index jS
def jT:ZI->Res D:=aP 7 [] 0 gF
def HU:Dq Txt.x26 1 [] [0,0,0] 0:=mq λT B=>λhcd hr nd=>(aC (aN (aAY rfl rfl T.x66 (bN aF (f8 "row" (bU rx) (λC fp s H=>(lX (bE aF (aG8 hr.units) aG9 (fZ aF SE TH rx gZ (fH aJ)) rx (by with_unfolding_all rfl)))) (λC fp s H=>rx))) aJ)))
def yL:M Fl:=no_index HU
def HV:ZI->Res D:=aP 3 [] 0 yL
def nR:Dq Txt.x27 1 [] [0,0,0,0,0,0] 0:=mq λT B=>λhcd hr nd=>(aA (aG 1 aF (bT aF aS) nd) (aA (eI 2 3 nd (g5 rfl T.x62 rx) (aC (eI 4 5 nd (g5 rfl T.x62 rx) (aC (bR (cZ 1 aF rx)))))) (bV 1 (aC (aN rx)))))
def jC:M Fl:=no_index nR
def nS:ZI->Res D:=aP 6 [] 0 jC
def nT:Dq Txt.x28 2 [] [0,0,0,0,0,0,0] 0:=mq λT B=>λhcd hr nd=>(aA (aG 2 aF (bT aF aS) nd) (aA (aG 3 aF (aB (fn:=nS) T.x27 (nR.2 T B) hr ra) nd) (aA (eI 4 5 nd (g5 rfl T.x62 rx) (aC (f7 6 nd (bU (bN aF (fZ aF jN lZ rx (fH rx) gZ))) (aC (cH (bE aF rM sA (aB (fn:=HV) T.x26 (HU.2 T B) hr ra) (aB (fn:=yK) T.x23 (yJ.2 T B) hr ra) (bA _)) (aC (bR (cZ 2 aF rx))) bB))))) (bV 2 (aC (aN rx))))))
def jD:M Fl:=no_index nT
def nU:ZI->Res D:=aP 7 [] 0 jD
def HW:Dq Txt.x29 3 [] [0,0,0,0,0] 0:=mq λT B=>λhcd hr nd=>(aA (aG 2 aF (bT aF aS) nd) (aA (eI 3 4 nd (g5 rfl T.x62 rx) (aC (bR (nD 2 aF PySem.F.slot_list_extend PySem.F.type_list_extend l5 fO (aE (aB (fn:=jT) T.x25 (jS.2 T B) hr ra) aS))))) (aA (bR (nD 2 aF PySem.F.slot_list_extend PySem.F.type_list_extend l5 fO (aE (aB (fn:=nU) T.x28 (nT.2 T B) hr ra) aS))) (bV 2 (aC (aN rx))))))
def yM:M Fl:=no_index HW
def HX:ZI->Res D:=aP 5 [] 0 yM
def nV:Dq Txt.x30 1 [] [0,0,0,0] 0:=mq λT B=>λhcd hr nd=>(aA (eI 2 3 nd (g5 rfl T.x62 rx) (aC (cH (bE aF (fK hr.units) iZ rx rx (bA _)) (aC (aN (bN aF (fZ aF jN lZ rx (fH rx) gZ)))) bB))) (aC (aN (bN aF (bT aF aS)))))
def jE:M Fl:=no_index nV
def nW:ZI->Res D:=aP 4 [] 0 jE
def k6:Dq Txt.x31 2 [] [0,0,0,0,0] 0:=mq λT B=>λhcd hr nd=>(aA (aG 3 aF (aB (fn:=nW) T.x30 (nV.2 T B) hr ra) nd) (aA (dX 4 "box" nd (aHD rfl T.x69 rx) (λC fp s H=>bZ) (λC fp s H=>rx)) (aA (bR (nD 4 aF PySem.F.slot_list_extend PySem.F.type_list_extend l5 fO (aE (bN aF (f8 "box" (bU rx) (λC fp s H=>(lX (bE aF (m5 hr.units) vH rx rx (bA _)))) (λC fp s H=>rx))) aS))) (bV 4 (aC (aN rx))))))
def gW:M Fl:=no_index k6
def k7:ZI->Res D:=aP 5 [] 0 gW
def qW:Dq Txt.x32 3 [] [0,0,0,0,0] 0:=mq λT B=>λhcd hr nd=>(aA (aG 2 aF (bT aF aS) nd) (aA (eI 3 4 nd (g5 rfl T.x62 rx) (aC (bR (nD 2 aF PySem.F.slot_list_extend PySem.F.type_list_extend l5 fO (aE (aB (fn:=k7) T.x31 (k6.2 T B) hr ra) aS))))) (aA (bR (nD 2 aF PySem.F.slot_list_extend PySem.F.type_list_extend l5 fO (aE (bN aF (sC (xs:=[ "box" ,"s" ]) aF aF rfl (bU rx) (λC fp s H=>(tW rfl (dY (cW (i:=0) pW rfl (Or.inl rfl)) (dY (cW (i:=1) pW rfl (Or.inl rfl)) n9)))) (sE (is:=[0,1]) aF (by intro i hi;simp![Í,Ý,or_false]at hi;rcases hi with rfl|rfl<;>exact⟨⋯,dE rfl,⋯,rfl⟩) rfl) (λC fp s H=>bZ) (λC fp s H=>rx))) aS))) (bV 2 (aC (aN rx))))))
def qX:M Fl:=no_index qW
def qY:ZI->Res D:=aP 5 [] 0 qX
def yN:Dq Txt.x33 4 [] [0,0] 0:=mq λT B=>λhcd hr nd=>(aC (aN (bN aF (sC (xs:=[ "step" ,"box" ]) aF aF rfl (bU (aB (fn:=qY) T.x32 (qW.2 T B) hr ra)) (λC fp s H=>(tW rfl (dY (cW (i:=0) pX rfl (Or.inl rfl)) (dY (cW (i:=1) pX rfl (Or.inl rfl)) n9)))) (sE (is:=[0,1]) aF (by intro i hi;simp![Í,Ý,or_false]at hi;rcases hi with rfl|rfl<;>exact⟨⋯,dE rfl,⋯,rfl⟩) rfl) (λC fp s H=>bZ) (λC fp s H=>rx)))))
def qZ:M Fl:=no_index yN
def yO:ZI->Res D:=aP 2 [] 0 qZ
def yP:Dq Txt.x34 5 [] [0,0] 0:=mq λT B=>λhcd hr nd=>(aC (aN (bN aF (f8 "step" (bU (aB (fn:=yO) T.x33 (yN.2 T B) hr ra)) (λC fp s H=>(lX (bE aF (fK hr.units) iZ rx cO (bA _)))) (λC fp s H=>rx)))))
def rA:M Fl:=no_index yP
def yQ:ZI->Res D:=aP 2 [] 0 rA
def yR:Dq Txt.x35 1 [] [0] 2:=mq λT B=>λhcd hr nd=>(aC (aN (PX (xs:=[ "boxes" ]) 2 aF aF rfl (bU rx) (λC fp s H=>(cW (i:=0) HM rfl (Or.inl rfl))) (kQ aF ⋯ (dE rfl) ⋯ rfl) (λC fp s H F1 H1 σ1=>(t7 aF lK DK rfl T.x65 oC rv)))))
def yS:M Fl:=no_index yR
def yT:ZI->Res D:=aP 1 [] 2 yS
def BZ:Dq Txt.x36 2 [] [0,0,0,0] 2:=mq λT B=>λhcd hr nd=>(aA (aG 3 aF (aB (fn:=yT) T.x35 (yR.2 T B) hr ra) nd) (aA (cH (bE aF (fK hr.units) iZ rx cO (bA _)) (aC (bR (UK 3 4 PySem.F.slot_list_pop PySem.F.type_list_pop aFO aA1 (λF H σ=>rx)))) (aC (bR (M7 3 4 PySem.F.slot_list_append PySem.F.type_list_append t5 qG (λF H σ=>rx) (λF H σ=>rv))))) (aC (aN (v5 3 aF)))))
def k8:M Fl:=no_index BZ
def oP:ZI->Res D:=aP 4 [] 2 k8
def yU:Dq Txt.x37 1 [] [0,0,0,0] 30:=mq λT B=>λhcd hr nd=>(aA (aG 1 aF (D5 aF) nd) (aA (f7 2 nd (bU rx) (aC (f7 3 nd (bU rx) (aC (sQ 1 hr.units FW rx))))) (aC (aN (v5 1 aF)))))
def rB:M Fl:=no_index yU
def yV:ZI->Res D:=aP 4 [] 30 rB
def pY:Dq Txt.x38 3 [] [0,0,0,0,0,0] 0:=⟨_,λT B=>T.x38.okM [0,0,0,30,0,0] λhcd hr nd=>(aA (aG 3 aF (aB (fn:=yV) T.x37 (yU.2 T B) hr ra) nd) (aC (eI 4 5 nd (bU rx) (aA (cH (qE (S9 aF RV S7 pF pO aJ rx (cK aF rfl T.x64 rx))) (aC (f9 aF PySem.F.excBase_ValueError rfl T.n_NoStack T.q_NoStack T.e_NoStack rfl rv)) bB) (aA (bR (aB (fn:=jR) T.x24 (vP.2 T B) hr (aL rx (aFT 3 cJ)))) (aC (sQ 3 hr.units FW rx)))))))⟩
def pZ:M Fl:=no_index pY
def fF:ZI->Res D:=aP 6 [] 0 pZ
def yW:Dq Txt.x39 7 [] [0,0,0] 0:=mq λT B=>λhcd hr nd=>(aA (aG 2 aF (aB (fn:=HX) T.x29 (HW.2 T B) hr ra) nd) (aA (cH (aHU rx) (aC (aN rx)) bB) (aC (aN (aB (fn:=BY) T.x21 (BX.2 T B) hr ra)))))
def rC:M Fl:=no_index yW
def yX:ZI->Res D:=aP 3 [] 0 rC
def HY:Dq Txt.x40 8 [] [0,0,0,0,0,0,0,0] 0:=mq λT B=>λhcd hr nd=>(aA (cH (qE (qD (aB (fn:=fS) T.x22 (k4.2 T B) hr ra))) (aC (f9 aF PySem.F.excBase_ValueError rfl T.n_NoName T.q_NoName T.e_NoName rfl rv)) bB) (aA (bR (aB (fn:=fF) T.x38 (pY.2 T B) hr ra)) (aA (aG 3 aF (bN aF (aB (fn:=yT) T.x35 (yR.2 T B) hr ra)) nd) (aA (aG 4 aF (bT aF aS) nd) (aA (eI 5 6 nd (bU (aB (fn:=qY) T.x32 (qW.2 T B) hr ra)) (aA (aG 3 aF (bN aF (aB (fn:=oP) T.x36 (BZ.2 T B) hr ra)) nd) (aA (aG 7 aF (aB (fn:=yX) T.x39 (yW.2 T B) hr ra) nd) (aA (cH (bE aF (m5 hr.units) vH rx cO (bA _)) (aC (aN (bP (aE cO (aE (C6 4 rfl T.x64) rv))))) bB) (aC (bR (cZ 4 aF rx))))))) (bV 4 (aC (aN (bP (aE cO (aE rx (aE rx (aE (aB (fn:=yQ) T.x34 (yP.2 T B) hr ra) aS)))))))))))))
def eS:M Fl:=no_index HY
def hW:ZI->Res D:=aP 8 [] 0 eS
def yY:Dq Txt.x41 9 [] [0,0,0,0,0,0] 0:=mq λT B=>λhcd hr nd=>(aA (aG 3 aF (bT aF aS) nd) (aA (f7 4 nd (bU rx) (aA (aG 5 aF (aB (fn:=hW) T.x40 (HY.2 T B) hr ra) nd) (aA (bR (cZ 3 aF rx)) (aA (cH (bE aF (fK hr.units) iZ rx cO (bA _)) (bV 3 (aC (aN rx))) bB) (aC (aG 1 aF rx nd)))))) (bV 3 (aC (aN rx)))))
def tG:M Fl:=no_index yY
def eU:ZI->Res D:=aP 6 [] 0 tG
def jU:Dq Txt.x42 1 [] [0,0] 0:=mq λT B=>λhcd hr nd=>(aA (cH (bE aF pF pO rx (cK aF rfl T.x64 rx) (bA _)) (aC (aN rx)) bB) (aC (aN aJ)))
def nX:M Fl:=no_index jU
def jV:ZI->Res D:=aP 2 [] 0 nX
def cR:Dq Txt.x43 2 [] [0,0,0] 0:=mq λT B=>λhcd hr nd=>(aC (aN (iY aF (iY aF (iG aF (bF aF (iY aF (aB (fn:=jV) T.x42 (jU.2 T B) hr ra) aJ) rx) aJ) aJ) rx)))
def yZ:M Fl:=no_index cR
def cS:ZI->Res D:=aP 3 [] 0 yZ
def bX:Dq Txt.x44 2 [] [0,0,0] 0:=mq λT B=>λhcd hr nd=>(aC (aN (iY aF (iY aF (iG aF (bF aF (bF aF (iY aF (aB (fn:=jV) T.x42 (jU.2 T B) hr ra) aJ) rx) aJ) aJ) aJ) rx)))
def uY:M Fl:=no_index bX
def bY:ZI->Res D:=aP 3 [] 0 uY
def cA:Dq Txt.x45 2 [] [0,0,0] 0:=mq λT B=>λhcd hr nd=>(aC (aN (iY aF (iY aF (iG aF (bF aF (bF aF (iY aF (aB (fn:=jV) T.x42 (jU.2 T B) hr ra) aJ) rx) aJ) aJ) aJ) rx)))
def uZ:M Fl:=no_index cA
def cB:ZI->Res D:=aP 3 [] 0 uZ
def gG:Dq Txt.x46 3 [] [0,0,0,0,0,0,0,0] 0:=mq λT B=>λhcd hr nd=>(aA (aG 3 aF cO nd) (aA (aG 4 aF (bF aF aJ (aB (fn:=cB) T.x45 (cA.2 T B) hr ra)) nd) (aA (aG 5 aF (aB (fn:=bY) T.x44 (bX.2 T B) hr ra) nd) (aA (aG 6 aF (fR aF rx (aB (fn:=cS) T.x43 (cR.2 T B) hr ra)) nd) (aA (aG 7 aF (fR aF rx (iY aF (bF aF rx (aB (fn:=bY) T.x44 (bX.2 T B) hr ra)) aJ)) nd) (aC (aN (bF aF (bF aF (NB aF rx rx) rx) (NB aF rx rx)))))))))
def y8:M Fl:=no_index gG
def gH:ZI->Res D:=aP 8 [] 0 y8
def k9:Dq Txt.x47 3 [] [0] 0:=mq λT B=>λhcd hr nd=>(aC (aN (fR aF (bN aF (bT aF (aE aJ (aE aJ (aE aJ (aE (aF1 aF aJ aJ) aS)))))) (aB (fn:=cS) T.x43 (cR.2 T B) hr ra))))
def u0:M Fl:=no_index k9
def lB:ZI->Res D:=aP 1 [] 0 u0
def B0:Dq Txt.x48 4 [] [0,0,0,0,0,0,0] 0:=mq λT B=>λhcd hr nd=>(aA (aG 2 aF (nE aF (aB (fn:=cS) T.x43 (cR.2 T B) hr ra) aJ) nd) (aA (aG 3 aF (nE aF (aB (fn:=bY) T.x44 (bX.2 T B) hr ra) aJ) nd) (aA (aG 4 aF (bF aF aJ (aB (fn:=cB) T.x45 (cA.2 T B) hr ra)) nd) (aA (aG 5 aF (iG aF (aB (fn:=lB) T.x47 (k9.2 T B) hr ra) (bF aF aJ (aB (fn:=bY) T.x44 (bX.2 T B) hr ra))) nd) (aA (aG 6 aF (aB (fn:=gH) T.x46 (gG.2 T B) hr ra) nd) (aC (aN (bP (aE rx (aE rx (aE rx (aE (aB (fn:=cB) T.x45 (cA.2 T B) hr ra) (aE (bF aF aJ (aB (fn:=cS) T.x43 (cR.2 T B) hr ra)) rv)))))))))))))
def u1:M Fl:=no_index B0
def B1:ZI->Res D:=aP 7 [] 0 u1
def HZ:Dq Txt.x49 4 [] [0,0,0,0,0] 0:=mq λT B=>λhcd hr nd=>(aA (aG 2 aF (nE aF (aB (fn:=cS) T.x43 (cR.2 T B) hr ra) aJ) nd) (aA (aG 3 aF (nE aF (aB (fn:=bY) T.x44 (bX.2 T B) hr ra) aJ) nd) (aA (aG 4 aF (iG aF (aB (fn:=lB) T.x47 (k9.2 T B) hr ra) (bF aF aJ (aB (fn:=cS) T.x43 (cR.2 T B) hr ra))) nd) (aC (aN (bP (aE (aB (fn:=gH) T.x46 (gG.2 T B) hr ra) (aE rx (aE rx (aE (nE aF (aB (fn:=cB) T.x45 (cA.2 T B) hr ra) aJ) rv))))))))))
def y9:M Fl:=no_index HZ
def H8:ZI->Res D:=aP 5 [] 0 y9
def H9:Dq Txt.x50 5 [] [0,0,0,0,0,0,0,0,0,0,0,0,0] 0:=mq λT B=>λhcd hr nd=>(aA (aG 1 aF (aB (fn:=lB) T.x47 (k9.2 T B) hr ra) nd) (aA (aG 2 aF (bP (aE (iG aF rx (bF aF aJ (aB (fn:=cS) T.x43 (cR.2 T B) hr ra))) (aE (nE aF (aB (fn:=bY) T.x44 (bX.2 T B) hr ra) aJ) (aE (nE aF (aB (fn:=cB) T.x45 (cA.2 T B) hr ra) aJ) rv)))) nd) (aA (aG 3 aF (bF aF aJ (aB (fn:=cB) T.x45 (cA.2 T B) hr ra)) nd) (aA (aG 4 aF (bF aF aJ (aB (fn:=cB) T.x45 (cA.2 T B) hr ra)) nd) (aA (aG 5 aF (iG aF rx (bF aF aJ (aB (fn:=bY) T.x44 (bX.2 T B) hr ra))) nd) (aA (aG 6 aF (bP (aE rx (aE rx (aE rx (aE (bF aF rx (aB (fn:=cS) T.x43 (cR.2 T B) hr ra)) (aE (bF aF aJ (aB (fn:=cB) T.x45 (cA.2 T B) hr ra)) rv)))))) nd) (aA (dX 7 "_law_s" nd (eV rfl T.x68 (bF aF aJ (aB (fn:=cS) T.x43 (cR.2 T B) hr ra))) (λC fp s H=>bZ) (λC fp s H=>(aB (fn:=B1) T.x48 (B0.2 T B) hr ra))) (aA (dX 8 "_law_k" nd (eV rfl T.x68 (aB (fn:=bY) T.x44 (bX.2 T B) hr ra)) (λC fp s H=>bZ) (λC fp s H=>(aB (fn:=H8) T.x49 (HZ.2 T B) hr ra))) (aA (aG 9 aF (bT aF aS) nd) (aA (f7 10 nd (eV rfl T.x68 (fR aF (bN aF (bT aF rv)) (aB (fn:=cB) T.x45 (cA.2 T B) hr ra))) (aA (aG 11 aF (aB (fn:=gH) T.x46 (gG.2 T B) hr (aL rx (aL aJ (aL (aB (fn:=cS) T.x43 (cR.2 T B) hr ra) cJ)))) nd) (aA (aG 12 aF (aB (fn:=gH) T.x46 (gG.2 T B) hr (aL rx (aL aJ (aL (aB (fn:=bY) T.x44 (bX.2 T B) hr ra) cJ)))) nd) (aC (bR (cZ 9 aF (bP (aE rx (aE rx (aE (bF aF aJ (aB (fn:=cB) T.x45 (cA.2 T B) hr ra)) aS)))))))))) (bV 7 (bV 8 (bV 9 (aC (aN rx)))))))))))))))
def zC:M Fl:=no_index H9
def IC:ZI->Res D:=aP 13 [] 0 zC
def wA:Dq Txt.x51 4 [] [0,0,0,0,0,0] 0:=mq λT B=>λhcd hr nd=>(aA (aG 2 aF (aB (fn:=lB) T.x47 (k9.2 T B) hr ra) nd) (aA (aG 3 aF (aB (fn:=gH) T.x46 (gG.2 T B) hr (aL rx (aL aJ (aL (aB (fn:=bY) T.x44 (bX.2 T B) hr ra) cJ)))) nd) (aA (aG 4 aF (aB (fn:=gH) T.x46 (gG.2 T B) hr (aL rx (aL aJ (aL (fR aF (bN aF (bT aF rv)) (aB (fn:=cB) T.x45 (cA.2 T B) hr ra)) cJ)))) nd) (aA (aG 5 aF (iG aF rx (aB (fn:=bY) T.x44 (bX.2 T B) hr ra)) nd) (aA (cH (bE aF rM sA rx rx (bA _)) (aC (aG 5 aF rx nd)) bB) (aC (aN (bP (aE (aB (fn:=gH) T.x46 (gG.2 T B) hr ra) (aE (iG aF rx (bF aF aJ (aB (fn:=cS) T.x43 (cR.2 T B) hr ra))) rv))))))))))
def ES:M Fl:=no_index wA
def wB:ZI->Res D:=aP 6 [] 0 ES
def B2:Dq Txt.x52 5 [] [0,0,0,0,0] 0:=mq λT B=>λhcd hr nd=>(aA (AL 3 (xs:=[ "_law_stack_here" ]) 6 aF aF rfl nd (bU rx) (λC fp s H=>(cW (i:=0) EJ rfl (Or.inl rfl))) (kQ aF ⋯ (dE rfl) ⋯ rfl) (λC fp s H F1 H1 σ1=>(bT aF aS))) (aA (f7 4 nd (eV rfl T.x68 rx) (aC (bR (M7 3 5 PySem.F.slot_list_append PySem.F.type_list_append t5 qG (λF H σ=>(aB (fn:=cB) T.x45 (cA.2 T B) hr (aL rx (aL rx (aL (cK aF rfl T.x64 rx) cJ))))) (λF H σ=>(aE (aB (fn:=wB) T.x51 (wA.2 T B) hr ra) aS)))))) (bV 3 (aC (aN rx)))))
def u2:M Fl:=no_index B2
def u3:ZI->Res D:=aP 5 [] 0 u2
def zD:Dq Txt.x53 5 [] [0,0,0,0,0,0] 0:=mq λT B=>λhcd hr nd=>(aA (aG 4 aF (bT aF aS) nd) (aA (f7 5 nd (PH rfl T.x68 rx (bF aF rx (aB (fn:=cS) T.x43 (cR.2 T B) hr ra))) (aC (bR (cZ 4 aF (bP (aE (aB (fn:=wB) T.x51 (wA.2 T B) hr ra) (aE (aB (fn:=bY) T.x44 (bX.2 T B) hr (aL rx (aL rx (aL (cK aF rfl T.x64 rx) cJ)))) aS))))))) (bV 4 (aC (aN (bP (aE (aB (fn:=gH) T.x46 (gG.2 T B) hr (aL rx (aL aJ (aL (aB (fn:=cB) T.x45 (cA.2 T B) hr ra) cJ)))) rv)))))))
def zE:M Fl:=no_index zD
def tH:ZI->Res D:=aP 6 [] 0 zE
def ID:Dq Txt.x54 1 [] [0,0,0,0,0] 0:=mq λT B=>λhcd hr nd=>(aA (aG 2 aF (bT aF aS) nd) (aA (f7 3 nd (eV rfl T.x68 (cK aF rfl T.x64 rx)) (aA (dX 4 "_law_load" nd (bU rx) (λC fp s H=>(lX (bE aF (fK hr.units) iZ rx rx (bA _)))) (λC fp s H=>rx)) (bV 4 (aC (bR (cZ 2 aF (bF aF (bN aF (f8 "_law_box_here" (bU rx) (λC fp s H=>(lX (bE aF (m5 hr.units) vH rx rx (bA _)))) (λC fp s H=>rx))) rx))))))) (bV 2 (aC (aN rx)))))
def zF:M Fl:=no_index ID
def IE:ZI->Res D:=aP 5 [] 0 zF
def mM:Dq Txt.x55 1 [] [0,0,0] 1:=mq λT B=>λhcd hr nd=>(aA (aG 1 aF (bT aF aS) nd) (aA (f7 2 nd (bU rx) (aC (bR (nD 1 aF PySem.F.slot_list_extend PySem.F.type_list_extend l5 fO (aE (bN aF (f8 "_law_box_here" (bU rx) (λC fp s H=>bZ) (λC fp s H=>rx))) aS))))) (aC (aN (v5 1 aF)))))
def mO:M Fl:=no_index mM
def iU:ZI->Res D:=aP 3 [] 1 mO
def B3:Dq Txt.x56 6 [] [0,0,0,0,0,0,0,0,0,0,0,0,0] 0:=mq λT B=>λhcd hr nd=>(aA (aG 4 aF (bT aF aS) nd) (aA (aG 5 aF (aB (fn:=iU) T.x55 (mM.2 T B) hr ra) nd) (aA (aG 6 aF rx nd) (aA (f7 7 nd (eV rfl T.x68 (aB (fn:=bY) T.x44 (bX.2 T B) hr ra)) (aA (aG 8 aF (aB (fn:=tH) T.x53 (zD.2 T B) hr ra) nd) (aA (aG 3 aF (bF aF rx (cK aF rfl T.x64 rx)) nd) (aA (AQ 9 (xs:=[ "_law_name_here" ]) 13 aF (λF H σ=>aF) (λF H σ=>aF) rfl nd (λF H σ=>(bU rx)) (λC fp s H=>(cW (i:=0) EM rfl (Or.inl rfl))) (λF H σ=>(kQ aF ⋯ (dE rfl) ⋯ rfl)) (λF0 H0 σ0 C fp s H=>(lX (bE aF CP aGF rx (bN aF (aB (fn:=iU) T.x55 (mM.2 T B) hr ra)) (by with_unfolding_all rfl)))) (λF0 H0 σ0 C fp s H=>rx)) (aA (cH (lV (C0 (bE aF rM sA (C6 9 rfl T.x64) aJ (bA _)) (C0 (bE aF rM sA (cK aF rfl T.x64 rx) aJ (bA _)) (DF (bE aF (fK hr.units) iZ (aB (fn:=cS) T.x43 (cR.2 T B) hr ra) aJ (bA _)))))) (aA (aG 10 aF rx nd) (aA (aG 11 aF (aFW 9 (aB (fn:=bY) T.x44 (bX.2 T B) hr (aL rx (aL rx (aL (C6 9 rfl T.x64) cJ))))) nd) (aA (aG 12 aF rx nd) (aC (aG 8 aF (bP (aE rx (aE (bF aF (bN aF (bT aF rv)) (bN aF (fZ aF jN lZ rx (fH aJ) gZ))) aS))) nd))))) bB) (aA (bR (nD 5 aF PySem.F.slot_list_extend PySem.F.type_list_extend l5 fO (aE (bN aF (f8 "_law_load" (bU rx) (λC fp s H=>bZ) (λC fp s H=>rx))) aS))) (aA (aG 6 aF (aB (fn:=IE) T.x54 (ID.2 T B) hr ra) nd) (aA (bR (cZ 4 aF rx)) (bV 9 bB))))))))) (bV 4 (aC (aN rx)))))))
def u4:M Fl:=no_index B3
def u5:ZI->Res D:=aP 13 [] 0 u4
def IF:Dq Txt.x57 5 [] [0,0,0,0] 0:=mq λT B=>λhcd hr nd=>(aA (aG 2 aF (aB (fn:=wB) T.x51 (wA.2 T B) hr ra) nd) (aA (aG 3 aF (aB (fn:=cB) T.x45 (cA.2 T B) hr ra) nd) (aA (cH (bE aF (fK hr.units) iZ rx aJ (bA _)) (aC (aN (bP (aE cO (aE (bP (aE rx (aE (bF aF rx (bN aF (bT aF (aE (bP (aE rx (aE (gQ aJ) aS))) aS)))) aS))) aS))))) bB) (aA (cH (bE aF (fK hr.units) iZ rx aJ (bA _)) (aC (aN (bP (aE cO (aE (bP (aE rx (aE (bF aF rx (bN aF (bT aF rv))) aS))) aS))))) bB) (aA (cH (bE aF (fK hr.units) iZ rx aJ (bA _)) (aC (aN (bP (aE cO (aE (bP (aE rx (aE (bF aF rx (bN aF (bT aF rv))) aS))) aS))))) bB) (aA (cH (bE aF (fK hr.units) iZ rx aJ (bA _)) (aC (aN (bP (aE cO (aE (bP (aE rx (aE (bF aF rx (bN aF (bT aF (aE (bP (aE (bP (aE rx (aE rx (aE rx (aE rx (aE (gQ aJ) aS)))))) rv)) aS)))) aS))) aS))))) bB) (aC (aN rx))))))))
def zG:M Fl:=no_index IF
def IG:ZI->Res D:=aP 4 [] 0 zG
def nY:M Fl:=
  (dW (fL 3 (FZ []))
  (dW (fL 4 (dC (.str "")))
  (dW (TY
   (fL 3 (dR eU [.val (bD 0),.val (bD 1),.val (bD 2)]))
   (λnm=>uF (RJ [("NoName",true),("NoNumber",false),("NoStack",false),("NoWeight",false)] nm)
   (fL 4 (dC (.str "name")))
   ((λnm=>uF (RJ [("NoName",false),("NoNumber",false),("NoStack",true),("NoWeight",false)] nm)
   (fL 4 (dC (.str "stack")))
   ((λnm=>uF (RJ [("NoName",false),("NoNumber",false),("NoStack",false),("NoWeight",true)] nm)
   (fL 4 (dC (.str "weight")))
   ((λ_=>KH) nm)) nm)) nm)))
  (dW (mX (dB (iW wZ (bD 4) (dC (.str ""))))
   (t8 (FY [(bD 4),(dC (.int 0))]))
   wV)
  (t8 (FY [(dC (.str "")),(O8 rY [(bD 3)])]))))))
def tJ:ZI->Res D:=aP 5 [] 0 nY
theorem QY(T:Txt K mg)(B:sR K mg base):T.x58.Ok P w mg base 10 [] [0,0,0,0,0] 0 tJ:=T.x58.okD gT λhcd hr=>(aA (aG 3 aF (bN aF (bT aF aS)) gT.nd)
  (aA (aG 4 aF cO gT.nd)
  (aA (aGI [] rfl rfl (λK E1 pn g F H σ=>
   (aC (aG 3 aF (aB (fn:=eU) T.x41 (yY.2 T B) hr (aL (qC 0) (aL (qC 1) (aL (qC 2) cJ)))) gT.nd)))
   (DR rfl T.q_NoName (KJ (l:=[("NoName",true),("NoNumber",false),("NoStack",false),("NoWeight",false)]) (by intro p hp;simp![Í,Ý,or_false]at hp;rcases hp with rfl|rfl|rfl|rfl;exact⟨_,T.n_NoName,T.m_NoName_NoName⟩;exact⟨_,T.n_NoNumber,T.m_NoNumber_NoName⟩;exact⟨_,T.n_NoStack,T.m_NoStack_NoName⟩;exact⟨_,T.n_NoWeight,T.m_NoWeight_NoName⟩)) (λa=>
   (aC (aG 4 aF cO gT.nd))) (DR rfl T.q_NoStack (KJ (l:=[("NoName",false),("NoNumber",false),("NoStack",true),("NoWeight",false)]) (by intro p hp;simp![Í,Ý,or_false]at hp;rcases hp with rfl|rfl|rfl|rfl;exact⟨_,T.n_NoName,T.m_NoName_NoStack⟩;exact⟨_,T.n_NoNumber,T.m_NoNumber_NoStack⟩;exact⟨_,T.n_NoStack,T.m_NoStack_NoStack⟩;exact⟨_,T.n_NoWeight,T.m_NoWeight_NoStack⟩)) (λa=>
   (aC (aG 4 aF cO gT.nd))) (DR rfl T.q_NoWeight (KJ (l:=[("NoName",false),("NoNumber",false),("NoStack",false),("NoWeight",true)]) (by intro p hp;simp![Í,Ý,or_false]at hp;rcases hp with rfl|rfl|rfl|rfl;exact⟨_,T.n_NoName,T.m_NoName_NoWeight⟩;exact⟨_,T.n_NoNumber,T.m_NoNumber_NoWeight⟩;exact⟨_,T.n_NoStack,T.m_NoStack_NoWeight⟩;exact⟨_,T.n_NoWeight,T.m_NoWeight_NoWeight⟩)) (λa=>
   (aC (aG 4 aF cO gT.nd))) aGH))) (aJR rfl) (aGJ rfl))
  (aA (cH (bE aF (m5 hr.units) vH (qC 4) cO (bA _))
   (aC (aN (bP (aE (qC 4) (aE aJ aS)))))
   bB)
  (aC (aN (bP (aE cO (aE (cK aF rfl T.x64 (qC 3)) aS)))))))))
def ϝ:Dq Txt.x59 11 [] [0,0,0,0,0,0,0,0,0,0,0] 0:=mq λT B=>λhcd hr nd=>(aA (aG 1 aF (aB (fn:=IC) T.x50 (H9.2 T B) hr ra) nd) (aA (aG 2 aF (aB (fn:=cS) T.x43 (cR.2 T B) hr ra) nd) (aA (aG 3 aF (aB (fn:=u3) T.x52 (B2.2 T B) hr ra) nd) (aA (aG 4 aF (aB (fn:=u5) T.x56 (B3.2 T B) hr ra) nd) (aA (cH (bE aF (fK hr.units) iZ (cK aF rfl T.x64 rx) aJ (bA _)) (aC (aG 4 aF (bN aF (bT aF (aE (aB (fn:=tH) T.x53 (zD.2 T B) hr ra) aS))) nd)) bB) (aA (aG 5 aF (aB (fn:=bY) T.x44 (bX.2 T B) hr (aL rx (aL aJ (aL (cK aF rfl T.x64 rx) cJ)))) nd) (aA (aG 6 aF (aB (fn:=eU) T.x41 (yY.2 T B) hr (aL rx (aL rx (aL (bN aF (fZ aF jN lZ rx gZ (fH rx))) cJ)))) nd) (aA (cH (lV (MA (qE (qD (TF .list rfl rfl T.x63 rfl T.x65 oC rx))) (DG (bE aF rM sA (cK aF rfl T.x64 rx) rx (bA _))))) (aC (aN FW)) bB) (aA (aG 7 aF (aB (fn:=IG) T.x57 (IF.2 T B) hr ra) nd) (aA (dX 8 "_law_boxes" nd (bU rx) (λC fp s H=>bZ) (λC fp s H=>(bN aF (t7 aF lK DK rfl T.x65 oC rv)))) (aA (aG 9 aF (bF aF (bF aF (bN aF (fZ aF jN lZ rx gZ (fH rx))) (bN aF (bT aF rv))) (bN aF (fZ aF jN lZ rx (fH rx) gZ))) nd) (bV 8 (aA (aG 10 aF (aB T.x58 (QY T B) hr ra) nd) (aA (cH (lV (MA (bE aF (m5 hr.units) vH rx rx (bA _)) (DG (bE aF (m5 hr.units) vH rx rx (bA _))))) (aC (aN FW)) bB) (aA (cH (lV (MA (bE aF pF pO (cK aF rfl T.x64 rx) rx (bA _)) (DG (lV (C0 (bE aF rM sA rx aJ (bA _)) (DF (bE aF (m5 hr.units) vH (fR aF (fR aF rx (gQ aJ)) aJ) cO (bA _)))))))) (aC (aN (wU aF (fK hr.units) iZ rx (bP (aE cO (aE (cK aF rfl T.x64 rx) aS))) (bA _)))) bB) (aC (aN (wU aF (fK hr.units) iZ rx rx (bA _)))))))))))))))))))
def WL:M Fl:=no_index ϝ
def IH:ZI->Res D:=aP 11 [] 0 WL
theorem aHW(T:Txt K mg)(B:sR K mg base):T.x59.Ok P w mg base 11 [] [0,0,0,0,0,0,0,0,0,0,0] 0 IH:=ϝ.2 T B
end
end Toy
open L2 in
seal O8 iW DD bD dC aY cG dR FY FZ mX dW fL mV dZ qI j5 AJ xE J9 SZ S1 GF dB pM SQ FX S4 S5 r9 Ś ţ pN t8 fC bO aV aP Ġ j6
open PySem L2
local macro_rules| `(tactic|dsimp? [$as,*])=>`(tactic|simp![aOK,aM1,aM2,aM3,aJ6,aM0,aM4,aM5,aM6,aJ1,aJ2,aMV,aMX,aMW,aMY,UF,aG5,aJ4,aJ5,aMZ,aMU,aJU,aGS,k_set,k_fill,aGT,aGU,aJV,Ν,aGV,aGW,aGX,aGY,aGZ,aG0,aG1,aG2,aG3,aG4,aAR,aAS,dM,aU,bS,fX,Nat.reduceAdd,Nat.reduceLT,Nat.reduceLeDiff,↓reduceIte,$as,*])
local macro_rules| `(tactic|ac_nf)=>`(tactic|first|exact aJD ∅ ∅|exact aJE ∅ ∅)
namespace Sx
abbrev jW:=Nat->Int
def aT:Nat->(Nat->Int)->Int
 |0,_=>0
 |n+1,f=>aT n f+f n
theorem bG:∀{n:Nat}{f g:Nat->Int},(∀i,i<n->f i=g i)->aT n f=aT n g
 |0,_,_,_=>rfl
 |n+1,f,g,h=>by
  rw[aT,aT,bG (n:=n) λi hi=>h i 'k',h n (by exact ë _)]
theorem jF:∀{n:Nat}{f g:Nat->Int},aT n (λi=>f i+g i)=aT n f+aT n g
 |0,_,_=>rfl
 |n+1,f,g=>by
  rw[aT,aT,aT,jF];lia
theorem d8:∀{n:Nat}{a:Int}{f:Nat->Int},aT n (λi=>a*f i)=a*aT n f
 |0,a,_=>by simp[aT]
 |n+1,a,f=>by
  rw[aT,aT,d8,Int.mul_add]
theorem fU:∀{n:Nat}{f:Nat->Int},(∀i,i<n->f i=0)->aT n f=0
 |0,_,_=>rfl
 |n+1,f,h=>by
  rw[aT,fU (n:=n) λi hi=>h i 'k',h n (by exact ë _)];rfl
theorem cT :∀{n:Nat}{f:Nat->Int},k<n->(∀i,i<n->i≠k->f i=0)->aT n f=f k
 |0,_,hk,_=>by grind
 |n+1,f,hk,h=>by
  rw[aT];by_cases e:k=n
  .subst e
   rw[fU λi hi=>h i 'k' (by exact Ì ‹_›)];lia
  .rw[cT (n:=n) ∅ λi hi hne=>h i 'k' hne,h n (by exact ë _) (λz=>e z.symm)]
   lia
theorem zH(hkl:k≠l):∀{n:Nat}{f:Nat->Int},k<n->l<n->(∀i,i<n->i≠k->i≠l->f i=0)->aT n f=f k+f l
 |0,_,hk,_,_=>by grind
 |n+1,f,hk,hl,h=>by
  rw[aT];by_cases e:k=n
  .subst e
   rw[cT (k:=l) ∅ λi hi hne=>h i 'k' (by exact Ì ‹_›) hne];lia
  .by_cases e2:l=n
   .subst e2
    rw[cT (k:=k) ∅ λi hi hne=>h i 'k' hne (by exact Ì ‹_›)]
   .rw[zH hkl (n:=n) ∅ ∅ λi hi h1 h2=>h i 'k' h1 h2,h n (by exact ë _) (λz=>e z.symm) (λz=>e2 z.symm)]
    lia
theorem B4:∀{n m:Nat}{f:Nat->Nat->Int},aT n (λi=>aT m (f i))=aT m (λj=>aT n (λi=>f i j))
 |0,m,f=>(fU λ_ _=>rfl).symm
 |n+1,m,f=>by
  rw[aT,B4 (n:=n),<- jF];rfl
def ć(i:Nat):Int:=if i % 2=0 then 1 else -1
theorem WM(i:Nat):ć (i+1)=-ć i:=by
 unfold ć
 grind
def skip(i r:Nat):Nat:=if r<i then r else r+1
def eZ(M:Nat->jW)(i:Nat):Nat->jW:=λr c=>M (skip i r) (c+1)
def dD:Nat->(Nat->jW)->Int
 |0,_=>1
 |n+1,M=>aT (n+1) λi=>ć i*M i 0*dD n (eZ M i)
theorem lC:∀{n:Nat}{M M':Nat->jW},(∀r c,r<n->c<n->M r c=M' r c)->dD n M=dD n M'
 |0,_,_,_=>rfl
 |n+1,M,M',h=>by
  rw[dD,dD];refine bG λi hi=>?_;rw[h i 0 hi (by exact Ă _),lC (n:=n) (M:=eZ M i) (M':=eZ M' i) λr c hr hc=>?_];unfold eZ;refine h _ _ ?_ 'k';unfold skip;split<;>lia
def aX(M:Nat->jW)(k:Nat)(w:jW):Nat->jW:=λr=>if r=k then w else M r
theorem aM{M:Nat->jW}:aX M k w k=w:=Á rfl
theorem aH{M:Nat->jW}(h:r≠k):aX M k w r=M r:=Â h
theorem CG{M:Nat->jW}:aX (aX M k u) k w=aX M k w:=by
 funext r;unfold aX;split<;>rfl
theorem d9{M:Nat->jW}(h:k≠l):aX (aX M k u) l w=aX (aX M l w) k u:=by
 funext r;unfold aX
 grind
theorem hZ{M:Nat->jW}:aX M k (M k)=M:=by
 funext r;unfold aX
 grind
def WN(i k:Nat):Nat:=if k<i then k else k-1
theorem mP{M:Nat->jW}(h:i≠k):eZ (aX M k w) i=aX (eZ M i) (WN i k) (λc=>w (c+1)):=by
 funext r c;unfold eZ aX skip WN;by_cases h1:r<i
 .rw[Á h1]
  by_cases h2:k<i
  .rw[Á h2]
   by_cases h3:r=k
   all_goals simp_all
  .rw[Â h2,Â ∅,Â ∅]
   simp![h1,if_true]
 .rw[Â h1]
  by_cases h2:k<i
  .rw[Á h2,Â ∅,Â ∅]
   simp![h1,if_false]
  .rw[Â h2]
   by_cases h3:r+1=k
   .rw[Á h3,Á ∅]
   .rw[Â h3,Â ∅]
    simp![h1,if_false]
theorem mQ{M:Nat->jW}:eZ (aX M k w) k=eZ M k:=by
 funext r c;unfold eZ aX skip
 grind
theorem tK:∀{n:Nat}{M:Nat->jW}{k:Nat}{u v:jW}{a b:Int},k<n->dD n (aX M k λc=>a*u c+b*v c)=a*dD n (aX M k u)+b*dD n (aX M k v)
 |0,_,_,_,_,_,_,h=>by grind
 |n+1,M,k,u,v,a,b,h=>by
  rw[dD,dD,dD,<- d8,<- d8,<- jF];refine bG λi hi=>?_;by_cases e:i=k
  .subst e
   rw[aM,aM,aM,mQ,mQ,mQ]
   grind
  .rw[aH e,aH e,aH e,mP e,mP e,mP e]
   have hd:WN i k<n:=by unfold WN;split<;>lia
   have:=tK (n:=n) (M:=eZ M i) (k:=WN i k) (u:=λc=>u (c+1)) (v:=λc=>v (c+1)) (a:=a) (b:=b) hd;rw[this]
   grind
theorem wC:∀{n:Nat}{M:Nat->jW}{k:Nat},k+1<n->(∀c,M k c=M (k+1) c)->dD n M=0
 |0,_,_,h,_=>by grind
 |n+1,M,k,h,he=>by
  rw[dD,zH (k:=k) (l:=k+1) ∅ 'a' (by assumption) λi hi h1 h2=>?_]
  .have em:eZ M k=eZ M (k+1):=by
    funext r c;unfold eZ skip;by_cases h1:r<k
    .grind
    .grind
   rw[em,he 0,WM]
   grind
  .have hz:dD n (eZ M i)=0:=by
    by_cases hk:k+1<i
    .refine wC (n:=n) (k:=k) ∅ λc=>?_
     unfold eZ skip
     grind
    .refine wC (n:=n) (k:=k-1) ∅ λc=>?_
     unfold eZ skip
     grind
   rw[hz];lia
theorem oQ{M:Nat->jW}(h:k<n):dD n (aX M k λc=>u c+v c)=dD n (aX M k u)+dD n (aX M k v):=by
 have:=tK (M:=M) (u:=u) (v:=v) (a:=1) (b:=1) h
 grind
theorem QZ{M:Nat->jW}(h:k+1<n)(u v:jW):dD n (aX (aX M k u) (k+1) v)=-dD n (aX (aX M k v) (k+1) u):=by
 have z:∀w,dD n (aX (aX M k w) (k+1) w)=0:=λw=>wC h λc=>by rw[aH ∅,aM,aM]
 have h1:=z λc=>u c+v c;rw[oQ h,d9 ∅,oQ 'a',d9 (u:=λc=>u c+v c) ∅,oQ 'a']at h1;have zu:=z u;have zv:=z v;rw[d9 ∅]at zu zv;have e1:dD n (aX (aX M k u) (k+1) v)=dD n (aX (aX M (k+1) v) k u):=by rw[d9 ∅]
 have e2:dD n (aX (aX M k v) (k+1) u)=dD n (aX (aX M (k+1) u) k v):=by rw[d9 ∅]
 rw[e1,e2];lia
theorem LD:∀(d:Nat){n:Nat}{M:Nat->jW}{i j:Nat},j=i+d+1->j<n->(∀c,M i c=M j c)->dD n M=0
 |0,n,M,i,j,e,h,he=>by
  subst e;exact wC (k:=i) (by assumption) he
 |d+1,n,M,i,j,e,h,he=>by
  -- Æ j-1 and j change places
  have hj:j-1+1=j:=by lia
  have e1:M=aX (aX M (j-1) (M (j-1))) (j-1+1) (M j):=by
   rw[hZ,hj,hZ]
  rw[e1,QZ ∅];have:=LD d (n:=n) (M:=aX (aX M (j-1) (M j)) (j-1+1) (M (j-1))) (i:=i) (j:=j-1) ∅ ∅ λc=>by
   rw[aH ∅,aH ∅,aH ∅,aM];exact he c
  rw[this];rfl
theorem wD{n:Nat}{M:Nat->jW}{i j:Nat}(hi:i<n)(hj:j<n)(hne:i≠j)(he:∀c,M i c=M j c):dD n M=0:=by
 by_cases h:i<j
 .exact LD (j-i-1) ∅ hj he
 .exact LD (i-j-1) (i:=j) (j:=i) ∅ hi λc=>(he c).symm
theorem II{M:Nat->jW}(hi:i<n)(hj:j<n)(hne:i≠j)(u v:jW):dD n (aX (aX M i u) j v)=-dD n (aX (aX M i v) j u):=by
 have z:∀w,dD n (aX (aX M i w) j w)=0:=λw=>wD hi hj hne λc=>by rw[aH hne,aM,aM]
 have h1:=z λc=>u c+v c;rw[oQ hj,d9 hne,oQ hi,d9 (u:=λc=>u c+v c) hne,oQ hi]at h1;have zu:=z u;have zv:=z v;rw[d9 hne]at zu zv;have e1:dD n (aX (aX M i u) j v)=dD n (aX (aX M j v) i u):=by rw[d9 hne]
 have e2:dD n (aX (aX M i v) j u)=dD n (aX (aX M j u) i v):=by rw[d9 hne]
 rw[e1,e2];lia
theorem IJ{M:Nat->jW}(h:k<n):dD n (aX M k λ_=>0)=0:=by
 have:=tK (M:=M) (k:=k) (u:=λ_=>0) (v:=λ_=>0) (a:=0) (b:=0) h;simpa using this
theorem aBP{M:Nat->jW}(h:k<n):dD n (aX M k λc=>a*u c)=a*dD n (aX M k u):=by
 have:=tK (M:=M) (k:=k) (u:=u) (v:=λ_=>0) (a:=a) (b:=0) h
 grind
theorem wE{M:Nat->jW}(h:k<n):∀{m:Nat}{w:Nat->Int}{f:Nat->jW},dD n (aX M k λc=>aT m λl=>w l*f l c)=aT m λl=>w l*dD n (aX M k (f l))
 |0,w,f=>IJ h
 |m+1,w,f=>by
  have:=tK (M:=M) (k:=k) (u:=λc=>aT m λl=>w l*f l c) (v:=f m) (a:=1) (b:=w m) h;simp![Int.one_mul]at this;rw[aT,<- wE h];exact this
theorem aKR(hc:c<n)(hj:j<n)(hne:c≠j)(cr:∀x,x<n->dD n f*h x=aT n λl=>dD n (aX f l h)*f l x):
  dD n f*dD n (aX (aX f c h) j u)=dD n (aX f c h)*dD n (aX f j u)-dD n (aX f j h)*dD n (aX f c u):=by
 have e1:dD n f*dD n (aX (aX f c h) j u)=dD n (aX (aX f j u) c λx=>dD n f*h x):=by
  rw[aBP hc,d9 hne]
 have e2:dD n (aX (aX f j u) c λx=>dD n f*h x)=dD n (aX (aX f j u) c λx=>aT n λl=>dD n (aX f l h)*f l x):=by
  refine lC λr x hr hx=>?_;by_cases hrc:r=c
  .subst hrc
   rw[aM,aM];exact cr x hx
  .rw[aH hrc,aH hrc]
 rw[e1,e2,wE hc,zH hne hc hj λl hl h1 h2=>?_]
 .have a1:aX (aX f j u) c (f c)=aX f j u:=by
   rw[d9 (Ð hne),hZ]
  have a2:dD n (aX (aX f j u) c (f j))=-dD n (aX f c u):=by
   rw[II hj hc (Ð hne),hZ]
  rw[a1,a2]
  grind
 .have:dD n (aX (aX f j u) c (f l))=0:=wD hc hl (λz=>h1 z.symm) λx=>by rw[aM,aH h1,aH h2]
  rw[this];lia
end Sx
namespace Sx
structure Tab where
 s:Int
 f:Nat->Nat
 h:Nat->Nat
 L:Nat->Nat->Int
structure Pr where
 n:Nat
 k:Nat
 N:Nat
 a:Nat->jW
 c:Nat->Int
def Tab.F(P:Pr)(T:Tab):Nat->jW:=λj=>P.a (T.f j)
structure Inv(P:Pr)(σ:Int)(T:Tab):Prop where
 sg:σ*σ=1
 pos:0<T.s
 sd:T.s=σ*dD P.n (T.F P)
 ld:∀r,r<=P.k->∀j,j<P.n->T.L r j=-σ*dD P.n (aX (T.F P) j (P.a (T.h r)))
 lc:∀r,r<=P.k->T.L r P.n=T.s*P.c (T.h r)+aT P.n λj=>T.L r j*P.c (T.f j)
 cr:∀r,r<=P.k->∀x,x<P.n->T.s*P.a (T.h r) x+(aT P.n λj=>T.L r j*P.a (T.f j) x)=0
 fi:∀i j,i<P.n->j<P.n->T.f i=T.f j->i=j
 hi:∀r q,r<=P.k->q<=P.k->T.h r=T.h q->r=q
 fh:∀j r,j<P.n->r<=P.k->T.f j≠T.h r
 hk:T.h P.k=P.N
 all:∀u,u<P.N->(∃j,j<P.n/\T.f j=u)\/∃r,r<P.k/\T.h r=u
 fN:∀j,j<P.n->T.f j<P.N
 hN:∀r,r<P.k->T.h r<P.N
 dual:∀j,j<P.n->0<=T.L P.k j
def swap(T:Tab)(p d:Nat):Tab where
 s:=-T.L p d
 f:=λj=>if j=d then T.h p else T.f j
 h:=λr=>if r=p then T.f d else T.h r
 L:=λr j=>if r=p then (if j=d then -T.s else -T.L p j)else (if j=d then T.L r d else (-T.L p d*T.L r j+T.L r d*T.L p j)/T.s)
section
theorem WO:(swap T p d).F P=aX (T.F P) d (P.a (T.h p)):=by
 funext j;unfold Tab.F swap aX;dsimp only;split<;>rfl
theorem NW{n:Nat}{w:Nat->Int}{wu wh s:Int}{wf l p l':Nat->Int}{d:Nat}(hd:d<n)(hs:∀j,j<n->j≠d->s*l' j=-p d*l j+l d*p j)(hl:l' d=l d):
  s*(-p d*wu+aT n λj=>l' j*(if j=d then wh else wf j))=-p d*(s*wu+aT n λj=>l j*wf j)+l d*(s*wh+aT n λj=>p j*wf j):=by
 have e1:s*(aT n λj=>l' j*(if j=d then wh else wf j))=aT n λj=>(-p d*(l j*wf j)+l d*(p j*wf j))+(if j=d then s*l d*wh else 0):=by
  rw[<- d8];refine bG λj hj=>?_;by_cases e:j=d
  .grind
  .grind
 have e2:(aT n λj=>if j=d then s*l d*wh else 0)=s*l d*wh:=by
  rw[cT (k:=d) hd λi _ hne=>Â hne,Á rfl]
 rw[jF,jF,d8,d8,e2]at e1
 grind
theorem IK{n:Nat}{wh s:Int}{wf p:Nat->Int}{d:Nat}(hd:d<n):
  -p d*wf d+(aT n λj=>(if j=d then -s else -p j)*(if j=d then wh else wf j))=-(s*wh+aT n λj=>p j*wf j):=by
 have e1:(aT n λj=>(if j=d then -s else -p j)*(if j=d then wh else wf j))=aT n λj=>(-1)*(p j*wf j)+(if j=d then p d*wf d-s*wh else 0):=by
  refine bG λj hj=>?_;by_cases e:j=d
  .grind
  .grind
 have e2:(aT n λj=>if j=d then p d*wf d-s*wh else 0)=p d*wf d-s*wh:=by
  rw[cT (k:=d) hd λi _ hne=>Â hne,Á rfl]
 rw[e1,jF,d8,e2]
 grind
theorem Inv.det_s(I:Inv P σ T):dD P.n (T.F P)=σ*T.s:=by
 rw[I.sd,<- Int.mul_assoc,I.sg,Int.one_mul]
theorem Inv.det_l(I:Inv P σ T)(hr:r<=P.k)(hj:j<P.n):dD P.n (aX (T.F P) j (P.a (T.h r)))=-σ*T.L r j:=by
 rw[I.ld r hr j hj,<- Int.mul_assoc];have:-σ*-σ=1:=by have:=I.sg;grind
 rw[this,Int.one_mul]
theorem Inv.cramer(I:Inv P σ T)(hr:r<=P.k)(x:Nat)(hx:x<P.n):dD P.n (T.F P)*P.a (T.h r) x=aT P.n λl=>dD P.n (aX (T.F P) l (P.a (T.h r)))*T.F P l x:=by
 have e:(aT P.n λl=>dD P.n (aX (T.F P) l (P.a (T.h r)))*T.F P l x)=aT P.n λl=>-σ*(T.L r l*P.a (T.f l) x):=bG λl hl=>by
  rw[I.det_l hr hl,Int.mul_assoc];rfl
 rw[e,d8,I.det_s];have:=I.cr r hr x hx
 grind
theorem Inv.exact(I:Inv P σ T) (hp:p<P.k) (hd:d<P.n) (hr:r<=P.k) (hj:j<P.n) (hne:j≠d):
  T.s*(-σ*dD P.n (aX (aX (T.F P) d (P.a (T.h p))) j (P.a (T.h r))))=-T.L p d*T.L r j+T.L r d*T.L p j:=by
 have pl:=aKR (u:=P.a (T.h r)) hd hj (Ð hne) (I.cramer (r:=p) 'a');rw[I.det_s,I.det_l 'a' hd,I.det_l hr hj,I.det_l 'a' hj,I.det_l hr hd]at pl;have sg:=I.sg
 grind
theorem Inv.quot(I:Inv P σ T)(hp:p<P.k)(hd:d<P.n)(hr:r<=P.k)(hrp:r≠p)(hj:j<P.n)(hne:j≠d):
  T.s*(swap T p d).L r j=-T.L p d*T.L r j+T.L r d*T.L p j/\(swap T p d).L r j=-σ*dD P.n (aX (aX (T.F P) d (P.a (T.h p))) j (P.a (T.h r))):=by
 have e:=I.exact hp hd hr hj hne;have q:(swap T p d).L r j=-σ*dD P.n (aX (aX (T.F P) d (P.a (T.h p))) j (P.a (T.h r))):=by
  show (if r=p then (if j=d then -T.s else -T.L p j)else (if j=d then T.L r d else (-T.L p d*T.L r j+T.L r d*T.L p j)/T.s))=_;rw[Â hrp,Â hne,<- e,Int.mul_ediv_cancel_left _ (by have:=I.pos;exact Int.ne_of_gt ‹_›)]
 exact⟨by rw[q,e],q⟩
theorem tL(hrp:r≠p):(swap T p d).L r d=T.L r d:=by
 show (if r=p then (if d=d then -T.s else -T.L p d)else (if d=d then T.L r d else (-T.L p d*T.L r d+T.L r d*T.L p d)/T.s))=_;rw[Â hrp,Á rfl]
theorem ET:(swap T p d).L p j=if j=d then -T.s else -T.L p j:=by
 show (if p=p then (if j=d then -T.s else -T.L p j)else _)=_;rw[Á rfl]
theorem fP:(swap T p d).f j=if j=d then T.h p else T.f j:=rfl
theorem gX:(swap T p d).h r=if r=p then T.f d else T.h r:=rfl
theorem Inv.quotN(I:Inv P σ T)(hp:p<P.k)(hd:d<P.n)(hr:r<=P.k)(hrp:r≠p):
  T.s*(swap T p d).L r P.n=-T.L p d*T.L r P.n+T.L r d*T.L p P.n/\(swap T p d).L r P.n=-T.L p d*P.c (T.h r)+aT P.n λj=>(swap T p d).L r j*P.c ((swap T p d).f j):=by
 have e:=NW (w:=λ_=>0) (wu:=P.c (T.h r)) (wh:=P.c (T.h p)) (s:=T.s) (wf:=λj=>P.c (T.f j)) (l:=T.L r) (p:=T.L p) (l':=(swap T p d).L r) hd (λj hj hne=>(I.quot hp hd hr hrp hj hne).1) (tL hrp);rw[<- I.lc r hr,<- I.lc p 'a']at e;have ew:(aT P.n λj=>(swap T p d).L r j*(if j=d then P.c (T.h p)else P.c (T.f j)))=aT P.n λj=>(swap T p d).L r j*P.c ((swap T p d).f j):=bG λj _=>by
  rw[fP];split<;>rfl
 rw[ew]at e;have q:(swap T p d).L r P.n=-T.L p d*P.c (T.h r)+aT P.n λj=>(swap T p d).L r j*P.c ((swap T p d).f j):=by
  show (if r=p then (if P.n=d then -T.s else -T.L p P.n)else (if P.n=d then T.L r d else (-T.L p d*T.L r P.n+T.L r d*T.L p P.n)/T.s))=_;rw[Â hrp,Â (by exact Ü ‹_›),<- e,Int.mul_ediv_cancel_left _ (by have:=I.pos;exact Int.ne_of_gt ‹_›)]
 exact⟨by rw[q,e],q⟩
theorem Inv.swap(I:Inv P σ T)(hp:p<P.k)(hd:d<P.n)(hneg:T.L p d<0)(hmin:∀j,j<P.n->T.L p j<0->T.L P.k d*-T.L p j<=T.L P.k j*-T.L p d):Inv P σ (swap T p d):=by
 have sg:=I.sg;have pos:=I.pos;have hdh:∀r,r<=P.k->T.f d≠T.h r:=λr hr=>I.fh d r hd hr;refine⟨sg,?_,?_,?_,?_,?_,?_,?_,?_,?_,?_,?_,?_,?_⟩
 .show 0 < -T.L p d
  lia
 .show -T.L p d=_
  rw[WO,I.det_l 'a' hd]
  grind
 .intro r hr j hj
  rw[WO];by_cases hrp:r=p
  .subst hrp
   rw[ET,gX,Á rfl];by_cases hjd:j=d
   .subst hjd
    rw[Á rfl,CG];have:aX (T.F P) j (P.a (T.f j))=T.F P:=hZ;rw[this,I.det_s,<- Int.mul_assoc]
    grind
   .rw[Â hjd,II hd hj (Ð hjd)]
    have:aX (T.F P) d (P.a (T.f d))=T.F P:=hZ;rw[this,I.det_l (by assumption) hj]
    grind
  .rw[gX,Â hrp]
   by_cases hjd:j=d
   .subst hjd
    rw[tL hrp,CG];exact I.ld r hr j hj
   .exact(I.quot hp hd hr hrp hj hjd).2
 .intro r hr
  by_cases hrp:r=p
  .subst hrp
   have e:=IK (wh:=P.c (T.h r)) (s:=T.s) (wf:=λj=>P.c (T.f j)) (p:=T.L r) hd;rw[<- I.lc r hr]at e;show (if r=r then (if P.n=d then -T.s else -T.L r P.n)else _)=_;rw[Á rfl,Â (by exact Ü ‹_›),gX,Á rfl,<- e];show _=-T.L r d*_+_;congr 1;refine bG λj hj=>?_;rw[ET,fP];split<;>rfl
  .rw[gX,Â hrp]
   exact(I.quotN hp hd hr hrp).2
 .intro r hr x hx
  by_cases hrp:r=p
  .subst hrp
   have e:=IK (wh:=P.a (T.h r) x) (s:=T.s) (wf:=λj=>P.a (T.f j) x) (p:=T.L r) hd;rw[I.cr r hr x hx]at e;rw[gX,Á rfl];show -T.L r d*_+_=_;have ew:(aT P.n λj=>(Sx.swap T r d).L r j*P.a ((Sx.swap T r d).f j) x)=aT P.n λj=>(if j=d then -T.s else -T.L r j)*(if j=d then P.a (T.h r) x else P.a (T.f j) x):=bG λj _=>by
    rw[ET,fP];split<;>rfl
   rw[ew,e];rfl
  .have e:=NW (w:=λ_=>0) (wu:=P.a (T.h r) x) (wh:=P.a (T.h p) x) (s:=T.s) (wf:=λj=>P.a (T.f j) x) (l:=T.L r) (p:=T.L p) (l':=(Sx.swap T p d).L r) hd (λj hj hne=>(I.quot hp hd hr hrp hj hne).1) (tL hrp)
   rw[I.cr r hr x hx,I.cr p 'a' x hx]at e;rw[gX,Â hrp];have ew:(aT P.n λj=>(Sx.swap T p d).L r j*P.a ((Sx.swap T p d).f j) x)=aT P.n λj=>(Sx.swap T p d).L r j*(if j=d then P.a (T.h p) x else P.a (T.f j) x):=bG λj _=>by
    rw[fP];split<;>rfl
   show -T.L p d*_+_=_;rw[ew];have e:T.s*(-T.L p d*P.a (T.h r) x+aT P.n λj=>(Sx.swap T p d).L r j*(if j=d then P.a (T.h p) x else P.a (T.f j) x))=0:=by rw[e];lia
   rcases Int.mul_eq_zero.mp e with z|z
   .lia
   .exact z
 .intro i j hi hj e
  rw[fP,fP]at e;split at e
  .split at e
   .lia
   .exact absurd e.symm (I.fh j p hj 'a')
  .split at e
   .exact absurd e (I.fh i p hi 'a')
   .exact I.fi i j hi hj e
 .intro r q hr hq e
  rw[gX,gX]at e;split at e
  .grind
  .split at e
   .grind
   .exact I.hi r q hr hq e
 .intro j r hj hr e
  rw[fP,gX]at e;split at e
  .split at e
   .grind
   .rename_i hrp
    exact hrp (I.hi p r 'a' hr e).symm
  .split at e
   .rename_i hjd _
    exact hjd (I.fi j d hj hd e)
   .exact I.fh j r hj hr e
 .rw[gX,Â (by exact Ü ‹_›)]
  exact I.hk
 .intro u hu
  rcases I.all u hu with ⟨j,hj,e⟩|⟨r,hr,e⟩
  .by_cases hjd:j=d
   .subst hjd
    exact .inr ⟨p,hp,by rw[gX,Á rfl];exact e⟩
   .exact .inl ⟨j,hj,by rw[fP,Â hjd];exact e⟩
  .by_cases hrp:r=p
   .subst hrp
    exact .inl ⟨d,hd,by rw[fP,Á rfl];exact e⟩
   .exact .inr ⟨r,hr,by rw[gX,Â hrp];exact e⟩
 .intro j hj
  rw[fP];split
  .exact I.hN p hp
  .exact I.fN j hj
 .intro r hr
  rw[gX];split
  .exact I.fN d hd
  .exact I.hN r hr
 .intro j hj
  by_cases hjd:j=d
  .subst hjd
   rw[tL (by exact Ü ‹_›)];exact I.dual j hj
  .have e:=(I.quot hp hd (r:=P.k) (Ç _) (by exact Ü ‹_›) hj hjd).1
   have g1:=I.dual j hj;have g2:=I.dual d hd;have hge:0<=-T.L p d*T.L P.k j+T.L P.k d*T.L p j:=by
    by_cases hn:T.L p j<0
    .grind
    .have a1:0<=-T.L p d*T.L P.k j:=Int.mul_nonneg ∅ g1
     have a2:0<=T.L P.k d*T.L p j:=Int.mul_nonneg g2 (by exact Int.not_lt.mp ‹_›);lia
   rw[<- e]at hge;exact Int.nonneg_of_mul_nonneg_right hge pos |> λz=>by first|exact z|lia
end
end Sx
namespace Sx
section
theorem Inv.indep(I:Inv P σ T){w:Nat->Int}(h:∀x,x<P.n->(aT P.n λi=>w i*P.a (T.f i) x)=0)(i:Nat)(hi:i<P.n):w i=0:=by
 have e1:dD P.n (aX (T.F P) i λx=>aT P.n λl=>w l*T.F P l x)=0:=by
  rw[<- IJ (M:=T.F P) hi];refine lC λr x hr hx=>?_;by_cases e:r=i
  .subst e
   rw[aM,aM];exact h x hx
  .rw[aH e,aH e]
 rw[wE hi,cT (k:=i) hi λl hl hne=>?_]at e1
 .rw[hZ,I.det_s]at e1
  rcases Int.mul_eq_zero.mp e1 with z|z
  .exact z
  .rcases Int.mul_eq_zero.mp z with z|z
   .have:=I.sg
    grind
   .have:=I.pos
    lia
 .have:dD P.n (aX (T.F P) i (T.F P l))=0:=wD hi hl (λz=>hne z.symm) λx=>by rw[aM,aH hne]
  rw[this];lia
structure At(P:Pr)(T:Tab)(u:Nat)(E:Nat->Int)(V:Int):Prop where
 a:∀x,x<P.n->T.s*P.a u x+(aT P.n λi=>E i*P.a (T.f i) x)=0
 c:T.s*P.c u+(aT P.n λi=>E i*P.c (T.f i))=V
theorem Inv.at_held(I:Inv P σ T)(hr:r<=P.k):At P T (T.h r) (T.L r) (T.L r P.n):=⟨I.cr r hr,(I.lc r hr).symm⟩
theorem EU(hj:j<P.n):At P T (T.f j) (λi=>if i=j then -T.s else 0) 0:=by
 refine⟨λx _=>?_,?_⟩
 .rw[cT (k:=j) hj λi _ hne=>by rw[Â hne];lia,Á rfl]
  grind
 .rw[cT (k:=j) hj λi _ hne=>by rw[Â hne];lia,Á rfl]
  grind
theorem Inv.eval(I:Inv P σ T){ρ:Nat->Int}{u:Nat->Nat}{E:Nat->Nat->Int}{V:Nat->Int}(hat:∀t,t<q->At P T (u t) (E t) (V t))(ha:∀x,x<P.n->(aT q λt=>ρ t*P.a (u t) x)=0)(hc:(aT q λt=>ρ t*P.c (u t))=ρ0):
  (aT q λt=>ρ t*V t)=T.s*ρ0:=by
 have lin:∀b:Nat->Int,(aT P.n λi=>(aT q λt=>ρ t*E t i)*b i)=aT q λt=>ρ t*aT P.n λi=>E t i*b i:=λb=>by
  have e1:(aT P.n λi=>(aT q λt=>ρ t*E t i)*b i)=aT P.n λi=>aT q λt=>ρ t*(E t i*b i):=bG λi _=>by
   rw[Int.mul_comm,<- d8]
   grind
  rw[e1,B4];exact bG λt _=>d8
 have w0:∀i,i<P.n->(aT q λt=>ρ t*E t i)=0:=λi hi=>I.indep (w:=λi=>aT q λt=>ρ t*E t i) (λx hx=>by
  rw[lin λi=>P.a (T.f i) x];have e2:(aT q λt=>ρ t*aT P.n λi=>E t i*P.a (T.f i) x)=aT q λt=>-T.s*(ρ t*P.a (u t) x):=bG λt ht=>by
   have:=(hat t ht).a x hx
   grind
  rw[e2,d8,ha x hx];lia) i hi
 have e4:(aT q λt=>ρ t*V t)=aT q λt=>T.s*(ρ t*P.c (u t))+ρ t*aT P.n λi=>E t i*P.c (T.f i):=bG λt ht=>by
  rw[<- (hat t ht).c]
  grind
 rw[e4,jF,d8,hc,<- lin λi=>P.c (T.f i),fU λi hi=>by rw[w0 i hi];lia];lia
theorem NX:∀{n:Nat}{g:Nat->Int},aT n g<0->∃m,m<n/\g m<0
 |0,_,h=>by simp[aT]at h
 |n+1,g,h=>by
  rw[aT]at h;by_cases c:g n<0
  .grind
  .obtain⟨m,hm,e⟩:=NX (n:=n) (g:=g) ∅
   grind
structure Ch(P:Pr)(T:Tab)(p d:Nat):Prop where
 hp:p<P.k
 neg:T.L p P.n<0
 first:∀r,r<P.k->T.L r P.n<0->T.h p<=T.h r
 hd:d<P.n
 dneg:T.L p d<0
 best:∀j,j<P.n->T.L p j<0->T.L P.k d*-T.L p j<T.L P.k j*-T.L p d\/(T.L P.k d*-T.L p j=T.L P.k j*-T.L p d/\T.f d<=T.f j)
theorem Ch.inv(C:Ch P T p d)(I:Inv P σ T):Inv P σ (swap T p d):=I.swap C.hp C.hd C.dneg λj hj hn=>by
 rcases C.best j hj hn with h|h<;>lia
def Fr(P:Pr)(T:Tab)(u:Nat):Prop:=∃j,j<P.n/\T.f j=u
def NZ(P:Pr)(T:Tab)(u:Nat):Prop:=∃j,j<P.n/\T.f j=u/\T.L P.k j≠0
theorem tN(C:Ch P T p d)(I:Inv P σ T)(u:Nat):Fr P (swap T p d) u↔u=T.h p\/(Fr P T u/\u≠T.f d):=by
 constructor
 .rintro⟨j,hj,e⟩
  rw[fP]at e;split at e
  .exact .inl e.symm
  .rename_i hjd
   refine .inr ⟨⟨j,hj,e⟩,λz=>hjd (I.fi j d hj C.hd ?_)⟩;rw[e,z]
 .rintro(rfl|⟨⟨j,hj,rfl⟩,hne⟩)
  .exact⟨d,C.hd,by rw[fP,Á rfl]⟩
  .exact⟨j,hj,by rw[fP,Â λz=>hne (by rw[z])]⟩
theorem aBQ(C:Ch P T p d)(I:Inv P σ T)(hz:T.L P.k d=0)(u:Nat):NZ P (swap T p d) u↔NZ P T u:=by
 have pos:=I.pos;have step:∀j,j<P.n->j≠d->((swap T p d).L P.k j≠0↔T.L P.k j≠0):=λj hj hjd=>by
  have e:=(I.quot C.hp C.hd (r:=P.k) (Ç _) (by have:=C.hp;exact Ü ‹_›) hj hjd).1;rw[hz,Int.zero_mul,Int.add_zero]at e;have dn:=C.dneg;constructor
  .intro h z
   rw[z,Int.mul_zero]at e;rcases Int.mul_eq_zero.mp e with z|z
   .lia
   .exact h z
  .intro h z
   rw[z,Int.mul_zero]at e;rcases Int.mul_eq_zero.mp e.symm with z|z
   .lia
   .exact h z
 have ed:(swap T p d).L P.k d=0:=by rw[tL (by have:=C.hp;exact Ü ‹_›)];exact hz
 constructor
 .rintro⟨j,hj,e,hnz⟩
  rw[fP]at e;by_cases hjd:j=d
  .grind
  .rw[Â hjd]at e
   exact⟨j,hj,e,(step j hj hjd).mp hnz⟩
 .rintro⟨j,hj,e,hnz⟩
  by_cases hjd:j=d
  .grind
  .exact⟨j,hj,by rw[fP,Â hjd];exact e,(step j hj hjd).mpr hnz⟩
theorem Inv.held_nz(I:Inv P σ T)(hr:r<=P.k):¬NZ P T (T.h r):=λzQ=>by let⟨j,hj,e,_⟩:=zQ;exact I.fh j r hj hr e
theorem Inv.not_fr(I:Inv P σ T)(hr:r<=P.k):¬Fr P T (T.h r):=λzQ=>by let⟨j,hj,e⟩:=zQ;exact I.fh j r hj hr e
end
structure JP(P:Pr)(σ:Int)(T:Nat->Tab)(p d:Nat->Nat)(l:Nat):Prop where
 inv:Inv P σ (T 0)
 ch:∀i,i<l->Ch P (T i) (p i) (d i)
 next:∀i,i<l->T (i+1)=swap (T i) (p i) (d i)
section
theorem JP.inv_at(R:JP P σ T p d l):∀i,i<=l->Inv P σ (T i)
 |0,_=>R.inv
 |i+1,h=>by
  rw[R.next i (by assumption)];exact(R.ch i (by assumption)).inv (R.inv_at i 'a')
structure Ģ(P:Pr)(T:Nat->Tab)(p d:Nat->Nat)(x y t:Nat):Prop where
 e:∀m,x<=m->m<y->(T m).h (p m)<t
 g:∀m,x<=m->m<y->(T m).f (d m)<t
 z:∀m,x<=m->m<y->(T m).L P.k (d m)=0
theorem Ģ.fr(R:JP P σ T p d l)(S:Ģ P T p d x y t)(hy:y<=l)(hu:t<=u):∀m,x<=m->m<=y->(Fr P (T m) u↔Fr P (T x) u):=by
 intro m hx
 induction m with
 |zero=>grind
 |succ m ih=>
  intro hm;by_cases e:x=m+1
  .rw[e]
  .have h1:=S.e m ∅ (by assumption)
   have h2:=S.g m ∅ (by assumption);rw[<- ih ∅ 'a',R.next m 'k',tN (R.ch m 'k') (R.inv_at m 'k')]
   grind
theorem Ģ.nz(R:JP P σ T p d l)(S:Ģ P T p d x y t)(hy:y<=l):∀m,x<=m->m<=y->(NZ P (T m) u↔NZ P (T x) u):=by
 intro m hx
 induction m with
 |zero=>grind
 |succ m ih=>
  intro hm;by_cases e:x=m+1
  .rw[e]
  .rw[<- ih ∅ 'a',R.next m 'k']
   exact aBQ (R.ch m 'k') (R.inv_at m 'k') (S.z m ∅ (by assumption)) u
theorem NY(R:JP P σ T p d l)(S:Ģ P T p d x y (t+1))(hy:y<=l)(hi:x<=i)(hi2:i<y)(hj:x<=j)(hj2:j<y)(hA:(T i).h (p i)=t)(hB:(T j).f (d j)=t):False:=by
 have IA:=R.inv_at i 'k';have IB:=R.inv_at j 'k';have CA:=R.ch i 'k';have CB:=R.ch j 'k';have pB:=CB.hp
 -- where an unknown stands at A
 have stand:∀u,u<P.N->∃E V,At P (T i) u E V/\((Fr P (T i) u/\V=0)\/∃r,r<P.k/\(T i).h r=u/\V=(T i).L r P.n):=λu hu=>by
  rcases IA.all u hu with ⟨m,hm,e⟩|⟨r,hr,e⟩
  .exact⟨_,0,by rw[<- e];exact EU hm,.inl ⟨⟨m,hm,e⟩,rfl⟩⟩
  .exact⟨_,_,by rw[<- e];exact IA.at_held 'a',.inr ⟨r,hr,e,rfl⟩⟩
 -- the unknowns of B's line
 let u:Nat->Nat:=λm=>if m<P.n then (T j).f m else (T j).h (p j);let ρ:Nat->Int:=λm=>if m<P.n then (T j).L (p j) m else (T j).s;have uN:∀m,u m<P.N:=λm=>by
  show (if m<P.n then (T j).f m else (T j).h (p j))<P.N;split
  .rename_i h;exact IB.fN m h
  .exact IB.hN _ pB
 have ev:=IA.eval (q:=P.n+1) (ρ:=ρ) (u:=u) (E:=λm=>(stand (u m) (uN m)).choose) (V:=λm=>(stand (u m) (uN m)).choose_spec.choose) (ρ0:=(T j).L (p j) P.n) (λm _=>(stand (u m) (uN m)).choose_spec.choose_spec.1) (λx hx=>by
  have e:=IB.cr (p j) 'a' x hx;rw[aT];have e1:(aT P.n λm=>ρ m*P.a (u m) x)=aT P.n λm=>(T j).L (p j) m*P.a ((T j).f m) x:=bG λm hm=>by
   grind
  grind) (by
  have e:=IB.lc (p j) 'a';rw[aT];have e1:(aT P.n λm=>ρ m*P.c (u m))=aT P.n λm=>(T j).L (p j) m*P.c ((T j).f m):=bG λm hm=>by
   grind
  grind)
 have neg:(T i).s*(T j).L (p j) P.n<0:=Int.mul_neg_of_pos_of_neg IA.pos CB.neg;rw[<- ev]at neg;let⟨m,hm,hneg⟩:=NX neg;have st:=(stand (u m) (uN m)).choose_spec.choose_spec.2;generalize (stand (u m) (uN m)).choose_spec.choose=V at st hneg
 -- it is held at A
 rcases st with ⟨_,hV⟩|⟨r,hr,hru,hV⟩
 .grind
 .have notA:¬Fr P (T i) (u m):=by rw[<- hru];exact IA.not_fr 'a'
  have fromA:V<0->t<=u m:=λhv=>by
   rw[<- hA,<- hru];exact CA.first r hr (by rw[<- hV];exact hv)
  by_cases hmn:m<P.n
  .have eu:u m=(T j).f m:=Á hmn
   have eρ:ρ m=(T j).L (p j) m:=Á hmn;rw[eρ]at hneg;have frB:Fr P (T j) (u m):=⟨m,hmn,eu.symm⟩
   -- it has moved
   have le:u m<=t:=by
    refine Nat.le_of_not_lt λgt=>?_;have h1:=S.fr R hy (u:=u m) (by assumption) i hi 'a';have h2:=S.fr R hy (u:=u m) (by assumption) j hj 'a';exact notA (h1.mpr (h2.mp frB))
   by_cases hv:V<0
   .have:=fromA hv
    have et:(T j).f m=(T j).f (d j):=by rw[hB,<- eu];exact Nat.le_antisymm ‹_› ‹_›
    have:=IB.fi m (d j) hmn CB.hd et;rw[this]at hneg;have dn:=CB.dneg;have:=Int.mul_pos_of_neg_of_neg dn hv;lia
   .have hv0:0<V:=by
     rcases Int.lt_trichotomy V 0 with z|z|z
     .contradiction
     .grind
     .exact z
    have ln:(T j).L (p j) m<0:=by
     refine Int.not_le.mp λz=>?_;have:=Int.mul_nonneg z (õ hv0);lia
    have ne:u m≠t:=λz=>by
     have hrp:r=p i:=IA.hi r (p i) 'a' (by have:=CA.hp;exact È ‹_›) (by rw[hru,hA,z]);rw[hV,hrp]at hv0;have:=CA.neg;lia
    have zB:=S.z j hj hj2;have nzA:¬NZ P (T i) (u m):=by rw[<- hru];exact IA.held_nz 'a'
    have nzB:¬NZ P (T j) (u m):=λz=>nzA ((S.nz R hy i hi 'a').mpr ((S.nz R hy j hj 'a').mp z));have gz:(T j).L P.k m=0:=ą λz=>nzB ⟨m,hmn,eu.symm,z⟩;rcases CB.best m hmn ln with h|h
    all_goals grind
  .have eu:u m=(T j).h (p j):=Â hmn
   have eρ:ρ m=(T j).s:=Â hmn;rw[eρ]at hneg;have sB:=IB.pos;have hv:V<0:=by
    refine Int.not_le.mp λz=>?_;have:=Int.mul_nonneg (õ sB) z;lia
   have h1:=fromA hv;have h2:=S.e j hj hj2;have et:(T j).f (d j)=(T j).h (p j):=by rw[hB,<- eu];lia
   exact IB.fh (d j) (p j) CB.hd 'a' et
end
end Sx
namespace Sx
section
theorem Ϟ(R:JP P σ T p d l):∀(n x:Nat),x+n<=l->Fr P (T x) t->¬Fr P (T (x+n)) t->∃m,x<=m/\m<x+n/\(T m).f (d m)=t
 |0,x,_,h1,h2=>absurd h1 h2
 |n+1,x,hl,h1,h2=>by
  by_cases c:Fr P (T (x+n)) t
  .refine⟨x+n,by exact Nat.le_add_right _ _,by exact ë _,?_⟩
   refine ą λhne=>h2 ?_;rw[<- Nat.add_assoc,R.next (x+n) (by assumption),tN (R.ch _ (by assumption)) (R.inv_at _ 'a')]
   grind
  .obtain⟨m,h3,h4,h5⟩:=Ϟ R n x 'a' h1 c
   grind
theorem ϟ(R:JP P σ T p d l):∀(n x:Nat),x+n<=l->¬Fr P (T x) t->Fr P (T (x+n)) t->∃m,x<=m/\m<x+n/\(T m).h (p m)=t
 |0,x,_,h1,h2=>absurd h2 h1
 |n+1,x,hl,h1,h2=>by
  by_cases c:Fr P (T (x+n)) t
  .obtain⟨m,h3,h4,h5⟩:=ϟ R n x 'a' h1 c
   grind
  .refine⟨x+n,by exact Nat.le_add_right _ _,by exact ë _,?_⟩
   rw[<- Nat.add_assoc,R.next (x+n) (by assumption),tN (R.ch _ (by assumption)) (R.inv_at _ 'a')]at h2
   grind
def bd:Nat->Nat
 |0=>0
 |t+1=>2*bd t+1
theorem Ϡ(R:JP P σ T p d l):∀(t x y:Nat),y<=l->Ģ P T p d x y t->y-x<=bd t
 |0,x,y,hy,S=>by
  by_cases h:x<y
  .exact absurd (S.e x (Ç _) h) ∅
  .rw[bd];lia
 |t+1,x,y,hy,S=>by
  have sub:∀x' y',x<=x'->y'<=y->(∀m,x'<=m->m<y'->(T m).h (p m)≠t/\(T m).f (d m)≠t)->y'-x'<=bd t:=λx' y' h1 h2 h3=>Ϡ R t x' y' 'k' ⟨λm a b=>by
   have:=S.e m 'k' 'k'
   grind,λm a b=>by
   have:=S.g m 'k' 'k'
   grind,λm a b=>S.z m 'k' 'k'⟩
  by_cases ex:∃m,x<=m/\m<y/\((T m).h (p m)=t\/(T m).f (d m)=t)
  .obtain⟨m0,a0,b0,c0⟩:=ex
   have no2:∀m m',x<=m->m<m'->m'<y->((T m).h (p m)=t\/(T m).f (d m)=t)->((T m').h (p m')=t\/(T m').f (d m')=t)->False:=by
    intro m m' h1 h2 h3 c c';have IM:=R.inv_at m ∅;have CM:=R.ch m ∅;have IM':=R.inv_at m' 'k';have CM':=R.ch m' 'k';rcases c with c|c
    .rcases c' with c'|c'
     ·-- freed twice
      have f1:Fr P (T (m+1)) t:=by
       rw[R.next m ∅,tN CM IM];exact .inl c.symm
      have f2:¬Fr P (T (m+1+(m'-(m+1)))) t:=by
       rw[show m+1+(m'-(m+1))=m' by lia,<- c'];exact IM'.not_fr (by have:=CM'.hp;exact È ‹_›)
      let⟨q,q1,q2,q3⟩:=Ϟ R (m'-(m+1)) (m+1) ∅ f1 f2;exact NY R S hy h1 ∅ ∅ ∅ c q3
     .exact NY R S hy h1 'k' ∅ h3 c c'
    .rcases c' with c'|c'
     .exact NY R S hy ∅ h3 h1 'k' c' c
     .have f1:¬Fr P (T (m+1)) t:=by
       rw[R.next m ∅,tN CM IM];rintro(h|h)
       .exact IM.fh (d m) (p m) CM.hd (by have:=CM.hp;exact È ‹_›) (by rw[c,h])
       .exact h.2 c.symm
      have f2:Fr P (T (m+1+(m'-(m+1)))) t:=by
       rw[show m+1+(m'-(m+1))=m' by lia];exact⟨d m',CM'.hd,c'⟩
      let⟨q,q1,q2,q3⟩:=ϟ R (m'-(m+1)) (m+1) ∅ f1 f2;exact NY R S hy ∅ ∅ h1 ∅ q3 c
   have l1:=sub x m0 (Ç _) 'a' λm a b=>⟨λz=>no2 m m0 a b b0 (.inl z) c0,λz=>no2 m m0 a b b0 (.inr z) c0⟩;have l2:=sub (m0+1) y 'k' (Ç _) λm a b=>⟨λz=>no2 m0 m a0 (by assumption) b c0 (.inl z),λz=>no2 m0 m a0 (by assumption) b c0 (.inr z)⟩;rw[bd];lia
  .have:=sub x y (Ç _) (Ç _) λm a b=>⟨λz=>ex ⟨m,a,b,.inl z⟩,λz=>ex ⟨m,a,b,.inr z⟩⟩
   rw[bd];lia
theorem JP.fN(R:JP P σ T p d l)(hy:y<=l)(hz:∀m,x<=m->m<y->(T m).L P.k (d m)=0):y-x<=bd P.N:=Ϡ R P.N x y hy ⟨λm a b=>(R.inv_at m 'k').hN _ (R.ch m 'k').hp,λm a b=>(R.inv_at m 'k').fN _ (R.ch m 'k').hd,hz⟩
theorem ϡ(R:JP P σ T p d l)(hi:i<l):(T (i+1)).L P.k P.n*(T i).s=(T i).L P.k P.n*(T (i+1)).s+(T i).L P.k (d i)*(T i).L (p i) P.n:=by
 have I:=R.inv_at i 'a';have C:=R.ch i hi;have e:=(I.quotN C.hp C.hd (r:=P.k) (Ç _) (by have:=C.hp;exact Ü ‹_›)).1;rw[R.next i hi];show _=_*-(T i).L (p i) (d i)+_
 grind
theorem aHX{k0 k1 k2 s0 s1 s2 w:Int}(p0:0<s0)(p1:0<s1)(p2:0<s2)(e:k2*s1=k1*s2+w)(ih:k1*s0<=k0*s1)(le:w<=0):k2*s0<=k0*s2:=by
 have b1:k2*s0*s1=(k1*s0)*s2+w*s0:=by
  rw[Int.mul_right_comm,e,Int.add_mul,Int.mul_right_comm]
 have b2:(k1*s0)*s2<=(k0*s1)*s2:=ě ih (õ p2);have b3:w*s0<=0:=Int.mul_nonpos_of_nonpos_of_nonneg le (õ p0);rw[Int.mul_right_comm k0]at b2;have a1:k2*s0*s1<=k0*s2*s1:=by lia
 exact Int.le_of_mul_le_mul_right a1 p1
theorem aHY{k0 k1 k2 k3 s0 s1 s2 s3 w:Int}(p0:0<s0)(p1:0<s1)(p2:0<s2)(p3:0<s3)(b:k3*s2<=k2*s3)(e:k2*s1=k1*s2+w)(a:k1*s0<=k0*s1)(lt:w<0):k3*s0<k0*s3:=by
 -- k3 s2<=k2 s3;k2 s1=k1 s2+w;k1 s0<=k0 s1
 have s12:0<s1*s2:=Int.mul_pos p1 p2;have a1:k3*s0*(s1*s2)<k0*s3*(s1*s2):=by
  have b1:k3*s0*(s1*s2)=(k3*s2)*(s0*s1):=by grind
  have b2:(k3*s2)*(s0*s1)<=(k2*s3)*(s0*s1):=ě b (õ (Int.mul_pos p0 p1));have b3:(k2*s3)*(s0*s1)=(k2*s1)*(s0*s3):=by grind
  have b4:(k2*s1)*(s0*s3)=(k1*s0)*(s2*s3)+w*(s0*s3):=by rw[e];grind
  have b5:(k1*s0)*(s2*s3)<=(k0*s1)*(s2*s3):=ě a (õ (Int.mul_pos p2 p3));have b6:w*(s0*s3)<0:=Int.mul_neg_of_neg_of_pos lt (Int.mul_pos p0 p3);have b7:(k0*s1)*(s2*s3)=k0*s3*(s1*s2):=by grind
  lia
 simp_all
theorem EV(R:JP P σ T p d l):∀n,i+n<=l->(T (i+n)).L P.k P.n*(T i).s<=(T i).L P.k P.n*(T (i+n)).s
 |0,_=>Int.le_refl _
 |n+1,h=>by
  have ih:=EV R n (i:=i) 'a';have e:=ϡ R (i:=i+n) (by assumption);have C:=R.ch (i+n) (by assumption);have I:=R.inv_at (i+n) 'a';have I0:=R.inv_at i ∅;have I1:=R.inv_at (i+n+1) (by assumption);have g:=I.dual _ C.hd;have neg:=C.neg;have p0:=I0.pos;have p1:=I.pos;have p2:=I1.pos;have le:(T (i+n)).L P.k (d (i+n))*(T (i+n)).L (p (i+n)) P.n<=0:=Int.mul_nonpos_of_nonneg_of_nonpos g (by exact õ ‹_›);rw[<- Nat.add_assoc];exact aHX p0 p1 p2 e ih le
theorem aBR(R:JP P σ T p d l)(h1:i<=m)(h2:m<j)(h3:j<=l)(hnz:(T m).L P.k (d m)≠0):(T j).L P.k P.n*(T i).s<(T i).L P.k P.n*(T j).s:=by
 have a:=EV R (i:=i) (m-i) ∅;have b:=EV R (i:=m+1) (j-(m+1)) ∅;rw[show i+(m-i)=m by lia]at a;rw[show m+1+(j-(m+1))=j by lia]at b;have e:=ϡ R (i:=m) 'k';have C:=R.ch m 'k';have I:=R.inv_at m 'k';have p0:=(R.inv_at i ∅).pos;have p1:=I.pos;have p2:=(R.inv_at (m+1) 'k').pos;have p3:=(R.inv_at j (by assumption)).pos;have g:=I.dual _ C.hd;have neg:=C.neg;have lt:(T m).L P.k (d m)*(T m).L (p m) P.n<0:=Int.mul_neg_of_pos_of_neg ∅ neg;exact aHY p0 p1 p2 p3 b e a lt
theorem Q0(IA:Inv P σ A)(IB:Inv P σ B)(h:∀u,u<P.N->Fr P B u->Fr P A u):B.s*A.L P.k P.n=A.s*B.L P.k P.n:=by
 let u:Nat->Nat:=λm=>if m<P.n then B.f m else P.N;let ρ:Nat->Int:=λm=>if m<P.n then B.L P.k m else B.s;have stand:∀m,m<P.n+1->∃E,At P A (u m) E (if m<P.n then 0 else A.L P.k P.n):=λm hm=>by
  by_cases c:m<P.n
  .obtain⟨j,hj,e⟩:=h (B.f m) (IB.fN m c) ⟨m,c,rfl⟩
   refine⟨λi=>if i=j then -A.s else 0,?_⟩;rw[Á c];show At P A (if m<P.n then B.f m else P.N) _ 0;rw[Á c,<- e];exact EU hj
  .refine⟨A.L P.k,?_⟩
   rw[Â c];show At P A (if m<P.n then B.f m else P.N) _ _;rw[Â c,<- IA.hk];exact IA.at_held (Ç _)
 have ev:=IA.eval (q:=P.n+1) (ρ:=ρ) (u:=u) (E:=λm=>open Classical in if hm:m<P.n+1 then (stand m hm).choose else λ_=>0) (V:=λm=>if m<P.n then 0 else A.L P.k P.n) (ρ0:=B.L P.k P.n) (λm hm=>by
  grind) (λx hx=>by
  have e:=IB.cr P.k (Ç _) x hx;rw[IB.hk]at e;rw[aT];have e1:(aT P.n λm=>ρ m*P.a (u m) x)=aT P.n λm=>B.L P.k m*P.a (B.f m) x:=bG λm hm=>by
   grind
  grind) (by
  have e:=IB.lc P.k (Ç _);rw[IB.hk]at e;rw[aT];have e1:(aT P.n λm=>ρ m*P.c (u m))=aT P.n λm=>B.L P.k m*P.c (B.f m):=bG λm hm=>by
   grind
  grind)
 rw[aT,fU λm hm=>by rw[Á hm];lia]at ev
 grind
theorem Ϣ:∀(M:Nat)(g:Nat->Nat),(∀i,i<=M->g i<M)->∃i j,i<j/\j<=M/\g i=g j
 |0,g,h=>absurd (h 0 (Ç _)) ∅
 |M+1,g,h=>by
  by_cases ex:∃i,i<=M/\g i=g (M+1)
  .obtain⟨i,hi,e⟩:=ex
   exact⟨i,M+1,by grind,by exact ë _,e⟩
  .have hv:=h (M+1) (by exact ë _)
   let⟨i,j,h1,h2,h3⟩:=Ϣ M (λi=>if g i=M then g (M+1)else g i) λi hi=>by
    grind
   refine⟨i,j,h1,by grind,?_⟩
   grind
def code(b:Nat->Bool):Nat->Nat
 |0=>0
 |n+1=>2*code b n+(if b n=true then 1 else 0)
theorem N0 :∀n,code b n<2^n
 |0=>by simp[code]
 |n+1=>by
  have:=N0 (b:=b) n;rw[code,Nat.pow_succ];split<;>lia
theorem IL :∀n,code b n=code b' n->∀u,u<n->b u=b' u
 |0,_,u,hu=>by grind
 |n+1,e,u,hu=>by
  rw[code,code]at e;have hb:b n=b' n/\code b n=code b' n:=by
   cases h1:b n<;>cases h2:b' n<;>rw[h1,h2]at e<;>simp at e⊢<;>lia
  by_cases c:u=n
  .subst c;exact hb.1
  .exact IL n hb.2 u ∅
def most(N:Nat):Nat:=(2^N+1)*(bd N+1)
theorem JP.most(R:JP P σ T p d l):l<Sx.most P.N:=by
 refine Nat.lt_of_not_le λhl=>?_
 -- in each window the goal falls once
 have win:∀w,w<=2^P.N->∃m,w*(bd P.N+1)<=m/\m<(w+1)*(bd P.N+1)/\(T m).L P.k (d m)≠0:=λw hw=>by
  refine ą λno=>?_;have hle:(w+1)*(bd P.N+1)<=Sx.most P.N:=Nat.mul_le_mul_right _ 'k';have:=R.fN (x:=w*(bd P.N+1)) (y:=(w+1)*(bd P.N+1)) 'k' λm a b=>ą λz=>no ⟨m,a,b,z⟩
  grind
 let mm:Nat->Nat:=λw=>open Classical in if hw:w<=2^P.N then (win w hw).choose else 0;have mmS:∀w,w<=2^P.N->w*(bd P.N+1)<=mm w/\mm w<(w+1)*(bd P.N+1)/\(T (mm w)).L P.k (d (mm w))≠0:=λw hw=>by
  grind
 let fb:Nat->Nat->Bool:=λw u=>open Classical in decide (Fr P (T (mm w)) u);let⟨i,j,h1,h2,h3⟩:=Ϣ (2^P.N) (λw=>code (fb w) P.N) λw _=>N0 P.N;have si:=mmS i 'k';have sj:=mmS j h2;have hij:(i+1)*(bd P.N+1)<=j*(bd P.N+1):=Nat.mul_le_mul_right _ (by assumption);have hjl:(j+1)*(bd P.N+1)<=Sx.most P.N:=Nat.mul_le_mul_right _ 'k';have fl:=aBR R (i:=mm i) (m:=mm i) (j:=mm j) (Ç _) ∅ ∅ si.2.2;have sg:=Q0 (R.inv_at (mm i) ∅) (R.inv_at (mm j) ∅) λu hu hf=>by
  have e:=IL P.N h3 u hu
  grind
 grind
end
end Sx
namespace Sx
def shr(n:Nat)(f:Nat->Nat)(w:Nat->Int)(u:Nat):Int:=aT n λj=>if f j=u then w j else 0
theorem shr_at(hf:∀i j,i<n->j<n->f i=f j->i=j)(hj:j<n):shr n f w (f j)=w j:=by
 unfold shr;rw[cT (k:=j) hj λi hi hne=>Â λz=>hne (hf i j hi hj z),Á rfl]
theorem shr_no(h:∀j,j<n->f j≠u):shr n f w u=0:=fU λj hj=>Â (h j hj)
structure Lp where
 n:Nat
 m:Nat
 row:Nat->jW
 top:Nat->Int
 room:Nat->Int
def Lp.pr(Q:Lp):Pr where
 n:=Q.n
 k:=Q.m+Q.n
 N:=Q.n+Q.m+Q.n
 a:=λu x=>if u<Q.n then (if x=u then -1 else 0)else if u<Q.n+Q.m then Q.row (u-Q.n) x else if u<Q.n+Q.m+Q.n then (if x=u-(Q.n+Q.m)then 1 else 0)else 1
 c:=λu=>if u<Q.n then 0 else if u<Q.n+Q.m then Q.top (u-Q.n)else if u<Q.n+Q.m+Q.n then Q.room (u-(Q.n+Q.m))else 0
def Lp.start(Q:Lp):Tab where
 s:=1
 f:=λj=>j
 h:=λr=>Q.n+r
 L:=λr j=>if j<Q.n then Q.pr.a (Q.n+r) j else Q.pr.c (Q.n+r)
section
variable {Q:Lp}
theorem zI(h:i<Q.n):Q.pr.a i x=if x=i then -1 else 0:=Á h
theorem ϣ(h:r<Q.m):Q.pr.a (Q.n+r) x=Q.row r x:=by
 show (if Q.n+r<Q.n then _ else if Q.n+r<Q.n+Q.m then Q.row (Q.n+r-Q.n) x else _)=_
 grind
theorem WP(h:i<Q.n):Q.pr.a (Q.n+Q.m+i) x=if x=i then 1 else 0:=by
 show (if Q.n+Q.m+i<Q.n then _ else if Q.n+Q.m+i<Q.n+Q.m then _ else if Q.n+Q.m+i<Q.n+Q.m+Q.n then (if x=Q.n+Q.m+i-(Q.n+Q.m)then (1:Int)else 0)else _)=_
 grind
theorem LF:Q.pr.a Q.pr.N x=1:=by
 show (if Q.n+Q.m+Q.n<Q.n then _ else if Q.n+Q.m+Q.n<Q.n+Q.m then _ else if Q.n+Q.m+Q.n<Q.n+Q.m+Q.n then _ else (1:Int))=_
 grind
theorem WQ(h:i<Q.n):Q.pr.c i=0:=Á h
theorem Ϥ(h:r<Q.m):Q.pr.c (Q.n+r)=Q.top r:=by
 show (if Q.n+r<Q.n then _ else if Q.n+r<Q.n+Q.m then Q.top (Q.n+r-Q.n)else _)=_
 grind
theorem WR(h:i<Q.n):Q.pr.c (Q.n+Q.m+i)=Q.room i:=by
 show (if Q.n+Q.m+i<Q.n then _ else if Q.n+Q.m+i<Q.n+Q.m then _ else if Q.n+Q.m+i<Q.n+Q.m+Q.n then Q.room (Q.n+Q.m+i-(Q.n+Q.m))else _)=_
 grind
theorem WS:Q.pr.c Q.pr.N=0:=by
 show (if Q.n+Q.m+Q.n<Q.n then _ else if Q.n+Q.m+Q.n<Q.n+Q.m then _ else if Q.n+Q.m+Q.n<Q.n+Q.m+Q.n then _ else (0:Int))=_
 grind
theorem aBS:∀n:Nat,dD (n+1) (λj x=>if x=j then -1 else 0)=-dD n (λj x=>if x=j then -1 else 0):=λn=>by
 rw[dD,cT (k:=0) (by exact Ă _) λi hi hne=>by
  grind]
 have e:eZ (λj x=>if x=j then (-1:Int)else 0) 0=λj x=>if x=j then -1 else 0:=by
  funext r c;unfold eZ skip;rw[Â ∅];by_cases h:c=r
  .grind
  .grind
 rw[e];show ć 0*(if 0=0 then -1 else 0)*_=_;rw[Á rfl];show 1*-1*_=_;lia
theorem WT:∀n:Nat,dD n (λj x=>if x=j then -1 else 0)*dD n (λj x=>if x=j then -1 else 0)=1
 |0=>rfl
 |n+1=>by
  rw[aBS];have:=WT n
  grind
theorem Lp.inv(Q:Lp):Inv Q.pr (dD Q.n (λj x=>if x=j then -1 else 0)) Q.start:=by
 have sq:=WT Q.n;have eF:∀M:Nat->jW,(∀j x,j<Q.n->M j x=if x=j then -1 else 0)->dD Q.n M=dD Q.n (λj x=>if x=j then -1 else 0):=λM h=>lC λr c hr _=>h r c hr;have hF:∀j x,j<Q.n->Q.start.F Q.pr j x=if x=j then -1 else 0:=λj x hj=>zI hj;have dF:=eF (Q.start.F Q.pr) hF;have dU:∀(j:Nat)(v:jW),j<Q.n->dD Q.n (aX (Q.start.F Q.pr) j v)=-v j*dD Q.n (λj x=>if x=j then -1 else 0):=λj v hj=>by
  have e1:dD Q.n (aX (Q.start.F Q.pr) j v)=dD Q.n (aX (Q.start.F Q.pr) j λx=>aT Q.n λl=>-v l*Q.start.F Q.pr l x):=lC λr x hr hx=>by
   by_cases e:r=j
   .subst e
    rw[aM,aM,cT (k:=x) hx λl hl hne=>by grind,hF x x hx,Á rfl];lia
   .rw[aH e,aH e]
  rw[e1,wE hj,cT (k:=j) hj λl hl hne=>?_,hZ,dF];have:dD Q.n (aX (Q.start.F Q.pr) j (Q.start.F Q.pr l))=0:=wD hj hl (λz=>hne z.symm) λx=>by rw[aM,aH hne]
  rw[this];lia
 have Lj:∀r j,j<Q.n->Q.start.L r j=Q.pr.a (Q.n+r) j:=λr j hj=>Á hj;have Ln:∀r,Q.start.L r Q.n=Q.pr.c (Q.n+r):=λr=>Â ∅;have kN:Q.pr.k=Q.m+Q.n:=rfl;have NN:Q.pr.N=Q.n+Q.m+Q.n:=rfl;have nn:Q.pr.n=Q.n:=rfl;refine⟨sq,by show (0:Int)<1;decide,?_,?_,?_,?_,?_,?_,?_,?_,?_,?_,?_,?_⟩
 .show (1:Int)=_*dD Q.n (Q.start.F Q.pr)
  rw[dF,sq]
 .intro r _ j hj
  rw[Lj r j hj];show _=_*dD Q.n (aX (Q.start.F Q.pr) j (Q.pr.a (Q.n+r)));rw[dU j _ hj]
  grind
 .intro r _
  show Q.start.L r Q.n=1*Q.pr.c (Q.n+r)+aT Q.n λj=>Q.start.L r j*Q.pr.c j;rw[Ln,fU λj hj=>by rw[WQ hj];lia];lia
 .intro r _ x hx
  show 1*Q.pr.a (Q.n+r) x+(aT Q.n λj=>Q.start.L r j*Q.pr.a j x)=0;have hx:x<Q.n:=hx;rw[cT (k:=x) hx λl hl hne=>by rw[zI hl,Â λz=>hne z.symm];lia,zI hx,Á rfl,Lj r x hx];lia
 .exact λi j _ _ e=>e
 .intro r q _ _ e
  have e:Q.n+r=Q.n+q:=e;lia
 .intro j r hj _ e
  have e:j=Q.n+r:=e
  grind
 .show Q.n+(Q.m+Q.n)=Q.n+Q.m+Q.n
  lia
 .intro u hu
  rw[NN]at hu;by_cases h:u<Q.n
  .exact .inl ⟨u,h,rfl⟩
  .refine .inr ⟨u-Q.n,by rw[kN];lia,?_⟩
   show Q.n+(u-Q.n)=u;lia
 .intro j hj
  show j<Q.n+Q.m+Q.n
  grind
 .intro r hr
  show Q.n+r<Q.n+Q.m+Q.n
  grind
 .intro j hj
  rw[Lj _ j hj];have:Q.n+Q.pr.k=Q.pr.N:=by rw[kN,NN];lia
  rw[this,LF];decide
variable {σ:Int}{T:Tab}
def val(P:Pr)(T:Tab)(u:Nat):Int:=shr P.k T.h (λr=>T.L r P.n) u
theorem LG(I:Inv Q.pr σ T)(hu:u<Q.pr.N):∃E,At Q.pr T u E (val Q.pr T u):=by
 rcases I.all u hu with ⟨j,hj,e⟩|⟨r,hr,e⟩
 .have:val Q.pr T u=0:=shr_no λr hr z=>I.fh j r hj 'a' (by rw[e,z])
  rw[this,<- e];exact⟨_,EU hj⟩
 .have:val Q.pr T u=T.L r Q.pr.n:=by
   unfold val;rw[<- e];exact shr_at (λi j hi hj z=>I.hi i j 'a' 'a' z) hr
  rw[this,<- e];exact⟨_,I.at_held 'a'⟩
theorem aKV(I:Inv Q.pr σ T):(∀r,r<Q.m->val Q.pr T (Q.n+r)+(aT Q.n λx=>Q.row r x*val Q.pr T x)=T.s*Q.top r)/\(∀i,i<Q.n->val Q.pr T (Q.n+Q.m+i)+val Q.pr T i=T.s*Q.room i)/\T.L Q.pr.k Q.n+(aT Q.n λx=>val Q.pr T x)=0:=by
 have fillN:∀x,x<Q.n->x<Q.pr.N:=λx hx=>by show x<Q.n+Q.m+Q.n;lia
 -- a relation of the aKV and one more
 have rel:∀(u:Nat)(E:Nat->Int)(V:Int)(w:Nat->Int)(ρ0:Int),At Q.pr T u E V->(∀x,x<Q.n->Q.pr.a u x=w x)->Q.pr.c u=ρ0->V+(aT Q.n λx=>w x*val Q.pr T x)=T.s*ρ0:=λu E V w ρ0 hA ha hc=>by
  have ev:=I.eval (q:=Q.n+1) (ρ:=λm=>if m<Q.n then w m else 1) (u:=λm=>if m<Q.n then m else u) (E:=λm=>open Classical in if hm:m<Q.n then (LG I (fillN m hm)).choose else E) (V:=λm=>if m<Q.n then val Q.pr T m else V) (ρ0:=ρ0) (λm hm=>by
   grind) (λx hx=>by
   have hx:x<Q.n:=hx;rw[aT,Â ∅,Â ∅,ha x hx,cT (k:=x) hx λm hm hne=>by rw[Á hm,Á hm,zI hm,Â λz=>hne z.symm];lia,Á hx,Á hx,zI hx,Á rfl];lia) (by
   rw[aT,Â ∅,Â ∅,hc,fU λm hm=>by rw[Á hm,Á hm,WQ hm];lia];lia)
  rw[aT,Â ∅,Â ∅]at ev;have e1:(aT Q.n λm=>(if m<Q.n then w m else 1)*(if m<Q.n then val Q.pr T m else V))=aT Q.n λx=>w x*val Q.pr T x:=bG λm hm=>by rw[Á hm,Á hm]
  rw[e1]at ev;lia
 refine⟨λr hr=>?_,λi hi=>?_,?_⟩
 .obtain⟨E,hA⟩:=LG I (u:=Q.n+r) (by show Q.n+r<Q.n+Q.m+Q.n;lia)
  exact rel _ E _ (Q.row r) (Q.top r) hA (λx _=>ϣ hr) (Ϥ hr)
 .obtain⟨E,hA⟩:=LG I (u:=Q.n+Q.m+i) (by show Q.n+Q.m+i<Q.n+Q.m+Q.n;lia)
  have:=rel _ E _ (λx=>if x=i then 1 else 0) (Q.room i) hA (λx _=>WP hi) (WR hi);rw[cT (k:=i) hi λx _ hne=>by rw[Â hne];lia,Á rfl]at this;lia
 .have hA:=I.at_held (r:=Q.pr.k) (Ç _)
  rw[I.hk]at hA;have:=rel _ _ _ (λ_=>1) 0 hA (λx _=>LF) WS;have e:(aT Q.n λx=>1*val Q.pr T x)=aT Q.n λx=>val Q.pr T x:=bG λx _=>by lia
  rw[e]at this;have this:T.L Q.pr.k Q.n+(aT Q.n λx=>val Q.pr T x)=T.s*0:=this;lia
end
end Sx
namespace Sx
theorem simplex_ind{P:Pr}{σ:Int}{Good:Tab->Prop}(step:∀T,Inv P σ T->(∀p d,Ch P T p d->Good (swap T p d))->Good T)(T:Tab)(I:Inv P σ T):Good T:=by
 refine ą λh=>?_;have nx:∀B:{T:Tab // Inv P σ T/\¬Good T},∃pd:Nat×Nat,Ch P B.1 pd.1 pd.2/\¬Good (swap B.1 pd.1 pd.2):=λB=>by
  refine ą λz=>B.2.2 (step B.1 B.2.1 λp d C=>?_);exact ą λg=>z ⟨(p,d),C,g⟩
 let nxt:{T:Tab // Inv P σ T/\¬Good T}->{T:Tab // Inv P σ T/\¬Good T}:=λB=>⟨swap B.1 (nx B).choose.1 (nx B).choose.2,(nx B).choose_spec.1.inv B.2.1,(nx B).choose_spec.2⟩;let sq:Nat->{T:Tab // Inv P σ T/\¬Good T}:=λi=>Nat.rec ⟨T,I,h⟩ (λ_ B=>nxt B) i;have R:JP P σ (λi=>(sq i).1) (λi=>(nx (sq i)).choose.1) (λi=>(nx (sq i)).choose.2) (most P.N):=⟨I,λi _=>(nx (sq i)).choose_spec.1,λi _=>rfl⟩;exact absurd R.most (ù _)
structure LT where
 s:Int
 free:ZK
 held:ZK
 lines:List (ZK)
 goal:ZK
structure LnR(n:Nat)(ln:ZK)(g:Nat->Int):Prop where
 len:ln.length=n+1
 at':∀j,j<=n->ln[j]?=some (g j)
theorem LnR.getD(h:LnR n ln g)(hj:j<=n):ln.getD j 0=g j:=by
 rw[Ê,h.at' j hj];rfl
structure Rp(P:Pr)(L:LT)(T:Tab):Prop where
 s:L.s=T.s
 fl:L.free.length=P.n
 hl:L.held.length=P.k
 ll:L.lines.length=P.k
 f:∀j,j<P.n->L.free[j]?=some (T.f j:Int)
 h:∀r,r<P.k->L.held[r]?=some (T.h r:Int)
 l:∀r,r<P.k->∃ln,L.lines[r]?=some ln/\LnR P.n ln (T.L r)
 g:LnR P.n L.goal (T.L P.k)
def clearL(ln pv:ZK)(d:Nat)(s:Int):ZK:=(List.zipWith (λone other=>(-pv.getD d 0*one+ln.getD d 0*other)/s) ln pv).set d (ln.getD d 0)
def turnL(pv:ZK)(d:Nat)(s:Int):ZK:=(pv.map λx=>-x).set d (-s)
def swapL(L:LT)(p d:Nat):LT where
 s:=-(L.lines.getD p []).getD d 0
 free:=L.free.set d (L.held.getD p 0)
 held:=L.held.set p (L.free.getD d 0)
 lines:=(L.lines.map λln=>clearL ln (L.lines.getD p []) d L.s).set p (turnL (L.lines.getD p []) d L.s)
 goal:=clearL L.goal (L.lines.getD p []) d L.s
theorem IN{ln pv:ZK}(ha:LnR n ln a)(hb:LnR n pv b)(hd:d<=n):LnR n (clearL ln pv d s) λj=>if j=d then a d else (-b d*a j+a d*b j)/s:=by
 refine⟨by unfold clearL;rw[Ù,List.length_zipWith,ha.len,hb.len,Nat.min_self],λj hj=>?_⟩
 unfold clearL;rw[č,ha.getD hd,hb.getD hd];by_cases e:d=j
 .rw[Á e,Á (by rw[List.length_zipWith,ha.len,hb.len,Nat.min_self];exact Nat.lt_succ_of_le ‹_›)]
  grind
 .rw[Â e,List.getElem?_zipWith,ha.at' j hj,hb.at' j hj]
  show _=some (if j=d then _ else _);rw[Â (Ð e)]
theorem aBT{pv:ZK}(hb:LnR n pv b)(hd:d<=n):LnR n (turnL pv d s) λj=>if j=d then -s else -b j:=by
 refine⟨by unfold turnL;rw[Ù,Ä,hb.len],λj hj=>?_⟩
 unfold turnL;rw[č];by_cases e:d=j
 .rw[Á e,Á (by rw[Ä,hb.len];exact Nat.lt_succ_of_le ‹_›)]
  grind
 .rw[Â e,Ñ,hb.at' j hj]
  grind
theorem Rp.swap(R:Rp P L T)(hp:p<P.k)(hd:d<P.n):Rp P (swapL L p d) (swap T p d):=by
 let⟨pv,e1,e2⟩:=R.l p hp;have eP:L.lines.getD p []=pv:=by rw[Ê,e1];rfl
 have eH:L.held.getD p 0=T.h p:=by rw[Ê,R.h p hp];rfl
 have eF:L.free.getD d 0=T.f d:=by rw[Ê,R.f d hd];rfl
 refine⟨?_,by show (L.free.set _ _).length=_;rw[Ù,R.fl],by show (L.held.set _ _).length=_;rw[Ù,R.hl],by show ((L.lines.map _).set _ _).length=_;rw[Ù,Ä,R.ll],λj hj=>?_,λr hr=>?_,λr hr=>?_,?_⟩
 .show -(L.lines.getD p []).getD d 0=-T.L p d
  rw[eP,e2.getD 'a']
 .show (L.free.set d (L.held.getD p 0))[j]?=some ((if j=d then T.h p else T.f j:Nat):Int)
  rw[č,eH];by_cases e:d=j
  .rw[Á e,Á (by rw[R.fl];assumption),Á e.symm]
  .rw[Â e,Â (Ð e),R.f j hj]
 .show (L.held.set p (L.free.getD d 0))[r]?=some ((if r=p then T.f d else T.h r:Nat):Int)
  rw[č,eF];by_cases e:p=r
  .rw[Á e,Á (by rw[R.hl];assumption),Á e.symm]
  .rw[Â e,Â (Ð e),R.h r hr]
 .show ∃ln,((L.lines.map λln=>clearL ln (L.lines.getD p []) d L.s).set p (turnL (L.lines.getD p []) d L.s))[r]?=some ln/\LnR P.n ln (λj=>if r=p then (if j=d then -T.s else -T.L p j)else (if j=d then T.L r d else (-T.L p d*T.L r j+T.L r d*T.L p j)/T.s))
  rw[č,eP,R.s];by_cases e:p=r
  .rw[Á e,Á 'k']
   refine⟨_,rfl,?_⟩;have:=aBT (s:=T.s) e2 (d:=d) 'a'
   grind
  .obtain⟨ln,h1,h2⟩:=R.l r hr
   rw[Â e,Ñ,h1];refine⟨_,rfl,?_⟩;simp![Â (Ð e)];exact IN h2 e2 'a'
 .show LnR P.n (clearL L.goal (L.lines.getD p []) d L.s) (λj=>if P.k=p then (if j=d then -T.s else -T.L p j)else (if j=d then T.L P.k d else (-T.L p d*T.L P.k j+T.L P.k d*T.L p j)/T.s))
  simp![Â (show ¬P.k=p by exact Ü ‹_›)];rw[eP,R.s];exact IN R.g e2 'a'
def startL(Æ:ZE)(Ã:ZK):LT where
 s:=1
 free:=(List.range Ã.length).map λ(i:Nat)=>(i:Int)
 held:=(List.range (Æ.length+Ã.length)).map λ(i:Nat)=>((Ã.length+i:Nat):Int)
 lines:=(Æ.map λr=>r.1++[r.2])++(List.range Ã.length).map λ(i:Nat)=>((List.replicate Ã.length 0).set i 1)++[Ã.getD i 0]
 goal:=List.replicate Ã.length 1++[0]
def lpOf(Æ:ZE)(Ã:ZK):Lp where
 n:=Ã.length
 m:=Æ.length
 row:=λr x=>(Æ.getD r ([],0)).1.getD x 0
 top:=λr=>(Æ.getD r ([],0)).2
 room:=λi=>Ã.getD i 0
theorem LnR.snoc{v:Nat->Int}(h1:a.length=n)(h2:∀j,j<n->a[j]?=some (v j))(h3:v n=b):LnR n (a++[b]) v:=⟨by rw[Ë,h1];rfl,λj hj=>by
 by_cases c:j<n
 .rw[î (by rw[h1];exact c)]
  exact h2 j c
 .obtain rfl:n=j:=Nat.le_antisymm (ç.mp c) hj
  rw[Þ (by rw[h1];exact Ç _),h1,ú,h3];rfl⟩
theorem start_ok(hr:∀r∈Æ,r.1.length=Ã.length):Rp (lpOf Æ Ã).pr (startL Æ Ã) (lpOf Æ Ã).start:=by
 have L1:∀r j,j<Ã.length->(lpOf Æ Ã).start.L r j=(lpOf Æ Ã).pr.a (Ã.length+r) j:=λr j hj=>Á hj;have L2:∀r,(lpOf Æ Ã).start.L r Ã.length=(lpOf Æ Ã).pr.c (Ã.length+r):=λr=>Â (ù _);have lm:(Æ.map λr=>r.1++[r.2]).length=Æ.length:=Ä ..;have lr:∀{f:Nat->ZK},((List.range Ã.length).map f).length=Ã.length:=λ{f}=>by rw[Ä,List.length_range]
 refine⟨rfl,by show ((List.range _).map _).length=Ã.length;rw[Ä,List.length_range],by show ((List.range _).map _).length=Æ.length+Ã.length;rw[Ä,List.length_range],by show List.length (_++_)=Æ.length+Ã.length;rw[Ë,lm,lr],λj hj=>?_,λr hr'=>?_,λr hr'=>?_,?_⟩
 .show ((List.range Ã.length).map _)[j]?=_
  rw[Ñ,ÿ (n:=Ã.length) hj];rfl
 .show ((List.range (Æ.length+Ã.length)).map _)[r]?=_
  rw[Ñ,ÿ (n:=Æ.length+Ã.length) hr'];rfl
 .show ∃ln,(List.append _ _)[r]?=some ln/\LnR Ã.length ln _
  rw[List.append_eq];by_cases c:r<Æ.length
  .have hg:Æ.getD r ([],0)=Æ[r]:=by rw[Ê,É c];rfl
   have hl:=hr Æ[r] (Đ c);rw[î (by rw[lm];exact c),Ñ,É c];refine⟨_,rfl,LnR.snoc hl (λj hj=>?_) ?_⟩
   .rw[L1 r j hj,show (lpOf Æ Ã).pr.a (Ã.length+r) j=_ from ϣ (Q:=lpOf Æ Ã) c]
    show _=some ((Æ.getD r ([],0)).1.getD j 0);rw[hg,Ê,É (by rw[hl];exact hj)];rfl
   .rw[L2,show (lpOf Æ Ã).pr.c (Ã.length+r)=_ from Ϥ (Q:=lpOf Æ Ã) c]
    show (Æ.getD r ([],0)).2=_;rw[hg]
  .obtain⟨i,rfl⟩:=Nat.exists_eq_add_of_le (ç.mp c)
   have ci:i<Ã.length:=Nat.lt_of_add_lt_add_left hr';rw[Þ (by rw[lm];exact Nat.le_add_right _ _),lm,Nat.add_sub_cancel_left,Ñ,ÿ ci];refine⟨_,rfl,LnR.snoc (by rw[Ù,ñ]) (λj hj=>?_) ?_⟩
   .rw[L1 _ j hj,<- Nat.add_assoc,show (lpOf Æ Ã).pr.a (Ã.length+Æ.length+i) j=_ from WP (Q:=lpOf Æ Ã) ci,č,ă,ñ]
    by_cases e:i=j
    .rw[Á e,Á ci,Á e.symm]
    .rw[Â e,Á hj,Â (Ð e)]
   .rw[L2,<- Nat.add_assoc,show (lpOf Æ Ã).pr.c (Ã.length+Æ.length+i)=_ from WR (Q:=lpOf Æ Ã) ci]
    rfl
 .have eN:Ã.length+(lpOf Æ Ã).pr.k=(lpOf Æ Ã).pr.N:=(Nat.add_assoc _ _ _).symm
  refine LnR.snoc (n:=Ã.length) (ñ ..) (λj hj=>?_) ?_
  .rw[L1 _ j hj,eN,LF,ă,Á hj]
  .rw[L2,eN,WS]
end Sx
namespace Sx
def BestC(G l:Nat->Int)(f:Nat->Nat)(j:Nat):Option Nat->Prop
 |none=>∀i,i<j->0<=l i
 |some b=>b<j/\l b<0/\∀i,i<j->l i<0->(G b*-l i<G i*-l b\/(G b*-l i=G i*-l b/\f b<=f i))
section
theorem BestC.zero:BestC G l f 0 none:=λi hi=>by grind
theorem BestC.skip(h:BestC G l f j o)(hj:¬l j<0):BestC G l f (j+1) o:=by
 cases o with
 |none=>
  intro i hi;by_cases e:i=j
  .grind
  .exact h i ∅
 |some b=>
  let⟨h1,h2,h3⟩:=h;refine⟨by grind,h2,λi hi hn=>?_⟩
  grind
theorem BestC.first(h:BestC G l f j none)(hj:l j<0):BestC G l f (j+1) (some j):=by
 refine⟨by exact ë _,hj,λi hi hn=>?_⟩;by_cases e:i=j
 .grind
 .exact absurd (h i ∅) ∅
theorem BestC.worse(h:BestC G l f j (some b))(na:¬(G j*-l b<G b*-l j\/(G j*-l b=G b*-l j/\f j<f b))):BestC G l f (j+1) (some b):=by
 let⟨h1,h2,h3⟩:=h;refine⟨by grind,h2,λi hi hn=>?_⟩;by_cases e:i=j
 .subst e
  generalize hx:G i*-l b=x at na⊢;generalize hy:G b*-l i=y at na⊢;omega
 .exact h3 i ∅ hn
theorem B5{A B C a b c:Int}(ha:0<a)(hb:0<b)(hc:0<c)(h1:A*b<=B*a)(h2:B*c<=C*b):A*c<=C*a:=by
 have e1:A*b*c<=B*a*c:=ě h1 (by exact õ ‹_›);have e2:B*c*a<=C*b*a:=ě h2 (by exact õ ‹_›);have e3:(A*c)*b<=(C*a)*b:=by
  have p1:A*b*c=(A*c)*b:=by grind
  have p2:B*a*c=B*c*a:=by grind
  have p3:C*b*a=(C*a)*b:=by grind
  lia
 simp_all
theorem Q1{A B C a b c:Int}(ha:0<a)(hb:0<b)(hc:0<c)(h1:A*b<=B*a)(h2:B*c<=C*b)(h:A*b<B*a\/B*c<C*b):A*c<C*a:=by
 have p1:A*b*c=(A*c)*b:=by grind
 have p2:B*a*c=B*c*a:=by grind
 have p3:C*b*a=(C*a)*b:=by grind
 have e1:A*b*c<=B*a*c:=ě h1 (by exact õ ‹_›);have e2:B*c*a<=C*b*a:=ě h2 (by exact õ ‹_›);have e3:(A*c)*b<(C*a)*b:=by
  rcases h with h|h
  .have e4:A*b*c<B*a*c:=Int.mul_lt_mul_of_pos_right h hc
   lia
  .have e4:B*c*a<C*b*a:=Int.mul_lt_mul_of_pos_right h ha
   lia
 simp_all
theorem BestC.better(h:BestC G l f j (some b))(hj:l j<0)(ha:G j*-l b<G b*-l j\/(G j*-l b=G b*-l j/\f j<f b)):BestC G l f (j+1) (some j):=by
 let⟨h1,h2,h3⟩:=h;refine⟨by exact ë _,hj,λi hi hn=>?_⟩;by_cases e:i=j
 .grind
 .have q:=h3 i ∅ hn
  have L1:G j*-l b<=G b*-l j:=by rcases ha with z|z<;>lia
  have L2:G b*-l i<=G i*-l b:=by rcases q with z|z<;>lia
  by_cases s:G j*-l b<G b*-l j\/G b*-l i<G i*-l b
  .exact .inl (Q1 ∅ ∅ ∅ L1 L2 s)
  .have s1:G j*-l b=G b*-l j:=by lia
   have s2:G b*-l i=G i*-l b:=by lia
   have le:=B5 ∅ ∅ ∅ L1 L2;have ge:=B5 (A:=G i) (B:=G b) (C:=G j) (a:=-l i) (b:=-l b) (c:=-l j) ∅ ∅ ∅ ∅ ∅;refine .inr ⟨by omega,?_⟩
   grind
end
theorem ch_of(hp:p<P.k)(neg:T.L p P.n<0)(first:∀r,r<P.k->T.L r P.n<0->T.h p<=T.h r)(hb:BestC (T.L P.k) (T.L p) T.f P.n (some d)):Ch P T p d:=⟨hp,neg,first,hb.1,hb.2.1,hb.2.2⟩
end Sx
namespace Sx
theorem zJ{X:Int}(hX:0<=X):∀{n:Nat}{f:Nat->Int},(∀i,i<n->(f i).natAbs<=X.natAbs)->(aT n f).natAbs<=n*X.natAbs
 |0,_,_=>by simp[aT]
 |n+1,f,h=>by
  rw[aT];have h1:=zJ hX (n:=n) (f:=f) λi hi=>h i (by exact Nat.lt_succ_of_lt ‹_›);have h2:=h n (by exact ë _);have h3:=Int.natAbs_add_le (aT n f) (f n);rw[Nat.add_mul];lia
theorem aBU(i:Nat):(ć i).natAbs=1:=by
 unfold ć;split<;>rfl
def fac:Nat->Nat
 |0=>1
 |n+1=>(n+1)*fac n
theorem EW :∀{n:Nat}{M:Nat->jW},(∀r c,r<n->c<n->(M r c).natAbs<=B)->(dD n M).natAbs<=fac n*B^n
 |0,M,_=>by simp[dD,fac]
 |n+1,M,h=>by
  rw[dD];have key:∀i,i<n+1->(ć i*M i 0*dD n (eZ M i)).natAbs<=((B*(fac n*B^n):Nat):Int).natAbs:=λi hi=>by
   have ih:=EW (B:=B) (n:=n) (M:=eZ M i) λr c hr hc=>by
    unfold eZ;refine h _ _ ?_ (by exact Nat.succ_lt_succ ‹_›);unfold skip;split<;>lia
   rw[Int.natAbs_mul,Int.natAbs_mul,Int.natAbs_natCast];have h1:(ć i).natAbs=1:=aBU i;rw[h1,Nat.one_mul];exact Nat.mul_le_mul (h i 0 hi (by exact Ă _)) ih
  have:=zJ (X:=((B*(fac n*B^n):Nat):Int)) ∅ key;rw[Int.natAbs_natCast]at this;refine Ø this (ø ?_);rw[fac,Nat.pow_succ]
  grind
theorem Inv.small(I:Inv P σ T)(ha:∀u x,u<=P.N->x<P.n->(P.a u x).natAbs<=A)(hc:∀u,u<=P.N->(P.c u).natAbs<=C):
  T.s.natAbs<=fac P.n*A^P.n/\(∀r j,r<=P.k->j<P.n->(T.L r j).natAbs<=fac P.n*A^P.n)/\∀r,r<=P.k->(T.L r P.n).natAbs<=(P.n+1)*(fac P.n*A^P.n*C):=by
 have sg:σ.natAbs=1:=by
  have:=congrArg Int.natAbs I.sg;rw[Int.natAbs_mul]at this;have h1:(1:Int).natAbs=1:=rfl;rw[h1]at this;exact Nat.eq_one_of_mul_eq_one_left this
 have hN:∀r,r<=P.k->T.h r<=P.N:=λr hr=>by
  by_cases e:r=P.k
  .rw[e,I.hk];exact Ç _
  .exact È (I.hN r (by exact Nat.lt_of_le_of_ne ‹_› ‹_›))
 have hs:T.s.natAbs<=fac P.n*A^P.n:=by
  rw[I.sd,Int.natAbs_mul,sg,Nat.one_mul];exact EW λr c hr hcn=>ha _ _ (È (I.fN r hr)) hcn
 have hl:∀r j,r<=P.k->j<P.n->(T.L r j).natAbs<=fac P.n*A^P.n:=λr j hr hj=>by
  rw[I.ld r hr j hj,Int.natAbs_mul,Int.natAbs_neg,sg,Nat.one_mul];refine EW λq c hq hcn=>?_;by_cases e:q=j
  .subst e;rw[aM];exact ha _ _ (hN r hr) hcn
  .rw[aH e];exact ha _ _ (È (I.fN q hq)) hcn
 refine⟨hs,hl,λr hr=>?_⟩;rw[I.lc r hr];have h1:(T.s*P.c (T.h r)).natAbs<=fac P.n*A^P.n*C:=by
  rw[Int.natAbs_mul];exact Nat.mul_le_mul hs (hc _ (hN r hr))
 have h2:=zJ (X:=((fac P.n*A^P.n*C:Nat):Int)) ∅ (n:=P.n) (f:=λj=>T.L r j*P.c (T.f j)) λj hj=>by
  rw[Int.natAbs_mul,Int.natAbs_natCast];exact Nat.mul_le_mul (hl r j hr hj) (hc _ (È (I.fN j hj)))
 rw[Int.natAbs_natCast]at h2;have h3:=Int.natAbs_add_le (T.s*P.c (T.h r)) (aT P.n λj=>T.L r j*P.c (T.f j));rw[Nat.add_mul];lia
end Sx
namespace L2
open PySem PySem.Spec
theorem kE(h:∀(K M L:ZO)(S:D->ZO),(∀δ,I δ->K δ)->(∀d δ,R d δ->S d δ)->bO u δ K M L S):bO u δ I N C R:=h I N C R (λ_=>id) λ_ _=>id
theorem lE{d:D}(h:aV f δ λa δ1=>a=d/\δ1=δ2):f δ=.ok d δ2:=by
 let⟨a,δ1,e,rfl,rfl⟩:=h.ex;exact e
end L2
namespace Toy
open PySem L2
theorem FR(a b:Nat):Nat.gcd b (a % b)=Nat.gcd a b:=by
 rw[Nat.gcd_comm b,<- Nat.gcd_rec,Nat.gcd_comm]
theorem aBV{a b:Nat}(h:0<b):DC (.int a) (.int b)=some (.int ((a % b:Nat):Int)):=by
 rw[GK ∅];rfl
theorem N1:∀(n a b:Nat)(o:ZL),b<=n->∃o',fC (dB (iW wZ (bD 1) (dC (.int 0)))) (dW (fL 2 (iW DC (bD 0) (bD 1))) (dW (fL 0 (bD 1)) (fL 1 (bD 2)))) [some (.int a),some (.int b),o]=.ok .next [some (.int (Nat.gcd a b:Nat)),some (.int 0),o']
 |n,a,0,o,_=>⟨o,by
  rw[eQ];have:dB (iW wZ (bD 1) (dC (.int 0))) [some (.int a),some (.int (0:Nat)),o]=.ok false [some (.int a),some (.int (0:Nat)),o]:=pQ (iI (cX rfl) hU rfl);rw[this,Nat.gcd_zero_right];rfl⟩
 |0,a,b+1,o,h=>absurd h (by exact absurd ‹_› (Nat.not_lt_zero _))
 |n+1,a,b+1,o,h=>by
  let⟨o',ih⟩:=N1 n (b+1) (a % (b+1)) (some (.int ((a % (b+1):Nat):Int))) (by have:=Nat.mod_lt a (show 0<b+1 by exact Ă _);lia);refine⟨o',?_⟩;rw[eQ];have c:dB (iW wZ (bD 1) (dC (.int 0))) [some (.int a),some (.int (b+1:Nat)),o]=.ok true [some (.int a),some (.int (b+1:Nat)),o]:=by
   refine pQ (iI (cX rfl) hU ?_);rw[MK];have:¬((b+1:Nat):Int)=0:=by lia
   simp;assumption
  rw[c];simp![aW,if_true];have e:dW (fL 2 (iW DC (bD 0) (bD 1))) (dW (fL 0 (bD 1)) (fL 1 (bD 2))) [some (.int a),some (.int (b+1:Nat)),o]=.ok .next [some (.int (b+1:Nat)),some (.int ((a % (b+1):Nat):Int)),some (.int ((a % (b+1):Nat):Int))]:=by
   simp![dW,fL,iW,bD,List.getElem?_cons_zero,List.getElem?_cons_succ,aW,aBV (show 0<b+1 by exact Ă _)];rfl
  rw[e];simp![aW];rw[ih,FR]
theorem aHZ(hb:body=dW (fC (dB (iW wZ (bD 1) (dC (.int 0)))) (dW (fL 2 (iW DC (bD 0) (bD 1))) (dW (fL 0 (bD 1)) (fL 1 (bD 2))))) (t8 (bD 0)))(a b:Nat):aP 3 [] 0 body [.int a,.int b]=.ok (.int (Nat.gcd a b:Nat)) []:=by
 subst hb;let⟨o,h⟩:=N1 b a b none (Ç _);refine aR (os:=[]) ?_;refine TU (bO.of (fl:=.next) h ?_);dsimp![TR];exact aGC (aV.of (cX rfl) ⟨rfl,rfl⟩)
theorem aKW(a b:Nat):jB [.int a,.int b]=.ok (.int (Nat.gcd a b:Nat)) []:=aHZ rfl a b
def fr(p:Int×Int):D:=.tuple [.int p.1,.int p.2]
abbrev vS(ps:ZF):D:=.list (ps.map fr)
def dv(t b:Int):Int:=if b<0 then -(Nat.gcd t.natAbs b.natAbs:Int)else (Nat.gcd t.natAbs b.natAbs:Int)
theorem IP(hb:b≠0)(hl:(dv t b).natAbs.log2<9000):mC [.int t,.int b]=.ok (.tuple [.int (t.fdiv (dv t b)),.int (b.fdiv (dv t b))]) []:=by
 have hg:0<Nat.gcd t.natAbs b.natAbs:=Nat.gcd_pos_of_pos_right _ ∅;have h0:dv t b≠0:=by unfold dv;split<;>lia
 have f1:∀i:Int,GG (.int i) (.int (dv t b))=some (.int (i.fdiv (dv t b))):=λi=>Á ⟨h0,hl⟩;refine aR (os:=[]) ?_;show bO qP [some (.int t),some (.int b),none] _ _ _ _;unfold qP;dsimp? [hb,aKW,decide_eq_true_eq];by_cases hn:b<0
 .have e:dv t b=-(Nat.gcd t.natAbs b.natAbs:Int):=by unfold dv;rw[Á hn]
  rw[e]at f1⊢;dsimp? [hn,f1]
 .have e:dv t b=(Nat.gcd t.natAbs b.natAbs:Int):=by unfold dv;rw[Â hn]
  rw[e]at f1⊢;dsimp? [hn,f1]
end Toy
namespace L2
open PySem PySem.Spec
theorem zK{α:Type}{enc g:α->D}{e:M D}{δ:DS}:∀{xs:List α}{acc:ZI}{o:ZL},(∀x∈xs,e (some (enc x)::δ)=.ok (g x) (some (enc x)::δ))->acc.length+xs.length<=sizeLine->∃o',bQ (eK 0) eG e (xs.map enc) acc (o::δ)=.ok (acc++xs.map g) (o'::δ)
 |[],acc,o,_,_=>⟨o,by simp[bQ]⟩
 |x::xs,acc,o,h,hl=>by
  have hd:=h x Ó;rw[Õ]at hl;let⟨o',ih⟩:=zK (xs:=xs) (acc:=acc++[g x]) (o:=some (enc x)) (λy hy=>h y (Ï _ hy)) (by simp;lia);refine⟨o',?_⟩;rw[Î];unfold bQ;have e1:eK 0 (enc x) (o::δ)=some (some (enc x)::δ):=by simp[eK]
  rw[e1];show Res.bind (eG (some (enc x)::δ)) _=_;simp![eG,Res.bind,if_true,hd];rw[Á ∅,ih];simp
theorem cU{α:Type}{enc g:α->D}{xs:List α}{f:M (ZI)}{e:M D}{δ:DS}(hf:f δ=.ok (xs.map enc) δ)(hl:xs.length<=1000)(he:∀x∈xs,aV e (some (enc x)::δ) λa δ1=>a=g x/\δ1=some (enc x)::δ):dZ 1 (eK 0) f eG e δ=.ok (.list (xs.map g)) δ:=by
 unfold dZ;rw[hf];let⟨o',h⟩:=zK (acc:=[]) (o:=none) (λx hx=>c8 (he x hx)) (Ø (by simpa using hl) (show 1000<=sizeLine by decide));simp![Res.bind];rw[show List.replicate 1 (none:ZL)++δ=none::δ from rfl,h];simp
theorem oR{α:Type}{enc A B g:α->D}{xs:List α}{f:M (ZI)}{e:M D}{δ:DS}(hE:∀x,enc x=.tuple [A x,B x])(hf:f δ=.ok (xs.map enc) δ)(hl:xs.length<=1000)(he:∀x∈xs,aV e (some (A x)::some (B x)::δ) λv δ1=>v=g x/\δ1=some (A x)::some (B x)::δ):dZ 2 (t9 [0,1]) f eG e δ=.ok (.list (xs.map g)) δ:=by
 have main:∀(xs:List α)(acc:ZI)(o1 o2:ZL),(∀x∈xs,e (some (A x)::some (B x)::δ)=.ok (g x) (some (A x)::some (B x)::δ))->acc.length+xs.length<=sizeLine->∃o1' o2',bQ (t9 [0,1]) eG e (xs.map enc) acc (o1::o2::δ)=.ok (acc++xs.map g) (o1'::o2'::δ):=by
  intro xs
  induction xs with
  |nil=>exact λacc o1 o2 _ _=>⟨o1,o2,by simp[bQ]⟩
  |cons x xs ih=>
   intro acc o1 o2 h hl;have hd:=h x Ó;rw[Õ]at hl;let⟨o1',o2',ih⟩:=ih (acc++[g x]) (some (A x)) (some (B x)) (λy hy=>h y (Ï _ hy)) (by simp;lia);refine⟨o1',o2',?_⟩;rw[Î];unfold bQ;have e1:t9 [0,1] (enc x) (o1::o2::δ)=some (some (A x)::some (B x)::δ):=by rw[hE];simp[t9,eK]
   rw[e1];show Res.bind (eG (some (A x)::some (B x)::δ)) _=_;simp![eG,Res.bind,if_true,hd];rw[Á ∅,ih];simp
 unfold dZ;rw[hf];let⟨o1,o2,h⟩:=main xs [] none none (λx hx=>c8 (he x hx)) (Ø (by simpa using hl) (show 1000<=sizeLine by decide));simp![Res.bind];rw[show List.replicate 2 (none:ZL)++δ=none::none::δ from rfl,h];simp
theorem bW(h:aV f δ λa δ1=>a=.list ds/\δ1=δ):j5 f δ=.ok ds δ:=by
 unfold j5;rw[c8 h];rfl
theorem N2{α:Type}{h:α->Bool}:∀{xs:List α},sD (xs.map λx=>.bool (h x))=some (xs.map h)
 |[]=>rfl
 |x::xs=>by
  show (sD (xs.map λx=>PyData.bool (h x))).map (h x::·)=_;rw[N2];rfl
theorem WU{α:Type}{enc A B g:α->D}{h:α->Bool}{xs:List α}{f:M (ZI)}{t:M Bool}{e:M D}{δ:DS}(hE:∀x,enc x=.tuple [A x,B x])(hf:f δ=.ok (xs.map enc) δ)(hl:xs.length<=1000)(ht:∀x∈xs,aV t (some (A x)::some (B x)::δ) λb δ1=>b=h x/\δ1=some (A x)::some (B x)::δ)(he:∀x∈xs,aV e (some (A x)::some (B x)::δ) λv δ1=>v=g x/\δ1=some (A x)::some (B x)::δ):dZ 2 (t9 [0,1]) f t e δ=.ok (.list ((xs.filter h).map g)) δ:=by
 have main:∀(xs:List α)(acc:ZI)(o1 o2:ZL),(∀x∈xs,t (some (A x)::some (B x)::δ)=.ok (h x) (some (A x)::some (B x)::δ))->(∀x∈xs,e (some (A x)::some (B x)::δ)=.ok (g x) (some (A x)::some (B x)::δ))->acc.length+xs.length<=sizeLine->∃o1' o2',bQ (t9 [0,1]) t e (xs.map enc) acc (o1::o2::δ)=.ok (acc++(xs.filter h).map g) (o1'::o2'::δ):=by
  intro xs
  induction xs with
  |nil=>exact λacc o1 o2 _ _ _=>⟨o1,o2,by simp[bQ]⟩
  |cons x xs ih=>
   intro acc o1 o2 ht he hl;have hd:=ht x Ó;have hv:=he x Ó;rw[Õ]at hl;have e1:t9 [0,1] (enc x) (o1::o2::δ)=some (some (A x)::some (B x)::δ):=by rw[hE];simp[t9,eK]
   cases hk:h x with
   |true=>
    let⟨o1',o2',ih⟩:=ih (acc++[g x]) (some (A x)) (some (B x)) (λy hy=>ht y (Ï _ hy)) (λy hy=>he y (Ï _ hy)) (by simp;lia);refine⟨o1',o2',?_⟩;rw[Î];unfold bQ;rw[e1];simp![hd,hk,Res.bind,if_true,hv];rw[Á ∅,ih];simp[hk]
   |false=>
    let⟨o1',o2',ih⟩:=ih acc (some (A x)) (some (B x)) (λy hy=>ht y (Ï _ hy)) (λy hy=>he y (Ï _ hy)) 'a';refine⟨o1',o2',?_⟩;rw[Î];unfold bQ;rw[e1];simp![hd,hk,Res.bind,Bool.false_eq_true,if_false];rw[Á ∅,ih];simp[hk]
 unfold dZ;rw[hf];let⟨o1,o2,q⟩:=main xs [] none none (λx hx=>by
  let⟨b,δ1,e,rfl,rfl⟩:=(ht x hx).ex;exact e) (λx hx=>c8 (he x hx)) (Ø (by simpa using hl) (show 1000<=sizeLine by decide))
 simp![Res.bind];rw[show List.replicate 2 (none:ZL)++δ=none::none::δ from rfl,q];simp
end L2
namespace Toy
open PySem L2
theorem ixN_lt'(h:k<n):mY n (k:Int)=some k:=by
 unfold mY;rw[Á ∅,Á ∅,û]
theorem eE{j:Nat}{x:α}(h:l[j]?=some x):atI l (j:Int)=some x:=by
 unfold atI;rw[ixN_lt' (Ò.mp h).1];exact h
theorem Q2{l:ZK}{j:Nat}(h:l[j]?=some x):fE (.list (l.map PyData.int)) (.int (j:Int))=some (.int x):=by
 show atI (l.map PyData.int) (j:Int)=_;refine eE ?_;rw[Ñ,h];rfl
theorem WV{l:ZK}(hl:l.length=n+1)(h:l[n]?=some x):fE (.list (l.map PyData.int)) (.int (-1))=some (.int x):=by
 show atI (l.map PyData.int) (-1)=_;have e:mY (l.map PyData.int).length (-1)=some n:=by
  unfold mY;rw[Ä,Â ⋯,Á ∅];congr 1;lia
 unfold atI;rw[e];show (l.map PyData.int)[n]?=_;rw[Ñ,h];rfl
theorem ŭ{l:List (ZK)}{j:Nat}(h:l[j]?=some x):fE (.list (l.map λx=>.list (x.map PyData.int))) (.int (j:Int))=some (.list (x.map PyData.int)):=by
 show atI (l.map λx=>PyData.list (x.map PyData.int)) (j:Int)=_;refine eE ?_;rw[Ñ,h];rfl
theorem WW{as bs:ZK}(h1:aV f δ λa δ1=>a=.list (as.map PyData.int)/\δ1=δ)(h2:aV g δ λa δ1=>a=.list (bs.map PyData.int)/\δ1=δ):AJ f g δ=.ok ((as.zip bs).map λp=>.tuple [.int p.1,.int p.2]) δ:=by
 have e1:=c8 h1;have e2:=c8 h2;unfold AJ;simp![aY,e1,e2,aW];congr 1;unfold oY;rw[List.zipWith_map,List.zip_eq_zipWith,List.map_zipWith]
theorem N3{ds os:ZI}(h:bO body (ds.map some++List.replicate (m0-ds.length) none) (λδ=>fX δ ps=some os) (λ_=>False) (λ_=>False) λ_ _=>False):aP m0 ps 0 body ds=.ok .none (os.map some):=by
 let⟨fl,δ1,e,q⟩:=h.ex;cases fl with
 |next=>unfold aP;rw[e];dsimp only;rw[Á rfl,q]
 |ret r=>exact q.elim
 |brk=>exact q.elim
 |cont=>exact q.elim
section
variable {n d:Nat}{pv:ZK}{a b:Nat->Int}{s:Int}
theorem zL(ha:Sx.LnR n ln a)(hb:Sx.LnR n pv b)(hd:d<=n)(hs:0<s)(hn:n<=900)(fa:∀j,j<=n->fJ 4000 (a j))(fb:∀j,j<=n->fJ 4000 (b j))(fs:fJ 4000 s):uT [.list (ln.map .int),.list (pv.map .int),.int (d:Int),.int s]=.ok (.list ((Sx.clearL ln pv d s).map .int)) []:=by
 have e1:=Q2 (hb.at' d hd);have e2:=Q2 (ha.at' d hd);have ga:ln.getD d 0=a d:=ha.getD hd;have gb:pv.getD d 0=b d:=hb.getD hd;refine aR (os:=[]) ?_;show bO uS [some (.list (ln.map .int)),some (.list (pv.map .int)),some (.int (d:Int)),some (.int s),none,none,none] _ _ _ _;unfold uS;dsimp? [e1,e2];refine aV.of (oR (xs:=ln.zip pv) (enc:=λp=>.tuple [.int p.1,.int p.2]) (A:=λp=>.int p.1) (B:=λp=>.int p.2) (g:=λp=>.int ((-b d*p.1+a d*p.2)/s)) (λ_=>rfl) (WW (by dsimp? []) (by dsimp? [])) (by rw[ê,ha.len];lia) λp hp=>?_) ?_
 .obtain⟨j,hj,ej⟩:=List.getElem_of_mem hp
  rw[ê,ha.len,hb.len,Nat.min_self]at hj;have p1:ln[j]?=some p.1:=by
   rw[<- ej,List.getElem_zip,É (by rw[ha.len];exact hj)]
  have p2:pv[j]?=some p.2:=by
   rw[<- ej,List.getElem_zip,É (by rw[hb.len];exact hj)]
  rw[ha.at' j (by exact Nat.le_of_lt_succ ‹_›)]at p1;rw[hb.at' j (by exact Nat.le_of_lt_succ ‹_›)]at p2;have q1:fJ 4000 p.1:=by rw[<- Option.some.inj p1];exact fa j (by exact Nat.le_of_lt_succ ‹_›)
  have q2:fJ 4000 p.2:=by rw[<- Option.some.inj p2];exact fb j (by exact Nat.le_of_lt_succ ‹_›)
  dsimp? [(fb d hd).neg.mulOk q1,(fa d hd).mulOk q2,aAT hs (fs.mono ⋯)]
 .have el:((ln.zip pv).map λp=>PyData.int ((-b d*p.1+a d*p.2)/s)).length=n+1:=by rw[Ä,ê,ha.len,hb.len,Nat.min_self]
  have ei:=ixN_lt' (show d<((ln.zip pv).map λp=>PyData.int ((-b d*p.1+a d*p.2)/s)).length by rw[el];exact Nat.lt_succ_of_le ‹_›);dsimp? [ei];unfold Sx.clearL;rw[ga,gb,List.map_set,List.zip_eq_zipWith,List.map_zipWith,List.map_zipWith]
theorem Q3(hb:Sx.LnR n pv b)(hd:d<=n)(hn:n<=900):HS [.list (pv.map .int),.int (d:Int),.int s]=.ok (.list ((Sx.turnL pv d s).map .int)) []:=by
 refine aR (os:=[]) ?_;show bO yH [some (.list (pv.map .int)),some (.int (d:Int)),some (.int s),none] _ _ _ _;unfold yH;dsimp? [];refine aV.of (cU (xs:=pv) (enc:=PyData.int) (g:=λx=>.int (-x)) (bW (by dsimp? [])) (by rw[hb.len];lia) λp hp=>by dsimp? []) ?_;have ei:=ixN_lt' (show d<(pv.map λx=>PyData.int (-x)).length by rw[Ä,hb.len];exact Nat.lt_succ_of_le ‹_›);dsimp? [ei];unfold Sx.turnL;rw[List.map_set,å];rfl
end
def tb(s f h l g:D):D:=.dict [(.none,.str "Table"),(.str "scale",s),(.str "free",f),(.str "held",h),(.str "lines",l),(.str "goal",g)]
section
theorem zM:gS "Table" "scale" (tb s f h l g)=some s:=by with_unfolding_all rfl
theorem oU:gS "Table" "free" (tb s f h l g)=some f:=by with_unfolding_all rfl
theorem wF:gS "Table" "held" (tb s f h l g)=some h:=by with_unfolding_all rfl
theorem tO:gS "Table" "lines" (tb s f h l g)=some l:=by with_unfolding_all rfl
theorem N4:gS "Table" "goal" (tb s f h l g)=some g:=by with_unfolding_all rfl
theorem IQ:BT 20 "Table" "scale" (tb s f h l g)=some s:=by with_unfolding_all rfl
theorem IR:BT 20 "Table" "lines" (tb s f h l g)=some l:=by with_unfolding_all rfl
theorem aBW:BT 20 "Table" "goal" (tb s f h l g)=some g:=by with_unfolding_all rfl
theorem WX:nI 20 0 "Table" "scale" y (tb s f h l g)=some (tb y f h l g):=by with_unfolding_all rfl
theorem WY:nI 20 0 "Table" "lines" y (tb s f h l g)=some (tb s f h y g):=by with_unfolding_all rfl
theorem aBX:nI 20 0 "Table" "goal" y (tb s f h l g)=some (tb s f h l y):=by with_unfolding_all rfl
theorem aBY(e:mY hs.length i=some j):xU 20 "Table" "held" (.int i) v (tb s f (.list hs) l g)=some (tb s f (.list (hs.set j v)) l g):=by
 have:xU 20 "Table" "held" (.int i) v (tb s f (.list hs) l g)=(match mY hs.length i with
  |some j=>some (tb s f (.list (hs.set j v)) l g)
  |none=>none):=by with_unfolding_all rfl
 rw[this,e]
theorem aBZ(e:mY hs.length i=some j):xU 20 "Table" "free" (.int i) v (tb s (.list hs) h l g)=some (tb s (.list (hs.set j v)) h l g):=by
 have:xU 20 "Table" "free" (.int i) v (tb s (.list hs) h l g)=(match mY hs.length i with
  |some j=>some (tb s (.list (hs.set j v)) h l g)
  |none=>none):=by with_unfolding_all rfl
 rw[this,e]
theorem aB0:xV "Table" "swap" (tb s f h l g):=⟨rfl,by with_unfolding_all rfl⟩
end
abbrev Q5(l:List (ZK)):D:=.list (l.map λx=>.list (x.map PyData.int))
def b9(L:Sx.LT):D:=tb (.int L.s) (.list (L.free.map .int)) (.list (L.held.map .int)) (Q5 L.lines) (.list (L.goal.map .int))
structure Ok(P:Sx.Pr)(L:Sx.LT)(T:Sx.Tab):Prop where
 rp:Sx.Rp P L T
 pos:0<T.s
 fs:fJ 4000 T.s
 fl:∀r j,r<=P.k->j<=P.n->fJ 4000 (T.L r j)
 n:P.n<=900
 k:P.k<=900
theorem aB1(K:Ok P L T)(hp:p<P.k)(hd:d<P.n):mH [b9 L,.int (p:Int),.int (d:Int)]=.ok .none [some (b9 (Sx.swapL L p d))]:=by
 have R:=K.rp;let⟨pv,e1,e2⟩:=R.l p hp;have eP:L.lines.getD p []=pv:=by rw[Ê,e1];rfl
 have eH:L.held.getD p 0=T.h p:=by rw[Ê,R.h p hp];rfl
 have eF:L.free.getD d 0=T.f d:=by rw[Ê,R.f d hd];rfl
 have hs:0<L.s:=by rw[R.s];exact K.pos
 have fs:fJ 4000 L.s:=by rw[R.s];exact K.fs
 have i1:=ŭ e1;have i2:=Q2 (e2.at' d 'a');have i3:=Q2 (R.h p hp);have i4:=Q2 (R.f d hd);have fp:∀j,j<=P.n->fJ 4000 (T.L p j):=λj hj=>K.fl p j 'a' hj;have cg:=zL (d:=d) (s:=L.s) R.g e2 'a' hs K.n (λj hj=>K.fl P.k j (Ç _) hj) fp fs;have ct:=Q3 (s:=L.s) e2 (d:=d) 'a' K.n;refine N3 (os:=[b9 (Sx.swapL L p d)]) ?_;show bO mG [some (b9 L),some (.int (p:Int)),some (.int (d:Int)),none,none,none] _ _ _ _;unfold mG b9;dsimp? [D7,IR,i1];refine aV.of (cU (xs:=L.lines) (enc:=λx=>.list (x.map PyData.int)) (g:=λln=>.list ((Sx.clearL ln pv d L.s).map PyData.int)) (bW (by dsimp? [D7,IR])) (by rw[R.ll];have:=K.k;lia) λln hln=>?_) ?_
 .obtain⟨r,hr,er⟩:=List.getElem_of_mem hln
  rw[R.ll]at hr;let⟨ln',q1,q2⟩:=R.l r hr;have:ln'=ln:=by
   rw[É (by rw[R.ll];exact hr),er]at q1;exact(Option.some.inj q1).symm
  subst this;have cl:=zL (d:=d) (s:=L.s) q2 e2 'a' hs K.n (λj hj=>K.fl r j 'a' hj) fp fs;dsimp? [D7,IQ,cl]
 .have el:(L.lines.map λln=>PyData.list ((Sx.clearL ln pv d L.s).map PyData.int)).length=P.k:=by rw[Ä,R.ll]
  have ei:=ixN_lt' (show p<(L.lines.map λln=>PyData.list ((Sx.clearL ln pv d L.s).map PyData.int)).length by rw[el];assumption);have ih:=ixN_lt' (show p<(L.held.map PyData.int).length by rw[Ä,R.hl];assumption);have jf:=ixN_lt' (show d<(L.free.map PyData.int).length by rw[Ä,R.fl];assumption);dsimp? [D7,IQ,ct,ei,aBW,cg,xX,aBX,WY,i2,WX,xZ,VM,wF,i3,oU,i4,VI,aBY ih,aBZ jf];unfold Sx.swapL;rw[eP,eH,eF,e2.getD (by exact È ‹_›:d<=P.n)];simp![Q5,List.map_set,å,Function.comp_def]
theorem rD :∀(l:List (α×Int))(o:Option (α×Int)),match cY o l with
  |none=>o=none/\l=[]
  |some m=>(o=some m\/m∈l)/\(∀x∈l,m.2<=x.2)/\∀x,o=some x->m.2<=x.2
 |[],o=>by
  rw[oN];cases o with
  |none=>exact⟨rfl,rfl⟩
  |some m=>exact⟨.inl rfl,λx hx=>(by cases hx),λx e=>by cases e;exact Int.le_refl _⟩
 |y::ys,none=>by
  have ih:=rD ys (some y);rw[show cY none (y::ys)=cY (some y) ys from rfl];cases e:cY (some y) ys with
  |none=>rw[e]at ih;exact absurd ih.1 'e'
  |some m=>
   rw[e]at ih;let⟨h1,h2,h3⟩:=ih;refine⟨.inr ?_,λx hx=>?_,λx e=>by cases e⟩
   .rcases h1 with h|h
    .cases h;exact Ó
    .exact Ï _ h
   .rcases Í.mp hx with rfl|hx
    .exact h3 _ rfl
    .exact h2 x hx
 |y::ys,some z=>by
  have ih:=rD ys (some (if y.2<z.2 then y else z));rw[show cY (some z) (y::ys)=cY (some (if y.2<z.2 then y else z)) ys from rfl];cases e:cY (some (if y.2<z.2 then y else z)) ys with
  |none=>rw[e]at ih;exact absurd ih.1 'e'
  |some m=>
   rw[e]at ih;let⟨h1,h2,h3⟩:=ih;have h4:=h3 _ rfl;refine⟨?_,λx hx=>?_,λx e=>?_⟩
   .rcases h1 with h|h
    .have h:=Option.some.inj h
     split at h
     .subst h;exact .inr Ó
     .subst h;exact .inl rfl
    .exact .inr (Ï _ h)
   .rcases Í.mp hx with rfl|hx
    .split at h4<;>lia
    .exact h2 x hx
   .cases e
    split at h4<;>lia
theorem zN{α:Type}{u k:α->Int}:∀{xs:List α},(∀x∈xs,atI hs (u x)=some (k x))->iJ hs (xs.map u)=some (xs.map k)
 |[],_=>rfl
 |x::xs,h=>by
  rw[Î,Î];unfold iJ;rw[h x Ó,zN λy hy=>h y (Ï _ hy)]
theorem N5{α:Type}{enc:α->D}{xs:List α}(h:aV f δ λa δ1=>a=.list (xs.map enc)/\δ1=δ):xE f δ=.ok ((xs.zipIdx.map λp=>(p.2,p.1)).map λp:Nat×α=>.tuple [.int (p.1:Int),enc p.2]) δ:=by
 have e:=c8 h;unfold xE;simp![aY,e,aW];congr 1;unfold eY;rw[List.mapIdx_eq_zipIdx_map,å,List.zipIdx_map,å];rfl
theorem IS{α:Type}{xs:List α}{p:Nat×α}:p∈xs.zipIdx.map (λp=>(p.2,p.1))↔xs[p.1]?=some p.2:=by
 rw[Ö];constructor
 .rintro⟨q,hq,rfl⟩
  exact List.mem_zipIdx_iff_getElem?.mp hq
 .intro h
  exact⟨(p.2,p.1),List.mem_zipIdx_iff_getElem?.mpr h,rfl⟩
theorem zO(K:Ok P L T):
  ((∀r,r<P.k->0<=T.L r P.n)/\cE [b9 L]=.ok .none [])\/∃p,p<P.k/\T.L p P.n<0/\(∀r,r<P.k->T.L r P.n<0->T.h p<=T.h r)/\cE [b9 L]=.ok (.int (p:Int)) []:=by
 have R:=K.rp;let xs:List (Nat×ZK):=L.lines.zipIdx.map λp=>(p.2,p.1);let ys:=xs.filter λp=>decide (p.2.getD P.n 0<0);have hx:∀p∈xs,p.1<P.k/\p.2.length=P.n+1/\p.2[P.n]?=some (T.L p.1 P.n)/\p.2.getD P.n 0=T.L p.1 P.n:=λp hp=>by
  have e:=IS.mp hp;have hk:p.1<P.k:=by have:=(Ò.mp e).1;rw[R.ll]at this;exact this
  let⟨ln,q1,q2⟩:=R.l p.1 hk;rw[e]at q1;have:ln=p.2:=(Option.some.inj q1).symm;subst this;exact⟨hk,q2.len,q2.at' _ (Ç _),q2.getD (Ç _)⟩
 have hall:∀r,r<P.k->∃ln,(r,ln)∈xs/\ln.getD P.n 0=T.L r P.n:=λr hr=>by
  let⟨ln,q1,q2⟩:=R.l r hr;exact⟨ln,IS.mpr q1,q2.getD (Ç _)⟩
 have ek:iJ L.held (ys.map λp=>(p.1:Int))=some (ys.map λp=>(T.h p.1:Int)):=zN λp hp=>by
  have:=hx p (Ć.mp hp).1;exact eE (R.h p.1 this.1)
 have em:HB "Table" "held" (.list (ys.map λp=>PyData.int (p.1:Int))) (b9 L)=some ((cY none (ys.map λp=>((p.1:Int),(T.h p.1:Int)))).elim .none λm=>.int m.1):=by
  unfold HB b9;dsimp only;rw[wF];dsimp only;have e1:(ys.map λp=>PyData.int (p.1:Int))=(ys.map λp=>(p.1:Int)).map PyData.int:=by rw[å];rfl
  rw[i5,e1,i5];dsimp only;rw[ek];dsimp only;rw[List.zip_map']
 have main:∀r:D,(JN r).isSome=true->(cY none (ys.map λp=>((p.1:Int),(T.h p.1:Int)))).elim PyData.none (λm=>.int m.1)=r->cE [b9 L]=.ok r []:=λr hr er=>by
  refine aR (os:=[]) ?_;show bO kB [some (b9 L),none] _ _ _ _;unfold kB;dsimp? [];refine aV.of (WU (xs:=xs) (enc:=λp=>.tuple [.int (p.1:Int),.list (p.2.map PyData.int)]) (A:=λp=>.int (p.1:Int)) (B:=λp=>.list (p.2.map PyData.int)) (g:=λp=>.int (p.1:Int)) (h:=λp=>decide (p.2.getD P.n 0<0)) (λ_=>rfl) (N5 (enc:=λx=>.list (x.map PyData.int)) (xs:=L.lines) (by unfold b9;dsimp? [tO])) (by
   show xs.length<=1000;have:=K.k;simp![xs,Ä,List.length_zipIdx,R.ll];lia) (λp hp=>by
   let⟨h1,h2,h3,h4⟩:=hx p hp;dsimp? [WV h2 h3,h4]) (λp hp=>by dsimp? [])) ?_
  dsimp? [VL,xZ];rw[show (List.map (λp:Nat×ZK=>PyData.int (p.1:Int)) (xs.filter λp=>decide (p.2.getD P.n 0<0)))=ys.map λp=>PyData.int (p.1:Int)from rfl,em,er];dsimp? [];exact⟨hr,rfl,rfl⟩
 have sp:=rD (ys.map λp=>((p.1:Int),(T.h p.1:Int))) none;cases eb:cY none (ys.map λp=>((p.1:Int),(T.h p.1:Int)))with
 |none=>
  rw[eb]at sp;refine .inl ⟨λr hr=>?_,main .none rfl (by rw[eb];rfl)⟩;let⟨ln,h1,h2⟩:=hall r hr;by_cases c:T.L r P.n<0
  .exfalso
   have hm:(r,ln)∈ys:=Ć.mpr ⟨h1,decide_eq_true (by show ln.getD P.n 0<0;lia)⟩;have:ys=[]:=by simpa using sp.2
   rw[this]at hm;cases hm
  .exact Int.not_lt.mp ‹_›
 |some m=>
  rw[eb]at sp;let⟨h1,h2,_⟩:=sp;rcases h1 with h1|h1
  .cases h1
  .obtain⟨p,hp,rfl⟩:=Ö.mp h1
   let⟨m1,m2⟩:=Ć.mp hp;let⟨a1,_,_,a4⟩:=hx p m1;refine .inr ⟨p.1,a1,?_,λr hr hn=>?_,main (.int (p.1:Int)) rfl (by rw[eb];rfl)⟩
   .have:=of_decide_eq_true m2
    lia
   .obtain⟨ln,b1,b2⟩:=hall r hr
    have hm:(r,ln)∈ys:=Ć.mpr ⟨b1,decide_eq_true (by show ln.getD P.n 0<0;lia)⟩;have:=h2 _ (List.mem_map_of_mem (f:=λp:Nat×ZK=>((p.1:Int),(T.h p.1:Int))) hm);dsimp only at this;lia
theorem WZ(K:Ok P L T){pv:ZK}(hp:p<P.k)(e2:Sx.LnR P.n pv (T.L p))(hc:c<P.n)(hb:b<P.n):
  s8 [b9 L,.list (pv.map .int),.int (c:Int),.int (b:Int)]=.ok (.bool (decide (T.L P.k c*-T.L p b<T.L P.k b*-T.L p c\/(T.L P.k c*-T.L p b=T.L P.k b*-T.L p c/\T.f c<T.f b)))) []:=by
 have R:=K.rp;have g1:=Q2 (R.g.at' c 'a');have g2:=Q2 (R.g.at' b 'a');have l1:=Q2 (e2.at' c 'a');have l2:=Q2 (e2.at' b 'a');have f1:=Q2 (R.f c hc);have f2:=Q2 (R.f b hb);have m1:IntMulOk (T.L P.k c) (-T.L p b):=(K.fl P.k c (Ç _) 'a').mulOk (K.fl p b 'a' 'a').neg;have m2:IntMulOk (T.L P.k b) (-T.L p c):=(K.fl P.k b (Ç _) 'a').mulOk (K.fl p c 'a' 'a').neg;refine aR (os:=[]) ?_;show bO mE [some (b9 L),some (.list (pv.map .int)),some (.int (c:Int)),some (.int (b:Int)),none,none] _ _ _ _;unfold mE b9;dsimp? [N4,g1,g2,l1,l2,m1,m2];generalize T.L P.k c*-T.L p b=x;generalize T.L P.k b*-T.L p c=y;have ef:((T.f c:Int)<(T.f b:Int))↔T.f c<T.f b:=by lia
 by_cases h1:x<y
 .dsimp? [h1,decide_true]
  simp
 .by_cases h2:x=y
  .subst h2
   dsimp? [h1,decide_false,decide_true,oU,f1,f2];simp![ef];simp
  .dsimp? [h1,h2,decide_false]
   simp
theorem ϥ:ī .none .none=some (.bool true):=rfl
theorem Ů:ī (.int i) .none=some (.bool false):=rfl
theorem aKY:w8 .none .none=some (.bool false):=rfl
theorem aKZ:w8 (.int i) .none=some (.bool true):=rfl
def oD:Option Nat->D
 |none=>.none
 |some d=>.int (d:Int)
theorem Q6(K:Ok P L T){pv:ZK}(hp:p<P.k)(e2:Sx.LnR P.n pv (T.L p)):∃o,Sx.BestC (T.L P.k) (T.L p) T.f P.n o/\mF [b9 L,.list (pv.map .int)]=.ok (oD o) []:=by
 have R:=K.rp;have main:=i7 (m0:=4) (rm:=0) (body:=iT) (ds:=[b9 L,.list (pv.map .int)]) (P:=λr=>∃o,Sx.BestC (T.L P.k) (T.L p) T.f P.n o/\r=oD o) (by
  show bO iT [some (b9 L),some (.list (pv.map .int)),none,none] _ _ _ _;unfold iT;dsimp? [];refine UG (j:=P.n) (δ1:=_) (λk δ=>∃o o3,Sx.BestC (T.L P.k) (T.L p) T.f k o/\δ=[some (b9 L),some (.list (pv.map .int)),some (oD o),o3]) (lE (by unfold b9;dsimp? [oU,Ä,R.fl];rfl)) (by have:=K.n;lia) ⟨none,none,Sx.BestC.zero,rfl⟩ ?_ ?_
  .rintro k δ hk ⟨o,o3,hB,rfl⟩
   refine⟨_,rfl,?_⟩;have l1:=Q2 (e2.at' k 'a');by_cases hn:T.L p k<0
   .cases o with
    |none=>
     dsimp? [l1,hn,decide_true,oD,ϥ];exact⟨some k,_,hB.first hn,rfl⟩
    |some b=>
     have ha:=WZ K hp e2 (c:=k) (b:=b) hk (by have:=hB.1;exact Nat.lt_trans ‹_› ‹_›);by_cases hh:T.L P.k k*-T.L p b<T.L P.k b*-T.L p k\/(T.L P.k k*-T.L p b=T.L P.k b*-T.L p k/\T.f k<T.f b)
     .rw[decide_eq_true hh]at ha
      dsimp? [l1,hn,decide_true,oD,Ů,ha];exact⟨some k,_,hB.better hn hh,rfl⟩
     .rw[decide_eq_false hh]at ha
      dsimp? [l1,hn,decide_true,oD,Ů,ha];exact⟨some b,_,hB.worse hh,rfl⟩
   .dsimp? [l1,hn,decide_false]
    exact⟨o,_,hB.skip hn,rfl⟩
  .rintro δ ⟨o,o3,hB,rfl⟩
   dsimp? [];exact⟨o,hB,rfl⟩)
 let⟨r,e,o,hB,rfl⟩:=main;exact⟨o,hB,e⟩
def dI(À:ZF):D:=.dict (À.map λp=>(.int p.1,.int p.2))
def gI(À:ZF)(u:Int):Option Int:=(À.find? λp=>p.1 == u).map (·.2)
section
theorem N6(h:∀p∈À,p.1≠u)(hl:À.length<sizeLine):xW (.int u) (.int w) (dI À)=some (dI (À++[(u,w)])):=by
 unfold xW dI;show (if (À.map λp=>(PyData.int p.1,PyData.int p.2)).length<sizeLine then some (PyData.dict (KP (.inl u) (.int w) (À.map λp=>(PyData.int p.1,PyData.int p.2))))else none)=_;rw[Á (by rw[Ä];exact hl)];unfold KP;have e:((À.map λp=>(PyData.int p.1,PyData.int p.2)).any λkv=>decide (dG kv.1=some (.inl u)))=false:=by
  rw[List.any_eq_false];intro x hx;let⟨p,hp,rfl⟩:=Ö.mp hx;have:=h p hp;simp![dG,Option.some.injEq,Sum.inl.injEq,decide_eq_true_eq];exact this
 rw[Â (by rw[e];simp)];simp[E9]
theorem W0:NQ (dI À) (.int u) z=some (((gI À u).map PyData.int).getD z):=by
 unfold NQ dI;show some ((jP (.inl u) (À.map λp=>(PyData.int p.1,PyData.int p.2))).getD z)=_;congr 2;unfold jP gI;rw[List.find?_map,Option.map_map,Option.map_map];have e:((λkv:D×D=>decide (dG kv.1=some (Sum.inl u)))∘λp:Int×Int=>(PyData.int p.1,PyData.int p.2))=λp=>p.1 == u:=by
  funext p;simp![Function.comp,dG,Option.some.injEq,Sum.inl.injEq];by_cases c:p.1=u
  .simp[c]
  .simp[c]
 rw[e];rfl
theorem W1:dctD' (dI À)=true:=by
 show (À.map λp=>(PyData.int p.1,PyData.int p.2)).all (λkv=>(dG kv.1).isSome)=true;rw[List.all_map,è];intro p _;rfl
theorem aB2(hd:(À.map (·.1)).Nodup)(h:(u,w)∈À):gI À u=some w:=by
 induction À with
 |nil=>cases h
 |cons p r ih=>
  rw[Î,List.nodup_cons]at hd;unfold gI;rw[Ā];rcases Í.mp h with rfl|h
  .simp
  .have:p.1≠u:=λe=>hd.1 (by rw[e];exact List.mem_map_of_mem (f:=(·.1)) h)
   rw[beq_eq_false_iff_ne.mpr this];exact ih hd.2 h
theorem aB3(h:∀p∈À,p.1≠u):gI À u=none:=by
 unfold gI;rw[List.find?_eq_none.mpr λp hp=>by simpa using h p hp];rfl
end
theorem LH{fs ws:ZK}(hf:fs.length=n)(hw:ws.length=n)(ef:∀j,j<n->fs[j]?=some (f j:Int))(ew:∀j,j<n->ws[j]?=some (w j))(inj:∀i j,i<n->j<n->f i=f j->i=j)(u:Nat):
  (gI (fs.zip ws) (u:Int)).getD 0=Sx.shr n f w u/\(gI (fs.zip ws) (u:Int)=none↔∀j,j<n->f j≠u):=by
 have hz:∀j,j<n->(fs.zip ws)[j]?=some ((f j:Int),w j):=λj hj=>by
  rw[Ĝ];exact⟨ef j hj,ew j hj⟩
 have hl:(fs.zip ws).length=n:=by rw[ê,hf,hw,Nat.min_self]
 have hm:∀p∈fs.zip ws,∃j,j<n/\p=((f j:Int),w j):=λp hp=>by
  let⟨j,hj,e⟩:=List.getElem_of_mem hp;rw[hl]at hj;have:=hz j hj;rw[É (by rw[hl];exact hj),e]at this;exact⟨j,hj,Option.some.inj this⟩
 have nd:((fs.zip ws).map (·.1)).Nodup:=by
  refine List.pairwise_iff_getElem.mpr λi j hi hj hij e=>?_;rw[Ä,hl]at hi hj;have ei:((fs.zip ws).map (·.1))[i]?=some (f i:Int):=by rw[Ñ,hz i hi];rfl
  have ej:((fs.zip ws).map (·.1))[j]?=some (f j:Int):=by rw[Ñ,hz j hj];rfl
  rw[É (by rw[Ä,hl];exact hi),e,<- É,ej]at ei;have:=Option.some.inj ei;have:=inj i j hi hj ∅;lia
 by_cases c:∃j,j<n/\f j=u
 .obtain⟨j,hj,rfl⟩:=c
  have e:gI (fs.zip ws) (f j:Int)=some (w j):=aB2 nd (þ (hz j hj));rw[e,Sx.shr_at inj hj];exact⟨rfl,by simp;exact⟨j,hj,rfl⟩⟩
 .have hn:∀j,j<n->f j≠u:=λj hj e=>c ⟨j,hj,e⟩
  have e:gI (fs.zip ws) (u:Int)=none:=aB3 λp hp=>by
   let⟨j,hj,rfl⟩:=hm p hp;show (f j:Int)≠(u:Int);have:=hn j hj;lia
  rw[e,Sx.shr_no hn];exact⟨rfl,by simp;exact hn⟩
theorem W2(h:ds.length=n+1):uC (.list ds) none (some (-1))=some (.list (ds.take n)):=by
 have e1:HT.sIx ds.length 0 none=0:=rfl;have e2:HT.sIx ds.length ds.length (some (-1))=n:=by
  unfold HT.sIx;simp[h];lia
 show some (PyData.list ((ds.drop (HT.sIx ds.length 0 none)).take (HT.sIx ds.length ds.length (some (-1))-HT.sIx ds.length 0 none)))=_;rw[e1,e2,List.drop_zero,Nat.sub_zero]
theorem IT{fs:ZK}{f:Nat->Nat}(hf:fs.length=n)(ef:∀j,j<n->fs[j]?=some (f j:Int))(inj:∀i j,i<n->j<n->f i=f j->i=j)(hn:n<=900)(hk:(fs.zip ws)[k]?=some (u,w)):
  xW (.int u) (.int w) (dI ((fs.zip ws).take k))=some (dI ((fs.zip ws).take (k+1))):=by
 have hkl:=(Ò.mp hk).1;rw[ê]at hkl;have hu:fs[k]?=some u:=(Ĝ.mp hk).1;rw[N6 (λp hp=>?_) (by
  rw[ï,ê,hf];have:900<sizeLine:=by decide
  lia)]
 .rw[List.take_add_one,hk]
  rfl
 .obtain⟨i,hi,e⟩:=List.getElem_of_mem hp
  rw[ï,ê]at hi;have e2:(fs.zip ws)[i]?=some p:=by
   rw[List.getElem_take]at e;rw[É (by rw[ê];lia),e]
  have hp1:fs[i]?=some p.1:=(Ĝ.mp e2).1;rw[ef i ∅]at hp1;rw[ef k ∅]at hu;intro z;have:=inj i k ∅ ∅ (by have:=Option.some.inj hp1;have:=Option.some.inj hu;lia);lia
theorem B6(K:Ok P L T)(I:Sx.Inv P σ T)(e2:Sx.LnR P.n ln w):nL [b9 L,.list (ln.map .int)]=.ok (dI (L.free.zip (ln.take P.n))) []:=by
 have R:=K.rp;have el:(L.free.zip (ln.take P.n)).length=P.n:=by rw[ê,R.fl,ï,e2.len];lia
 refine aR (os:=[]) ?_;show bO nK [some (b9 L),some (.list (ln.map .int)),none,none,none] _ _ _ _;unfold nK;dsimp? [];have hz:AJ (DD (gS "Table" "free") (bD 0)) (Ġ uC (bD 1) none (some (DD ŝ (dC (.int 1))))) [some (b9 L),some (.list (ln.map .int)),some (kG [] []),none,none]=.ok ((L.free.zip (ln.take P.n)).map λp=>.tuple [.int p.1,.int p.2]) [some (b9 L),some (.list (ln.map .int)),some (kG [] []),none,none]:=WW (by unfold b9;dsimp? [oU]) (by
  have:=W2 (ds:=ln.map PyData.int) (n:=P.n) (by rw[Ä,e2.len]);dsimp? [GO,l8,l9,sH,this];rw[List.map_take])
 refine dN (λk δ=>∃o3 o4,δ=[some (b9 L),some (.list (ln.map .int)),some (dI ((L.free.zip (ln.take P.n)).take k)),o3,o4]) hz ⟨none,none,rfl⟩ ?_ ?_
 .rintro k d δ hk ⟨o3,o4,rfl⟩
  rw[Ñ]at hk;cases e:(L.free.zip (ln.take P.n))[k]? with
  |none=>rw[e]at hk;cases hk
  |some p=>
   rw[e]at hk;cases hk;refine⟨_,rfl,?_⟩;have pt:=IT R.fl R.f I.fi K.n e;dsimp? [xY,pt];exact⟨_,_,rfl⟩
 .rintro δ ⟨o3,o4,rfl⟩
  rw[Ä,List.take_length];dsimp? [xK]
def N7(t b:Int):Int×Int:=(Ĺ t b t,Ĺ t b b)
theorem W3(hb:b≠0)(fb:fJ 9000 b):mC [.int t,.int b]=.ok (fr (N7 t b)) []:=by
 have hd:dv t b=(if b<0 then -(Int.gcd t b:Int)else (Int.gcd t b:Int)):=rfl;have gl:(Int.gcd t b:Int).natAbs<=b.natAbs:=by
  have:=Int.gcd_le_natAbs_right (a:=t) hb;assumption
 have hl:(dv t b).natAbs.log2<9000:=by
  have fg:fJ 9000 (Int.gcd t b:Int):=fb.le gl;rw[hd];split
  .exact fg.neg.log2
  .exact fg.log2
 rw[IP hb hl,hd,FS (Int.gcd_dvd_left t b),FS (Int.gcd_dvd_right t b)];rfl
theorem aB4{a b:Nat}(h:a+b<=ds.length):uC (.list ds) (some (a:Int)) (some ((a+b:Nat):Int))=some (.list ((ds.drop a).take b)):=by
 have e1:HT.sIx ds.length 0 (some (a:Int))=a:=by rw[HT.sIx_nat];lia
 have e2:HT.sIx ds.length ds.length (some ((a+b:Nat):Int))=a+b:=by rw[HT.sIx_nat];lia
 show some (PyData.list ((ds.drop (HT.sIx ds.length 0 (some (a:Int)))).take (HT.sIx ds.length ds.length (some ((a+b:Nat):Int))-HT.sIx ds.length 0 (some (a:Int)))))=_;rw[e1,e2,Nat.add_sub_cancel_left]
def ģ(n m:Nat)(y:Nat->Int)(s:Int):D:=.tuple [.list ((List.range m).map λr=>fr (N7 (y (n+r)) s)),.list ((List.range n).map λi=>fr (N7 (y (n+m+i)) s))]
theorem IU(K:Ok P L T)(hm:rs.length=m)(hk:P.k=m+P.n)(hy:∀u,u<P.n+m+P.n->(gI À (u:Int)).getD 0=y u):qS [b9 L,.list rs,dI À]=.ok (ģ P.n m y T.s) []:=by
 have R:=K.rp;have kn:=K.k;have nn:=K.n;have hs0:T.s≠0:=by have:=K.pos;exact Int.ne_of_gt ‹_›
 refine aR (os:=[]) ?_;show bO qR [some (b9 L),some (.list rs),some (dI À),none,none,none] _ _ _ _;unfold qR;unfold b9;dsimp? [oU,Ä,R.fl,hm];refine aV.of (xI (n:=((P.n+m+P.n:Nat):Int)) (g:=λu=>fr (N7 (y u) T.s)) (c8 (by dsimp? [oU,Ä,R.fl];simp)) ∅ ∅ λk hk=>?_) ?_
 .have hk:k<P.n+m+P.n:=by lia
  have e:=hy k hk;have g0:((gI À (k:Int)).map PyData.int).getD (.int 0)=.int (y k):=by
   rw[<- e];cases gI À (k:Int)<;>rfl
  dsimp? [VJ,W1,W0,g0,zM,R.s,W3 hs0 (K.fs.mono ⋯)]
 .rw[û]
  have c1:=aB4 (ds:=(List.range (P.n+m+P.n)).map λu=>fr (N7 (y u) T.s)) (a:=P.n) (b:=m) 'e';have c2:=kR (ds:=(List.range (P.n+m+P.n)).map λu=>fr (N7 (y u) T.s)) (k:=P.n+m) 'e';have ec:((P.n+m:Nat):Int)=(P.n:Int)+(m:Int):=by simp
  rw[ec]at c1 c2;dsimp? [aKD,l8,l9,sH,c1,c2];unfold ģ;have d1:(((List.range (P.n+m+P.n)).map λu=>fr (N7 (y u) T.s)).drop P.n).take m=(List.range m).map λr=>fr (N7 (y (P.n+r)) T.s):=by
   refine List.ext_getElem? λj=>?_;rw[List.getElem?_take];split
   .rename_i hj
    rw[List.getElem?_drop,Ñ,ÿ ∅,Ñ,ÿ hj];rfl
   .rw[æ (by simp;exact ç.mp ‹_›)]
  have d2:((List.range (P.n+m+P.n)).map λu=>fr (N7 (y u) T.s)).drop (P.n+m)=(List.range P.n).map λi=>fr (N7 (y (P.n+m+i)) T.s):=by
   refine List.ext_getElem? λj=>?_;rw[List.getElem?_drop];by_cases hj:j<P.n
   .rw[Ñ,ÿ ∅,Ñ,ÿ hj]
    rfl
   .rw[æ (by simp;exact ç.mp ‹_›),æ (by simp;exact ç.mp ‹_›)]
  rw[d1,d2]
theorem N8(e2:Sx.LnR n ln w):(ln.take n).length=n/\∀j,j<n->(ln.take n)[j]?=some (w j):=
 ⟨by rw[ï,e2.len];lia,λj hj=>by rw[List.getElem?_take,Á hj];exact e2.at' j 'a'⟩
theorem aB5(K:Ok P L T)(I:Sx.Inv P σ T)(hm:rs.length=m)(hk:P.k=m+P.n)(hp:p<P.k):
  nN [b9 L,.list rs,.int (p:Int)]=.ok (.tuple [.str "none",ģ P.n m (λu=>if u=T.h p then T.s else Sx.shr P.n T.f (T.L p) u) T.s]) []:=by
 have R:=K.rp;let⟨pv,e1,e2⟩:=R.l p hp;have i1:=ŭ e1;have i2:=Q2 (R.h p hp);have sh:=B6 K I e2;let⟨t1,t2⟩:=N8 e2;have gs:=λu=>LH R.fl t1 R.f t2 I.fi u;have hnew:∀q∈L.free.zip (pv.take P.n),q.1≠(T.h p:Int):=λq hq z=>by
  have h1:=(gs (T.h p)).2.mpr λj hj=>I.fh j p hj 'a';have h2:gI (L.free.zip (pv.take P.n)) (T.h p:Int)≠none:=by
   unfold gI;intro y;rw[Option.map_eq_none_iff,List.find?_eq_none]at y;exact y q hq (by simp[z])
  exact h2 h1
 have hzl:(L.free.zip (pv.take P.n)).length=P.n:=by rw[ê,R.fl,t1,Nat.min_self]
 have pn:=N6 (w:=L.s) hnew (by rw[hzl];have:=K.n;have:900<sizeLine:=⋯;exact Č ‹_› ‹_›)
 have pe:=IU K hm hk (À:=L.free.zip (pv.take P.n)++[((T.h p:Int),L.s)]) (y:=λu=>if u=T.h p then T.s else Sx.shr P.n T.f (T.L p) u) λu _=>by
  have e:gI (L.free.zip (pv.take P.n)++[((T.h p:Int),L.s)]) (u:Int)=(gI (L.free.zip (pv.take P.n)) (u:Int)).or (if (T.h p:Int)=(u:Int)then some L.s else none):=by
   unfold gI;rw[List.find?_append,Option.map_or,List.find?_singleton];congr 1;by_cases c:(T.h p:Int)=(u:Int)
   .simp[c]
   .simp[c]
  rw[e];by_cases c:u=T.h p
  .subst c
   rw[(gs (T.h p)).2.mpr λj hj=>I.fh j p hj 'a',Á rfl,Á rfl,R.s];rfl
  .rw[Â c,Â ∅,Option.or_none]
   exact(gs u).1
 refine aR (os:=[]) ?_;show bO nM [some (b9 L),some (.list rs),some (.int (p:Int)),none] _ _ _ _;unfold nM;have tl:gS "Table" "lines" (b9 L)=some (Q5 L.lines):=tO;have th:gS "Table" "held" (b9 L)=some (.list (L.held.map .int)):=wF;have ts:gS "Table" "scale" (b9 L)=some (.int L.s):=zM;dsimp? [tl,i1,sh,ts,xY,th,i2,pn,pe]
theorem aB6(K:Ok P L T)(I:Sx.Inv P σ T){Ã:ZK}(hm:rs.length=m)(hk:P.k=m+P.n)(hr:Ã.length=P.n):
  nQ [b9 L,.list rs,.list (Ã.map .int)]=.ok (.tuple [.str "fill",.list ((List.range P.n).map λx=>fr (N7 (Sx.val P T x) T.s)),ģ P.n m (λu=>Sx.shr P.n T.f (T.L P.k) u) T.s]) []:=by
 have R:=K.rp;have kk:=K.k;have hs0:T.s≠0:=by have:=K.pos;exact Int.ne_of_gt ‹_›
 have sh:=B6 K I R.g;let⟨t1,t2⟩:=N8 R.g;have gs:=λu=>LH R.fl t1 R.f t2 I.fi u;have pe:=IU K hm hk (À:=L.free.zip (L.goal.take P.n)) (y:=λu=>Sx.shr P.n T.f (T.L P.k) u) λu _=>(gs u).1;let ws:ZK:=L.lines.map λln=>ln.getD P.n 0;have wl:ws.length=P.k:=by simp![ws,Ä,R.ll]
 have wa:∀r,r<P.k->ws[r]?=some (T.L r P.n):=λr hr=>by
  let⟨ln,q1,q2⟩:=R.l r hr;simp![ws,Ñ,q1,Option.map_some,q2.getD (Ç _)]
 have hv:=λu=>LH R.hl wl R.h wa (λi j hi hj e=>I.hi i j 'a' 'a' e) u;refine aR (os:=[]) ?_;show bO nO [some (b9 L),some (.list rs),some (.list (Ã.map .int)),none,none,none,none] _ _ _ _;unfold nO;have tl:gS "Table" "lines" (b9 L)=some (Q5 L.lines):=tO;have th:gS "Table" "held" (b9 L)=some (.list (L.held.map .int)):=wF;have ts:gS "Table" "scale" (b9 L)=some (.int L.s):=zM;have tg:gS "Table" "goal" (b9 L)=some (.list (L.goal.map .int)):=N4;dsimp? [];have hz:AJ (DD (gS "Table" "held") (bD 0)) (DD (gS "Table" "lines") (bD 0)) [some (b9 L),some (.list rs),some (.list (Ã.map .int)),some (kG [] []),none,none,none]=.ok ((L.held.zip L.lines).map λp=>.tuple [.int p.1,.list (p.2.map PyData.int)]) [some (b9 L),some (.list rs),some (.list (Ã.map .int)),some (kG [] []),none,none,none]:=by
  have e1:DD (gS "Table" "held") (bD 0) [some (b9 L),some (.list rs),some (.list (Ã.map .int)),some (kG [] []),none,none,none]=.ok (.list (L.held.map .int)) [some (b9 L),some (.list rs),some (.list (Ã.map .int)),some (kG [] []),none,none,none]:=c8 (by dsimp? [th]);have e2:DD (gS "Table" "lines") (bD 0) [some (b9 L),some (.list rs),some (.list (Ã.map .int)),some (kG [] []),none,none,none]=.ok (Q5 L.lines) [some (b9 L),some (.list rs),some (.list (Ã.map .int)),some (kG [] []),none,none,none]:=c8 (by dsimp? [tl]);unfold AJ;simp![aY,e1,e2,aW];congr 1;unfold oY;rw[List.zipWith_map,List.zip_eq_zipWith,List.map_zipWith]
 refine dN (λk δ=>∃o4 o5,δ=[some (b9 L),some (.list rs),some (.list (Ã.map .int)),some (dI ((L.held.zip ws).take k)),o4,o5,none]) hz ⟨none,none,rfl⟩ ?_ ?_
 .rintro k d δ hkd ⟨o4,o5,rfl⟩
  rw[Ñ]at hkd;cases e:(L.held.zip L.lines)[k]? with
  |none=>rw[e]at hkd;cases hkd
  |some q=>
   rw[e]at hkd;cases hkd;let⟨q1,q2⟩:=Ĝ.mp e;have hk':k<P.k:=by have:=(Ò.mp q1).1;rw[R.hl]at this;exact this
   let⟨ln,l1,l2⟩:=R.l k hk';rw[q2]at l1;have el:ln=q.2:=(Option.some.inj l1).symm;subst el;refine⟨_,rfl,?_⟩;have ez:(L.held.zip ws)[k]?=some (q.1,T.L k P.n):=by rw[Ĝ];exact⟨q1,wa k hk'⟩
   have pt:=IT R.hl R.h (λi j hi hj e=>I.hi i j 'a' 'a' e) kk ez;have il:=WV l2.len (l2.at' P.n (Ç _));dsimp? [xY,il,pt];exact⟨_,_,rfl⟩
 .rintro δ ⟨o4,o5,rfl⟩
  rw[Ä,ê,R.hl,R.ll,Nat.min_self,List.take_of_length_le (by rw[ê,R.hl,wl];lia)];dsimp? [];refine aV.of (xI (n:=(P.n:Int)) (g:=λu=>fr (N7 (Sx.val P T u) T.s)) (c8 (by dsimp? [Ä,hr])) ∅ (by have:=K.n;lia) λk hk=>?_) ?_
  .have e:=(hv k).1
   have g0:((gI (L.held.zip ws) (k:Int)).map PyData.int).getD (.int 0)=.int (Sx.val P T k):=by
    unfold Sx.val;rw[<- e];cases gI (L.held.zip ws) (k:Int)<;>rfl
   dsimp? [VJ,W1,W0,g0,ts,R.s,W3 hs0 (K.fs.mono ⋯)]
  .rw[û]
   dsimp? [tg,sh,pe]
theorem aK0(h:aV c δ λb δ1=>if b=true then bO u δ1 (λδ2=>bO (fC c u) δ2 N B C R) N (λδ2=>bO (fC c u) δ2 N B C R) R else N δ1):bO (fC c u) δ N B C R:=by
 let⟨b,δ1,e,q⟩:=h.ex;cases b with
 |false=>
  refine bO.of (fl:=.next) (by rw[eQ,e];rfl) ?_;exact(by simpa using q:N δ1)
 |true=>
  rw[Á rfl]at q;let⟨fl,δ2,e2,q2⟩:=q.ex;cases fl with
  |next=>
   let⟨fl3,δ3,e3,q3⟩:=bO.ex q2;exact bO.of (fl:=fl3) (by rw[eQ,e];simp![aW,if_true,e2];exact e3) q3
  |cont=>
   let⟨fl3,δ3,e3,q3⟩:=bO.ex q2;exact bO.of (fl:=fl3) (by rw[eQ,e];simp![aW,if_true,e2];exact e3) q3
  |brk=>exact bO.of (fl:=.next) (by rw[eQ,e];simp![aW,if_true,e2]) q2
  |ret r=>exact bO.of (fl:=.ret r) (by rw[eQ,e];simp![aW,if_true,e2]) q2
def Ğ(Ã:ZK)(i:Nat):D:=.list ((((List.replicate Ã.length (0:Int)).set i 1)++[Ã.getD i 0]).map PyData.int)
theorem W4(hn:Ã.length<=900):sY [.list (Ã.map .int)]=.ok (.list ((List.range Ã.length).map (Ğ Ã))) []:=by
 refine aR (os:=[]) ?_;show bO mD [some (.list (Ã.map .int)),none,none,none,none] _ _ _ _;unfold mD;dsimp? [];refine dN (λk δ=>∃o2 o3 o4,δ=[some (.list (Ã.map .int)),some (.list ((List.range k).map (Ğ Ã))),o2,o3,o4]) (N5 (enc:=PyData.int) (xs:=Ã) (by dsimp? [])) ⟨none,none,none,rfl⟩ ?_ ?_
 .rintro k d δ hk ⟨o2,o3,o4,rfl⟩
  have hk0:=(Ò.mp hk).1;simp![Ä,List.length_zipIdx]at hk0;have ed:d=.tuple [.int (k:Int),.int (Ã.getD k 0)]:=by
   rw[Ñ,Ñ,List.getElem?_zipIdx,É hk0]at hk;simp![Option.map_some,Option.some.injEq]at hk;rw[<- hk,Ê,É hk0];simp
  subst ed;refine⟨_,rfl,?_⟩;dsimp? [];refine aV.of (cU (xs:=Ã) (enc:=PyData.int) (g:=λ_=>.int 0) (bW (by dsimp? [])) ∅ λx _=>by dsimp? []) ?_;have ei:=ixN_lt' (show k<((Ã.map λ_=>PyData.int 0)++[PyData.int (Ã.getD k 0)]).length by simp;exact Nat.lt_succ_of_lt ‹_›);have er:(List.range (k+1)).map (Ğ Ã)=(List.range k).map (Ğ Ã)++[Ğ Ã k]:=by rw[List.range_succ,Ú];rfl
  rw[er];have e0:(Ã.map λ_=>PyData.int 0)=(List.replicate Ã.length (0:Int)).map PyData.int:=by
   rw[List.map_replicate];exact List.map_const' ..
  have el:(((Ã.map λ_=>PyData.int 0)++[PyData.int (Ã.getD k 0)]).set k (.int 1))=(((List.replicate Ã.length (0:Int)).set k 1)++[Ã.getD k 0]).map PyData.int:=by
   rw[e0,List.set_append_left _ _ (by simpa using hk0),Ú,List.map_set];rfl
  have cat:S3 (.list (Ã.map λ_=>PyData.int 0)) (.list [PyData.int (Ã.getD k 0)])=some (.list ((Ã.map λ_=>PyData.int 0)++[PyData.int (Ã.getD k 0)])):=Á (by
   simp![Ä,Õ,ý];have:901<=sizeLine:=by decide
   exact Č ‹_› ‹_›)
  dsimp? [cat,ei,el];refine⟨by have:900<sizeLine:=⋯;simp![Ä,List.length_range];lia,_,_,_,rfl⟩
 .rintro δ ⟨o2,o3,o4,rfl⟩
  simp![Ä,List.length_zipIdx];dsimp? []
theorem aOQ:nI 20 0 "Table" "scale" s (dL "Table" [] [])=some (.dict [(.none,.str "Table"),(.str "scale",s)]):=by with_unfolding_all rfl
theorem aOR:nI 20 1 "Table" "free" f (.dict [(.none,.str "Table"),(.str "scale",s)])=some (.dict [(.none,.str "Table"),(.str "scale",s),(.str "free",f)]):=by with_unfolding_all rfl
theorem aOS:nI 20 1 "Table" "held" h (.dict [(.none,.str "Table"),(.str "scale",s),(.str "free",f)])=some (.dict [(.none,.str "Table"),(.str "scale",s),(.str "free",f),(.str "held",h)]):=by with_unfolding_all rfl
theorem aOT:nI 20 0 "Table" "lines" l (.dict [(.none,.str "Table"),(.str "scale",s),(.str "free",f),(.str "held",h)])=some (.dict [(.none,.str "Table"),(.str "scale",s),(.str "free",f),(.str "held",h),(.str "lines",l)]):=by with_unfolding_all rfl
theorem aOU:nI 20 0 "Table" "goal" g (.dict [(.none,.str "Table"),(.str "scale",s),(.str "free",f),(.str "held",h),(.str "lines",l)])=some (tb s f h l g):=by with_unfolding_all rfl
theorem aOV{n:Nat}(h:n<=1000):kJ [.int (n:Int)]=some (0,n):=by
 unfold kJ;dsimp only;rw[Á ⟨∅,∅⟩,û]
theorem aOW{n m:Nat}(h:n+m<=1000):kJ [.int (n:Int),.int ((n+m:Nat):Int)]=some ((n:Int),m):=by
 unfold kJ;dsimp only;rw[Á ⟨∅,∅,∅,∅⟩];have e:((((n+m:Nat):Int))-(n:Int)).toNat=m:=by lia
 rw[e]
theorem ů(h:n<=1000):n<=sizeLine:=Ø h (show 1000<=sizeLine by decide)
theorem W5(h:kJ ds=some (lo,n))(hn:n<=1000):ġ ds=some (.list (jI lo n)):=by
 unfold ġ;rw[h];exact Á (ů hn)
theorem aOX{n:Nat}(h:n<=1000):ġ [.int (n:Int)]=some (.list (((List.range n).map λ(i:Nat)=>(i:Int)).map PyData.int)):=by
 rw[W5 (aOV h) h];have e:jI 0 n=((List.range n).map λ(i:Nat)=>(i:Int)).map PyData.int:=by
  unfold jI;rw[å];refine List.map_congr_left λk _=>?_;show PyData.int (0+(k:Int))=.int (k:Int);rw[Int.zero_add]
 rw[e]
theorem aOY{n m:Nat}(h:n+m<=1000):ġ [.int (n:Int),.int ((n+m:Nat):Int)]=some (.list (((List.range m).map λ(i:Nat)=>((n+i:Nat):Int)).map PyData.int)):=by
 rw[W5 (aOW h) ∅];have e:jI (n:Int) m=((List.range m).map λ(i:Nat)=>((n+i:Nat):Int)).map PyData.int:=by
  unfold jI;rw[å];refine List.map_congr_left λk _=>?_;show PyData.int ((n:Int)+(k:Int))=.int ((n+k:Nat):Int);rw[Int.natCast_add]
 rw[e]
def į(r:ZK×Int):D:=.tuple [.list (r.1.map PyData.int),.int r.2]
abbrev Q7(rs:ZE):D:=.list (rs.map į)
theorem aB7(hm:Æ.length<=300)(hn:Ã.length<=300)(hr:∀r∈Æ,r.1.length=Ã.length):kZ [dL "Table" [] [],Q7 Æ,.list (Ã.map .int)]=.ok .none [some (b9 (Sx.startL Æ Ã))]:=by
 have sz:1000<=sizeLine:=by decide
 refine N3 (os:=[b9 (Sx.startL Æ Ã)]) ?_;show bO gU [some (dL "Table" [] []),some (Q7 Æ),some (.list (Ã.map .int))] _ _ _ _;unfold gU;have e1:=aOX (n:=Ã.length) ∅;have e2:=aOY (n:=Ã.length) (m:=Æ.length+Ã.length) ∅;have e3:((Ã.length+(Æ.length+Ã.length):Nat):Int)=(Ã.length:Int)+(Æ.length:Int)+(Ã.length:Int):=by lia
 rw[e3]at e2;have er:=W4 (Ã:=Ã) ∅;dsimp? [xX,aOQ,aHQ,Ä,e1,aOR,e2,aOS,Q7];refine aV.of (oR (xs:=Æ) (enc:=į) (A:=λr=>.list (r.1.map PyData.int)) (B:=λr=>.int r.2) (g:=λr=>.list ((r.1++[r.2]).map PyData.int)) (λ_=>rfl) (bW (by dsimp? [])) ∅ λr hr'=>?_) ?_
 .have hl:=hr r hr'
  have ll:∀l:ZI,MJ [.list l]=some (.list l):=λ_=>rfl;dsimp? [ll,Ä,Ú,Î,List.map_nil,Õ,ý];exact ů ∅
 .dsimp? [er,Ä,List.length_range]
  refine⟨∅,?_⟩;dsimp? [aOT,xX];refine aV.of (cU (xs:=Ã) (enc:=PyData.int) (g:=λ_=>.int 1) (bW (by dsimp? [])) ∅ λx _=>by dsimp? []) ?_;have g1:(Ã.map λ_=>PyData.int 1)++[PyData.int 0]=(List.replicate Ã.length (1:Int)++[0]).map PyData.int:=by
   have e0:(Ã.map λ_=>PyData.int 1)=List.replicate Ã.length (PyData.int 1):=List.map_const' ..;rw[Ú,List.map_replicate,e0,Î,List.map_nil]
  have g2:(Æ.map λr=>PyData.list ((r.1++[r.2]).map PyData.int))++(List.range Ã.length).map (Ğ Ã)=((Æ.map λr=>r.1++[r.2])++(List.range Ã.length).map λ(i:Nat)=>((List.replicate Ã.length (0:Int)).set i 1)++[Ã.getD i 0]).map λx=>PyData.list (x.map PyData.int):=by
   rw[Ú,å,å];congr 1
  have fin:tb (.int 1) (.list (((List.range Ã.length).map λ(i:Nat)=>(i:Int)).map PyData.int)) (.list (((List.range (Æ.length+Ã.length)).map λ(i:Nat)=>((Ã.length+i:Nat):Int)).map PyData.int)) (.list ((Æ.map λr=>PyData.list ((r.1++[r.2]).map PyData.int))++(List.range Ã.length).map (Ğ Ã))) (.list ((Ã.map λ_=>PyData.int 1)++[PyData.int 0]))=b9 (Sx.startL Æ Ã):=by
   rw[g1,g2];rfl
  dsimp? [Ä,Õ,ý];refine⟨ů ∅,?_⟩;dsimp? [aOU,fin]
structure Ĉ(Æ:ZE)(Ã:ZK)(A C:Nat):Prop where
 len:∀r∈Æ,r.1.length=Ã.length
 m:Æ.length<=300
 n:Ã.length<=300
 a1:1<=A
 a:∀r∈Æ,∀x∈r.1,x.natAbs<=A
 c:∀r∈Æ,r.2.natAbs<=C
 cr:∀x∈Ã,x.natAbs<=C
 f1:Sx.fac Ã.length*A^Ã.length<2^4000
 f2:(Ã.length+1)*(Sx.fac Ã.length*A^Ã.length*C)<2^4000
section
theorem IV{l:ZK}(h:∀y∈l,y.natAbs<=A):(l.getD x 0).natAbs<=A:=by
 rw[Ê];cases e:l[x]? with
 |none=>simp
 |some y=>exact h y (þ e)
theorem Ĉ.pa(b:Ĉ Æ Ã A C)(u x:Nat):((Sx.lpOf Æ Ã).pr.a u x).natAbs<=A:=by
 have a1:=b.a1;have h0:(0:Int).natAbs<=A:=by simp
 have h1:(1:Int).natAbs<=A:=by simpa using a1
 have h2:(-1:Int).natAbs<=A:=by simpa using a1
 show (if u<Ã.length then (if x=u then -1 else 0)else if u<Ã.length+Æ.length then (Æ.getD (u-Ã.length) ([],0)).1.getD x 0 else if u<Ã.length+Æ.length+Ã.length then (if x=u-(Ã.length+Æ.length)then 1 else 0)else 1:Int).natAbs<=A;split
 .split
  .exact h2
  .exact h0
 .split
  .refine IV λy hy=>?_
   rw[Ê]at hy;cases e:Æ[u-Ã.length]? with
   |none=>rw[e]at hy;cases hy
   |some r=>rw[e]at hy;exact b.a r (þ e) y hy
  .split
   .split
    .exact h1
    .exact h0
   .exact h1
theorem Ĉ.pc(b:Ĉ Æ Ã A C)(u:Nat):((Sx.lpOf Æ Ã).pr.c u).natAbs<=C:=by
 have h0:(0:Int).natAbs<=C:=by simp
 show (if u<Ã.length then 0 else if u<Ã.length+Æ.length then (Æ.getD (u-Ã.length) ([],0)).2 else if u<Ã.length+Æ.length+Ã.length then Ã.getD (u-(Ã.length+Æ.length)) 0 else 0:Int).natAbs<=C;split
 .exact h0
 .split
  .rw[Ê]
   cases e:Æ[u-Ã.length]? with
   |none=>exact h0
   |some r=>exact b.c r (þ e)
  .split
   .exact IV b.cr
   .exact h0
theorem Ĉ.ok(b:Ĉ Æ Ã A C)(I:Sx.Inv (Sx.lpOf Æ Ã).pr σ T)(R:Sx.Rp (Sx.lpOf Æ Ã).pr L T):Ok (Sx.lpOf Æ Ã).pr L T:=by
 let⟨h1,h2,h3⟩:=I.small (A:=A) (C:=C) (λu x _ _=>b.pa u x) (λu _=>b.pc u);have bm:=b.m;have bn:=b.n;refine⟨R,I.pos,Č h1 b.f1,λr j hr hj=>?_,?_,?_⟩
 .by_cases e:j<(Sx.lpOf Æ Ã).pr.n
  .exact Č (h2 r j hr e) b.f1
  .have e:j=(Sx.lpOf Æ Ã).pr.n:=by lia
   subst e;exact Č (h3 r hr) b.f2
 .show Ã.length<=900
  lia
 .show Æ.length+Ã.length<=900
  lia
end
def aK2(Q:Sx.Lp)(T:Sx.Tab):D:=.tuple [.str "fill",.list ((List.range Q.n).map λx=>fr (N7 (Sx.val Q.pr T x) T.s)),ģ Q.n Q.m (λu=>Sx.shr Q.n T.f (T.L Q.pr.k) u) T.s]
def aK3(Q:Sx.Lp)(T:Sx.Tab)(p:Nat):D:=.tuple [.str "none",ģ Q.n Q.m (λu=>if u=T.h p then T.s else Sx.shr Q.n T.f (T.L p) u) T.s]
def Ϧ(Q:Sx.Lp)(r:D):Prop:=∃T σ,Sx.Inv Q.pr σ T/\(((∀r,r<Q.pr.k->0<=T.L r Q.n)/\r=aK2 Q T)\/∃p,p<Q.pr.k/\T.L p Q.n<0/\(∀j,j<Q.n->0<=T.L p j)/\r=aK3 Q T p)
def ϧ(Æ:ZE)(Ã:ZK)(T:Sx.Tab):Prop:=∀(L:Sx.LT),Sx.Rp (Sx.lpOf Æ Ã).pr L T->∀(o4:ZL)(pl:D),cE [b9 L]=.ok pl [] ->
   bO (dW (fC (dB (iW w8 (bD 3) (dC .none)))
   (dW (fL 4 (PN (dR mF [.val (bD 2),.val (iW fE (DD (gS "Table" "lines") (bD 2)) (bD 3))])))
   (dW (mX (dB (iW ī (bD 4) (dC .none)))
    (t8 (dR nN [.val (bD 2),.val (bD 0),.val (bD 3)]))
    wV)
   (dW (pN (xN 2 "Table" "swap" mH [.val (bD 3),.val (bD 4)]))
   (fL 3 (PN (dR cE [.val (bD 2)])))))))
  (t8 (dR nQ [.val (bD 2),.val (bD 0),.val (bD 1)]))) [some (Q7 Æ),some (.list (Ã.map .int)),some (b9 L),some pl,o4] (λ_=>False) (λ_=>False) (λ_=>False) λr _=>Ϧ (Sx.lpOf Æ Ã) r
theorem aB9(b:Ĉ Æ Ã A C)(T:Sx.Tab)(I:Sx.Inv (Sx.lpOf Æ Ã).pr σ T):ϧ Æ Ã T:=by
 refine Sx.simplex_ind (Good:=ϧ Æ Ã) ?_ T I;clear I T;intro T I ih L R o4 pl hpl;have K:=b.ok I R;have hk:(Sx.lpOf Æ Ã).pr.k=Æ.length+(Sx.lpOf Æ Ã).pr.n:=rfl;have hm:(Æ.map į).length=Æ.length:=Ä _;have tl:gS "Table" "lines" (b9 L)=some (Q5 L.lines):=tO;rw[vJ];refine aK0 ?_;rcases zO K with ⟨all,e⟩|⟨p,hp,neg,first,e⟩
 .rw[e]at hpl
  cases hpl;have fe:=aB6 K I (rs:=Æ.map į) (Ã:=Ã) hm hk rfl;dsimp? [aKY,Bool.false_eq_true,if_false,fe];exact⟨T,σ,I,.inl ⟨all,rfl⟩⟩
 .rw[e]at hpl
  cases hpl;let⟨pv,e1,e2⟩:=R.l p hp;let⟨o,hB,ec⟩:=Q6 K hp e2;have i1:=ŭ e1;dsimp? [aKZ,if_true,tl,i1,ec,xZ];cases o with
  |none=>
   have ne:=aB5 K I (rs:=Æ.map į) hm hk hp;simp![oD,aHR];dsimp? [ϥ,ne];exact⟨T,σ,I,.inr ⟨p,hp,neg,hB,rfl⟩⟩
  |some d=>
   have C:=Sx.ch_of hp neg first hB
   have R':=R.swap hp C.hd;have I':=C.inv I;have K':=b.ok I' R';have sw:=aB1 K hp C.hd;obtain⟨pl',ep,hv⟩:∃pl',cE [b9 (Sx.swapL L p d)]=.ok pl' []/\(JN pl').isSome=true:=by
    rcases zO K' with ⟨_,e⟩|⟨q,_,_,_,e⟩
    .exact⟨_,e,rfl⟩
    .exact⟨_,e,rfl⟩
   have nx:=ih p d C (Sx.swapL L p d) R' (some (.int (d:Int))) pl' ep;rw[vJ]at nx;simp![oD,VM];have tm:xV "Table" "swap" (b9 L):=aB0;dsimp? [Ů,aHO,tm,true_and,sw,ep,xZ];refine⟨hv,?_⟩;dsimp? [];exact nx
theorem W6(b:Ĉ Æ Ã A C):∃r,EO [Q7 Æ,.list (Ã.map .int)]=.ok r []/\Ϧ (Sx.lpOf Æ Ã) r:=by
 have bm:=b.m;have bn:=b.n;have R:=Sx.start_ok b.len;have I:=(Sx.lpOf Æ Ã).inv;have K:=b.ok I R;have ie:=aB7 (Æ:=Æ) (Ã:=Ã) (by assumption) (by assumption) b.len;obtain⟨pl,ep,hv⟩:∃pl,cE [b9 (Sx.startL Æ Ã)]=.ok pl []/\(JN pl).isSome=true:=by
  rcases zO K with ⟨_,e⟩|⟨q,_,_,_,e⟩
  .exact⟨_,e,rfl⟩
  .exact⟨_,e,rfl⟩
 have wk:=aB9 b _ I (Sx.startL Æ Ã) R none pl ep;refine i7 (m0:=5) (rm:=0) ?_;show bO EN [some (Q7 Æ),some (.list (Ã.map .int)),none,none,none] _ _ _ _;unfold EN;dsimp? [aHP];unfold VH;refine⟨_,_,rfl,ie,?_⟩;dsimp? [ep,xZ];refine⟨hv,?_⟩;dsimp? [];rw[vJ]at wk;exact wk
abbrev iL(ns:ZK):D:=.list (ns.map PyData.int)
def Q8(r:ZK×Int):D:=.tuple [iL r.1,.int r.2]
abbrev Ϩ(rs:ZE):D:=.list (rs.map Q8)
def ϩ(a:Nat)(ns:ZK):Prop:=∀n∈ns,fJ a n
theorem aNJ(h:1<=n):fJ n 1:=by
 show (1:Int).natAbs<2^n;have:2^1<=2^n:=Nat.pow_le_pow_right ⋯ h;simp;exact Ü ‹_›
theorem aCA{ns:ZK}(h:k<ns.length):atI (ns.map PyData.int) (k:Int)=some (.int (ns.getD k 0)):=by
 refine eE ?_;rw[Ñ,É h,Ê,É h];rfl
end Toy
namespace L2
open PySem PySem.Spec
end L2
namespace Toy
open PySem L2
section
end
def qs(n:Nat)(y:Nat->Int)(s:Int):ZF:=(List.range n).map λx=>N7 (y x) s
section
end
section
abbrev y0(Æ:ZE)(Ã:ZK)(y:Nat->Int)(r:Nat):Int:=y (Ã.length+r)
abbrev y1(Æ:ZE)(Ã:ZK)(y:Nat->Int)(i:Nat):Int:=y (Ã.length+Æ.length+i)
end
section
end
end Toy
namespace L2
open PySem PySem.Spec
theorem nZ(P:ZO)(h1:bO u δ P B C R)(h2:∀δ1,P δ1->bO v δ1 N B C R):bO (dW u v) δ N B C R:=by
 rw[vJ];let⟨fl,δ1,e,q⟩:=h1.ex;refine .of e ?_;cases fl with
 |next=>exact h2 _ q
 |_=>exact q
theorem seq_assoc:dW a (dW b c)=dW (dW a b) c:=by
 funext δ;unfold dW;cases a δ with
 |stuck=>rfl
 |err x d=>rfl
 |ok fl d=>cases fl<;>rfl
end L2
namespace Toy
open PySem L2
theorem Ϙ:ę true (.str "fill") (.tuple [.str "fill",.str "none"])=some (.bool false):=by with_unfolding_all rfl
theorem aNK:wZ (.str "fill") (.str "fill")=some (.bool false):=by with_unfolding_all rfl
end Toy
namespace L2
open PySem PySem.Spec
section
end
theorem c6{i:Nat}{δ:DS}(h1:δ[i]?=some (some (.list as))):j5 (bD i) δ=.ok as δ:=by
 simp![j5,cX h1,aW]
theorem aCB(h:aV (aY [f,g]) δ λds δ1=>ds=[.list as,.list bs]/\δ1=δ):AJ f g δ=.ok (oY as bs) δ:=by
 let⟨ds,δ1,e,rfl,rfl⟩:=h.ex;unfold AJ;rw[e,aW]
theorem jX{i:Nat}{δ:DS}(h1:δ[i]?=some (some (.list as))):xE (bD i) δ=.ok (eY as) δ:=by
 simp![xE,aY,cX h1,aW]
theorem aCC(h:as.length=bs.length):(oY as bs).length=as.length:=by simp[oY,h]
theorem iA:(eY as).length=as.length:=by simp[eY]
theorem fM:j5 (FZ [dC a,dC b]) δ=.ok [a,b] δ:=by
 simp![j5,FZ,aY,hU,aW];rw[Á (show [a,b].length<=sizeLine from Ø (show 2<=1000 by decide) ⋯)];rfl
theorem u6{α:Type}{enc g:α->D}{h:α->Bool}{t:M Bool}{e:M D}{δ:DS}:∀{xs:List α}{acc:ZI}{o:ZL},(∀x∈xs,t (some (enc x)::δ)=.ok (h x) (some (enc x)::δ))->(∀x∈xs,e (some (enc x)::δ)=.ok (g x) (some (enc x)::δ))->acc.length+xs.length<=sizeLine->∃o',bQ (eK 0) t e (xs.map enc) acc (o::δ)=.ok (acc++(xs.filter h).map g) (o'::δ)
 |[],acc,o,_,_,_=>⟨o,by simp[bQ]⟩
 |x::xs,acc,o,ht,he,hl=>by
  have hd:=ht x Ó;have hv:=he x Ó;rw[Õ]at hl;have e1:eK 0 (enc x) (o::δ)=some (some (enc x)::δ):=by simp[eK]
  cases hk:h x with
  |true=>
   let⟨o',ih⟩:=u6 (xs:=xs) (acc:=acc++[g x]) (o:=some (enc x)) (λy hy=>ht y (Ï _ hy)) (λy hy=>he y (Ï _ hy)) (by simp;lia);refine⟨o',?_⟩;rw[Î];unfold bQ;rw[e1];simp![hd,hk,Res.bind,if_true,hv];rw[Á ∅,ih];simp[hk]
  |false=>
   let⟨o',ih⟩:=u6 (xs:=xs) (acc:=acc) (o:=some (enc x)) (λy hy=>ht y (Ï _ hy)) (λy hy=>he y (Ï _ hy)) ∅;refine⟨o',?_⟩;rw[Î];unfold bQ;rw[e1];simp![hd,hk,Res.bind,Bool.false_eq_true,if_false];rw[Á ∅,ih];simp[hk]
theorem oV{α:Type}{enc g:α->D}{h:α->Bool}{f:M (ZI)}{t:M Bool}{e:M D}{δ:DS}{xs:List α}(hf:f δ=.ok (xs.map enc) δ)(hl:xs.length<=1000)(ht:∀x∈xs,aV t (some (enc x)::δ) λb δ1=>b=h x/\δ1=some (enc x)::δ)(he:∀x∈xs,aV e (some (enc x)::δ) λa δ1=>a=g x/\δ1=some (enc x)::δ):dZ 1 (eK 0) f t e δ=.ok (.list ((xs.filter h).map g)) δ:=by
 unfold dZ;rw[hf];let⟨o',q⟩:=u6 (h:=h) (t:=t) (acc:=[]) (o:=none) (λx hx=>by
  let⟨b,δ1,e,rfl,rfl⟩:=(ht x hx).ex;exact e) (λx hx=>c8 (he x hx)) (by rw[ý,Nat.zero_add];exact Ø hl (show 1000<=sizeLine by decide))
 simp![Res.bind];rw[show List.replicate 1 (none:ZL)++δ=none::δ from rfl,q];simp
theorem Ϫ{n:Nat}{k:Int}(h0:0<=k)(h1:k<n):mY n k=some k.toNat:=by
 unfold mY;rw[Á ∅,Á ∅]
theorem aCD(h:c<1000):PyData.strOk ⟨#[c]⟩=true:=by
 show (#[c]:Array Nat).all (·<0x110000)=true;simp;lia
theorem B7(h:x.length+y.length<=1000):KC (.str x) (.str y)=some (.str (x++y)):=by
 have hz:sizeLine=2^24:=rfl;have:C9 (.str x) (.str y)=some (.str (x++y)):=Á ∅;unfold KC;rw[this];rfl
theorem iB{x y:Str}:(x++y).length=x.length+y.length:=by
 show (x.cps++y.cps).size=_;rw[Array.size_append];rfl
theorem zP(hx:PyData.strOk x=true)(hy:PyData.strOk y=true):PyData.strOk (x++y)=true:=by
 show (x.cps++y.cps).all (·<0x110000)=true;rw[Array.all_append,show x.cps.all (·<0x110000)=true from hx,show y.cps.all (·<0x110000)=true from hy];rfl
theorem dA(s:String):PyData.strOk (Str.ofString s)=true:=by
 rw[Str.ofString_eq_toList];show ((s.toList.map Char.toNat).toArray).all (·<0x110000)=true;rw[List.all_toArray,è];intro x hx;let⟨c,_,rfl⟩:=Ö.mp hx;have:=c.valid;rw[decide_eq_true_eq];rcases this with h|h
 .exact Nat.lt_trans h ⋯
 .exact h.2
structure bH(z:Str):Prop where
 len:z.length<=8
 ok:PyData.strOk z=true
theorem bH.sh(h:bH z):Sh 1 (.str z):=by
 have hz:sizeLine=2^24:=rfl;have:=h.len;exact⟨by simp[PyData.canLay0,h.ok],by simp[PyData.depth]⟩
theorem IW(hx:bH x)(hy:bH y):PF (.str x) (.str y)=some (.bool (x == y)):=by
 unfold PF;rw[Á ⟨hx.sh.shaped ⋯,hy.sh.shaped ⋯⟩];rfl
theorem ϫ(hx:bH x)(hy:bH y):wZ (.str x) (.str y)=some (.bool (!(x == y))):=by
 unfold wZ;rw[Á ⟨hx.sh.shaped ⋯,hy.sh.shaped ⋯⟩];rfl
end L2
namespace Toy
open PySem L2
structure St where
 nm:Str
 x:Int
 y:Int
 z:Int
 t:Int
 h:Int
 m:Int
structure Bx where
 nm:Str
 w:Int
 p:Str
 k:Str
 b:Int
structure Tk where
 nm:Str
 x:Int
 y:Int
 z:Int
 r:Int
def p6(s:St):D:=.tuple [.str s.nm,.int s.x,.int s.y,.int s.z,.int s.t,.int s.h,.int s.m]
def eC(b:Bx):D:=.tuple [.str b.nm,.int b.w,.str b.p,.str b.k,.int b.b]
def zQ(t:Tk):D:=.tuple [.str t.nm,.int t.x,.int t.y,.int t.z,.int t.r]
def aK(bs:List Bx):D:=.list (bs.map eC)
def rH(x:Int):Prop:=-1000000000<=x/\x<=1000000000
structure EY(s:St):Prop where
 nm:bH s.nm
 x:rH s.x
 y:rH s.y
 z:rH s.z
 t:rH s.t
structure EZ(s:Tk):Prop where
 nm:bH s.nm
 x:rH s.x
 y:rH s.y
 z:rH s.z
 r:0<=s.r/\s.r<=1000000000
structure aH2(b:Bx):Prop where
 nm:bH b.nm
 p:bH b.p
 k:bH b.k
 w:1<=b.w/\b.w<=1000000000
structure sT(own:Int×Int×Int×Int)(ss:List St)(cs:List 'l')(ts:List Tk):Prop where
 o0:1<=own.1/\own.1<=1000000000
 o1:rH own.2.1/\rH own.2.2.1/\rH own.2.2.2
 ls:ss.length<=10
 lc:cs.length=ss.length
 lb:∀c∈cs,c.length<=30
 lt:ts.length<=4
 gs:∀s∈ss,EY s
 gb:∀c∈cs,∀b∈c,aH2 b
 gt:∀t∈ts,EZ t
def zR(o:Int×Int×Int×Int):D:=.tuple [.int o.1,.int o.2.1,.int o.2.2.1,.int o.2.2.2]
abbrev Q4:=Int×Int×Int×Int
def T4:List Q4->Q4
 |[]=>(0,0,0,0)
 |p::l=>(p.1+(T4 l).1,p.1*p.2.1+(T4 l).2.1,p.1*p.2.2.1+(T4 l).2.2.1,p.1*p.2.2.2+(T4 l).2.2.2)
theorem W7:∀(l m:List Q4),T4 (l++m)=((T4 l).1+(T4 m).1,(T4 l).2.1+(T4 m).2.1,(T4 l).2.2.1+(T4 m).2.2.1,(T4 l).2.2.2+(T4 m).2.2.2)
 |[],m=>by simp[T4]
 |p::l,m=>by
  rw[List.cons_append,T4,W7 l m,T4];simp![Int.add_assoc]
theorem aCE(l:List Q4)(p:Q4):T4 (l++[p])=((T4 l).1+p.1,(T4 l).2.1+p.1*p.2.1,(T4 l).2.2.1+p.1*p.2.2.1,(T4 l).2.2.2+p.1*p.2.2.2):=by
 rw[W7];simp[T4]
def AX:St:=⟨"",0,0,0,0,0,0⟩
def AA:Bx:=⟨"",0,"","",0⟩
def aOZ:Tk:=⟨"",0,0,0,0⟩
def JQ(s:St)(bs:List Bx)(t:Nat):List Q4:=(List.range t).map λ(j:Nat)=>((bs.getD j AA).w,s.x,s.y,s.z+(j:Int)*s.t)
def tP(ss:List St)(cs:List 'l')(k:Nat):List Q4:=((List.range k).map λj=>JQ (ss.getD j AX) (cs.getD j []) (cs.getD j []).length).flatten
theorem W8:JQ s bs (t+1)=JQ s bs t++[((bs.getD t AA).w,s.x,s.y,s.z+(t:Int)*s.t)]:=by
 unfold JQ;rw[List.range_succ,Ú];rfl
theorem IX:tP ss cs (k+1)=tP ss cs k++JQ (ss.getD k AX) (cs.getD k []) (cs.getD k []).length:=by
 unfold tP;rw[List.range_succ,Ú,List.flatten_append];simp
theorem fI{α:Type}{l:List α}{d:α}(h:k<l.length):l[k]?=some (l.getD k d):=by
 rw[Ê,É h];rfl
theorem cM{α:Type}{l:List α}{d:α}(h:k<l.length):l.getD k d∈l:=þ (fI h)
theorem LI{α:Type}{enc:α->D}{l:List α}{d:α}(h:k<l.length):atI (l.map enc) (k:Int)=some (enc (l.getD k d)):=by
 refine eE ?_;rw[Ñ,fI (d:=d) h];rfl
def LJ(q:Q4):D:=.tuple [.int q.1,.int q.2.1,.int q.2.2.1,.int q.2.2.2]
def Sm(x:Int):Prop:=-18446744073709551616<x/\x<18446744073709551616
theorem IY(hw:Sm w):v9 [LJ q,.int w,.tuple [.int x,.int y,.int z]]=.ok (LJ (q.1+w,q.2.1+w*x,q.2.2.1+w*y,q.2.2.2+w*z)) []:=by
 let⟨h1,h2⟩:=hw;refine aR (os:=[]) ?_;show bO ER [some (LJ q),some (.int w),some (.tuple [.int x,.int y,.int z])] _ _ _ _;unfold ER;dsimp? [LJ];exact⟨by ac_nf,by ac_nf,by ac_nf⟩
theorem XA{α β:Type}{f:α->D}{g:β->D}{as:List α}{bs:List β}{a0:α}{b0:β}{k:Nat}{d:D}(h:(oY (as.map f) (bs.map g))[k]?=some d):k<as.length/\k<bs.length/\d=.tuple [f (as.getD k a0),g (bs.getD k b0)]:=by
 have hi:=(Ò.mp h).1;simp![oY,List.length_zipWith,Ä]at hi;have h1:k<as.length:=by lia
 have h2:k<bs.length:=by lia
 refine⟨h1,h2,?_⟩;rw[oY,List.getElem?_zipWith,Ñ,Ñ,fI (d:=a0) h1,fI (d:=b0) h2]at h;simp![Option.map_some,Option.some.injEq]at h;rw[<- h]
theorem fV{α:Type}{f:α->D}{as:List α}{a0:α}{k:Nat}{d:D}(h:(eY (as.map f))[k]?=some d):k<as.length/\d=.tuple [.int (k:Int),f (as.getD k a0)]:=by
 have hi:=(Ò.mp h).1;simp![eY,List.length_mapIdx,Ä]at hi;refine⟨hi,?_⟩;rw[eY,List.getElem?_mapIdx,Ñ,fI (d:=a0) hi]at h;simp![Option.map_some,Option.some.injEq]at h;rw[<- h]
theorem aK5:Z7 (.tuple (a::l)) (some 1) none=some (.tuple l):=by
 show (if HT.sIx (l.length+1) 0 (some ((1:Nat):Int))=0/\HT.sIx (l.length+1) (l.length+1) none=l.length+1 then none else some (PyData.tuple (AI (a::l) (some ((1:Nat):Int)) none)))=_;rw[HT.sIx_nat,Â ∅];have:=kR (ds:=a::l) (k:=1) 'e';have:=PyData.list.inj (Option.some.inj this);rw[this];rfl
section
variable {own:Q4}{ss:List St}{cs:List 'l'}{ts:List Tk}{bd ap tk:D}
theorem LK(M:sT own ss cs ts):BV [.tuple [zR own,bd,.list (ss.map p6),tk,ap],.list (cs.map aK)]=.ok (LJ (T4 (own::tP ss cs ss.length))) []:=by
 have lc:=M.lc;have ls:=M.ls;have o0:=M.o0;refine aR (os:=[]) ?_;show bO uU [some (.tuple [zR own,bd,.list (ss.map p6),tk,ap]),some 'c',none,none,none,none,none,none,none] _ _ _ _;unfold uU;have e0:=IY (q:=(0,0,0,0)) (w:=own.1) (x:=own.2.1) (y:=own.2.2.1) (z:=own.2.2.2) (by unfold Sm;lia);have z0:((0+own.1,0+own.1*own.2.1,0+own.1*own.2.2.1,0+own.1*own.2.2.2):Q4)=T4 [own]:=by simp[T4]
 rw[z0]at e0;have e0':v9 [.tuple [.int 0,.int 0,.int 0,.int 0],.int own.1,.tuple [.int own.2.1,.int own.2.2.1,.int own.2.2.2]]=.ok (LJ (T4 [own])) []:=e0;dsimp? [zR,GO,l8,l9,sH,aK5,e0'];refine dN (ds:=oY (ss.map p6) (cs.map aK)) (δ1:=_) (λk δ=>∃o4 o5 o6 o7 o8,δ=[some (.tuple [.tuple [.int own.1,.int own.2.1,.int own.2.2.1,.int own.2.2.2],bd,.list (ss.map p6),tk,ap]),some 'c',some (.tuple [.int own.1,.int own.2.1,.int own.2.2.1,.int own.2.2.2]),some (LJ (T4 (own::tP ss cs k))),o4,o5,o6,o7,o8]) (aCB (by dsimp? [])) ⟨_,_,_,_,_,by simp[tP];exact⟨rfl,rfl,rfl,rfl,rfl⟩⟩ ?_ ?_
 .rintro k d δ hk ⟨o4,o5,o6,o7,o8,rfl⟩
  let⟨k1,k2,rfl⟩:=XA (a0:=AX) (b0:=[]) hk;have gb:=M.gb _ (cM (d:=[]) k2);refine⟨_,rfl,?_⟩;refine dN (ds:=eY ((cs.getD k []).map eC)) (λt δ=>∃o6 o7 o8,δ=[some (.tuple [.tuple [.int own.1,.int own.2.1,.int own.2.2.1,.int own.2.2.2],bd,.list (ss.map p6),tk,ap]),some 'c',some (.tuple [.int own.1,.int own.2.1,.int own.2.2.1,.int own.2.2.2]),some (LJ (T4 (own::tP ss cs k++JQ (ss.getD k AX) (cs.getD k []) t))),some (p6 (ss.getD k AX)),some (aK (cs.getD k [])),o6,o7,o8]) (jX rfl) ⟨_,_,_,by simp[JQ];exact⟨rfl,rfl,rfl⟩⟩ ?_ ?_
  .rintro t d δ ht ⟨o6,o7,o8,rfl⟩
   let⟨t1,rfl⟩:=fV (a0:=AA) ht;have gw:=gb _ (cM (d:=AA) t1);generalize hs:ss.getD k AX=s at *;generalize hb:(cs.getD k []).getD t AA=b at *;have e1:=IY (q:=T4 (own::tP ss cs k++JQ s (cs.getD k []) t)) (w:=b.w) (x:=s.x) (y:=s.y) (z:=s.z+(t:Int)*s.t) (by unfold Sm;have:=gw.w;lia);have lb:=M.lb _ (cM (d:=[]) k2);refine⟨_,rfl,?_⟩;dsimp? [p6,eC,e1];have eT:T4 (own::tP ss cs k++JQ s (cs.getD k []) (t+1))=((T4 (own::tP ss cs k++JQ s (cs.getD k []) t)).1+b.w,(T4 (own::tP ss cs k++JQ s (cs.getD k []) t)).2.1+b.w*s.x,(T4 (own::tP ss cs k++JQ s (cs.getD k []) t)).2.2.1+b.w*s.y,(T4 (own::tP ss cs k++JQ s (cs.getD k []) t)).2.2.2+b.w*(s.z+(t:Int)*s.t)):=by
    rw[W8,<- List.append_assoc,aCE,hb]
   rw[eT];exact⟨by ac_nf,_,_,_,rfl⟩
  .rintro δ ⟨o6,o7,o8,rfl⟩
   rw[iA,Ä,IX];exact⟨_,_,_,_,_,rfl⟩
 .rintro δ ⟨o4,o5,o6,o7,o8,rfl⟩
  rw[aCC (by simp[lc]),Ä];dsimp? []
end
section
variable {own:Q4}{ss:List St}{cs:List 'l'}{ts:List Tk}
theorem N9:(ts.map λt=>PyData.int (f t))=(ts.map f).map PyData.int:=by simp
theorem E0{g:Tk->Int}(hl:ts.length<=10)(hg:∀t:Tk,atI [PyData.str t.nm,.int t.x,.int t.y,.int t.z,.int t.r] axis=some (.int (g t)))(hq:atI [PyData.int q.1,.int q.2.1,.int q.2.2.1,.int q.2.2.2] axis=some (.int qa))(hh:rH high):
  g8 [.list (ts.map zQ),.int axis,.int high,LJ q]=.ok (Q8 (ts.map λt=>g t-high,high*q.1-qa)) []:=by
 unfold rH at hh;refine aR (os:=[]) ?_;show bO kC [some (.list (ts.map zQ)),some (.int axis),some (.int high),some (LJ q)] _ _ _ _;unfold kC;dsimp? [];refine aV.of (cU (enc:=zQ) (xs:=ts) (g:=λt=>.int (g t-high)) (c6 rfl) ∅ λt _=>?_) ?_
 .dsimp? [zQ,hg]
 .rw[N9]
  dsimp? [LJ,hq,Q8];exact(by ac_nf)
theorem XB{g:Tk->Int}(hl:ts.length<=10)(hg:∀t:Tk,atI [PyData.str t.nm,.int t.x,.int t.y,.int t.z,.int t.r] axis=some (.int (g t)))(hq:atI [PyData.int q.1,.int q.2.1,.int q.2.2.1,.int q.2.2.2] axis=some (.int qa))(hh:rH low):
  mL [.list (ts.map zQ),.int axis,.int low,LJ q]=.ok (Q8 (ts.map λt=>low-g t,qa-low*q.1)) []:=by
 unfold rH at hh;refine aR (os:=[]) ?_;show bO mK [some (.list (ts.map zQ)),some (.int axis),some (.int low),some (LJ q)] _ _ _ _;unfold mK;dsimp? [];refine aV.of (cU (enc:=zQ) (xs:=ts) (g:=λt=>.int (low-g t)) (c6 rfl) ∅ λt _=>?_) ?_
 .dsimp? [zQ,hg]
 .rw[N9]
  dsimp? [LJ,hq,Q8];exact(by ac_nf)
structure OA where
 b0:Int
 b1:Int
 b2:Int
 b3:Int
 b4:Int
 b5:Int
structure tQ(b:OA):Prop where
 b0:rH b.b0
 b1:rH b.b1
 b2:rH b.b2
 b3:rH b.b3
 b4:rH b.b4
 b5:rH b.b5
def YN(b:OA):D:=.tuple [.int b.b0,.int b.b1,.int b.b2,.int b.b3,.int b.b4,.int b.b5]
def IZ(ts:List Tk)(b:OA)(q:Q4):ZE:=
 [(ts.map λt=>t.x-b.b1,b.b1*q.1-q.2.1),(ts.map λt=>b.b0-t.x,q.2.1-b.b0*q.1),(ts.map λt=>t.y-b.b3,b.b3*q.1-q.2.2.1),(ts.map λt=>b.b2-t.y,q.2.2.1-b.b2*q.1),(ts.map λt=>t.z-b.b4,b.b4*q.1-q.2.2.2),(ts.map λ_=>1,b.b5-q.1)]
theorem aCF(M:sT own ss cs ts)(g:tQ b):uW [.tuple [zR own,YN b,.list (ss.map p6),.list (ts.map zQ),ap],.list (cs.map aK)]=.ok (.list ((IZ ts b (T4 (own::tP ss cs ss.length))).map Q8)) []:=by
 have lt:ts.length<=10:=Ø M.lt ⋯;have e0:=LK (bd:=YN b) (tk:=.list (ts.map zQ)) (ap:=ap) M;generalize T4 (own::tP ss cs ss.length)=q at *;have h1:=E0 (ts:=ts) (axis:=1) (g:=λt=>t.x) (q:=q) (qa:=q.2.1) lt (λ_=>xG) xG g.b1;have h2:=XB (ts:=ts) (axis:=1) (g:=λt=>t.x) (q:=q) (qa:=q.2.1) lt (λ_=>xG) xG g.b0;have h3:=E0 (ts:=ts) (axis:=2) (g:=λt=>t.y) (q:=q) (qa:=q.2.2.1) lt (λ_=>xH) xH g.b3;have h4:=XB (ts:=ts) (axis:=2) (g:=λt=>t.y) (q:=q) (qa:=q.2.2.1) lt (λ_=>xH) xH g.b2;have h5:=E0 (ts:=ts) (axis:=3) (g:=λt=>t.z) (q:=q) (qa:=q.2.2.2) lt (λ_=>MZ) MZ g.b4;refine aR (os:=[]) ?_;show bO uV [some (.tuple [zR own,YN b,.list (ss.map p6),.list (ts.map zQ),ap]),some 'c',none,none,none] _ _ _ _;unfold uV;dsimp? [e0];simp![YN];dsimp? [h1,h2,h3,h4,h5];refine aV.of (cU (enc:=zQ) (xs:=ts) (g:=λ_=>.int 1) (c6 rfl) ∅ λt _=>by dsimp? []) ?_;rw[N9 (f:=λ_=>1)];dsimp? [LJ];rfl
theorem LL(lt:ts.length<=10):qU [.tuple [A,B,C,.list (ts.map zQ),E]]=.ok (iL (ts.map λt=>t.r)) []:=by
 refine aR (os:=[]) ?_;show bO qT [some (.tuple [A,B,C,.list (ts.map zQ),E])] _ _ _ _;unfold qT;dsimp? [];refine aV.of (cU (enc:=zQ) (xs:=ts) (g:=λt=>.int t.r) (bW (by dsimp? [])) ∅ λt _=>by dsimp? [zQ]) ?_;rw[N9];exact⟨rfl,rfl⟩
end
section
variable {own:Q4}{ss:List St}{cs:List 'l'}{ts:List Tk}
theorem Ϭ(h1:-1000000000<=x)(h2:x<=1000000000):fJ 30 x:=by show x.natAbs<2^30;lia
theorem rH.fit(h:rH x):fJ 30 x:=Ϭ h.1 h.2
theorem OB:∀l:List Q4,T4 l=((l.map λq=>q.1).sum,(l.map λq=>q.1*q.2.1).sum,(l.map λq=>q.1*q.2.2.1).sum,(l.map λq=>q.1*q.2.2.2).sum)
 |[]=>rfl
 |p::l=>by rw[T4,OB l];simp
theorem OC(M:sT own ss cs ts):∀k,k<=ss.length->(tP ss cs k).length<=30*k
 |0,_=>by simp[tP]
 |k+1,hk=>by
  have ih:=OC M k ∅;have lc:=M.lc;have lb:=M.lb _ (cM (d:=[]) (show k<cs.length by lia));rw[IX,Ë];have:(JQ (ss.getD k AX) (cs.getD k []) (cs.getD k []).length).length=(cs.getD k []).length:=by simp[JQ]
  lia
structure aO0(p:Q4):Prop where
 w:1<=p.1/\p.1<=1000000000
 x:fJ 40 p.2.1
 y:fJ 40 p.2.2.1
 z:fJ 40 p.2.2.2
theorem aH3(M:sT own ss cs ts):∀p∈own::tP ss cs ss.length,aO0 p:=λp hp=>by
 rcases Í.mp hp with rfl|hp
 .have:=M.o1
  exact⟨M.o0,this.1.fit.mono ⋯,this.2.1.fit.mono ⋯,this.2.2.fit.mono ⋯⟩
 .unfold tP at hp
  let⟨l,hl,hq⟩:=List.mem_flatten.mp hp;let⟨j,hj,rfl⟩:=Ö.mp hl;have hj:=List.mem_range.mp hj;unfold JQ at hq;let⟨t,ht,rfl⟩:=Ö.mp hq;have ht:=List.mem_range.mp ht;have lc:=M.lc;have hc:j<cs.length:=by lia
  have gb:=M.gb _ (cM (d:=[]) hc) _ (cM (d:=AA) ht);have lb:=M.lb _ (cM (d:=[]) hc);have gs:=M.gs _ (cM (d:=AX) hj);refine⟨gb.w,gs.x.fit.mono ⋯,gs.y.fit.mono ⋯,?_⟩;have h1:=gs.z;have h2:=gs.t;unfold rH at h1 h2;have ht':(t:Int)<=30:=by lia
  have e1:(t:Int)*(ss.getD j AX).t<=30*1000000000:=by
   have a1:=Int.mul_le_mul_of_nonneg_left h2.2 (show (0:Int)<=(t:Int) by lia);lia
  have e2:-(30*1000000000)<=(t:Int)*(ss.getD j AX).t:=by
   have a1:=Int.mul_le_mul_of_nonneg_left h2.1 (show (0:Int)<=(t:Int) by lia);lia
  show ((ss.getD j AX).z+(t:Int)*(ss.getD j AX).t).natAbs<2^40;lia
open Classical in
end
theorem XC :∀xs:ZK,(∀x∈xs,fJ m x)->xs.sum.natAbs<=xs.length*2^m
 |[],_=>é _
 |x::xs,h=>by
  have h1:x.natAbs<2^m:=h x Ó;have h2:=XC xs λq hq=>h q (Ï _ hq);rw[List.sum_cons,Õ,Nat.succ_mul];have:=Int.natAbs_add_le x xs.sum;lia
theorem aCG{xs:ZK}(hl:xs.length<512)(hn:m+9=n)(h:∀x∈xs,fJ m x):fJ n xs.sum:=by
 subst hn;have:=XC xs h;have h2:=Nat.two_pow_pos m;show _<2^(m+9);rw[Nat.pow_add,Nat.mul_comm];exact Č this ((Nat.mul_lt_mul_right h2).mpr hl)
section
variable {own:Q4}{ss:List St}{cs:List 'l'}{ts:List Tk}
theorem aH4(M:sT own ss cs ts):fJ 80 (T4 (own::tP ss cs ss.length)).1/\fJ 80 (T4 (own::tP ss cs ss.length)).2.1/\fJ 80 (T4 (own::tP ss cs ss.length)).2.2.1/\fJ 80 (T4 (own::tP ss cs ss.length)).2.2.2:=by
 have ls:=M.ls;have len:=OC M ss.length (Ç _);have al:=aH3 M;rw[OB];have l1:(own::tP ss cs ss.length).length<512:=by rw[Õ];lia
 generalize own::tP ss cs ss.length=L at *;have w:∀p∈L,fJ 30 p.1:=λp hp=>Ϭ (by have:=(al p hp).w;lia) (al p hp).w.2;have main:∀f:Q4->Int,(∀p∈L,fJ 71 (f p))->fJ 80 (L.map f).sum:=λf hf=>aCG (m:=71) (by rw[Ä];exact l1) rfl λx hx=>by
  let⟨p,hp,rfl⟩:=Ö.mp hx;exact hf p hp
 exact⟨main _ λp hp=>(w p hp).mono ⋯,main _ λp hp=>(w p hp).mul (al p hp).x ⋯,main _ λp hp=>(w p hp).mul (al p hp).y ⋯,main _ λp hp=>(w p hp).mul (al p hp).z ⋯⟩
structure W9(Æ:ZE)(Ã:ZK):Prop where
 n:Ã.length<=4
 m:Æ.length<=8
 rw:∀r∈Æ,r.1.length=Ã.length/\ϩ 40 r.1/\fJ 120 r.2
 ro:∀r∈Ã,0<=r/\r<=1000000000
theorem aCH(M:sT own ss cs ts)(g:tQ b):W9 (IZ ts b (T4 (own::tP ss cs ss.length))) (ts.map λt=>t.r):=by
 let⟨f0,f1,f2,f3⟩:=aH4 M;have mp:∀(h:Tk->Int),(∀t∈ts,fJ 31 (h t))->ϩ 40 (ts.map h):=λh hh x hx=>by
  let⟨t,ht,rfl⟩:=Ö.mp hx;exact(hh t ht).mono ⋯
 generalize T4 (own::tP ss cs ss.length)=q at *;refine⟨by rw[Ä];exact M.lt,Nat.le_of_ble_eq_true rfl,λr hr=>?_,λr hr=>?_⟩
 .unfold IZ at hr
  simp![Í,Ý,or_false]at hr;rcases hr with rfl|rfl|rfl|rfl|rfl|rfl
  .exact⟨by simp,mp _ λt ht=>(M.gt t ht).x.fit.sub g.b1.fit ⋯,(g.b1.fit.mul f0 (k:=110) ⋯).sub f1 ⋯⟩
  .exact⟨by simp,mp _ λt ht=>g.b0.fit.sub (M.gt t ht).x.fit ⋯,f1.sub (g.b0.fit.mul f0 (k:=110) ⋯) ⋯⟩
  .exact⟨by simp,mp _ λt ht=>(M.gt t ht).y.fit.sub g.b3.fit ⋯,(g.b3.fit.mul f0 (k:=110) ⋯).sub f2 ⋯⟩
  .exact⟨by simp,mp _ λt ht=>g.b2.fit.sub (M.gt t ht).y.fit ⋯,f2.sub (g.b2.fit.mul f0 (k:=110) ⋯) ⋯⟩
  .exact⟨by simp,mp _ λt ht=>(M.gt t ht).z.fit.sub g.b4.fit ⋯,(g.b4.fit.mul f0 (k:=110) ⋯).sub f3 ⋯⟩
  .exact⟨by simp,mp _ λt ht=>aNJ ⋯,g.b5.fit.sub f0 ⋯⟩
 .obtain⟨t,ht,rfl⟩:=Ö.mp hr
  exact(M.gt t ht).r
end
section
theorem W9.bnd(W:W9 Æ Ã):Ĉ Æ Ã (2^40) (2^120)/\Sx.fac Ã.length*(2^40)^Ã.length<2^300/\(Ã.length+1)*(Sx.fac Ã.length*(2^40)^Ã.length*2^120)<2^300:=by
 have n4:=W.n;have r8:=W.m;have hh:Sx.fac Ã.length*(2^40)^Ã.length<2^300/\(Ã.length+1)*(Sx.fac Ã.length*(2^40)^Ã.length*2^120)<2^300:=by
  have:Ã.length=0\/Ã.length=1\/Ã.length=2\/Ã.length=3\/Ã.length=4:=by lia
  rcases this with h|h|h|h|h<;>rw[h]<;>decide
 have up:(2:Nat)^300<2^4000:=by decide
 refine⟨⟨λr hr=>(W.rw r hr).1,∅,∅,⋯,λr hr x hx=>È ((W.rw r hr).2.1 x hx),λr hr=>È (W.rw r hr).2.2,λx hx=>?_,Nat.lt_trans hh.1 up,Nat.lt_trans hh.2 up⟩,hh⟩;have:=W.ro x hx;have h70:(1000000000:Nat)<=2^120:=by decide
 lia
end
section
def cell(ns:ZK)(k:Int):Int:=ns.getD k.toNat 0
theorem E2(h0:0<=k):jV [iL ns,.int k]=.ok (.int (cell ns k)) []:=by
 refine aR (os:=[]) ?_;show bO nX [some (iL ns),some (.int k)] _ _ _ _;unfold nX;by_cases h:k<(ns.length:Int)
 .have e:k=(k.toNat:Int):=by lia
  have e2:=aCA (ns:=ns) (k:=k.toNat) ∅;rw[<- e]at e2;dsimp? [Ä,h,decide_true,e2,cell]
 .have e:cell ns k=0:=by unfold cell;rw[Ê,æ ∅];rfl
  dsimp? [Ä,h,decide_false,Bool.false_eq_true,e]
def dr(ns:ZK)(k m:Int):Int:=(cell ns k % 1000003+k*k)*48271 % 999983 % m
def ot(ns:ZK)(k m:Int):Int:=(cell ns k % 1000033+7*k+1)*69621 % 1000003 % m
def th(ns:ZK)(k m:Int):Int:=(cell ns k % 1000037+11*k+5)*16807 % 999979 % m
theorem gN(h:0<m):0<=dr ns k m/\dr ns k m<m:=⟨Int.emod_nonneg _ ∅,Int.emod_lt_of_pos _ h⟩
theorem iP(h:0<m):0<=ot ns k m/\ot ns k m<m:=⟨Int.emod_nonneg _ ∅,Int.emod_lt_of_pos _ h⟩
theorem jY(h:0<m):0<=th ns k m/\th ns k m<m:=⟨Int.emod_nonneg _ ∅,Int.emod_lt_of_pos _ h⟩
theorem lF(h0:0<=k)(h1:k<=1000)(h:0<m):cS [iL ns,.int k,.int m]=.ok (.int (dr ns k m)) []:=by
 refine aR (os:=[]) ?_;show bO yZ [some (iL ns),some (.int k),some (.int m)] _ _ _ _;unfold yZ;dsimp? [E2 h0,MY,Int.reduceLT,h,dr];exact⟨by ac_nf,by ac_nf⟩
theorem jZ(h0:0<=k)(h1:k<=1000)(h:0<m):bY [iL ns,.int k,.int m]=.ok (.int (ot ns k m)) []:=by
 refine aR (os:=[]) ?_;show bO uY [some (iL ns),some (.int k),some (.int m)] _ _ _ _;unfold uY;dsimp? [E2 h0,MY,Int.reduceLT,h,ot];exact⟨by ac_nf,by ac_nf⟩
theorem n5(h0:0<=k)(h1:k<=1000)(h:0<m):cB [iL ns,.int k,.int m]=.ok (.int (th ns k m)) []:=by
 refine aR (os:=[]) ?_;show bO uZ [some (iL ns),some (.int k),some (.int m)] _ _ _ _;unfold uZ;dsimp? [E2 h0,MY,Int.reduceLT,h,th];exact⟨by ac_nf,by ac_nf⟩
def jL(i:Int):Str:=⟨#[97+i.toNat]⟩
theorem XD:∀n<26,(match fE (.str "abcdefghijklmnopqrstuvwxyz") (.int (n:Nat))with|some (.str z)=>z.cps == #[97+n]|_=>false)=true:=by decide +kernel
theorem wG(h0:0<=i)(h1:i<26):fE (.str "abcdefghijklmnopqrstuvwxyz") (.int i)=some (.str (jL i))/\(jL i).length=1/\PyData.strOk (jL i)=true:=by
 refine⟨?_,rfl,aCD ∅⟩;have h:=XD i.toNat ∅;rw[Int.toNat_of_nonneg h0]at h;split at h
 .rename_i z e
  rw[e];unfold jL;congr 2;cases z;exact congrArg Str.mk (beq_iff_eq.mp h)
 .cases h
def nm(ns:ZK)(k n:Int):Str:=
 iR (jL (dr ns k 26)) (ot ns k (1+th ns k 8))++jL ((7*n+ot ns (k+1) 26) % 26)++iR (jL (dr ns k 26)) (1+th ns k 8-1-ot ns k (1+th ns k 8))
theorem I8:(jL (dr ns k 26)).length=1/\PyData.strOk (jL (dr ns k 26))=true/\(jL ((7*n+ot ns (k+1) 26) % 26)).length=1/\PyData.strOk (jL ((7*n+ot ns (k+1) 26) % 26))=true:=by
 have h1:=gN (ns:=ns) (k:=k) (m:=26) ⋯;have a:=wG h1.1 h1.2;have b:=wG (i:=(7*n+ot ns (k+1) 26) % 26) ∅ ∅;exact⟨a.2.1,a.2.2,b.2.1,b.2.2⟩
theorem hG:bH (nm ns k n):=by
 let⟨a1,a2,b1,b2⟩:=I8 (ns:=ns) (k:=k) (n:=n);have h1:=jY (ns:=ns) (k:=k) (m:=8) ⋯;have h2:=iP (ns:=ns) (k:=k) (m:=1+th ns k 8) ∅;unfold nm;refine⟨?_,zP (zP (M9 a2) b2) (M9 a2)⟩;rw[iB,iB,i8,i8,a1,b1];lia
theorem j0(h0:0<=k)(h1:k<=900)(n0:0<=n)(n1:n<=1000):gH [iL ns,.int k,.int n]=.ok (.str (nm ns k n)) []:=by
 refine aR (os:=[]) ?_;show bO y8 [some (iL ns),some (.int k),some (.int n),none,none,none,none,none] _ _ _ _;unfold y8;have t1:=jY (ns:=ns) (k:=k) (m:=8) ⋯;have t2:=iP (ns:=ns) (k:=k) (m:=1+th ns k 8) ∅;have t3:=gN (ns:=ns) (k:=k) (m:=26) ⋯;have p1:=wG t3.1 t3.2;have p2:=wG (i:=(7*n+ot ns (k+1) 26) % 26) ∅ ∅;have e1:=n5 (ns:=ns) (k:=k) (m:=8) h0 ∅ ⋯;have e2:=jZ (ns:=ns) (k:=k) (m:=1+th ns k 8) h0 ∅ ∅;have e3:=lF (ns:=ns) (k:=k) (m:=26) h0 ∅ ⋯;have e4:=jZ (ns:=ns) (k:=k+1) (m:=26) ∅ ∅ ⋯;have en:nm ns k n=iR (jL (dr ns k 26)) (ot ns k (1+th ns k 8))++jL ((7*n+ot ns (k+1) 26) % 26)++iR (jL (dr ns k 26)) (1+th ns k 8-1-ot ns k (1+th ns k 8)):=rfl;rw[en];clear en;generalize jL (dr ns k 26)=x at *;generalize jL ((7*n+ot ns (k+1) 26) % 26)=y at *;have l1:=i8 (x:=x) (n:=ot ns k (1+th ns k 8));have l2:=i8 (x:=x) (n:=1+th ns k 8-1-ot ns k (1+th ns k 8));have r1:=ϓ (i:=x) (n:=ot ns k (1+th ns k 8)) ∅ ∅ ∅;have r2:=ϓ (i:=x) (n:=1+th ns k 8-1-ot ns k (1+th ns k 8)) ∅ ∅ ∅;rw[p1.2.1,Nat.mul_one]at l1 l2;have s1:=B7 (x:=iR x (ot ns k (1+th ns k 8))) (y:=y) ∅;have l3:(iR x (ot ns k (1+th ns k 8))++y).length=_:=iB;have s2:=B7 (x:=iR x (ot ns k (1+th ns k 8))++y) (y:=iR x (1+th ns k 8-1-ot ns k (1+th ns k 8))) ∅;dsimp? [e1,e2,e3,e4,p1.1,p2.1,MY,Int.reduceLT,r1,r2,s1,s2];exact(by ac_nf)
def vQ(ns:ZK):Int:=if dr ns 0 4=2 then 997 else if dr ns 0 4=3 then 1000000 else 1
theorem rF:1<=vQ ns/\vQ ns<=1000000:=by
 unfold vQ;split
 .decide
 .split<;>decide
theorem aO1:Z5 (.int 10) (.int 6)=some (.int 1000000):=by
 rw[aAA (aOE ∅ ∅ ⋯)];rfl
theorem n6:lB [iL ns]=.ok (.int (vQ ns)) []:=by
 refine aR (os:=[]) ?_;show bO u0 [some (iL ns)] _ _ _ _;unfold u0;have t:=gN (ns:=ns) (k:=0) (m:=4) ⋯;have e:atI [PyData.int 1,.int 1,.int 997,.int 1000000] (dr ns 0 4)=some (.int (vQ ns)):=by
  unfold vQ;have:dr ns 0 4=0\/dr ns 0 4=1\/dr ns 0 4=2\/dr ns 0 4=3:=by lia
  rcases this with z|z|z|z<;>rw[z]<;>rfl
 dsimp? [aO1,lF,Int.reduceLE,Int.reduceLT,e]
structure lG(b:Bx):Prop where
 nm:bH b.nm
 p:bH b.p
 k:bH b.k
def kd(ns:ZK)(n:Int):Int:=if th ns (20+n) 6=4 then 1 else if th ns (20+n) 6=5 then 2 else 0
def İ(ns:ZK)(n:Int):Int:=if vQ ns*ot ns (21+n) 90>9*vQ ns then vQ ns*ot ns (21+n) 90+40*vQ ns else vQ ns*ot ns (21+n) 90
def bx(ns:ZK)(n:Int):Bx:=⟨nm ns 16 n,vQ ns*(1+dr ns (20+n) 20),nm ns 17 (ot ns (20+n) 4),nm ns 18 (kd ns n),İ ns n⟩
theorem OD:lG (bx ns n):=⟨hG,hG,hG⟩
theorem LM(n0:0<=n)(n1:n<=100):wB [iL ns,.int n]=.ok (eC (bx ns n)) []:=by
 refine aR (os:=[]) ?_;show bO ES [some (iL ns),some (.int n),none,none,none,none] _ _ _ _;unfold ES;have s:=rF (ns:=ns);have t1:=iP (ns:=ns) (k:=20+n) (m:=4) ⋯;have t2:=jY (ns:=ns) (k:=20+n) (m:=6) ⋯;have t3:=iP (ns:=ns) (k:=21+n) (m:=90) ⋯;have t4:=gN (ns:=ns) (k:=20+n) (m:=20) ⋯;have e1:=jZ (ns:=ns) (k:=20+n) (m:=4) ∅ ∅ ⋯;have e2:=n5 (ns:=ns) (k:=20+n) (m:=6) ∅ ∅ ⋯;have e3:=jZ (ns:=ns) (k:=21+n) (m:=90) ∅ ∅ ⋯;have e4:=lF (ns:=ns) (k:=20+n) (m:=20) ∅ ∅ ⋯;have ek:atI [PyData.int 0,.int 0,.int 0,.int 0,.int 1,.int 2] (th ns (20+n) 6)=some (.int (kd ns n)):=by
  unfold kd;have:th ns (20+n) 6=0\/th ns (20+n) 6=1\/th ns (20+n) 6=2\/th ns (20+n) 6=3\/th ns (20+n) 6=4\/th ns (20+n) 6=5:=by lia
  rcases this with z|z|z|z|z|z<;>rw[z]<;>rfl
 have k0:0<=kd ns n/\kd ns n<=2:=by unfold kd;split<;>(try split)<;>lia
 have n1:=j0 (ns:=ns) (k:=17) (n:=ot ns (20+n) 4) ⋯ ⋯ ∅ ∅;have n2:=j0 (ns:=ns) (k:=18) (n:=kd ns n) ⋯ ⋯ ∅ ∅;have n3:=j0 (ns:=ns) (k:=16) (n:=n) ⋯ ⋯ ∅ ∅;by_cases c:vQ ns*ot ns (21+n) 90>9*vQ ns
 .have eb:İ ns n=vQ ns*ot ns (21+n) 90+40*vQ ns:=Á c
  have c':9*vQ ns<vQ ns*ot ns (21+n) 90:=c;dsimp? [n6,e1,e2,e3,e4,ek,n1,n2,n3,c',decide_true,eC,bx,eb];exact⟨by ac_nf,by ac_nf,by ac_nf,by ac_nf⟩
 .have eb:İ ns n=vQ ns*ot ns (21+n) 90:=Â c
  have c':¬9*vQ ns<vQ ns*ot ns (21+n) 90:=c;dsimp? [n6,e1,e2,e3,e4,ek,n1,n2,n3,c',decide_false,Bool.false_eq_true,eC,bx,eb];exact⟨by ac_nf,by ac_nf,by ac_nf⟩
end
end Toy
namespace L2
open PySem PySem.Spec
theorem aH5{i:Nat}{δ:DS}(h:δ[i]?=some (some (.list as))):Ň (bD i) δ=.ok as.reverse δ:=by
 simp![Ň,aY,cX h,aW]
end L2
namespace Toy
open PySem L2
def I9(cs:List 'l')(m:Nat):Prop:=∀c∈cs,c.length<=m/\∀b∈c,lG b
section
def vY(bs:List Bx)(p:Str):List Bx:=bs.drop (bs.findIdx λb=>b.p == p)
theorem OE:(vY bs p).length<=bs.length:=by unfold vY;rw[ā];lia
theorem OF(h:b∈vY bs p):b∈bs:=List.mem_of_mem_drop h
theorem Q9(gb:∀b∈bs,lG b)(gp:bH p):nW [aK bs,.str p]=.ok (aK (vY bs p)) []:=by
 refine aR (os:=[]) ?_;show bO jE [some (aK bs),some (.str p),none,none] _ _ _ _;unfold jE;dsimp? [];refine dN (ds:=eY (bs.map eC)) (δ1:=_) (λk δ=>∃o2 o3,δ=[some (aK bs),some (.str p),o2,o3]/\∀i(hi:i<bs.length),i<k->(bs[i].p == p)=false) (jX rfl) ⟨none,none,rfl,λi hi h=>by lia⟩ ?_ ?_
 .rintro k d δ hk ⟨o2,o3,rfl,ih⟩
  let⟨k1,rfl⟩:=fV (a0:=AA) hk;have eg:bs.getD k AA=bs[k]:=by rw[Ê,É k1];rfl
  rw[eg];have gk:=gb _ (Đ k1);refine⟨_,rfl,?_⟩;cases c:(bs[k].p == p)with
  |true=>
   have e1:bs.findIdx (λb=>b.p == p)=k:=by
    rw[List.findIdx_eq k1];exact⟨c,λj hj=>ih j ∅ hj⟩
   have e2:uC (.list (bs.map eC)) (some (k:Int)) none=some (.list ((bs.map eC).drop k)):=kR (by rw[Ä];lia);dsimp? [eC,IW gk.p gp,c];have e3:vY bs p=bs.drop k:=by unfold vY;rw[e1]
   dsimp? [GO,l8,l9,sH,aK,e2,e3,List.map_drop]
  |false=>
   dsimp? [eC,IW gk.p gp,c];refine⟨_,_,rfl,λi hi h=>?_⟩;by_cases z:i=k
   .subst z;exact c
   .exact ih i hi ∅
 .rintro δ ⟨o2,o3,rfl,ih⟩
  rw[iA,Ä]at ih;have e1:vY bs p=[]:=by
   unfold vY;have:bs.findIdx (λb=>b.p == p)=bs.length:=by
    rw[List.findIdx_eq_length];intro x hx;let⟨i,hi,rfl⟩:=List.mem_iff_getElem.mp hx;exact ih i hi hi
   rw[this,List.drop_length]
  dsimp? [e1,aK,List.map_nil]
structure Ō where
 w:Str
 s:Int
 z:Str
def tR(t:Ō):D:=.tuple [.str t.w,.int t.s,.str t.z]
abbrev Mv:=Ō×D
def JA(m:Mv):D:=.tuple [tR m.1,m.2]
def XE(s:Int)(b:Bx):Mv:=(⟨"off",s,b.nm⟩,.none)
def ı(s:Int)(b:Bx):Mv:=(⟨"back",s,b.nm⟩,eC b)
abbrev Ld:=Bx×Int
def p7(x:Ld):D:=.tuple [eC x.1,.int x.2]
def Ĳ(x:Ld):Mv:=(⟨"on",x.2,x.1.nm⟩,eC x.1)
def nP(p:Str)(b:Bx):Bool:=!(b.p == p)
def ĉ(bs:List Bx)(s:Int)(p:Str):List Mv:=(vY bs p).reverse.map (XE s)++((vY bs p).filter (nP p)).map (ı s)
theorem OG:(ĉ bs s p).length<=2*bs.length:=by
 have h1:=OE (bs:=bs) (p:=p);have h2:=List.length_filter_le (nP p) (vY bs p);unfold ĉ;rw[Ë,Ä,Ä,List.length_reverse];lia
theorem XF(gb:∀b∈bs,lG b)(gp:bH p)(l:bs.length<=100):k7 [aK bs,.int s,.str p]=.ok (.list ((ĉ bs s p).map JA)) []:=by
 have hz:sizeLine=2^24:=rfl;have h1:=OE (bs:=bs) (p:=p);have h2:=List.length_filter_le (nP p) (vY bs p);refine aR (os:=[]) ?_;show bO gW [some (aK bs),some (.int s),some (.str p),none,none] _ _ _ _;unfold gW;dsimp? [Q9 gb gp];have er:((vY bs p).map eC).reverse=(vY bs p).reverse.map eC:=by rw[List.map_reverse]
 refine aV.of (cU (enc:=eC) (xs:=(vY bs p).reverse) (g:=λb=>JA (XE s b)) (by rw[<- er];exact aH5 rfl) (by rw[List.length_reverse];lia) λx _=>by dsimp? [eC,JA,XE,tR]) ?_;dsimp? [];refine aV.of (oV (enc:=eC) (xs:=vY bs p) (h:=nP p) (g:=λb=>JA (ı s b)) (bW (by dsimp? [aK])) ∅ (λx hx=>by
  have gx:=gb x (OF hx);dsimp? [eC,ϫ gx.p gp,nP]) λx _=>by dsimp? [eC,JA,ı,tR]) ?_
 have em:(ĉ bs s p).map JA=((vY bs p).reverse.map λb=>JA (XE s b))++(((vY bs p).filter (nP p)).map λb=>JA (ı s b)):=by
  unfold ĉ;rw[Ú,å,å];rfl
 dsimp? [qJ,em];rw[Ä,Ä,List.length_reverse];lia
def XG(cs:List 'l')(p:Str)(k:Nat):List Mv:=((List.range k).map λ(j:Nat)=>ĉ (cs.getD j []) (j:Int) p).flatten
theorem zS:XG cs p (k+1)=XG cs p k++ĉ (cs.getD k []) (k:Int) p:=by
 unfold XG;rw[List.range_succ,Ú,List.flatten_append];simp
theorem wH(h:∀c∈cs,c.length<=50):∀k,k<=cs.length->(XG cs p k).length<=100*k
 |0,_=>by simp[XG]
 |k+1,hk=>by
  rw[zS,Ë];have h1:=wH (p:=p) h k ∅;have h2:=OG (bs:=cs.getD k []) (s:=(k:Int)) (p:=p);have h3:=h _ (cM (d:=[]) (show k<cs.length by lia));lia
def cF(p:Str)(ld:List Ld):D:=.tuple [.str p,.list (ld.map p7)]
def vZ(cs:List 'l')(p:Str)(ld:List Ld):List Mv:=XG cs p cs.length++ld.map Ĳ
theorem JB(gc:I9 cs 50)(gp:bH p)(lc:cs.length<=8)(ll:ld.length<=50):qY [.list (cs.map aK),cF p ld]=.ok (.list ((vZ cs p ld).map JA)) []:=by
 have hz:sizeLine=2^24:=rfl;have hl:∀c∈cs,c.length<=50:=λc hc=>(gc c hc).1;refine aR (os:=[]) ?_;show bO qX [some 'c',some (cF p ld),none,none,none] _ _ _ _;unfold qX;dsimp? [];refine dN (ds:=eY (cs.map aK)) (δ1:=_) (λk δ=>∃o3 o4,δ=[some 'c',some (cF p ld),some (.list ((XG cs p k).map JA)),o3,o4]) (jX rfl) ⟨none,none,rfl⟩ ?_ ?_
 .rintro k d δ hk ⟨o3,o4,rfl⟩
  let⟨k1,rfl⟩:=fV (a0:=[]) hk;refine⟨_,rfl,?_⟩;have g1:=gc _ (cM (d:=[]) k1);have l1:=wH (p:=p) hl k ∅;have l2:=OG (bs:=cs.getD k []) (s:=(k:Int)) (p:=p);have e1:=XF (bs:=cs.getD k []) (s:=(k:Int)) (p:=p) g1.2 gp ∅;rw[zS,Ú];dsimp? [cF,e1,qJ];refine⟨by rw[Ä,Ä];lia,_,_,rfl⟩
 .rintro δ ⟨o3,o4,rfl⟩
  rw[iA,Ä];have l1:=wH (p:=p) hl cs.length (Ç _);dsimp? [];refine aV.of (oR (enc:=p7) (A:=λx=>eC x.1) (B:=λx=>.int x.2) (xs:=ld) (g:=λx=>JA (Ĳ x)) (λx=>rfl) (bW (by dsimp? [cF])) ∅ λx _=>by dsimp? [eC,JA,Ĳ,tR]) ?_;have em:(vZ cs p ld).map JA=(XG cs p cs.length).map JA++ld.map λx=>JA (Ĳ x):=by
   unfold vZ;rw[Ú,å];rfl
  dsimp? [qJ,em];rw[Ä,Ä];lia
theorem zT(gc:I9 cs 50)(lc:cs.length<=8)(ll:ld.length<=50):(vZ cs p ld).length<=1000:=by
 have l1:=wH (p:=p) (λc hc=>(gc c hc).1) cs.length (Ç _);unfold vZ;rw[Ë,Ä];lia
def LN(cs:List 'l')(p:Str)(ld:List Ld):List Ō:=(vZ cs p ld).map Prod.fst
theorem XH(gc:I9 cs 50)(gp:bH p)(lc:cs.length<=8)(ll:ld.length<=50):yO [.list (cs.map aK),cF p ld]=.ok (.list ((LN cs p ld).map tR)) []:=by
 have l1:=zT (p:=p) gc lc ll;refine aR (os:=[]) ?_;show bO qZ [some 'c',some (cF p ld)] _ _ _ _;unfold qZ;dsimp? [];refine aV.of (oR (enc:=JA) (A:=λm=>tR m.1) (B:=λm=>m.2) (xs:=vZ cs p ld) (g:=λm=>tR m.1) (λx=>rfl) (bW (by dsimp? [JB gc gp lc ll])) ∅ λx _=>by dsimp? []) ?_;have e:(LN cs p ld).map tR=(vZ cs p ld).map λm=>tR m.1:=by
  unfold LN;rw[å];rfl
 rw[e];exact⟨rfl,rfl⟩
def Ű(t:Ō):Bool:=t.w == "back"
theorem aO2:bH "off":=⟨⋯,dA _⟩
theorem ű:bH "back":=⟨⋯,dA _⟩
theorem ϭ:bH "on":=⟨⋯,dA _⟩
theorem aNM(h:m∈vZ cs p ld):bH m.1.w:=by
 unfold vZ at h;rcases ö.mp h with h|h
 .unfold XG at h
  let⟨l,hl,h⟩:=List.mem_flatten.mp h;let⟨j,_,rfl⟩:=Ö.mp hl;unfold ĉ at h;rcases ö.mp h with h|h
  .obtain⟨b,_,rfl⟩:=Ö.mp h
   exact aO2
  .obtain⟨b,_,rfl⟩:=Ö.mp h
   exact ű
 .obtain⟨b,_,rfl⟩:=Ö.mp h
  exact ϭ
theorem aLA(h:t∈LN cs p ld):bH t.w:=by
 let⟨m,hm,rfl⟩:=Ö.mp h;exact aNM hm
theorem XI(gc:I9 cs 50)(gp:bH p)(lc:cs.length<=8)(ll:ld.length<=50):yQ [.list (cs.map aK),cF p ld]=.ok (.list (((LN cs p ld).filter Ű).map λt=>.str t.z)) []:=by
 have l1:=zT (p:=p) gc lc ll;refine aR (os:=[]) ?_;show bO rA [some 'c',some (cF p ld)] _ _ _ _;unfold rA;dsimp? [];refine aV.of (oV (enc:=tR) (xs:=LN cs p ld) (h:=Ű) (g:=λt=>.str t.z) (bW (by dsimp? [XH gc gp lc ll])) (by unfold LN;rw[Ä];lia) (λt ht=>by dsimp? [tR,IW (aLA ht) ű,Ű]) λt _=>by dsimp? [tR]) ?_
 exact⟨rfl,rfl⟩
end
section
variable {cs:List 'l'}
theorem u7(lc:cs.length<=100):yT [.list (cs.map aK)]=.ok 'c' []:=by
 refine aR (os:=[]) ?_;show bO yS [some 'c'] _ _ _ _;unfold yS;dsimp? [];refine aV.of (cU (enc:=aK) (xs:=cs) (g:=aK) (bW (by dsimp? [])) ∅ λx _=>by dsimp? [aK,M3]) ?_;dsimp? []
theorem XJ(s0:0<=s)(s1:s.toNat<cs.length):mY (cs.map aK).length s=some s.toNat/\(cs.map aK)[s.toNat]?=some (.list ((cs[s.toNat]).map eC)):=by
 refine⟨Ϫ s0 (by rw[Ä];lia),?_⟩;rw[Ñ,É s1];rfl
theorem RA(gw:bH w)(hw:(w == "off")=false)(lc:cs.length<=100)(s0:0<=s)(s1:s.toNat<cs.length)(l1:(cs[s.toNat]).length<=100):oP [.list (cs.map aK),.tuple [.str w,.int s,x],eC b]=.ok (.list ((cs.set s.toNat (cs[s.toNat]++[b])).map aK)) []:=by
 have hz:sizeLine=2^24:=rfl;refine aR (os:=[]) ?_;show bO k8 [some 'c',some (.tuple [.str w,.int s,x]),some (eC b),none] _ _ _ _;unfold k8;let⟨e1,e2⟩:=XJ s0 s1;have eh:JO [0,0,0,2] [some 'c',some (.tuple [.str w,.int s,x]),some (eC b),some 'c']=[some 'c',some (.tuple [.str w,.int s,x]),some (eC b),none]:=rfl;have go:bH "off":=⟨⋯,dA _⟩;dsimp? [u7 lc,IW gw go,hw,KM,KN e1 e2,eh,xL,xK];refine⟨by rw[Ä];lia,?_⟩;simp[List.map_set,aK]
theorem LO(lc:cs.length<=100)(s0:0<=s)(s1:s.toNat<cs.length)(l1:cs[s.toNat]=c++[b]):oP [.list (cs.map aK),.tuple [.str "off",.int s,x],y]=.ok (.list ((cs.set s.toNat c).map aK)) []:=by
 refine aR (os:=[]) ?_;show bO k8 [some 'c',some (.tuple [.str "off",.int s,x]),some y,none] _ _ _ _;unfold k8;let⟨e1,e2⟩:=XJ s0 s1;have eh:JO [0,0,0,2] [some 'c',some (.tuple [.str "off",.int s,x]),some y,some 'c']=[some 'c',some (.tuple [.str "off",.int s,x]),some y,none]:=rfl;have go:bH "off":=⟨⋯,dA _⟩;have ep:Ņ ((cs[s.toNat]).map eC) []=some (eC b,c.map eC):=by
  rw[l1];unfold Ņ;simp
 have et:("off" == ("off":Str))=true:=by decide
 dsimp? [u7 lc,IW go go,et,KM,KN e1 e2,eh,xK,ep,aHB];simp[List.map_set,aK]
end
def u8(m:M Fl)(δ:DS)(N:ZO)(E:D->Prop):Prop:=match m δ with
 |.ok .next δ1=>N δ1
 |.err x _=>E x
 |_=>False
def Ų:Option Str->Res D
 |none=>.ok .none []
 |some x=>.err (.str x) []
section
theorem zU(h:u8 u δ (λδ1=>u8 v δ1 N E) E):u8 (dW u v) δ N E:=by
 unfold u8 dW at *;cases e:u δ with
 |stuck=>rw[e]at h;exact h
 |err x d=>rw[e]at h;exact h
 |ok fl δ1=>
  rw[e]at h;cases fl<;>first|exact h|exact h.elim
theorem aH7(h:N δ):u8 wV δ N E:=h
theorem ō(h:bO u δ N (λ_=>False) (λ_=>False) (λ_ _=>False)):u8 u δ N E:=by
 unfold bO at h;unfold u8;cases e:u δ with
 |stuck=>rw[e]at h;exact h.elim
 |err x d=>rw[e]at h;exact h.elim
 |ok fl δ1=>
  rw[e]at h;cases fl<;>first|exact h|exact h.elim
theorem Ϯ(h:aV c δ λb δ1=>if b=true then u8 u δ1 N E else u8 v δ1 N E):u8 (mX c u v) δ N E:=by
 unfold aV at h;unfold u8 mX;cases e:c δ with
 |stuck=>rw[e]at h;exact h.elim
 |err x d=>rw[e]at h;exact h.elim
 |ok b δ1=>
  rw[e]at h;simp![Res.bind];cases b<;>exact h
theorem aCJ(h:aV (aY fs) δ λds _=>ds.length<=1000/\E (.str x)):u8 (j7 x fs) δ N E:=by
 unfold aV at h;unfold u8 j7;cases e:aY fs δ with
 |stuck=>rw[e]at h;exact h.elim
 |err x d=>rw[e]at h;exact h.elim
 |ok ds δ1=>
  rw[e]at h;simp![Res.bind,Á h.1];exact h.2
theorem XL{set:D->DS->Option DS}(I:Nat->ZO){ds:ZI}(hs:∀(k:Nat)(d:D)(δ:DS),ds[k]?=some d->I k δ->∃δ1,set d δ=some δ1/\u8 u δ1 (I (k+1)) E)(hN:∀δ,I ds.length δ->N δ):
  ∀(n k:Nat)(δ:DS),n+k=ds.length->I k δ->u8 (fQ set u (ds.drop k)) δ N E
 |0,k,δ,hk,h=>by
  have e:k=ds.length:=by lia
  subst e;rw[List.drop_length];exact hN δ h
 |n+1,k,δ,hk,h=>by
  have hlt:k<ds.length:=by lia
  rw[ò hlt];let⟨δ1,e1,h1⟩:=hs k ds[k] δ (É hlt) h;have ih:=XL I hs hN n (k+1);unfold u8 at h1 ih⊢;unfold fQ;simp![e1];cases e:u δ1 with
  |stuck=>rw[e]at h1;exact h1.elim
  |err x d=>rw[e]at h1;exact h1
  |ok fl δ2=>
   rw[e]at h1;cases fl<;>first|exact h1.elim|exact ih δ2 ∅ h1
theorem ϯ{set:D->DS->Option DS}(I:Nat->ZO){ds:ZI}(hg:aV g δ λes δ1=>es=ds/\I 0 δ1)(hs:∀(k:Nat)(d:D)(δ:DS),ds[k]?=some d->I k δ->∃δ1,set d δ=some δ1/\u8 u δ1 (I (k+1)) E)(hN:∀δ,I ds.length δ->N δ):u8 (mV set g u) δ N E:=by
 unfold aV at hg;cases e:g δ with
 |stuck=>rw[e]at hg;exact hg.elim
 |err x d=>rw[e]at hg;exact hg.elim
 |ok es δ1=>
  rw[e]at hg;let⟨rfl,h0⟩:=hg;have:=XL I hs hN es.length 0 δ1 ∅ h0;rw[List.drop_zero]at this;unfold u8 mV at *;rw[e];exact this
theorem ϰ(o:Option Str)(h:u8 u (ds.map some++List.replicate (m-ds.length) none) (λ_=>o=none) (λy=>o.map PyData.str=some y)):aP m [] 0 u ds=Ų o:=by
 unfold u8 at h;unfold aP;cases e:u (ds.map some++List.replicate (m-ds.length) none)with
 |stuck=>rw[e]at h;exact h.elim
 |err y d=>
  rw[e]at h;cases o with
  |none=>cases h
  |some z=>cases h;rfl
 |ok fl d=>
  rw[e]at h;cases fl<;>first|exact h.elim|(cases h;rfl)
end
def vR(zs:ZG):D:=.dict (zs.map λz=>(.str z,.bool true))
theorem aH8(zs:ZG):((zs.map λz=>((.str z,.bool true):D×D)).all λkv=>(dG kv.1).isSome)=true:=by
 rw[è];intro kv h;let⟨z,_,rfl⟩:=Ö.mp h;rfl
theorem XM(z:Str):∀zs:ZG,jP (.inr z) (zs.map λz=>((.str z,.bool true):D×D))=if z∈zs then some (.bool true)else none
 |[]=>rfl
 |y::zs=>by
  have ih:=XM z zs;unfold jP at ih⊢;rw[Î,Ā];by_cases e:y=z
  .subst e
   rw[Á Ó];simp[dG]
  .have:decide (dG (PyData.str y)=some (Sum.inr z))=false:=decide_eq_false λh=>e (by cases h;rfl)
   rw[this];rw[ih];by_cases h:z∈zs
   .rw[Á h,Á (Ï _ h)]
   .rw[Â h,Â λq=>(Í.mp q).elim (λq=>e q.symm) h]
theorem aLD:vM false (.str z) (vR zs)=some (.bool (decide (z∈zs))):=by
 unfold vM VN vR;dsimp only;rw[Á (aH8 zs)];show (some (jP (.inr z) _)).map _=_;rw[XM];by_cases h:z∈zs
 .rw[Á h,decide_eq_true h];rfl
 .rw[Â h,decide_eq_false h];rfl
theorem XN(hz:z∉zs)(hl:zs.length<=1000):xW (.str z) (.bool true) (vR zs)=some (vR (zs++[z])):=by
 have hs:sizeLine=16777216:=by decide
 unfold xW vR;dsimp only;show (if _ then _ else _)=_;rw[Á (by rw[Ä];omega)];unfold KP;have:((zs.map λz=>((.str z,.bool true):D×D)).any λkv=>decide (dG kv.1=some (Sum.inr z)))=false:=by
  rw[List.any_eq_false];intro kv h;let⟨y,hy,rfl⟩:=Ö.mp h;intro q;have q:=of_decide_eq_true q;cases q;exact hz hy
 rw[this,Ú];rfl
def YO(c:Nat):Bool:=decide (97<=c/\c<=122)
theorem aLE:∀c<128,((!decide ((⟨#[c]⟩:Str).cps.toList<(Str.ofString "a").cps.toList)) && (!decide ((Str.ofString "z").cps.toList<(⟨#[c]⟩:Str).cps.toList)))=YO c:=by decide +kernel
def n8(z:Str):Bool:=decide (1<=z.length/\z.length<=8) && z.cps.toList.all YO
def ų:D->D
 |.str z=>.bool (z.cps.toList.all YO)
 |_=>.none
theorem name_ev'(hz:z.length<=100)(hs:∀c∈z.cps.toList,c<128):fS [.str z]=.ok (.bool (n8 z)) []:=by
 have hl:rY [.str z]=some (.int z.length):=TN rfl (Ø hz ⋯);have hc:∀δ:DS,dZ 1 (eK 0) (xA (bD 0)) eG (iH ĝ ĝ (dC (.str "a")) (bD 0) (dC (.str "z"))) (some (.str z)::δ)=.ok (.list (z.cps.toList.map λc=>.bool (YO c))) (some (.str z)::δ):=λδ=>by
  have hg:∀d∈mW z,(iH ĝ ĝ (dC (.str "a")) (bD 0) (dC (.str "z"))) (some d::some (.str z)::δ)=.ok (ų d) (some d::some (.str z)::δ):=λd hd=>by
   unfold mW at hd;let⟨c,hc,rfl⟩:=Ö.mp hd;have:=aLE c (hs c hc);simp![iH,dC,aW,bD,List.getElem?_cons_zero,ĝ,ų,List.all_cons,List.all_nil,Bool.and_true];cases h1:(!decide ((⟨#[c]⟩:Str).cps.toList<(Str.ofString "a").cps.toList))with
   |true=>rw[h1,Bool.true_and]at this;rw[this]
   |false=>rw[h1,Bool.false_and]at this;rw[<- this]
  have:=BH (f:=xA (bD 0)) (δ:=some (.str z)::δ) (δ1:=some (.str z)::δ) (ds:=mW z) (by simp[xA,bD,Res.bind]) hg (by unfold mW;rw[Ä];exact Ø hz ⋯)
  rw[this];unfold mW;rw[å];congr 2;apply List.map_congr_left;intro c _;simp[ų]
 have ha:Ţ [.list (z.cps.toList.map λc=>.bool (YO c))]=some (.bool (z.cps.toList.all YO)):=by
  show (sD _).map _=_;rw[N2];simp
 have hsi:DL .str (.str z)=some (.bool true):=rfl;have hni:pM (dB (DD (DL .str) (bD 0))) [some (.str z)]=.ok false [some (.str z)]:=nF (b:=true) (pQ (aGA (cX rfl) hsi));have e0:oO [some (.str z)]=.ok (.ret (.bool (n8 z))) [some (.str z)]:=by
  unfold oO;rw[ML (δ1:=[some (.str z)]) (by rw[TQ (δ1:=[some (.str z)]) hni];rfl)];refine MM ?_;have hlen:O8 rY [bD 0] [some (.str z)]=.ok (.int z.length) [some (.str z)]:=DN (cX rfl) hl;unfold n8;by_cases h:1<=z.length/\z.length<=8
  .rw[aAC (δ1:=[some (.str z)]),decide_eq_true h,Bool.true_and]
   .exact DN (hc []) ha
   .simp![iH,hU,aW,hlen,Ī,YL]
    rw[decide_eq_true (show (1:Int)<=z.length by lia),decide_eq_true (show (z.length:Int)<=8 by lia)]
  .rw[aAD (δ1:=[some (.str z)]),decide_eq_false h,Bool.false_and]
   simp![iH,hU,aW,hlen,Ī,YL];by_cases h1:(1:Int)<=z.length
   .rw[decide_eq_true h1,decide_eq_false (show ¬(z.length:Int)<=8 by lia)]
   .rw[decide_eq_false h1]
 show (match oO [some (.str z)]with|_=>_)=_;unfold fS aP;simp[e0,fX]
theorem zV{i:Int}(_:0<=i)(_:i<26):jL i=⟨#[97+i.toNat]⟩:=rfl
theorem OH{x y:Str}(hx:x.cps.toList.all p=true)(hy:y.cps.toList.all p=true):(x++y).cps.toList.all p=true:=by
 show ((x.cps++y.cps).toList).all p=true;rw[Array.toList_append,List.all_append,hx,hy];rfl
theorem OI(hx:x.toList.all p=true):∀(n:Nat)(a:Array Nat),a.toList.all p=true->((List.replicate n x).foldl (·++·) a).toList.all p=true
 |0,_,h=>h
 |n+1,a,h=>by
  rw[List.replicate_succ,List.foldl_cons];exact OI hx n _ (by rw[Array.toList_append,List.all_append,h,hx];rfl)
theorem XO(h0:0<=i)(h1:i<26):(jL i).cps.toList.all YO=true:=by
 rw[zV h0 h1];simp![List.all_cons,List.all_nil,Bool.and_true,YO];exact decide_eq_true ∅
section
theorem iK:n8 (nm ns k n)=true:=by
 let⟨a1,a2,b1,b2⟩:=I8 (ns:=ns) (k:=k) (n:=n);have h1:=jY (ns:=ns) (k:=k) (m:=8) ⋯;have h2:=iP (ns:=ns) (k:=k) (m:=1+th ns k 8) ∅;have h3:=gN (ns:=ns) (k:=k) (m:=26) ⋯;have e1:=XO h3.1 h3.2;have e2:=XO (i:=(7*n+ot ns (k+1) 26) % 26) ∅ ∅;have r:∀j,(iR (jL (dr ns k 26)) j).cps.toList.all YO=true:=λj=>OI e1 _ _ rfl;have l:(nm ns k n).length=_:=iB;rw[iB,i8,i8,a1,b1]at l;unfold n8;rw[decide_eq_true ∅,show (nm ns k n).cps.toList.all YO=true from OH (OH (r _) e2) (r _)];rfl
theorem oW(h:n8 z=true):z.length<=100/\∀c∈z.cps.toList,c<128:=by
 unfold n8 at h;rw[ä,decide_eq_true_eq,è]at h;refine⟨∅,λc hc=>?_⟩;have:=of_decide_eq_true (h.2 c hc);lia
theorem zW(n0:0<=n)(n1:n<26)(m0:0<=m)(m1:m<26)(h:nm ns k n=nm ns k m):n=m:=by
 have cv:(nm ns k n).cps.toList=(nm ns k m).cps.toList:=by rw[h]
 have e:∀j,(nm ns k j).cps.toList=(iR (jL (dr ns k 26)) (ot ns k (1+th ns k 8))).cps.toList++(jL ((7*j+ot ns (k+1) 26) % 26)).cps.toList++(iR (jL (dr ns k 26)) (1+th ns k 8-1-ot ns k (1+th ns k 8))).cps.toList:=λj=>by
  show ((_++_:Array Nat)++_).toList=_;rw[Array.toList_append,Array.toList_append]
 rw[e,e]at cv;have cv:=List.append_cancel_left (List.append_cancel_right cv);rw[zV ∅ ∅,zV ∅ ∅]at cv;have cv:97+((7*n+ot ns (k+1) 26) % 26).toNat=97+((7*m+ot ns (k+1) 26) % 26).toNat:=(List.cons.inj cv).1;clear e h;generalize ot ns (k+1) 26=c at *;have q:(7*n+c) % 26=(7*m+c) % 26:=by lia
 have h1:7*(n-m)=26*((7*n+c)/26-(7*m+c)/26):=by lia
 generalize (7*n+c)/26-(7*m+c)/26=t at *;have h2:n-m=26*(15*t-4*(n-m)):=by lia
 generalize 15*t-4*(n-m)=u at *;lia
end
end Toy
namespace L2
open PySem PySem.Spec
theorem OJ{α:Type}{enc:α->D}{P:α->Prop}(x0:α){f e:M D}{δ:DS}{n:Int}{Q:D->ZO}(hf:aV f δ λa δ1=>a=.int n/\δ1=δ)(h0:0<=n)(h1:n<=1000)(he:∀k:Nat,(k:Int)<n->∃x,P x/\aV e (some (.int k)::δ) λa δ1=>a=enc x/\δ1=some (.int k)::δ)(hq:∀xs:List α,(xs.length:Int)=n->(∀x∈xs,P x)->Q (.list (xs.map enc)) δ):aV (dZ 1 (eK 0) (qI [f]) eG e) δ Q:=by
 obtain⟨c,hc⟩:∃c:Nat->α,∀k:Nat,(k:Int)<n->P (c k)/\aV e (some (.int k)::δ) λa δ1=>a=enc (c k)/\δ1=some (.int k)::δ:=⟨λk=>open Classical in if h:(k:Int)<n then (he k h).choose else x0,λk hk=>by
  dsimp only;rw[dif_pos hk];exact(he k hk).choose_spec⟩
 have:=xI (f:=f) (e:=e) (δ:=δ) (n:=n) (g:=λk=>enc (c k)) (c8 hf) h0 ∅ λk hk=>(hc k hk).2;refine aV.of this ?_;have q:=hq ((List.range n.toNat).map c) (by simp;lia) λx hx=>by
  let⟨k,hk,rfl⟩:=Ö.mp hx;exact(hc k (by have:=List.mem_range.mp hk;lia)).1
 rw[å]at q;exact q
end L2
namespace Toy
open PySem L2
structure Ap where
 x:Str
 y:Str
 n:Int
def Ċ(a:Ap):D:=.tuple [.str a.x,.str a.y,.int a.n]
abbrev rG(own:Q4)(b:OA)(ss:List St)(ts:List Tk)(as:List Ap):D:=.tuple [zR own,YN b,.list (ss.map p6),.list (ts.map zQ),.list (as.map Ċ)]
structure ĳ(own:Q4)(b:OA)(ss:List St)(ts:List Tk)(as:List Ap):Prop where
 o0:1<=own.1/\own.1<=1000000000
 o1:rH own.2.1/\rH own.2.2.1/\rH own.2.2.2
 b:tQ b
 ls:1<=ss.length/\ss.length<=4
 lt:ts.length<=3
 la:as.length<=3
 gs:∀s∈ss,EY s
 gt:∀t∈ts,EZ t
 ga:∀a∈as,bH a.x/\bH a.y
theorem jG{α:Type}{P:α->Prop}{l:List α}{x:α}(h:∀y∈l,P y)(hx:P x):∀y∈l++[x],P y:=λy hy=>by
 rcases ö.mp hy with z|z
 .exact h y z
 .rw[ó.mp z]
  exact hx
section
theorem jH(h0:-1000<=x)(h1:x<=1000):rH x:=⟨∅,∅⟩
theorem zX(h0:0<=x)(h1:x<=m)(hm:m<=1000):0<=vQ ns*x/\vQ ns*x<=1000000000:=by
 have s:=rF (ns:=ns);have a:=Int.mul_nonneg (show 0<=vQ ns by lia) h0;have b:=Int.mul_le_mul s.2 (show x<=1000 by lia) h0 ⋯;exact⟨a,∅⟩
theorem OK(h:1<=x):1<=vQ ns*x:=Int.mul_pos (a:=vQ ns) (b:=x) (by have:=rF (ns:=ns);lia) h
theorem aLG(n0:0<=n)(n1:n<=100):∃d,B1 [iL ns,.int n]=.ok d []/\∃s,d=p6 s/\EY s:=by
 refine i7 ?_;show bO u1 [some (iL ns),some (.int n),none,none,none,none,none] _ _ _ _;unfold u1;have s:=rF (ns:=ns);have e1:=λm(h:0<m)=>lF (ns:=ns) (k:=2+n) (m:=m) ∅ ∅ h;have e2:=λm(h:0<m)=>jZ (ns:=ns) (k:=2+n) (m:=m) ∅ ∅ h;have e3:=λm(h:0<m)=>n5 (ns:=ns) (k:=6+n) (m:=m) ∅ ∅ h;have e4:=λm(h:0<m)=>jZ (ns:=ns) (k:=6+n) (m:=m) ∅ ∅ h;have e5:=λm(h:0<m)=>n5 (ns:=ns) (k:=2+n) (m:=m) ∅ ∅ h;have e6:=λm(h:0<m)=>lF (ns:=ns) (k:=6+n) (m:=m) ∅ ∅ h;have n3:=j0 (ns:=ns) (k:=14) (n:=n) ⋯ ⋯ ∅ ∅;have l1:=gN (ns:=ns) (k:=2+n) (m:=21) ⋯;have l2:=iP (ns:=ns) (k:=2+n) (m:=21) ⋯;have l3:=jY (ns:=ns) (k:=2+n) (m:=5) ⋯;have l4:=gN (ns:=ns) (k:=6+n) (m:=3) ⋯;dsimp? [n6,e1,e2,e3,e4,e5,e6,n3,Int.reduceLT];exact⟨by ac_nf,⟨_,_,_,_,_,_,_⟩,rfl,hG,jH ∅ ∅,jH ∅ ∅,jH ∅ ∅,jH ∅ ∅⟩
theorem aLH(n0:0<=n)(n1:n<=100):∃d,H8 [iL ns,.int n]=.ok d []/\∃t,d=zQ t/\EZ t:=by
 refine i7 ?_;show bO y9 [some (iL ns),some (.int n),none,none,none] _ _ _ _;unfold y9;have s:=rF (ns:=ns);have e1:=λm(h:0<m)=>lF (ns:=ns) (k:=10+n) (m:=m) ∅ ∅ h;have e2:=λm(h:0<m)=>jZ (ns:=ns) (k:=10+n) (m:=m) ∅ ∅ h;have e5:=λm(h:0<m)=>n5 (ns:=ns) (k:=10+n) (m:=m) ∅ ∅ h;have e6:=λm(h:0<m)=>lF (ns:=ns) (k:=13+n) (m:=m) ∅ ∅ h;have n3:=j0 (ns:=ns) (k:=15) (n:=n) ⋯ ⋯ ∅ ∅;have l1:=gN (ns:=ns) (k:=10+n) (m:=81) ⋯;have l2:=iP (ns:=ns) (k:=10+n) (m:=81) ⋯;have l3:=jY (ns:=ns) (k:=10+n) (m:=5) ⋯;have l4:=gN (ns:=ns) (k:=13+n) (m:=60) ⋯;dsimp? [n6,e1,e2,e5,e6,n3,Int.reduceLT];exact⟨by ac_nf,⟨_,_,_,_,_⟩,rfl,hG,jH ∅ ∅,jH ∅ ∅,jH ∅ ∅,zX ∅ ∅ (Int.le_refl _)⟩
theorem aCL:∃r,IC [iL ns]=.ok r []/\∃own b ss ts as,r=rG own b ss ts as/\ĳ own b ss ts as:=by
 refine i7 ?_;show bO zC [some (iL ns),none,none,none,none,none,none,none,none,none,none,none,none] _ _ _ _;unfold zC;have hz:sizeLine=2^24:=rfl;have s:=rF (ns:=ns);have q1:=gN (ns:=ns) (k:=1) (m:=4) ⋯;have q2:=iP (ns:=ns) (k:=1) (m:=4) ⋯;have q3:=jY (ns:=ns) (k:=1) (m:=5) ⋯;have d0:=gN (ns:=ns) (k:=13) (m:=80) ⋯;have d1:=iP (ns:=ns) (k:=13) (m:=7) ⋯;have d2:=jY (ns:=ns) (k:=13) (m:=5) ⋯;have d3:=jY (ns:=ns) (k:=14) (m:=6) ⋯;have d4:=jY (ns:=ns) (k:=15) (m:=6) ⋯;have d5:=gN (ns:=ns) (k:=15) (m:=2) ⋯;have d6:=jY (ns:=ns) (k:=0) (m:=9) ⋯;have d7:=iP (ns:=ns) (k:=0) (m:=200) ⋯;rw[L2.seq_assoc,L2.seq_assoc,L2.seq_assoc,L2.seq_assoc,L2.seq_assoc];refine nZ (λδ=>∃(own:Q4)(b:OA)(o1 o3 o4 o5:ZL),((1<=own.1/\own.1<=1000000000)/\(rH own.2.1/\rH own.2.2.1/\rH own.2.2.2)/\tQ b)/\δ=[some (iL ns),o1,some (zR own),o3,o4,o5,some (YN b),none,none,none,none,none,none]) ?_ ?_
 .refine kE λK _ _ _ hK _=>?_
  dsimp? [n6,lF,jZ,n5,Int.reduceLE,Int.reduceLT];exact⟨by ac_nf,by ac_nf,hK _ ⟨(_,_,_,_),⟨_,_,_,_,_,_⟩,_,_,_,_,⟨⟨OK ∅,(zX ∅ ∅ (m:=120) ⋯).2⟩,⟨jH ∅ ∅,jH ∅ ∅,jH (x:=2) ⋯ ⋯⟩,jH ∅ ∅,jH ∅ ∅,jH ∅ ∅,jH ∅ ∅,jH ∅ ∅,by have:=zX (ns:=ns) (x:=120+ot ns 0 200) (m:=320) ∅ ∅ ⋯;exact⟨by dsimp only;lia,this.2⟩⟩,rfl⟩⟩
 rintro δ ⟨own,b,o1,o3,o4,o5,ho,rfl⟩;dsimp? [];refine OJ (enc:=p6) (P:=EY) AX (n:=1+dr ns 1 4) (by dsimp? [lF,Int.reduceLE,Int.reduceLT]) ∅ ∅ (λk hk=>?_) λss ls gs=>?_
 .obtain⟨d,ed,t,rfl,g⟩:=aLG (ns:=ns) (n:=(k:Int)) ∅ ∅
  exact⟨t,g,by dsimp? [ed]⟩
 dsimp? [];refine OJ (enc:=zQ) (P:=EZ) aOZ (n:=ot ns 1 4) (by dsimp? [jZ,Int.reduceLE,Int.reduceLT]) ∅ ∅ (λk hk=>?_) λts lt gt=>?_
 .obtain⟨d,ed,t,rfl,g⟩:=aLH (ns:=ns) (n:=(k:Int)) ∅ ∅
  exact⟨t,g,by dsimp? [ed]⟩
 dsimp? [];obtain⟨r,er,r0,r1⟩:∃r:Int,atI [PyData.int 0,.int 0,.int 0,.int 1,.int 2] (th ns 1 5)=some (.int r)/\0<=r/\r<=2:=by
  have:th ns 1 5=0\/th ns 1 5=1\/th ns 1 5=2\/th ns 1 5=3\/th ns 1 5=4:=by lia
  rcases this with z|z|z|z|z<;>rw[z]<;>exact⟨_,rfl,⋯,⋯⟩
 refine v4 (j:=r) (δ1:=_) (λk δ=>∃(as:List Ap)(p1 p2 p3:ZL),δ=[some (iL ns),o1,some (zR own),o3,o4,o5,some (YN b),some (.list (ss.map p6)),some (.list (ts.map zQ)),some (.list (as.map Ċ)),p1,p2,p3]/\as.length=k/\∀a∈as,bH a.x/\bH a.y) (lE (by dsimp? [n5,Int.reduceLE,Int.reduceLT,er];rfl)) ∅ ∅ ⟨[],none,none,none,rfl,rfl,λa ha=>by cases ha⟩ ?_ ?_
 .rintro k δ hk ⟨as,p1,p2,p3,rfl,la,ga⟩
  refine⟨_,rfl,?_⟩;refine kE λK _ _ _ hK _=>?_;have d1:=gN (ns:=ns) (k:=17+(k:Int)) (m:=3) ⋯;have d2:=iP (ns:=ns) (k:=17+(k:Int)) (m:=3) ⋯;have e1:=lF (ns:=ns) (k:=17+(k:Int)) (m:=3) ∅ ∅ ⋯;have e2:=jZ (ns:=ns) (k:=17+(k:Int)) (m:=3) ∅ ∅ ⋯;have e3:=n5 (ns:=ns) (k:=17+(k:Int)) (m:=9) ∅ ∅ ⋯;have n1:=j0 (ns:=ns) (k:=18) (n:=dr ns (17+(k:Int)) 3) ⋯ ⋯ ∅ ∅;have n2:=j0 (ns:=ns) (k:=18) (n:=ot ns (17+(k:Int)) 3) ⋯ ⋯ ∅ ∅;dsimp? [e1,e2,e3,n1,n2,Ä];exact⟨∅,hK _ ⟨as++[⟨_,_,_⟩],_,_,_,by rw[Ú];rfl,by rw[Ë,la];rfl,jG ga ⟨hG,hG⟩⟩⟩
 .rintro δ ⟨as,p1,p2,p3,rfl,la,ga⟩
  dsimp? [];exact⟨own,b,ss,ts,as,rfl,ho.1,ho.2.1,ho.2.2,∅,∅,∅,gs,gt,ga⟩
end
theorem ϱ(ha:Sh 1 (.str a))(hb:Sh 1 (.str b))(hp:Sh 1 (.str p))(hq:Sh 1 (.str q)):∃r:Bool,ĭ (.tuple [.str p,.str q]) (.tuple [.tuple [.str a,.str b],.tuple [.str b,.str a]])=some (.bool r):=by
 have s:∀{x y:Str},Sh 1 (.str x)->Sh 1 (.str y)->Sh 2 (.tuple [.str x,.str y]):=λhx hy=>uG λd hd=>by
  simp![Í,Ý,or_false]at hd;rcases hd with rfl|rfl<;>assumption
 have h1:=(s hp hq).shaped ⋯;have h2:SeqAt.shaped (.tuple [.tuple [.str a,.str b],.tuple [.str b,.str a]])=true:=Sh.shaped (k:=3) (uG λx hx=>by
  simp![Í,Ý,or_false]at hx;rcases hx with rfl|rfl
  .exact s ha hb
  .exact s hb ha) ⋯
 unfold ĭ;simp![v6];rw[Á ⟨h1,h2⟩];exact⟨_,rfl⟩
theorem RB(h:∃r,aP m [] 0 u ds=.ok r []/\∃L,r=.list L):∃L,aP m [] 0 u ds=.ok (.list L) []:=by
 let⟨r,e,L,rfl⟩:=h;exact⟨L,e⟩
theorem LP(hl:bs.length<=100):∃r,jT [p6 st,.int s,aK bs]=.ok r []/\∃L,r=.list L/\L.length<=bs.length+2:=by
 have e24:sizeLine=2^24:=rfl;refine i7 ?_;show bO gF [some (p6 st),some (.int s),some (aK bs),none,none,none,none] _ _ _ _;unfold gF;rw[L2.seq_assoc,L2.seq_assoc,L2.seq_assoc];refine nZ (λδ=>∃(L:ZI)(w:Int),L.length<=2/\δ=[some (p6 st),some (.int s),some (aK bs),some (.list L),some (.int w),none,none]) ?_ ?_
 .dsimp? []
  refine aV.of (cU (enc:=eC) (xs:=bs) (g:=λb=>.int b.w) (c6 rfl) ∅ λb _=>by dsimp? [eC]) ?_;have es:Ļ [.list (bs.map λb=>PyData.int b.w)]=some (.int (bs.map λb=>b.w).sum):=by
   rw[show (bs.map λb=>PyData.int b.w)=(bs.map λb=>b.w).map PyData.int by simp,aKA]
  have eb:aK bs=.list (bs.map eC):=rfl;generalize (bs.map λb=>b.w).sum=W at *;by_cases c1:st.h<(bs.length:Int)<;>by_cases c2:st.m<W
  .dsimp? [es,p6,eb,Ä,c1,c2,decide_true,List.nil_append]
   exact⟨∅,∅,_,_,by simp,rfl⟩
  .dsimp? [es,p6,eb,Ä,c1,c2,decide_true,decide_false,Bool.false_eq_true,List.nil_append]
   exact⟨∅,_,_,by simp,rfl⟩
  .dsimp? [es,p6,eb,Ä,c1,c2,decide_true,decide_false,Bool.false_eq_true,List.nil_append]
   exact⟨∅,_,_,by simp,rfl⟩
  .dsimp? [es,p6,eb,Ä,c1,c2,decide_false,Bool.false_eq_true]
   exact⟨_,_,by simp,rfl⟩
 rintro _ ⟨L,w,lL,rfl⟩;refine nZ (λδ=>∃(L:ZI)(o4 o5 o6:ZL),L.length<=bs.length+2/\δ=[some (p6 st),some (.int s),some (aK bs),some (.list L),o4,o5,o6]) ?_ ?_
 .refine dN (ds:=eY (bs.map eC)) (δ1:=_) (λt δ=>∃(L:ZI)(w:Int)(o5 o6:ZL),L.length<=t+2/\δ=[some (p6 st),some (.int s),some (aK bs),some (.list L),some (.int w),o5,o6]) (jX rfl) ⟨L,w,none,none,∅,rfl⟩ ?_ ?_
  .rintro t d δ ht ⟨L,w,o5,o6,lL,rfl⟩
   let⟨t1,rfl⟩:=fV (a0:=AA) ht;refine⟨_,rfl,?_⟩;generalize bs.getD t AA=bt at *;by_cases c:bt.b<w-bt.w
   .dsimp? [eC,c,decide_true]
    exact⟨∅,_,_,_,_,by rw[Ë,ì];lia,rfl⟩
   .dsimp? [eC,c,decide_false,Bool.false_eq_true]
    exact⟨_,_,_,_,∅,rfl⟩
  .rintro δ ⟨L,w,o5,o6,lL,rfl⟩
   rw[iA,Ä]at lL;exact⟨L,_,_,_,lL,rfl⟩
 rintro _ ⟨L,o4,o5,o6,lL,rfl⟩;dsimp? [];exact lL
section
variable {own:Q4}{b:OA}{ss:List St}{cs:List 'l'}{ts:List Tk}{as:List Ap}
theorem XQ(la:as.length<=10)(ga:∀a∈as,bH a.x/\bH a.y)(hx:bH x)(hy:bH y):∃r,HV [rG own b ss ts as,.str x,.str y]=.ok r []/\∃n:Int,r=.int n:=by
 refine i7 ?_;show bO yL [some (rG own b ss ts as),some (.str x),some (.str y)] _ _ _ _;unfold yL;have i4:fE (rG own b ss ts as) (.int 4)=some (.list (as.map Ċ)):=rfl;have ct:∀x y z:D,Z7 (.tuple [x,y,z]) none (some 2)=some (.tuple [x,y]):=λ_ _ _=>rfl;obtain⟨h,hh⟩:∃h:Ap->Bool,∀a∈as,ĭ (.tuple [.str a.x,.str a.y]) (.tuple [.tuple [.str x,.str y],.tuple [.str y,.str x]])=some (.bool (h a)):=by
  refine⟨λa=>open Classical in if q:a∈as then (ϱ hx.sh hy.sh (ga a q).1.sh (ga a q).2.sh).choose else false,λa q=>?_⟩;dsimp only;rw[dif_pos q];exact(ϱ hx.sh hy.sh (ga a q).1.sh (ga a q).2.sh).choose_spec
 have em:∃n:Int,M5 (.list ((as.filter h).map λr=>PyData.int r.n)) (.int 0)=some (.int n):=by
  rw[show ((as.filter h).map λr=>PyData.int r.n)=((as.filter h).map λr=>r.n).map PyData.int by simp];refine⟨(gD none ((as.filter h).map λr=>r.n)).getD 0,?_⟩;show (cQ _).map _=_;rw[i5];rfl
 let⟨n,em⟩:=em;generalize rG own b ss ts as=sh at *;dsimp? [aG7];refine aV.of (oV (enc:=Ċ) (xs:=as) (h:=h) (g:=λr=>.int r.n) (bW (by dsimp? [i4])) ∅ (λr hr=>?_) λr hr=>by dsimp? [Ċ]) ?_
 .dsimp? [Ċ,GO,l8,l9,sH,ct,hh r hr]
 .dsimp? [em]
  exact⟨n,rfl⟩
theorem XR(hi:i<ss.length)(hj:j<ss.length):∃n:Int,yK [rG own b ss ts as,.int i,.int j]=.ok (.int n) []:=by
 refine⟨(((ss.getD i AX).x-(ss.getD j AX).x).natAbs:Int)+(((ss.getD i AX).y-(ss.getD j AX).y).natAbs:Int),aR (os:=[]) ?_⟩;show bO qV [some (rG own b ss ts as),some (.int i),some (.int j),none,none] _ _ _ _;unfold qV;dsimp? [LI (enc:=p6) (l:=ss) (d:=AX) hi,LI (enc:=p6) (l:=ss) (d:=AX) hj,p6]
def Ŵ(n:Nat)(d:D):Prop:=∃(i j:Nat)(z:Str),i<n/\bH z/\d=.tuple [.int i,.int j,.str z]
theorem RC(lc:cs.length<=10)(gc:∀c∈cs,c.length<=30/\∀b∈c,lG b):∃r,nS [.list (cs.map aK)]=.ok r []/\∃P,r=.list P/\P.length<=300/\∀d∈P,Ŵ cs.length d:=by
 have e24:sizeLine=2^24:=rfl;refine i7 ?_;show bO jC [some 'c',none,none,none,none,none] _ _ _ _;unfold jC;dsimp? [];refine dN (ds:=eY (cs.map aK)) (δ1:=_) (λk δ=>∃P o2 o3 o4 o5,δ=[some 'c',some (.list P),o2,o3,o4,o5]/\P.length<=30*k/\∀d∈P,Ŵ cs.length d) (jX rfl) ⟨[],_,_,_,_,rfl,by simp,by simp⟩ ?_ ?_
 .rintro k d δ hk ⟨P,o2,o3,o4,o5,rfl,lP,gP⟩
  let⟨k1,rfl⟩:=fV (a0:=[]) hk;let⟨lb1,gb1⟩:=gc _ (cM (d:=[]) k1);refine⟨_,rfl,?_⟩;generalize cs.getD k []=bs at *;refine dN (ds:=eY (bs.map eC)) (δ1:=_) (λt δ=>∃P o4 o5,δ=[some 'c',some (.list P),some (.int k),some (aK bs),o4,o5]/\P.length<=30*k+t/\∀d∈P,Ŵ cs.length d) (jX rfl) ⟨P,_,_,rfl,∅,gP⟩ ?_ ?_
  .rintro t d δ ht ⟨P,o4,o5,rfl,lP,gP⟩
   let⟨t1,rfl⟩:=fV (a0:=AA) ht;have gk:=(gb1 _ (cM (d:=AA) t1)).k;refine⟨_,rfl,?_⟩;generalize bs.getD t AA=bt at *;dsimp? [eC];refine⟨∅,_,_,_,rfl,by rw[Ë,ì];lia,jG gP ⟨k,t,_,k1,gk,rfl⟩⟩
  .rintro δ ⟨P,o4,o5,rfl,lP,gP⟩
   rw[iA,Ä]at lP;exact⟨P,_,_,_,_,rfl,∅,gP⟩
 .rintro δ ⟨P,o2,o3,o4,o5,rfl,lP,gP⟩
  rw[iA,Ä]at lP;dsimp? [];exact⟨∅,gP⟩
theorem JC(la:as.length<=10)(ga:∀a∈as,bH a.x/\bH a.y)(ls:cs.length=ss.length)(lc:cs.length<=10)(gc:∀c∈cs,c.length<=30/\∀b∈c,lG b):∃r,nU [rG own b ss ts as,.list (cs.map aK)]=.ok r []/\∃L,r=.list L/\L.length<=90000:=by
 have e24:sizeLine=2^24:=rfl;let⟨r,eP,P,rfl,lP,gP⟩:=RC lc gc;have fs:=λ(x y:Str)hx hy=>XQ (own:=own) (b:=b) (ss:=ss) (ts:=ts) (as:=as) (x:=x) (y:=y) la ga hx hy;have ap:=λ(i j:Nat)hi hj=>XR (own:=own) (b:=b) (ss:=ss) (ts:=ts) (as:=as) (i:=i) (j:=j) hi hj;generalize rG own b ss ts as=sh at *;refine i7 ?_;show bO jD [some sh,some 'c',none,none,none,none,none] _ _ _ _;unfold jD;dsimp? [eP];refine dN (ds:=eY P) (δ1:=_) (λk δ=>∃L o4 o5 o6,L.length<=300*k/\δ=[some sh,some 'c',some (.list L),some (.list P),o4,o5,o6]) (jX rfl) ⟨[],_,_,_,by simp,rfl⟩ ?_ ?_
 .rintro k d δ hk ⟨L,o4,o5,o6,lL,rfl⟩
  have eid:P=P.map id:=by simp
  rw[eid]at hk;let⟨k1,rfl⟩:=fV (a0:=.none) hk;refine⟨_,rfl,?_⟩;let⟨i,j,z,hi,gz,e1⟩:=gP _ (cM (d:=.none) k1);simp![id,e1];have ct:uC (.list P) (some ((k:Int)+1)) none=some (.list (P.drop (k+1))):=kR (k:=k+1) ∅;refine dN (ds:=P.drop (k+1)) (δ1:=_) (λt δ=>∃L o6,L.length<=300*k+t/\δ=[some sh,some 'c',some (.list L),some (.list P),some (.int k),some (.tuple [.int i,.int j,.str z]),o6]) (bW (by dsimp? [GO,l8,l9,sH,ct])) ⟨L,_,∅,rfl⟩ ?_ ?_
  .rintro t d δ ht ⟨L,o6,lL,rfl⟩
   have ht1:=(Ò.mp ht).1;rw[ā]at ht1;let⟨i2,j2,z2,hi2,gz2,rfl⟩:=gP d (List.mem_of_mem_drop (þ ht));refine⟨_,rfl,?_⟩;let⟨n,en⟩:=ap i i2 ∅ ∅;let⟨_,ef,m,rfl⟩:=fs z z2 gz gz2;by_cases c:n<m
   .dsimp? [ef,en,c,decide_true]
    exact⟨∅,_,_,by rw[Ë,ì];lia,rfl⟩
   .dsimp? [ef,en,c,decide_false,Bool.false_eq_true]
    exact⟨_,_,∅,rfl⟩
  .rintro δ ⟨L,o6,lL,rfl⟩
   rw[ā]at lL;exact⟨L,_,_,_,∅,rfl⟩
 .rintro δ ⟨L,o4,o5,o6,lL,rfl⟩
  rw[iA]at lL;dsimp? [];lia
theorem JD(la:as.length<=10)(ga:∀a∈as,bH a.x/\bH a.y)(ls:cs.length=ss.length)(lc:cs.length<=10)(gc:∀c∈cs,c.length<=30/\∀b∈c,lG b):∃L,HX [rG own b ss ts as,.list (cs.map aK)]=.ok (.list L) []:=by
 have e24:sizeLine=2^24:=rfl;let⟨r,ea,A,rfl,lA⟩:=JC (own:=own) (b:=b) (ts:=ts) la ga ls lc gc;have i2:fE (rG own b ss ts as) (.int 2)=some (.list (ss.map p6)):=rfl;generalize rG own b ss ts as=sh at *;refine RB (i7 ?_);show bO yM [some sh,some 'c',none,none,none] _ _ _ _;unfold yM;dsimp? [];refine dN (ds:=eY (cs.map aK)) (δ1:=_) (λk δ=>∃L o3 o4,L.length<=32*k/\δ=[some sh,some 'c',some (.list L),o3,o4]) (jX rfl) ⟨[],_,_,by simp,rfl⟩ ?_ ?_
 .rintro k d δ hk ⟨L,o3,o4,lL,rfl⟩
  let⟨k1,rfl⟩:=fV (a0:=[]) hk;have lb1:=(gc _ (cM (d:=[]) k1)).1;refine⟨_,rfl,?_⟩;let⟨_,e1,L1,rfl,l1⟩:=LP (st:=ss.getD k AX) (s:=(k:Int)) (bs:=cs.getD k []) ∅;dsimp? [i2,LI (enc:=p6) (l:=ss) (d:=AX) (show k<ss.length by lia),e1,qJ];exact⟨∅,_,_,_,by rw[Ë];lia,rfl⟩
 .rintro δ ⟨L,o3,o4,lL,rfl⟩
  rw[iA,Ä]at lL;dsimp? [ea,qJ];exact⟨∅,_,rfl⟩
end
section
def XS(r:D):Prop:=(∃a b,r=.tuple [.str "fill",a,b])\/∃(k:Str)(a:D),(k="none"\/k="broken")/\r=.tuple [.str k,a]
theorem LQ(W:W9 Æ Ã):∃r,EO [Ϩ Æ,iL Ã]=.ok r []/\XS r:=by
 let⟨b,_,_⟩:=W.bnd;let⟨r,el,T,σ,I,h⟩:=W6 b;refine⟨r,el,?_⟩;rcases h with ⟨all,rfl⟩|⟨p,hp,hneg,ha,rfl⟩
 .exact .inl ⟨_,_,rfl⟩
 .exact .inr ⟨"none",_,.inl rfl,rfl⟩
end
section
variable {own:Q4}{b:OA}{ss:List St}{cs:List 'l'}{ts:List Tk}{as:List Ap}
theorem E3(M:sT own ss cs ts)(g:tQ b):∃r,BY [rG own b ss ts as,.list (cs.map aK)]=.ok r []/\XS r:=by
 have lt:=M.lt;let⟨r,el,hr⟩:=LQ (aCH M g);refine⟨r,?_,hr⟩;have e0:uW [rG own b ss ts as,.list (cs.map aK)]=.ok (Ϩ (IZ ts b (T4 (own::tP ss cs ss.length)))) []:=aCF M g;have e1:qU [rG own b ss ts as]=.ok (iL (ts.map λt=>t.r)) []:=LL ∅;generalize IZ ts b (T4 (own::tP ss cs ss.length))=Æ at *;generalize rG own b ss ts as=sh at *;refine aR (os:=[]) ?_;show bO uX [some sh,some 'c'] _ _ _ _;unfold uX;dsimp? [e0,e1,el]
def ϲ(cs:List 'l'):Prop:=∀c∈cs,c.length<=30/\∀b∈c,lG b/\1<=b.w/\b.w<=1000000000
theorem aCM(S:ĳ own b ss ts as)(lc:cs.length=ss.length)(gc:ϲ cs):sT own ss cs ts:=
 ⟨S.o0,S.o1,by have:=S.ls;lia,lc,λc hc=>(gc c hc).1,by have:=S.lt;lia,S.gs,λc hc b hb=>by have:=(gc c hc).2 b hb;exact⟨this.1.nm,this.1.p,this.1.k,this.2⟩,S.gt⟩
theorem AY(S:ĳ own b ss ts as)(lc:cs.length=ss.length)(gc:ϲ cs):∃r,yX [rG own b ss ts as,.list (cs.map aK)]=.ok r []/\XS r:=by
 have ls:=S.ls;let⟨r,eb,hr⟩:=E3 (as:=as) (aCM S lc gc) S.b;let⟨L,ek⟩:=JD (own:=own) (b:=b) (ts:=ts) (by have:=S.la;lia) S.ga lc ∅ λc hc=>⟨(gc c hc).1,λx hx=>((gc c hc).2 x hx).1⟩;generalize rG own b ss ts as=sh at *;refine i7 ?_;show bO rC [some sh,some 'c',none] _ _ _ _;unfold rC;dsimp? [ek];refine aHV (cX rfl) ?_;cases L with
 |nil=>
  dsimp? [List.isEmpty_nil,Bool.not_true,Bool.false_eq_true,eb];exact hr
 |cons x L=>
  dsimp? [List.isEmpty_cons,Bool.not_false];exact .inr ⟨"broken",_,.inr rfl,rfl⟩
end
def ŵ(n:D):Option Str->Res D
 |none=>.ok .none [some n]
 |some x=>.err (.str x) [some n]
def aNP(δ:DS):Option Str->Res Fl
 |none=>.ok .next δ
 |some x=>.err (.str x) δ
theorem ğ{c:M Bool}{v:M Fl}{x:Str}{m:D}{δ:DS}{b:Bool}(h:c δ=.ok b δ):dW (mX c (j7 x [dC m]) wV) v δ=if b=true then .err (.str x) δ else v δ:=by
 have hr:j7 x [dC m] δ=.err (.str x) δ:=by
  unfold j7;simp[aY,hU,Res.bind]
 unfold dW mX;rw[h];simp![Res.bind];cases b
 .rfl
 .simp[hr]
theorem aNQ{c:M Bool}{x:Str}{m:D}{δ:DS}{b:Bool}(h:c δ=.ok b δ):mX c (j7 x [dC m]) wV δ=if b=true then .err (.str x) δ else .ok .next δ:=by
 have hr:j7 x [dC m] δ=.err (.str x) δ:=by
  unfold j7;simp[aY,hU,Res.bind]
 unfold mX;rw[h];simp![Res.bind];cases b
 .rfl
 .simp[hr]
theorem aCN{u:D->Prop}{N:ZO}{δ:DS}{fn:ZI->Res D}{as:List L2.Arg}{j:Nat}(ho:aU as=[j])(h:aV (cG as) δ λods δ1=>∃ds n o,dM δ1 as ods=some ds/\fn ds=ŵ n o/\o.elim (N (δ1.set j (some n))) λx=>u (.str x)):u8 (pN (dR fn as)) δ N u:=by
 unfold aV at h;unfold u8 pN dR;cases e:cG as δ with
 |stuck=>rw[e]at h;exact h.elim
 |err x d=>rw[e]at h;exact h.elim
 |ok ods δ1=>
  rw[e]at h;let⟨ds,n,o,h1,h2,h3⟩:=h;simp![Res.bind,h1,h2,ho];cases o<;>exact h3
theorem XU{o o':D->D->ZL}{f g k:M D}{δ:DS}{a b c:D}{r r':Bool}(hf:f δ=.ok a δ)(hg:g δ=.ok b δ)(hk:k δ=.ok c δ)(h1:o a b=some (.bool r))(h2:o' b c=some (.bool r')):iH o o' f g k δ=.ok (.bool (r && r')) δ:=by
 unfold iH;rw[hf,aW,hg,aW,h1];cases r
 .rfl
 .simp![hk,aW,h2,Bool.true_and]
def RL(z:Str):Prop:=z.length<=100/\∀c∈z.cps.toList,c<128
structure AZ(b:Bx):Prop where
 nm:RL b.nm
 p:RL b.p
 k:RL b.k
theorem E4(h:RL z):fS [.str z]=.ok (.bool (n8 z)) []:=name_ev' h.1 h.2
def FC(zs:ZG)(b:Bx):Option Str:=if n8 b.nm=false then some "NoName"else if b.nm∈zs then some "NoName"else if b.w<1 then some "NoWeight"else if n8 b.p=false then some "NoName"else if n8 b.k=false then some "NoName"else if b.b<0 then some "NoWeight"else none
theorem XV(A:AZ b):jR [eC b,vR zs]=ŵ (vR zs) (FC zs b):=by
 have i0:fE (eC b) (.int 0)=some (.str b.nm):=rfl;have i1:fE (eC b) (.int 1)=some (.int b.w):=rfl;have i2:fE (eC b) (.int 2)=some (.str b.p):=rfl;have i3:fE (eC b) (.int 3)=some (.str b.k):=rfl;have i4:fE (eC b) (.int 4)=some (.int b.b):=rfl;generalize eC b=T at *;have fin:∀r:Res Fl,jQ [some T,some (vR zs)]=r->r=aNP [some T,some (vR zs)] (FC zs b)->jR [T,vR zs]=ŵ (vR zs) (FC zs b):=λr e1 e2=>by
  unfold jR aP;show (match jQ [some T,some (vR zs)]with|.ok (.ret d) δ=>_|.ok .next δ=>_|.ok _ _=>_|.err x δ=>_|.stuck=>_)=_;rw[e1,e2];cases FC zs b<;>rfl
 have cl:∀(j:Int)(z:Str),fE T (.int j)=some (.str z)->RL z->pM (dB (dR fS [.val (iW fE (bD 0) (dC (.int j)))])) [some T,some (vR zs)]=.ok (!n8 z) [some T,some (vR zs)]:=λj z hj hz=>
  nF (pQ (uD (iI (cX rfl) hU hj) (E4 hz)))
 refine fin _ rfl ?_;unfold jQ FC;have ci:MN (dB (iW (vM false) (iW fE (bD 0) (dC (.int 0))) (bD 1))) [some T,some (vR zs)]=.ok (decide (b.nm∈zs)) [some T,some (vR zs)]:=by
  have:=pQ (iI (op:=vM false) (iI (δ:=[some T,some (vR zs)]) (cX (i:=0) rfl) hU i0) (cX (i:=1) rfl) aLD);unfold MN;rw[this]
 rw[ğ (cl 0 _ i0 A.nm)];cases h0:n8 b.nm with
 |false=>rfl
 |true=>
 rw[Â ⋯,Â ⋯,ğ ci];by_cases h1:b.nm∈zs
 .rw[decide_eq_true h1,Á rfl,Á h1];rfl
 rw[decide_eq_false h1,Â ⋯,Â h1,ğ (b:=decide (b.w<1)) (pQ (iI (iI (cX rfl) hU i1) hU rfl))];by_cases h2:b.w<1
 .rw[decide_eq_true h2,Á rfl,Á h2];rfl
 rw[decide_eq_false h2,Â ⋯,Â h2,ğ (cl 2 _ i2 A.p)];cases h3:n8 b.p with
 |false=>rfl
 |true=>
 rw[Â ⋯,Â ⋯,ğ (cl 3 _ i3 A.k)];cases h4:n8 b.k with
 |false=>rfl
 |true=>
 rw[Â ⋯,Â ⋯,aNQ (b:=decide (b.b<0)) (pQ (iI (iI (cX rfl) hU i4) hU rfl))];by_cases h5:b.b<0
 .rw[decide_eq_true h5,Á rfl,Á h5];rfl
 .rw[decide_eq_false h5,Â ⋯,Â h5];rfl
abbrev bL(bs:List Bx):ZG:=bs.map λb=>b.nm
def B8(m:Nat):ZG->List Ld->Option Str
 |_,[]=>none
 |zs,x::r=>if 0<=x.2/\x.2<(m:Int)then (match FC zs x.1 with
  |some e=>some e
  |none=>B8 m (zs++[x.1.nm]) r)else some "NoStack"
theorem OL(h:FC zs b=none):b.nm∉zs:=λhm=>by
 unfold FC at h;rw[Á hm]at h;split at h<;>cases h
theorem XW{cs:List 'l'}(nd:(bL cs.flatten).Nodup)(hl:cs.flatten.length<=300):yV [.list (cs.map aK)]=.ok (vR (bL cs.flatten)) []:=by
 refine aR (os:=[]) ?_;show bO rB [some 'c',none,none,none] _ _ _ _;unfold rB;dsimp? [];have e0:kG [] []=vR (bL ([]:List 'l').flatten):=rfl;rw[e0];have sub:∀k,∃rest,cs.flatten=(cs.take k).flatten++rest:=λk=>⟨(cs.drop k).flatten,by rw[<- List.flatten_append,List.take_append_drop]⟩;refine dN (ds:=cs.map aK) (δ1:=_) (λk δ=>∃o2 o3,δ=[some 'c',some (vR (bL (cs.take k).flatten)),o2,o3]) (c6 rfl) ⟨none,none,rfl⟩ ?_ ?_
 .rintro k d δ hk ⟨o2,o3,rfl⟩
  have k1:k<cs.length:=by have:=(Ò.mp hk).1;rwa [Ä]at this
  rw[Ñ,fI (d:=[]) k1]at hk;cases hk;refine⟨_,rfl,?_⟩;have ek:(cs.take (k+1)).flatten=(cs.take k).flatten++cs.getD k []:=by
   rw[List.take_add_one,fI (d:=[]) k1,List.flatten_append];simp
  let⟨rest,er⟩:=sub (k+1);rw[ek]at er;rw[er]at nd hl;rw[ek];generalize (cs.take k).flatten=P at *;generalize cs.getD k []=bs at *;refine dN (ds:=bs.map eC) (δ1:=_) (λt δ=>∃o3,δ=[some 'c',some (vR (bL (P++bs.take t))),some (aK bs),o3]) (c6 rfl) ⟨o3,by rw[List.take_zero,â];rfl⟩ ?_ ?_
  .rintro t d δ ht ⟨o3,rfl⟩
   have t1:t<bs.length:=by have:=(Ò.mp ht).1;rwa [Ä]at this
   rw[Ñ,fI (d:=AA) t1]at ht;cases ht;have et:P++bs.take (t+1)=P++bs.take t++[bs.getD t AA]:=by rw[List.take_add_one,fI (d:=AA) t1,List.append_assoc];rfl
   have eb:bs=bs.take t++(bs.getD t AA::bs.drop (t+1)):=by
    have:=List.take_append_drop t bs;rw[ò t1]at this;rw[Ê,É t1];exact this.symm
   have ni:(bs.getD t AA).nm∉bL (P++bs.take t):=by
    rw[eb,<- List.append_assoc,List.append_assoc]at nd;have nd:((P++bs.take t).map (λb=>b.nm)++(bs.getD t AA::bs.drop (t+1)++rest).map λb=>b.nm).Nodup:=by rw[<- Ú];exact nd
    have:=(List.nodup_append.mp nd).2.2;intro hm;exact this _ hm _ 'e' rfl
   have ln:(bL (P++bs.take t)).length<=1000:=by
    rw[Ë,Ë]at hl;rw[Ä,Ë,ï];lia
   refine⟨_,rfl,?_⟩;rw[et,show bL (P++bs.take t++[bs.getD t AA])=bL (P++bs.take t)++[(bs.getD t AA).nm]from Ú];generalize bs.getD t AA=x at *;have i0:fE (eC x) (.int 0)=some (.str x.nm):=rfl;dsimp? [xY,i0,XN ni ln];exact⟨_,rfl⟩
  .rintro δ ⟨o3,rfl⟩
   rw[Ä,List.take_length];exact⟨_,_,rfl⟩
 .rintro δ ⟨o2,o3,rfl⟩
  rw[Ä,List.take_length];dsimp? [xK]
theorem JE{cs:List 'l'}(hs:fE sh (.int 2)=some (.list st))(nd:(bL cs.flatten).Nodup)(hl:cs.flatten.length<=300)(ll:ld.length<=300)(A:∀x∈ld,AZ x.1):fF [sh,.list (cs.map aK),.list (ld.map p7)]=Ų (B8 st.length (bL cs.flatten) ld):=by
 unfold fF pZ;refine ϰ _ ?_;show u8 _ [some sh,some 'c',some (.list (ld.map p7)),none,none,none] _ _;have en:=XW nd hl;refine zU (ō ?_);dsimp? [en];have lz:(bL cs.flatten).length<=300:=by rw[Ä];exact hl
 generalize bL cs.flatten=zs at *;refine ϯ (ds:=ld.map p7) (λk δ=>B8 st.length zs ld=B8 st.length (zs++(ld.take k).map λx=>x.1.nm) (ld.drop k)/\∃o4 o5,δ=[some sh,some 'c',some (.list (ld.map p7)),some (vR (zs++(ld.take k).map λx=>x.1.nm)),o4,o5]) (aV.of (c6 rfl) ⟨rfl,by rw[List.take_zero,List.map_nil,â,List.drop_zero],none,none,by rw[List.take_zero,List.map_nil,â]⟩) ?_ ?_
 .rintro k d δ hk ⟨he,o4,o5,rfl⟩
  have k1:k<ld.length:=by have:=(Ò.mp hk).1;rwa [Ä]at this
  rw[Ñ,É k1]at hk;cases hk;have Ax:=A _ (Đ k1);have ez:(ld.take (k+1)).map (λx=>x.1.nm)=(ld.take k).map (λx=>x.1.nm)++[ld[k].1.nm]:=by
   rw[List.take_add_one,É k1,Ú];rfl
  have lk:(zs++(ld.take k).map λx=>x.1.nm).length<=1000:=by
   rw[Ë,Ä,ï];lia
  rw[ez,<- List.append_assoc];rw[ò k1,B8]at he;generalize zs++(ld.take k).map (λx=>x.1.nm)=ys at *;generalize ld[k]=x at *;refine⟨[some sh,some 'c',some (.list (ld.map p7)),some (vR ys),some (eC x.1),some (.int x.2)],rfl,?_⟩;have ech:pM (dB (iH Ī Ş (dC (.int 0)) (bD 5) (O8 rY [(iW fE (bD 0) (dC (.int 2)))]))) [some sh,some 'c',some (.list (ld.map p7)),some (vR ys),some (eC x.1),some (.int x.2)]=.ok (!(decide (0<=x.2) && decide (x.2<(st.length:Int)))) [some sh,some 'c',some (.list (ld.map p7)),some (vR ys),some (eC x.1),some (.int x.2)]:=nF (pQ (XU hU (cX rfl) (DN (iI (cX rfl) hU hs) UF) rfl rfl));by_cases c:0<=x.2/\x.2<(st.length:Int)
  .rw[Á c]at he
   rw[decide_eq_true c.1,decide_eq_true c.2]at ech;have eB:=XV (zs:=ys) Ax;refine zU (Ϯ (aV.of ech ?_));rw[Â ⋯];refine aH7 ?_;refine zU (aCN rfl ?_);dsimp? [];refine⟨_,_,_,rfl,eB,?_⟩;cases hc:FC ys x.1 with
   |some e=>
    rw[hc]at he;show Option.map PyData.str _=_;rw[he];rfl
   |none=>
    rw[hc]at he;have i0:fE (eC x.1) (.int 0)=some (.str x.1.nm):=rfl;refine ō ?_;show bO _ [some sh,some 'c',some (.list (ld.map p7)),some (vR ys),some (eC x.1),some (.int x.2)] _ _ _ _;generalize eC x.1=T at *;dsimp? [xY,i0,XN (OL hc) lk];exact⟨he,_,_,rfl⟩
  .rw[Â c]at he
   have:(decide (0<=x.2) && decide (x.2<(st.length:Int)))=false:=by
    rw[<- Bool.decide_and];exact decide_eq_false c
   rw[this]at ech;refine zU (Ϯ (aV.of ech ?_));rw[Á ⋯];refine aCJ ?_;dsimp? [];rw[he];rfl
 .rintro δ ⟨he,_⟩
  rw[Ä,List.drop_length]at he;exact he
def RD(b:Bx):Prop:=lG b/\1<=b.w/\b.w<=1000000000
def cC(cs:List 'l')(m:Nat):Prop:=∀c∈cs,c.length<=m/\∀b∈c,RD b
theorem cC.mono(h:cC cs m)(e:m<=n):cC cs n:=λc hc=>⟨Ø (h c hc).1 e,(h c hc).2⟩
theorem cC.set(h:cC cs m)(lc:c.length<=m)(gc:∀b∈c,RD b):cC (cs.set k c) m:=λx hx=>by
 rcases List.mem_or_eq_of_mem_set hx with z|rfl
 .exact h x z
 .exact⟨lc,gc⟩
theorem cC.at(h:cC cs m):(cs.getD k []).length<=m/\∀b∈cs.getD k [],RD b:=by
 by_cases hk:k<cs.length
 .exact h _ (cM hk)
 .rw[Ê,æ ∅]
  exact⟨é _,λb hb=>by cases hb⟩
def ϳ(m:Mv)(cs cs':List 'l'):Prop:=∃k:Nat,k<cs.length/\((∃z c b,m=(⟨"off",(k:Int),z⟩,.none)/\cs.getD k []=c++[b]/\cs'=cs.set k c)\/∃w z b,bH w/\(w == "off")=false/\m=(⟨w,(k:Int),z⟩,eC b)/\cs'=cs.set k (cs.getD k []++[b]))
def lH:List Mv->List 'l'->List 'l'->Prop
 |[],cs,cs1=>cs1=cs
 |m::ms,cs,cs1=>∃cs',ϳ m cs cs'/\cC cs' 30/\lH ms cs' cs1
theorem lH.app:∀{ms ms':List Mv}{cs cs1 cs2:List 'l'},lH ms cs cs1->lH ms' cs1 cs2->lH (ms++ms') cs cs2
 |[],_,_,_,_,h,g=>by cases h;exact g
 |_::_,_,_,_,_,⟨cs',s,q,h⟩,g=>⟨cs',s,q,h.app g⟩
theorem lI{cs:List 'l'}(h:k<cs.length):(cs.set k c).getD k []=c:=by
 rw[Ê,ð h];rfl
theorem aCO{cs:List 'l'}(h:k≠j):(cs.set k c).getD j []=cs.getD j []:=by
 rw[Ê,ß h,Ê]
theorem JF{cs:List 'l'}(h:k<cs.length):cs.set k (cs.getD k [])=cs:=by
 rw[Ê,É h];exact List.set_getElem_self h
theorem OM :∀{l:List Bx}{cs:List 'l'},k<cs.length->cC cs 30->cs.getD k []=keep++l.reverse->lH (l.map (XE (k:Int))) cs (cs.set k keep)
 |[],cs,hk,_,e=>by
  rw[List.reverse_nil,â]at e;show cs.set k keep=cs;rw[<- e,JF hk]
 |b::l,cs,hk,g,e=>by
  rw[List.reverse_cons,<- List.append_assoc]at e;have ga:=g.at (k:=k);rw[e]at ga;have lg:(keep++l.reverse).length<=30:=by have:=ga.1;rw[Ë]at this;lia
  have g':cC (cs.set k (keep++l.reverse)) 30:=g.set lg λx hx=>ga.2 x (Ą _ hx);refine⟨cs.set k (keep++l.reverse),⟨k,hk,.inl ⟨_,_,_,rfl,e,rfl⟩⟩,g',?_⟩;have:=OM (k:=k) (keep:=keep) (l:=l) (cs:=cs.set k (keep++l.reverse)) (by rw[Ù];exact hk) g' (lI hk)
  rwa [List.set_set]at this
theorem XX :∀{l:List Bx}{cs:List 'l'},k<cs.length->cC cs 30->(cs.getD k []).length+l.length<=30->(∀b∈l,RD b)->lH (l.map (ı (k:Int))) cs (cs.set k (cs.getD k []++l))
 |[],cs,hk,_,_,_=>by
  show cs.set k (cs.getD k []++[])=cs;rw[â,JF hk]
 |b::l,cs,hk,g,hl,gl=>by
  rw[Õ]at hl;have g':cC (cs.set k (cs.getD k []++[b])) 30:=g.set (by rw[Ë,ì];lia) (jG g.at.2 (gl b Ó));refine⟨cs.set k (cs.getD k []++[b]),⟨k,hk,.inr ⟨"back",_,b,ű,⋯,rfl,rfl⟩⟩,g',?_⟩;have:=XX (k:=k) (l:=l) (cs:=cs.set k (cs.getD k []++[b])) (by rw[Ù];exact hk) g' (by rw[lI hk,Ë,ì];lia) λx hx=>gl x (Ï _ hx)
  rwa [List.set_set,lI hk,List.append_assoc]at this
theorem XY(s:ϳ m cs cs')(g:cC cs 30)(lc:cs.length<=10):oP [.list (cs.map aK),tR m.1,m.2]=.ok (.list (cs'.map aK)) []/\cs'.length=cs.length:=by
 obtain⟨k,hk,⟨z,c,b,rfl,e,rfl⟩|⟨w,z,b,gw,hw,rfl,rfl⟩⟩:=s
 .have hk':((k:Nat):Int).toNat<cs.length:=by lia
  have e2:cs[((k:Nat):Int).toNat]=c++[b]:=by
   have:=fI (d:=[]) hk';rw[É hk']at this;rw[Option.some.inj this,û];exact e
  have:=LO (x:=.str z) (y:=.none) (s:=(k:Int)) (b:=b) ∅ ∅ hk' e2;rw[û]at this;exact⟨this,Ù⟩
 .have hk':((k:Nat):Int).toNat<cs.length:=by lia
  have e2:cs[((k:Nat):Int).toNat]=cs.getD k []:=by
   have:=fI (d:=[]) hk';rw[É hk']at this;rw[Option.some.inj this,û]
  have lg:=(g.at (k:=k)).1;have:=RA (x:=.str z) (s:=(k:Int)) (b:=b) gw hw ∅ ∅ hk' (by rw[e2];lia);rw[e2,û]at this;exact⟨this,Ù⟩
section
variable {own:Q4}{b:OA}{ss:List St}{cs:List 'l'}{ts:List Tk}{as:List Ap}{p:Str}{ld:List Ld}
theorem JG(hp:RL p)(h:n8 p=false):hW [sh,cg,cF p ld]=.err (.str "NoName") []:=by
 have i0:fE (cF p ld) (.int 0)=some (.str p):=rfl;generalize cF p ld=cl at *;have e:eS [some sh,some cg,some cl,none,none,none,none,none]=.err (.str "NoName") [some sh,some cg,some cl,none,none,none,none,none]:=by
  unfold eS;rw[ğ (b:=true) (by rw[nF (pQ (uD (iI (cX rfl) hU i0) (E4 hp))),h];rfl)];rfl
 show aP 8 [] 0 eS [sh,cg,cl]=_;unfold aP;show (match eS [some sh,some cg,some cl,none,none,none,none,none]with|.ok (.ret d) δ=>_|.ok .next δ=>_|.ok _ _=>_|.err x δ=>_|.stuck=>_)=_;rw[e];rfl
theorem LR(hp:RL p)(h:n8 p=true)(nd:(bL cs.flatten).Nodup)(hl:cs.flatten.length<=300)(ll:ld.length<=300)(A:∀x∈ld,AZ x.1)(hc:B8 ss.length (bL cs.flatten) ld=some e):hW [rG own b ss ts as,.list (cs.map aK),cF p ld]=.err (.str e) []:=by
 have i0:fE (cF p ld) (.int 0)=some (.str p):=rfl;have i1:fE (cF p ld) (.int 1)=some (.list (ld.map p7)):=rfl;have eL:=JE (cs:=cs) (ld:=ld) (sh:=rG own b ss ts as) (st:=ss.map p6) rfl nd hl ll A;rw[Ä,hc]at eL;generalize cF p ld=cl at *;generalize rG own b ss ts as=sh at *;generalize PyData.list (cs.map aK)=cg at *;have e:eS [some sh,some cg,some cl,none,none,none,none,none]=.err (.str e) [some sh,some cg,some cl,none,none,none,none,none]:=by
  unfold eS;rw[ğ (b:=false) (by rw[nF (pQ (uD (iI (cX rfl) hU i0) (E4 hp))),h];rfl),Â ⋯];have:pN (dR fF [.val (bD 0),.val (bD 1),.val (iW fE (bD 2) (dC (.int 1)))]) [some sh,some cg,some cl,none,none,none,none,none]=.err (.str e) [some sh,some cg,some cl,none,none,none,none,none]:=by
   unfold pN dR;simp![cG,bD,iW,dC,List.getElem?_cons_zero,List.getElem?_cons_succ,Res.bind,i1,dM,Option.map,eL,Ų,aU,bS]
  unfold dW;rw[this];rfl
 show aP 8 [] 0 eS [sh,cg,cl]=_;unfold aP;show (match eS [some sh,some cg,some cl,none,none,none,none,none]with|.ok (.ret d) δ=>_|.ok .next δ=>_|.ok _ _=>_|.err x δ=>_|.stuck=>_)=_;rw[e];rfl
theorem aIC:∀k:Str,(k="none"\/k="broken")->wZ (.str k) (.str "fill")=some (.bool true):=λk h=>by
 rcases h with rfl|rfl<;>with_unfolding_all rfl
end
abbrev stay(p:Str)(c:List Bx):List Bx:=c.filter (nP p)
theorem LS:bs.take (bs.findIdx λb=>b.p == p)++(vY bs p).filter (nP p)=stay p bs:=by
 have e:bs.take (bs.findIdx λb=>b.p == p)++vY bs p=bs:=List.take_append_drop _ _;have h:(bs.take (bs.findIdx λb=>b.p == p)).filter (nP p)=bs.take (bs.findIdx λb=>b.p == p):=by
  rw[List.filter_eq_self];intro b hb;let⟨i,hi,rfl⟩:=List.mem_iff_getElem.mp hb;rw[ï]at hi;have:=List.not_of_lt_findIdx (p:=λb:Bx=>b.p == p) (xs:=bs) (i:=i) ∅;rw[List.getElem_take];unfold nP;rw[Bool.not_eq_true'];simpa using this
 show _=bs.filter (nP p);rw[<- h,<- List.filter_append,e]
theorem LU(hk:k<cs.length)(g:cC cs m)(hm:m<=30):lH (ĉ (cs.getD k []) (k:Int) p) cs (cs.set k (stay p (cs.getD k []))):=by
 have ga:=g.at (k:=k);have g3:=g.mono hm;rw[<- LS];generalize hb:cs.getD k []=bs at *;have e:bs.take (bs.findIdx λb=>b.p == p)++vY bs p=bs:=List.take_append_drop _ _;have fl:=List.length_filter_le (nP p) (vY bs p);have le:=congrArg List.length e;rw[Ë]at le;have gk:∀b∈bs.take (bs.findIdx λb=>b.p == p),RD b:=λb hb=>ga.2 b (List.mem_of_mem_take hb);have gf:∀b∈(vY bs p).filter (nP p),RD b:=λb hb=>ga.2 b (OF (Ć.mp hb).1);generalize bs.take (bs.findIdx λb=>b.p == p)=keep at *;have r1:=OM (k:=k) (keep:=keep) (l:=(vY bs p).reverse) hk g3 (by rw[List.reverse_reverse,e,hb]);have r2:=XX (k:=k) (l:=(vY bs p).filter (nP p)) (cs:=cs.set k keep) (by rw[Ù];exact hk) (g3.set ∅ gk) (by rw[lI hk];lia) gf;rw[List.set_set,lI hk]at r2;exact r1.app r2
theorem cC.stay(g:cC cs m):cC (cs.map (stay p)) m:=λc hc=>by
 let⟨d,hd,rfl⟩:=Ö.mp hc;exact⟨Ø (List.length_filter_le _ _) (g d hd).1,λb hb=>(g d hd).2 b (Ć.mp hb).1⟩
theorem JH(g:cC cs m)(hm:m<=30):∀k,k<=cs.length->lH (XG cs p k) cs ((cs.take k).map (stay p)++cs.drop k)
 |0,_=>by simp[XG,lH]
 |k+1,hk=>by
  have r1:=JH (p:=p) g hm k (È hk);have lt:((cs.take k).map (stay p)).length=k:=by rw[Ä,ï];lia
  have hd:cs.drop k=cs[k]::cs.drop (k+1):=ò hk;have g1:cC ((cs.take k).map (stay p)++cs.drop k) m:=λc hc=>by
   rcases ö.mp hc with h|h
   .exact cC.stay (p:=p) (λc hc=>g c (List.mem_of_mem_take hc)) c h
   .exact g c (List.mem_of_mem_drop h)
  have e1:((cs.take k).map (stay p)++cs.drop k).getD k []=cs.getD k []:=by
   rw[Ê,Þ ∅,lt,ú,hd,Ê,É hk];rfl
  have r2:=LU (k:=k) (cs:=(cs.take k).map (stay p)++cs.drop k) (p:=p) (by rw[Ë,lt,ā];lia) g1 hm;rw[e1]at r2;have e2:((cs.take k).map (stay p)++cs.drop k).set k (stay p (cs.getD k []))=(cs.take (k+1)).map (stay p)++cs.drop (k+1):=by
   rw[List.set_append_right _ _ ∅,lt,ú,hd,List.set_cons_zero,List.take_succ_eq_append_getElem hk,Ú,List.append_assoc,Ê,É hk];rfl
  rw[e2]at r2;rw[zS];exact r1.app r2
def YQ:List Ld->List 'l'->List 'l'
 |[],cs=>cs
 |x::ld,cs=>YQ ld (cs.set x.2.toNat (cs.getD x.2.toNat []++[x.1]))
theorem ON:∀{ld:List Ld}{cs:List 'l'},(YQ ld cs).length=cs.length
 |[],_=>rfl
 |_::ld,cs=>by rw[YQ,ON,Ù]
def iC(cs:List 'l')(p:Str)(ld:List Ld):List 'l':=YQ ld (cs.map (stay p))
theorem B9:(iC cs p ld).length=cs.length:=by unfold iC;rw[ON,Ä]
theorem OO:∀{ld:List Ld}{cs:List 'l'}{m:Nat},cC cs m->m+ld.length<=30->(∀x∈ld,RD x.1/\0<=x.2/\x.2<(cs.length:Int))->lH (ld.map Ĳ) cs (YQ ld cs)/\cC (YQ ld cs) (m+ld.length)
 |[],cs,_,g,_,_=>⟨rfl,g⟩
 |x::ld,cs,m,g,hl,h=>by
  let⟨hb,h0,h1⟩:=h x Ó;rw[Õ]at hl;have hk:x.2.toNat<cs.length:=by lia
  have g':cC (cs.set x.2.toNat (cs.getD x.2.toNat []++[x.1])) (m+1):=(g.mono (Nat.le_succ m)).set (by rw[Ë,ì];have:=(g.at (k:=x.2.toNat)).1;lia) (jG g.at.2 hb)
  let⟨r,g2⟩:=OO (ld:=ld) g' ∅ λy hy=>by rw[Ù];exact h y (Ï _ hy)
  refine⟨⟨_,⟨x.2.toNat,hk,.inr ⟨"on",x.1.nm,x.1,ϭ,⋯,?_,rfl⟩⟩,g'.mono ∅,r⟩,g2.mono (by rw[Õ];lia)⟩;rw[show ((x.2.toNat:Nat):Int)=x.2 by lia];rfl
theorem CC(g:cC cs m)(ll:m+ld.length<=30)(h:∀x∈ld,RD x.1/\0<=x.2/\x.2<(cs.length:Int)):lH (vZ cs p ld) cs (iC cs p ld)/\cC (iC cs p ld) (m+ld.length):=by
 have r1:=JH (p:=p) g ∅ cs.length (Ç _);rw[List.take_length,List.drop_length,â]at r1;let⟨r2,g2⟩:=OO (ld:=ld) (cs:=cs.map (stay p)) g.stay ll λx hx=>by rw[Ä];exact h x hx
 exact⟨r1.app r2,g2⟩
theorem zY :∀{cs:List 'l'}{j:Nat}(h:j<cs.length),((cs.set j (cs[j]++[x])).flatten).Perm (cs.flatten++[x])
 |c::cs,0,_=>by
  show ((c++[x])++cs.flatten).Perm ((c++cs.flatten)++[x]);rw[List.append_assoc,List.append_assoc];exact List.perm_append_comm.append_left c
 |c::cs,j+1,h=>by
  show (c++(cs.set j (cs[j]'(Nat.lt_of_succ_lt_succ h)++[x])).flatten).Perm ((c++cs.flatten)++[x]);rw[List.append_assoc];exact(zY (Nat.lt_of_succ_lt_succ h)).append_left c
theorem JI:∀{ld:List Ld}{cs:List 'l'},(∀x∈ld,0<=x.2/\x.2<(cs.length:Int))->(YQ ld cs).flatten.Perm (cs.flatten++ld.map λx=>x.1)
 |[],cs,_=>by rw[List.map_nil,â];exact List.Perm.refl _
 |x::ld,cs,h=>by
  have hx:=h x Ó;have hk:x.2.toNat<cs.length:=by lia
  have e:cs.getD x.2.toNat []=cs[x.2.toNat]:=by rw[Ê,É hk];rfl
  have:=JI (ld:=ld) (cs:=cs.set x.2.toNat (cs.getD x.2.toNat []++[x.1])) λy hy=>by rw[Ù];exact h y (Ï _ hy)
  refine this.trans ?_;rw[e,Î,<- List.singleton_append (l:=ld.map λx=>x.1),<- List.append_assoc];exact(zY hk).append_right _
theorem XZ :∀{ld:List Ld}{cs:List 'l'},(∀x∈ld,0<=x.2/\x.2<(cs.length:Int))->(YQ ld cs).getD s []=cs.getD s []++(ld.filter λx=>decide (x.2=(s:Int))).map λx=>x.1
 |[],cs,_=>by simp[YQ]
 |x::ld,cs,h=>by
  have hx:=h x Ó;have hk:x.2.toNat<cs.length:=by lia
  rw[YQ,XZ λy hy=>by rw[Ù];exact h y (Ï _ hy)]
  by_cases c:x.2=(s:Int)
  .have e:x.2.toNat=s:=by lia
   rw[e]at hk⊢;rw[lI hk,List.filter_cons,Á (decide_eq_true c),Î,List.append_assoc];rfl
  .rw[aCO ∅,List.filter_cons,Â (by simpa using c)]
theorem E5:∀ps:ZG,KI (ps.map PyData.str)=some (ps.map V.str)
 |[]=>rfl
 |p::ps=>by
  have:=E5 ps;show (match JN (.str p),KI (ps.map PyData.str)with|some v,some vs=>some (v::vs)|_,_=>none)=_;rw[this];rfl
theorem aCP{ps:ZG}:ę false (.str p) (.list (ps.map PyData.str))=some (.bool (decide (p∈ps))):=by
 unfold ę;dsimp only;rw[E5];show some (PyData.bool (Ĕ (.str p) (ps.map V.str)))=_;unfold Ĕ;rw[List.any_map];congr 2;show (ps.any λx=>x == p)=_;rw[Bool.eq_iff_iff,decide_eq_true_eq,List.any_eq_true];exact⟨λ⟨x,h,e⟩=>beq_iff_eq.mp e▸h,λh=>⟨p,h,beq_self_eq_true p⟩⟩
def Ě(m:Nat)(zs:ZG)(x:Ld):Option Str:=if 0<=x.2/\x.2<(m:Int)then FC zs x.1 else some "NoStack"
theorem OP{rest:List Ld}:∀{pre:List Ld}{zs:ZG},B8 m zs pre=none->B8 m zs (pre++rest)=B8 m (zs++pre.map λx=>x.1.nm) rest
 |[],zs,_=>by rw[List.nil_append,List.map_nil,â]
 |x::pre,zs,h=>by
  rw[B8]at h;rw[List.cons_append,B8];split at h
  .rename_i c
   rw[Á c];cases e:FC zs x.1 with
   |some y=>rw[e]at h;cases h
   |none=>
    rw[e]at h;dsimp only at h⊢;rw[OP h,Î,List.append_assoc];rfl
  .cases h
theorem aID(h:Ě m zs x≠none):B8 m zs (x::post)=Ě m zs x:=by
 rw[B8];unfold Ě at h⊢;split
 .rename_i c
  rw[Á c]at h;cases e:FC zs x.1 with
  |none=>exact absurd e h
  |some y=>rfl
 .rfl
theorem X0{m:Nat}:∀{ld:List Ld}{zs:ZG},(zs++ld.map λx=>x.1.nm).Nodup->(∀x∈ld,(0<=x.2/\x.2<(m:Int))/\n8 x.1.nm=true/\1<=x.1.w/\n8 x.1.p=true/\n8 x.1.k=true/\0<=x.1.b)->B8 m zs ld=none
 |[],_,_,_=>rfl
 |x::ld,zs,nd,h=>by
  let⟨h1,h2,h3,h4,h5,h6⟩:=h x Ó;have ni:x.1.nm∉zs:=λhm=>(List.nodup_append.mp nd).2.2 _ hm _ 'e' rfl;have:FC zs x.1=none:=by
   unfold FC;rw[h2,h4,h5,Â ⋯,Â ni,Â ∅,Â ⋯,Â ⋯,Â ∅]
  rw[B8,Á h1,this];refine X0 (by rw[List.append_assoc];exact nd) λy hy=>h y (Ï _ hy)
section
theorem E6:RD (bx ns n):=by
 have t:=gN (ns:=ns) (k:=20+n) (m:=20) ⋯;exact⟨OD,OK ∅,(zX (m:=20) ∅ ∅ ⋯).2⟩
theorem X1:AZ (bx ns n):=⟨oW iK,oW iK,oW iK⟩
theorem aLI:0<=(bx ns n).b:=by
 have t:=iP (ns:=ns) (k:=21+n) (m:=90) ⋯;have a:=(zX (ns:=ns) (m:=90) t.1 ∅ ⋯).1;have s:=rF (ns:=ns);show 0<=İ ns n;unfold İ;split<;>lia
theorem X2(m0:0<=m)(m1:m<=10)(s0:1<=ss.length)(s1:ss.length<=50):∃r,u3 [iL ns,.tuple [a,b,.list ss,c,d],.int m]=.ok r []/\∃cs:List 'l',r=.list (cs.map aK)/\cs.length=ss.length/\cC cs 10/\cs.flatten.Perm ((List.range m.toNat).map λi:Nat=>bx ns (i:Int)):=by
 refine i7 ?_;show bO u2 [some (iL ns),some (.tuple [a,b,.list ss,c,d]),some (.int m),none,none] _ _ _ _;unfold u2;have hz:sizeLine=2^24:=rfl;dsimp? [];refine aV.of (cU (enc:=id) (xs:=ss) (g:=λ_=>.list []) (bW (by dsimp? [List.map_id])) ∅ λx _=>by dsimp? []) ?_;dsimp? [];refine v4 (j:=m) (δ1:=_) (λk δ=>∃(cs:List 'l')(o4:ZL),δ=[some (iL ns),some (.tuple [a,b,.list ss,c,d]),some (.int m),some 'c',o4]/\cs.length=ss.length/\cC cs k/\cs.flatten.Perm ((List.range k).map λi:Nat=>bx ns (i:Int))) (lE (by dsimp? [];rfl)) ∅ ∅ ⟨ss.map λ_=>[],none,?_,by simp,λc hc=>?_,?_⟩ ?_ ?_
 .simp[aK]
 .obtain⟨_,_,rfl⟩:=Ö.mp hc
  exact⟨by simp,λb hb=>by cases hb⟩
 .simp
 .rintro k δ hk ⟨cs,o4,rfl,lc,gc,pc⟩
  refine⟨_,rfl,?_⟩;have t1:=jY (ns:=ns) (k:=21+(k:Int)) (m:=(cs.length:Int)) ∅;have e1:=n5 (ns:=ns) (k:=21+(k:Int)) (m:=(cs.length:Int)) ∅ ∅ ∅;have e2:=LM (ns:=ns) (n:=(k:Int)) ∅ ∅;generalize th ns (21+(k:Int)) (cs.length:Int)=j at *;have hj:j.toNat<cs.length:=by lia
  have eh:JO [0,0,0,2,0] [some (iL ns),some (.tuple [a,b,.list ss,c,d]),some (.int m),some 'c',some (.int (k:Int))]=[some (iL ns),some (.tuple [a,b,.list ss,c,d]),some (.int m),none,some (.int (k:Int))]:=rfl;have ea:(cs.map aK)[j.toNat]?=some (.list ((cs[j.toNat]).map eC)):=by rw[Ñ,É hj];rfl
  have gj:=gc _ (Đ hj);dsimp? [KM,Ä,e1,KN (Ϫ (n:=(cs.map aK).length) (k:=j) t1.1 (by rw[Ä];exact t1.2)) ea,eh,e2,xL];refine⟨∅,?_⟩;refine⟨cs.set j.toNat (cs[j.toNat]++[bx ns (k:Int)]),some (.int (k:Int)),?_,by rw[Ù];exact lc,λc hc=>?_,?_⟩
  .simp[List.map_set,aK]
  .rcases List.mem_or_eq_of_mem_set hc with h|rfl
   .exact⟨by have:=(gc c h).1;lia,(gc c h).2⟩
   .exact⟨by rw[Ë,ì];lia,jG gj.2 E6⟩
  .rw[List.range_succ,Ú]
   exact(zY hj).trans (pc.append_right _)
 .rintro δ ⟨cs,o4,rfl,lc,gc,pc⟩
  dsimp? [];exact⟨cs,rfl,lc,gc.mono ∅,pc⟩
end
def p8(cs:List 'l')(lg mv:D):D:=.tuple [.str "done",.list (cs.map aK),lg,mv]
def JJ(n t:D):D:=.tuple [.str "refused",n,t]
section
theorem JK(S:ĳ own b ss ts as)(lc:cs.length=ss.length)(g:cC cs m)(gp:bH p)(h:n8 p=true)(nd:(bL cs.flatten).Nodup)(hl:cs.flatten.length<=300)(ll:m+ld.length<=30)(A:∀x∈ld,AZ x.1)(hb:∀x∈ld,RD x.1/\0<=x.2/\x.2<(cs.length:Int))(hc:B8 ss.length (bL cs.flatten) ld=none):∃r,hW [rG own b ss ts as,.list (cs.map aK),cF p ld]=.ok r []/\((∃lg mv,r=p8 (iC cs p ld) lg mv)\/∃n t,r=JJ n t):=by
 have hz:sizeLine=2^24:=rfl;have ls:=S.ls;have i0:fE (cF p ld) (.int 0)=some (.str p):=rfl;have i1:fE (cF p ld) (.int 1)=some (.list (ld.map p7)):=rfl;have eL:=JE (cs:=cs) (ld:=ld) (sh:=rG own b ss ts as) (st:=ss.map p6) rfl nd hl ∅ A;rw[Ä,hc]at eL;have eL:fF [rG own b ss ts as,.list (cs.map aK),.list (ld.map p7)]=.ok .none []:=eL;have gC:I9 cs 50:=λc hc=>⟨by have:=(g c hc).1;lia,λx hx=>((g c hc).2 x hx).1⟩
 have em:=JB (ld:=ld) gC gp ∅ ∅;have ev:=XI (ld:=ld) gC gp ∅ ∅;have lm:=zT (p:=p) (ld:=ld) gC ∅ ∅;have ei:=E4 (oW h);rw[h]at ei;have ec:=u7 (cs:=cs) ∅;have rn:=(CC (p:=p) g ll hb).1;have es:=λ(cs':List 'l')(l':cs'.length=ss.length)(g':cC cs' 30)=>AY (as:=as) S l' λc hc=>⟨(g' c hc).1,λx hx=>(g' c hc).2 x hx⟩;generalize iC cs p ld=csE at *;generalize cF p ld=cl at *;generalize rG own b ss ts as=sh at *;generalize vZ cs p ld=ms at *;refine i7 ?_;show bO eS [some sh,some 'c',some cl,none,none,none,none,none] _ _ _ _;unfold eS;dsimp? [i0,ei,Bool.not_true,Bool.false_eq_true,i1,eL,ec];refine dN (ds:=ms.map JA) (δ1:=_) (λk δ=>∃(cs':List 'l')(L:ZI)(o5 o6 o7:ZL),L.length<=k/\cs'.length=cs.length/\cC cs' 30/\lH (ms.drop k) cs' csE/\δ=[some sh,some 'c',some cl,some (.list (cs'.map aK)),some (.list L),o5,o6,o7]) (bW (by dsimp? [em])) ⟨cs,[],none,none,none,Ç _,rfl,g.mono ∅,by rw[List.drop_zero];exact rn,rfl⟩ ?_ ?_
 .rintro k d δ hk ⟨cs',L,o5,o6,o7,lL,l',g',r',rfl⟩
  have k1:k<ms.length:=by have:=(Ò.mp hk).1;rwa [Ä]at this
  rw[Ñ,É k1]at hk;cases hk;rw[ò k1]at r';let⟨cs2,s2,g2,r2⟩:=r';generalize ms[k]=m at *;let⟨e1,l2⟩:=XY s2 g' ∅;let⟨r,er,hr⟩:=es cs2 ∅ g2;refine⟨[some sh,some 'c',some cl,some (.list (cs'.map aK)),some (.list L),some (tR m.1),some m.2,o7],rfl,?_⟩;rcases hr with ⟨x,y,rfl⟩|⟨kd,x,hk,rfl⟩
  .have x0:fE (.tuple [.str "fill",x,y]) (.int 0)=some (.str "fill"):=rfl
   have x1:fE (.tuple [.str "fill",x,y]) (.int 1)=some x:=rfl;dsimp? [e1,er,x0,x1,aNK,Bool.false_eq_true];exact⟨∅,cs2,_,_,_,_,by rw[Ë,ì];lia,∅,g2,r2,rfl⟩
  .have x0:fE (.tuple [.str kd,x]) (.int 0)=some (.str kd):=rfl
   dsimp? [e1,er,x0,aIC kd hk];exact .inr ⟨_,_,rfl⟩
 .rintro δ ⟨cs',L,o5,o6,o7,lL,l',g',r',rfl⟩
  rw[Ä,List.drop_length]at r';cases r';dsimp? [ev];exact .inl ⟨_,_,rfl⟩
end
abbrev zZ:=Str×List Ld
abbrev cD(c:zZ):D:=cF c.1 c.2
def Vy(sh:D):List 'l'->List zZ->ZI->Option (List 'l')->Prop
 |cs,[],L,f=>L=[]/\f=some cs
 |cs,c::r,L,f=>(∃n t,hW [sh,.list (cs.map aK),cD c]=.ok (JJ n t) []/\L=[JJ n t]/\f=none)\/∃cs' lg mv L',hW [sh,.list (cs.map aK),cD c]=.ok (p8 cs' lg mv) []/\L=p8 cs' lg mv::L'/\Vy sh cs' r L' f
theorem Vy.len :∀{cl:List zZ}{cs:List 'l'}{L:ZI}{f:Option (List 'l')},Vy sh cs cl L f->L.length<=cl.length/\(∀cs',f=some cs'->L.length=cl.length)
 |[],cs,L,f,h=>by rw[h.1];exact⟨Ç _,λ_ _=>rfl⟩
 |c::r,cs,L,f,h=>by
  rcases h with ⟨n,t,_,rfl,rfl⟩|⟨cs',lg,mv,L',_,rfl,h⟩
  .exact⟨by simp,λ_ z=>by cases z⟩
  .have:=Vy.len h
   exact⟨by simp;exact this.1,λx hx=>by simp;exact this.2 x hx⟩
theorem Vy.last :∀{cl:List zZ}{cs:List 'l'}{L:ZI}{f:Option (List 'l')},Vy sh cs cl L f->cl≠[]->∃L' d,L=L'++[d]/\((∃cs',f=some cs')/\(∃c g m,d=p8 c g m)\/f=none/\∃n t,d=JJ n t)
 |[],_,_,_,_,hn=>absurd rfl hn
 |c::r,cs,L,f,h,_=>by
  rcases h with ⟨n,t,_,rfl,rfl⟩|⟨cs',lg,mv,L',_,rfl,h⟩
  .exact⟨[],_,rfl,.inr ⟨rfl,n,t,rfl⟩⟩
  .cases r with
   |nil=>
    let⟨rfl,rfl⟩:=h;exact⟨[],_,rfl,.inl ⟨⟨_,rfl⟩,_,_,_,rfl⟩⟩
   |cons c2 r=>
    let⟨L2,d,rfl,q⟩:=Vy.last h 'e';exact⟨_::L2,d,rfl,q⟩
theorem X3{s:Str}(h:s="refused"\/s="done"):PF (.str s) (.str "refused")=some (.bool (s == "refused")):=by
 rcases h with rfl|rfl<;>with_unfolding_all rfl
section
variable {sh:D}{cs:List 'l'}{cl:List zZ}{L:ZI}{f:Option (List 'l')}{rest:ZI}
theorem X4(V:Vy sh cs cl L f)(hr:∀c,f=some c->rest=[])(hl:cl.length<=10):eU [sh,.list (cs.map aK),.list (cl.map cD++rest)]=.ok (.list L) []:=by
 have hz:sizeLine=2^24:=rfl;refine aR (os:=[]) ?_;show bO tG [some sh,some 'c',some (.list (cl.map cD++rest)),none,none,none] _ _ _ _;unfold tG;dsimp? [];have r0:∀n t,fE (JJ n t) (.int 0)=some (.str "refused"):=λ_ _=>rfl;have d0:∀c g m,fE (p8 c g m) (.int 0)=some (.str "done"):=λ_ _ _=>rfl;have d1:∀c g m,fE (p8 c g m) (.int 1)=some (.list (c.map aK)):=λ_ _ _=>rfl;have q1:PF (.str "refused") (.str "refused")=some (.bool true):=X3 (.inl rfl);have q2:PF (.str "done") (.str "refused")=some (.bool false):=X3 (.inr rfl);refine dN (ds:=cl.map cD++rest) (δ1:=_) (λk δ=>∃(cs':List 'l')(T L':ZI)(o4 o5:ZL),Vy sh cs' (cl.drop k) L' f/\T++L'=L/\T.length<=cl.length/\δ=[some sh,some (.list (cs'.map aK)),some (.list (cl.map cD++rest)),some (.list T),o4,o5]) (c6 rfl) ⟨cs,[],L,none,none,V,rfl,é _,rfl⟩ ?_ ?_
 .rintro k d δ hk ⟨cs',T,L',o4,o5,V',e,lT,rfl⟩
  have V0:=Vy.len V;refine⟨_,rfl,?_⟩;by_cases k1:k<cl.length
  .rw[î (by rw[Ä];exact k1),Ñ,É k1]at hk
   cases hk;rw[ò k1]at V';generalize cl[k]=c at *;have tl:L.length=T.length+L'.length:=by rw[<- e,Ë]
   rcases V' with ⟨n,t,ec,rfl,rfl⟩|⟨cs2,lg,mv,L2,ec,rfl,V2⟩
   .dsimp? [ec,r0,q1]
    exact⟨∅,by rw[e]⟩
   .rw[Õ]at tl
    dsimp? [ec,d0,d1,q2,Bool.false_eq_true];exact⟨∅,cs2,_,L2,_,_,V2,by rw[List.append_assoc];exact e,by rw[Ë,ì];lia,rfl⟩
  .rw[List.drop_eq_nil_of_le ∅]at V'
   rw[hr _ V'.2,â,æ (by rw[Ä];lia)]at hk;cases hk
 .rintro δ ⟨cs',T,L',o4,o5,V',e,lT,rfl⟩
  rw[List.drop_eq_nil_of_le (by rw[Ë,Ä];lia)]at V';rw[V'.1,â]at e;dsimp? [e]
theorem aCQ{X:D}(V:Vy sh cs cl L (some csE))(hX:hW [sh,.list (csE.map aK),X]=.err (.str e) [])(hl:cl.length<=10):eU [sh,.list (cs.map aK),.list (cl.map cD++X::rest)]=.err (.str e) []:=by
 have hz:sizeLine=2^24:=rfl;unfold eU tG;refine ϰ (some e) ?_;show u8 _ [some sh,some 'c',some (.list (cl.map cD++X::rest)),none,none,none] _ _;refine zU (ō ?_);dsimp? [];have d0:∀c g m,fE (p8 c g m) (.int 0)=some (.str "done"):=λ_ _ _=>rfl;have d1:∀c g m,fE (p8 c g m) (.int 1)=some (.list (c.map aK)):=λ_ _ _=>rfl;have q2:PF (.str "done") (.str "refused")=some (.bool false):=X3 (.inr rfl);refine zU (ϯ (ds:=cl.map cD++X::rest) (λk δ=>k<=cl.length/\∃(cs':List 'l')(T L':ZI)(o4 o5:ZL),Vy sh cs' (cl.drop k) L' (some csE)/\T.length<=k/\δ=[some sh,some (.list (cs'.map aK)),some (.list (cl.map cD++X::rest)),some (.list T),o4,o5]) (aV.of (c6 rfl) ⟨rfl,é _,cs,[],L,none,none,V,é _,rfl⟩) ?_ ?_)
 .rintro k d δ hk ⟨hk0,cs',T,L',o4,o5,V',lT,rfl⟩
  refine⟨_,rfl,?_⟩;by_cases k1:k<cl.length
  .rw[î (by rw[Ä];exact k1),Ñ,É k1]at hk
   cases hk;rw[ò k1]at V';generalize cl[k]=c at *;rcases V' with ⟨n,t,ec,_,z⟩|⟨cs2,lg,mv,L2,ec,rfl,V2⟩
   .cases z
   .refine ō ?_
    dsimp? [ec,d0,d1,q2,Bool.false_eq_true];exact⟨∅,∅,cs2,_,L2,_,_,V2,by rw[Ë,ì];lia,rfl⟩
  .rw[List.drop_eq_nil_of_le ∅]at V'
   cases Option.some.inj V'.2;have:k=(cl.map cD).length:=by rw[Ä];lia
   subst this;rw[Þ (Ç _),ú]at hk;cases hk;show u8 _ [some sh,some (.list (csE.map aK)),some (.list (cl.map cD++X::rest)),some (.list T),some X,o5] _ _;refine zU ?_;unfold u8 fL dR;simp![cG,bD,List.getElem?_cons_zero,List.getElem?_cons_succ,Res.bind,dM,Option.map,hX]
 .rintro δ ⟨hk0,_⟩
  rw[Ë,Ä,Õ]at hk0;lia
end
end Toy
namespace L2
open PySem PySem.Spec
theorem aLJ(h:aV (aY [f,g]) δ λds δ1=>ds=[.int a,.int b]/\δ1=δ)(h1:-1000<=a)(h2:a<=1000)(h3:-1000<=b)(h4:b<=1000):qI [f,g] δ=.ok (jI a (b-a).toNat) δ:=by
 let⟨ds,δ1,e,rfl,rfl⟩:=h.ex;unfold qI;rw[e,aW];simp![kJ];rw[Á ∅]
end L2
namespace Toy
open PySem L2
section
def FD(ns:ZK)(f c:Int)(n:Nat):List Ld:=(List.range n).map λi:Nat=>(bx ns (f+(i:Int)),ot ns (30+(f+(i:Int))) c)
theorem OQ:(FD ns f c n).length=n:=by unfold FD;rw[Ä,List.length_range]
theorem X5:FD ns f c (n+1)=FD ns f c n++[(bx ns (f+(n:Int)),ot ns (30+(f+(n:Int))) c)]:=by
 unfold FD;rw[List.range_succ,Ú];rfl
theorem aCR(hc:0<c)(h:x∈FD ns f c n):AZ x.1/\RD x.1/\(0<=x.2/\x.2<c)/\n8 x.1.nm=true/\1<=x.1.w/\n8 x.1.p=true/\n8 x.1.k=true/\0<=x.1.b:=by
 unfold FD at h;let⟨i,_,rfl⟩:=Ö.mp h;exact⟨X1,E6,iP hc,iK,E6.2.1,iK,iK,aLI⟩
theorem OS{a b c d:D}(f0:0<=f)(f1:f<=40)(t0:0<=t)(t1:t<=10)(s0:1<=ss.length):tH [iL ns,.tuple [a,b,.list ss,c,d],.int f,.int t]=.ok (cF (nm ns 17 (th ns (40+t) 4)) (FD ns f (ss.length:Int) (dr ns (40+t) 4).toNat)) []:=by
 have hz:sizeLine=2^24:=rfl;have l1:=gN (ns:=ns) (k:=40+t) (m:=4) ⋯;have l2:=jY (ns:=ns) (k:=40+t) (m:=4) ⋯;have e1:=lF (ns:=ns) (k:=40+t) (m:=4) ∅ ∅ ⋯;have e2:=n5 (ns:=ns) (k:=40+t) (m:=4) ∅ ∅ ⋯;have e3:=j0 (ns:=ns) (k:=17) (n:=th ns (40+t) 4) ⋯ ⋯ ∅ ∅;refine aR (os:=[]) ?_;show bO zE [some (iL ns),some (.tuple [a,b,.list ss,c,d]),some (.int f),some (.int t),none,none] _ _ _ _;unfold zE;dsimp? [];have eN:(f+dr ns (40+t) 4-f).toNat=(dr ns (40+t) 4).toNat:=by lia
 refine dN (ds:=jI f (f+dr ns (40+t) 4-f).toNat) (δ1:=_) (λk δ=>∃o5,δ=[some (iL ns),some (.tuple [a,b,.list ss,c,d]),some (.int f),some (.int t),some (.list ((FD ns f (ss.length:Int) k).map p7)),o5]) (aLJ (by dsimp? [e1]) ∅ ∅ ∅ ∅) ⟨none,rfl⟩ ?_ ?_
 .rintro k d' δ hk ⟨o5,rfl⟩
  let⟨hk,rfl⟩:=GL hk;refine⟨_,rfl,?_⟩;refine kE λK _ _ _ hK _=>?_;have e5:=LM (ns:=ns) (n:=f+(k:Int)) ∅ ∅;have e6:=jZ (ns:=ns) (k:=30+(f+(k:Int))) (m:=(ss.length:Int)) ∅ ∅ ∅;dsimp? [e5,e6,Ä,xL];rw[X5,Ú]at hK;rw[OQ];exact⟨∅,hK _ ⟨_,rfl⟩⟩
 .rintro δ ⟨o5,rfl⟩
  rw[fW,eN];dsimp? [e2,e3,cF]
theorem X6{ps:ZG}:ę true (.str p) (.list (ps.map PyData.str))=some (.bool (!decide (p∈ps))):=by
 have:=aCP (p:=p) (ps:=ps);unfold ę at this⊢;dsimp only at this⊢;rw[E5]at this⊢;have:=PyData.bool.inj (Option.some.inj this);exact congrArg (λb=>some (PyData.bool (!b))) this
end
section
theorem X7(lc:cs.length<=8)(g:cC cs m)(hm:m<=50):iU [.list (cs.map aK)]=.ok (.list ((bL cs.flatten).map PyData.str)) []:=by
 have hz:sizeLine=2^24:=rfl;refine aR (os:=[]) ?_;show bO mO [some 'c',none,none] _ _ _ _;unfold mO;dsimp? [];refine dN (ds:=cs.map aK) (δ1:=_) (λk δ=>∃o2,((cs.take k).flatten).length<=50*k/\δ=[some 'c',some (.list ((bL (cs.take k).flatten).map PyData.str)),o2]) (c6 rfl) ⟨none,Ç _,rfl⟩ ?_ ?_
 .rintro k d δ hk ⟨o2,l,rfl⟩
  have k1:k<cs.length:=by have:=(Ò.mp hk).1;rwa [Ä]at this
  rw[Ñ,É k1]at hk;cases hk;refine⟨_,rfl,?_⟩;have gk:=(g _ (Đ k1)).1;have ek:(cs.take (k+1)).flatten=(cs.take k).flatten++cs[k]:=by
   rw[List.take_succ_eq_append_getElem k1,List.flatten_append];simp
  rw[ek];generalize cs[k]=bs at *;generalize (cs.take k).flatten=P at *;refine kE λK _ _ _ hK _=>?_;dsimp? [];refine aV.of (cU (enc:=eC) (xs:=bs) (g:=λb=>.str b.nm) (bW (by dsimp? [aK])) ∅ λx _=>by dsimp? [eC,BK]) ?_;dsimp? [qJ];rw[Ä,Ä,Ä];rw[Ë]at hK;refine⟨∅,hK _ ⟨some (aK bs),∅,?_⟩⟩;have:(bL (P++bs)).map PyData.str=(bL P).map PyData.str++bs.map λb=>.str b.nm:=by
   rw[show bL (P++bs)=bL P++bL bs from Ú,Ú,å (l:=bs)];rfl
  rw[this]
 .rintro δ ⟨o2,l,rfl⟩
  rw[Ä,List.take_length];dsimp? [xK]
theorem aCS(lc:cs.length<=8)(g:cC cs m)(hm:m<=50)(gp:bH p)(ll:ld.length<=50)(hb:∀x∈ld,0<=x.2/\x.2<(cs.length:Int)):IE [.list (cs.map aK),cF p ld]=.ok (.list ((iC cs p ld).map aK)) []:=by
 have hz:sizeLine=2^24:=rfl;have i0:fE (cF p ld) (.int 0)=some (.str p):=rfl;have i1:fE (cF p ld) (.int 1)=some (.list (ld.map p7)):=rfl;have lL:=B9 (cs:=cs) (p:=p) (ld:=ld);have at':∀s,(iC cs p ld).getD s []=stay p (cs.getD s [])++(ld.filter λx=>decide (x.2=(s:Int))).map λx=>x.1:=λs=>by
  unfold iC;rw[XZ (by rw[Ä];exact hb)];congr 1;rw[Ê,Ñ,Ê];cases cs[s]?<;>rfl
 generalize cF p ld=cl at *;generalize iC cs p ld=R at *;refine aR (os:=[]) ?_;show bO zF [some 'c',some cl,none,none,none] _ _ _ _;unfold zF;dsimp? [];refine UG (j:=cs.length) (δ1:=_) (λk δ=>∃o3 o4,δ=[some 'c',some cl,some (.list ((R.take k).map aK)),o3,o4]) (lE (by dsimp? [Ä];rfl)) ∅ ⟨none,none,by rw[List.take_zero];rfl⟩ ?_ ?_
 .rintro k δ hk ⟨o3,o4,rfl⟩
  refine⟨_,rfl,?_⟩;have hR:k<R.length:=by lia
  have eR:R.take (k+1)=R.take k++[stay p (cs.getD k [])++(ld.filter λx=>decide (x.2=(k:Int))).map λx=>x.1]:=by
   rw[List.take_succ_eq_append_getElem hR,<- at',Ê,É hR];rfl
  have gk:=g _ (cM (d:=[]) hk);have ec:atI (cs.map aK) (k:Int)=some (aK (cs.getD k [])):=CT rfl (by rw[Ñ,fI (d:=[]) hk];rfl);rw[eR,Ú];have lT:((R.take k).map aK).length<=8:=by rw[Ä,ï];lia
  generalize (R.take k).map aK=T at *;generalize cs.getD k []=bs at *;have f1:=List.length_filter_le (λx:Ld=>decide (x.2=(k:Int))) ld;have f2:=List.length_filter_le (nP p) bs;have eB:aK (stay p bs++(ld.filter λx=>decide (x.2=(k:Int))).map λx=>x.1)=.list ((bs.filter (nP p)).map eC++(ld.filter λx=>decide (x.2=(k:Int))).map λx=>eC x.1):=by
   unfold aK;rw[Ú,å];rfl
  rw[Î,List.map_nil,eB];refine kE λK _ _ _ hK _=>?_;dsimp? [];refine aV.of (oV (enc:=p7) (xs:=ld) (h:=λx=>decide (x.2=(k:Int))) (g:=λx=>eC x.1) (bW (by dsimp? [i1])) ∅ (λx _=>by dsimp? [p7,xG,AK]) λx _=>by dsimp? [p7,BK]) ?_;dsimp? [];refine aV.of (oV (enc:=eC) (xs:=bs) (h:=nP p) (g:=eC) (bW (by dsimp? [ec,aK])) ∅ (λx hx=>by dsimp? [eC,xH,i0,ϫ (gk.2 x hx).1.p gp,nP]) λx _=>by dsimp? []) ?_;dsimp? [sG,xL];rw[Ä,Ä];exact⟨∅,∅,hK _ ⟨_,_,rfl⟩⟩
 .rintro δ ⟨o3,o4,rfl⟩
  dsimp? [];rw[<- lL,List.take_length]
end
structure Ĵ(n:Nat)(z0:Str)(cs:List 'l')(c:zZ):Prop where
 gp:bH c.1
 op:n8 c.1=true
 len:c.2.length<=3
 ld:∀x∈c.2,AZ x.1/\RD x.1/\(0<=x.2/\x.2<(n:Int))/\x.1.nm≠z0
 ch:B8 n (bL cs.flatten) c.2=none
def LV(n:Nat)(z0:Str):List 'l'->List zZ->Prop
 |_,[]=>True
 |cs,c::r=>Ĵ n z0 cs c/\LV n z0 (iC cs c.1 c.2) r
def leftA:List 'l'->List zZ->List 'l'
 |cs,[]=>cs
 |cs,c::r=>leftA (iC cs c.1 c.2) r
structure RE(n:Nat)(z0:Str)(m:Nat)(cs:List 'l'):Prop where
 len:cs.length=n
 g:cC cs m
 nd:(bL cs.flatten).Nodup
 z:z0∉bL cs.flatten
section
variable {cs:List 'l'}{c:zZ}
theorem CD:∀{a r:List zZ}{cs:List 'l'},leftA cs (a++r)=leftA (leftA cs a) r
 |[],_,_=>rfl
 |_::a,_,_=>CD (a:=a)
theorem LV.app:∀{a r:List zZ}{cs:List 'l'},LV n z0 cs (a++r)↔LV n z0 cs a/\LV n z0 (leftA cs a) r
 |[],_,_=>⟨λh=>⟨trivial,h⟩,λh=>h.2⟩
 |c::a,r,cs=>by
  have:=LV.app (n:=n) (z0:=z0) (a:=a) (r:=r) (cs:=iC cs c.1 c.2);exact⟨λh=>⟨⟨h.1,(this.mp h.2).1⟩,(this.mp h.2).2⟩,λh=>⟨h.1.1,this.mpr ⟨h.1.2,h.2⟩⟩⟩
theorem JL(h:cC cs m):cs.flatten.length<=m*cs.length:=by
 induction cs with
 |nil=>exact é _
 |cons c cs ih=>
  have:=ih λx hx=>h x (Ï _ hx);have:=(h c Ó).1;rw[List.flatten_cons,Ë,Õ,Nat.mul_succ];lia
theorem X8 :∀{ld:List Ld}{zs:ZG},B8 k zs ld=none->zs.Nodup->(zs++ld.map λx=>x.1.nm).Nodup
 |[],zs,_,h=>by rw[List.map_nil,â];exact h
 |x::ld,zs,hc,h=>by
  rw[B8]at hc;split at hc
  .cases e:FC zs x.1 with
   |some y=>rw[e]at hc;cases hc
   |none=>
    rw[e]at hc;have ni:=OL e;have:=X8 hc (by
     rw[List.nodup_append];exact⟨h,by simp,λa ha b hb e=>ni (by rw[ó.mp hb]at e;rw[<- e];exact ha)⟩)
    rw[List.append_assoc]at this;exact this
  .cases hc
theorem CF(hb:∀x∈c.2,0<=x.2/\x.2<(cs.length:Int)):(bL (iC cs c.1 c.2).flatten).Perm (bL (cs.map (stay c.1)).flatten++c.2.map λx=>x.1.nm):=by
 have:=(JI (cs:=cs.map (stay c.1)) (ld:=c.2) (by rw[Ä];exact hb)).map λb:Bx=>b.nm;rw[Ú,å]at this;exact this
theorem tU:∀{cs:List 'l'}{p:Str},(bL (cs.map (stay p)).flatten).Sublist (bL cs.flatten)
 |[],_=>.slnil
 |c::cs,p=>by
  rw[Î,List.flatten_cons,List.flatten_cons];show ((stay p c++_).map _).Sublist ((c++_).map _);rw[Ú,Ú];exact(List.filter_sublist.map _).append tU
theorem RE.left(G:RE n z0 m cs)(C:Ĵ n z0 cs c)(hm:m+3<=30):RE n z0 (m+3) (iC cs c.1 c.2):=by
 have hb:∀x∈c.2,0<=x.2/\x.2<(cs.length:Int):=λx hx=>by rw[G.len];exact(C.ld x hx).2.2.1
 have pm:=CF hb;have lc:=C.len;refine⟨by rw[B9];exact G.len,(CC (p:=c.1) G.g ∅ λx hx=>⟨(C.ld x hx).2.1,hb x hx⟩).2.mono ∅,?_,?_⟩
 .exact pm.nodup_iff.mpr ((tU.append_right _).nodup (X8 C.ch G.nd))
 .intro h
  rcases ö.mp (pm.mem_iff.mp h)with h|h
  .exact G.z (tU.subset h)
  .obtain⟨x,hx,e⟩:=Ö.mp h
   exact(C.ld x hx).2.2.2 e
theorem RE.leftA:∀{cl:List zZ}{m:Nat}{cs:List 'l'},RE n z0 m cs->LV n z0 cs cl->m+3*cl.length<=30->RE n z0 (m+3*cl.length) (leftA cs cl)
 |[],_,_,G,_,_=>G
 |c::r,m,cs,G,V,hm=>by
  rw[Õ]at hm⊢;have:=RE.leftA (G.left V.1 ∅) V.2 ∅
  rwa [show m+3+3*r.length=m+3*(r.length+1) by lia]at this
theorem OT(S:ĳ own b ss ts as):∀{cl:List zZ}{m:Nat}{cs:List 'l'},RE ss.length z0 m cs->LV ss.length z0 cs cl->m+3*cl.length<=30->∃L f,Vy (rG own b ss ts as) cs cl L f/\∀cs',f=some cs'->cs'=leftA cs cl
 |[],_,cs,_,_,_=>⟨[],some cs,⟨rfl,rfl⟩,λ_ h=>(Option.some.inj h).symm⟩
 |c::r,m,cs,G,V,hm=>by
  rw[Õ]at hm;have C:=V.1;have lc:=C.len;have ls:=S.ls;have fl:=JL G.g;have:m*cs.length<=30*4:=Nat.mul_le_mul ∅ (by rw[G.len];lia);obtain⟨o,eo,⟨lg,mv,rfl⟩|⟨n,t,rfl⟩⟩:=JK S G.len G.g C.gp C.op G.nd ∅ ∅ (λx hx=>(C.ld x hx).1) (λx hx=>⟨(C.ld x hx).2.1,by rw[G.len];exact(C.ld x hx).2.2.1⟩) C.ch
  .obtain⟨L,f,W,h⟩:=OT S (G.left C ∅) V.2 ∅
   exact⟨_,f,.inr ⟨_,lg,mv,L,eo,rfl,W⟩,h⟩
  .exact⟨_,none,.inl ⟨n,t,eo,rfl,rfl⟩,λ_ h=>by cases h⟩
end
section
variable {ns:ZK}{a k:Nat}{zs:ZG}{z:Str}
def Nb(ns:ZK)(J:Nat)(z:Str):Prop:=∃j:Nat,j<J/\z=nm ns 16 (j:Int)
theorem Nb.mono(h:Nb ns J z)(e:J<=a):Nb ns a z:=h.elim λj hj=>⟨j,Ô hj.1 e,hj.2⟩
theorem X9(nd:zs.Nodup)(hz:∀z∈zs,Nb ns a z)(hk:a+k<=26):(zs++(List.range k).map λi:Nat=>nm ns 16 ((a:Int)+(i:Int))).Nodup:=by
 refine List.nodup_append.mpr ⟨nd,List.pairwise_map.mpr (List.Pairwise.imp_of_mem (λ{x y}hx hy hxy e=>hxy ?_) List.nodup_range),λx hx y hy e=>?_⟩
 .obtain⟨j,hj,rfl⟩:=hz x hx
  let⟨i,hi,rfl⟩:=Ö.mp hy;have:=List.mem_range.mp hi;have:=zW ∅ ∅ ∅ ∅ e;lia
 .have:=List.mem_range.mp hx
  have:=List.mem_range.mp hy;have:=zW ∅ ∅ ∅ ∅ e;lia
theorem E7:(FD ns f c N).map (λx=>x.1.nm)=(List.range N).map λi:Nat=>nm ns 16 (f+(i:Int)):=by
 unfold FD;rw[å];rfl
structure YA(ns:ZK)(n J N:Nat)(cs:List 'l')(ld:List Ld):Prop where
 len:ld.length=N
 al:∀x∈ld,AZ x.1/\RD x.1/\(0<=x.2/\x.2<(n:Int))/\n8 x.1.nm=true/\1<=x.1.w/\n8 x.1.p=true/\n8 x.1.k=true/\0<=x.1.b
 nb:∀x∈ld,Nb ns (J+N) x.1.nm
 nd:(bL cs.flatten++ld.map λx=>x.1.nm).Nodup
theorem YA.cok(L:YA ns n J N cs ld)(hN:N<=3)(hJ:J+N<=25):Ĵ n (nm ns 16 25) cs (nm ns 17 t,ld):=
 ⟨hG,iK,by rw[L.len];exact hN,λx hx=>⟨(L.al x hx).1,(L.al x hx).2.1,(L.al x hx).2.2.1,λe=>by
  let⟨j,hj,e2⟩:=L.nb x hx;have:=zW (ns:=ns) (k:=16) (n:=(j:Int)) (m:=25) ∅ ∅ ∅ ∅ (by rw[<- e2,e]);lia⟩,X0 L.nd λx hx=>(L.al x hx).2.2⟩
theorem YA.plain(hn:0<n)(nd:(bL cs.flatten).Nodup)(hz:∀z∈bL cs.flatten,Nb ns J z)(hJ:J+N<=26):YA ns n J N cs (FD ns (J:Int) (n:Int) N):=
 ⟨OQ,λx hx=>aCR ∅ hx,λx hx=>by
  have:x.1.nm∈(FD ns (J:Int) (n:Int) N).map λx=>x.1.nm:=List.mem_map_of_mem hx;rw[E7]at this;let⟨i,hi,e⟩:=Ö.mp this;exact⟨J+i,by have:=List.mem_range.mp hi;lia,by rw[<- e];congr 1⟩,by rw[E7];exact X9 nd hz hJ⟩
theorem YA.named(L:YA ns n J N cs ld)(e:ld=x::r)(hz:Nb ns J z)(nz:z∉bL cs.flatten)(hr:∀y∈r,y.1.nm≠z):YA ns n J N cs ((⟨z,x.1.w,x.1.p,x.1.k,x.1.b⟩,x.2)::r):=by
 subst e;have hx:=L.al x Ó;let⟨j,hj,rfl⟩:=hz;refine⟨L.len,λy hy=>?_,λy hy=>?_,?_⟩
 .rcases Í.mp hy with rfl|h
  .exact⟨⟨oW iK,hx.1.p,hx.1.k⟩,⟨⟨hG,hx.2.1.1.p,hx.2.1.1.k⟩,hx.2.1.2⟩,hx.2.2.1,iK,hx.2.2.2.2⟩
  .exact L.al y (Ï _ h)
 .rcases Í.mp hy with rfl|h
  .exact⟨j,∅,rfl⟩
  .exact L.nb y (Ï _ h)
 .have nd:=L.nd
  rw[Î,List.nodup_append,List.nodup_cons]at nd⊢;refine⟨nd.1,⟨λh=>?_,nd.2.1.2⟩,λa ha b hb e=>?_⟩
  .obtain⟨y,hy,e⟩:=Ö.mp h
   exact hr y hy e
  .rcases Í.mp hb with rfl|h
   .have e:a=nm ns 16 (j:Int):=e
    exact nz (e▸ha)
   .exact nd.2.2 a ha b (Ï _ h) e
end
theorem aCT{f:M D}{δ δ1:DS}{zs:ZG}(h:f δ=.ok (.list (zs.map PyData.str)) δ1):HD f δ=.ok (.list (zs.map PyData.str)) δ:=by
 unfold HD;rw[h];dsimp only;rw[Á (by rw[List.all_map,è];exact λ_ _=>rfl)]
theorem aO3{zs:ZG}(h0:0<=i)(h1:i<(zs.length:Int)):∃z,z∈zs/\atI (zs.map PyData.str) i=some (.str z):=by
 have:i.toNat<zs.length:=by lia
 exact⟨zs[i.toNat],Đ _,CT (j:=i.toNat) ∅ (by rw[Ñ,É this];rfl)⟩
section
theorem YB(L:YA ns n J N cs ld)(lc:cs.length=n)(hz:∀z∈bL cs.flatten,Nb ns J z):∀z∈bL (iC cs p ld).flatten,Nb ns (J+N) z:=λz h=>by
 have pm:=CF (cs:=cs) (c:=(p,ld)) λx hx=>by rw[lc];exact(L.al x hx).2.2.1
 rcases ö.mp (pm.mem_iff.mp h)with h|h
 .exact(hz z (tU.subset h)).mono (Nat.le_add_right _ _)
 .obtain⟨x,hx,rfl⟩:=Ö.mp h
  exact L.nb x hx
theorem YC{M:Nat}(hM:M<=5)(s0:1<=ss.length)(s1:ss.length<=4)(G:RE ss.length (nm ns 16 25) 10 cs)(hz:∀z∈bL cs.flatten,Nb ns M z)(hl:cs.flatten.length=M):∃r,u5 [iL ns,.tuple [a,b,.list ss,c,d],.list (cs.map aK),.int (M:Int)]=.ok r []/\∃cl:List zZ,r=.list (cl.map cD)/\cl.length<=3/\LV ss.length (nm ns 16 25) cs cl:=by
 have hsz:sizeLine=2^24:=rfl;have e0:=λf t(h:0<=f)(h1:f<=40)(h2:0<=t)(h3:t<=10)=>OS (ns:=ns) (f:=f) (t:=t) (a:=a) (b:=b) (c:=c) (d:=d) h h1 h2 h3 s0;generalize hsh:PyData.tuple [a,b,.list ss,c,d]=sh at *;generalize hn:ss.length=n at *;refine i7 ?_;show bO u4 [some (iL ns),some sh,some 'c',some (.int (M:Int)),none,none,none,none,none,none,none,none,none] _ _ _ _;unfold u4;have lO:=iP (ns:=ns) (k:=19) (m:=4) ⋯;have eO:=jZ (ns:=ns) (k:=19) (m:=4) ⋯ ⋯ ⋯;have en:=X7 (cs:=cs) (by have:=G.len;lia) G.g ⋯;dsimp? [en];refine v4 (j:=ot ns 19 4) (δ1:=_) (λt δ=>∃(cl:List zZ)(kn:ZG)(J:Nat)(o7 o8 o9 o10 o11 o12:ZL),cl.length=t/\J<=5+3*t/\kn.length<=5+3*t/\(∀z∈kn,Nb ns J z)/\(∀z∈bL (leftA cs cl).flatten,Nb ns J z)/\LV n (nm ns 16 25) cs cl/\δ=[some (iL ns),some sh,some 'c',some (.int (J:Int)),some (.list (cl.map cD)),some (.list (kn.map PyData.str)),some (.list ((leftA cs cl).map aK)),o7,o8,o9,o10,o11,o12]) (lE (by dsimp? [eO];rfl)) ∅ ∅ ⟨[],bL cs.flatten,M,none,none,none,none,none,none,rfl,hM,by rw[Ä];lia,hz,hz,trivial,rfl⟩ ?_ ?_
 .rintro t δ ht ⟨cl,kn,J,o7,o8,o9,o10,o11,o12,lt,hJ,lk,hk,hh,V,rfl⟩
  refine⟨_,rfl,?_⟩;have G':=G.leftA V ∅;have en':=X7 (cs:=leftA cs cl) (by have:=G'.len;lia) G'.g ∅;have lD:=gN (ns:=ns) (k:=40+(t:Int)) (m:=4) ⋯;obtain⟨N,hN⟩:∃N:Nat,(dr ns (40+(t:Int)) 4).toNat=N:=⟨_,rfl⟩;have ec:=e0 (J:Int) (t:Int) ∅ ∅ ∅ ∅;rw[hN]at ec;have L0:=YA.plain (ns:=ns) (n:=n) (J:=J) (N:=N) (cs:=leftA cs cl) ∅ G'.nd hh ∅;have hD:∀y∈FD ns (J:Int) (n:Int) N,∀z,Nb ns J z->y.1.nm≠z:=λy hy z hz e=>by
   let⟨j,hj,rfl⟩:=hz;have:y.1.nm∈(FD ns (J:Int) (n:Int) N).map λx=>x.1.nm:=List.mem_map_of_mem hy;rw[E7]at this;let⟨i,hi,e2⟩:=Ö.mp this;have:=List.mem_range.mp hi;have:=zW (ns:=ns) (k:=16) (n:=(J:Int)+(i:Int)) (m:=(j:Int)) ∅ ∅ ∅ ∅ (by rw[e2,e]);lia
  have gl:=G'.len;have gm:=G'.g;have gn:=G'.nd;generalize hp:nm ns 17 (th ns (40+(t:Int)) 4)=p at *;generalize hh':leftA cs cl=here at *;generalize FD ns (J:Int) (n:Int) N=ld at *;refine kE λK _ _ _ hK _=>?_;rw[L2.seq_assoc,L2.seq_assoc,L2.seq_assoc];refine nZ (λδ=>∃(ld:List Ld)(o9 o10 o11 o12:ZL),YA ns n J N here ld/\δ=[some (iL ns),some sh,some 'c',some (.int ((J+N:Nat):Int)),some (.list (cl.map cD)),some (.list (kn.map PyData.str)),some (.list (here.map aK)),some (.int (t:Int)),some (cF p ld),o9,o10,o11,o12]) ?_ ?_
  .refine kE λK _ _ _ hK _=>?_
   have i1:fE (cF p ld) (.int 1)=some (.list (ld.map p7)):=rfl;have i0:fE (cF p ld) (.int 0)=some (.str p):=rfl;have hcl:cF p ld=.tuple [.str p,.list (ld.map p7)]:=rfl;have ll:=L0.len;dsimp? [ec,i1,Ä,ll];have cf:=oV (enc:=PyData.str) (xs:=kn) (h:=λz=>!decide (z∈bL here.flatten)) (g:=PyData.str) (f:=j5 (bD 5)) (t:=dB (iW (ę true) (bD 0) (dR iU [.val (bD 7)]))) (e:=bD 0) (δ:=[some (iL ns),some sh,some 'c',some (.int ((J:Int)+(N:Int))),some (.list (cl.map cD)),some (.list (kn.map PyData.str)),some (.list (here.map aK)),some (.int (t:Int)),some (cF p ld),o9,o10,o11,o12]) (c6 rfl) ∅ (λz hz=>by dsimp? [en',X6]) λz _=>by dsimp? []
   refine aV.of (aCT cf) ?_;have hfr:∀z∈kn.filter λz=>!decide (z∈bL here.flatten),Nb ns J z/\z∉bL here.flatten:=λz hz=>by
    have:=Ć.mp hz;exact⟨hk z this.1,by simpa using this.2⟩
   have lf:=List.length_filter_le (λz=>!decide (z∈bL here.flatten)) kn;generalize kn.filter (λz=>!decide (z∈bL here.flatten))=fr at *;have l44:=iP (ns:=ns) (k:=44+(t:Int)) (m:=(fr.length:Int));have e44:=jZ (ns:=ns) (k:=44+(t:Int)) (m:=(fr.length:Int)) ∅ ∅;have e45:=lF (ns:=ns) (k:=44+(t:Int)) (m:=2) ∅ ∅ ⋯;dsimp? [Ä,i1,ll,e45,AK,decide_eq_true_eq];split
   .rename_i h1
    split
    .rename_i h2
     split
     .rename_i h3
      have h1:0<(fr.length:Int):=h1;let⟨z,hz,ez⟩:=aO3 (l44 h1).1 (l44 h1).2;have e44:=e44 h1;cases ld with
      |nil=>rw[<- ll]at h2;exact absurd h2 ⋯
      |cons x r=>
       rw[Õ]at ll;have L1:=L0.named rfl (hfr z hz).1 (hfr z hz).2 λy hy=>hD y (Ï _ hy) z (hfr z hz).1;have x2:fE (p7 x) (.int 0)=some (eC x.1):=rfl;have x3:fE (p7 x) (.int 1)=some (.int x.2):=rfl;have y1:fE (eC x.1) (.int 1)=some (.int x.1.w):=rfl;have y2:fE (eC x.1) (.int 2)=some (.str x.1.p):=rfl;have y3:fE (eC x.1) (.int 3)=some (.str x.1.k):=rfl;have y4:fE (eC x.1) (.int 4)=some (.int x.1.b):=rfl;have cu:uC (.list ((x::r).map p7)) (some 1) none=some (.list (r.map p7)):=kR (k:=1) 'e';have x1:atI ((x::r).map p7) 0=some (p7 x):=BK;dsimp? [i0,i1,x1,x2,x3,y1,y2,y3,y4,e44,ez,GO,l8,l9,sH,cu,sG,Ä,Õ,ý,DZ];exact⟨∅,hK _ ⟨_,_,_,_,_,L1,rfl⟩⟩
     .exact hK _ ⟨ld,_,_,_,_,L0,rfl⟩
    .exact hK _ ⟨ld,_,_,_,_,L0,rfl⟩
   .exact hK _ ⟨ld,_,_,_,_,L0,rfl⟩
  .rintro _ ⟨ld,o9,o10,o11,o12,L,rfl⟩
   have i1:fE (cF p ld) (.int 1)=some (.list (ld.map p7)):=rfl;have ll:=L.len;have gp:bH p:=by rw[<- hp];exact hG
   have el:=aCS (cs:=here) (p:=p) (ld:=ld) ∅ gm ∅ gp ∅ λx hx=>by rw[gl];exact(L.al x hx).2.2.1
   dsimp? [];refine aV.of (cU (enc:=p7) (xs:=ld) (g:=λx=>.str x.1.nm) (bW (by dsimp? [i1])) ∅ λx _=>by dsimp? [p7,eC,BK]) ?_;dsimp? [qJ,el,xL,Ä];have eA:leftA cs (cl++[(p,ld)])=iC here p ld:=by rw[CD,hh'];rfl
   refine⟨∅,∅,hK _ ⟨cl++[(p,ld)],kn++ld.map (λx=>x.1.nm),J+N,some (.int (t:Int)),some (cF p ld),o9,o10,o11,o12,by rw[Ë,lt];rfl,∅,by rw[Ë,Ä];lia,λz hz=>?_,?_,LV.app.mpr ⟨V,?_,trivial⟩,?_⟩⟩
   .rcases ö.mp hz with h|h
    .exact(hk z h).mono (Nat.le_add_right _ _)
    .obtain⟨x,hx,rfl⟩:=Ö.mp h
     exact L.nb x hx
   .rw[eA]
    exact YB L gl hh
   .rw[hh',<- hp]
    exact L.cok ∅ ∅
   .rw[eA,Ú,Ú,å]
    rfl
 .rintro δ ⟨cl,kn,J,o7,o8,o9,o10,o11,o12,lt,hJ,lk,hk,hh,V,rfl⟩
  dsimp? [];exact⟨cl,rfl,∅,V⟩
end
def WE(w e:Str):Prop:=(w="name"/\e="NoName")\/(w="stack"/\e="NoStack")\/(w="weight"/\e="NoWeight")
theorem WE.good(h:WE w e):bH w:=by
 rcases h with ⟨rfl,_⟩|⟨rfl,_⟩|⟨rfl,_⟩<;>exact⟨⋯,dA _⟩
section
variable {S C T:D}
theorem ϴ:dR eU [.val (bD 0),.val (bD 1),.val (bD 2)] (some S::some C::some T::δ)=(match eU [S,C,T]with|.ok d outs=>Res.ok d (bS [] (outs.filterMap id) (some S::some C::some T::δ))|.err x outs=>.err x (bS [] (outs.filterMap id) (some S::some C::some T::δ))|.stuck=>.stuck):=by
 have:cG [.val (bD 0),.val (bD 1),.val (bD 2)] (some S::some C::some T::δ)=.ok [some S,some C,some T] (some S::some C::some T::δ):=by simp[cG,bD,Res.bind]
 unfold dR;rw[this];simp![Res.bind,dM,aU,Option.map]
 all_goals (cases eU [S,C,T]<;>rfl)
theorem aIE(h:WE w e):wZ (.str w) (.str "")=some (.bool true):=by
 rcases h with ⟨rfl,_⟩|⟨rfl,_⟩|⟨rfl,_⟩<;>with_unfolding_all rfl
theorem aCU(h:eU [S,C,T]=.ok (.list L) []):tJ [S,C,T]=.ok (.tuple [.str "",.int L.length]) []:=by
 have hc:=ϴ (S:=S) (C:=C) (T:=T) (δ:=[some (.list []),some (.str "")]);rw[h]at hc;refine aR (os:=[]) ?_;show bO nY [some S,some C,some T,none,none] _ _ _ _;unfold nY;dsimp? [];rw[<- vJ];refine nZ (λδ=>δ=[some S,some C,some T,some (.list L),some (.str "")]) ?_ ?_
 .unfold bO TY
  simp[hc,bS,Res.bind,fL]
 .rintro _ rfl
  have ne0:wZ (.str "") (.str "")=some (.bool false):=by with_unfolding_all rfl
  dsimp? [ne0,Bool.false_eq_true]
theorem YD(we:WE w e)(h:eU [S,C,T]=.err (.str e) []):tJ [S,C,T]=.ok (.tuple [.str w,.int 0]) []:=by
 have hc:=ϴ (S:=S) (C:=C) (T:=T) (δ:=[some (.list []),some (.str "")]);rw[h]at hc;refine aR (os:=[]) ?_;show bO nY [some S,some C,some T,none,none] _ _ _ _;unfold nY;dsimp? [];rw[<- vJ];refine nZ (λδ=>δ=[some S,some C,some T,some (.list []),some (.str w)]) ?_ ?_
 .unfold bO TY
  have e3:(Str.ofString "NoStack" == Str.ofString "NoName")=false:=by decide
  have e4:(Str.ofString "NoStack" == Str.ofString "NoNumber")=false:=by decide
  have e6:(Str.ofString "NoWeight" == Str.ofString "NoName")=false:=by decide
  have e7:(Str.ofString "NoWeight" == Str.ofString "NoNumber")=false:=by decide
  have e8:(Str.ofString "NoWeight" == Str.ofString "NoStack")=false:=by decide
  rcases we with ⟨rfl,rfl⟩|⟨rfl,rfl⟩|⟨rfl,rfl⟩<;>simp[hc,bS,Res.bind,ľ,uF,RJ,List.lookup,fL,dC,e3,e4,e6,e7,e8]
 .rintro _ rfl
  have ne0:=aIE we;dsimp? [ne0]
end
section
structure ċ(n:Nat)(cs:List 'l')(e:Str)(c:zZ):Prop where
 gp:bH c.1
 ap:RL c.1
 len:c.2.length<=4
 gl:∀x∈c.2,lG x.1
 al:∀x∈c.2,AZ x.1
 er:n8 c.1=false/\e="NoName"\/n8 c.1=true/\B8 n (bL cs.flatten) c.2=some e
theorem ċ.add(C:Ĵ n (nm ns 16 25) cs c)(g:lG x.1)(a:AZ x.1)(h:Ě n (bL cs.flatten++c.2.map λx=>x.1.nm) x=some e):ċ n cs e (c.1,c.2++[x]):=
 ⟨C.gp,oW C.op,by rw[Ë];have:=C.len;simp;lia,jG (λy hy=>(C.ld y hy).2.1.1) g,jG (λy hy=>(C.ld y hy).1) a,.inr ⟨C.op,by rw[OP C.ch,aID (by rw[h];simp),h]⟩⟩
theorem aCW(G:RE n (nm ns 16 25) m cs)(C:Ĵ n (nm ns 16 25) cs c)(hn:0<n):∃r,IG [iL ns,cD c]=.ok r []/\∃(w e:Str)(c':zZ),r=.tuple [.str w,cD c']/\WE w e/\ċ n cs e c':=by
 have hsz:sizeLine=2^24:=rfl;have i0:fE (cD c) (.int 0)=some (.str c.1):=rfl;have i1:fE (cD c) (.int 1)=some (.list (c.2.map p7)):=rfl;have y0:fE (eC (bx ns 25)) (.int 0)=some (.str (bx ns 25).nm):=rfl;have y1:fE (eC (bx ns 25)) (.int 1)=some (.int (bx ns 25).w):=rfl;have y2:fE (eC (bx ns 25)) (.int 2)=some (.str (bx ns 25).p):=rfl;have y3:fE (eC (bx ns 25)) (.int 3)=some (.str (bx ns 25).k):=rfl;have y4:fE (eC (bx ns 25)) (.int 4)=some (.int (bx ns 25).b):=rfl;have eb:=LM (ns:=ns) (n:=25) ⋯ ⋯;have et:=n5 (ns:=ns) (k:=48) (m:=5) ⋯ ⋯ ⋯;have lt:=jY (ns:=ns) (k:=48) (m:=5) ⋯;have gb:=OD (ns:=ns) (n:=25);have ab:=X1 (ns:=ns) (n:=25);have kb:=E6 (ns:=ns) (n:=25);have on:n8 (bx ns 25).nm=true:=iK;have op:n8 (bx ns 25).p=true:=iK;have ok:n8 (bx ns 25).k=true:=iK;have nz:(bx ns 25).nm∉bL cs.flatten++c.2.map λx=>x.1.nm:=λh=>by
  rcases ö.mp h with h|h
  .exact G.z h
  .obtain⟨x,hx,e⟩:=Ö.mp h
   exact(C.ld x hx).2.2.2 e
 have gA:bH "A"/\RL "A"/\n8 "A"=false:=⟨⟨⋯,dA _⟩,by unfold RL;decide,⋯⟩;have gB:bH "B"/\RL "B"/\n8 "B"=false:=⟨⟨⋯,dA _⟩,by unfold RL;decide,⋯⟩;have h00:(0:Int)<=0/\(0:Int)<(n:Int):=by lia
 have lc:=C.len;have ap:∀(x:Ld)(d:D),p7 x=d->PyData.tuple [.str c.1,.list (c.2.map p7++[d])]=cD (c.1,c.2++[x]):=λx d e=>by
  unfold cD cF;rw[Ú,<- e];rfl
 generalize hbx:bx ns 25=B at *;generalize hcc:cD c=cc at *;refine i7 ?_;show bO zG [some (iL ns),some cc,none,none] _ _ _ _;refine kE λ_ _ _ S _ hS=>?_;unfold zG;have:th ns 48 5=0\/th ns 48 5=1\/th ns 48 5=2\/th ns 48 5=3\/th ns 48 5=4:=by lia
 generalize th ns 48 5=q at *;have z1:decide ((1:Int)=0)=false:=by decide
 have z2:decide ((2:Int)=0)=false:=by decide
 have z3:decide ((3:Int)=0)=false:=by decide
 have z4:decide ((4:Int)=0)=false:=by decide
 have z5:decide ((2:Int)=1)=false:=by decide
 have z6:decide ((3:Int)=1)=false:=by decide
 have z7:decide ((4:Int)=1)=false:=by decide
 have z8:decide ((3:Int)=2)=false:=by decide
 have z9:decide ((4:Int)=2)=false:=by decide
 have za:decide ((4:Int)=3)=false:=by decide
 rcases this with rfl|rfl|rfl|rfl|rfl
 .dsimp? [eb,et,AK,decide_true,i0,i1,BJ,sG,Ä,Õ,ý]
  refine⟨∅,hS _ _ ⟨"stack","NoStack",_,by rw[<- ap (B,-1) _ rfl];rfl,.inr (.inl ⟨rfl,rfl⟩),ċ.add C gb ab ?_⟩⟩
  unfold Ě;rw[Â (by dsimp only;lia)]
 .dsimp? [eb,et,AK,decide_true,z1,Bool.false_eq_true,i0,i1,y0,y2,y3,y4,sG,Ä,Õ,ý]
  refine⟨∅,hS _ _ ⟨"weight","NoWeight",_,by rw[<- ap (⟨B.nm,0,B.p,B.k,B.b⟩,0) _ rfl];rfl,.inr (.inr ⟨rfl,rfl⟩),ċ.add C ⟨gb.nm,gb.p,gb.k⟩ ⟨ab.nm,ab.p,ab.k⟩ ?_⟩⟩
  unfold Ě FC;rw[Á h00,on,Â ⋯,Â nz,Á (show (0:Int)<1 by decide)]
 .dsimp? [eb,et,AK,decide_true,z2,z5,Bool.false_eq_true,i0,i1,y1,y2,y3,y4,sG,Ä,Õ,ý]
  refine⟨∅,hS _ _ ⟨"name","NoName",_,by rw[<- ap (⟨"A",B.w,B.p,B.k,B.b⟩,0) _ rfl];rfl,.inl ⟨rfl,rfl⟩,ċ.add C ⟨gA.1,gb.p,gb.k⟩ ⟨gA.2.1,ab.p,ab.k⟩ ?_⟩⟩
  unfold Ě FC;rw[Á h00,Á gA.2.2]
 .dsimp? [eb,et,AK,decide_true,z3,z6,z8,Bool.false_eq_true,i0,i1,y0,y1,y2,y3,BJ,sG,Ä,Õ,ý]
  refine⟨∅,hS _ _ ⟨"weight","NoWeight",_,by rw[<- ap (⟨B.nm,B.w,B.p,B.k,-1⟩,0) _ rfl];rfl,.inr (.inr ⟨rfl,rfl⟩),ċ.add C ⟨gb.nm,gb.p,gb.k⟩ ⟨ab.nm,ab.p,ab.k⟩ ?_⟩⟩
  have:=kb.2.1;unfold Ě FC;rw[Á h00,on,op,ok,Â ⋯,Â nz,Â (by dsimp only;lia),Â ⋯,Â ⋯,Á (show (-1:Int)<0 by decide)]
 .dsimp? [eb,et,AK,decide_true,z4,z7,z9,za,Bool.false_eq_true,i1]
  exact hS _ _ ⟨"name","NoName",("B",c.2),rfl,.inl ⟨rfl,rfl⟩,gB.1,gB.2.1,∅,λx hx=>(C.ld x hx).2.1.1,λx hx=>(C.ld x hx).1,.inl ⟨gB.2.2,rfl⟩⟩
end
theorem ϵ(g:lG b):Sh 2 (eC b):=uG λd hd=>by
 simp![Í,Ý,or_false]at hd;rcases hd with rfl|rfl|rfl|rfl|rfl
 .exact g.nm.sh
 .exact D0
 .exact g.p.sh
 .exact g.k.sh
 .exact D0
theorem YE(h:cC cs m):Sh 4 'c':=D1 λd hd=>by
 let⟨c,hc,rfl⟩:=Ö.mp hd;refine D1 λd hd=>?_;let⟨b,hb,rfl⟩:=Ö.mp hd;exact ϵ ((h c hc).2 b hb).1
theorem aCX(gp:bH c.1)(gl:∀x∈c.2,lG x.1):Sh 5 (cD c):=uG λd hd=>by
 simp![Í,Ý,or_false]at hd;rcases hd with rfl|rfl
 .exact gp.sh.mono ⋯
 .refine D1 λd hd=>?_
  let⟨x,hx,rfl⟩:=Ö.mp hd;refine uG λd hd=>?_;simp![Í,Ý,or_false]at hd;rcases hd with rfl|rfl
  .exact ϵ (gl x hx)
  .exact D0.mono ⋯
def YF(f:Option (List 'l'))(w:Str)(n:Nat):D:=match f with|none=>.tuple [.str "",.int n]|some _=>.tuple [.str w,.int 0]
theorem YG{L:ZI}{d:D}:atI (L++[d]) (-1)=some d:=by
 have e:mY (L++[d]).length (-1)=some L.length:=by
  unfold mY;rw[Ë,ì,Â ⋯,Á ∅];congr 1;lia
 unfold atI;rw[e];exact List.getElem?_concat_length
theorem OU(h:bH w):PF (.tuple [.str w,.int i]) (.tuple [.str w,.int i])=some (.bool true):=aAU (k:=2) (uG λd hd=>by
 simp![Í,Ý,or_false]at hd;rcases hd with rfl|rfl
 .exact h.sh
 .exact D0) ⋯
section
theorem JM(G:RE ss.length z0 m cs)(hl:cs.flatten.length<=300)(B:ċ ss.length cs e c):hW [rG own b ss ts as,.list (cs.map aK),cD c]=.err (.str e) []:=by
 have:=B.len;rcases B.er with ⟨h,rfl⟩|⟨h,hc⟩
 .exact JG B.ap h
 .exact LR B.ap h G.nd hl ∅ B.al hc
end
theorem YH(ns:ZK)(hn:ns.length<=63):IH [.list (ns.map .int)]=.ok (.bool true) []:=by
 have e24:sizeLine=2^24:=rfl;let⟨r,e1,own,b,ss,ts,as,rfl,S⟩:=aCL (ns:=ns);have ls:=S.ls;have tM:=gN (ns:=ns) (k:=19) (m:=6) ⋯;have eM:=lF (ns:=ns) (k:=19) (m:=6) ⋯ ⋯ ⋯;obtain⟨M,hM⟩:∃M:Nat,dr ns 19 6=(M:Int):=⟨(dr ns 19 6).toNat,∅⟩;rw[hM]at eM;let⟨r,e2,cs,rfl,lc,gc,pc⟩:=X2 (ns:=ns) (m:=(M:Int)) (a:=zR own) (b:=YN b) (c:=.list (ts.map zQ)) (d:=.list (as.map Ċ)) (ss:=ss.map p6) ∅ ∅ (by rw[Ä];lia) (by rw[Ä];lia);rw[û]at pc;have e2:u3 [iL ns,rG own b ss ts as,.int (M:Int)]=.ok 'c' []:=e2;rw[Ä]at lc;have pn:(bL cs.flatten).Perm ((List.range M).map λi:Nat=>nm ns 16 (i:Int)):=by
  have:=pc.map λb=>b.nm;rw[å]at this;exact this
 have hz:∀z∈bL cs.flatten,Nb ns M z:=λz h=>by
  let⟨i,hi,rfl⟩:=Ö.mp (pn.mem_iff.mp h);exact⟨i,List.mem_range.mp hi,rfl⟩
 have fl:cs.flatten.length=M:=by rw[pc.length_eq,Ä,List.length_range]
 have G:RE ss.length (nm ns 16 25) 10 cs:=⟨lc,gc,by
  have:=X9 (ns:=ns) (a:=0) (k:=M) (zs:=[]) 'e' 'e' ∅;rw[List.nil_append]at this;refine pn.nodup_iff.mpr ?_;simpa using this,λh=>by
  let⟨j,hj,e⟩:=hz _ h;have:=zW (ns:=ns) (k:=16) (n:=25) (m:=(j:Int)) ∅ ∅ ∅ ∅ e;lia⟩
 let⟨r,e3,cl0,rfl,l0,V0⟩:=YC (a:=zR own) (b:=YN b) (c:=.list (ts.map zQ)) (d:=.list (as.map Ċ)) (ss:=ss.map p6) (M:=M) (cs:=cs) ∅ (by rw[Ä];lia) (by rw[Ä];lia) (by rw[Ä];exact G) hz fl;rw[Ä]at V0;have e3:u5 [iL ns,rG own b ss ts as,.list (cs.map aK),.int (M:Int)]=.ok (.list (cl0.map cD)) []:=e3;have e4:=OS (ns:=ns) (f:=(M:Int)) (t:=0) (a:=zR own) (b:=YN b) (c:=.list (ts.map zQ)) (d:=.list (as.map Ċ)) (ss:=ss.map p6) ∅ ∅ ⋯ ⋯ (by rw[Ä];lia);rw[Ä]at e4;have l4:=gN (ns:=ns) (k:=40+0) (m:=4) ⋯;have L4:=YA.plain (ns:=ns) (n:=ss.length) (J:=M) (N:=(dr ns (40+0) 4).toNat) ∅ G.nd hz ∅;have C4:=L4.cok (t:=th ns (40+0) 4) ∅ ∅;have e9:tH [iL ns,rG own b ss ts as,.int (M:Int),.int 0]=.ok (cD (nm ns 17 (th ns (40+0) 4),FD ns (M:Int) (ss.length:Int) (dr ns (40+0) 4).toNat)) []:=e4;generalize (nm ns 17 (th ns (40+0) 4),FD ns (M:Int) (ss.length:Int) (dr ns (40+0) 4).toNat)=c4 at *;have ev:=λ(cl:List zZ)(h:LV ss.length (nm ns 16 25) cs cl)(hl:10+3*cl.length<=30)=>OT S G h hl;have eB:=λ(cs':List 'l')(m:Nat)(e:Str)(c:zZ)(G':RE ss.length (nm ns 16 25) m cs')(hl:cs'.flatten.length<=300)(B:ċ ss.length cs' e c)=>JM (own:=own) (b:=b) (ts:=ts) (as:=as) G' hl B;have shc:wZ 'c' 'c'=some (.bool false):=M1 (k:=4) (YE gc) ⋯;generalize rG own b ss ts as=sh at *;generalize ss.length=n at *;refine aR (os:=[]) ?_;show bO WL [some (iL ns),none,none,none,none,none,none,none,none,none,none] _ _ _ _;unfold WL;rw[L2.seq_assoc,L2.seq_assoc,L2.seq_assoc,L2.seq_assoc];refine nZ (λδ=>∃cl:List zZ,1<=cl.length/\cl.length<=3/\LV n (nm ns 16 25) cs cl/\δ=[some (iL ns),some sh,some (.int (M:Int)),some 'c',some (.list (cl.map cD)),none,none,none,none,none,none]) ?_ ?_
 .refine kE λK _ _ _ hK _=>?_
  dsimp? [e1,eM,e2,e3,Ä,AK,decide_eq_true_eq];split
  .dsimp? [e9]
   exact hK _ ⟨[c4],Ç _,by simp,⟨C4,trivial⟩,rfl⟩
  .exact hK _ ⟨cl0,∅,l0,V0,rfl⟩
 rintro _ ⟨cl,c0,c1,V,rfl⟩;have lA:=iP (ns:=ns) (k:=47) (m:=(cl.length:Int)) ∅;have eA:=jZ (ns:=ns) (k:=47) (m:=(cl.length:Int)) ⋯ ⋯ ∅;obtain⟨A,hA⟩:∃A:Nat,ot ns 47 (cl.length:Int)=(A:Int):=⟨(ot ns 47 (cl.length:Int)).toNat,∅⟩;rw[hA]at eA lA;have hA1:A<cl.length:=by lia
 have ecl:cl=cl.take A++cl[A]::cl.drop (A+1):=by
  rw[<- ò hA1,List.take_append_drop]
 have V1:LV n (nm ns 16 25) cs (cl.take A++cl[A]::cl.drop (A+1)):=by rw[<- ecl];exact V
 have lt:(cl.take A).length=A:=by rw[ï];lia
 let⟨Vp,Vc⟩:=LV.app.mp V1;have Gp:=G.leftA Vp ∅;let⟨L,f,W,hf⟩:=ev _ Vp ∅;have e5:=X4 W (rest:=[]) (λ_ _=>rfl) ∅;rw[â]at e5;have wl:=Vy.len W;let⟨r,e6,w,e,c',rfl,we,B⟩:=aCW Gp Vc.1 ∅;have gl:=Gp.g;have fn':=JL Gp.g;have:(10+3*(cl.take A).length)*(leftA cs (cl.take A)).length<=30*4:=Nat.mul_le_mul ∅ (by rw[Gp.len];lia);have eX:=eB _ _ _ _ Gp ∅ B;have ct:uC (.list (cl.map cD)) none (some (A:Int))=some (.list ((cl.take A).map cD)):=by rw[aG6 (by rw[Ä];lia),List.map_take]
 have cf:uC (.list (cl.map cD)) (some ((A:Int)+1)) none=some (.list ((cl.drop (A+1)).map cD)):=by
  rw[show ((A:Int)+1)=((A+1:Nat):Int)from rfl,kR (by rw[Ä];lia),List.map_drop]
 have eat:atI (cl.map cD) (A:Int)=some (cD cl[A]):=CT rfl (by rw[Ñ,É hA1];rfl);have gtf:decide ((A:Int)<(L.length:Int))=false:=decide_eq_false (by have:=wl.1;lia);have ld1:(cl.drop (A+1)).length<=3:=by rw[ā];lia
 generalize cl.take A=pre at *;generalize cl.drop (A+1)=post at *;generalize cl[A]=ca at *;have sc:wZ (cD c') (cD c')=some (.bool false):=M1 (k:=5) (aCX B.gp B.gl) ⋯;have w0:fE (.tuple [.str w,cD c']) (.int 0)=some (.str w):=rfl;have w1:fE (.tuple [.str w,cD c']) (.int 1)=some (cD c'):=rfl;have etr:atI (pre.map cD++[cD c']++post.map cD) (A:Int)=some (cD c'):=CT rfl (by
  rw[List.append_assoc,Þ (by rw[Ä];lia),Ä,lt,ú];rfl)
 have eW:tJ [sh,.list (cs.map aK),.list (pre.map cD++[cD c']++post.map cD)]=.ok (YF f w L.length) []:=by
  rw[List.append_assoc];cases f with
  |none=>exact aCU (X4 W (λ_ h=>by cases h) ∅)
  |some csE=>
   rw[<- hf csE rfl]at eX;exact YD we (aCQ W eX ∅)
 have isl:DL .list (.list L)=some (.bool true):=rfl;generalize PyData.tuple [.str w,cD c']=bt at *;generalize hcc:cD c'=cc at *;rw[L2.seq_assoc,L2.seq_assoc,L2.seq_assoc,L2.seq_assoc,L2.seq_assoc,L2.seq_assoc,L2.seq_assoc];refine nZ (λδ=>∃o8 o9,δ=[some (iL ns),some sh,some (.int (M:Int)),some 'c',some (.list (cl.map cD)),some (.int (A:Int)),some (.list L),some bt,o8,o9,some (YF f w L.length)]) ?_ ?_
 .refine kE λK _ _ _ hK _=>?_
  dsimp? [Ä,eA,GO,l8,l9,sH,ct,e5,isl,Bool.not_true,Bool.false_eq_true,gtf,eat,e6];refine aV.of (cU (enc:=aK) (xs:=cs) (g:=aK) (c6 rfl) ∅ λx _=>by dsimp? [aK,M3]) ?_;dsimp? [GO,l8,l9,sH,ct,w1,sG,cf,Ä,Ë,Õ,ý,eW,shc,Bool.false_eq_true,etr,sc];exact⟨∅,∅,hK _ ⟨_,_,rfl⟩⟩
 rintro _ ⟨o8,o9,rfl⟩;have gE:bH "":=⟨⋯,dA _⟩;cases f with
 |none=>
  have hp:pre≠[]:=λe=>by
   rw[e]at W;cases W.2
  obtain⟨L',d,rfl,⟨⟨_,h⟩,_⟩|⟨_,n',t',rfl⟩⟩:=Vy.last W hp
  .cases h
  have hA0:0<A:=by rw[<- lt];exact List.length_pos_iff.mpr hp
  have r0:fE (JJ n' t') (.int 0)=some (.str "refused"):=rfl;have rn:wZ (.str "refused") (.str "done")=some (.bool true):=by with_unfolding_all rfl
  have il:=YG (L:=L') (d:=JJ n' t');have pe:=OU (w:="") (i:=((L'++[JJ n' t']).length:Int)) gE;have pA:decide ((0:Int)<(A:Int))=true:=decide_eq_true ∅;dsimp? [BJ,il,r0,rn,YF,pe,pA];split<;>trivial
 |some csE=>
  have wq:=wl.2 csE rfl;have pe:=OU (w:=w) (i:=0) we.good;have lf:decide ((L.length:Int)<(A:Int))=false:=decide_eq_false ∅;by_cases hp:pre=[]
  .have pA:decide ((0:Int)<(A:Int))=false:=decide_eq_false (by rw[hp]at lt;have:A=0:=lt.symm;lia)
   dsimp? [lf,pA,Bool.false_eq_true,w0,YF,pe]
  .obtain⟨L',d,rfl,⟨_,c9,g9,m9,rfl⟩|⟨h,_⟩⟩:=Vy.last W hp
   .have r0:fE (p8 c9 g9 m9) (.int 0)=some (.str "done"):=rfl
    have rn:wZ (.str "done") (.str "done")=some (.bool false):=by with_unfolding_all rfl
    have il:=YG (L:=L') (d:=p8 c9 g9 m9);dsimp? [lf,BJ,il,r0,rn,Bool.false_eq_true,w0,YF,pe];split<;>trivial
   .cases h
theorem all_mk{l:W.OpenLaw}(T:Txt K mg)(lnt:W.noTabs K=true)(hfa:mg "law"=some (.ref fa)):
  (W.noTabs K=true/\∃c P pos,jO K=some (c,P,pos))/\∃fd:FuncData,(∀(s:Shared)(v:Value),BindsTo s fd ⟨[v],[]⟩ [("_law_script",v)])/\∀base:Heap,K.In base->base.Ns mainGlobals mg->sR K mg base->rO l.prog w K mg base (AG l.prog w K) 11 fa fd ["_law_script"] (SW K ["_law_script"] [] [0,0,0,0,0,0,0,0,0,0,0] 0 IH):=by
 have e:=hfa.symm.trans T.x59.m;cases e;exact⟨⟨lnt,_,_,_,T.lamE⟩,T.x59.fd,λs v=>by
  let⟨_,_,_,_,_,_,_,_,_,e,_⟩:=T.x59.F.ex;rw[e];exact .of_eq rfl,λbase _ _ B=>aHW T B⟩
theorem walk{l:W.OpenLaw}{q:Program}{loose:ZG}{XP:(ZD)->Heap->Prop}{YP:World->Heap->Prop}{d:DefRec}{K:Params->ZC}(hn:l.most=some 63)(hdf:d.params.defaults=[])(hY:∀(w:World)(h:Heap),YP w h->(K w.params).In h)(hrec:∃dl,(PyProof.Rows.recsOf q).find? (λe=>e.name == m8)=some dl)(F:∀(w:World)(mg:ZD)(fa:Addr)(h:Heap),(K w.params).In h->h.Ns mainGlobals mg->mg d.name=some (.ref fa) ->
   (W.noTabs (K w.params)=true/\∃c P pos,jO (K w.params)=some (c,P,pos))/\∃fd:FuncData,(∀(s:Shared)(u:Value),BindsTo s fd ⟨[u],[]⟩ [("_law_script",u)])/\∀base:Heap,(K w.params).In base->base.Ns mainGlobals mg->sR (K w.params) mg base->rO l.prog w (K w.params) mg base (AG l.prog w (K w.params)) 11 fa fd ["_law_script"] (SW (K w.params) ["_law_script"] [] [0,0,0,0,0,0,0,0,0,0,0] 0 IH)):
  W.WalkO q loose XP YP l.row.toRowW d [] (λf vs=>PySem.call f vs):=
 let ⟨_,hrec⟩:=hrec
 L2.walk_ofL (n:=63) (k:=11) (x:="_law_script") (CX:=λw=>AG l.prog w (K w.params)) (sp:=λw=>SW (K w.params) ["_law_script"] [] [0,0,0,0,0,0,0,0,0,0,0] 0 IH) hn ⋯ hdf ⟨rfl,⋯,⋯⟩ hY hrec F (λ_ _ a ns hl hL hS=>KQ hS (YH ns hl) hL) λ_ _ _ _ _ z=>PL z
@[inline]def Ϸ{α:Type _}{β:Type _}(a:α)(_:β):α:=a
@[inline]def pv:Program:={PySem.Challenge.pw_keel_k66_refused_voyages with main:={PySem.Challenge.pw_keel_k66_refused_voyages.main with body:=[top 0,top 1,top 2,top 3,top 4,top 5,top 6,top 7,top 8,top 9,top 10,top 11,top 12,top 13,Ϸ (top 14) (PySem.Stmt.FunctionDef (Ϸ ("":Str) PySem.Expr.Lambda)),top 15,top 16,top 17,top 18,top 19,top 20,top 21,top 22,top 23,top 24,top 25,top 26,top 27,top 28,top 29,top 30,top 31,top 32,top 33,top 34,top 35,top 36,top 37,top 38,top 39,top 40,top 41,top 42,top 43,top 44,top 45,top 46,top 47,top 48,top 49,top 50,top 51,top 52,top 53,top 54,top 55,top 56,top 57,top 58,top 59,top 60,top 61,top 62,top 63,top 64,top 65,top 66,top 67,top 68,top 69,top 70,top 71,top 72,top 73,top 74,top 75,top 76,top 77]}}
@[inline]def rv:W.OpenLaw:={PySem.Challenge.rw_keel_k66_refused_voyages with prog:=pv}
theorem aO4:PySem.Challenge.rw_keel_k66_refused_voyages=rv:=by kernel_rfl
theorem tv(h:rv.Holds):PySem.Challenge.rw_keel_k66_refused_voyages.Holds:=by rw[aO4];exact h
end Toy
namespace PySem.W.Fast
def tw16756270601877858394:=0
def tw14631584887397069081:=0
def tw5979950084401995034:=0
def tw11468447919084023226:=0
def tw14054156886197311938:=0
def tw7931865923814687130:=0
def tw5470750323755279570:=0
def tw10935671268335956253:=0
def tw14093403723783354361:=0
def tw9143772864752535793:=0
def tw1522029590054096618:=0
def tw1550189027520139760:=0
def tw1389406752239730670:=0
def tw14585911105955652913:=0
def tw8808298422874757859:=0
def tw6361483374638340465:=0
def tw8278011541951461247:=0
def tw16166560196197422084:=0
def tw18277174721836211837:=0
def tw4448540462304233988:=0
def tw12164319041437132624:=0
def tw11532439420747922673:=0
def tw16680210205809714626:=0
def tw6438131562832541112:=0
def tw15290906680585930919:=0
def tw1657453505810979657:=0
def tw7669145865622903215:=0
def tw11107763231823104952:=0
def tw6765146569849844810:=0
def tw8047550016210680051:=0
def tw16557841969607513555:=0
def tw3596653587414405838:=0
def tw10838247869352565819:=0
def tw17577725373287403580:=0
def tw4121592770826271883:=0
def tw11980760237798214292:=0
def tw10114663555392500270:=0
def tw3120850799599177387:=0
def tw16404861827096395152:=0
def tw17753053841797760825:=0
def tw2968645411067121329:=0
def tw13279726537564598900:=0
def tw2245686406547897826:=0
def tw5032649864391370569:=0
def tw16732053593990618966:=0
def tw3546623473684027938:=0
def tw7500685594737942027:=0
def tw11621388834078889343:=0
def tw735584212603095778:=0
def tw5353981198527750608:=0
def tw7945067605271512452:=0
def tw12607887031026065826:=0
def tw13223649086909283080:=0
def tw5454388172882059504:=0
def tw262596534796943780:=0
def tw16533492642763425403:=0
def tw9915142706456734373:=0
def tw17105598312624267668:=0
def tw17234710453923849138:=0
def tw5016058031885363113:=0
def tw11478985720601900459:=0
def tw665563384003186789:=0
def tw12365288428573721138:=0
def tw4741131509399677459:=0
def tw15540484880306272907:=0
def tw13934706531653693748:=0
def tw8121916383693602055:=0
def tw12484574563001055046:=0
def tw759124976815962842:=0
def tw16488890098536881073:=0
def tw702723709695418822:=0
def tw16439355463913125759:=0
def tw8512089158892974809:=0
def tw7210595959243456752:=0
def tw27079755495204307:=0
def tw7056848738619759424:=0
def tw11275234726233372622:=0
def tw10314271831286634896:=0
def tw7298406815245808215:=0
def tw16559434813317816456:=0
def tw1512994218466267822:=0
def tw2027380394871904597:=0
def tw9601073480470724870:=0
def tw8026569728650606710:=0
def tw7532656941812741653:=0
def tw12899262157052133601:=0
def tw5676023023051735508:=0
def tw14857378615199013076:=0
def tw15194263170031362921:=0
def tw14614460642295179981:=0
def tw5702597593779203397:=0
def tw10451002058903667887:=0
def tw5949355215802440324:=0
def tw10137129678787955722:=0
def tw12407700367666303985:=0
def tw7849566789863886723:=0
def tw6141742622365189779:=0
def tw3299344706168374561:=0
def tw10781929405950266771:=0
def tw2698289792974400865:=0
def tw17421710203107096573:=0
def tw13705313239779864492:=0
def tw1380746827582900777:=0
def tw9402313493805919417:=0
def tw3114800067040166459:=0
def tw14014319579130480967:=0
def tw16360555958540049706:=0
def tw10830763828955628153:=0
def tw7016210447679568498:=0
def tw12264874560679217098:=0
def tw9003192691089704338:=0
def tw5723216519357231735:=0
def tw9832902056336659824:=0
def tw9136875285855131308:=0
def tw6278625107578514762:=0
def tw14836787644405782005:=0
def tw7169249240509508106:=0
def tw5715872104640818433:=0
def tw14799222958249554966:=0
def tw14122561990619867552:=0
def tw273184430418217461:=0
def tw1222369667183765385:=0
def tw10665545994392868320:=0
def tw8100694167269148427:=0
def tw13163664086392321645:=0
def tw6292368259737818357:=0
def tw17517922720157446548:=0
def tw6131483079491398157:=0
def tw9333870167010457148:=0
def tw4457787662484040705:=0
def tw1869730897931642813:=0
def tw1119778997909406009:=0
def tw5277174412360667588:=0
def tw3218049688526951166:=0
def tw8118956821678920493:=0
def tw16043073510251332719:=0
def tw11460207277745663312:=0
def tw3337207731243259428:=0
def tw13767701448479625465:=0
def tw4683949521806222259:=0
def tw11567788813979160095:=0
def tw8531342827050234156:=0
def tw12847575753518933159:=0
def tw14379426349131503740:=0
def tw4929933891053206721:=0
def tw679412873793545319:=0
def tw4602066679846421003:=0
def tw1706002821871916380:=0
def tw17931049474061038075:=0
def tw1777543476995524747:=0
def tw4539155261354312332:=0
def tw8653878221061615252:=0
def tw16721311884813440108:=0
def tw5008099367402586113:=0
def tw17481171956198301765:=0
def tw5340825044126518886:=0
def tw1252333331353982165:=0
def tw17763040271576097114:=0
def tw2213743700005561607:=0
def tw11345860305934855701:=0
def tw8223905052826787049:=0
def tw9649696142594776178:=0
def tw3723761074960785146:=0
def tw9870546660361525508:=0
def tw7533786645461634762:=0
def tw1794502493613522925:=0
def tw12071033164761264301:=0
def tw17120478070116798602:=0
def tw6660826497856722895:=0
def tw5021863702180320344:=0
def tw4588578156555144877:=0
def tw4394259345346260552:=0
def tw10942780709070908128:=0
def tw4106708407568596708:=0
def tw3561912826734730804:=0
def tw2547775647814101833:=0
def tw11621041656326726170:=0
def tw4450442497862108528:=0
def tw14051460454387120453:=0
def tw9583845792195927683:=0
def tw14778045542363206037:=0
def tw17517578928571590367:=0
def tw14273622315976508627:=0
def tw4160970733542758128:=0
def tw12592980162203142863:=0
def tw17227533150995487448:=0
def tw8099959670720138365:=0
def tw16651107402201101449:=0
def tw3949900598893002148:=0
def tw6482475416608577097:=0
def tw11236669289828834095:=0
def tw17661546265344144751:=0
def tw8068641387419465927:=0
def tw12920416322543677576:=0
def tw3261980339974465004:=0
def tw7722801520414906426:=0
def tw6315355525715606984:=0
def tw138573325633394764:=0
def tw14930745214048941202:=0
def tw11407073557066083750:=0
def tw4151167206380575190:=0
def tw1509906795261277106:=0
def tw10993889344023134349:=0
def tw9460651819060521092:=0
def tw3669275190977655279:=0
def tw7855960123801699917:=0
def tw13699438381774762010:=0
def tw6667423245229445018:=0
def tw10209366104185460682:=0
def tw16380610297336865262:=0
def tw16261853929027180217:=0
def tw16019247040030027897:=0
def tw15928756546362437793:=0
def tw7715772726436603606:=0
def tw17378613709781275538:=0
def tw14702515134893016740:=0
def tw6557357738530134161:=0
def tw15617515155877372674:=0
def tw7753449169106902111:=0
def tw672973983057776731:=0
def tw9588823740929478959:=0
def tw999444789310951321:=0
def tw2930269075526343362:=0
def tw6336108596966240446:=0
def tw13589487808754978570:=0
def tw3083793963486770293:=0
def tw2079494408180816260:=0
def tw15902325325347489656:=0
def tw5141773983447296053:=0
def tw15218712730958061130:=0
def tw3286144655507806499:=0
def tw8714240946785119235:=0
def tw16415635014383182820:=0
def tw12819242166860162034:=0
def tw10751736865739746705:=0
def tw4254889560251983064:=0
def tw1836700204479139707:=0
def tw4599401634103546469:=0
def tw4924336142808026421:=0
def tw2587717043750665188:=0
def tw2156692288098138249:=0
def tw11951969168556884942:=0
def tw7808438822779782604:=0
def tw11447791135686954558:=0
def tw3281245926579767930:=0
def tw1497096639981149079:=0
def tw17270111126576109905:=0
def tw6194712307629587604:=0
def tw4985647704248078319:=0
def tw1025614979721790846:=0
def tw2902689008548446633:=0
def tw4175419124049549756:=0
def tw10536600746970916326:=0
def tw17131268324386237812:=0
def tw2503322769317111798:=0
def tw9911846321699725798:=0
def tw9096971047939066330:=0
def tw9690976293469608503:=0
def tw13514147201165832013:=0
def tw5402426118837752745:=0
def tw4831689659781022869:=0
def tw3476086831845107140:=0
def tw17226771324995412091:=0
def tw2562449876565225924:=0
def tw1606551386326240892:=0
def tw14439530617368962974:=0
def tw13438124124117037422:=0
def tw774833606582130071:=0
def tw14735307534977819082:=0
def tw8055869884096706251:=0
def tw8416032643416753057:=0
def tw10000583136265844829:=0
def tw13897509274921750213:=0
def tw18110391605664640857:=0
def tw5415515303313632685:=0
def tw507448053364975489:=0
def tw16937492596212561948:=0
def tw614453358707165355:=0
def tw13107059528767115588:=0
def tw15493263963747238322:=0
def tw15212755959717373729:=0
def tw124829434730261823:=0
def tw11126118681631656452:=0
def tw200302263706826521:=0
def tw1219627355053909330:=0
def tw5538197108296537847:=0
def tw3782590044007706821:=0
def tw6815008287514031589:=0
def tw7933823176283955479:=0
def tw6006008620924315199:=0
def tw5950713410605581406:=0
def tw452145999519324340:=0
def tw4801387705619550431:=0
def tw7250217041705385523:=0
def tw15053395763814771044:=0
def tw8776464283469087973:=0
def tw328715009516750714:=0
def tw5468269788394771865:=0
def tw14545699620549076257:=0
def tw10128229933817302940:=0
def tw2042667440664552037:=0
def tw4895055463323462978:=0
def tw5472164697505921210:=0
def tw18274088924364500879:=0
def tw8856099987108024639:=0
def tw8003284248800391165:=0
def tw15052064854719712892:=0
def tw4064753069183073466:=0
def tw11787301781798517003:=0
def tw1860388433184828039:=0
def tw9491672399335741435:=0
def tw10551360540865922487:=0
def tw8293570987990382840:=0
def tw1653752517552588445:=0
def tw16872254878366399478:=0
def tw6905986906420028329:=0
def tw6089908478333244234:=0
def tw4178830805466388082:=0
def tw1506923661832104219:=0
def tw14699679550956746374:=0
def tw736271339990439462:=0
def tw3760476078445550613:=0
def tw13192444597298433420:=0
def tw6960841752123946340:=0
def tw16285816097201802628:=0
def tw17920867895584990681:=0
def tw6146380689783330547:=0
def tw13162719407278030464:=0
def tw14088726546027737762:=0
def tw7816353217064252767:=0
def tw5954948660076888949:=0
def tw4964694379221012368:=0
def tw13316429138287243229:=0
def tw6749691977514198886:=0
def tw10601293343660336395:=0
def tw2626854988397893328:=0
def tw17912427505516033978:=0
def tw2654088215727974260:=0
def tw11875316924349604391:=0
def tw2613584749883843634:=0
def tw17588029411572479902:=0
def tw9712056784278263043:=0
def tw2900206267391924591:=0
def tw10378576131420690035:=0
def tw5212266702274490250:=0
def tw16050914094660965863:=0
def tw5123140020420792436:=0
def tw8637733681300426732:=0
def tw6934684657870451375:=0
def tw15764162459355741738:=0
def tw15898196383298461280:=0
def tw4511768214425091070:=0
def tw8772374686871952841:=0
def tw4473052953632775908:=0
def tw11868291341693489081:=0
def tw5581977426518224304:=0
def tw6479442335516414873:=0
def tw17763030274307511461:=0
def tw9251205111785303520:=0
def tw6380694074510928143:=0
def tw16503469973011702519:=0
def tw6968122658828396157:=0
def tw9713412252762142289:=0
def tw17431699670505763993:=0
def tw3899329189303770204:=0
def tw4717708012687970956:=0
def tw16541444232757489039:=0
def tw2279767627343092422:=0
def tw16258721162044934230:=0
def tw6829983917575259379:=0
def tw2657215980920184165:=0
def tw9466515814095002608:=0
def tw18337123571828966874:=0
def tw7770294278167560445:=0
def tw7721130388348865042:=0
def tw731754246599957869:=0
def tw7305842094973738764:=0
def tw16846425752381344409:=0
def tw9729330293030365578:=0
def tw10421371441251851678:=0
def tw17457533933252598040:=0
def tw15632316159755271750:=0
def tw11196952946933417590:=0
def tw13366053228541443824:=0
def tw13074199208613158404:=0
def tw16991557515940870594:=0
def tw8833128649508971248:=0
def tw6759135927409808985:=0
def tw10573757914290281467:=0
def tw15924409612043223408:=0
end PySem.W.Fast
open PySem PySem.W PyProof.Rows L2
set_option maxRecDepth 100000 in
set_option maxHeartbeats 0 in
theorem PySem.Challenge.cw_keel_k66_refused_voyages_holds : PySem.Challenge.rw_keel_k66_refused_voyages.Holds := by
 refine Toy.tv ?_
 w_on;o_law;k_head;(case hw=>w_witness2)
 k_fill
 refine Toy.walk (l:=Toy.rv) rfl rfl (λw h Y=>PySem.W.km_in_of Y) ?R ?F
 case R=>exact⟨_,rfl⟩
 case F=>
  intro w mg fa h KX G hmg;refine' Toy.all_mk (Toy.Txt.mk ?_ ?_ ?_ ?_ ?_ ⟨⟨?f6,_,?F6,RH.binds ?F6 ?b6⟩,PySem.W.mg_of KX G ?a6⟩ ?_ ?_ ?_ ?_ ?_ ?_ ⟨?f13,_,?F13,RH.binds ?F13 ?b13⟩ ⟨?f14,_,?F14,RH.binds ?F14 ?b14⟩ ?_ ?_ ?_ ?_ ?_ ?_ ?_ ?_ ?_ ?_ ?_ ?_ ?_ ?_ ?_ ?_ ?_ ?_ ?_ ?_ ?_ ?_ ?_ ?_ ?_ ?_ ?_ ?_ ?_ ?_ ?_ ?_ ?_ ?_ ?_ ?_ ?_ ?_ ?_ ?_ ?_ ?_ ?_ ?_ ?_ ?_ ?cc_Table ?nn_Table (PySem.W.mg_of KX G ?nn_Table) ⟨?pg_Table,?hd_Table,?po_Table,?sa_Table⟩ (xT ?nn_Table ⟨?pg_Table,?hd_Table,?po_Table,?sa_Table⟩ ?at_Table_free) (xT ?nn_Table ⟨?pg_Table,?hd_Table,?po_Table,?sa_Table⟩ ?at_Table_goal) (xT ?nn_Table ⟨?pg_Table,?hd_Table,?po_Table,?sa_Table⟩ ?at_Table_held) (xT ?nn_Table ⟨?pg_Table,?hd_Table,?po_Table,?sa_Table⟩ ?at_Table_lines) (xT ?nn_Table ⟨?pg_Table,?hd_Table,?po_Table,?sa_Table⟩ ?at_Table_scale) ⟨?km_Table,?a13,?i13,?kk_Table⟩ ⟨?a14,?i14,?k14⟩ ?lc ?lp (VG ?a6 ?F6 ?lcd ?lk ?lv rfl) ?lcd (aQW KX G ?_) (aQW KX G ?_) (aQW KX G ?_) (aQW KX G ?_) (aQW KX G ?_) (aQW KX G ?_) (aQW KX G ?_) (aQW KX G ?_) (aQW KX G ?_) (aQW KX G ?_) (aQW KX G ?_) (aQW KX G ?_) (aQW KX G ?_) (NR KX G ?_) (NR KX G ?_) (NR KX G ?_) (NR KX G ?_) _ ?nn_NoName (PySem.W.mg_of KX G ?nn_NoName) ?ee_NoName ⟨?_,?_,?_,?_,?_,?_,?_,?_⟩ _ ?nn_NoNumber (PySem.W.mg_of KX G ?nn_NoNumber) ?ee_NoNumber ⟨?_,?_,?_,?_,?_,?_,?_,?_⟩ _ ?nn_NoStack (PySem.W.mg_of KX G ?nn_NoStack) ?ee_NoStack ⟨?_,?_,?_,?_,?_,?_,?_,?_⟩ _ ?nn_NoWeight (PySem.W.mg_of KX G ?nn_NoWeight) ?ee_NoWeight ⟨?_,?_,?_,?_,?_,?_,?_,?_⟩ ?mm_NoName_NoName ?mm_NoName_NoStack ?mm_NoName_NoWeight ?mm_NoNumber_NoName ?mm_NoNumber_NoStack ?mm_NoNumber_NoWeight ?mm_NoStack_NoName ?mm_NoStack_NoStack ?mm_NoStack_NoWeight ?mm_NoWeight_NoName ?mm_NoWeight_NoStack ?mm_NoWeight_NoWeight) ?lnt hmg
  any_goals (refine' aKN KX G ?a ?l ?c ?k ?b;(case a=>k_is);(case l=>k_is);(case c=>k_is);(case k=>k_is);(case b=>(intro _ _ _ _ _ _ us hl;first|exact aN2 hl λ_=>rfl|exact aN3 hl λ_ _=>rfl|exact aN4 hl λ_ _ _=>rfl|exact aN5 hl λ_ _ _ _=>rfl)))
  all_goals try k_is
  all_goals try (unfold lJ;k_is)
  all_goals try k_is
  all_goals try (refine' J8 ?l ?c ?k;(case l=>k_is);(case c=>k_is);(case k=>k_is))
  all_goals try (intro _ _ _ _ _ _ us hl;first|exact aN2 hl λ_=>rfl|exact aN3 hl λ_ _=>rfl|exact aN4 hl λ_ _ _=>rfl|exact aN5 hl λ_ _ _ _=>rfl)
  all_goals try (dsimp only;k_is)
  (case lnt=>first|kernel_rfl|k_is)
  all_goals try exact Option.isSome_iff_exists.mpr ⟨_,by k_is⟩
  (case lcd=>exact rfl);(case lk=>k_is);(case lv=>exact rfl)
  (case ee_NoName=>kernel_rfl)
  (case ee_NoNumber=>kernel_rfl)
  (case ee_NoStack=>kernel_rfl)
  (case ee_NoWeight=>kernel_rfl)
  (case mm_NoName_NoName=>kernel_rfl)
  (case mm_NoName_NoStack=>kernel_rfl)
  (case mm_NoName_NoWeight=>kernel_rfl)
  (case mm_NoNumber_NoName=>kernel_rfl)
  (case mm_NoNumber_NoStack=>kernel_rfl)
  (case mm_NoNumber_NoWeight=>kernel_rfl)
  (case mm_NoStack_NoName=>kernel_rfl)
  (case mm_NoStack_NoStack=>kernel_rfl)
  (case mm_NoStack_NoWeight=>kernel_rfl)
  (case mm_NoWeight_NoName=>kernel_rfl)
  (case mm_NoWeight_NoStack=>kernel_rfl)
  (case mm_NoWeight_NoWeight=>kernel_rfl)
