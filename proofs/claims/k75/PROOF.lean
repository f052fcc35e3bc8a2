import PyProof.Rows.All
import Wide.All
import OpenK.AllK
import Wide.FinOn
import Lean
import PyProof.EqAt
import PyProof.EqKinds
import PyProof.TupleCall
import PyProof.CollectIter
import PyProof.StrCalls6
import PyProof.ToksMono
import PyProof.StrCalls2
import PyProof.StrCalls
import KE.KIntText
import PyProof.Draws
import PyProof.StrLawsTight
import PyProof.StrLawsChain
import PyProof.ZipIter
import PyProof.EnumMake
import PyProof.EnumFor
import PyProof.Rows.FactsT2
import PyProof.Rows.EnumRows
import PyProof.ConsumeWalk
import PyProof.ListMulRoad
import PyProof.AutoListH
import PyProof.MinMaxWalk
import PyProof.WalkInts
import PyProof.Rows.CallKwBuiltin
import PyProof.Rows.Range3
import PyProof.P3In
import PyProof.FactsAll.list_3
import PyProof.EqAt
import PyProof.StrOps2
import KE.KRevIter
import PyProof.StrBlockI
import KE.KNest
import KE.KLam
import PyProof.ListRange
import PyProof.Rows.FStr
import PyProof.Rows.SortRev
import PySem.Challenge.RW_keel_k75_what_a_desk_shows
set_option bootstrap.genMatcherCode false
set_option genSizeOf false
set_option Elab.async false
set_option linter.all false
set_option maxRecDepth 100000
theorem Ð:type_of% @List.getD_eq_getElem?_getD:=@List.getD_eq_getElem?_getD
theorem Ç:type_of% @List.getElem?_eq_getElem:=@List.getElem?_eq_getElem
theorem Â:type_of% @List.length_map:=@List.length_map
theorem Ô:type_of% @Nat.lt_of_lt_of_le:=@Nat.lt_of_lt_of_le
theorem È:type_of% @Nat.le_refl:=@Nat.le_refl
theorem Ó:type_of% @List.getElem?_eq_some_iff:=@List.getElem?_eq_some_iff
theorem É:type_of% @List.mem_cons_of_mem:=@List.mem_cons_of_mem
theorem Ò:type_of% @List.getElem?_map:=@List.getElem?_map
theorem ý:type_of% @List.mem_append_right:=@List.mem_append_right
theorem Þ:type_of% @List.getElem?_append_right:=@List.getElem?_append_right
theorem Ï:type_of% @Nat.ne_of_lt:=@Nat.ne_of_lt
theorem þ:type_of% @Nat.lt_of_lt_of_eq:=@Nat.lt_of_lt_of_eq
theorem Î:type_of% @List.length_append:=@List.length_append
theorem Ñ:type_of% @Nat.le_trans:=@Nat.le_trans
theorem Ü:type_of% @List.getElem?_set_ne:=@List.getElem?_set_ne
theorem Ú:type_of% @List.getElem?_eq_none:=@List.getElem?_eq_none
theorem â:type_of% @List.size_toArray:=@List.size_toArray
theorem ã:type_of% @List.getElem?_append_left:=@List.getElem?_append_left
theorem à:type_of% @List.length_set:=@List.length_set
theorem é:type_of% @List.length_replicate:=@List.length_replicate
theorem ê:type_of% @Nat.ne_of_gt:=@Nat.ne_of_gt
theorem ä:type_of% @List.mem_of_getElem?:=@List.mem_of_getElem?
theorem ç:type_of% @List.mem_singleton:=@List.mem_singleton
theorem Æ:type_of% @List.mem_map:=@List.mem_map
theorem ë:type_of% @List.mem_append:=@List.mem_append
theorem ÿ:type_of% @List.getElem?_replicate:=@List.getElem?_replicate
theorem å:type_of% @Nat.not_lt:=@Nat.not_lt
theorem ì:type_of% @List.length_take:=@List.length_take
theorem Ć:type_of% @Nat.add_sub_cancel:=@Nat.add_sub_cancel
theorem Ø:type_of% @List.map_append:=@List.map_append
theorem ß:type_of% @List.all_eq_true:=@List.all_eq_true
theorem Å:type_of% @List.mem_cons:=@List.mem_cons
theorem Ê:type_of% @List.map_cons:=@List.map_cons
theorem Ì:type_of% @List.mem_cons_self:=@List.mem_cons_self
theorem Í:type_of% @List.not_mem_nil:=@List.not_mem_nil
theorem Ë:type_of% @List.length_cons:=@List.length_cons
theorem Ù:type_of% @List.zip_cons_cons:=@List.zip_cons_cons
theorem Ý:type_of% @Bool.false_ne_true:=@Bool.false_ne_true
theorem æ:type_of% @List.lookup_cons:=@List.lookup_cons
theorem Ö:type_of% @Ne.symm:=@Ne.symm
theorem è:type_of% @List.getElem?_set_self:=@List.getElem?_set_self
theorem aRN:type_of% @PySem.W.mg_none_of:=@PySem.W.mg_none_of
theorem ò:type_of% @PySem.mem_of_lookup:=@PySem.mem_of_lookup
theorem á:type_of% @Bool.and_eq_true:=@Bool.and_eq_true
theorem Õ:type_of% @List.map_map:=@List.map_map
theorem Û:type_of% @List.append_nil:=@List.append_nil
theorem ï:type_of% @List.find?_cons:=@List.find?_cons
theorem ð:type_of% @List.drop_eq_getElem_cons:=@List.drop_eq_getElem_cons
theorem ó:type_of% @List.any_cons:=@List.any_cons
theorem Ā:type_of% @List.nodup_cons:=@List.nodup_cons
theorem í:type_of% @List.length_singleton:=@List.length_singleton
theorem î:type_of% @Nat.zero_le:=@Nat.zero_le
theorem Á:type_of% @if_pos:=@if_pos
theorem Ã:type_of% @if_neg:=@if_neg
theorem Ä:type_of% @And.intro:=@And.intro
set_option compiler.extract_closed false
noncomputable section
abbrev Zdb(x:PySem.Str):Prop:=(x == ("__debug__":PySem.Str))=false
abbrev Zcd(x:PySem.Str):Prop:=(x == ("__classdict__":PySem.Str))=false
abbrev Zse(a:PySem.Expr)(l:List PySem.Expr)(v:PySem.Env):Prop:=PySem.starEach (a::l) v=(false,PySem.eval a v)::PySem.starEach l v
abbrev Zbt(p:PySem.Pos)(l:List PySem.Expr)(v:PySem.Env):Prop:=(PySem.backTo p (PySem.starEach l v)).any (·.1)=false
abbrev Zfi(e:PySem.Expr)(v:PySem.Env):Prop:=∀x,PySem.foldedSetIterable e v x=pure x
local macro_rules(kind:=Lean.Parser.Tactic.tacticLet__)|s=>do
 let d:=s.getArgs.back![0]
 unless d.isOfKind ``Lean.Parser.Term.letPatDecl do Lean.Macro.throwUnsupported
 let k:=Lean.Syntax.node .none
 let o:=k `null
 let m:=fun y=>k ``Lean.Parser.Tactic.rcasesPatMed #[o #[y]]
 `(tactic|obtain $(⟨m (d[0].rewriteBottomUp fun x=>
  if x.isIdent then k ``Lean.Parser.Tactic.rcasesPat.one #[x] else
  if x.isOfKind ``Lean.Parser.Term.hole then k ``Lean.Parser.Tactic.rcasesPat.ignore #[x[0]] else
  if x.isOfKind ``Lean.Parser.Term.anonymousCtor then k ``Lean.Parser.Tactic.rcasesPat.tuple #[x[0],o (x[1].getArgs.map fun y=>if y.isAtom then y else k ``Lean.Parser.Tactic.rcasesPatLo #[m y,o #[]]),x[2]] else x)⟩):rcasesPatMed:=$(⟨d[4]⟩))
local macro_rules(kind:=Lean.Parser.Command.declaration)|s=>do
 let d:=s[1];let y:=d[2][1][0][1]
 if d.isOfKind ``Lean.Parser.Command.definition&&s[0][1].isNone&&!d[2][1].isNone&&!(y.getNumArgs<2||y.isOfKind ``Lean.Parser.Term.arrow||y.isOfKind ``Lean.Parser.Term.paren||y[0].getId==`M) then
  return s.setArg 1 (Lean.mkNode ``Lean.Parser.Command.theorem #[Lean.mkAtom "theorem",d[1],Lean.mkNode ``Lean.Parser.Command.declSig #[d[2][0],d[2][1][0]],d[3]])
 if (s[1].isOfKind ``Lean.Parser.Command.definition||s[1].isOfKind ``Lean.Parser.Command.abbrev||s[1].isOfKind ``Lean.Parser.Command.instance)&&s[0][4].isNone&&s[0][1].isNone then
  return s.setArg 0 (s[0].setArg 4 (Lean.mkNullNode #[Lean.mkNode ``Lean.Parser.Command.noncomputable #[Lean.mkAtom "noncomputable"]]))
 Lean.Macro.throwUnsupported
local macro_rules|`(⋯)=>`(by decide)
local macro_rules|`(∅)=>`(by lia)
local macro_rules|`(tactic|simp! [$as,*]$[$l:location]?)=>`(tactic|simp only[$as,*]$[$l]?)
local macro_rules|`(tactic|dsimp! [$as,*]$[$l:location]?)=>`(tactic|dsimp only[$as,*]$[$l]?)
local macro_rules| `(tactic|obtain $p:rcasesPatMed:=$e:term)=>`(tactic|first|(refine Classical.byContradiction λhn=>?_;rcases $e:term with $p:rcasesPatMed<;>refine hn ?_<;>clear hn)|rcases $e:term with $p:rcasesPatMed)
local macro_rules| `(tactic|rintro⟨$ps,*⟩)=>`(tactic|(intro x;obtain⟨$ps,*⟩:=x))
local macro_rules| `(tactic|rintro $p $q $ps*)=>`(tactic|(rintro $p;rintro $q $ps*))
local macro_rules| `(tactic|ac_nf0)=>`(tactic|first|exact Or.inl rfl|exact Or.inr rfl|exact Or.inr (Or.inl rfl)|exact Or.inr (Or.inr rfl))
theorem Zrf(h:True:=by rfl):True:=h
local macro_rules|`(↥$x)=>`(autoParam $x Zrf._auto_1)
theorem Zrd(h:True:=by decide):True:=h
local macro_rules|`(⇑$x)=>`(autoParam $x Zrd._auto_1)
theorem Zro(h:True:=by ac_nf0):True:=h
local macro_rules|`(#v[$x])=>`(autoParam $x Zro._auto_1)
theorem Zri(h:True:=by intro _;rfl):True:=h
local macro_rules|`(~~~$x)=>`(autoParam $x Zri._auto_1)
abbrev ZA:=PySem.Value->PySem.Shared->Prop
abbrev ZB:=List (PySem.Addr×PySem.Obj)
abbrev ZC:=PySem.W.Frag
abbrev ZD:=PySem.Str->Option PySem.Value
abbrev ZE:=List PySem.Str
abbrev ZF:=List Nat
abbrev ZG:=List PySem.PyData
abbrev ZH:=List PySem.Value
abbrev ZI:=List Int
abbrev ZJ:=Option PySem.PyData
abbrev ZK:=List PySem.Addr
abbrev ZL:=Option PySem.Value
abbrev ZM:=List (Option PySem.PyData)->Prop
namespace L2
open PySem PySem.Spec PyProof.Rows
abbrev eA:=Sum Int Str
def ES:eA->Value->Bool
 |.inl k,v=>Value.isInt k v
 |.inr x,v=>Value.isStrOf x v
def aN2(w:World):eA->Int
 |.inl k=>hashInt k
 |.inr x=>hashStr w x
def eG:∀{k:eA}{v:Value},ES k v=true->(∃i t,k=Sum.inl i/\v=Value.int i t)\/(∃x t,k=Sum.inr x/\v=Value.str x t)
 |.inl i,v,h=>by
  let⟨t,e⟩:=Value.isInt_shape (k:=i) (v:=v) h;exact .inl ⟨i,t,rfl,e⟩
 |.inr x,v,h=>by
  let⟨t,e⟩:=Value.isStrOf_shape (x:=x) (v:=v) h;exact .inr ⟨x,t,rfl,e⟩
def SO(i:Int)(t:Tok):ES (.inl i) (.int i t)=true:=by simp[ES,Value.isInt]
def SQ(x:Str)(t:Tok):ES (.inr x) (.str x t)=true:=by simp[ES,Value.isStrOf]
def aG7(a b:Int):decide ((Sum.inl a:eA)=Sum.inl b)=(a == b):=by
 grind
def aG8(a b:Str):decide ((Sum.inr a:eA)=Sum.inr b)=decide (a=b):=by
 grind
def aG9(a:Int)(b:Str):decide ((Sum.inl a:eA)=Sum.inr b)=false:=decide_eq_false (λq=>nomatch q)
def aHA(a:Str)(b:Int):decide ((Sum.inr a:eA)=Sum.inl b)=false:=decide_eq_false (λq=>nomatch q)
def cF(prog:Program)(w:World):(PySem.KeyKind prog w eA) where
 is:=ES
 hash:=aN2 w
 inj:=λv a b ha hb=>by
  rcases eG ha with ⟨i,t,rfl,rfl⟩|⟨x,t,rfl,rfl⟩
  .rcases eG hb with ⟨j,u,rfl,e⟩|⟨y,u,rfl,e⟩
   all_goals grind
  .rcases eG hb with ⟨j,u,rfl,e⟩|⟨y,u,rfl,e⟩
   all_goals grind
 byValue:=λk v h=>by
  rcases eG h with ⟨i,t,rfl,rfl⟩|⟨x,t,rfl,rfl⟩<;>rfl
 pyHash:=λhv h=>by
  rcases eG hv with ⟨i,t,rfl,rfl⟩|⟨x,t,rfl,rfl⟩
  .exact wpAny_pyHash_int h
  .exact wpAny_pyHash_str h
 eqBool:=λhu hv h=>by
  rcases eG hu with ⟨i,t,rfl,rfl⟩|⟨x,t,rfl,rfl⟩
  .rcases eG hv with ⟨j,u,rfl,rfl⟩|⟨y,u,rfl,rfl⟩
   .rw[aG7]at h;exact wpAny_eqBool_int h
   .rw[aG9]at h;exact SeqAt.EqAt.int_str i t y u _ _ _ _ h
  .rcases eG hv with ⟨j,u,rfl,rfl⟩|⟨y,u,rfl,rfl⟩
   .rw[aHA]at h;exact SeqAt.EqAt.str_int x t j u _ _ _ _ h
   .rw[aG8]at h;exact wpAny_eqBool_str h
 «strs»:=λk x t v h=>by
  rcases eG h with ⟨i,u,rfl,e⟩|⟨y,u,rfl,e⟩
  .exact nomatch e
  .injection e with e1 _
   subst e1;cases v<;>rfl
def JX(prog:Program)(w:World)(i:Int)(t:Tok):(cF prog w).is (.inl i) (.int i t)=true:=SO i t
def JY(prog:Program)(w:World)(x:Str)(t:Tok):(cF prog w).is (.inr x) (.str x t)=true:=SQ x t
inductive V where
 |non|bl (b:Bool)|int (i:Int)|str (x:Str)|byt (b:Array UInt8)|flt (b:UInt64)|ref (a:Addr)|ty (n:String)
 deriving DecidableEq
def cR:V->Value->Prop
 |.non,u=>u=Value.none
 |.bl b,u=>u=Value.bool b
 |.int i,u=>∃t,u=Value.int i t
 |.str x,u=>∃t,u=Value.str x t
 |.byt b,u=>∃t,u=Value.bytes b t
 |.flt b,u=>∃t,u=Value.float b t
 |.ref a,u=>u=Value.ref a
 |.ty n,u=>u=Value.type n
abbrev b7:List V->ZH->Prop:=Paired cR
def b7.length{xs:List V}{us:ZH}(r:b7 xs us):xs.length=us.length:=Paired.length r
def b7.get:∀{xs:List V}{us:ZH}{i:Nat}{x:V},b7 xs us->xs[i]?=some x->∃u,us[i]?=some u/\cR x u
 |_,_,_,_,.nil,e=>by simp at e
 |_,_,0,_,.cons r _,e=>by simp at e;subst e;exact⟨_,rfl,r⟩
 |_,_,i+1,x,.cons _ t,e=>by
  let⟨u,h1,h2⟩:=b7.get (i:=i) (x:=x) t (by simpa using e);exact⟨u,by simpa using h1,h2⟩
def b7.set{x:V}{u:Value}(r:cR x u):∀{xs:List V}{us:ZH}(i:Nat),b7 xs us->b7 (xs.set i x) (us.set i u)
 |_,_,_,.nil=>.nil
 |_,_,0,.cons _ t=>.cons r t
 |_,_,i+1,.cons q t=>.cons q (b7.set r i t)
def b7.append:∀{xs ys:List V}{us ws:ZH},b7 xs us->b7 ys ws->b7 (xs++ys) (us++ws)
 |_,_,_,_,.nil,s=>s
 |_,_,_,_,.cons r t,s=>.cons r (b7.append t s)
def b7.take:∀{xs:List V}{us:ZH}(n:Nat),b7 xs us->b7 (xs.take n) (us.take n)
 |_,_,0,_=>.nil
 |_,_,_+1,.nil=>.nil
 |_,_,n+1,.cons r t=>.cons r (b7.take n t)
def b7.drop:∀{xs:List V}{us:ZH}(n:Nat),b7 xs us->b7 (xs.drop n) (us.drop n)
 |_,_,0,r=>r
 |_,_,_+1,.nil=>.nil
 |_,_,n+1,.cons _ t=>b7.drop n t
def pX:Option V->ZL->Prop
 |some v,some u=>cR v u
 |none,none=>True
 |_,_=>False
def KV{κ:Type}:List (κ×V)->List (κ×Value)->Prop:=Paired λ(p:κ×V)(q:κ×Value)=>p.1=q.1/\cR p.2 q.2
def kV:eA->V
 |.inl i=>.int i
 |.inr x=>.str x
inductive HO where
  |lst (xs:List V)
  |tup (xs:List V)
  |dK (À:List (eA×V))|dT (À:List (List eA×V))
  |set (S:Int->Bool) (n:Nat)
  |ins (C dx:Addr) (fs:List (Str×V))
  |own (x:Addr)
  |xd (fs:List (Str×V))
  |met (f x:Addr)
  |rng (lo hi:Int)
  |frz (o:Obj) (u:HO)
  |tbl (ps:Array Value)
 |lam (t u:Value) (q:Str)
  |ext (φ:Heap->Prop)
abbrev Hp:=Addr->Option HO
def eB(H:Hp)(a:Addr)(o:HO):Hp:=λb=>if b=a then some o else H b
def cJ{H:Hp}{a:Addr}{o:HO}:eB H a o a=some o:=by unfold eB;rw[Á rfl]
def aZ{H:Hp}{a b:Addr}{o:HO}(h:b≠a):eB H a o b=H b:=by unfold eB;rw[Ã h]
def aKV{H:Hp}{a b:Addr}{o u:HO}(h:H a=some o)(h':H b=some u)(d:o≠u):a≠b:=by
 grind
def dN{H:Hp}{a b:Addr}{o:HO}(h:H a=some o)(h':H b=none):a≠b:=by
 grind
section
variable(P:Program)(w:World)
def fX(H:Hp)(h:Heap)(a:Addr):HO->Prop
 |.lst xs=>xs.length<=sizeLine/\∃(its:ZH)(n:Nat),b7 xs its/\h.get? a=some {cls:=.type "list",data:=.seq its.toArray n}
 |.tup xs=>xs.length<=sizeLine/\∃its:ZH,b7 xs its/\IsTup h a its.toArray
 |.dK À=>À.length<=sizeLine/\(a == sysModules)=false/\∃vs,KV À vs/\h.DictOf (cF P w) a vs
 |.dT À=>À.length<=sizeLine/\(a == sysModules)=false/\∃xs:List (List eA×Addr×Value),
   Paired (λ(p:List eA×V)(q:List eA×Addr×Value)=>p.1=q.1/\H q.2.1=some (.tup (p.1.map kV))/\cR p.2 q.2.2) À xs /\
   ∃o es ep,h.get? a=some o/\o.ExactDict/\o.data=.dict es ep/\es.toList=xs.map (entryOfKey (tupleKind (cF P w)))/\(xs.map (·.1)).Nodup
 |.set S n=>h.SetOf (intKind P w) a S n
 |.ins C dx fs=>H dx=some (.own a)/\fs.length<=1000/\dx≠a/\h.get? a=some (W.instObj C dx) /\
   ∃mA,h.Ns1 dx mA/\(∀f,pX (fs.lookup f) (mA f))/\PySem.Within mA (fs.map (·.1))
 |.own _=>∃o,h.get? a=some o
 |.xd fs=>∃mA,h.Ns1 a mA/\∀f,pX (fs.lookup f) (mA f)
 |.rng lo hi=>∃t u v,h.get? a=some {cls:=.type "range",data:=.fields #[.int lo t,.int hi u,.int 1 v]}
 |.frz o u=>h.get? a=some o/\fX H h a u
 |.tbl ps=>h.get? a=some {cls:=.none,data:=.fields ps}
 |.lam t u q=>∃ps:Array Value,h.get? a=some {cls:=.none,data:=.fields ps}/\(ps=#[]\/∃c,ps=#[t,u,.ref c]/\H c=some (.own a)/\c≠a/\h.CodeRec (.ref c) q)
 |.met f x=>h.get? a=some (W.methodObj (.ref f) (.ref x))
 |.ext φ=>φ h/\(∃o,h.get? a=some o)/\∀h1 h2:Heap,φ h1->(∀o,h1.get? a=some o->h2.get? a=some o)->φ h2
def sO(H:Hp)(h:Heap):Prop:=∀a o,H a=some o->fX P w H h a o
end
section
variable{P:Program}{w:World}{H H':Hp}{h h':Heap}{a:Addr}{o:HO}
def fX.lt(x:fX P w H h a o):a<h.objs.size:=by
 cases o with
 |lst xs=>let⟨_,_,_,_,e⟩:=x;exact Heap.lt_size e
 |tup xs=>let⟨_,_,_,p⟩:=x;exact p.lt
 |dK À=>let⟨_,_,_,_,o,_,_,e,_⟩:=x;exact Heap.lt_size e
 |dT À=>let⟨_,_,_,_,o,_,_,e,_⟩:=x;exact Heap.lt_size e
 |set S n=>let⟨o,_,_,_,e,_⟩:=x;exact Heap.lt_size e
 |ins C dx fs=>let⟨_,_,_,e,_⟩:=x;exact Heap.lt_size e
 |own y=>let⟨_,e⟩:=x;exact Heap.lt_size e
 |xd fs=>let⟨_,⟨_,_,_,e,_⟩,_⟩:=x;exact Heap.lt_size e
 |rng lo hi=>let⟨_,_,_,e⟩:=x;exact Heap.lt_size e
 |frz ob u=>let⟨e,_⟩:=x;exact Heap.lt_size e
 |tbl ps=>exact Heap.lt_size (show h.get? a=some _ from x)
 |lam t u q=>let⟨_,e,_⟩:=x;exact Heap.lt_size e
 |met f y=>exact Heap.lt_size (show h.get? a=some _ from x)
 |ext φ=>let⟨_,⟨_,e⟩,_⟩:=x;exact Heap.lt_size e
def Paired.mapP{α β:Type}{F G:α->β->Prop}:∀{l₁:List α}{l₂:List β},Paired F l₁ l₂->(∀a b,F a b->G a b)->Paired G l₁ l₂
 |_,_,.nil,_=>.nil
 |_,_,.cons r t,f=>.cons (f _ _ r) (Paired.mapP t f)
def fX.stay(x:fX P w H h a o)(k:∀b u,(b=a\/H b=some (.own a))->h.get? b=some u->h'.get? b=some u)(ho:∀b,H b=some (.own a)->H' b=some (.own a))(ht:∀b xs,H b=some (.tup xs)->H' b=some (.tup xs)):fX P w H' h' a o:=by
 induction o with
 |lst xs=>let⟨z,its,n,r,e⟩:=x;exact⟨z,its,n,r,k _ _ (.inl rfl) e⟩
 |tup xs=>let⟨z,its,r,ob,e,c⟩:=x;exact⟨z,its,r,ob,k _ _ (.inl rfl) e,c⟩
 |dK À=>let⟨z,y,vs,r,ob,es,ep,e,c⟩:=x;exact⟨z,y,vs,r,ob,es,ep,k _ _ (.inl rfl) e,c⟩
 |dT À=>
  let⟨z,y,xs,r,ob,es,ep,e,c⟩:=x;exact⟨z,y,xs,Paired.mapP r λp q z=>⟨z.1,ht _ _ z.2.1,z.2.2⟩,ob,es,ep,k _ _ (.inl rfl) e,c⟩
 |set S n=>let⟨ob,es,ep,t,e,c⟩:=x;exact⟨ob,es,ep,t,k _ _ (.inl rfl) e,c⟩
 |ins C dx fs=>
  let⟨d,z,ne,e,mA,⟨od,es,ep,e2,c⟩,r⟩:=x;exact⟨ho _ d,z,ne,k _ _ (.inl rfl) e,mA,⟨od,es,ep,k _ _ (.inr d) e2,c⟩,r⟩
 |own y=>let⟨ob,e⟩:=x;exact⟨ob,k _ _ (.inl rfl) e⟩
 |xd fs=>let⟨mA,⟨od,es,ep,e,c⟩,r⟩:=x;exact⟨mA,⟨od,es,ep,k _ _ (.inl rfl) e,c⟩,r⟩
 |rng lo hi=>let⟨t,u,v,e⟩:=x;exact⟨t,u,v,k _ _ (.inl rfl) e⟩
 |frz ob u ih=>let⟨e,q⟩:=x;exact⟨k _ _ (.inl rfl) e,ih q⟩
 |tbl ps=>
  have e:h.get? a=some {cls:=.none,data:=.fields ps}:=x;show h'.get? a=some {cls:=.none,data:=.fields ps};exact k a _ (.inl rfl) e
 |lam t u q=>
  let⟨ps,e,r⟩:=x;refine⟨ps,k _ _ (.inl rfl) e,?_⟩;rcases r with r|⟨c,r1,r2,r3,b,ob,vs,tq,e1,e2,e3,e4⟩
  .exact .inl r
  .cases e1
   exact .inr ⟨c,r1,ho _ r2,r3,c,ob,vs,tq,rfl,k _ _ (.inr r2) e2,e3,e4⟩
 |met f y=>
  have e:h.get? a=some (W.methodObj (.ref f) (.ref y)):=x;show h'.get? a=some (W.methodObj (.ref f) (.ref y));exact k a _ (.inl rfl) e
 |ext φ=>let⟨p,⟨o,e⟩,st⟩:=x;exact⟨st _ _ p λo q=>k _ _ (.inl rfl) q,⟨o,k _ _ (.inl rfl) e⟩,st⟩
def sO.lt(x:sO P w H h)(e:H a=some o):a<h.objs.size:=(x a o e).lt
def sO.fresh(x:sO P w H h)(e:h.objs.size<=a):H a=none:=by
 cases q:H a with
 |none=>rfl
 |some u=>exact absurd (Ô (x.lt q) e) (Nat.lt_irrefl _)
def sO.kept(x:sO P w H h)(k:∀b u,h.get? b=some u->h'.get? b=some u):sO P w H h':=λa o e=>
 (x a o e).stay (λb u _ q=>k b u q) (λ_ q=>q) λ_ _ q=>q
def sO.laid(x:sO P w H h)(k:∀b u,h.get? b=some u->h'.get? b=some u)(hp:h.objs.size<=a)(new:fX P w (eB H a o) h' a o):sO P w (eB H a o) h':=λb u e=>by
 have hn:=x.fresh hp;by_cases hb:b=a
 .subst hb;rw[cJ]at e;cases e;exact new
 .rw[aZ hb]at e
  exact(x b u e).stay (λc v _ q=>k c v q) (λc q=>by rw[aZ (dN q hn)];exact q) λc xs q=>by rw[aZ (dN q hn)];exact q
end
def Rd(H:Hp)(a:Addr)(u:HO):Prop:=H a=some u\/∃o,H a=some (.frz o u)
def Rd.ok{P:Program}{w:World}{H:Hp}{h:Heap}{a:Addr}{u:HO}(r:Rd H a u)(x:sO P w H h):fX P w H h a u:=by
 rcases r with r|⟨o,r⟩
 .exact x a u r
 .obtain⟨_,q⟩:=x a _ r
  exact q
def Ĝ:Option HO->Prop
 |some (.lst _)=>True
 |some (.dK _)=>True
 |some (.dT _)=>True
 |some (.set _ _)=>True
 |some (.ins _ _ _)=>True
 |some (.ext _)=>True
 |_=>False
section
variable{P:Program}{w:World}{H:Hp}{h h':Heap}{x e:Addr}{o':HO}
def sO.write(ok:sO P w H h)(mu:Ĝ (H x))(he:e=x\/H e=some (.own x))(k:∀b u,b≠e->h.get? b=some u->h'.get? b=some u)(heo:∃u,h'.get? e=some u)(new:fX P w (eB H x o') h' x o'):sO P w (eB H x o') h':=λb u q=>by
 have nown:∀c y,H c=some (.own y)->c≠x:=λc y r z=>by subst z;rw[r]at mu;exact mu
 have ntup:∀c xs,H c=some (.tup xs)->c≠x:=λc xs r z=>by subst z;rw[r]at mu;exact mu
 by_cases hb:b=x
 .subst hb;rw[cJ]at q;cases q;exact new
 .rw[aZ hb]at q
  by_cases hbe:b=e
  .have q':H b=some (.own x):=by
    rcases he with z|z
    .grind
    .rw[hbe];exact z
   rw[q]at q';cases q';let⟨v,hv⟩:=heo;exact⟨v,by rw[hbe];exact hv⟩
  .refine(ok b u q).stay (λc v hc r=>k c v ?_ r) (λc r=>by rw[aZ (nown c b r)];exact r) λc xs r=>by rw[aZ (ntup c xs r)];exact r
   grind
end
structure Un(fs ex:ZK)(H H':Hp)(h h':Heap):Prop where
 keep:∀b o,h.get? b=some o->H b=none->b∉fs->b∉ex->h'.get? b=some o
 slot:∀b o,h.get? b=some o->H b=none->b∈fs->b∉ex->∃sl,h'.get? b=some {o with slots:=sl}
 free:∀b o,h.get? b=some o->H b=none->b∉ex->H' b=none
 there:∀b o,h.get? b=some o->b∉ex->∃o',h'.get? b=some o'
 tups:∀b xs,H b=some (.tup xs)->H' b=some (.tup xs)
 frzs:∀b o u,H b=some (.frz o u)->H' b=some (.frz o u)
 tbls:∀b ps,H b=some (.tbl ps)->∃more,H' b=some (.tbl (ps++more))
section
variable{fs fs' ex ex':ZK}{H H1 H2:Hp}{h h1 h2 h':Heap}{a x e:Addr}{o:HO}
def Un.any(u:Un fs ex H H1 h h1){b:Addr}{ob:Obj}(q:h.get? b=some ob)(n:H b=none)(hx:b∉ex):∃sl,h1.get? b=some {ob with slots:=sl}:=by
 by_cases hb:b∈fs
 .exact u.slot b ob q n hb hx
 .exact⟨ob.slots,u.keep b ob q n hb hx⟩
def Un.kept(k:∀b u,h.get? b=some u->h'.get? b=some u):Un fs ex H H h h':=
 ⟨λb ob q _ _ _=>k b ob q,λb ob q _ _ _=>⟨ob.slots,k b ob q⟩,λ_ _ _ n _=>n,λb ob q _=>⟨ob,k b ob q⟩,λ_ _ q=>q,λ_ _ _ q=>q,λ_ ps q=>⟨#[],by rw[q];simp⟩⟩
def Un.refl:Un fs ex H H h h:=Un.kept λ_ _ q=>q
def Un.laid(k:∀b u,h.get? b=some u->h'.get? b=some u)(hp:h.objs.size<=a)(hn:H a=none):Un fs ex H (eB H a o) h h' where
 keep:=λb u q _ _ _=>k b u q
 slot:=λb u q _ _ _=>⟨u.slots,k b u q⟩
 free:=λb u q n _=>by rw[aZ (Ï (Ô (Heap.lt_size q) hp))];exact n
 there:=λb u q _=>⟨u,k b u q⟩
 tups:=λb xs q=>by rw[aZ (dN q hn)];exact q
 frzs:=λb u xs q=>by rw[aZ (dN q hn)];exact q
 tbls:=λb ps q=>⟨#[],by rw[aZ (dN q hn),q];simp⟩
def Un.write(mu:Ĝ (H x))(he:e=x\/H e=some (.own x))(k:∀b u,b≠e->h.get? b=some u->h'.get? b=some u)(heo:∃u,h'.get? e=some u):Un fs ex H (eB H x o) h h':=by
 have hx:∀b,H b=none->b≠x:=λb n z=>by subst z;rw[n]at mu;exact mu
 have hb:∀b,H b=none->b≠e:=λb n z=>by
  grind
 have hm:∀b u,H b=some u->¬Ĝ (some u)->b≠x:=λb u q nm z=>by grind
 refine⟨λb u q n _ _=>k b u (hb b n) q,λb u q n _ _=>⟨u.slots,k b u (hb b n) q⟩,λb u q n _=>by rw[aZ (hx b n)];exact n,λb u q _=>?_,
  λb xs q=>by rw[aZ (hm b _ q λz=>z)];exact q,λb u xs q=>by rw[aZ (hm b _ q λz=>z)];exact q,λb ps q=>⟨#[],by rw[aZ (hm b _ q λz=>z),q];simp⟩⟩
 grind
end
def ĩ(h:Heap)(H:Hp):ZK:=(List.range h.objs.size).filter λa=>(H a).isSome
def DR(h:Heap)(H:Hp):Heap:=W.hideAll h (ĩ h H)
def SR(h:Heap)(H:Hp):(DR h H).objs.size=h.objs.size:=W.hideAll_size _ _
def VG{h:Heap}{H:Hp}{b:Addr}{o:Obj}(e:h.get? b=some o)(n:H b=none):(DR h H).get? b=some o:=
 W.hideAll_get _ e λhm=>by
  have q:(H b).isSome=true:=(List.mem_filter.mp hm).2;rw[n]at q;simp at q
def aCF{h:Heap}{H:Hp}{b:Addr}{o:Obj}(e:(DR h H).get? b=some o):h.get? b=some o/\H b=none:=by
 have e':h.get? b=some o:=W.of_hideAll (ĩ h H) e;refine⟨e',?_⟩;cases q:H b with
 |none=>rfl
 |some x=>
  have hm:b∈ĩ h H:=List.mem_filter.mpr ⟨List.mem_range.mpr (Heap.lt_size e'),by simp[q]⟩;have z:(DR h H).get? b=none:=W.hideAll_none (ĩ h H) hm;rw[z]at e;cases e
def aCG(g h:Heap)(L:Addr):ZB:=(List.range h.objs.size).filterMap λa=>if a=L\/(g.get? a).isSome=true then none else (h.get? a).map λo=>(a,o)
def rest(g h:Heap)(L d:Addr):ZB:=(aCG g h L).filter λp=>decide (p.1≠d)
structure Mod(K:ZC)(mg:ZD)(base:Heap):Prop where
 kin:K.In base
 glob:base.Ns mainGlobals mg
 blt:∃mb,base.Ns builtinsNs mb/\∀x:Str,x≠"__name__"->mb x=bootBuiltins x
 nolimit:base.NoLimit
structure Cx where
 prog:Program
 w:World
 K:ZC
 mg:ZD
 base:Heap
 A:Around
 N:ZE
 s₀:Shared
 H₀:Hp
 env:Env
 outer:List Env
 stack:List Env
 ex:ZK
 fn:Str->Bool
 calm:Bool
 pn:ZB
 xe:ZA
def U8(l:List Env):ZK:=l.filterMap (·.frame)
abbrev Cx.fs(X:Cx):ZK:=U8 X.outer
def JZ(sc:Scope)(x:Str):Prop:=sc.names.lookup x=some .local\/sc.names.lookup x=some .cell\/sc.names.lookup x=some .free
def ď(sc:Scope)(x:Str):Prop:=sc.names.lookup x=some .local\/sc.names.lookup x=some .cell
def aN3(env:Env)(h:Heap)(m:ZD)(x:Str)(u:Value):Prop:=
 (env.kindOf x=some .local/\m x=some u)\/((env.kindOf x=some .cell\/env.kindOf x=some .free)/\∃c,env.cells.lookup x=some c/\h.IsCell c (some u))
structure Cx.Ok(X:Cx):Prop where
 mod:Mod X.K X.mg X.base
 kind:X.env.scope.kind=.function
 glob:X.env.globals=mainGlobals
 blt:X.env.builtins=builtinsNs
 above:X.s₀.heap.objs.size<=X.env.locals
 inj:∀x y c,X.env.cells.lookup x=some c->X.env.cells.lookup y=some c->x=y
 has:∀x,(X.env.kindOf x=some .cell\/X.env.kindOf x=some .free)->∃c,X.env.cells.lookup x=some c
 cab:∀x c,X.fn x=true->X.env.cells.lookup x=some c->X.s₀.heap.objs.size<=c
 hd:X.calm=true->X.A.handled=none
 frames:X.A.frames=some X.stack
 stk:X.stack=X.outer\/(X.stack=X.env::X.outer/\X.env.frame=some X.env.locals)
 exf:∀b∈X.ex,b≠X.env.locals/\∀x c,X.env.cells.lookup x=some c->c≠b
 bs:∀b o,X.base.get? b=some o->X.s₀.heap.get? b=some o/\X.H₀ b=none
 bsz:X.base.objs.size<=X.s₀.heap.objs.size
 noex:∀b o,X.base.get? b=some o->b∉X.ex
 exfs:∀b∈X.ex,b∉X.fs
 funs:X.s₀.heap.FunFrames X.base X.outer
 frf:∀b∈X.fs,X.H₀ b=none
structure bM(X:Cx)(U:ZB)(σ:List (Option V))(H:Hp)(s:Shared):Prop where
 ok:X.Ok
 os:s.os=X.s₀.os
 bare:AllBare s.gens
 base:Un X.fs X.ex X.H₀ H X.s₀.heap s.heap
 loc:∃m,s.heap.Ns X.env.locals m/\∀(i:Nat)(x:Str)(v:V),X.N[i]?=some x->σ[i]?=some (some v)->JZ X.env.scope x->∃u,cR v u/\aN3 X.env s.heap m x u
 cell:∀x c,X.env.cells.lookup x=some c->∃v,s.heap.IsCell c v
 free:H X.env.locals=none
 freeC:∀x c,X.env.cells.lookup x=some c->H c=none
 pin:∀p∈X.pn++U,s.heap.get? p.1=some p.2/\H p.1=none/\p.1≠X.env.locals/\p.1∉X.fs/\∀v,p.2.data≠.cell v
 hok:sO X.prog X.w H s.heap
 len:σ.length=X.N.length
section
variable{X:Cx}{U:ZB}{σ:List (Option V)}{H H':Hp}{s:Shared}{h':Heap}
def Cx.Ok.nofr(ok:X.Ok){b:Addr}{o:Obj}(e:X.base.get? b=some o):b∉X.fs:=λhb=>by
 have:=(ok.funs.mem hb).1;rw[e]at this;cases this
def bM.bs(I:bM X U σ H s):∀b o,X.base.get? b=some o->s.heap.get? b=some o/\H b=none:=λb o e=>
 ⟨I.base.keep b o (I.ok.bs b o e).1 (I.ok.bs b o e).2 (I.ok.nofr e) (I.ok.noex b o e),I.base.free b o (I.ok.bs b o e).1 (I.ok.bs b o e).2 (I.ok.noex b o e)⟩
def bM.bk(I:bM X U σ H s):∀b o,X.base.get? b=some o->s.heap.get? b=some o:=λb o e=>(I.bs b o e).1
def bM.mod(I:bM X U σ H s):Mod X.K X.mg X.base:=I.ok.mod
def bM.kIn(I:bM X U σ H s):X.K.In s.heap:=I.ok.mod.kin.keeps I.bk
def bM.lt(I:bM X U σ H s):X.env.locals<s.heap.objs.size:=let ⟨_,hn,_⟩:=I.loc;hn.lt
def bM.sz(I:bM X U σ H s):X.s₀.heap.objs.size<=s.heap.objs.size:=Ñ I.ok.above (Nat.le_of_lt I.lt)
def bM.nofs(I:bM X U σ H s){a:Addr}(h:s.heap.objs.size<=a):a∉X.fs:=λhb=>by
 let⟨_,o,ho,_⟩:=I.ok.funs.mem hb;exact absurd (Ô (Heap.lt_size ho) (Ñ I.sz h)) (Nat.lt_irrefl _)
def bM.cne(I:bM X U σ H s):∀x c,X.env.cells.lookup x=some c->c≠X.env.locals:=λx c e z=>by
 let⟨v,o,ho,hd⟩:=I.cell x c e;let⟨m,⟨o',es,ep,ho',hd',_⟩,_⟩:=I.loc
 grind
def bM.funs(I:bM X U σ H s):s.heap.FunFrames X.base X.outer:=by
 have all:∀(l:List Env),(∀b∈U8 l,b∈X.fs)->X.s₀.heap.FunFrames X.base l->s.heap.FunFrames X.base l:=by
  intro l
  induction l with
  |nil=>intro _ _;trivial
  |cons env r ih=>
   intro hs hl;let⟨hk,⟨L,o,hf,hn,ho,hd⟩,hr⟩:=hl;have hL:L∈X.fs:=hs L (by unfold U8;rw[List.filterMap_cons,hf];exact Ì)
   let⟨sl,e⟩:=I.base.slot L o ho (I.ok.frf L hL) hL λz=>I.ok.exfs L z hL;exact⟨hk,⟨L,_,hf,hn,e,hd⟩,ih (λb hb=>hs b (by unfold U8;rw[List.filterMap_cons,hf];exact É _ hb)) hr⟩
 exact all X.outer (λ_ hb=>hb) I.ok.funs
def bM.stack(I:bM X U σ H s):s.heap.FunFrames X.base X.stack:=by
 rcases I.ok.stk with e|⟨e,hf⟩
 .rw[e];exact I.funs
 .rw[e]
  let⟨m,hn,_⟩:=I.loc;refine .cons (by rw[I.ok.kind];decide) hf hn ?_ I.funs;exact Heap.get?_none_of_le (Ñ I.ok.bsz I.ok.above)
def bM.stkSub(I:bM X U σ H s):∀b∈U8 X.stack,b∈X.env.locals::X.fs:=λb hb=>by
 rcases I.ok.stk with e|⟨e,hf⟩
 .grind
 .rw[e]at hb
  unfold U8 at hb;rw[List.filterMap_cons,hf]at hb;exact hb
def bM.stkFree(I:bM X U σ H s):∀b∈U8 X.stack,H b=none:=λb hb=>by
 rcases Å.mp (I.stkSub b hb)with e|hb
 .rw[e];exact I.free
 .obtain⟨_,o,ho,_⟩:=I.ok.funs.mem hb
  exact I.base.free b o ho (I.ok.frf b hb) λz=>I.ok.exfs b z hb
def bM.step{g':Array GenState}{t':Nat}{d':Drawn}{ch:ZK}(I:bM X U σ H s)(hch:∀b∈ch,(b∈X.ex\/X.s₀.heap.objs.size<=b)/\b≠X.env.locals/\(∀x c,X.env.cells.lookup x=some c->c≠b)/\∀p∈X.pn++U,p.1≠b)(keep:∀b o,b≠X.env.locals->b∉X.fs->b∉ch->s.heap.get? b=some o->H b=none->h'.get? b=some o)(slot:∀b o,b≠X.env.locals->b∈X.fs->b∉ch->s.heap.get? b=some o->H b=none->∃sl,h'.get? b=some {o with slots:=sl})(free:∀b o,b∉ch->s.heap.get? b=some o->H b=none->H' b=none)(there:∀b o,b∉ch->s.heap.get? b=some o->∃o',h'.get? b=some o')(tups:∀b xs,H b=some (.tup xs)->H' b=some (.tup xs))(frzs:∀b o u,H b=some (.frz o u)->H' b=some (.frz o u))(tbls:∀b ps,H b=some (.tbl ps)->∃more,H' b=some (.tbl (ps++more)))(ns:∀m,s.heap.Ns X.env.locals m->h'.Ns X.env.locals m)(hok:sO X.prog X.w H' h')(hg:AllBare g'):
  bM X U σ H' {s with heap:=h',gens:=g',drawn:=d',toks:=t'}:=by
 have neL:∀b o,X.s₀.heap.get? b=some o->b≠X.env.locals:=λb o e=>Ï (Ô (Heap.lt_size e) I.ok.above);have neC:∀b o,X.s₀.heap.get? b=some o->b∉X.ex->b∉ch:=λb o e hx hb=>by
  rcases(hch b hb).1 with z|z
  .exact hx z
  .exact absurd (Ô (Heap.lt_size e) z) (Nat.lt_irrefl _)
 have cellK:∀x c,X.env.cells.lookup x=some c->∀v,s.heap.IsCell c v->h'.IsCell c v:=λx c e v⟨o,ho,hd⟩=>by
  have nch:c∉ch:=λz=>(hch c z).2.2.1 x c e rfl;by_cases hc:c∈X.fs
  .obtain⟨sl,q⟩:=slot c o (I.cne x c e) hc nch ho (I.freeC x c e)
   exact⟨_,q,hd⟩
  .exact⟨o,keep c o (I.cne x c e) hc nch ho (I.freeC x c e),hd⟩
 refine⟨I.ok,I.os,hg,⟨λb o e n hb hx=>?_,λb o e n hb hx=>?_,λb o e n hx=>?_,λb o e hx=>?_,λb xs e=>tups b xs (I.base.tups b xs e),λb o xs e=>frzs b o xs (I.base.frzs b o xs e),λb ps e=>?_⟩,?_,λx c e=>?_,?_,λx c e=>?_,λp hp=>?_,hok,I.len⟩
 .exact keep b o (neL b o e) hb (neC b o e hx) (I.base.keep b o e n hb hx) (I.base.free b o e n hx)
 .obtain⟨sl,e1⟩:=I.base.slot b o e n hb hx
  let⟨sl',e2⟩:=slot b _ (neL b o e) hb (neC b o e hx) e1 (I.base.free b o e n hx);exact⟨sl',e2⟩
 .obtain⟨o',e1⟩:=I.base.there b o e hx
  exact free b o' (neC b o e hx) e1 (I.base.free b o e n hx)
 .obtain⟨o',e1⟩:=I.base.there b o e hx
  exact there b o' (neC b o e hx) e1
 .obtain⟨m1,e1⟩:=I.base.tbls b ps e
  let⟨m2,e2⟩:=tbls b _ e1;exact⟨m1++m2,by rw[e2,Array.append_assoc]⟩
 .obtain⟨m,hn,hl⟩:=I.loc
  refine⟨m,ns m hn,λi x v e1 e2 e3=>?_⟩;let⟨u,r,l⟩:=hl i x v e1 e2 e3;refine⟨u,r,?_⟩;rcases l with l|⟨k,c,e,z⟩
  .exact .inl l
  .exact .inr ⟨k,c,e,cellK x c e _ z⟩
 .obtain⟨v,z⟩:=I.cell x c e
  exact⟨v,cellK x c e v z⟩
 .obtain⟨m,⟨o,_,_,ho,_⟩,_⟩:=I.loc
  exact free _ o (λz=>(hch _ z).2.1 rfl) ho I.free
 .obtain⟨v,o,ho,hd⟩:=I.cell x c e
  exact free c o (λz=>(hch c z).2.2.1 x c e rfl) ho (I.freeC x c e)
 .obtain⟨e,n,ne,nf,d⟩:=I.pin p hp
  have nch:p.1∉ch:=λz=>(hch p.1 z).2.2.2 p hp rfl;exact⟨keep p.1 p.2 ne nf nch e n,free p.1 p.2 nch e n,ne,nf,d⟩
def bM.un{t':Nat}(I:bM X U σ H s)(u:Un X.fs [] H H' s.heap h')(hok:sO X.prog X.w H' h'):bM X U σ H' {s with heap:=h',toks:=t'}:=by
 let⟨m,⟨o,es,ep,ho,r⟩,_⟩:=id I.loc;let⟨sl,hL⟩:=u.any ho I.free (by simp);exact I.step (g':=s.gens) (d':=s.drawn) (ch:=[]) (λ_ z=>nomatch z) (λb o _ hb _ e n=>u.keep b o e n hb (by simp)) (λb o _ hb _ e n=>u.slot b o e n hb (by simp)) (λb o _ e n=>u.free b o e n (by simp)) (λb o _ e=>u.there b o e (by simp)) u.tups u.frzs u.tbls (λm' hm=>by
  let⟨o',es',ep',ho',r'⟩:=hm;rw[ho]at ho';cases ho';exact⟨_,es',ep',hL,r'⟩) hok I.bare
def bM.call{g':Array GenState}{t':Nat}{d':Drawn}{ch:ZK}(I:bM X U σ H s)(u:Un (U8 X.stack) ch H H' s.heap h')(hok:sO X.prog X.w H' h')(hg:AllBare g')(hch:∀b∈ch,(b∈X.ex\/X.s₀.heap.objs.size<=b)/\b≠X.env.locals/\(∀x c,X.env.cells.lookup x=some c->c≠b)/\∀p∈X.pn++U,p.1≠b):
  bM X U σ H' {s with heap:=h',gens:=g',drawn:=d',toks:=t'}:=by
 let⟨m,⟨o,es,ep,ho,r⟩,_⟩:=id I.loc;let⟨sl,hL⟩:=u.any ho I.free λz=>(hch _ z).2.1 rfl;exact I.step (ch:=ch) hch (λb o hL hb hc e n=>u.keep b o e n (λz=>(Å.mp (I.stkSub b z)).elim hL hb) hc) (λb o _ _ hc e n=>u.any e n hc) (λb o hc e n=>u.free b o e n hc) (λb o hc e=>u.there b o e hc) u.tups u.frzs u.tbls (λm' hm=>by
  let⟨o',es',ep',ho',r'⟩:=hm;rw[ho]at ho';cases ho';exact⟨_,es',ep',hL,r'⟩) hok hg
def bM.turned{t':Nat}{it:Addr}(I:bM X U σ H s)(k:∀b o,b≠it->s.heap.get? b=some o->h'.get? b=some o)(hn:H it=none)(hL:it≠X.env.locals)(h1:it∈X.ex\/X.s₀.heap.objs.size<=it)(h2:∀x c,X.env.cells.lookup x=some c->c≠it)(h3:∀p∈X.pn++U,p.1≠it):bM X U σ H {s with heap:=h',toks:=t'}:=by
 have nit:∀b u,H b=some u->b≠it:=λb u e z=>by rw[z,hn]at e;cases e
 refine I.step (g':=s.gens) (d':=s.drawn) (ch:=[it]) (λb hb=>?_) (λb o _ _ hc e _=>k b o (λz=>hc (by simp[z])) e) (λb o _ _ hc e _=>⟨o.slots,k b o (λz=>hc (by simp[z])) e⟩) (λ_ _ _ _ n=>n)
  (λb o hc e=>⟨o,k b o (λz=>hc (by simp[z])) e⟩) (λ_ _ e=>e) (λ_ _ _ e=>e) (λb ps e=>⟨#[],by rw[e];simp⟩) (λm hm=>?_) (λb u e=>?_) I.bare
 .have e:b=it:=by simpa using hb
  subst e;exact⟨h1,hL,h2,h3⟩
 .obtain⟨o,es,ep,ho,r⟩:=hm
  exact⟨o,es,ep,k _ o (Ö hL) ho,r⟩
 .refine(I.hok b u e).stay (λc v hc q=>k c v ?_ q) (λ_ q=>q) λ_ _ q=>q
  rcases hc with z|z
  .rw[z];exact nit b u e
  .exact nit c _ z
def bM.tok(I:bM X U σ H s)(t:Nat):bM X U σ H {s with toks:=t}:=I.un (h':=s.heap) (t':=t) Un.refl I.hok
def bM.kept{t':Nat}(I:bM X U σ H s)(k:∀b u,s.heap.get? b=some u->h'.get? b=some u):bM X U σ H {s with heap:=h',toks:=t'}:=I.un (Un.kept k) (I.hok.kept k)
def bM.laid{a:Addr}{o:HO}{t':Nat}(I:bM X U σ H s)(k:∀b u,s.heap.get? b=some u->h'.get? b=some u)(hp:s.heap.objs.size<=a)(new:fX X.prog X.w (eB H a o) h' a o):
  bM X U σ (eB H a o) {s with heap:=h',toks:=t'}:=I.un (Un.laid k hp (I.hok.fresh hp)) (I.hok.laid k hp new)
def bM.write{x e:Addr}{o:HO}{t':Nat}(I:bM X U σ H s)(mu:Ĝ (H x))(he:e=x\/H e=some (.own x))(k:∀b u,b≠e->s.heap.get? b=some u->h'.get? b=some u)(heo:∃u,h'.get? e=some u)(new:fX X.prog X.w (eB H x o) h' x o):bM X U σ (eB H x o) {s with heap:=h',toks:=t'}:=I.un (Un.write mu he k heo) (I.hok.write mu he k heo new)
def bM.pins_of{pins':ZB}(I:bM X U σ H s)(h:∀p∈pins',s.heap.get? p.1=some p.2/\H p.1=none/\p.1≠X.env.locals/\p.1∉X.fs/\∀v,p.2.data≠.cell v):bM X pins' σ H s:=
 ⟨I.ok,I.os,I.bare,I.base,I.loc,I.cell,I.free,I.freeC,λp hp=>(ë.mp hp).elim (λz=>I.pin p (List.mem_append_left _ z)) (h p),I.hok,I.len⟩
def J1{N:ZE}(hN:N.Nodup){i j:Nat}{x:Str}(a:N[i]?=some x)(b:N[j]?=some x):i=j:=by
 let⟨h1,e1⟩:=Ó.mp a;let⟨h2,e2⟩:=Ó.mp b;exact(List.getElem_inj hN).mp (e1.trans e2.symm)
def ET{M:Model}{A:Around}{E:ZA}{i:Nat}{x:Str}{v:V}{u:Value}{Q:Unit->Shared->Prop}(I:bM X U σ H s)(hN:X.N.Nodup)(hi:X.N[i]?=some x)(hx:ď X.env.scope x)(r:cR v u)(h:∀s',bM X U (σ.set i (some v)) H s'->(∃a,Heap.SameBut a s.heap s'.heap/\(a=X.env.locals\/X.env.cells.lookup x=some a))->Q () s')(hf:X.fn x=true\/X.env.scope.names.lookup x=some .local:=by first|exact .inl rfl|exact .inr rfl|assumption):wpAny M A (storeName X.env x u) Q E s:=by
 let⟨m,hn,hl⟩:=id I.loc;have hcls:(X.env.scope.kind == .class || (X.env.scope.kind == .module && X.env.locals != X.env.globals))=false:=by rw[I.ok.kind];rfl
 have hiσ:i<σ.length:=by rw[I.len];exact(Ó.mp hi).1
 have cne:=I.cne;have tracked:∀{a:Addr}{h':Heap},(∃o,s.heap.get? a=some o/\H a=none)->Heap.SameBut a s.heap h'->sO X.prog X.w H h':=λ{a h'}ha hs b ob e=>by
  let⟨_,_,hfree⟩:=ha;refine(I.hok b ob e).stay (λc w' hc q=>(hs.2 c ?_).trans q) (λ_ q=>q) λ_ _ q=>q
  grind
 rcases hx with hk|hk
 .refine wpAny_storeName_local hk hn (λh' hn' hs=>?_) hcls
  let⟨oL,_,_,hoL,_⟩:=id hn;refine h _ ⟨I.ok,I.os,I.bare,⟨λb o e n hb hx=>?_,λb o e n hb hx=>?_,I.base.free,λb o e hx=>?_,I.base.tups,I.base.frzs,I.base.tbls⟩,⟨_,hn',λj y v' e1 e2 e3=>?_⟩,λy c e=>?_,I.free,I.freeC,λp hp=>?_,tracked ⟨oL,hoL,I.free⟩ hs,by simpa using I.len⟩ ⟨_,hs,.inl rfl⟩
  .exact(hs.2 b (Ï (Ô (Heap.lt_size e) I.ok.above))).trans (I.base.keep b o e n hb hx)
  .obtain⟨sl,e1⟩:=I.base.slot b o e n hb hx
   exact⟨sl,(hs.2 b (Ï (Ô (Heap.lt_size e) I.ok.above))).trans e1⟩
  .obtain⟨o',e1⟩:=I.base.there b o e hx
   exact⟨o',(hs.2 b (Ï (Ô (Heap.lt_size e) I.ok.above))).trans e1⟩
  .by_cases hj:j=i
   .subst hj
    rw[hi]at e1;cases e1;rw[è hiσ]at e2;cases e2;exact⟨u,r,.inl ⟨hk,by simp⟩⟩
   .rw[Ü (Ö hj)]at e2
    let⟨u',r',q⟩:=hl j y v' e1 e2 e3;refine⟨u',r',?_⟩;rcases q with ⟨k,e⟩|⟨k,c,e,z⟩
    .refine .inl ⟨k,?_⟩
     have:y≠x:=λe=>hj (J1 hN e1 (e▸hi));simp[this,e]
    .exact .inr ⟨k,c,e,z.sameBut hs (cne y c e)⟩
  .obtain⟨w',z⟩:=I.cell y c e
   exact⟨w',z.sameBut hs (cne y c e)⟩
  .obtain⟨e,n,ne,nf,d⟩:=I.pin p hp
   exact⟨(hs.2 p.1 ne).trans e,n,ne,nf,d⟩
 .have hfn:X.fn x=true:=by
   rcases hf with z|z
   .exact z
   .rw[z]at hk;cases hk
  let⟨c,hc⟩:=I.ok.has x (.inl hk);let⟨w',z⟩:=I.cell x c hc;refine wpAny_storeName_cell I.ok.kind hk hc z (λh' hc' hs=>?_);let⟨oc,hoc,hocd⟩:=id z;refine h {s with heap:=h'} ⟨I.ok,I.os,I.bare,⟨λb o e n hb hx=>?_,λb o e n hb hx=>?_,I.base.free,λb o e hx=>?_,I.base.tups,I.base.frzs,I.base.tbls⟩,⟨m,hn.sameBut hs (Ö (cne x c hc)),λj y v' e1 e2 e3=>?_⟩,λy c' e=>?_,I.free,I.freeC,λp hp=>?_,tracked ⟨oc,hoc,I.freeC x c hc⟩ hs,by simpa using I.len⟩ ⟨c,hs,.inr hc⟩
  .exact(hs.2 b (Ï (Ô (Heap.lt_size e) (I.ok.cab x c hfn hc)))).trans (I.base.keep b o e n hb hx)
  .obtain⟨sl,e1⟩:=I.base.slot b o e n hb hx
   exact⟨sl,(hs.2 b (Ï (Ô (Heap.lt_size e) (I.ok.cab x c hfn hc)))).trans e1⟩
  .obtain⟨o',e1⟩:=I.base.there b o e hx
   exact⟨o',(hs.2 b (Ï (Ô (Heap.lt_size e) (I.ok.cab x c hfn hc)))).trans e1⟩
  .by_cases hj:j=i
   .subst hj
    rw[hi]at e1;cases e1;rw[è hiσ]at e2;cases e2;exact⟨u,r,.inr ⟨.inl hk,c,hc,hc'⟩⟩
   .rw[Ü (Ö hj)]at e2
    let⟨u',r',q⟩:=hl j y v' e1 e2 e3;refine⟨u',r',?_⟩;rcases q with q|⟨k,c',e,z'⟩
    .exact .inl q
    .refine .inr ⟨k,c',e,z'.sameBut hs ?_⟩
     rintro rfl;exact hj (J1 hN e1 (I.ok.inj _ _ _ e hc▸hi))
  .by_cases hcc:c'=c
   .grind
   .obtain⟨w2,z2⟩:=I.cell y c' e
    exact⟨w2,z2.sameBut hs hcc⟩
  .obtain⟨e,n,ne,nf,d⟩:=I.pin p hp
   refine⟨(hs.2 p.1 ?_).trans e,n,ne,nf,d⟩
   grind
def AR{M:Model}{A:Around}{E:ZA}{i:Nat}{x:Str}{v:V}{u:Value}{Q:Unit->Shared->Prop}(I:bM X U σ H s)(hN:X.N.Nodup)(hi:X.N[i]?=some x)(hx:ď X.env.scope x)(r:cR v u)(h:∀s',bM X U (σ.set i (some v)) H s'->Q () s')(hf:X.fn x=true\/X.env.scope.names.lookup x=some .local:=by first|exact .inl rfl|exact .inr rfl|assumption):wpAny M A (storeName X.env x u) Q E s:=
 ET I hN hi hx r (λs' I' _=>h s' I') hf
def bM.call'{s':Shared}{ch:ZK}(I:bM X U σ H s)(ho:s'.os=s.os)(u:Un (U8 X.stack) ch H H' s.heap s'.heap)(hok:sO X.prog X.w H' s'.heap)(hg:AllBare s'.gens)(hch:∀b∈ch,(b∈X.ex\/X.s₀.heap.objs.size<=b)/\b≠X.env.locals/\(∀x c,X.env.cells.lookup x=some c->c≠b)/\∀p∈X.pn++U,p.1≠b):bM X U σ H' s':=by
 let⟨h',g',d',t',o'⟩:=s';have e:o'=s.os:=ho;subst e;exact I.call (g':=g') (t':=t') (d':=d') u hok hg hch
end
abbrev XK:=Value->Option Addr->Hp->Prop
abbrev St:=List (Option V)
abbrev VK:=V->Hp->Prop
abbrev TE:=St->Hp->VK->Prop
abbrev TT:=St->Hp->(Bool->Hp->Prop)->Prop
abbrev TA:=St->Hp->(List V->Hp->Prop)->Prop
structure DU where
 nx:St->Hp->Prop
 rt:VK
 bk:St->Hp->Prop:=λ_ _=>False
 ct:St->Hp->Prop:=λ_ _=>False
abbrev TS:=DU->St->Hp->Prop
def EP(X:Cx)(U:ZB)(σ:St)(Q:VK)(u:Value)(s':Shared):Prop:=∃v H',bM X U σ H' s'/\cR v u/\Q v H'
def TP(X:Cx)(U:ZB)(σ:St)(Q:Bool->Hp->Prop)(b:Bool)(s':Shared):Prop:=∃H',bM X U σ H' s'/\Q b H'
def AP(X:Cx)(U:ZB)(σ:St)(Q:List V->Hp->Prop)(us:ZH)(s':Shared):Prop:=∃vs H',bM X U σ H' s'/\b7 vs us/\Q vs H'
def SP(X:Cx)(U:ZB)(D:DU)(f:Flow)(s':Shared):Prop:=
 match f with
 |.next=>∃σ' H',bM X U σ' H' s'/\D.nx σ' H'
 |.brk=>∃σ' H',bM X U σ' H' s'/\D.bk σ' H'
 |.cont=>∃σ' H',bM X U σ' H' s'/\D.ct σ' H'
 |.ret u=>∃v σ' H',bM X U σ' H' s'/\cR v u/\D.rt v H'
def PE(X:Cx)(e:Expr)(t:TE):Prop:=
 ∀(U:ZB)(s:Shared)(σ:St)(H:Hp)(Q:VK),bM X U σ H s->t σ H Q->wpAny (model X.prog X.w) X.A (eval e X.env) (EP X U σ Q) X.xe s
def PT(X:Cx)(e:Expr)(t:TT):Prop:=
 ∀(U:ZB)(s:Shared)(σ:St)(H:Hp)(Q:Bool->Hp->Prop),bM X U σ H s->t σ H Q->wpAny (model X.prog X.w) X.A (isTrue e X.env (eval e X.env)) (TP X U σ Q) X.xe s
def PW(X:Cx)(e:Expr)(t:TT):Prop:=
 ∀(whole:Sem Value)(U:ZB)(s:Shared)(σ:St)(H:Hp)(Q:Bool->Hp->Prop),bM X U σ H s->t σ H Q->wpAny (model X.prog X.w) X.A (isTrue e X.env whole) (TP X U σ Q) X.xe s
def PW.pt{X:Cx}{e:Expr}{t:TT}(h:PW X e t):PT X e t:=h _
def PA(X:Cx)(es:List Expr)(t:TA):Prop:=
 ∀(pos:Pos)(U:ZB)(s:Shared)(σ:St)(H:Hp)(Q:List V->Hp->Prop),bM X U σ H s->t σ H Q->wpAny (model X.prog X.w) X.A (spliced (backTo pos (starEach es X.env))) (AP X U σ Q) X.xe s
def PS(X:Cx)(st:Stmt)(t:TS):Prop:=
 ∀(U:ZB)(s:Shared)(σ:St)(H:Hp)(D:DU),bM X U σ H s->t D σ H->wpAny (model X.prog X.w) X.A (exec st X.env) (SP X U D) X.xe s
def JT(X:Cx)(st:List Stmt)(t:TS):Prop:=
 ∀(U:ZB)(s:Shared)(σ:St)(H:Hp)(D:DU),bM X U σ H s->t D σ H->wpAny (model X.prog X.w) X.A (execs st X.env) (SP X U D) X.xe s
def dL{α:Type}{t:Sem α}{Q Q':α->Shared->Prop}{M:Model}{A:Around}{E:ZA}{s:Shared}(h:wpAny M A t Q E s)(hQ:∀a s,Q a s->Q' a s):wpAny M A t Q' E s:=wpAny_mono h hQ λ_ _ x=>x
section
variable{X:Cx}
def VH(i:Nat):TE:=λσ H Q=>∃v,σ[i]?=some (some v)/\Q v H
def tC(v:V):TE:=λ_ H Q=>Q v H
def iG{i:Nat}{x:Str}{pos:Pos}(hN:X.N[i]?=some x)(hv:JZ X.env.scope x)(hd:⇑(Zdb x))(hcd:⇑(Zcd x)):PE X (.Name x pos) (VH i):=by
 intro U s σ H Q I h;let⟨v,e,h⟩:=h;let⟨m,hn,hl⟩:=I.loc;let⟨u,r,l⟩:=hl i x v hN e hv;have fin:EP X U σ Q u s:=⟨v,H,I,r,h⟩;rcases l with ⟨hk,hm⟩|⟨hk,c,hc,hcell⟩
 .exact wpAny_Name (wpAny_loadName_local I.ok.kind hk hn hm fin) hd
 .rcases hk with hk|hk
  .exact wpAny_Name (wpAny_loadName_cell I.ok.kind hk hc hcell fin) hd
  .exact wpAny_Name (wpAny_loadName_free I.ok.kind hk hc hcell fin hcd) hd
def aHC{i j pos}:PE X (.Constant (.int i) j pos) (tC (.int i)):=λ_ _ _ H _ I h=>wpAny_Constant_int ⟨.int i,H,I.tok _,⟨_,rfl⟩,h⟩
def aKX{b j pos}:PE X (.Constant (.bool b) j pos) (tC (.bl b)):=λ_ _ _ H _ I h=>Constant_bool ⟨.bl b,H,I,rfl,h⟩
def aHD{x j pos}:PE X (.Constant (.str x) j pos) (tC (.str x)):=λ_ _ _ H _ I h=>Calls.Constant_str ⟨.str x,H,I.tok _,⟨_,rfl⟩,h⟩
def Gl(X:Cx)(x:Str):Prop:=X.env.kindOf x=some .globalImplicit
def rZ{E:ZA}{U:ZB}{s:Shared}{σ:St}{H:Hp}{x:Str}{u:Value}{pos:Pos}{Q:ZA}(I:bM X U σ H s)(hg:Gl X x)(hm:X.mg x=some u)(h:Q u s)(hd:⇑(Zdb x)):wpAny (model X.prog X.w) X.A (eval (.Name x pos) X.env) Q E s:=
 Calls.Name_function_global I.ok.kind hg (Calls.loadGlobal_global (by rw[I.ok.glob];exact I.mod.glob.keeps I.bk) hm h) hd
def p7{E:ZA}{U:ZB}{s:Shared}{σ:St}{H:Hp}{x:Str}{u:Value}{pos:Pos}{Q:ZA}(I:bM X U σ H s)(hg:Gl X x)(hm:X.mg x=none)(hv:bootBuiltins x=some u)(h:Q u s)(hn:⇑(x≠"__name__"))(hd:⇑(Zdb x)):wpAny (model X.prog X.w) X.A (eval (.Name x pos) X.env) Q E s:=by
 let⟨mb,h1,h2⟩:=I.mod.blt;exact Calls.Name_function_global I.ok.kind hg (Calls.loadGlobal_builtin (by rw[I.ok.glob];exact I.mod.glob.keeps I.bk) hm (by rw[I.ok.blt];exact h1.keeps I.bk) ((h2 x hn).trans hv) h) hd
def P1{x:Str}{v:V}{u:Value}{pos:Pos}(hg:Gl X x)(hm:X.mg x=some u)(r:cR v u)(hd:⇑(Zdb x)):PE X (.Name x pos) (tC v):=
 λ_ _ _ H _ I h=>rZ I hg hm ⟨v,H,I,r,h⟩ hd
def aCH{x:Str}{v:V}{u:Value}{pos:Pos}(hg:Gl X x)(hm:X.mg x=none)(hv:bootBuiltins x=some u)(r:cR v u)(hn:⇑(x≠"__name__"))(hd:⇑(Zdb x)):PE X (.Name x pos) (tC v):=
 λ_ _ _ H _ I h=>p7 I hg hm hv ⟨v,H,I,r,h⟩ hn hd
variable{a b:Expr}{ta tb:TE}{pos:Pos}
def PC(X:Cx)(op:CmpOp)(a b:Expr)(t:TE):Prop:=
 ∀(U:ZB)(s:Shared)(σ:St)(H:Hp)(Q:VK),bM X U σ H s->t σ H Q ->
  wpAny (model X.prog X.w) X.A (eval a X.env) (λv s₁=>wpAny (model X.prog X.w) X.A (eval b X.env) (λu s₂=>wpAny (model X.prog X.w) X.A (compareOp op v u) (EP X U σ Q) X.xe s₂) X.xe s₁) X.xe s
def J2(b:Expr){op:CmpOp}(h:op≠.In)(h2:op≠.NotIn):behindInMarks op b=false:=by
 have e1:(op == CmpOp.In)=false:=by cases op<;>first|rfl|exact absurd rfl h
 have e2:(op == CmpOp.NotIn)=false:=by cases op<;>first|rfl|exact absurd rfl h2
 cases b<;>simp[behindInMarks,e1,e2]
def tB(t:TE):TT:=λσ H Q=>t σ H λx H1=>∃c,x=.bl c/\Q c H1
def aHE{op:CmpOp}{t:TE}(h:PC X op a b t)(h1:behindInMarks op b=false:=by first|exact J2 _ ⋯ ⋯|rfl):PE X (.Compare a [op] [b] pos) t:=λU s σ H Q I hw=>wpAny_Compare1 (h U s σ H Q I hw) h1
def M3{op:CmpOp}{t:TE}(h:PC X op a b t)(h1:behindInMarks op b=false:=by first|exact J2 _ ⋯ ⋯|rfl):PT X (.Compare a [op] [b] pos) (tB t):=by
 intro U s σ H Q I hw;refine wpAny_isTrue_Compare1 (dL (h U s σ H _ I hw) λv s1 h1=>dL h1 λu s2 h2=>dL h2 λc s3 zQ=>?_) h1;let⟨x,H1,I1,r1,q1⟩:=zQ;let⟨d,rfl,q⟩:=q1;cases r1;exact wpAny_truthy_bool ⟨H1,I1,q⟩
def aHF{e:Expr}{t:TE}(h:PE X e t)(he: ~~~(∀whole,isTrue e X.env whole=(do let v <- whole;standAt e.pos;holding [v] (truthy v)))):PT X e (tB t):=by
 intro U s σ H Q I hw;refine isTrue_plain (dL (h U s σ H _ I hw) λv s1 zQ=>?_) (he _);let⟨x,H1,I1,r1,q1⟩:=zQ;let⟨d,rfl,q⟩:=q1;cases r1;exact wpAny_truthy_bool ⟨H1,I1,q⟩
variable{tA tB':TT}{rest:List Expr}
def aN4(t u:TT):TT:=λσ H Q=>t σ H λc H1=>if c=true then u σ H1 Q else Q false H1
def aPX(t u:TT):TT:=λσ H Q=>t σ H λc H1=>if c=true then Q true H1 else u σ H1 Q
def aN5(t:TT):TT:=λσ H Q=>t σ H λc H1=>Q (!c) H1
def aCI(ha:PT X a tA):PW X (.BoolOp .And [a] pos) tA:=by
 intro wh U s σ H Q I h;refine isTrue_and (dL (ha U s σ H Q I h) λc s1 e=>?_);cases c with
 |true=>exact isTrue_and_nil e
 |false=>exact e
def aHG(ha:PT X a tA):PW X (.BoolOp .Or [a] pos) tA:=by
 intro wh U s σ H Q I h;refine isTrue_or (dL (ha U s σ H Q I h) λc s1 e=>?_);cases c with
 |false=>exact isTrue_or_nil e
 |true=>exact e
def aHH(ha:PT X a tA)(hb:PW X (.BoolOp .And (b::rest) pos) tB'):PW X (.BoolOp .And (a::b::rest) pos) (aN4 tA tB'):=by
 intro wh U s σ H Q I h;refine isTrue_and (dL (ha U s σ H _ I h) λc s1 zQ=>?_);let⟨H1,I1,q1⟩:=zQ;cases c with
 |true=>exact hb wh U s1 σ H1 Q I1 q1
 |false=>exact⟨H1,I1,q1⟩
def aKY(ha:PT X a tA)(hb:PW X (.BoolOp .Or (b::rest) pos) tB'):PW X (.BoolOp .Or (a::b::rest) pos) (aPX tA tB'):=by
 intro wh U s σ H Q I h;refine isTrue_or (dL (ha U s σ H _ I h) λc s1 zQ=>?_);let⟨H1,I1,q1⟩:=zQ;cases c with
 |true=>exact⟨H1,I1,q1⟩
 |false=>exact hb wh U s1 σ H1 Q I1 q1
def aHI(ha:PT X a tA):PT X (.UnaryOp .Not a pos) (aN5 tA):=by
 intro U s σ H Q I h;exact isTrue_not (ha U s σ H (λc H1=>Q (!c) H1) I h)
def aKZ(ta tb:TE):TE:=λσ H Q=>ta σ H λx H1=>∃c,x=.bl c/\if c=true then tb σ H1 Q else Q (.bl false) H1
def aHJ{op}{t:TE}(h:PE X a t):PE X (.BoolOp op [a] pos) t:=λU s σ H Q I hw=>BoolOp_one (h U s σ H Q I hw)
def aHK(ha:PE X a ta)(hb:PE X (.BoolOp .And (b::rest) pos) tb):PE X (.BoolOp .And (a::b::rest) pos) (aKZ ta tb):=by
 intro U s σ H Q I h;refine BoolOp_and (dL (ha U s σ H _ I h) λv s1 zQ=>?_);let⟨x,H1,I1,r1,q1⟩:=zQ;let⟨c,rfl,q1⟩:=q1;cases r1;refine wpAny_truthy_bool ?_;cases c with
 |true=>exact hb U s1 σ H1 Q I1 q1
 |false=>exact⟨.bl false,H1,I1,rfl,q1⟩
def aPY(t:TT)(ta tb:TE):TE:=λσ H Q=>t σ H λc H1=>if c=true then ta σ H1 Q else tb σ H1 Q
def VI{c:Expr}(hc:PT X c tA)(ha:PE X a ta)(hb:PE X b tb):PE X (.IfExp c a b pos) (aPY tA ta tb):=by
 intro U s σ H Q I h;refine wpAny_IfExp (dL (hc U s σ H _ I h) λd s1 zQ=>?_);let⟨H1,I1,q1⟩:=zQ;cases d with
 |true=>exact ha U s1 σ H1 Q I1 q1
 |false=>exact hb U s1 σ H1 Q I1 q1
end
def gM(K:ZC)(H:Hp)(a:Addr)(xs:List V):Prop:=
 Rd H a (.lst xs) \/
  ∃(o:Obj)(its:Array Value)(n:Nat),K.lookup a=some o/\o.cls=.type "list"/\o.dict=none/\o.data=.seq its n/\its.size<=sizeLine/\b7 xs its.toList
def tX(K:ZC)(H:Hp)(a:Addr)(xs:List V):Prop:=
 Rd H a (.tup xs) \/
  ∃(o:Obj)(its:Array Value)(n:Nat),K.lookup a=some o/\o.cls=.type "tuple"/\o.data=.seq its n/\its.size<=sizeLine/\b7 xs its.toList
def aN6:Value->Option V
 |.none=>some .non
 |.bool b=>some (.bl b)
 |.int i _=>some (.int i)
 |.str x _=>some (.str x)
 |.bytes b _=>some (.byt b)
 |.float b _=>some (.flt b)
 |.ref a=>some (.ref a)
 |.type n=>some (.ty n)
 |_=>none
def cR.abs{x:V}{u:Value}(r:cR x u):aN6 u=some x:=by
 cases x with
 |non=>cases r;rfl
 |bl _=>cases r;rfl
 |int _=>let⟨t,rfl⟩:=r;rfl
 |str _=>let⟨t,rfl⟩:=r;rfl
 |byt _=>let⟨t,rfl⟩:=r;rfl
 |flt _=>let⟨t,rfl⟩:=r;rfl
 |ref _=>cases r;rfl
 |ty _=>cases r;rfl
def cR.inj{x y:V}{u:Value}(r:cR x u)(q:cR y u):x=y:=Option.some.inj (r.abs.symm.trans q.abs)
def b7.inj:∀{xs ys:List V}{us:ZH},b7 xs us->b7 ys us->xs=ys
 |_,_,_,.nil,.nil=>rfl
 |_,_,_,.cons r t,.cons r' t'=>by rw[r.inj r',b7.inj t t']
section
variable{X:Cx}{U:ZB}{σ:St}{H:Hp}{s:Shared}{a:Addr}{xs ys:List V}
def gM.of{K:ZC}(h:H a=some (.lst xs)):gM K H a xs:=.inl (.inl h)
def tX.of{K:ZC}(h:H a=some (.tup xs)):tX K H a xs:=.inl (.inl h)
def bM.list(I:bM X U σ H s)(h:gM X.K H a xs):∃its:ZH,b7 xs its/\PlainL s.heap a its.toArray/\xs.length<=sizeLine:=by
 rcases h with h|⟨o,its,n,hk,hc,hd,hs,hz,r⟩
 .obtain⟨z,its,n,r,e⟩:=h.ok I.hok
  exact⟨its,r,⟨_,n,e,rfl,rfl,rfl⟩,z⟩
 .refine⟨its.toList,r,⟨o,n,I.kIn a o hk,hc,hd,by simpa using hs⟩,?_⟩
  have e:=r.length
  grind
def bM.tuple(I:bM X U σ H s)(h:tX X.K H a xs):∃its:ZH,b7 xs its/\IsTup s.heap a its.toArray/\xs.length<=sizeLine:=by
 rcases h with h|⟨o,its,n,hk,hc,hs,hz,r⟩
 .obtain⟨z,its,r,p⟩:=h.ok I.hok
  exact⟨its,r,p,z⟩
 .refine⟨its.toList,r,⟨o,I.kIn a o hk,hc,n,by simpa using hs⟩,?_⟩
  have e:=r.length
  grind
def bM.list_inj(I:bM X U σ H s)(h:gM X.K H a xs)(h':gM X.K H a ys):xs=ys:=by
 let⟨its,r,⟨o,n,e,_,_,d⟩,_⟩:=I.list h;let⟨its',r',⟨o',n',e',_,_,d'⟩,_⟩:=I.list h';rw[e]at e';cases e';rw[d]at d';injection d' with d1 _;have:its=its':=by simpa using congrArg Array.toList d1
 subst this;exact r.inj r'
def bM.tuple_inj(I:bM X U σ H s)(h:tX X.K H a xs)(h':tX X.K H a ys):xs=ys:=by
 let⟨its,r,⟨o,e,_,n,d⟩,_⟩:=I.tuple h;let⟨its',r',⟨o',e',_,n',d'⟩,_⟩:=I.tuple h';rw[e]at e';cases e';rw[d]at d';injection d' with d1 _;have:its=its':=by simpa using congrArg Array.toList d1
 subst this;exact r.inj r'
end
section
variable{X:Cx}{U:ZB}{σ:St}{H:Hp}{s:Shared}{E:ZA}
end
section
variable{X:Cx}{st:Stmt}{rest:List Stmt}{t u:TS}{e:Expr}{te:TE}{pos:Pos}
def aK0:TS:=λD σ H=>D.nx σ H
def Ŵ(t u:TS):TS:=λD σ H=>t {D with nx:=u D} σ H
def aCJ:JT X [] aK0:=λ_ _ σ H _ I h=>wpAny_execs_nil ⟨σ,H,I,h⟩
def VJ(h1:PS X st t)(h2:JT X rest u):JT X (st::rest) (Ŵ t u):=by
 intro U s σ H D I h;refine wpAny_execs_cons (dL (h1 U s σ H {D with nx:=u D} I h) λf s1 q=>?_);cases f with
 |next=>
  let⟨σ',H',I',q⟩:=q;exact h2 U s1 σ' H' D I' q
 |ret v=>exact q
 |brk=>exact q
 |cont=>exact q
def aCK(h1:PS X st t):JT X [st] t:=by
 intro U s σ H D I h;refine wpAny_execs_cons (dL (h1 U s σ H D I h) λf s1 q=>?_);cases f with
 |next=>exact wpAny_execs_nil q
 |ret v=>exact q
 |brk=>exact q
 |cont=>exact q
def bM.quiet{U:ZB}{σ:St}{H:Hp}{s:Shared}(I:bM X U σ H s):interactive X.env=false:=by simp[interactive,I.ok.kind]
def aK2(te:TE):TS:=λD σ H=>te σ H λ_ H1=>D.nx σ H1
def aCL(he:PE X e te)(hs:↥(swapsWith e none pos.line X.env=pure false)):PS X (.Expr e pos) (aK2 te):=by
 intro U s σ H D I h;exact wpAny_Expr_any (dL (he U s σ H _ I h) λv s1 zQ=>by let⟨x,H1,I1,r1,q1⟩:=zQ;exact ⟨σ,H1,I1,q1⟩) I.quiet hs
def ŵ(te:TE):TS:=λD σ H=>te σ H D.rt
def aHL(he:PE X e te):PS X (.Return (some e) pos) (ŵ te):=by
 intro U s σ H D I h;exact wpAny_Return_some (dL (he U s σ H _ I h) λv s1 zQ=>by let⟨x,H1,I1,r1,q1⟩:=zQ;exact ⟨x,σ,H1,I1,r1,q1⟩)
def aN7(c:TT)(t u:TS):TS:=λD σ H=>c σ H λb H1=>if b=true then t D σ H1 else u D σ H1
def aK4{c:Expr}{a b:List Stmt}{tc:TT}(hc:PT X c tc)(ha:JT X a t)(hb:JT X b u):PS X (.If c a b pos) (aN7 tc t u):=by
 intro U s σ H D I h;refine wpAny_If (dL (hc U s σ H _ I h) λd s1 zQ=>?_);let⟨H1,I1,q1⟩:=zQ;cases d with
 |true=>exact ha U s1 σ H1 D I1 q1
 |false=>exact hb U s1 σ H1 D I1 q1
def aHM:TS:=λ_ _ _=>False
def VL:PS X st aHM:=λ_ _ _ _ _ _ h=>h.elim
end
abbrev TG:=V->St->Hp->(St->Hp->Prop)->Prop
abbrev VM:=List V->St->Hp->(St->Hp->Prop)->Prop
def PG(X:Cx)(target:Expr)(t:TG):Prop:=
 ∀(U:ZB)(s:Shared)(σ:St)(H:Hp)(v:V)(u:Value)(Q:St->Hp->Prop),bM X U σ H s->cR v u->t v σ H Q ->
  wpAny (model X.prog X.w) X.A (assign target X.env u) (λ_ s'=>∃σ' H',bM X U σ' H' s'/\Q σ' H') X.xe s
def ĝ(X:Cx)(ts:List Expr)(t:VM):Prop:=
 ∀(U:ZB)(s:Shared)(σ:St)(H:Hp)(vs:List V)(us:ZH)(Q:St->Hp->Prop),bM X U σ H s->b7 vs us->t vs σ H Q ->
  wpAny (model X.prog X.w) X.A (assignInOrder ((assignEach ts X.env).map (·.2)) us) (λ_ s'=>∃σ' H',bM X U σ' H' s'/\Q σ' H') X.xe s
abbrev ņ:=V->V->V->Hp->(Hp->Prop)->Prop
def Ŷ(X:Cx)(t:ņ):Prop:=
 ∀(U:ZB)(s:Shared)(σ:St)(H:Hp)(o i v:V)(ov iv u:Value)(Q:Hp->Prop),bM X U σ H s->cR o ov->cR i iv->cR v u->t o i v H Q ->
  wpAny (model X.prog X.w) X.A (setItem ov iv u) (λ_ s'=>∃H',bM X U σ H' s'/\Q H') X.xe s
section
variable{X:Cx}{pos:Pos}
def p8(i:Nat):TG:=λv σ H Q=>Q (σ.set i (some v)) H
def aP{i:Nat}{x:Str}(hN:X.N.Nodup)(hi:X.N[i]?=some x)(hx:ď X.env.scope x)(hf:X.fn x=true\/X.env.scope.names.lookup x=some .local:=by first|exact .inl rfl|exact .inr rfl|assumption):PG X (.Name x pos) (p8 i):=by
 intro U s σ H v u Q I r h;exact wpAny_assign_Name (AR I hN hi hx r (λs' I'=>⟨_,H,I',h⟩) hf)
def VN:VM:=λvs σ H Q=>vs=[]/\Q σ H
def J3(t:TG)(u:VM):VM:=λvs σ H Q=>∃v r,vs=v::r/\t v σ H λσ' H'=>u r σ' H' Q
def dM:ĝ X [] VN:=by
 intro U s σ H vs us Q I r h;let⟨e,h⟩:=h;subst e;cases r;exact assignInOrder_nil ⟨σ,H,I,h⟩
def bG{e:Expr}{es:List Expr}{t:TG}{u:VM}(h1:PG X e t)(h2:ĝ X es u)(hs:↥((assignEach (e::es) X.env).map (·.2)=assign e X.env::(assignEach es X.env).map (·.2))):ĝ X (e::es) (J3 t u):=by
 intro U s σ H vs us Q I r h;let⟨v,vr,e1,h⟩:=h;subst e1;cases r with
 |cons r rr=>
  rw[hs];refine assignInOrder_cons (dL (h1 U s σ H _ _ _ I r h) λ_ s1 zQ=>?_);let⟨σ1,H1,I1,q1⟩:=zQ;exact h2 U s1 σ1 H1 _ _ Q I1 rr q1
def Ň(K:ZC)(n:Nat)(t:VM):TG:=λv σ H Q=>∃a xs,v=.ref a/\tX K H a xs/\xs.length=n/\t xs σ H Q
def eY{es:List Expr}{k:Nat}{t:VM}{n:Nat}(hc:X.calm=true)(h:ĝ X es t)(hn:↥((assignEach es X.env).length=n))(hst:↥((assignEach es X.env).findIdx? (·.1)=none)):PG X (.Tuple es k pos) (Ň X.K n t):=by
 intro U s σ H v u Q I r hw;let⟨a,xs,e1,hq,hl,hw⟩:=hw;subst e1;cases r;let⟨its,rv,ht,hz⟩:=I.tuple hq;refine assign_Tuple_tuple (I.ok.hd hc) ht (by simp[hn,<- hl,rv.length]) hst λh' hx=>?_;have I1:bM X U σ H {s with heap:=h'}:=I.kept (t':=s.toks) λb o e=>hx b o (Ï (Heap.lt_size e)) e;exact h U _ σ H xs _ Q I1 (by simpa using rv) hw
def aN8(to ti:TE)(t:ņ):TG:=λv σ H Q=>to σ H λo H1=>ti σ H1 λi H2=>t o i v H2 λH3=>Q σ H3
def aHP{o i:Expr}{to ti:TE}{t:ņ}(ho:PE X o to)(hi:PE X i ti)(hs:Ŷ X t)(ha: ~~~(∀v,assign (.Subscript o i pos) X.env v=(do
   let ov <- holding [v] (eval o X.env);let iv <- holding [v,ov] (eval i X.env)
   standAt pos
   holding [v,ov,iv] (setItem ov iv v)
   release [v,ov,iv] []))):PG X (.Subscript o i pos) (aN8 to ti t):=by
 intro U s σ H v u Q I r h;rw[ha];refine wpAny_bind (wpAny_holding (dL (ho U s σ H _ I h) λov s1 zQ=>?_));let⟨x,H1,I1,r1,q1⟩:=zQ;refine wpAny_bind (wpAny_holding (dL (hi U s1 σ H1 _ I1 q1) λiv s2 zQ=>?_));let⟨y,H2,I2,r2,q2⟩:=zQ;refine wpAny_bind (wpAny_standAt (wpAny_bind (wpAny_holding (dL (hs U s2 σ H2 x y v ov iv u _ I2 r1 r2 r q2) λ_ s3 zQ=>?_))));let⟨H3,I3,q3⟩:=zQ;exact wpAny_release ⟨σ,H3,I3,q3⟩
def VO(te:TE)(g:TG):TS:=λD σ H=>te σ H λx H1=>g x σ H1 D.nx
def aHQ{tg e:Expr}{te:TE}{g:TG}(he:PE X e te)(hg:PG X tg g)(hs:↥(swapsWithSole [tg] e pos.line X.env=pure false))(hw:↥(swappedStores [tg] e X.env=pure none))(h1:↥((assignEach [tg] X.env).map (·.2)=[assign tg X.env])):PS X (.Assign [tg] e pos) (VO te g):=by
 intro U s σ H D I h;refine wpAny_Assign_stores (dL (he U s σ H _ I h) λv s1 zQ=>?_) hs hw;let⟨x,H1,I1,r1,q1⟩:=zQ;rw[h1];exact dL (hg U s1 σ H1 x v _ I1 r1 q1) λ_ s2 q=>q
def aHR{i:Nat}{x:Str}{e:Expr}{te:TE}{pos':Pos}(hN:X.N.Nodup)(hi:X.N[i]?=some x)(hx:ď X.env.scope x)(he:PE X e te)(hs:↥(swapsWith e (some (.Name x pos')) pos.line X.env=pure false))(hf:X.fn x=true\/X.env.scope.names.lookup x=some .local:=by first|exact .inl rfl|exact .inr rfl|assumption):
  PS X (.Assign [.Name x pos'] e pos) (VO te (p8 i)):=by
 intro U s σ H D I h;refine wpAny_Assign_Name (dL (he U s σ H _ I h) λv s1 zQ=>?_) hs;let⟨y,H1,I1,r1,q1⟩:=zQ;exact AR I1 hN hi hx r1 (λs2 I2=>⟨_,H1,I2,q1⟩) hf
end
section
variable{X:Cx}{pos:Pos}
end
structure It where
 go:Nat->Hp->Prop
 yld:Nat->Hp->V->Hp->Prop
 stop:Nat->Hp->Prop
def wE(X:Cx)(U:ZB)(H:Hp)(b:Addr):Prop:=
 H b=none/\b≠X.env.locals/\b∉X.fs/\(b∈X.ex\/X.s₀.heap.objs.size<=b)/\(∀x c,X.env.cells.lookup x=some c->c≠b)/\∀p∈X.pn++U,p.1≠b
def bM.fpOk{X:Cx}{U:ZB}{σ:St}{H H':Hp}{s:Shared}{b:Addr}(I:bM X U σ H s)(hb:s.heap.objs.size<=b)(hn:H' b=none):wE X U H' b:=by
 refine⟨hn,ê (Ô I.lt hb),I.nofs hb,.inr (Ñ I.sz hb),λx c e z=>?_,λp hp z=>?_⟩
 .obtain⟨v,q⟩:=I.cell x c e
  exact absurd (Ô q.lt (by rw[z];exact hb)) (Nat.lt_irrefl _)
 .exact absurd (Ô (Heap.lt_size (I.pin p hp).1) (by rw[z];exact hb)) (Nat.lt_irrefl _)
structure J4(P:Program)(w:World)(K:ZC)(tg:Expr)(J:It)(fp:ZK)(it:Addr)(tn:Nat->Heap->Prop):Prop where
 mem:it∈fp
 obj:∀i h,tn i h->∀b∈fp,∃o,h.get? b=some o/\∀v,o.data≠.cell v
 keep:∀i h h',tn i h->(∀b∈fp,∀o,h.get? b=some o->h'.get? b=some o)->tn i h'
 item:∀(X:Cx),X.prog=P->X.w=w->X.K=K->X.calm=true->∀(i:Nat)(U:ZB)(s:Shared)(σ:St)(H:Hp)(E:ZA),bM X U σ H s->(∀b∈fp,wE X U H b)->tn i s.heap->J.go i H ->
  wpAny (model P w) X.A (pyNext (.ref it)) (λr s1=>∃u,r=some u /\
   wpAny (model P w) X.A (letOwnedTupleGo tg (.ref it) u) (λ_ s2=>∃x H',bM X U σ H' s2/\cR x u/\J.yld i H x H'/\tn (i+1) s2.heap/\∀b∈fp,H' b=none) E s1) E s
 done:∀(X:Cx),X.prog=P->X.w=w->X.K=K->X.calm=true->∀(i:Nat)(U:ZB)(s:Shared)(σ:St)(H:Hp)(E:ZA),bM X U σ H s->(∀b∈fp,wE X U H b)->tn i s.heap->J.stop i H ->
  wpAny (model P w) X.A (pyNext (.ref it)) (λr s1=>r=none/\bM X U σ H s1) E s
 self:∀(A:Around)(i:Nat)(s:Shared)(Q:ZA)(E:ZA),tn i s.heap->Q (.ref it) s->wpAny (model P w) A (pyIter (.ref it)) Q E s
abbrev TI:=St->Hp->(It->Hp->Prop)->Prop
def ň(X:Cx)(U:ZB)(σ:St)(tg:Expr)(R:It->Hp->Prop)(itv:Value)(s2:Shared):Prop:=
 ∃(it:Addr)(fp:ZK)(tn:Nat->Heap->Prop)(J:It)(H':Hp),itv=.ref it/\bM X U σ H' s2/\J4 X.prog X.w X.K tg J fp it tn/\tn 0 s2.heap/\(∀b∈fp,wE X U H' b)/\R J H'
def PI(X:Cx)(tg iter:Expr)(wi:TI):Prop:=
 ∀(U:ZB)(s:Shared)(σ:St)(H:Hp)(R:It->Hp->Prop),bM X U σ H s->wi σ H R ->
  wpAny (model X.prog X.w) X.A (eval iter X.env) (λv s1=>wpAny (model X.prog X.w) X.A (pyIter v) (ň X U σ tg R) X.xe s1) X.xe s
def P3{M:Model}{A:Around}{E:ZA}{s:Shared}{tg:Expr}{it:Addr}{u:Value}{o:Obj}{n:String}{vs:Array Value}{Q:Unit->Shared->Prop}(ho:s.heap.get? it=some o)(hc:o.cls=.type n)(hd:o.data=.fields vs)(hn:["enumerate","zip","dict_itemiterator","dict_reverseitemiterator","odict_iterator","itertools.zip_longest","itertools.pairwise"].contains n=false)(hQ:Q () s):wpAny M A (letOwnedTupleGo tg (.ref it) u) Q E s:=by
 unfold letOwnedTupleGo;cases tg<;>first
  |exact wpAny_pure hQ
  | (cases u<;>first
    |exact wpAny_pure hQ
    | (refine wpAny_bind (wpAny_load ho ?_)
       rw[hc,hd];show wpAny M A (if (["enumerate","zip","dict_itemiterator","dict_reverseitemiterator","odict_iterator","itertools.zip_longest","itertools.pairwise"].contains n && vs[0]? == some (rawInt _))=true then _ else _) Q E s;rw[Ã (by grind)];exact wpAny_pure hQ))
def ŉ(K:ZC)(a:Addr):It:=
 ⟨λi H=>∃xs x,gM K H a xs/\xs[i]?=some x,λi H x H'=>H'=H/\∀xs,gM K H a xs->xs[i]?=some x,λi H=>∃xs,gM K H a xs/\xs.length<=i⟩
def Ŋ(K:ZC)(a:Addr):It:=
 ⟨λi H=>∃xs x,tX K H a xs/\xs[i]?=some x,λi H x H'=>H'=H/\∀xs,tX K H a xs->xs[i]?=some x,λi H=>∃xs,tX K H a xs/\xs.length<=i⟩
def Ī(lo:Int)(n:Nat):It:=⟨λi _=>i<n,λi H x H'=>H'=H/\x=.int (lo+i),λi _=>n<=i⟩
def SS{P:Program}{w:World}{K:ZC}{tg:Expr}(a it:Addr):J4 P w K tg (ŉ K a) [it] it (λi h=>h.IsListIter it a i) where
 mem:=by simp
 obj:=λi h st b hb=>by
  have e:b=it:=by simpa using hb
  subst e;let⟨o,e,c,d⟩:=st;exact⟨o,e,λv z=>by rw[d]at z;cases z⟩
 keep:=λi h h' st k=>st.at λo e=>k it (by simp) o e
 item:=by
  intro X hP hw hK hc i U s σ H E I hf st hg;subst hP hw hK;let⟨xs,x,hq,hx⟩:=hg;let⟨its,rv,p,hz⟩:=I.list hq;let⟨u,hu,ru⟩:=rv.get hx;let⟨f0,f1,f2,f3,f4,f5⟩:=hf it (by simp);refine wpAny_pyNext_list_item st p.isList (x:=u) (by simpa using hu) λh' st' sb=>?_;have I1:bM X U σ H {s with heap:=h'}:=I.turned (t':=s.toks) (λb o hb e=>(sb.2 b hb).trans e) f0 f1 f3 f4 f5;let⟨o,e,c,d⟩:=id st';exact⟨u,rfl,P3 (s:={s with heap:=h'}) e c d ⋯ ⟨x,H,I1,ru,⟨rfl,λys hy=>by rw[I.list_inj hy hq];exact hx⟩,st',λb hb=>(hf b hb).1⟩⟩
 done:=by
  intro X hP hw hK hc i U s σ H E I hf st hg;subst hP hw hK;let⟨xs,hq,hx⟩:=hg;let⟨its,rv,p,hz⟩:=I.list hq;let⟨f0,f1,f2,f3,f4,f5⟩:=hf it (by simp);have hl:=rv.length;exact wpAny_pyNext_list_end (I.ok.hd hc) st p.isList (by simp;lia) λh' eb=>⟨rfl,I.turned (t':=s.toks) (λb o hb e=>eb b o hb e) f0 f1 f3 f4 f5⟩
 self:=λ_ _ _ _ _ st h=>wpAny_pyIter_listiter st h
def M4{P:Program}{w:World}{K:ZC}{tg:Expr}(a it:Addr):J4 P w K tg (Ŋ K a) [it] it (λi h=>h.IsTupleIter it a i) where
 mem:=by simp
 obj:=λi h st b hb=>by
  have e:b=it:=by simpa using hb
  subst e;let⟨o,e,c,d⟩:=st
  grind
 keep:=λi h h' st k=>st.at λo e=>k it (by simp) o e
 item:=by
  intro X hP hw hK hc i U s σ H E I hf st hg;subst hP hw hK;let⟨xs,x,hq,hx⟩:=hg;let⟨its,rv,p,hz⟩:=I.tuple hq;let⟨u,hu,ru⟩:=rv.get hx;let⟨f0,f1,f2,f3,f4,f5⟩:=hf it (by simp);refine wpAny_pyNext_tuple_item st (show s.heap.IsTuple a its.toArray from p) (x:=u) (by simpa using hu) λh' st' sb=>?_;have I1:bM X U σ H {s with heap:=h'}:=I.turned (t':=s.toks) (λb o hb e=>(sb.2 b hb).trans e) f0 f1 f3 f4 f5;let⟨o,e,c,d⟩:=id st';exact⟨u,rfl,P3 (s:={s with heap:=h'}) e c d ⋯ ⟨x,H,I1,ru,⟨rfl,λys hy=>by rw[I.tuple_inj hy hq];exact hx⟩,st',λb hb=>(hf b hb).1⟩⟩
 done:=by
  intro X hP hw hK hc i U s σ H E I hf st hg;subst hP hw hK;let⟨xs,hq,hx⟩:=hg;let⟨its,rv,p,hz⟩:=I.tuple hq;let⟨f0,f1,f2,f3,f4,f5⟩:=hf it (by simp);have hl:=rv.length;exact wpAny_pyNext_tuple_end (I.ok.hd hc) st (show s.heap.IsTuple a its.toArray from p) (by simp;lia) λh' eb=>⟨rfl,I.turned (t':=s.toks) (λb o hb e=>eb b o hb e) f0 f1 f3 f4 f5⟩
 self:=λ_ _ _ _ _ st h=>wpAny_pyIter_tupleiter st h
def M5{P:Program}{w:World}{K:ZC}{tg:Expr}(it:Addr)(lo:Int)(n:Nat):J4 P w K tg (Ī lo n) [it] it (λi h=>IsRangeIter h it (lo+(i:Nat)*1) ((n:Int)-(i:Nat)) 1) where
 mem:=by simp
 obj:=λi h st b hb=>by
  grind
 keep:=λi h h' st k=>k it (by simp) _ st
 item:=by
  intro X hP hw hK hc i U s σ H E I hf st hg;subst hP hw hK;let⟨f0,f1,f2,f3,f4,f5⟩:=hf it (by simp);have W:=Walks.range (prog:=X.prog) (w:=X.w) (I.ok.hd hc) it lo 1 n;refine W.item i s _ _ hg st λv h' tk hv st' kk=>?_;let⟨t,rfl⟩:=hv;have I1:bM X U σ H {s with heap:=h',toks:=tk}:=I.turned (λb o hb e=>kk b o (by simpa using hb) e) f0 f1 f3 f4 f5;refine⟨_,rfl,P3 (s:={s with heap:=h',toks:=tk}) (n:="range_iterator") st' rfl rfl ⋯ ⟨.int (lo+i),H,I1,⟨t,?_⟩,⟨rfl,rfl⟩,st',λb hb=>(hf b hb).1⟩⟩;rw[Int.mul_one]
 done:=by
  intro X hP hw hK hc i U s σ H E I hf st hg;subst hP hw hK;let⟨f0,f1,f2,f3,f4,f5⟩:=hf it (by simp);exact wpAny_pyNext_range_end (I.ok.hd hc) st (by have:n<=i:=hg;lia) λh' eb=>⟨rfl,I.turned (t':=s.toks) (λb o hb e=>eb b o hb e) f0 f1 f3 f4 f5⟩
 self:=λ_ _ _ _ _ st h=>wpAny_pyIter_rangeiter st h
section
variable{X:Cx}{tg:Expr}
def VP{U:ZB}{σ:St}{H:Hp}{s:Shared}{R:It->Hp->Prop}{E:ZA}{lo hi:Int}{t u v:Tok}{tk:Nat}(I:bM X U σ H s)(h1:-(2^62)<=lo)(h2:lo<2^62)(h3:-(2^62)<=hi)(h4:hi<2^62)(q:R (Ī lo (hi-lo).toNat) H):wpAny (model X.prog X.w) X.A (pyIter (.ref s.heap.objs.size)) (ň X U σ tg R) E {s with heap:=s.heap.push {cls:=.type "range",data:=.fields #[.int lo t,.int hi u,.int 1 v]},toks:=tk}:=by
 refine wpAny_pyIter_range (IsRange.new ..) (small_one h1 h2 h3 h4) ?_;have I1:bM X U σ H {s with heap:=s.heap.push {cls:=.type "range",data:=.fields #[.int lo t,.int hi u,.int 1 v]},toks:=tk}:=I.kept λb o e=>Heap.get?_push_of_some _ e;refine⟨(s.heap.push {cls:=.type "range",data:=.fields #[.int lo t,.int hi u,.int 1 v]}).objs.size,[(s.heap.push {cls:=.type "range",data:=.fields #[.int lo t,.int hi u,.int 1 v]}).objs.size],_,_,H,rfl,
  I1.kept (t':=tk) λb o e=>Heap.get?_push_of_some _ e,M5 _ lo (hi-lo).toNat,?_,λb hb=>?_,q⟩
 .have e1:lo+((0:Nat):Int)*1=lo:=by simp
  have e2:(((hi-lo).toNat:Nat):Int)-((0:Nat):Int)=Builtin.Range.rangeSize lo hi 1:=by rw[rangeSize_one];split<;>lia
  show IsRangeIter _ _ (lo+((0:Nat):Int)*1) ((((hi-lo).toNat:Nat):Int)-((0:Nat):Int)) 1;rw[e1,e2];exact Heap.get?_push_size _ rfl
 .have e:b=(s.heap.push {cls:=.type "range",data:=.fields #[.int lo t,.int hi u,.int 1 v]}).objs.size:=by simpa using hb
  subst e;exact I1.fpOk (È _) (I1.hok.fresh (È _))
def aK7(ta:TA):TI:=λσ H R=>ta σ H λvs H1=>∃j:Int,vs=[.int j]/\-(2^62)<=j/\j<2^62/\R (Ī 0 j.toNat) H1
def SU{a:Expr}{ta:TA}{p pos:Pos}(hg:Gl X "range")(hm:X.mg "range"=none)(ha:PA X [a] ta)(hs:↥(starEach [a] X.env=[(false,eval a X.env)])):PI X tg (.Call (.Name "range" p) [a] [] pos) (aK7 ta):=by
 intro U s σ H R I h;refine Call_ (p7 I hg hm boot_range (PyProof.Rows.callWith_type1 (dL (ha pos U s σ H _ I h) λus s1 zQ=>?_) hs rfl));let⟨vs,H1,I1,r1,q1⟩:=zQ;let⟨j,e,q1,q2,q⟩:=q1;subst e;cases r1 with
 |cons r rr=>
  cases rr;let⟨t,rfl⟩:=r;exact call_range_1 (VP I1 ⋯ ⋯ q1 q2 (by simpa using q))
def aOC(wi:TI)(g:TG)(tb:TS):TS:=λD σ H=>wi σ H λJ H1=>∃W:Nat->Nat->St->Hp->Prop,(∃m,W 0 m σ H1)/\∀i m σ H,W i m σ H ->
 (J.stop i H/\D.nx σ H)\/(J.go i H/\∃N:St->Hp->Prop,(∀σ' H',N σ' H'->∃m',m'<m/\W (i+1) m' σ' H')/\∀x H',J.yld i H x H'->g x σ H' λσ2 H2=>tb {D with nx:=N,ct:=N,bk:=D.nx} σ2 H2)
def AS(fp:ZK)(h:Heap):ZB:=fp.filterMap λb=>(h.get? b).map λo=>(b,o)
def tY{fp:ZK}{h:Heap}{b:Addr}{o:Obj}(hb:b∈fp)(e:h.get? b=some o):(b,o)∈AS fp h:=List.mem_filterMap.mpr ⟨b,hb,by rw[e];rfl⟩
def SV{fp:ZK}{h:Heap}{p:Addr×Obj}(hp:p∈AS fp h):p.1∈fp/\h.get? p.1=some p.2:=by
 let⟨b,hb,e⟩:=List.mem_filterMap.mp hp;cases q:h.get? b with
 |none=>rw[q]at e;cases e
 |some o=>
  grind
def bM.pinned{U:ZB}{σ:St}{H:Hp}{s:Shared}{fp:ZK}(I:bM X U σ H s)(hf:∀b∈fp,wE X U H b)(ho:∀b∈fp,∃o,s.heap.get? b=some o/\∀v,o.data≠.cell v):bM X (U++AS fp s.heap) σ H s:=
 I.pins_of λp hp=>(ë.mp hp).elim (λz=>I.pin p (ý _ z)) λz=>by
  let⟨hb,e⟩:=SV z;let⟨f0,f1,f2,_⟩:=hf p.1 hb
  grind
def bM.unpinned{U pl:ZB}{σ:St}{H:Hp}{s:Shared}(I:bM X (U++pl) σ H s):bM X U σ H s:=I.pins_of λp hp=>I.pin p (ý _ (List.mem_append_left _ hp))
def aHS{iter:Expr}{body:List Stmt}{wi:TI}{g:TG}{tb:TS}{pos:Pos}(hp:PassesOwn (model X.prog X.w) X.A X.env X.xe)(hc:X.calm=true)(hi:PI X tg iter wi)(hg:PG X tg g)(hb:JT X body tb)(hs: ~~~(Zfi iter X.env)):PS X (.For tg iter body [] pos) (aOC wi g tb):=by
 intro U s σ H D I h;refine wpAny_For (dL (hi U s σ H _ I h) λv s1 h1=>dL h1 λitv s2 h2=>?_) hs;let⟨it,fp,tn,J,H2,e,I2,T,st2,f2,W,⟨m0,w0⟩,turn⟩:=h2;subst e
 -- what stays true of the iterator's objects through the loop
 have stat:∀{H':Hp},(∀b∈fp,H' b=none)->∀b∈fp,wE X U H' b:=λhn b hb=>⟨hn b hb,(f2 b hb).2⟩;refine codeAny_forLoop_any (λn s'=>∃i σ' H',bM X U σ' H' s'/\tn i s'.heap/\(∀b∈fp,H' b=none)/\W i n σ' H') ?_ m0 ⟨0,σ,H2,I2,st2,λb hb=>(f2 b hb).1,w0⟩;rintro n s3 ⟨i,σ3,H3,I3,st3,fr3,w3⟩;rcases turn i n σ3 H3 w3 with ⟨stop,qn⟩|⟨go,N,hN,step⟩
 .refine wpAny_passesOwn hp (dL (T.done X rfl rfl rfl hc i U s3 σ3 H3 X.xe I3 (stat fr3) st3 stop) λr s4 zQ=>?_);let⟨hr,I4⟩:=zQ
  subst hr;exact wpAny_execs_nil ⟨σ3,H3,I4,qn⟩
 .refine wpAny_passesOwn hp (dL (T.item X rfl rfl rfl hc i U s3 σ3 H3 X.xe I3 (stat fr3) st3 go) λr s4 zQ=>?_);let⟨u,hr,h4⟩:=zQ
  subst hr;refine wpAny_passesOwn hp (dL h4 λ_ s5 zQ=>?_);let⟨x,H5,I5,r5,y5,st5,fr5⟩:=zQ;have I5':=I5.pinned (stat fr5) (T.obj _ _ st5);refine wpAny_passesOwn hp (dL (hg _ s5 σ3 H5 x u _ I5' r5 (step x H5 y5)) λ_ s6 zQ=>?_);let⟨σ6,H6,I6,q6⟩:=zQ;refine wpAny_passesOwn hp (dL (hb _ s6 σ6 H6 _ I6 q6) λf s7 q7=>?_);have again:∀{σ7:St}{H7:Hp},bM X (U++AS fp s5.heap) σ7 H7 s7->N σ7 H7->∃m,m<n/\∃i σ' H',bM X U σ' H' s7/\tn i s7.heap/\(∀b∈fp,H' b=none)/\W i m σ' H':=λ{σ7 H7}I7 n7=>by
   let⟨m',hm,w7⟩:=hN σ7 H7 n7;refine⟨m',hm,i+1,σ7,H7,I7.unpinned,T.keep _ _ _ st5 λb hb o e=>(I7.pin (b,o) (ý _ (ý _ (tY hb e)))).1,λb hb=>?_,w7⟩;let⟨o,e,d⟩:=T.obj _ _ st5 b hb;exact(I7.pin (b,o) (ý _ (ý _ (tY hb e)))).2.1
  cases f with
  |next=>let⟨σ7,H7,I7,n7⟩:=q7;exact again I7 n7
  |cont=>let⟨σ7,H7,I7,n7⟩:=q7;exact again I7 n7
  |brk=>let⟨σ7,H7,I7,q7⟩:=q7;exact⟨σ7,H7,I7.unpinned,q7⟩
  |ret v=>let⟨x7,σ7,H7,I7,r7,q7⟩:=q7;exact⟨x7,σ7,H7,I7.unpinned,r7,q7⟩
end
abbrev R2:=V->V->Hp->VK->Prop
def pO(X:Cx)(f:Value->Value->Sem Value)(r:R2):Prop:=
 ∀(U:ZB)(s:Shared)(σ:St)(H:Hp)(x y:V)(v u:Value)(Q:VK),bM X U σ H s->cR x v->cR y u->r x y H Q ->
  wpAny (model X.prog X.w) X.A (f v u) (EP X U σ Q) X.xe s
def iH(X:Cx)(f:Value)(r:List V->Hp->VK->Prop):Prop:=
 ∀(U:ZB)(s:Shared)(σ:St)(H:Hp)(xs:List V)(us:ZH)(Q:VK),bM X U σ H s->b7 xs us->r xs H Q ->
  wpAny (model X.prog X.w) X.A (call f us) (EP X U σ Q) X.xe s
def aOD(X:Cx)(r:V->Hp->(Bool->Hp->Prop)->Prop):Prop:=
 ∀(U:ZB)(s:Shared)(σ:St)(H:Hp)(x:V)(v:Value)(Q:Bool->Hp->Prop),bM X U σ H s->cR x v->r x H Q ->
  wpAny (model X.prog X.w) X.A (truthy v) (TP X U σ Q) X.xe s
def Ğ(r:R2)(ta tb:TE):TE:=λσ H Q=>ta σ H λx H1=>tb σ H1 λy H2=>r x y H2 Q
def rI(C:Int->Int->Prop)(g:Int->Int->V):R2:=λx y H Q=>∃i j,x=.int i/\y=.int j/\C i j/\Q (g i j) H
def VQ(g:Int->Int->V):R2:=λx y H Q=>∃i j,x=.int i/\y=.int j/\Q (g i j) H
section
variable{X:Cx}{a b c:Expr}{ta tb tc:TE}{pos:Pos}
def ŋ(ha:PE X a ta)(hb:PE X b tb){U:ZB}{s:Shared}{σ:St}{H:Hp}{R:V->V->Hp->Prop}(I:bM X U σ H s)(h:ta σ H λx H1=>tb σ H1 λy H2=>R x y H2){Q:ZA}{f:Value->Value->Sem Value}(hf:∀v u s2 x y H2,bM X U σ H2 s2->cR x v->cR y u->R x y H2->wpAny (model X.prog X.w) X.A (f v u) Q X.xe s2):
  wpAny (model X.prog X.w) X.A (eval a X.env) (λv s₁=>wpAny (model X.prog X.w) X.A (eval b X.env) (λu s₂=>wpAny (model X.prog X.w) X.A (f v u) Q X.xe s₂) X.xe s₁) X.xe s:=by
 refine dL (ha U s σ H _ I h) λv s1 zQ=>?_;let⟨x,H1,I1,r1,q1⟩:=zQ;refine dL (hb U s1 σ H1 _ I1 q1) λu s2 zQ=>?_;let⟨y,H2,I2,r2,q2⟩:=zQ;exact hf v u s2 x y H2 I2 r1 r2 q2
def aK9{op:Operator}{r:R2}(ho:pO X (binaryOp op) r)(ha:PE X a ta)(hb:PE X b tb):PE X (.BinOp a op b pos) (Ğ r ta tb):=by
 intro U s σ H Q I h;exact wpAny_BinOp (ŋ ha hb I h λv u s2 x y H2 I2 rx ry q=>ho U s2 σ H2 x y v u Q I2 rx ry q)
def Ō{f:Value->Value->Sem Value}{C:Int->Int->Prop}{g:Int->Int->Int}(rule:∀(i j:Int)(t u:Tok)(s:Shared)(Q:ZA)(E:ZA),C i j->Q (.int (g i j) s.toks) {s with toks:=s.toks+1}->wpAny (model X.prog X.w) X.A (f (.int i t) (.int j u)) Q E s):
  pO X f (rI C λi j=>.int (g i j)):=by
 intro U s σ H x y v u Q I rx ry h;let⟨i,j,rfl,rfl,hc,q⟩:=h;let⟨t,rfl⟩:=rx;let⟨t',rfl⟩:=ry;exact rule i j t t' s _ _ hc ⟨.int (g i j),H,I.tok _,⟨_,rfl⟩,q⟩
def ŷ{f:Value->Value->Sem Value}{g:Int->Int->Int}(rule:∀(i j:Int)(t u:Tok)(s:Shared)(Q:ZA)(E:ZA),Q (.int (g i j) s.toks) {s with toks:=s.toks+1}->wpAny (model X.prog X.w) X.A (f (.int i t) (.int j u)) Q E s):
  pO X f (VQ λi j=>.int (g i j)):=by
 intro U s σ H x y v u Q I rx ry h;let⟨i,j,rfl,rfl,q⟩:=h;let⟨t,rfl⟩:=rx;let⟨t',rfl⟩:=ry;exact rule i j t t' s _ _ ⟨.int (g i j),H,I.tok _,⟨_,rfl⟩,q⟩
def ō{f:Value->Value->Sem Value}{g:Int->Int->Bool}(rule:∀(i j:Int)(t u:Tok)(s:Shared)(Q:ZA)(E:ZA),Q (.bool (g i j)) s->wpAny (model X.prog X.w) X.A (f (.int i t) (.int j u)) Q E s):
  pO X f (VQ λi j=>.bl (g i j)):=by
 intro U s σ H x y v u Q I rx ry h;let⟨i,j,rfl,rfl,q⟩:=h;let⟨t,rfl⟩:=rx;let⟨t',rfl⟩:=ry;exact rule i j t t' s _ _ ⟨.bl (g i j),H,I,rfl,q⟩
def ī(i j:Int):Prop:=0<=j/\j<=1000000/\i.natAbs<2^64
def aHV:pO X (binaryOp .Add) (VQ λi j=>.int (i+j)):=ŷ λ_ _ _ _ _ _ _ q=>add_int q
def aHW:pO X (binaryOp .Sub) (VQ λi j=>.int (i-j)):=ŷ λ_ _ _ _ _ _ _ q=>sub_int q
def aCN:pO X (binaryOp .Mod) (rI (λ_ j=>j≠0) λi j=>.int (i.fmod j)):=Ō λ_ _ _ _ _ _ _ hc q=>mod_int' hc q
def aHX:pO X (binaryOp .Pow) (rI ī λi j=>.int (i^j.toNat)):=Ō λ_ _ _ _ _ _ _ hc q=>pow_int_small hc.1 hc.2.1 hc.2.2 q
end
section
variable{X:Cx}{a b c:Expr}{ta tb tc:TE}{pos:Pos}
def GK{U:ZB}{σ:St}{H:Hp}{s:Shared}{Q:VK}{k k':Bool}(I:bM X U σ H s)(q:Q (.bl k) H)(e:k=k'):EP X U σ Q (.bool k') s:=by
 subst e;exact⟨.bl k,H,I,rfl,q⟩
def yK:pO X (compareOp .Lt) (VQ λi j=>.bl (decide (i<j))):=ō λ_ _ _ _ _ _ _ q=>lt_int q
def J5:pO X (compareOp .LtE) (VQ λi j=>.bl (decide (i<=j))):=ō λ_ _ _ _ _ _ _ q=>le_int q
def yL:pO X (compareOp .Gt) (VQ λi j=>.bl (decide (j<i))):=ō λ_ _ _ _ _ _ _ q=>gt_int q
def pO.or{f:Value->Value->Sem Value}{r r':R2}(h:pO X f r)(h':pO X f r'):pO X f (λx y H Q=>r x y H Q\/r' x y H Q):=by
 intro U s σ H x y v u Q I rx ry q;rcases q with q|q
 .exact h U s σ H x y v u Q I rx ry q
 .exact h' U s σ H x y v u Q I rx ry q
def cU(b:Expr){op:CmpOp}(h:⇑(op≠.In))(h2:⇑(op≠.NotIn)):behindInMarks op b=false:=by
 have e1:(op == CmpOp.In)=false:=by cases op<;>first|rfl|exact absurd rfl h
 have e2:(op == CmpOp.NotIn)=false:=by cases op<;>first|rfl|exact absurd rfl h2
 cases b<;>simp[behindInMarks,e1,e2]
def aCO{op:CmpOp}{r:R2}(ho:pO X (compareOp op) r)(ha:PE X a ta)(hb:PE X b tb)(hm:behindInMarks op b=false):PE X (.Compare a [op] [b] pos) (Ğ r ta tb):=by
 intro U s σ H Q I h;exact wpAny_Compare1 (ŋ ha hb I h λv u s2 x y H2 I2 rx ry q=>ho U s2 σ H2 x y v u Q I2 rx ry q) hm
def Ÿ(t:TE):TT:=λσ H Q=>t σ H λx H'=>∃k,x=.bl k/\Q k H'
def aCP{op:CmpOp}{r:R2}(ho:pO X (compareOp op) r)(ha:PE X a ta)(hb:PE X b tb)(hm:behindInMarks op b=false):PT X (.Compare a [op] [b] pos) (Ÿ (Ğ r ta tb)):=by
 intro U s σ H Q I h;refine wpAny_isTrue_Compare1 (dL (ha U s σ H _ I h) λv s1⟨x,H1,I1,r1,q1⟩=>dL (hb U s1 σ H1 _ I1 q1) λu s2⟨y,H2,I2,r2,q2⟩=>
  dL (ho U s2 σ H2 x y v u _ I2 r1 r2 q2) λc s3⟨z,H3,I3,r3,k,e,q3⟩=>?_) hm
 subst e;cases r3;exact wpAny_truthy_bool ⟨H3,I3,q3⟩
def M6(r r':R2)(ta tb tc:TE):TE:=λσ H Q=>ta σ H λx H1=>tb σ H1 λy H2=>r x y H2 λz H3=>∃k,z=.bl k /\
 (if k=true then tc σ H3 λw' H4=>r' y w' H4 Q else Q (.bl false) H3)
def VR{op op':CmpOp}{r r':R2}(ho:pO X (compareOp op) r)(ho':pO X (compareOp op') r')(ha:PE X a ta)(hb:PE X b tb)(hc:PE X c tc)(hm:lastMarks [op,op'] [b,c]=false:=by with_unfolding_all rfl):PE X (.Compare a [op,op'] [b,c] pos) (M6 r r' ta tb tc):=by
 intro U s σ H Q I h;refine Compare_chain (dL (ha U s σ H _ I h) λv s1⟨x,H1,I1,r1,q1⟩=>chain_link (dL (hb U s1 σ H1 _ I1 q1) λu s2⟨y,H2,I2,r2,q2⟩=>
  dL (ho U s2 σ H2 x y v u _ I2 r1 r2 q2) λd s3⟨z,H3,I3,r3,k,e,q3⟩=>?_)) hm
 subst e;cases r3;refine wpAny_truthy_bool ?_;cases k with
 |false=>exact ite_ff ⟨.bl false,H3,I3,rfl,q3⟩
 |true=>exact ite_tt (chain_last (dL (hc U s3 σ H3 _ I3 q3) λw' s4 zQ=>by let⟨z',H4,I4,r4,q4⟩:=zQ;exact ho' U s4 σ H4 y z' u w' Q I4 r2 r4 q4))
def VS{op op':CmpOp}{r r':R2}(ho:pO X (compareOp op) r)(ho':pO X (compareOp op') r')(ha:PE X a ta)(hb:PE X b tb)(hc:PE X c tc)(hm:lastMarks [op,op'] [b,c]=false:=by with_unfolding_all rfl):PT X (.Compare a [op,op'] [b,c] pos) (Ÿ (M6 r r' ta tb tc)):=by
 intro U s σ H Q I h;refine isTrue_chain (dL (ha U s σ H _ I h) λv s1⟨x,H1,I1,r1,q1⟩=>test_link (dL (hb U s1 σ H1 _ I1 q1) λu s2⟨y,H2,I2,r2,q2⟩=>
  dL (ho U s2 σ H2 x y v u _ I2 r1 r2 q2) λd s3⟨z,H3,I3,r3,k,e,q3⟩=>?_)) hm
 subst e;cases r3;refine wpAny_truthy_bool ?_;cases k with
 |false=>
  let⟨k',e',q'⟩:=q3;cases e';exact ite_ff ⟨H3,I3,q'⟩
 |true=>
  refine ite_tt (test_last (dL (hc U s3 σ H3 _ I3 q3) λw' s4⟨z',H4,I4,r4,q4⟩=>dL (ho' U s4 σ H4 y z' u w' _ I4 r2 r4 q4) λd' s5 zQ=>?_));let⟨z2,H5,I5,r5,k2,e2,q5⟩:=zQ;subst e2;cases r5;exact wpAny_truthy_bool ⟨H5,I5,q5⟩
def Ź(K:ZC)(x:V)(H:Hp)(k:Bool):Prop:=
 match x with
 |.non=>k=false
 |.bl b=>k=b
 |.int i=>k=(i != 0)
 |.str y=>y.length<=sizeLine/\k=((y.length:Int) != 0)
 |.byt y=>y.size<=sizeLine/\k=((y.size:Int) != 0)
 |.ref p=>(∃xs,gM K H p xs/\k=!xs.isEmpty)\/(∃xs,tX K H p xs/\k=!xs.isEmpty)\/∃À,H p=some (.dK À)/\k=!À.isEmpty
 |_=>False
def M7{κ:Type}{À:List (κ×V)}{vs:List (κ×Value)}(r:KV À vs):(!vs.isEmpty)=!À.isEmpty:=by
 cases r<;>rfl
def AT{xs:List V}{its:ZH}(r:b7 xs its):(!its.toArray.isEmpty)=!xs.isEmpty:=by
 cases r<;>simp
def tZ:(sizeLine:Nat)<2^63:=by rw[sizeLine_eq];decide
def aHY:aOD X (λx H Q=>∃k,Ź X.K x H k/\Q k H):=by
 intro U s σ H x v Q I rx h;let⟨k,e,q⟩:=h;have hl:=tZ;have hs:sizeLine=16777216:=sizeLine_eq;cases x with
 |non=>
  cases rx;have e':k=false:=e;subst e';exact truthy_none ⟨H,I,q⟩
 |bl b=>
  cases rx;have e':k=b:=e;subst e';exact wpAny_truthy_bool ⟨H,I,q⟩
 |int i=>
  let⟨t,rfl⟩:=rx;have e':k=(i != 0):=e;subst e';exact PySem.P.truthy_int ⟨H,I,q⟩
 |str y=>
  let⟨t,rfl⟩:=rx;obtain⟨hy,e'⟩:y.length<=sizeLine/\k=((y.length:Int) != 0):=e;subst e';exact PySem.P.truthy_str ∅ ⟨H,I.tok _,q⟩
 |byt y=>
  let⟨t,rfl⟩:=rx;obtain⟨hy,e'⟩:y.size<=sizeLine/\k=((y.size:Int) != 0):=e;subst e';exact W.truthy_bytes ∅ ⟨H,I.tok _,q⟩
 |ref p=>
  cases rx;have e':(∃xs,gM X.K H p xs/\k=!xs.isEmpty)\/(∃xs,tX X.K H p xs/\k=!xs.isEmpty)\/∃À,H p=some (.dK À)/\k=!À.isEmpty:=e;rcases e' with ⟨xs,hx,e'⟩|⟨xs,hx,e'⟩|⟨À,hx,e'⟩
  .subst e'
   let⟨its,r,pl,hz⟩:=I.list hx;have hlen:=r.length;exact wpAny_truthy_list pl.isList (by grind) ⟨H,I.tok _,by rw[AT r];exact q⟩
  .subst e'
   let⟨its,r,pl,hz⟩:=I.tuple hx;have hlen:=r.length;exact truthy_tuple pl (by grind) ⟨H,I.tok _,by rw[AT r];exact q⟩
  .subst e'
   obtain⟨hz,hS,vs,r,m⟩:À.length<=sizeLine/\(p == sysModules)=false/\∃vs,KV À vs/\s.heap.DictOf (cF X.prog X.w) p vs:=I.hok p _ hx;have hlen:À.length=vs.length:=Paired.length r;exact wpAny_truthy_dict hS m ∅ ⟨H,I.tok _,by rw[M7 r];exact q⟩
 |_=>exact(show False from e).elim
def VT(ha:PE X a ta)(he:∀whole,isTrue a X.env whole=(do let v <- whole;standAt a.pos;holding [v] (truthy v))):
  PT X a (λσ H Q=>ta σ H λx H'=>∃k,Ź X.K x H' k/\Q k H'):=by
 intro U s σ H Q I h;exact isTrue_plain (dL (ha U s σ H _ I h) λv s1 zQ=>by let⟨x,H1,I1,r1,q1⟩:=zQ;exact aHY U s1 σ H1 x v Q I1 r1 q1) (he _)
def M8:pO X (binaryOp .Add) (λx y H Q=>∃i j,x=.str i/\y=.str j/\i.length+j.length<=sizeLine/\Q (.str (i++j)) H):=by
 intro U s σ H x y v u Q I rx ry h;let⟨i,j,rfl,rfl,hz,q⟩:=h;let⟨t,rfl⟩:=rx;let⟨t',rfl⟩:=ry;exact add_str (λt' tk=>⟨.str (i++j),H,I.tok _,⟨_,rfl⟩,q⟩) hz
def nR{x:V}{us:ZH}(r:b7 [x] us):∃u,us=[u]/\cR x u:=by
 cases r with
 |cons r1 r2=>cases r2;exact⟨_,rfl,r1⟩
def aLC{x y:V}{us:ZH}(r:b7 [x,y] us):∃u w',us=[u,w']/\cR x u/\cR y w':=by
 cases r with
 |cons r1 r2=>
  cases r2 with
  |cons r3 r4=>cases r4;exact⟨_,_,rfl,r1,r3⟩
def J6:iH X (.builtin "abs") (λxs H Q=>∃i,xs=[.int i]/\Q (.int (if i<0 then -i else i)) H):=by
 intro U s σ H xs us Q I r h;let⟨i,rfl,q⟩:=h;let⟨u,rfl,t,rfl⟩:=nR r;exact call_abs_int λu tk=>⟨.int (if i<0 then -i else i),H,I.tok _,⟨_,rfl⟩,q⟩
def GL:iH X (.type "str") (λxs H Q=>∃i,xs=[.int i]/\i.natAbs.log2<1920/\Q (.str (toString i)) H):=by
 intro U s σ H xs us Q I r h;let⟨i,rfl,hz,q⟩:=h;let⟨u,rfl,t,rfl⟩:=nR r;exact PySem.P.str_of_int hz ⟨.str _,H,I.tok _,⟨_,rfl⟩,q⟩
end
structure M9(h:Heap)(x dx C:Addr)(mA:ZD):Prop where
 obj:h.get? x=some (W.instObj C dx)
 ns:h.Ns1 dx mA
 ne:dx≠x
def SW{h:Heap}{dx:Addr}{mA:ZD}(n:h.Ns1 dx mA):∃od,h.get? dx=some od/\∀name,W.lookIn name od=some (mA name):=by
 let⟨o,es,ep,ho,hd,hk,_,hm⟩:=n;refine⟨o,ho,λname=>?_⟩;have e:=hm name;unfold nsFind findBy at e;rw[<- Array.find?_toList]at e;unfold W.lookIn;rw[hd];dsimp only;split
 .grind
 .rename_i q
  rw[q]at e;have a:es.toList.any (·.refKey)=false:=by
   rw[List.any_eq_false];intro y hy;let⟨z,t,hkey⟩:=hk y (Array.mem_toList_iff.mp hy);simp[DictEntry.refKey,hkey]
  grind
def M9.look{h:Heap}{x dx C:Addr}{mA:ZD}(I:M9 h x dx C mA):∃od,W.InstAt h x (W.instObj C dx) C (some od)/\∀name,W.lookIn name od=some (mA name):=
 let ⟨od,ho,hl⟩:=SW I.ns
 ⟨od,⟨I.obj,rfl,rfl,ho⟩,hl⟩
section
variable{prog:Program}{w:World}{A:Around}{E:ZA}{s:Shared}{K:ZC}{x dx C f:Addr}{mA:ZD}{name:Str}{v:Value}
def aCQ{expr:Bool}{Q:ZA}(X:K.In s.heap)(I:M9 s.heap x dx C mA)(hg:W.plainGet K C name=true)(hh:W.hasDictIn K C=true)(ha:W.findIn K (.ref C) name=some none)(hv:mA name=some v)(hv':W.handedIn v=true)(h:Q v {s with toks:=s.toks+1}):
  wpAny (model prog w) A (getAttr (.ref x) name expr) Q E s:=by
 let⟨od,J,hl⟩:=I.look;exact W.get_value X J (W.plainGet_of hg).1 (W.findObj_own hh ha rfl (by rw[hl,hv])) hv' h
def VU{pl:Sem Bool}{Q:Value×ZH->Shared->Prop}(X:K.In s.heap)(I:M9 s.heap x dx C mA)(hg:W.plainGet K C name=true)(hf:W.findIn K (.ref C) name=some (some (.ref f)))(ht:W.isFn K (.ref f)=true)(hv:mA name=none)(h:Q (.ref f,[.ref x]) s):
  wpAny (model prog w) A (getMethod (.ref x) name pl) Q E s:=by
 let⟨od,J,hl⟩:=I.look;exact W.method_fn X J (W.plainGet_of hg).1 (W.plainGet_of hg).2 hf (beq_iff_eq.mp ht) (by show (W.lookIn name od).map (·.isSome)=some false;rw[hl,hv];rfl) h
def aCR{ns:ZE}{Q:Unit->Shared->Prop}(X:K.In s.heap)(I:M9 s.heap x dx C mA)(hs:W.findIn K (.ref C) "__setattr__"=some (some (.builtin "object.__setattr__")))(hp:W.plainOver K C=true)(ht:W.takerIn K C name=some none)(hh:W.hasDictIn K C=true)(hw:PySem.Within mA ns)(hsz:ns.length<=sizeLine)(h:∀h',M9 h' x dx C (λy=>if y=name then some v else mA y)->Heap.SameBut dx s.heap h'->Q () {s with heap:=h',toks:=s.toks+2}):
  wpAny (model prog w) A (setAttr (.ref x) name v) Q E s:=by
 let⟨od,J,hl⟩:=I.look;refine W.set_plain X J hs (W.osa_open (s:={s with toks:=s.toks+1}) (r:=none) X J hp ht λb=>?_);let⟨cd,hc,hd'⟩:=W.any_some hh;have hx:s.heap.get? x=some ⟨.ref C,some dx,.plain,#[]⟩:=I.obj;refine wpAny_bind (wpAny_pure (wpAny_bind (wpAny_bind (wpAny_loadPart hx (wpAny_bind (W.Looks.here (s:={s with toks:=s.toks+1}) (W.looks_clsIn X hc) ?_))))));rw[hd'];refine wpAny_pure (a:=some dx) (wpAny_bind (wpAny_pure (wpAny_bind ?_)));refine wpAny_nsSet1 (s:={s with toks:=s.toks+1}) I.ns λh' hn2 hs2=>?_;let⟨oD,esD,epD,hoD,hdD,hcD⟩:=hn2.count (PySem.Within.cons name v hw);refine wpAny_bind (wpAny_lookBehind hoD (by rw[hdD];exact pastItsLine_dict (Ñ hcD (by grind))) ?_)
 exact wpAny_pure (h _ ⟨(hs2.2 _ (Ö I.ne)).trans I.obj,hn2,I.ne⟩ hs2)
def VV{R:Result->Shared->Prop}{vs:ZH}{kw:List (Str×Value)}(X:K.In s.heap)(hm:W.makesIn K C=true)(hi:W.findIn K (.ref C) "__init__"=some (some (.ref f)))(hf:W.typeIn K (.ref f)=some (.type "function"))(h:codeAny (model prog w) (A.under (.builtin "type.__call__" ⟨.ref C::vs,kw⟩)) (.call (.ref f) ⟨.ref (s.heap.objs.size+1)::vs,kw⟩) (W.InitBack (s.heap.objs.size+1) R)
   {s with heap:=(s.heap.push W.emptyDict).push (W.instObj C s.heap.objs.size)}):
  codeAny (model prog w) A (.call (.ref C) ⟨vs,kw⟩) R s:=by
 let⟨hh,g,d,t,os⟩:=s;exact W.make_core (W.makes_of X hm) (W.looks_findIn X hi) (λself=>W.bind_fn X self hf) (.inl rfl) h
end
def nT(f:Str)(v:V):List (Str×V)->List (Str×V)
 |[]=>[(f,v)]
 |(g,x)::r=>if g=f then (g,v)::r else (g,x)::nT f v r
def yM(f g:Str)(v:V):∀fs:List (Str×V),(nT f v fs).lookup g=if g=f then some v else fs.lookup g
 |[]=>by
  show List.lookup g [(f,v)]=_
  grind
 |(k,x)::r=>by
  have ih:=yM f g v r;rw[show nT f v ((k,x)::r)=(if k=f then (k,v)::r else (k,x)::nT f v r)from rfl]
  grind
def wF(f:Str)(v:V):∀fs:List (Str×V),f∈(nT f v fs).map (·.1)/\∀g,g∈fs.map (·.1)->g∈(nT f v fs).map (·.1)
 |[]=>⟨by simp[nT],λg h=>by simp at h⟩
 |(k,x)::r=>by
  let⟨i1,i2⟩:=wF f v r;rw[show nT f v ((k,x)::r)=(if k=f then (k,v)::r else (k,x)::nT f v r)from rfl]
  grind
def yN(f:Str)(v:V):∀fs:List (Str×V),(nT f v fs).length<=fs.length+1
 |[]=>by simp[nT]
 |(k,x)::r=>by
  have ih:=yN f v r;rw[show nT f v ((k,x)::r)=(if k=f then (k,v)::r else (k,x)::nT f v r)from rfl]
  grind
def pX.some_of{v:V}{o:ZL}(r:pX (some v) o):∃u,o=some u/\cR v u:=by
 cases o with
 |none=>exact(show False from r).elim
 |some u=>exact⟨u,rfl,r⟩
def pX.none_of{o:ZL}(r:pX none o):o=none:=by
 cases o with
 |none=>rfl
 |some u=>exact(show False from r).elim
def SX{v:V}{u:Value}(r:cR v u):W.handedIn u=true:=by
 cases v with
 |non=>cases (show u=Value.none from r);rfl
 |bl b=>cases (show u=Value.bool b from r);rfl
 |int i=>let⟨t,e⟩:=(show ∃t,u=Value.int i t from r);cases e;rfl
 |str x=>let⟨t,e⟩:=(show ∃t,u=Value.str x t from r);cases e;rfl
 |byt b=>let⟨t,e⟩:=(show ∃t,u=Value.bytes b t from r);cases e;rfl
 |flt b=>let⟨t,e⟩:=(show ∃t,u=Value.float b t from r);cases e;rfl
 |ref a=>cases (show u=Value.ref a from r);rfl
 |ty n=>cases (show u=Value.type n from r);rfl
section
variable{P:Program}{w:World}{H H':Hp}{h h':Heap}{a C dx:Addr}{fs fs':List (Str×V)}
def GM(hok:sO P w H h)(e:H a=some (.ins C dx fs)):∃mA,M9 h a dx C mA/\(∀f,pX (fs.lookup f) (mA f))/\PySem.Within mA (fs.map (·.1))/\fs.length<=1000/\H dx=some (.own a):=by
 let⟨d,z,ne,ob,mA,n,r,q⟩:=(show fX P w H h a (.ins C dx fs)from hok a _ e);exact⟨mA,⟨ob,n,ne⟩,r,q,z,d⟩
end
structure U9(K:ZC)(C:Addr):Prop where
 pg:W.plainGet K C Str.empty=true
 hd:W.hasDictIn K C=true
 po:W.plainOver K C=true
 sa:W.findIn K (.ref C) "__setattr__"=some (some (.builtin "object.__setattr__"))
def U9.get{K:ZC}{C:Addr}(c:U9 K C)(f:Str):W.plainGet K C f=true:=c.pg
def oG(K:ZC)(C:Addr)(f:Str):Prop:=W.findIn K (.ref C) f=some none
def oG.taker{K:ZC}{C:Addr}{f:Str}(n:oG K C f):W.takerIn K C f=some none:=by
 unfold W.takerIn;rw[show W.findIn K (.ref C) f=some none from n];rfl
structure Ĭ(K:ZC)(C:Addr)(m:Str)(f:Addr):Prop where
 at_:W.findIn K (.ref C) m=some (some (.ref f))
 fn:W.isFn K (.ref f)=true
 kp:W.keepIn K (.ref f)=true
section
variable{X:Cx}{U:ZB}{σ:St}{H:Hp}{s:Shared}{a C dx:Addr}{fs:List (Str×V)}{f:Str}{v:V}{A:Around}{E:ZA}
def NA{b:Bool}{Q:ZA}(I:bM X U σ H s)(e:H a=some (.ins C dx fs))(c:U9 X.K C)(n:oG X.K C f)(l:fs.lookup f=some v)(h:∀u s',bM X U σ H s'->cR v u->Q u s'):wpAny (model X.prog X.w) A (getAttr (.ref a) f b) Q E s:=by
 let⟨mA,O,r,_,_,_⟩:=GM I.hok e;let⟨u,hu,ru⟩:=pX.some_of (v:=v) (o:=mA f) (by rw[<- l];exact r f);exact aCQ I.kIn O (c.get f) c.hd n hu (SX ru) (h u _ (I.tok _) ru)
def NB{m:Str}{g:Addr}{pl:Sem Bool}{Q:Value×ZH->Shared->Prop}(I:bM X U σ H s)(e:H a=some (.ins C dx fs))(c:U9 X.K C)(k:Ĭ X.K C m g)(l:fs.lookup m=none)(h:Q (.ref g,[.ref a]) s):wpAny (model X.prog X.w) A (getMethod (.ref a) m pl) Q E s:=by
 let⟨mA,O,r,_,_,_⟩:=GM I.hok e;have hn:mA m=none:=pX.none_of (by rw[<- l];exact r m);exact VU I.kIn O (c.get m) k.at_ k.fn hn h
def NC{y:V}{u:Value}{Q:Unit->Shared->Prop}(I:bM X U σ H s)(e:H a=some (.ins C dx fs))(c:U9 X.K C)(n:oG X.K C f)(hl:fs.length<1000)(ry:cR y u)(h:∀s',bM X U σ (eB H a (.ins C dx (nT f y fs))) s'->Q () s'):wpAny (model X.prog X.w) A (setAttr (.ref a) f u) Q E s:=by
 let⟨mA,O,r,wi,_,ho⟩:=GM I.hok e;have hz:(fs.map (·.1)).length<=sizeLine:=by rw[Â,sizeLine_eq];lia
 refine aCR I.kIn O c.sa c.po n.taker c.hd wi hz λh' O' sb=>h _ ?_;have hd:∃o,h'.get? dx=some o:=let ⟨o,_,_,e',_⟩:=O'.ns;⟨o,e'⟩
 refine I.write (x:=a) (e:=dx) (by rw[e];exact True.intro) (.inr ho) (λb q hb z=>(sb.2 b hb).trans z) hd ?_;refine⟨by rw[aZ O.ne];exact ho,?_,O.ne,O'.obj,_,O'.ns,λg=>?_,λg hg=>?_⟩
 .have:=yN f y fs;exact Ñ ‹_› ‹_›
 .show pX ((nT f y fs).lookup g) (if g=f then some u else mA g)
  rw[yM];by_cases q:g=f
  .rw[Á q,Á q];exact ry
  grind
 .by_cases q:g=f
  .rw[q];exact(wF f y fs).1
  .refine(wF f y fs).2 g (wi g λz=>hg ?_)
   grind
def bM.made(I:bM X U σ H s):bM X U σ (eB (eB H s.heap.objs.size (.own (s.heap.objs.size+1))) (s.heap.objs.size+1) (.ins C s.heap.objs.size []))
  {s with heap:=(s.heap.push W.emptyDict).push (W.instObj C s.heap.objs.size)}:=by
 have e1:(s.heap.push W.emptyDict).get? s.heap.objs.size=some W.emptyDict:=Heap.get?_push_size s.heap rfl;have e2:((s.heap.push W.emptyDict).push (W.instObj C s.heap.objs.size)).get? (s.heap.objs.size+1)=some (W.instObj C s.heap.objs.size):=by
  have:=Heap.get?_push_size (s.heap.push W.emptyDict) (o:=W.instObj C s.heap.objs.size) rfl
  rwa [Heap.size_push]at this
 have e3:(s.heap.push W.emptyDict).Ns s.heap.objs.size (λ_=>none):=⟨W.emptyDict,#[],_,e1,rfl,(λe he=>absurd he (by simp)),λ_=>rfl⟩;have I1:=I.laid (a:=s.heap.objs.size) (o:=.own (s.heap.objs.size+1)) (h':=s.heap.push W.emptyDict) (t':=s.toks) (λb u q=>Heap.get?_push_of_some _ q) (È _) ⟨_,e1⟩;refine I1.laid (a:=s.heap.objs.size+1) (o:=.ins C s.heap.objs.size []) (t':=s.toks) (λb u q=>Heap.get?_push_of_some _ q) (Nat.le_of_eq (Heap.size_push _ _)) ?_;have ne:s.heap.objs.size≠s.heap.objs.size+1:=Ï (Nat.lt_succ_self _);refine⟨by rw[aZ ne,cJ],î _,ne,e2,λ_=>none,(Heap.Ns1.of_empty e3).at λo q=>Heap.get?_push_of_some _ q,λ_=>True.intro,λy hy=>absurd rfl hy⟩
def aCT{prog:Program}{w:World}{env:Env}{e:Expr}{f:Str}{pos:Pos}{s:Shared}{Q:ZA}(hb:attributeBase e f env (eval e env)=eval e env)(h:wpAny (model prog w) A (eval e env) (λo s₁=>wpAny (model prog w) A (getAttr o f true) Q E s₁) E s):wpAny (model prog w) A (eval (.Attribute e f pos) env) Q E s:=
 Attribute_any_ h (by rw[arm_eval_Attribute,hb])
end
def aOF(K:ZC)(ta:TE)(f:Str):TE:=λσ H Q=>ta σ H λx H1=>∃a C dx fs v,x=.ref a/\H1 a=some (.ins C dx fs)/\U9 K C/\oG K C f/\fs.lookup f=some v/\Q v H1
def aOG(K:ZC)(ta tv:TE)(f:Str):TS:=λD σ H=>tv σ H λy H1=>ta σ H1 λx H2=>∃a C dx fs,x=.ref a/\H2 a=some (.ins C dx fs)/\U9 K C/\oG K C f/\fs.length<1000 /\
 D.nx σ (eB H2 a (.ins C dx (nT f y fs)))
section
variable{X:Cx}{o e value:Expr}{f:Str}{pos pos' tpos:Pos}{ta tv:TE}
def aHZ(he:PE X e ta)(hb:attributeBase e f X.env (eval e X.env)=eval e X.env):PE X (.Attribute e f pos) (aOF X.K ta f):=by
 intro U s σ H Q I h;refine aCT hb (dL (he U s σ H _ I h) λu s1 zQ=>?_);let⟨x,H1,I1,rx,a,C,dx,fs,v,ex,ea,c,n,l,q⟩:=zQ;subst ex;obtain rfl:u=Value.ref a:=rx;exact NA I1 ea c n l λu' s2 I2 ru=>⟨v,H1,I2,ru,q⟩
def aH0(ha:PE X o ta)(hv:PE X value tv)(hs:swapsWith value (some (.Attribute o f pos')) pos.line X.env=pure false):PS X (.Assign [.Attribute o f pos'] value pos) (aOG X.K ta tv f):=by
 intro U s σ H D I h;refine plainObj_wpAny_Assign_Attribute (dL (hv U s σ H _ I h) λu s1⟨y,H1,I1,ry,q⟩=>dL (ha U s1 σ H1 _ I1 q) λov s2 zQ=>?_) hs;let⟨x,H2,I2,rx,a,C,dx,fs,ex,ea,c,n,l,q2⟩:=zQ;subst ex;obtain rfl:ov=Value.ref a:=rx;exact NC I2 ea c n l ry λs3 I3=>⟨σ,_,I3,q2⟩
end
section
variable{X:Cx}{U:ZB}{σ:St}{H:Hp}{s:Shared}{A:Around}{E:ZA}{Q:ZA}{c:Value}{b:Bool}
end
structure gN(k:Nat)(A:Around):Prop where
 hd:A.handled=none
 dp:A.depth+3*k+5<recursionLimit
 un:A.units+16*k+200<cLine
def gN.mono{j k:Nat}{A:Around}(r:gN k A)(h:j<=k):gN j A:=⟨r.hd,by have:=r.dp;lia,by have:=r.un;lia⟩
def gN.deeper{k:Nat}{A:Around}(r:gN (k+1) A)(env:Env):gN k (A.deeper env):=
 ⟨r.hd,by have:=r.dp;show A.depth+1+3*k+5<_;lia,by have:=r.un;show A.units+3+16*k+200<_;lia⟩
def ND{A:Around}{C:Addr}{us:ZH}{kw:List (Str×Value)}:(A.under (.builtin "type.__call__" ⟨.ref C::us,kw⟩)).depth=A.depth+1:=by
 first|rfl|simp[Around.under,Code.weight,Code.isCreation,Code.isGuard,Code.isCaller,Code.frames,Code.isFrame,guardIds]
def NE{A:Around}{C:Addr}{us:ZH}{kw:List (Str×Value)}:(A.under (.builtin "type.__call__" ⟨.ref C::us,kw⟩)).units=A.units+1:=by
 first|rfl|simp[Around.under,Code.cUnits,Code.frames,Code.isFrame]
def gN.make{k:Nat}{A:Around}(r:gN (k+1) A)(C:Addr)(us:ZH)(kw:List (Str×Value)):gN k (A.under (.builtin "type.__call__" ⟨.ref C::us,kw⟩)):=
 ⟨r.hd,by have:=r.dp;rw[ND];lia,by have:=r.un;rw[NE];lia⟩
def gN.depth{k:Nat}{A:Around}(r:gN k A):A.depth<recursionLimit:=by have:=r.dp;lia
def gN.units{k:Nat}{A:Around}(r:gN k A):A.units+64<cLine:=by have:=r.un;lia
def ĭ:TA:=λ_ H Q=>Q [] H
def P4(ta:TE)(tr:TA):TA:=λσ H Q=>ta σ H λx H1=>tr σ H1 λxs H2=>Q (x::xs) H2
section
variable{X:Cx}{e:Expr}{es:List Expr}{te:TE}{t:TA}{pos:Pos}
def oH:PA X [] ĭ:=λ_ _ _ _ H Q I h=>Calls.spliced_nil ⟨[],H,I,.nil,h⟩
def iI(ha:PE X e te)(hr:PA X es t)(hs:↥(Zse e es X.env)):PA X (e::es) (P4 te t):=by
 intro pos U s σ H Q I h;rw[hs];show wpAny _ _ (spliced ((false,eval e X.env)::backTo pos (starEach es X.env))) _ _ s;refine Calls.spliced_cons (dL (ha U s σ H _ I h) λu s1 zQ=>?_);let⟨x,H1,I1,r1,q1⟩:=zQ;exact dL (hr pos U s1 σ H1 _ I1 q1) λus s2 zQ=>by let⟨xs,H2,I2,r2,q2⟩:=zQ;exact ⟨x::xs,H2,I2,.cons r1 r2,q2⟩
def aOH(t:TA):TE:=λσ H Q=>t σ H λxs H1=>xs.length<=sizeLine/\∀p,H1 p=none->Q (.ref p) (eB H1 p (.tup xs))
def aOI(t:TA):TE:=λσ H Q=>t σ H λxs H1=>xs.length<=sizeLine/\∀p,H1 p=none->Q (.ref p) (eB H1 p (.lst xs))
def aH1{x1}(h:PA X es t):PE X (.Tuple es x1 pos) (aOH t):=by
 intro U s σ H Q I hq;refine wpAny_Tuple_spliced (dL (h pos U s σ H _ I hq) λus s1⟨xs,H1,I1,r,z,q⟩=>⟨by rw[<- r.length];exact z,?_⟩);have hf:H1 s1.heap.objs.size=none:=I1.hok.fresh (È _);refine⟨.ref s1.heap.objs.size,eB H1 s1.heap.objs.size (.tup xs),I1.laid (t':=s1.toks) (λb u e=>Heap.get?_push_of_some _ e) (È _) ?_,rfl,q _ hf⟩;exact⟨z,us,r,⟨_,Heap.get?_push_size _ rfl,rfl,_,rfl⟩⟩
def aH2(h:PA X es t):PE X (.List es pos) (aOI t):=by
 intro U s σ H Q I hq;refine wpAny_List_spliced (dL (h pos U s σ H _ I hq) λus s1⟨xs,H1,I1,r,z,q⟩=>⟨by rw[<- r.length];exact z,?_⟩);have hf:H1 s1.heap.objs.size=none:=I1.hok.fresh (È _);refine⟨.ref s1.heap.objs.size,eB H1 s1.heap.objs.size (.lst xs),I1.laid (t':=s1.toks) (λb u e=>Heap.get?_push_of_some _ e) (È _) ?_,rfl,q _ hf⟩;exact⟨z,us,0,r,Heap.get?_push_size _ rfl⟩
end
abbrev Sp:=List V->Hp->VK->XK->Prop
abbrev SY:=List Env->Hp->Shared->XK->ZA
structure J7(P:Program)(w:World)(K:ZC)(mg:ZD)(base:Heap)(A:Around)(outer:List Env)(s:Shared)(H:Hp):Prop where
 frames:A.frames=some outer
 mod:Mod K mg base
 bs:∀b o,base.get? b=some o->s.heap.get? b=some o/\H b=none
 bsz:base.objs.size<=s.heap.objs.size
 funs:s.heap.FunFrames base outer
 frf:∀b∈U8 outer,H b=none
 hok:sO P w H s.heap
 bare:AllBare s.gens
def CE(outer:List Env)(P:Program)(w:World)(H:Hp)(s:Shared)(Q:VK)(u:Value)(s':Shared):Prop:=
 ∃v H',s'.os=s.os/\AllBare s'.gens/\Un (U8 outer) [] H H' s.heap s'.heap/\sO P w H' s'.heap/\cR v u/\Q v H'
def CR(CX:SY)(outer:List Env)(P:Program)(w:World)(H:Hp)(s:Shared)(Q:VK)(E:XK)(r:Result)(s':Shared):Prop:=
 match r with
 |.ok (.ret u)=>CE outer P w H s Q u s'
 |.ok _=>False
 |.error e=>CX outer H s E e s'
structure sP(P:Program)(w:World)(K:ZC)(mg:ZD)(base:Heap)(CX:SY)(k:Nat)(f:Addr)(fd:FuncData)(ps:ZE)(sp:Sp):Prop where
 len:∀vs H Q E,sp vs H Q E->vs.length=ps.length
 run:∀(A:Around)(outer:List Env)(s:Shared)(H:Hp)(args:Args)(us:ZH)(vs:List V)(Q:VK)(E:XK),gN k A->J7 P w K mg base A outer s H->BindsTo s fd args (ps.zip us)->b7 vs us->sp vs H Q E ->
  codeAny (model P w) A (.call (.ref f) args) (CR CX outer P w H s Q E) s
def J7.make{P:Program}{w:World}{K:ZC}{mg:ZD}{base:Heap}{A:Around}{outer:List Env}{s:Shared}{H:Hp}(e:J7 P w K mg base A outer s H)(C:Addr)(us:ZH)(kw:List (Str×Value)):
  J7 P w K mg base (A.under (.builtin "type.__call__" ⟨.ref C::us,kw⟩)) outer s H:=⟨by first|exact e.frames|(simpa[Around.under,Code.envs,Code.isFrame,pushEnvs]using e.frames),e.mod,e.bs,e.bsz,e.funs,e.frf,e.hok,e.bare⟩
section
variable{X:Cx}{U:ZB}{σ:St}{H:Hp}{s s':Shared}
def bM.env0(I:bM X U σ H s):J7 X.prog X.w X.K X.mg X.base X.A X.stack s H:=
 ⟨I.ok.frames,I.ok.mod,I.bs,Ñ I.ok.bsz I.sz,I.stack,I.stkFree,I.hok,I.bare⟩
def bM.after{Q:VK}{u:Value}(I:bM X U σ H s)(h:CE X.stack X.prog X.w H s Q u s'):EP X U σ Q u s':=by
 let⟨v,H',os,bare,un,hok,r,q⟩:=h;let⟨hh,g,d,t,os'⟩:=s';obtain rfl:os'=s.os:=os;exact⟨v,H',I.call (h':=hh) (g':=g) (d':=d) (t':=t) (ch:=[]) un hok bare (λb z=>absurd z (by simp)),r,q⟩
end
def pP(K:ZC)(fd:FuncData)(ps:ZE)(ds:ZH):Prop:=
 ∀(s:Shared)(us:ZH),K.In s.heap->(us++ds).length=ps.length->BindsTo s fd ⟨us,[]⟩ (ps.zip (us++ds))
def pP.all{K:ZC}{fd:FuncData}{ps:ZE}(h:∀us:ZH,us.length=ps.length->bindArgs fd ⟨us,[]⟩=pure (ps.zip us)):pP K fd ps []:=λs us _ hl=>by
 rw[Û]at hl⊢;exact .of_eq (h us hl)
section
variable{X:Cx}{CX:SY}{k:Nat}{f C:Addr}{fd:FuncData}{ps:ZE}{sp:Sp}{dvs:List V}{ds:ZH}{E:XK}{x m:Str}{p pos apos:Pos}{e o:Expr}{es:List Expr}{ta:TE}{t:TA}
structure Mk(K:ZC)(C f:Addr):Prop where
 makes:W.makesIn K C=true
 init:W.findIn K (.ref C) "__init__"=some (some (.ref f))
 fn:W.isFn K (.ref f)=true
 kp:W.keepIn K (.ref C)=true
end
section
variable{X:Cx}{CX:SY}{k:Nat}{f C:Addr}{fd:FuncData}{ps ks:ZE}{sp:Sp}{E:XK}{x m:Str}{p pos apos kpos:Pos}{e o:Expr}{es:List Expr}{kws:List Keyword}{te ta:TE}{t tk:TA}{nm:Option Str}
variable{g:ZH->ZH->ZH}{gV:List V->List V->List V}
end
structure aS(N P:ZE)(sc:Scope):Prop where
 kind:sc.kind=.function
 co:sc.isCoroutine=false
 gen:sc.isGenerator=false
 nd:N.Nodup
 pre:N.take P.length=P
 par:∀x∈P,sc.names.lookup x=some .local\/sc.names.lookup x=some .cell
 nofree:∀y∈sc.names,y.2≠.free
def EU{kindOf:Str->Option NameKind}{x:Str}:∀{binds:List (Str×Value)}{m:ZD},(∀v,(x,v)∉binds)->bindL kindOf binds m x=m x
 |[]=>by intro _;exact rfl
 |(n,v)::r=>by
  rename_i m;intro h;unfold bindL;rw[EU λw hw=>h w (É _ hw)];split
  all_goals grind
def EV{kindOf:Str->Option NameKind}{x:Str}:∀{binds:List (Str×Value)}{m:ZD},(∀v,(x,v)∉binds)->bindC kindOf binds m x=m x
 |[]=>by intro _;exact rfl
 |(n,v)::r=>by
  rename_i m;intro h;unfold bindC;rw[EV λw hw=>h w (É _ hw)];split
  all_goals grind
def EW{kindOf:Str->Option NameKind}{x:Str}{v:Value}:∀{P:ZE}{vs:ZH}{i:Nat}{m:ZD},P.Nodup->P[i]?=some x->vs[i]?=some v->kindOf x=some .local ->
  bindL kindOf (P.zip vs) m x=some v
 |[],_,_=>by intro _ h _ _;simp at h
 |_::_,[],_=>by intro _ _ h _;simp at h
 |p::P,w::vs,0=>by
  rename_i m;intro nd h1 h2 hk;simp at h1 h2;subst h1;subst h2;show bindL kindOf ((p,w)::P.zip vs) m p=_;unfold bindL;rw[EU λv hv=>(Ā.mp nd).1 (List.of_mem_zip hv).1,Á hk];simp
 |p::P,w::vs,i+1=>by
  rename_i m;intro nd h1 h2 hk;show bindL kindOf ((p,w)::P.zip vs) m x=_;unfold bindL;exact EW (i:=i) (Ā.mp nd).2 (by simpa using h1) (by simpa using h2) hk
def EY{kindOf:Str->Option NameKind}{x:Str}{v:Value}:∀{P:ZE}{vs:ZH}{i:Nat}{m:ZD},P.Nodup->P[i]?=some x->vs[i]?=some v->kindOf x≠some .local ->
  bindC kindOf (P.zip vs) m x=some v
 |[],_,_=>by intro _ h _ _;simp at h
 |_::_,[],_=>by intro _ _ h _;simp at h
 |p::P,w::vs,0=>by
  rename_i m;intro nd h1 h2 hk;simp at h1 h2;subst h1;subst h2;show bindC kindOf ((p,w)::P.zip vs) m p=_;unfold bindC;rw[EV λv hv=>(Ā.mp nd).1 (List.of_mem_zip hv).1,Ã hk];simp
 |p::P,w::vs,i+1=>by
  rename_i m;intro nd h1 h2 hk;show bindC kindOf ((p,w)::P.zip vs) m x=_;unfold bindC;exact EY (i:=i) (Ā.mp nd).2 (by simpa using h1) (by simpa using h2) hk
def f6(N:ZE)(vs:List V):St:=vs.map some++List.replicate (N.length-vs.length) none
def wG(CX:SY)(P:Program)(w:World)(K:ZC)(mg:ZD)(base:Heap)(N:ZE)(qual:Str)(scope:Scope)(f:Addr)(cd:Value)(A:Around)(outer:List Env)(s:Shared)(H:Hp)(E:XK):Cx where
 prog:=P
 w:=w
 K:=K
 mg:=mg
 base:=base
 A:=A.deeper (envOfC qual scope s.heap.objs.size f cd)
 N:=N
 s₀:=s
 H₀:=H
 env:=envOfC qual scope s.heap.objs.size f cd
 outer:=outer
 stack:=envOfC qual scope s.heap.objs.size f cd::outer
 ex:=[]
 calm:=true
 fn:=λ_=>true
 pn:=[]
 xe:=λe s'=>wpAny (model P w) (A.deeper (envOfC qual scope s.heap.objs.size f cd)) (leaving (envOfC qual scope s.heap.objs.size f cd) e) (λ_ s''=>CX outer H s E e s'') (λe' s''=>CX outer H s E e' s'') s'
def J8{sc:Scope}{n:Nat}{x:Str}(h:sc.names.lookup x=some .cell):∃c,(cellsFrom n sc.names []).lookup x=some c:=by
 have q:=W.cellsFrom_some sc.names n [] (.inl h);exact Option.isSome_iff_exists.mp q
def EZ{CX:SY}{P:Program}{w:World}{K:ZC}{mg:ZD}{base:Heap}{N ps:ZE}{qual:Str}{scope:Scope}{f:Addr}{cd:Value}{A:Around}{outer:List Env}{s s1:Shared}{H:Hp}{E:XK}{us:ZH}{vs:List V}(S:aS N ps scope)(hd:A.handled=none)(e0:J7 P w K mg base A outer s H)(hl:vs.length=ps.length)(r:b7 vs us)(x:InCallC s s.heap.objs.size (bindL (envOfC qual scope s.heap.objs.size f cd).kindOf (ps.zip us) λ_=>none) (cellsFrom (s.heap.objs.size+1) scope.names []) (bindC (envOfC qual scope s.heap.objs.size f cd).kindOf (ps.zip us) λ_=>none) s1):
  bM (wG CX P w K mg base N qual scope f cd A outer s H E) [] (f6 N vs) H s1:=by
 have hpl:ps.length<=N.length:=by have:=congrArg List.length S.pre;rw[ì]at this;lia
 let⟨h1,tk,rfl,hk⟩:=x.done;have noA:∀b:Addr,b∉(wG CX P w K mg base N qual scope f cd A outer s H E).ex:=λb z=>absurd (show b∈([]:ZK)from z) (by simp);refine⟨⟨e0.mod,S.kind,rfl,rfl,È _,λy z c h1 h2=>?_,λy hy=>?_,λy c _ h=>?_,λ_=>hd,Around.frames_deeper e0.frames,.inr ⟨rfl,rfl⟩,λb z=>absurd z (noA b),e0.bs,e0.bsz,λb _ _=>noA b,λb z=>absurd z (noA b),e0.funs,e0.frf⟩,
  rfl,e0.bare,Un.kept hk,⟨_,x.toInCall.ns,λi y v h1 h2 h3=>?_⟩,λy c h=>⟨_,x.cell y c h⟩,e0.hok.fresh (È _),λy c h=>?_,λp hp=>absurd (show p∈([]:ZB)from hp) (by simp),e0.hok.kept hk,?_⟩
 .exact name_of_addr x.apart (ò h1) (ò h2)
 .have hy:scope.names.lookup y=some .cell\/scope.names.lookup y=some .free:=hy
  rcases hy with hy|hy
  .exact J8 hy
  .exact absurd rfl (S.nofree _ (ò hy))
 .exact Nat.le_of_lt (x.above y c (ò h))
 .have hi:i<vs.length:=by
   unfold f6 at h2;by_cases hi:i<vs.length
   .exact hi
   .rw[Þ (by simpa using hi)]at h2
    rw[ÿ]at h2;split at h2<;>cases h2
  have ha:vs[i]?=some v:=by
   unfold f6 at h2;rw[ã (by simpa using hi),Ò]at h2;cases e:vs[i]? with
   |none=>rw[e]at h2;cases h2
   |some a=>rw[e]at h2;cases h2;rfl
  let⟨u,hu,rv⟩:=r.get ha;have hp:ps[i]?=some y:=by
   rw[<- S.pre,List.getElem?_take_of_lt (by exact þ ‹_› ‹_›)];exact h1
  have ndP:ps.Nodup:=by rw[<- S.pre];exact S.nd.sublist (List.take_sublist _ _)
  refine⟨u,rv,?_⟩;rcases S.par y (ä hp)with k|k
  .exact .inl ⟨k,EW ndP hp hu k⟩
  .obtain⟨c,e⟩:=J8 (n:=s.heap.objs.size+1) k
   refine .inr ⟨.inl k,c,e,?_⟩;have q:=x.cell y c e;rw[EY ndP hp hu (by show scope.names.lookup y≠_;rw[k];decide)]at q
   exact q
 .exact e0.hok.fresh (Nat.le_of_lt (x.above y c (ò h)))
 .unfold f6
  show _=N.length;rw[Î,Â,é];lia
def aLD{CX:SY}{P:Program}{w:World}{K:ZC}{mg:ZD}{base:Heap}{k:Nat}{f:Addr}{name qual:Str}{params:Arguments}{body:List Stmt}{scope:Scope}{dV kV doc pm cdv ct oc:Value}{an od:Option Addr}{osl:Array (ZL)}{N ps:ZE}{sp:Sp}(lk:K.lookup f=some ⟨oc,od,.func (W.fnOf name qual params body scope dV kV doc pm an cdv ct),osl⟩)(hcd:W.codeIn K cdv qual=true)(S:aS N ps scope)(len:∀vs H Q E,sp vs H Q E->vs.length=ps.length)(hbody:∀(A:Around)(outer:List Env)(s:Shared)(H:Hp)(vs:List V)(Q:VK)(E:XK),gN k (A.deeper (envOfC qual scope s.heap.objs.size f cdv))->sp vs H Q E ->
   ∃t,JT (wG CX P w K mg base N qual scope f cdv A outer s H E) body t/\t {nx:=λ_ H'=>Q .non H',rt:=Q} (f6 N vs) H):
  sP P w K mg base CX (k+1) f (W.fnOf name qual params body scope dV kV doc pm an cdv ct) ps sp:=by
 refine⟨len,λA outer s H args us vs Q E hr e0 hb r hsp=>?_⟩;have hl:=len _ _ _ _ hsp;have KX:K.In s.heap:=e0.mod.kin.keeps λb o e=>(e0.bs b o e).1;have lim:s.heap.NoLimit:=e0.mod.nolimit.keeps λb o e=>(e0.bs b o e).1;have hkind:∀y∈ps.zip us,scope.names.lookup y.1=some .local\/(scope.names.lookup y.1=some .cell/\((cellsFrom (s.heap.objs.size+1) scope.names []).lookup y.1).isSome=true):=λ⟨n,v⟩hy=>by
  rcases S.par n (List.of_mem_zip hy).1 with q|q
  .exact .inl q
  .exact .inr ⟨q,W.cellsFrom_some _ _ _ (.inl q)⟩
 refine codeAny_call_function hr.depth (KX _ _ lk) rfl S.co S.gen rfl (W.codeRec_of KX hcd) (hb _ _ _ _ ?_);refine wpAny_newFunctionEnv_cells S.kind hkind λenv he s1 x=>?_;subst he;refine⟨lim.keeps x.toInCall.keep,codeAny_func ?_⟩;let⟨t,ht,hq⟩:=hbody A outer s H vs Q E (hr.deeper _) hsp;have I:bM (wG CX P w K mg base N qual scope f cdv A outer s H E) [] (f6 N vs) H s1:=EZ S hr.hd e0 hl r x;refine wpAny_mono (ht [] s1 (f6 N vs) H _ I hq) (λfl s' hs=>?_) λe s' hs=>hs;have fin:∀{σ':St}{H':Hp}{v:V}{u:Value},bM (wG CX P w K mg base N qual scope f cdv A outer s H E) [] σ' H' s'->cR v u->Q v H'->CE outer P w H s Q u s':=
  λ{σ' H' v u}J rv q=>⟨v,H',J.os,J.bare,J.base,J.hok,rv,q⟩
 cases fl with
 |ret u=>
  let⟨v,σ',H',J,rv,q⟩:=hs;exact fin J rv q
 |next=>
  let⟨σ',H',J,q⟩:=hs;exact fin (v:=V.non) (u:=Value.none) J rfl q
 |brk=>
  let⟨_,_,_,q⟩:=hs;exact False.elim q
 |cont=>
  let⟨_,_,_,q⟩:=hs;exact False.elim q
section
variable{X:Cx}{x:Str}{p pos:Pos}{e:Expr}{es:List Expr}{t:TA}{id T:String}{r:List V->Hp->VK->Prop}
def Ŏ(r:List V->Hp->VK->Prop)(t:TA):TE:=λσ H Q=>t σ H λvs H1=>r vs H1 Q
def AU(hc:iH X (.builtin id) r)(hg:Gl X x)(hm:X.mg x=none)(hv:bootBuiltins x=some (.builtin id))(ha:PA X (e::es) t)(hn:⇑(x≠"__name__"))(hdb:⇑(Zdb x))(he:↥(Zse e es X.env))(hpl:↥(Zbt pos es X.env)):PE X (.Call (.Name x p) (e::es) [] pos) (Ŏ r t):=by
 intro U s σ H Q I h;refine wpAny_Call_Name_kw (p7 I hg hm hv ?_ hn hdb);exact PyProof.Rows.callWith_builtin1 (dL (ha pos U s σ H _ I h) λus s1 zQ=>by let⟨vs,H1,I1,r1,q1⟩:=zQ;exact hc U s1 σ H1 vs us Q I1 r1 q1) he hpl
def SZ(hc:iH X (.type T) r)(hg:Gl X x)(hm:X.mg x=none)(hv:bootBuiltins x=some (.type T))(ha:PA X (e::es) t)(hn:⇑(x≠"__name__"))(hdb:⇑(Zdb x))(he:↥(Zse e es X.env))(hpl:↥(Zbt pos es X.env)):PE X (.Call (.Name x p) (e::es) [] pos) (Ŏ r t):=by
 intro U s σ H Q I h;refine wpAny_Call_Name_kw (p7 I hg hm hv ?_ hn hdb);exact PyProof.Rows.callWith_type1 (dL (ha pos U s σ H _ I h) λus s1 zQ=>by let⟨vs,H1,I1,r1,q1⟩:=zQ;exact hc U s1 σ H1 vs us Q I1 r1 q1) he hpl
end
end L2
namespace HT
open PySem PyProof.Rows
section
open PySem.SeqAt
open PySem.AutoSeq1 (wpAny_loadPart')
open PySem.MeetsSeq PySem.MeetsSeq2 PySem.MeetsSeq3
end
section
variable{prog:Program}{w:World}{A:Around}{E:ZA}{s:Shared}
def cat_tup{t b:Addr}{vs ws:ZH}{Q:ZA}(ht:IsTup s.heap t vs.toArray)(hb:IsTup s.heap b ws.toArray)(hv:vs≠[])(h1:ws=[]->Q (.ref t) s)(h2:ws≠[]->Q (.ref s.heap.objs.size) {s with heap:=s.heap.push {cls:=.type "tuple",data:=.seq (vs++ws).toArray}})(hsz:vs.length+ws.length<=sizeLine):wpAny (model prog w) A (binaryOp .Add (.ref t) (.ref b)) Q E s:=by
 let⟨⟨cls,dd,data,sl⟩,ho,hc,n,hd⟩:=id ht;let⟨⟨cls2,dd2,data2,sl2⟩,ho2,hc2,n2,hd2⟩:=id hb;simp only at hc hd hc2 hd2;subst hc hd hc2 hd2;have e:vs.toArray++ws.toArray=(vs++ws).toArray:=by simp
 by_cases hw:ws=[]
 .exact concat_meets ⟨_,ho,rfl⟩ ⟨_,ho2,rfl⟩ noFill_tuple_add seq_tuple_add PySem.F.slot_tuple_add PySem.F.entry_tuple_add (PySem.F.args_tuple_add_2 _ _)
   (tuple_addW1 t b vs.toArray ws.toArray n n2 dd dd2 sl sl2 (by simpa using hv) (by simp[hw])) ⟨ho,ho2,h1 hw⟩
 .refine concat_meets ⟨_,ho,rfl⟩ ⟨_,ho2,rfl⟩ noFill_tuple_add seq_tuple_add PySem.F.slot_tuple_add PySem.F.entry_tuple_add (PySem.F.args_tuple_add_2 _ _)
   (tuple_addW2 t b vs.toArray ws.toArray n n2 dd dd2 sl sl2 (by simpa using hv) (by simpa using hw) (by grind)) ⟨ho,ho2,?_⟩
  rw[e];exact h2 hw
def sIx(n d:Nat):Option Int->Nat
 |none=>d
 |some v=>if v<0 then (v+(n:Int)).toNat else min v.toNat n
def sIx_none(n d:Nat):sIx n d none=d:=rfl
def sIx_nat(n d k:Nat):sIx n d (some (k:Int))=min k n:=by
 show (if (k:Int)<0 then ((k:Int)+(n:Int)).toNat else min (k:Int).toNat n)=min k n;rw[Ã ∅,Int.toNat_natCast]
def aH3(n d:Nat)(hd:d<=n)(o:Option Int):sIx n d o<=n:=by
 cases o with
 |none=>exact hd
 |some v=>
  show (if v<0 then (v+(n:Int)).toNat else min v.toNat n)<=n;by_cases hv:v<0
  .rw[Á hv];lia
  .rw[Ã hv];exact Nat.min_le_right _ _
def P5(v:Int)(n d:Nat):(if v<0 then max (v+(n:Int)) 0 else min v (n:Int))=((sIx n d (some v):Nat):Int):=by
 show (if v<0 then max (v+(n:Int)) 0 else min v (n:Int))=(((if v<0 then (v+(n:Int)).toNat else min v.toNat n):Nat):Int)
 grind
def NF(lo hi:Option Int)(n:Nat):Builtin.Slice.sliceAdjust lo hi 1 (n:Int)=(((sIx n 0 lo:Nat):Int),((sIx n n hi:Nat):Int)):=by
 have h1:¬((1:Int)<0):=by decide
 unfold Builtin.Slice.sliceAdjust;simp![h1,if_false];refine Prod.ext ?_ ?_
 .cases lo with
  |none=>rfl
  |some v=>exact P5 v n 0
 .cases hi with
  |none=>rfl
  |some v=>exact P5 v n n
def NG(i j:Nat):Builtin.Slice.slicePlaces (i:Int) (j:Int) 1=j-i:=by
 unfold Builtin.Slice.slicePlaces;have h1:(1:Int)>0:=by decide
 simp![h1,if_true,Int.ediv_one];split<;>lia
def AV{v:Value}{o:Option Int}{Q:Option Int->Shared->Prop}(p:IsPart v o)(h:Q o s):wpAny (model prog w) A (Builtin.Slice.slicePartIndex v) Q E s:=by
 cases p with
 |none=>exact slicePart_none h
 |int i t=>exact slicePart_int h
def wH{sl:Addr}{vl vu:Value}{lo hi:Option Int}{n:Nat}{Q:Int×Int×Nat->Shared->Prop}(hs:s.heap.IsSliceOf sl vl vu .none)(pl:IsPart vl lo)(pu:IsPart vu hi)(h:Q (((sIx n 0 lo:Nat):Int),1,sIx n n hi-sIx n 0 lo) s):wpAny (model prog w) A (Builtin.Slice.sliceApplied (.ref sl) (pure (n:Int))) Q E s:=by
 let⟨os,hos,hcs,hds⟩:=id hs;unfold Builtin.Slice.sliceApplied Builtin.Slice.sliceFields;refine wpAny_bind (wpAny_bind (wpAny_field hos hds (x:=vl) rfl (wpAny_bind (wpAny_field hos hds (x:=vu) rfl (wpAny_bind (wpAny_field hos hds (x:=.none) rfl (wpAny_pure ?_)))))));refine wpAny_bind (slicePart_none ?_);show wpAny _ _ (if ((1:Int) == 0)=true then _ else _) _ _ s;rw[Ã ⋯];refine wpAny_bind (AV pl (wpAny_bind (AV pu (wpAny_bind (wpAny_pure ?_)))));show wpAny _ _ (match Builtin.Slice.sliceAdjust lo hi 1 (n:Int)with|(lo,hi)=>pure (lo,(1:Int),Builtin.Slice.slicePlaces lo hi 1)) _ _ s;rw[NF lo hi n];show wpAny _ _ (pure (((sIx n 0 lo:Nat):Int),(1:Int),Builtin.Slice.slicePlaces ((sIx n 0 lo:Nat):Int) ((sIx n n hi:Nat):Int) 1)) _ _ s;rw[NG];exact wpAny_pure h
def VW(xs:Array Value)(i k:Nat):((List.range k).filterMap λ(m:Nat)=>xs[((i:Int)+(m:Int)*1).toNat]?).toArray=((xs.toList.drop i).take k).toArray:=by
 have e:(λ(m:Nat)=>xs[((i:Int)+(m:Int)*1).toNat]?)=λm=>xs[i+m]?:=by
  funext m;have:((i:Int)+(m:Int)*1).toNat=i+m:=by lia
  rw[this]
 rw[e];have:=pick_run xs i k;rw[List.filterMap_map]at this;have e2:((λx=>xs[x]?)∘λx=>i+x)=λm=>xs[i+m]?:=rfl;rw[e2]at this;rw[this]
def getItem_tuple_cut{t sl:Addr}{items:Array Value}{vl vu:Value}{lo hi:Option Int}{Q:ZA}(ht:IsTup s.heap t items)(hs:s.heap.IsSliceOf sl vl vu .none)(pl:IsPart vl lo)(pu:IsPart vu hi)(hw:¬(sIx items.size 0 lo=0/\sIx items.size items.size hi=items.size))(h:Q (.ref s.heap.objs.size) {s with heap:=s.heap.push {cls:=.type "tuple",data:=.seq ((items.toList.drop (sIx items.size 0 lo)).take (sIx items.size items.size hi-sIx items.size 0 lo)).toArray}})(hsz:items.size<=sizeLine):wpAny (model prog w) A (getItem (.ref t) (.ref sl)) Q E s:=by
 have htake:sizeOk (.seq ((items.toList.drop (sIx items.size 0 lo)).take (sIx items.size items.size hi-sIx items.size 0 lo)).toArray):=by
  show ((items.toList.drop (sIx items.size 0 lo)).take (sIx items.size items.size hi-sIx items.size 0 lo)).toArray.size<=sizeLine;rw[â,ì,List.length_drop,Array.length_toList];lia
 have hj:sIx items.size items.size hi<=items.size:=aH3 _ _ (È _) hi;let⟨os,hos,hcs,hds⟩:=id hs;have hTs:s.TypeIs (.ref sl) "slice":=⟨os,hos,hcs⟩;unfold getItem
 try with_reducible refine wpAny_holding ?_
 first|refine wpAny_bind (wpAny_pure ?_)|skip
 refine wpAny_bind (wpAny_sequenceKey ht.typeIs ⋯ ?_);refine wpAny_bind (wpAny_callSpecial?_slot (name:=Str.ofString "__getitem__") ht.typeIs PyProof.Rows.slot_tuple_getitem
  (wpAny_call_entry PyProof.Rows.slot_tuple_getitem ht.typeIs entry_tuple_getitem ?_ (args_tuple_getitem _ _)))
 show wpAny _ _ (Builtin.Tuple.tupleItemsOf (.ref t) >>= _) _ _ s;refine wpAny_bind (tupleItemsOf_ ht ?_);refine wpAny_bind (wpAny_typeOf hTs ?_);rw[Á ⋯];refine wpAny_bind (wH hs pl pu ?_);have hno:¬((((sIx items.size 0 lo:Nat):Int) == 0 && (1:Int) == 1 && (sIx items.size items.size hi-sIx items.size 0 lo) == items.size)=true):=by
  intro q;rw[á,á]at q;have q1:((sIx items.size 0 lo:Nat):Int)=0:=eq_of_beq q.1.1;have q2:sIx items.size items.size hi-sIx items.size 0 lo=items.size:=eq_of_beq q.2;exact hw ⟨∅,∅⟩
 show wpAny _ _ (if (((sIx items.size 0 lo:Nat):Int) == 0 && (1:Int) == 1 && (sIx items.size items.size hi-sIx items.size 0 lo) == items.size)=true then _ else _) _ _ s;rw[Ã hno,VW]
 first
  |exact wpAny_bind (m:=Builtin.Tuple.tupleExact _) (wpAny_newObj_type (wpAny_pure ⟨_,rfl,wpAny_pure h⟩) htake)
  |exact wpAny_bind (m:=Builtin.Tuple.tupleExact _) (wpAny_newObj_type (wpAny_bind (wpAny_pure (wpAny_pure ⟨_,rfl,wpAny_pure h⟩))) htake)
  |exact wpAny_bind (wpAny_bind (m:=Builtin.Tuple.tupleExact _) (wpAny_newObj_type (wpAny_pure (wpAny_pure ⟨_,rfl,wpAny_pure h⟩)) htake))
  |exact wpAny_bind (wpAny_bind (m:=Builtin.Tuple.tupleExact _) (wpAny_newObj_type (wpAny_pure ⟨_,rfl,wpAny_pure h⟩) htake))
end
end HT
namespace L2
open PySem PySem.Spec PyProof.Rows
abbrev TO:=St->Hp->(Option Int->Hp->Prop)->Prop
def PO(X:Cx)(e:Option Expr)(t:TO):Prop:=
 ∀(U:ZB)(s:Shared)(σ:St)(H:Hp)(Q:Option Int->Hp->Prop),bM X U σ H s->t σ H Q ->
  wpAny (model X.prog X.w) X.A (evalPart e X.env) (λu s'=>∃o H',bM X U σ H' s'/\IsPart u o/\Q o H') X.xe s
def aCV:TO:=λ_ H Q=>Q none H
def aLE(t:TE):TO:=λσ H Q=>t σ H λx H1=>∃i,x=.int i/\Q (some i) H1
section
variable{X:Cx}{e:Expr}{te:TE}{lo hi:Option Expr}{tl th:TO}{pos p2:Pos}
def aCW:PO X none aCV:=by
 intro U s σ H Q I h;rw[evalPart_none];exact wpAny_pure ⟨none,H,I,.none,h⟩
def aCX(h:PE X e te):PO X (some e) (aLE te):=by
 intro U s σ H Q I hw;rw[evalPart_some];refine dL (h U s σ H _ I hw) λu s1 zQ=>?_;let⟨x,H1,I1,r1,q1⟩:=zQ;let⟨i,rfl,q⟩:=q1;let⟨t,rfl⟩:=r1;exact⟨some i,H1,I1,.int i t,q⟩
def ğ(X:Cx)(r:V->Option Int->Option Int->Hp->VK->Prop):Prop:=
 ∀(U:ZB)(s:Shared)(σ:St)(H:Hp)(x:V)(v vl vu:Value)(lo hi:Option Int)(sl:Addr)(Q:VK),bM X U σ H s->cR x v->s.heap.IsSliceOf sl vl vu .none->IsPart vl lo->IsPart vu hi->r x lo hi H Q ->
  ∃T id,typeLookup (.type T) "__getitem__"=pure (some (.builtin id))/\s.TypeIs v T/\wpAny (model X.prog X.w) X.A (getItem v (.ref sl)) (EP X U σ Q) X.xe s
def aPZ(r:V->Option Int->Option Int->Hp->VK->Prop)(te:TE)(tl th:TO):TE:=λσ H Q=>te σ H λx H1=>tl σ H1 λl H2=>th σ H2 λu H3=>r x l u H3 Q
def VX{r:V->Option Int->Option Int->Hp->VK->Prop}(hr:ğ X r)(he:PE X e te)(hl:PO X lo tl)(hu:PO X hi th):PE X (.Subscript e (.Slice lo hi none p2) pos) (aPZ r te tl th):=by
 intro U s σ H Q I h;refine Subscript_ (dL (he U s σ H _ I h) λv s1 zQ=>?_);let⟨x,H1,I1,r1,q1⟩:=zQ;refine wpAny_Slice (dL (hl U s1 σ H1 _ I1 q1) λvl s2⟨l,H2,I2,pl,q2⟩=>dL (hu U s2 σ H2 _ I2 q2) λvu s3 zQ=>?_);let⟨u,H3,I3,pu,q3⟩:=zQ;rw[evalPart_none];refine wpAny_pure ?_;have I4:bM X U σ H3 {s3 with heap:=s3.heap.push {cls:=.type "slice",data:=.fields #[vl,vu,.none]}}:=I3.kept (t':=s3.toks) λb ob q=>Heap.get?_push_of_some _ q;let⟨T,id,hT,ht,hg⟩:=hr U {s3 with heap:=s3.heap.push {cls:=.type "slice",data:=.fields #[vl,vu,.none]}} σ H3 x v vl vu l u s3.heap.objs.size Q I4 r1 (Heap.IsSliceOf.new ..) pl pu q3;show wpAny (model X.prog X.w) X.A (subscriptTail e (.Slice lo hi none p2) v (.ref s3.heap.objs.size)) (EP X U σ Q) X.xe {s3 with heap:=s3.heap.push {cls:=.type "slice",data:=.fields #[vl,vu,.none]}};exact tail_any (ops:=[.ref s3.heap.objs.size,v]) ht hT hg (by with_unfolding_all rfl)
def GN(xs:List V)(lo hi:Option Int):(List V):=(xs.drop (HT.sIx xs.length 0 lo)).take (HT.sIx xs.length xs.length hi-HT.sIx xs.length 0 lo)
def yO(xs:List V)(lo hi:Option Int):(GN xs lo hi).length<=xs.length:=by
 unfold GN;rw[ì,List.length_drop];lia
def ź(K:ZC):V->Option Int->Option Int->Hp->VK->Prop:=λx lo hi H Q=>∃a xs,x=.ref a/\tX K H a xs /\
 ¬(HT.sIx xs.length 0 lo=0/\HT.sIx xs.length xs.length hi=xs.length)/\∀p,H p=none->Q (.ref p) (eB H p (.tup (GN xs lo hi)))
def wI:ğ X (ź X.K):=by
 intro U s σ H x v vl vu lo hi sl Q I rx hs pl pu h;let⟨a,xs,rfl,hx,hw,q⟩:=h;cases rx;let⟨its,r,ht,hz⟩:=I.tuple hx;have hlen:its.toArray.size=xs.length:=by rw[â];exact r.length.symm
 refine⟨"tuple",_,PyProof.Rows.slot_tuple_getitem.lookup,ht.typeIs,?_⟩;refine HT.getItem_tuple_cut ht hs pl pu (by rw[hlen];exact hw) ?_ (by rw[hlen];exact hz);rw[hlen];refine⟨.ref s.heap.objs.size,_,I.laid (t':=s.toks) (o:=.tup (GN xs lo hi)) (λb ob q=>Heap.get?_push_of_some _ q) (È _) ?_,rfl,q _ (I.hok.fresh (È _))⟩;exact⟨Ñ (yO xs lo hi) hz,_,(r.drop (HT.sIx xs.length 0 lo)).take (HT.sIx xs.length xs.length hi-HT.sIx xs.length 0 lo),IsTup.new _ _⟩
def Ż(K:ZC):R2:=λx y H Q=>∃a b xs ys,x=.ref a/\y=.ref b/\tX K H a xs/\tX K H b ys/\xs≠[]/\xs.length+ys.length<=sizeLine /\
 (ys=[]->Q (.ref a) H)/\(ys≠[]->∀p,H p=none->Q (.ref p) (eB H p (.tup (xs++ys))))
def b7.nil_iff{xs:List V}{us:ZH}(r:b7 xs us):us=[]↔xs=[]:=by
 cases r with
 |nil=>simp
 |cons _ _=>simp
def aCY:pO X (binaryOp .Add) (Ż X.K):=by
 intro U s σ H x y v u Q I rx ry h;let⟨a,b,xs,ys,rfl,rfl,ha,hb,hx,hz,q1,q2⟩:=h;cases rx;cases ry;let⟨its,r1,p1,_⟩:=I.tuple ha;let⟨its2,r2,p2,_⟩:=I.tuple hb;refine HT.cat_tup p1 p2 (λz=>hx (r1.nil_iff.mp z)) (λz=>⟨.ref a,H,I,rfl,q1 (r2.nil_iff.mp z)⟩) (λz=>?_) (by rw[<- r1.length,<- r2.length];exact hz);refine⟨.ref s.heap.objs.size,_,I.laid (t':=s.toks) (o:=.tup (xs++ys)) (λb ob q=>Heap.get?_push_of_some _ q) (È _) ?_,rfl,q2 (λw=>z (r2.nil_iff.mpr w)) _ (I.hok.fresh (È _))⟩;exact⟨by rw[Î];exact hz,_,r1.append r2,IsTup.new _ _⟩
end
def mT(n:Nat)(i:Int):(Option Nat):=if 0<=i then (if i<n then some i.toNat else none)else if -(n:Int)<=i then some (i+n).toNat else none
def atI{α:Type}(xs:List α)(i:Int):(Option α):=(mT xs.length i).bind λj=>xs[j]?
def GO{n:Nat}{i:Int}{j:Nat}(h:mT n i=some j):seqIndex? i n=some j/\j<n/\-(n:Int)<=i/\i<n:=by
 unfold mT at h;by_cases h0:0<=i
 .rw[Á h0]at h
  by_cases h1:i<n
  .rw[Á h1]at h
   have e:i.toNat=j:=Option.some.inj h;exact⟨by rw[seqIndex_of h0 h1,e],∅,∅,h1⟩
  grind
 .rw[Ã h0]at h
  by_cases h1:-(n:Int)<=i
  .rw[Á h1]at h
   have e:(i+n).toNat=j:=Option.some.inj h;exact⟨by rw[seqIndex_neg (by exact Int.not_le.mp ‹_›) h1,e],∅,h1,∅⟩
  grind
def GP{α:Type}{xs:List α}{i:Int}{v:α}(h:atI xs i=some v):∃j,seqIndex? i xs.length=some j/\xs[j]?=some v/\j<xs.length/\-(xs.length:Int)<=i/\i<xs.length:=by
 unfold atI at h;cases e:mT xs.length i with
 |none=>rw[e]at h;cases h
 |some j=>
  rw[e]at h;let⟨h1,h2,h3,h4⟩:=GO e;exact⟨j,h1,h,h2,h3,h4⟩
def jR{α:Type}{xs:List α}{j:Nat}{v:α}(h:xs[j]?=some v):atI xs (j:Int)=some v:=by
 have hj:j<xs.length:=(Ó.mp h).1;have e:mT xs.length (j:Int)=some j:=by
  unfold mT;rw[Á ∅,Á ∅];simp
 unfold atI;rw[e];exact h
def uY(b:Expr):Prop:=∀o i,subscripted b false o i=operate [o,i] (getItem o i)
def ā(X:Cx)(r:R2):Prop:=
 ∀(value slice:Expr)(U:ZB)(s:Shared)(σ:St)(H:Hp)(x y:V)(v u:Value)(Q:VK),bM X U σ H s->cR x v->cR y u->r x y H Q ->
  subscripted slice false v u=operate [v,u] (getItem v u)->wpAny (model X.prog X.w) X.A (subscriptTail value slice v u) (EP X U σ Q) X.xe s
def Đ(X:Cx)(id:String)(r:V->List V->Hp->VK->Prop):Prop:=
 ∀(U:ZB)(s:Shared)(σ:St)(H:Hp)(x:V)(xs:List V)(v:Value)(us:ZH)(Q:VK),bM X U σ H s->cR x v->b7 xs us->r x xs H Q ->
  wpAny (model X.prog X.w) X.A (call (.builtin id) (v::us)) (EP X U σ Q) X.xe s
section
variable{X:Cx}{a b:Expr}{ta tb:TE}{pos:Pos}
def ā.or{r r':R2}(h:ā X r)(h':ā X r'):ā X (λx y H Q=>r x y H Q\/r' x y H Q):=by
 intro value slice U s σ H x y v u Q I rx ry q hs;rcases q with q|q
 .exact h value slice U s σ H x y v u Q I rx ry q hs
 .exact h' value slice U s σ H x y v u Q I rx ry q hs
def P6{r:R2}(hr:ā X r)(ha:PE X a ta)(hb:PE X b tb)(hs:uY b):PE X (.Subscript a b pos) (Ğ r ta tb):=by
 intro U s σ H Q I h;exact Subscript_ (ŋ ha hb I h λv u s2 x y H2 I2 rx ry q=>hr a b U s2 σ H2 x y v u Q I2 rx ry q (hs _ _))
def ŏ(K:ZC):R2:=λx y H Q=>∃p xs i v,x=.ref p/\y=.int i/\gM K H p xs/\atI xs i=some v/\Q v H
def ż(K:ZC):R2:=λx y H Q=>∃p xs i v,x=.ref p/\y=.int i/\tX K H p xs/\atI xs i=some v/\Q v H
def Ž:R2:=λx y H Q=>∃z i c,x=.str z/\y=.int i/\z.length<=sizeLine/\atI z.cps.toList i=some c/\Q (.str ⟨#[c]⟩) H
def AC:ā X (ŏ X.K):=by
 intro value slice U s σ H x y v u Q I rx ry h hs;let⟨p,xs,i,z,rfl,rfl,hq,he,q⟩:=h;cases rx;let⟨t,rfl⟩:=ry;let⟨its,r,pl,hz⟩:=I.list hq;let⟨j,h1,h2,h3,h4,h5⟩:=GP he;let⟨w,ew,rw'⟩:=r.get h2;have hl:=r.length;have hn:=tZ;have fin:EP X U σ Q w s:=⟨z,H,I,rw',q⟩;by_cases h0:0<=i
 .have hj:i.toNat=j:=by
   rw[seqIndex_of h0 h5]at h1;exact Option.some.inj h1
  exact item_listR pl.isList h0 ∅ (by rw[hj];simpa using ew) fin hs
 .have hj:(i+(its.toArray.size:Int)).toNat=j:=by
   rw[seqIndex_neg (by exact Int.not_le.mp ‹_›) h4]at h1;rw[â,<- hl];exact Option.some.inj h1
  exact subscriptTail_builtinR (x:=w) pl.isList.typeIs slot_list_getitem.lookup
   (wpAny_getItem_list_neg (Q:=λr s'=>r=w/\EP X U σ Q r s') pl.isList (by exact Int.not_le.mp ‹_›) (by grind) ∅ (by rw[hj];simpa using ew) ⟨rfl,fin⟩) hs
def aH6:ā X (ż X.K):=by
 intro value slice U s σ H x y v u Q I rx ry h hs;let⟨p,xs,i,z,rfl,rfl,hq,he,q⟩:=h;cases rx;let⟨t,rfl⟩:=ry;let⟨its,r,pl,hz⟩:=I.tuple hq;let⟨j,h1,h2,h3,h4,h5⟩:=GP he;let⟨w,ew,rw'⟩:=r.get h2;have hl:=r.length;have hn:=tZ;have fin:EP X U σ Q w s:=⟨z,H,I,rw',q⟩;exact subscriptTail_builtinR (x:=w) pl.typeIs slot_tuple_getitem.lookup
  (getItem_tuple (j:=j) (Q:=λr s'=>r=w/\EP X U σ Q r s') pl ∅ ∅ (by grind) (by simpa using ew) ⟨rfl,fin⟩) hs
def aH7:ā X Ž:=by
 intro value slice U s σ H x y v u Q I rx ry h hs;let⟨z,i,c,rfl,rfl,hz,he,q⟩:=h;let⟨t,rfl⟩:=rx;let⟨t',rfl⟩:=ry;let⟨j,h1,h2,h3,h4,h5⟩:=GP he;have hl:z.cps.toList.length=z.length:=by simp[Str.length]
 rw[hl]at h1 h4 h5;have hn:=tZ;exact tail_any (typeIs_str s z t) slot_str_getitem.lookup (getItem_str (c:=c) (by
  grind) (by rw[h1];simpa using h2) ⟨.str ⟨#[c]⟩,H,I.tok _,⟨_,rfl⟩,q⟩) hs
def ž(K:ZC):R2:=λx y H Q=>ŏ K x y H Q\/ż K x y H Q\/Ž x y H Q
def aH8:ā X (ž X.K):=AC.or (aH6.or aH7)
def NH(its:ZH)(n j:Nat)(u:Value):Obj.mapSeq (·.setIfInBounds j u) {cls:=.type "list",data:=.seq its.toArray n}={cls:=.type "list",data:=.seq (its.set j u).toArray n}:=by
 simp[Obj.mapSeq]
def bM.lst{U:ZB}{σ:St}{H:Hp}{s:Shared}{p:Addr}{xs:List V}(I:bM X U σ H s)(h:H p=some (.lst xs)):
  ∃(its:ZH)(n:Nat),b7 xs its/\s.heap.get? p=some {cls:=.type "list",data:=.seq its.toArray n}/\xs.length<=sizeLine:=by
 let⟨z,its,n,r,e⟩:=I.hok p _ h;exact⟨its,n,r,e,z⟩
def bM.lstUpd{U:ZB}{σ:St}{H:Hp}{s:Shared}{p:Addr}{xs ys:List V}{its its':ZH}{n n':Nat}{f:Obj->Obj}(I:bM X U σ H s)(h:H p=some (.lst xs))(ho:s.heap.get? p=some {cls:=.type "list",data:=.seq its.toArray n})(hf:f {cls:=.type "list",data:=.seq its.toArray n}={cls:=.type "list",data:=.seq its'.toArray n'})(r:b7 ys its')(hz:ys.length<=sizeLine)(t:Nat):
  bM X U σ (eB H p (.lst ys)) {s with heap:=s.heap.update p f,toks:=t}:=by
 have e:(s.heap.update p f).get? p=some {cls:=.type "list",data:=.seq its'.toArray n'}:=by
  rw[Heap.get?_update_self f ho (by rw[hf]<;>rfl),hf]
 refine I.write (x:=p) (e:=p) (by rw[h];trivial) (.inl rfl) (λb u hb q=>(Heap.get?_update_other _ _ (Ö hb)).trans q) ⟨_,e⟩ ?_;exact⟨hz,its',n',r,e⟩
def aLJ:V->V->V->Hp->(Hp->Prop)->Prop:=λo i v H Q=>∃p xs k j,o=.ref p/\i=.int k/\H p=some (.lst xs)/\mT xs.length k=some j/\Q (eB H p (.lst (xs.set j v)))
def VY:Ŷ X aLJ:=by
 intro U s σ H o i v ov iv u Q I ro ri rv h;let⟨p,xs,k,j,rfl,rfl,hp,hj,q⟩:=h;cases ro;let⟨t,rfl⟩:=ri;let⟨its,n,r,ho,hz⟩:=I.lst hp;let⟨h1,h2,h3,h4⟩:=GO hj;have hl:=r.length;have hn:=tZ;have I':bM X U σ (eB H p (.lst (xs.set j v))) {s with heap:=s.heap.update p (Obj.mapSeq (·.setIfInBounds j u))}:=
  I.lstUpd hp ho (NH its n j u) (r.set rv j) (by rw[à];exact hz) s.toks
 by_cases h0:0<=k
 .have hk:k.toNat=j:=by
   rw[seqIndex_of h0 h4]at h1;exact Option.some.inj h1
  exact W.ki_setAt ho h0 ∅ (by rw[â,<- hl];exact h4) (by rw[hk];exact⟨_,I',q⟩)
 .have hk:(k+(its.toArray.size:Int)).toNat=j:=by
   rw[seqIndex_neg (by exact Int.not_le.mp ‹_›) h3]at h1;rw[â,<- hl];exact Option.some.inj h1
  exact W.ki_setBack ho (by exact Int.not_le.mp ‹_›) (by rw[â,<- hl];exact h3) ∅ (by rw[hk];exact⟨_,I',q⟩)
def GQ(lo hi:Option Int)(n:Nat):(sliceBounds lo hi none n).1=((HT.sIx n 0 lo:Nat):Int)/\(sliceBounds lo hi none n).2.1=((HT.sIx n n hi:Nat):Int)/\(sliceBounds lo hi none n).2.2=1:=by
 refine⟨?_,?_,rfl⟩
 .cases lo with
  |none=>simp[sliceBounds,HT.sIx]
  |some i=>
   simp![sliceBounds,HT.sIx,Option.getD_none,show (1:Int)>0 by decide,if_true]
   grind
 .cases hi with
  |none=>simp[sliceBounds,HT.sIx]
  |some i=>
   simp![sliceBounds,HT.sIx,Option.getD_none,show (1:Int)>0 by decide,if_true]
   grind
def DW(its:ZH)(lo hi:Option Int):slicePick its.toArray lo hi none=((its.drop (HT.sIx its.length 0 lo)).take (HT.sIx its.length its.length hi-HT.sIx its.length 0 lo)).toArray:=by
 let⟨h1,h2,h3⟩:=GQ lo hi its.toArray.size;unfold slicePick;rw[h1,h2,h3];simp![sliceRange_one,pick_run,â]<;>rfl
def ſ(K:ZC):V->Option Int->Option Int->Hp->VK->Prop:=λx lo hi H Q=>∃a xs,x=.ref a/\gM K H a xs/\∀p,H p=none->Q (.ref p) (eB H p (.lst (GN xs lo hi)))
def AD:ğ X (ſ X.K):=by
 intro U s σ H x v vl vu lo hi sl Q I rx hs pl pu h;let⟨a,xs,rfl,hx,q⟩:=h;cases rx;let⟨its,r,ht,hz⟩:=I.list hx;have hlen:=r.length;refine⟨"list",_,slot_list_getitem.lookup,ht.isList.typeIs,?_⟩;refine wpAny_getItem_list_slice ht.isList hs pl pu .none (by simp) ?_ (by grind);rw[DW,<- hlen];refine⟨.ref s.heap.objs.size,_,I.laid (t':=s.toks) (o:=.lst (GN xs lo hi)) (λb ob q=>Heap.get?_push_of_some _ q) (È _) ?_,rfl,q _ (I.hok.fresh (È _))⟩;exact⟨Ñ (yO xs lo hi) hz,_,0,(r.drop (HT.sIx xs.length 0 lo)).take (HT.sIx xs.length xs.length hi-HT.sIx xs.length 0 lo),Heap.get?_push_size _ rfl⟩
def sW:V->Bool
 |.non=>true
 |.bl _=>true
 |.int _=>true
 |.str _=>true
 |_=>false
def ć:V->V->Bool
 |.non,.non=>true
 |.bl a,.bl b=>a == b
 |.bl a,.int b=>(if a then 1 else 0) == b
 |.int a,.bl b=>a == (if b then 1 else 0)
 |.int a,.int b=>a == b
 |.str a,.str b=>a == b
 |_,_=>false
def aH9{A:Around}{s:Shared}{y x:V}{u v:Value}(ry:cR y u)(rx:cR x v)(fy:sW y=true)(fx:sW x=true):SeqAt.EqAt A s u v (ć y x):=by
 cases y with
 |non=>
  cases ry;cases x with
  |non=>cases rx;exact SeqAt.EqAt.same _
  |bl b=>cases rx;exact SeqAt.EqAt.none_bool b
  |int b=>let⟨t,rfl⟩:=rx;exact SeqAt.EqAt.none_int b t
  |str b=>let⟨t,rfl⟩:=rx;exact SeqAt.EqAt.none_str b t
  |_=>exact absurd (show false=true from fx) Ý
 |bl a=>
  cases ry;cases x with
  |non=>cases rx;exact SeqAt.EqAt.bool_none a
  |bl b=>cases rx;exact SeqAt.EqAt.bool_bool a b
  |int b=>let⟨t,rfl⟩:=rx;exact SeqAt.EqAt.bool_int a b t
  |str b=>let⟨t,rfl⟩:=rx;exact SeqAt.EqAt.bool_str a b t
  |_=>exact absurd (show false=true from fx) Ý
 |int a=>
  let⟨t',rfl⟩:=ry;cases x with
  |non=>cases rx;exact SeqAt.EqAt.int_none a t'
  |bl b=>cases rx;exact SeqAt.EqAt.int_bool a t' b
  |int b=>let⟨t,rfl⟩:=rx;exact SeqAt.EqAt.int_int a t' b t
  |str b=>let⟨t,rfl⟩:=rx;exact SeqAt.EqAt.int_str a t' b t
  |_=>exact absurd (show false=true from fx) Ý
 |str a=>
  let⟨t',rfl⟩:=ry;cases x with
  |non=>cases rx;exact SeqAt.EqAt.str_none a t'
  |bl b=>cases rx;exact SeqAt.EqAt.str_bool a t' b
  |int b=>let⟨t,rfl⟩:=rx;exact SeqAt.EqAt.str_int a t' b t
  |str b=>let⟨t,rfl⟩:=rx;exact SeqAt.EqAt.str_str a t' b t
  |_=>exact absurd (show false=true from fx) Ý
 |_=>exact absurd (show false=true from fy) Ý
def Ă(x:V)(u:Value):Bool:=match u with
 |.none=>ć .non x
 |.bool b=>ć (.bl b) x
 |.int i _=>ć (.int i) x
 |.str z _=>ć (.str z) x
 |_=>false
def VZ{x y:V}{u:Value}(r:cR y u)(f:sW y=true):Ă x u=ć y x:=by
 cases y with
 |non=>cases r;rfl
 |bl b=>cases r;rfl
 |int i=>let⟨t,rfl⟩:=r;rfl
 |str z=>let⟨t,rfl⟩:=r;rfl
 |_=>exact absurd (show false=true from f) Ý
def GR{x:V}:∀{xs:List V}{us:ZH},b7 xs us->xs.all sW=true->us.any (Ă x)=xs.any λy=>ć y x
 |_,_,.nil,_=>rfl
 |y::xs,u::us,.cons r t,f=>by
  rw[List.all_cons,á]at f;rw[ó,ó,VZ r f.1,GR t f.2]
def AW{A:Around}{s:Shared}{x:V}{v:Value}(rx:cR x v)(fx:sW x=true):∀{xs:List V}{us:ZH},b7 xs us->xs.all sW=true->∀u∈us,SeqAt.EqAt A s u v (Ă x u)
 |_,_,.nil,_=>λu hu=>by cases hu
 |y::xs,u::us,.cons r t,f=>λu' hu=>by
  rw[List.all_cons,á]at f;rcases Å.mp hu with rfl|hu
  .rw[VZ r f.1];exact aH9 r rx f.1 fx
  .exact AW rx fx t f.2 u' hu
def Ė(x:V)(xs:List V):Bool:=xs.any λy=>ć y x
def Α(K:ZC)(neg:Bool):R2:=λx y H Q=>∃p xs,y=.ref p/\(gM K H p xs\/tX K H p xs)/\sW x=true/\xs.all sW=true/\Q (.bl (if neg then !Ė x xs else Ė x xs)) H
def GS:pO X (compareOp .NotIn) (Α X.K true):=by
 intro U s σ H x y v u Q I rx ry h;let⟨p,xs,rfl,hq,fx,fs,q⟩:=h;cases ry;rcases hq with hq|hq
 .obtain⟨its,r,pl,hz⟩:=I.list hq
  refine SeqAt.notIn_listAt (Ă x) pl.isList (λw hw=>AW rx fx r fs w (by simpa using hw)) ⟨.bl _,H,I,rfl,?_⟩;rw[show its.toArray.any (Ă x)=its.any (Ă x) by simp,GR r fs];exact q
 .obtain⟨its,r,pl,hz⟩:=I.tuple hq
  refine SeqAt.notIn_tupleAt (Ă x) pl (λw hw=>AW rx fx r fs w (by simpa using hw)) ⟨.bl _,H,I,rfl,?_⟩;rw[show its.toArray.any (Ă x)=its.any (Ă x) by simp,GR r fs];exact q
def uZ:iH X (.builtin "len") (λxs H Q=>∃p ys,xs=[.ref p]/\(gM X.K H p ys\/tX X.K H p ys)/\Q (.int ys.length) H):=by
 intro U s σ H xs us Q I r h;let⟨p,ys,rfl,hq,q⟩:=h;let⟨u,rfl,rx⟩:=nR r;cases rx;have hn:=tZ;rcases hq with hq|hq
 .obtain⟨its,r',pl,hz⟩:=I.list hq
  have hlen:=r'.length;exact Calls.call_len_list pl.isList (by grind) ⟨.int ys.length,H,I.tok _,⟨s.toks+1,by grind⟩,q⟩
 .obtain⟨its,r',pl,hz⟩:=I.tuple hq
  have hlen:=r'.length;exact len_tuple pl (by grind) ⟨.int ys.length,H,I.tok _,⟨s.toks+1,by grind⟩,q⟩
def GT:iH X (.builtin "len") (λxs H Q=>∃z,xs=[.str z]/\z.length<=sizeLine/\Q (.int z.length) H):=by
 intro U s σ H xs us Q I r h;let⟨z,rfl,hz,q⟩:=h;let⟨u,rfl,t,rfl⟩:=nR r;have hn:=tZ;exact len_str ∅ ⟨.int z.length,H,I.tok _,⟨_,rfl⟩,q⟩
def iH.or{f:Value}{r r':List V->Hp->VK->Prop}(h:iH X f r)(h':iH X f r'):iH X f (λxs H Q=>r xs H Q\/r' xs H Q):=by
 intro U s σ H xs us Q I rs q;rcases q with q|q
 .exact h U s σ H xs us Q I rs q
 .exact h' U s σ H xs us Q I rs q
def GU:iH X (.type "list") (λxs H Q=>∃p ys,xs=[.ref p]/\(gM X.K H p ys\/tX X.K H p ys)/\∀l,H l=none->Q (.ref l) (eB H l (.lst ys))):=by
 intro U s σ H xs us Q I r h;let⟨p,ys,rfl,hq,q⟩:=h;let⟨u,rfl,rx⟩:=nR r;cases rx;have fin:∀(its:ZH),b7 ys its->ys.length<=sizeLine->∀(h':Heap)(c':Nat),(∀b o',s.heap.get? b=some o'->h'.get? b=some o') ->
   h'.get? s.heap.objs.size=some {cls:=.type "list",dict:=none,data:=.seq its.toArray c',slots:=#[]}->EP X U σ Q (.ref s.heap.objs.size) {s with heap:=h'}:=λits r' hz h' c' kp e=>
  ⟨.ref s.heap.objs.size,_,I.laid (t':=s.toks) kp (È _) (show fX X.prog X.w _ h' _ (.lst ys)from⟨hz,its,c',r',e⟩),rfl,q _ (I.hok.fresh (È _))⟩
 rcases hq with hq|hq
 .obtain⟨its,r',pl,hz⟩:=I.list hq
  have hlen:=r'.length;let⟨o,ho,hc,n,hd⟩:=pl.isList;exact call_list_seq p (.inl rfl) ho hc hd (λh' c' kp e=>fin its r' hz h' c' kp e) (by grind)
 .obtain⟨its,r',pl,hz⟩:=I.tuple hq
  have hlen:=r'.length;let⟨o,ho,hc,n,hd⟩:=pl;exact call_list_seq p (.inr rfl) ho hc hd (λh' c' kp e=>fin its r' hz h' c' kp e) (by grind)
def DX:iH X (.type "tuple") (λxs H Q=>∃p ys,xs=[.ref p]/\((gM X.K H p ys/\∀l,H l=none->Q (.ref l) (eB H l (.tup ys)))\/(tX X.K H p ys/\Q (.ref p) H))):=by
 intro U s σ H xs us Q I r h;let⟨p,ys,rfl,h⟩:=h;let⟨u,rfl,rx⟩:=nR r;cases rx;rcases h with ⟨hq,q⟩|⟨hq,q⟩
 .obtain⟨its,r',pl,hz⟩:=I.list hq
  have hlen:=r'.length;refine call_tuple_list pl.isList (λh' kp=>?_) (by grind);have I1:bM X U σ H {s with heap:=h'}:=I.kept (t':=s.toks) kp;have I2:bM X U σ (eB H h'.objs.size (.tup ys)) {s with heap:=h'.push {cls:=.type "tuple",data:=.seq its.toArray}}:=
   I1.laid (t':=s.toks) (λb o e=>Heap.get?_push_of_some _ e) (È _) (show fX X.prog X.w _ _ _ (.tup ys)from⟨hz,its,r',IsTup.new _ _⟩)
  exact⟨.ref h'.objs.size,_,I2,rfl,q _ (I1.hok.fresh (È _))⟩
 .obtain⟨its,r',pl,hz⟩:=I.tuple hq
  exact call_tuple_same pl ⟨.ref p,H,I,rfl,q⟩
def Į(K:ZC)(T:String)(x:V)(H:Hp):Prop:=match x with
 |.str _=>T="str"
 |.int _=>T="int"
 |.ref p=>(T="list"/\∃xs,gM K H p xs)\/(T="tuple"/\∃o,K.lookup p=some o/\o.cls=.type "tuple"/\o.dict=none) \/
   (T="dict"/\((∃À,H p=some (.dK À))\/∃À,H p=some (.dT À)))\/(T="set"/\∃S n,H p=some (.set S n))
 |_=>False
theorem V0{U:ZB}{σ:St}{H:Hp}{s:Shared}{T:String}{x:V}{v:Value}(I:bM X U σ H s)(r:cR x v)(ty:Į X.K T x H):
  s.TypeIs v T/\∀a,v=.ref a->∃ob,s.heap.get? a=some ob/\ob.dict=none:=by
 cases x with
 |str z=>
  let⟨t,rfl⟩:=r;cases (show T="str"from ty);exact⟨typeIs_str s z t,λ_ e=>nomatch e⟩
 |int i=>
  let⟨t,rfl⟩:=r;cases (show T="int"from ty);exact⟨typeIs_int s i t,λ_ e=>nomatch e⟩
 |ref p=>
  cases r;rcases ty with ⟨rfl,xs,hq⟩|⟨rfl,o,hk,hc,hd⟩|⟨rfl,hk⟩|⟨rfl,S,n,hk⟩
  .obtain⟨its,_,pl,_⟩:=I.list hq
   refine⟨pl.isList.typeIs,λa e=>?_⟩;cases e;let⟨o,n,e,c,hd,_⟩:=pl;exact⟨o,e,hd⟩
  .refine⟨⟨o,I.kIn p o hk,hc⟩,λa e=>?_⟩
   cases e;exact⟨o,I.kIn _ o hk,hd⟩
  .have z:∃o,s.heap.get? p=some o/\o.ExactDict:=by
    rcases hk with ⟨À,hk⟩|⟨À,hk⟩
    .obtain⟨_,_,_,_,o,_,_,e,ex,_⟩:=I.hok p _ hk
     exact⟨o,e,ex⟩
    .obtain⟨_,_,_,_,o,_,_,e,ex,_⟩:=I.hok p _ hk
     exact⟨o,e,ex⟩
   let⟨o,e,ex⟩:=z;refine⟨⟨o,e,ex.1⟩,λa e2=>?_⟩;cases e2;exact⟨o,e,ex.2.1⟩
  .obtain⟨o,_,_,_,e,ex,_⟩:=I.hok p _ hk
   refine⟨⟨o,e,ex.1⟩,λa e2=>?_⟩;cases e2;exact⟨o,e,ex.2.1⟩
 |_=>exact False.elim ty
def Ő(K:ZC)(T:String)(r:V->List V->Hp->VK->Prop)(to:TE)(t:TA):TE:=λσ H Q=>to σ H λx H1=>Į K T x H1/\t σ H1 λxs H2=>r x xs H2 Q
variable{o e:Expr}{es:List Expr}{to:TE}{t:TA}{name:Str}{apos cpos:Pos}{T id:String}{r:V->List V->Hp->VK->Prop}
def E0(pa:PlainAttrs T)(slot:Slot T name id)(hty:typeOf (.builtin id)=pure (.type "method_descriptor"))(hm:Đ X id r)(ho:PE X o to)(ha:PA X (e::es) t)(hbase:↥(attributeBase o name X.env (eval o X.env)=eval o X.env))(hfew:↥(((backTo cpos (starEach (e::es) X.env)).all (λx=>!x.1) && (backToKw cpos (keywordEach [] X.env)).all (λx=>x.1.isSome)
   && decide ((e::es).length+([]:List Keyword).length+(if ([]:List Keyword).isEmpty then 0 else 1)<30))=true))(hline:↥((apos.endLine == cpos.line)=true))(hs:↥(Zse e es X.env))(hplain:↥(Zbt cpos es X.env)):
  PE X (.Call (.Attribute o name apos) (e::es) [] cpos) (Ő X.K T r to t):=by
 intro U s σ H Q I h;refine wpAny_Call_method_late hbase hfew hline rfl (dL (ho U s σ H _ I h) λv s1 zQ=>?_);let⟨x,H1,I1,r1,ty,q1⟩:=zQ;let⟨h1,h2⟩:=V0 I1 r1 ty;refine⟨T,id,pa,slot,hty,h1,h2,?_⟩;have hA:=ha cpos U s1 σ H1 _ I1 q1;rw[hs]at hA⊢;refine Calls.callWith_builtin (by show (false || (backTo cpos (starEach es X.env)).any (·.1))=false;rw[hplain]<;>rfl) (Calls.evalArgs_plain ?_)
 exact dL hA λus s2 zQ=>by let⟨vs,H2,I2,r2,q2⟩:=zQ;exact hm U s2 σ H2 x vs v us Q I2 r1 r2 q2
end
def ő(X:Cx)(id:String)(r:V->List V->Hp->VK->Prop):Prop:=
 ∀(U:ZB)(s:Shared)(σ:St)(H:Hp)(x:V)(xs:List V)(v:Value)(us:ZH)(Q:VK),bM X U σ H s->cR x v->b7 xs us->r x xs H Q ->
  wpAny (model X.prog X.w) X.A (call (.builtin id) (v::us)) (EP X U σ Q) X.xe s
def b7.one:∀{x:V}{us:ZH},b7 [x] us->∃u,us=[u]/\cR x u:=λh=>nR h
def b7.zero:∀{us:ZH},b7 [] us->us=[]
 |_,.nil=>rfl
def b7.eraseIdx:∀{xs:List V}{us:ZH}(i:Nat),b7 xs us->b7 (xs.eraseIdx i) (us.eraseIdx i)
 |_,_,_,.nil=>.nil
 |_,_,0,.cons _ t=>t
 |_,_,i+1,.cons r t=>.cons r (b7.eraseIdx i t)
section
variable{X:Cx}{U:ZB}{σ:St}{H:Hp}{s:Shared}{l b:Addr}{xs ys zs:List V}
def bM.lset{its its':ZH}{n:Nat}{f:Array Value->Array Value}{t':Nat}(I:bM X U σ H s)(hH:H l=some (.lst xs))(e:s.heap.get? l=some {cls:=.type "list",data:=.seq its.toArray n})(hf:f its.toArray=its'.toArray)(hv:b7 ys its')(hz:ys.length<=sizeLine):
  bM X U σ (eB H l (.lst ys)) {s with heap:=s.heap.update l (Obj.mapSeq f),toks:=t'}:=by
 have q:=PySem.IsL.update e f;rw[hf]at q;refine I.write (x:=l) (e:=l) (by rw[hH];exact trivial) (.inl rfl) (λb' u hb hu=>(Heap.get?_update_other s.heap (Obj.mapSeq f) (Ö hb)).trans hu) ⟨_,q⟩ ?_;exact⟨hz,its',_,hv,q⟩
def bM.lnew{its:ZH}{t':Nat}(I:bM X U σ H s)(hv:b7 ys its)(hz:ys.length<=sizeLine):
  bM X U σ (eB H s.heap.objs.size (.lst ys)) {s with heap:=s.heap.push {cls:=.type "list",data:=.seq its.toArray},toks:=t'}:=
 I.laid (λ_ _ q=>Heap.get?_push_of_some _ q) (È _) ⟨hz,its,0,hv,Heap.get?_push_size _ rfl⟩
def bM.fresh(I:bM X U σ H s):H s.heap.objs.size=none:=I.hok.fresh (È _)
def bM.lstM(I:bM X U σ H s)(hH:H l=some (.lst xs)):xs.length<=sizeLine/\∃(its:ZH)(n:Nat),b7 xs its/\xs.length=its.length/\s.heap.get? l=some {cls:=.type "list",data:=.seq its.toArray n}:=by
 let⟨z,its,n,r,e⟩:=I.hok l _ hH;exact⟨z,its,n,r,r.length,e⟩
def V1{n:Nat}(h:n<=sizeLine):Builtin.List.listTooLong n=false:=by
 unfold Builtin.List.listTooLong
 grind
end
section
variable{X:Cx}
def P7:V->List V->Hp->VK->Prop:=λx vs H Q=>∃l xs y,x=.ref l/\vs=[y]/\H l=some (.lst xs)/\xs.length<sizeLine/\Q .non (eB H l (.lst (xs++[y])))
def wJ:ő X "list.append" P7:=by
 intro U s σ H x vs v us Q I rx rv h;let⟨l,xs,y,rfl,rfl,hH,hz,q⟩:=h;cases rx;let⟨u,rfl,ru⟩:=rv.one;let⟨z,its,n,r,hl,e⟩:=I.lstM hH;refine call_meets F.slot_list_append ⟨_,e,rfl⟩ F.entry_list_append (F.args_list_append_2 _ _) (PySem.list_append l its.toArray n u (by rw[â];lia)) ⟨e,?_⟩;refine⟨.non,_,I.lset (its':=its++[u]) hH e (by simp) (r.append (.cons ru .nil)) ?_,rfl,q⟩;rw[Î,í];assumption
def aIA:V->List V->Hp->VK->Prop:=λx vs H Q=>∃l xs i k y,x=.ref l/\vs=[.int i]/\H l=some (.lst xs)/\-(2^63)<=i/\i<2^63/\seqIndex? i xs.length=some k/\xs[k]?=some y/\Q y (eB H l (.lst (xs.eraseIdx k)))
def V2:ő X "list.pop" aIA:=by
 intro U s σ H x vs v us Q I rx rv h;let⟨l,xs,i,k,y,rfl,rfl,hH,h1,h2,hk,hy,q⟩:=h;cases rx;let⟨u,rfl,ru⟩:=rv.one;let⟨t,rfl⟩:=ru;let⟨z,its,n,r,hl,e⟩:=I.lstM hH;let⟨w,hw,rw'⟩:=r.get hy;refine call_meets F.slot_list_pop ⟨_,e,rfl⟩ F.entry_list_pop (F.args_list_pop_2 _ _)
  (MeetsSeq.list_pop_at l its.toArray n i t k w (fitsIndex_both h1 h2) (by grind) (by grind) (by rw[â];lia)) ⟨e,?_⟩
 refine⟨y,_,I.lset (its':=its.eraseIdx k) hH e ?_ (r.eraseIdx k) ?_,rw',q⟩
 all_goals grind
end
section
variable{prog:Program}{w:World}{A:Around}{E:ZA}{s:Shared}
end
section
variable{X:Cx}
end
end L2
namespace Att
open PySem PySem.W PySem.Calls PyProof.Rows
def zK{P:Params}{h:Heap}:∀(ns:ZI)(vs:ZH),WellAll P h vs (ns.map WData.int)->IntsAre vs ns:=by
 intro ns
 induction ns with
 |nil=>
  intro vs w;rw[List.map_nil]at w;cases w;exact .nil
 |cons n ns ih=>
  intro vs w;rw[Ê]at w;cases w with
  |cons a b=>
   cases a;exact .cons _ _ (ih _ b)
def S0{l:OpenLaw}{n:Nat}(hn:l.most=some n){P:Params}{h:Heap}{args:List WData}{vals:ZH}(hpre:l.row.toRowW.claim.pre args=true)(hwl:WellAll P h vals args):
  ∃a vs ns,vals=[Value.ref a]/\args=[WData.list (ns.map WData.int)]/\h.get? a=some {cls:=.type "list",data:=.seq vs.toArray}/\IntsAre vs ns/\ns.length<=n:=by
 have hsh:WShape.hasAll [] args [.list .int]=true:=(pre_splitW hpre).1;have hc:l.pre.holds [] {args:=args}=true:=(pre_splitW hpre).2;let⟨d,r,rfl,h1,h2⟩:=hasAllW_cons hsh;obtain rfl:=hasAllW_nil h2;let⟨xs,rfl,h3⟩:=hasW_list h1;let⟨ns,rfl⟩:=items_int h3;have hlen:ns.length<=n:=by
  unfold OpenLaw.pre at hc;have h4:(WTm.not (.lt (.lit (.int (n:Int))) (.len (.arg 0)))).holds [] {args:=[.list (ns.map .int)]}=true:=by
   have h4:=(holds_andW hc).1;rw[hn]at h4;exact h4
  have h5:=condW_of h4 (w_not (w_lt w_lit (w_len_list (w_arg rfl))));rw[Â]at h5;refine Nat.le_of_not_lt λq=>?_;have q':(n:Int)<((ns.length:Nat):Int):=by lia
  first
   |grind
   |(simp at h5;lia)
 cases hwl with
 |cons w1 w2=>
  cases w2;cases w1 with
  |list ho hall=>exact⟨_,_,ns,rfl,rfl,ho,zK ns _ hall,hlen⟩
def S1(l:OpenLaw)(args:List WData):l.row.toRowW.claim.post args (.bool true) args=true:=
 postW_of (r:=l.row.toRowW) (X:=(true == true))
  (show WShape.has [] (.bool true) .bool=true by first|rfl|decide|simp[WShape.has,WShape.arms,WShape.armsAll])
  (show (WTm.eq .res (.lit (.bool true))).value [] {args:=args,res:=some (.bool true),after:=args}=some (.bool (true == true))from w_eq_bool (w_res rfl) w_lit) rfl
def attach_call{l:OpenLaw}{n:Nat}{q:Program}{loose:ZE}{XP:(ZD)->Heap->Prop}{YP:World->Heap->Prop}{d:DefRec}(hn:l.most=some n)(hdf:d.params.defaults=[])(call:∀(w:World)(s₀ s₁:Shared)(mg mb:ZD)(fa:Addr)(o:Obj)(pm cd doc:Value)(a:Addr)(vs:ZH)(ns:ZI),
   Ground q loose [] XP w s₀ mg mb s₁.heap->YP w s₁.heap ->
   s₁.heap.get? fa=some o->o.data=.func (docDef d.name d.params d.body d.scope pm cd doc)->s₁.heap.CodeRec cd d.name->mg d.name=some (.ref fa) ->
   s₁.heap.get? a=some {cls:=.type "list",data:=.seq vs.toArray}->IntsAre vs ns->ns.length<=n->s₁.gens=#[] ->
   codeAny (model l.prog w) callerA (.call (.ref fa) ⟨[.ref a],[]⟩) (λr s'=>r=.ok (.ret (.bool true))/\OldK s₁.heap s'.heap/\s'.os=s₁.os/\AllBare s'.gens) s₁):
  WalkO q loose XP YP l.row.toRowW d [] (λf vs=>PySem.call f vs):=by
 intro w s₀ s₁ mg mb G Y fa o pm cd doc dV kV ho hd hcd hD hmg hg args vals as hpre hlay hrd hwl hlo;obtain rfl:dV=.none:=Dflts.none hD hdf;obtain rfl:kV=.none:=Dflts.noKw hD;let⟨a,vs,ns,rfl,rfl,hobj,hints,hlen⟩:=S0 hn hpre hwl;refine enter_call (codeAny_mono (call w s₀ s₁ mg mb fa o pm cd doc a vs ns G Y ho (fd_plain hd) hcd hmg hobj hints hlen hg) λr s' hq=>?_);let⟨rfl,h2,h3,h4⟩:=hq;exact⟨.inl ⟨.bool true,.bool true,[],rfl,λ_=>rfl,.bool true,S1 l _,λ_=>⟨List.Pairwise.nil,λ_ hm=>(nomatch hm)⟩⟩,h2,h3,h4⟩
section
variable{prog:Program}{w:World}{A:Around}{E:ZA}{s:Shared}{K:Frag}
end
end Att
namespace L2
open PySem PySem.Spec PyProof.Rows
def E1:∀{vs:ZH}{ns:ZI},IntsAre vs ns->b7 (ns.map V.int) vs
 |_,_,.nil=>.nil
 |_,_,.cons n t h=>.cons ⟨t,rfl⟩ (E1 h)
def mF(s:Stmt):Arguments:=match s with
 |.FunctionDef _ a _ _ _ _ _ _ _ _=>a
 |_=>{posonlyargs:=[],args:=[],vararg:=none,kwonlyargs:=[],kw_defaults:=[],kwarg:=none,defaults:=[]}
def fH(s:Stmt):(List Stmt):=match s with
 |.FunctionDef _ _ b _ _ _ _ _ _ _=>b
 |_=>[]
def aL(s:Stmt):Scope:=match s with
 |.FunctionDef _ _ _ _ _ _ sc _ _ _=>sc
 |_=>{kind:=.function,names:=[],isGenerator:=false,isCoroutine:=false}
structure VA(K:ZC)(x qual:Str)(st:Stmt)(f:Addr)(fd:FuncData):Prop where
 ex:∃(oc:Value)(od:Option Addr)(kV doc pm:Value)(an:Option Addr)(cdv ct:Value)(osl:Array (ZL)),
  fd=W.fnOf x qual (mF st) (fH st) (aL st) .none kV doc pm an cdv ct/\K.lookup f=some ⟨oc,od,.func fd,osl⟩/\W.codeIn K cdv qual=true
 kp:W.keepIn K (.ref f)=true
section
variable{P:Program}{w:World}{K:ZC}{mg:ZD}{base:Heap}
def VA.binds{x qual:Str}{st:Stmt}{f:Addr}{fd:FuncData}{ps:ZE}(F:VA K x qual st f fd)(h:∀(kV doc pm:Value)(an:Option Addr)(cdv ct:Value)(us:ZH),us.length=ps.length->bindArgs (W.fnOf x qual (mF st) (fH st) (aL st) .none kV doc pm an cdv ct) ⟨us,[]⟩=pure (ps.zip us)):pP K fd ps []:=by
 let⟨oc,od,kV,doc,pm,an,cdv,ct,osl,rfl,lk,hcd⟩:=F.ex;exact .all (h kV doc pm an cdv ct)
def AX{x qual:Str}{st:Stmt}{f:Addr}{oc:Value}{od an:Option Addr}{osl:Array (ZL)}{kV doc pm cdv ct:Value}(l:K.lookup f=some ⟨oc,od,.func (W.fnOf x qual (mF st) (fH st) (aL st) .none kV doc pm an cdv ct),osl⟩)(c:W.codeIn K cdv qual=true)(k:W.keepIn K (.ref f)=true):VA K x qual st f (W.fnOf x qual (mF st) (fH st) (aL st) .none kV doc pm an cdv ct):=⟨⟨oc,od,kV,doc,pm,an,cdv,ct,osl,rfl,l,c⟩,k⟩
end
section
variable{X:Cx}
def pv(i:Nat){x:Str}{pos:Pos}(hN:↥(X.N[i]?=some x))(hv:#v[JZ X.env.scope x])(hd:⇑(Zdb x))(hcd:⇑(Zcd x)):PE X (.Name x pos) (VH i):=iG hN hv hd hcd
end
def aW(H H':Hp):Prop:=∀b o,H b=some o->H' b=some o
def aW.refl(H:Hp):aW H H:=λ_ _ h=>h
def aW.seq{K:ZC}{H H':Hp}{a:Addr}{xs:List V}(e:aW H H')(h:gM K H a xs):gM K H' a xs:=by
 rcases h with (h|⟨o,h⟩)|h
 .exact .inl (.inl (e _ _ h))
 .exact .inl (.inr ⟨o,e _ _ h⟩)
 .exact .inr h
def V3:bootBuiltins "len"=some (.builtin "len"):=by decide +kernel
def V4:bootBuiltins "abs"=some (.builtin "abs"):=by decide +kernel
def DY:bootBuiltins "isinstance"=some (.builtin "isinstance"):=by decide +kernel
def V5:bootBuiltins "all"=some (.builtin "all"):=by decide +kernel
def aC1:bootBuiltins "list"=some (.type "list"):=by decide +kernel
def V6:bootBuiltins "tuple"=some (.type "tuple"):=by decide +kernel
def oI:bootBuiltins "str"=some (.type "str"):=by decide +kernel
def aIB:bootBuiltins "int"=some (.type "int"):=by decide +kernel
def aP0(n:Nat)(x:Int):Prop:=x.natAbs<2^n
def aLL{i j:Int}(h1:-(2^64)<i)(h2:i<2^64):IntMulOk i j:=.of_left (intBits_le_64 h1 h2)
def aLM{i j:Int}(h1:-(2^64)<j)(h2:j<2^64):IntMulOk i j:=.of_right (intBits_le_64 h1 h2)
section
variable{X:Cx}
def aC2:pO X (binaryOp .Mult) (rI IntMulOk λi j=>.int (i*j)):=Ō λ_ _ _ _ _ _ _ hc q=>mul_int q hc
def aLN{x:Str}{n:String}{pos:Pos}(hg:Gl X x)(hm:X.mg x=none)(hv:bootBuiltins x=some (.type n))(hn:⇑(x≠"__name__"))(hd:⇑(Zdb x)):PE X (.Name x pos) (tC (.ty n)):=aCH (v:=.ty n) hg hm hv rfl hn hd
end
def J9:eA->PyData
 |.inl i=>.int i
 |.inr x=>.str x
def aLO(K:ZC)(H:Hp)(a:Addr)(ks:List PyData)(xs:List V):Prop:=
 ∃(nm:Str)(fs:ZE)(C dx:Addr)(vs:List V),xs=.str nm::vs/\ks=.none::fs.map PyData.str/\fs.length=vs.length/\H a=some (.ins C dx (fs.zip vs))/\H dx=some (.own a)/\W.nsIn K mainGlobals nm=some (some (.ref C))
def aLP(H:Hp)(a:Addr)(ks:List PyData)(xs:List V):Prop:=∃(ms:List eA),ks=ms.map J9/\ms.length=xs.length/\H a=some (.dK (ms.zip xs))
mutual
def cI(K:ZC)(H:Hp):PyData->V->Prop
 |.none,v=>v=.non
 |.bool b,v=>v=.bl b
 |.int i,v=>v=.int i
 |.str x,v=>v=.str x
 |.list ds,v=>∃(a:Addr)(xs:List V),v=.ref a/\gM K H a xs/\aJ K H ds xs
 |.tuple ds,v=>∃(a:Addr)(xs:List V),v=.ref a/\tX K H a xs/\aJ K H ds xs
 |.dict À,v=>∃(a:Addr)(xs:List V),v=.ref a/\(aLO K H a (À.map Prod.fst) xs\/aLP H a (À.map Prod.fst) xs)/\kZ K H À xs
def aJ(K:ZC)(H:Hp):List PyData->List V->Prop
 |[],xs=>xs=[]
 |d::ds,xs=>∃(x:V)(r:List V),xs=x::r/\cI K H d x/\aJ K H ds r
def kZ(K:ZC)(H:Hp):List (PyData×PyData)->List V->Prop
 |[],xs=>xs=[]
 |(_,d)::ds,xs=>∃(x:V)(r:List V),xs=x::r/\cI K H d x/\kZ K H ds r
end
section
variable{X:Cx}{U:ZB}{σ:St}{H:Hp}{s:Shared}
mutual
def cI.reads(I:bM X U σ H s):∀(d:PyData)(v:V)(u:Value),d.canLay0=true->cI X.K H d v->cR v u->∃as,Reads s.heap u d as
 |.none,v,u,_,h,r=>by
  unfold cI at h;subst h;cases (show u=Value.none from r);exact⟨_,.none⟩
 |.bool b,v,u,_,h,r=>by
  unfold cI at h;subst h;cases (show u=Value.bool b from r);exact⟨_,.bool b⟩
 |.int i,v,u,_,h,r=>by
  unfold cI at h;subst h;let⟨t,rfl⟩:=(show ∃t,u=Value.int i t from r);exact⟨_,.int i t⟩
 |.str x,v,u,_,h,r=>by
  unfold cI at h;subst h;let⟨t,rfl⟩:=(show ∃t,u=Value.str x t from r);exact⟨_,.str x t⟩
 |.list ds,v,u,l,h,r=>by
  unfold cI at h;let⟨a,xs,rfl,hs,ha⟩:=h;cases (show u=Value.ref a from r);let⟨its,rv,p,_⟩:=I.list hs;let⟨as,q⟩:=aJ.reads I ds xs its (by simpa[PyData.canLay0]using l) ha rv;let⟨o,ho,hc,n,hd⟩:=p.isList;exact⟨_,.list ho hc hd (by simpa using q)⟩
 |.tuple ds,v,u,l,h,r=>by
  unfold cI at h;let⟨a,xs,rfl,hs,ha⟩:=h;cases (show u=Value.ref a from r);let⟨its,rv,p,_⟩:=I.tuple hs;let⟨as,q⟩:=aJ.reads I ds xs its (by simpa[PyData.canLay0]using l) ha rv;let⟨o,ho,hc,n,hd⟩:=p;exact⟨_,.tuple ho hc hd (by simpa using q)⟩
 |.dict _,v,u,l,h,r=>by
  simp[PyData.canLay0]at l
def aJ.reads(I:bM X U σ H s):∀(ds:List PyData)(xs:List V)(us:ZH),PyData.canLayAll0 ds=true->aJ X.K H ds xs->b7 xs us->∃as,ReadsAll s.heap us ds as
 |[]=>by
  intro xs us _ h r;unfold aJ at h;subst h;cases r;exact⟨_,.nil⟩
 |d::ds=>by
  intro xs us l h r;unfold aJ at h;let⟨x,t,rfl,hx,ht⟩:=h;simp![PyData.canLayAll0,á]at l;cases r with
  |cons rx rt=>
   let⟨as,p⟩:=cI.reads I d x _ l.1 hx rx;let⟨bs,q⟩:=aJ.reads I ds t _ l.2 ht rt;exact⟨_,.cons p q⟩
end
end
def jF{d:PyData}(h:SeqAt.shaped d=true):d.canLay0=true:=by
 unfold SeqAt.shaped at h;rw[á]at h;exact h.1
section
variable{X:Cx}
def j8(hu:X.A.units+64<cLine):pO X (compareOp .Eq) (λx y H Q=>∃d e,cI X.K H d x/\cI X.K H e y/\SeqAt.shaped d=true/\SeqAt.shaped e=true/\Q (.bl (PyData.eqv d e)) H):=by
 intro U s σ H x y v u Q I rx ry h;let⟨d,e,hd,he,sd,se,q⟩:=h;let⟨as,ra⟩:=cI.reads I d x v (jF sd) hd rx;let⟨bs,rb⟩:=cI.reads I e y u (jF se) he ry;exact SeqAt.compareEq_shaped ra rb sd se hu (GK I q rfl)
def V7(hu:X.A.units+64<cLine):pO X (compareOp .NotEq) (λx y H Q=>∃d e,cI X.K H d x/\cI X.K H e y/\SeqAt.shaped d=true/\SeqAt.shaped e=true/\Q (.bl (!PyData.eqv d e)) H):=by
 intro U s σ H x y v u Q I rx ry h;let⟨d,e,hd,he,sd,se,q⟩:=h;let⟨as,ra⟩:=cI.reads I d x v (jF sd) hd rx;let⟨bs,rb⟩:=cI.reads I e y u (jF se) he ry;exact SeqAt.compareNe_reads ra rb (SeqAt.canLay_of_shaped sd) (SeqAt.canLay_of_shaped se) (SeqAt.room_of_shaped sd hu) (GK I q rfl)
end
def dP{H:Hp}{p:Addr}(h:H p=none)(o:HO):aW H (eB H p o):=λb u q=>by rw[aZ (dN q h)];exact q
def aW.seqT{K:ZC}{H H':Hp}{a:Addr}{xs:List V}(e:aW H H')(h:tX K H a xs):tX K H' a xs:=by
 rcases h with (h|⟨o,h⟩)|h
 .exact .inl (.inl (e _ _ h))
 .exact .inl (.inr ⟨o,e _ _ h⟩)
 .exact .inr h
mutual
def aW.rep{K:ZC}{H H':Hp}(e:aW H H'):∀(d:PyData)(v:V),cI K H d v->cI K H' d v
 |.none,v,h=>by unfold cI at h⊢;exact h
 |.bool b,v,h=>by unfold cI at h⊢;exact h
 |.int i,v,h=>by unfold cI at h⊢;exact h
 |.str x,v,h=>by unfold cI at h⊢;exact h
 |.list ds,v,h=>by
  unfold cI at h⊢;let⟨a,xs,rfl,hs,ha⟩:=h;exact⟨a,xs,rfl,e.seq hs,aW.repAll e ds xs ha⟩
 |.tuple ds,v,h=>by
  unfold cI at h⊢;let⟨a,xs,rfl,hs,ha⟩:=h;exact⟨a,xs,rfl,e.seqT hs,aW.repAll e ds xs ha⟩
 |.dict À,v,h=>by
  unfold cI at h⊢;let⟨a,xs,rfl,hs,ha⟩:=h;refine⟨a,xs,rfl,?_,aW.repKV e À xs ha⟩;rcases hs with ⟨nm,fs,C,dx,vs,h1,h2,h3,h4,h5,h6⟩|⟨ms,h1,h2,h3⟩
  .exact .inl ⟨nm,fs,C,dx,vs,h1,h2,h3,e _ _ h4,e _ _ h5,h6⟩
  .exact .inr ⟨ms,h1,h2,e _ _ h3⟩
def aW.repAll{K:ZC}{H H':Hp}(e:aW H H'):∀(ds:List PyData)(xs:List V),aJ K H ds xs->aJ K H' ds xs
 |[]=>by intro xs h;unfold aJ at h⊢;exact h
 |d::ds=>by
  intro xs h;unfold aJ at h⊢;let⟨x,t,rfl,hx,ht⟩:=h;exact⟨x,t,rfl,aW.rep e d x hx,aW.repAll e ds t ht⟩
def aW.repKV{K:ZC}{H H':Hp}(e:aW H H'):∀(ds:List (PyData×PyData))(xs:List V),kZ K H ds xs->kZ K H' ds xs
 |[]=>by intro xs h;unfold kZ at h⊢;exact h
 |(_,d)::ds=>by
  intro xs h;unfold kZ at h⊢;let⟨x,t,rfl,hx,ht⟩:=h;exact⟨x,t,rfl,aW.rep e d x hx,aW.repKV e ds t ht⟩
end
def AY{K:ZC}{H:Hp}:∀{ks ds:List PyData}{xs:List V},ks.length=ds.length->aJ K H ds xs->kZ K H (ks.zip ds) xs
 |[],[],xs,_,h=>by unfold aJ at h;unfold List.zip List.zipWith kZ;exact h
 |k::ks,d::ds,xs,l,h=>by
  unfold aJ at h;let⟨x,t,rfl,hx,ht⟩:=h;rw[Ù];unfold kZ;exact⟨x,t,rfl,hx,AY (by simpa using l) ht⟩
def kZ.all{K:ZC}{H:Hp}:∀{À:List (PyData×PyData)}{xs:List V},kZ K H À xs->aJ K H (À.map Prod.snd) xs
 |[]=>by rename_i xs;intro h;unfold kZ at h;unfold List.map aJ;exact h
 |(_,d)::ds=>by
  rename_i xs;intro h;unfold kZ at h;let⟨x,t,rfl,hx,ht⟩:=h;rw[Ê];unfold aJ;exact⟨x,t,rfl,hx,kZ.all ht⟩
def aP1{i:Int}{j:Int}(h:0<=j)(h1:j<=1000000)(h2:i.natAbs<2^64):ī i j:=⟨h,h1,h2⟩
def ixN_of{n:Nat}{k:Int}{j:Nat}(h:k=(j:Int))(hj:j<n):mT n k=some j:=by
 unfold mT
 grind
def jG{α:Type}{xs:List α}{k:Int}{j:Nat}{v:α}(e:k=(j:Int))(h:xs[j]?=some v):atI xs k=some v:=by
 rw[e];exact jR h
end L2
set_option maxRecDepth 100000
set_option maxHeartbeats 4000000
namespace L2
open PySem PySem.Spec PyProof.Rows
def jD(cells:List (Str×Addr)):List (Str×NameKind)->List (Str×Addr)->List (Str×Addr)
 |[],acc=>acc
 |(n,k)::r,acc=>if k == .free then (match cells.lookup n with|some a=>jD cells r ((n,a)::acc)|none=>jD cells r acc)else jD cells r acc
def freeIn(cells:List (Str×Addr))(names:List (Str×NameKind)):Prop:=∀n,(n,NameKind.free)∈names->∃c,cells.lookup n=some c
def wK{env:Env}:∀(names:List (Str×NameKind))(acc:List (Str×Addr)),freeIn env.cells names ->
  (forIn names acc λ(x:Str×NameKind)(cs:List (Str×Addr))=>(if x.2 == .free then do let c <- cellOf env x.1;pure (ForInStep.yield ((x.1,c)::cs))else pure (ForInStep.yield cs):Sem (ForInStep (List (Str×Addr)))))=pure (jD env.cells names acc)
 |[]=>by intro acc _;rfl
 |(n,k)::r=>by
  intro acc h;have hr:freeIn env.cells r:=λm hm=>h m (É _ hm);rw[List.forIn_cons];unfold jD;cases hk:k == NameKind.free with
  |false=>
   rw[Ã (by simp[hk]),Ã (by simp)];exact wK r acc hr
  |true=>
   rw[Á (by simp[hk]),Á rfl];have e:k=.free:=by cases k<;>first|rfl|exact absurd hk ⋯
   let⟨c,hc⟩:=h n (by rw[e];exact Ì);rw[hc];have e2:cellOf env n=pure c:=by unfold cellOf;rw[hc]
   rw[show cellOf env (n,k).1=pure c from e2];exact wK r ((n,c)::acc) hr
def P8{scope:Scope}{env:Env}(h:freeIn env.cells scope.names):closureFor scope env=pure (jD env.cells scope.names []):=by
 have e:=wK (env:=env) scope.names [] h;unfold closureFor;exact(congrArg (λm=>m >>= λcs=>(pure cs:Sem (List (Str×Addr)))) e).trans rfl
def r8{cells:List (Str×Addr)}{n:Str}{c:Addr}:∀(names:List (Str×NameKind))(acc:List (Str×Addr)),(∀n c,(n,c)∈acc->cells.lookup n=some c)->(n,c)∈jD cells names acc->cells.lookup n=some c
 |[]=>by intro acc ha h;exact ha _ _ h
 |(m,k)::r=>by
  intro acc ha h;unfold jD at h;split at h
  .split at h
   .rename_i a hm
    refine r8 r _ (λn' c' hn=>?_) h;rcases Å.mp hn with e|hn
    .cases e;exact hm
    .exact ha _ _ hn
   .exact r8 r _ ha h
  .exact r8 r _ ha h
def u0{cells:List (Str×Addr)}{scope:Scope}{n:Str}{c:Addr}(h:(jD cells scope.names []).lookup n=some c):cells.lookup n=some c:=
 r8 scope.names [] (λ_ _ h=>absurd h (by simp)) (ò h)
def r9{cells:List (Str×Addr)}{n:Str}{c:Addr}:∀(names:List (Str×NameKind))(acc:List (Str×Addr)),(n,c)∈acc->(n,c)∈jD cells names acc
 |[]=>by intro _ h;exact h
 |(m,k)::r=>by
  intro acc h;unfold jD;split
  .split
   .exact r9 r _ (É _ h)
   .exact r9 r _ h
  .exact r9 r _ h
def u1{cells:List (Str×Addr)}{n:Str}{c:Addr}(hc:cells.lookup n=some c):∀(names:List (Str×NameKind))(acc:List (Str×Addr)),(n,NameKind.free)∈names->(n,c)∈jD cells names acc
 |(m,k)::r,acc,h=>by
  unfold jD;rcases Å.mp h with e|h
  .cases e
   rw[Á ⋯,hc];exact r9 r _ Ì
  .split
   .split
    .exact u1 hc r _ h
    .exact u1 hc r _ h
   .exact u1 hc r _ h
def sX{α:Type}{n:Str}{c:α}:∀{l:List (Str×α)},(n,c)∈l->∃d,l.lookup n=some d
 |(m,d)::r,h=>by
  rw[æ];cases e:n == m with
  |true=>exact⟨d,rfl⟩
  |false=>
   rcases Å.mp h with q|q
   .cases q;simp at e
   .exact sX q
def AZ{cells:List (Str×Addr)}{scope:Scope}{n:Str}{c:Addr}(h:scope.names.lookup n=some .free)(hc:cells.lookup n=some c):(jD cells scope.names []).lookup n=some c:=by
 let⟨d,hd⟩:=sX (u1 hc scope.names [] (ò h));have:=u0 hd;rw[hc]at this;cases this;exact hd
def oJ{scope:Scope}{env:Env}{x:Str}:(relabel scope env).names.lookup x=(scope.names.lookup x).map λk=>if (k == .free && env.scope.kind == .function && env.kindOf x == some .cell)then .cell else k:=by
 unfold relabel;show List.lookup x (scope.names.map _)=_
 induction scope.names with
 |nil=>rfl
 |cons p r ih=>
  let⟨n,k⟩:=p;show List.lookup x ((if (k == NameKind.free && env.scope.kind == .function && env.kindOf n == some .cell)=true then (n,NameKind.cell)else (n,k))::_)=_;cases hx:x == n with
  |true=>
   have e:x=n:=by simpa using hx
   subst e;cases hc:(k == NameKind.free && env.scope.kind == .function && env.kindOf x == some .cell)with
   |true=>rw[Á rfl,æ,æ];simp![beq_self_eq_true,Option.map_some,hc,if_true]
   |false=>rw[Ã (by simp),æ,æ];simp![beq_self_eq_true,Option.map_some,hc];rfl
  |false=>
   have e:∀k',List.lookup x ((n,k')::(r.map λ(n,k)=>if (k == NameKind.free && env.scope.kind == .function && env.kindOf n == some .cell)=true then (n,NameKind.cell)else (n,k)))=List.lookup x (r.map λ(n,k)=>if (k == NameKind.free && env.scope.kind == .function && env.kindOf n == some .cell)=true then (n,NameKind.cell)else (n,k)):=λk'=>by rw[æ,hx]
   have e2:List.lookup x ((n,k)::r)=List.lookup x r:=by rw[æ,hx]
   rw[e2,<- ih];split<;>exact e _
def u2(xs N:ZE):ZE:=N.map λn=>if xs.contains n then (".":Str)++n else n
def gO(N xs:ZE)(names onames:List (Str×NameKind)):Bool:=
 (names.all λp=>p.2 != .cell) && (names.all λp=>p.2 != .local || names.lookup p.1 == some .local) && (names.all λp=>p.2 != .free || (onames.lookup p.1 == some .cell || onames.lookup p.1 == some .free)) &&
  xs.all (λx=>names.lookup x == some .local) && ((u2 xs N).zip N).all λp=>names.lookup p.1 == none || names.lookup p.1 == some .globalImplicit || (names.lookup p.1 == some .free && p.1 == p.2)
abbrev bW(X:Cx)(xs:ZE)(scope:Scope)(C:Addr)(fp:ZK)(s:Shared)(H:Hp):Cx:=
 {X with N:=xs++u2 xs X.N,s₀:=s,H₀:=H,env:=compEnvC scope (jD X.env.cells scope.names []) C X.env,outer:=X.stack,ex:=fp,fn:=λ_=>false,pn:=[],xe:=λ_ _=>False}
section
variable{X:Cx}{U:ZB}{σ:St}{H H':Hp}{s s':Shared}{a:Addr}{o:HO}
def sO.adopt{P:Program}{w:World}{h:Heap}(x:sO P w H h)(hn:H a=none)(new:fX P w (eB H a o) h a o):sO P w (eB H a o) h:=λb u e=>by
 by_cases hb:b=a
 .subst hb;rw[cJ]at e;cases e;exact new
 .rw[aZ hb]at e
  exact(x b u e).stay (λ_ _ _ q=>q) (λc q=>by rw[aZ (dN q hn)];exact q) λc xs q=>by rw[aZ (dN q hn)];exact q
def bM.adopt(I:bM X U σ H s)(hn:H a=none)(ha:X.s₀.heap.objs.size<=a)(hL:a≠X.env.locals)(hc:∀x c,X.env.cells.lookup x=some c->c≠a)(hp:∀p∈X.pn++U,p.1≠a)(new:fX X.prog X.w (eB H a o) s.heap a o):bM X U σ (eB H a o) s:=by
 refine⟨I.ok,I.os,I.bare,⟨I.base.keep,I.base.slot,λb u e n hx=>?_,I.base.there,λb xs e=>?_,λb u v e=>?_,λb ps e=>?_⟩,I.loc,I.cell,?_,λx c e=>?_,λp h=>?_,I.hok.adopt hn new,I.len⟩
 .rw[aZ (Ï (Ô (Heap.lt_size e) ha))];exact I.base.free b u e n hx
 .have q:=I.base.tups b xs e;rw[aZ (dN q hn)];exact q
 .have q:=I.base.frzs b u v e;rw[aZ (dN q hn)];exact q
 .obtain⟨more,q⟩:=I.base.tbls b ps e;exact⟨more,by rw[aZ (dN q hn)];exact q⟩
 .rw[aZ (Ö hL)];exact I.free
 .rw[aZ (hc x c e)];exact I.freeC x c e
 .obtain⟨e,n,ne,nf,d⟩:=I.pin p h
  exact⟨e,by rw[aZ (hp p h)];exact n,ne,nf,d⟩
def yP{N xs:ZE}{names on:List (Str×NameKind)}(h:gO N xs names on=true):∀y∈names,y.2≠.cell:=λy hy e=>by
 unfold gO at h;simp![á,ß]at h;have:=h.1.1.1.1 y hy;rw[e]at this;exact absurd this ⋯
def u3{N xs:ZE}{names on:List (Str×NameKind)}(h:gO N xs names on=true):∀y∈names,y.2=.local->names.lookup y.1=some .local:=λy hy e=>by
 unfold gO at h;simp![á,ß]at h;have:=h.1.1.1.2 y hy;rw[e]at this;simpa using this
def yQ{N xs:ZE}{names on:List (Str×NameKind)}(h:gO N xs names on=true):∀n,(n,NameKind.free)∈names->on.lookup n=some .cell\/on.lookup n=some .free:=λn hn=>by
 unfold gO at h;simp![á,ß]at h;have:=h.1.1.2 _ hn;simpa using this
def KA{N xs:ZE}{names on:List (Str×NameKind)}(h:gO N xs names on=true){i:Nat}{y:Str}(e:(u2 xs N)[i]?=some y):(names.lookup y=some .free/\N[i]?=some y)\/names.lookup y=none\/names.lookup y=some .globalImplicit:=by
 unfold gO at h;simp![á]at h;have hl:(u2 xs N).length=N.length:=by unfold u2;rw[Â]
 let⟨hi,ei⟩:=Ó.mp e;have hz:((u2 xs N).zip N)[i]?=some (y,N[i]):=by
  rw[List.getElem?_zip_eq_some];exact⟨e,Ç (by exact þ ‹_› ‹_›)⟩
 have q:=ß.mp h.2 _ (ä hz);simp![Bool.or_eq_true,á,beq_iff_eq]at q;rcases q with (q|q)|⟨q,q2⟩
 .exact .inr (.inl q)
 .exact .inr (.inr q)
 .exact .inl ⟨q,by rw[Ç (by exact þ ‹_› ‹_›),<- q2]⟩
def bM.freeIn{xs:ZE}{scope:Scope}(I:bM X U σ H s)(hok:gO X.N xs scope.names X.env.scope.names=true):freeIn X.env.cells scope.names:=λn hn=>I.ok.has n (yQ hok n hn)
def KB{scope:Scope}{env:Env}{x:Str}(h:(relabel scope env).names.lookup x=some .cell\/(relabel scope env).names.lookup x=some .free)(hc:∀y∈scope.names,y.2≠.cell):scope.names.lookup x=some .free:=by
 rw[oJ]at h;cases e:scope.names.lookup x with
 |none=>rw[e]at h;simp at h
 |some k=>
  rw[e]at h;cases k with
  |free=>rfl
  |cell=>exact absurd rfl (hc _ (ò e))
  |_=>simp at h
def bM.block{xs:ZE}{scope:Scope}{fp:ZK}{C:Addr}{m:ZD}(I:bM X U σ H s)(hok:gO X.N xs scope.names X.env.scope.names=true)(hk:scope.kind=.function)(hfp:∀b∈fp,wE X U H b)(hobj:∀b∈fp,∃o,s.heap.get? b=some o)(hC:s.heap.objs.size<=C)(hns:s'.heap.Ns C m)(keep:∀b o,s.heap.get? b=some o->s'.heap.get? b=some o)(hos:s'.os=s.os)(hg:AllBare s'.gens):
  bM (bW X xs scope C fp s H) [] (List.replicate xs.length none++σ) H s':=by
 have hcell:=yP hok;have hno:∀x c,(jD X.env.cells scope.names []).lookup x=some c->X.env.cells.lookup x=some c:=λx c h=>u0 h;have ltf:∀b∈fp,b<s.heap.objs.size:=λb hb=>let ⟨_,e⟩:=hobj b hb;Heap.lt_size e
 refine⟨⟨I.ok.mod,hk,I.ok.glob,I.ok.blt,hC,λx y c h1 h2=>I.ok.inj x y c (hno _ _ h1) (hno _ _ h2),λx hx=>?_,λx c h _=>absurd h (by simp),I.ok.hd,I.ok.frames,.inl rfl,λb hb=>⟨?_,λx c h=>(hfp b hb).2.2.2.2.1 x c (hno _ _ h)⟩,I.bs,Ñ I.ok.bsz I.sz,λb u e hb=>?_,λb hb hf=>?_,I.stack,I.stkFree⟩,
  hos,hg,Un.kept keep,⟨m,hns,λi x v e1 e2 e3=>?_⟩,λx c h=>?_,I.hok.fresh hC,λx c h=>I.freeC x c (hno _ _ h),λp hp=>absurd (show p∈([]:ZB)from hp) (by simp),I.hok.kept keep,?_⟩
 .have hf:=KB (show (relabel scope X.env).names.lookup x=some .cell\/(relabel scope X.env).names.lookup x=some .free from hx) hcell
  let⟨c,hc⟩:=I.freeIn hok x (ò hf);exact⟨c,AZ hf hc⟩
 .exact Ï (Ô (ltf b hb) hC)
 .rcases(hfp b hb).2.2.2.1 with z|z
  .exact I.ok.noex b u e z
  .exact absurd (Ô (Heap.lt_size e) (Ñ I.ok.bsz z)) (Nat.lt_irrefl _)
 .rcases Å.mp (I.stkSub b hf)with z|z
  .exact(hfp b hb).2.1 z
  .exact(hfp b hb).2.2.1 z
 .have e1:(xs++u2 xs X.N)[i]?=some x:=e1
  by_cases hi:i<xs.length
  .rw[ã (by simpa using hi),ÿ,Á hi]at e2
   cases e2
  .rw[Þ (by exact å.mp ‹_›)]at e1
   rw[Þ (by rw[é];exact å.mp ‹_›),é]at e2;rcases KA hok e1 with ⟨q1,q2⟩|q|q
   .have kd:=yQ hok x (ò q1)
    let⟨m0,_,hl⟩:=I.loc;let⟨u,ru,lk⟩:=hl _ x v q2 e2 (by rcases kd with z|z;exact .inr (.inl z);exact .inr (.inr z))
    refine⟨u,ru,.inr ⟨?_,?_⟩⟩
    .show (relabel scope X.env).names.lookup x=some .cell\/(relabel scope X.env).names.lookup x=some .free
     rw[oJ,q1];by_cases hc:(NameKind.free == NameKind.free && X.env.scope.kind == .function && X.env.kindOf x == some .cell)=true
     .left;rw[Option.map_some,Á hc]
     .right;rw[Option.map_some,Ã hc]
    .rcases lk with ⟨z,_⟩|⟨_,c,hc,hcell⟩
     .have z:X.env.scope.names.lookup x=some .local:=z
      rw[z]at kd;rcases kd with kd|kd<;>cases kd
     .refine⟨c,AZ q1 hc,?_⟩
      let⟨oc,hoc,hd⟩:=hcell;exact⟨oc,keep _ _ hoc,hd⟩
   all_goals
    have e3:(relabel scope X.env).names.lookup x=some .local\/(relabel scope X.env).names.lookup x=some .cell\/(relabel scope X.env).names.lookup x=some .free:=e3;rw[oJ,q]at e3;simp at e3
 .obtain⟨v,oc,hoc,hd⟩:=I.cell x c (hno _ _ h)
  exact⟨v,oc,keep _ _ hoc,hd⟩
 .show (List.replicate xs.length none++σ).length=(xs++u2 xs X.N).length
  rw[Î,Î,é,I.len];unfold u2;rw[Â]
def bM.unblock{xs:ZE}{scope:Scope}{fp:ZK}{C:Addr}{pins':ZB}{σ':St}(I:bM X U σ H s)(hfp:∀b∈fp,wE X U H b)(J:bM (bW X xs scope C fp s H) pins' σ' H' s'):bM X U σ H' s':=
 I.call' (ch:=fp) J.os J.base J.hok J.bare λb hb=>⟨(hfp b hb).2.2.2.1,(hfp b hb).2.1,(hfp b hb).2.2.2.2.1,(hfp b hb).2.2.2.2.2⟩
end
def p9{prog:Program}{w:World}{A:Around}{R:Result->Shared->Prop}{s:Shared}{elt target iter:Expr}{ifs:List Expr}{scope:Scope}{pos:Pos}{it acc:Value}{env:Env}(I:Nat->Shared->Prop)(turn:∀n s,I n s->wpAny (model prog w) A (pyNext it) (λr s₁=>match r with
   |none=>R (.ok .next) s₁
   |some v=>wpAny (model prog w) A (letOwnedTupleGo target it v) (λ_ s₁'=>wpAny (model prog w) A (assign target env v) (λ_ s₂=>
     wpAny (model prog w) A (forIn ifs true λc r=>if r=true then do let ok <- isTrue c env (eval c env);pure (ForInStep.yield ok)else pure (ForInStep.yield r)) (λok s₃=>
      if ok=true then wpAny (model prog w) A (eval elt env) (λx s₄=>
       wpAny (model prog w) A (call (.builtin "list.append") [acc,x]) (λ_ s₅=>∃m,m<n/\I m s₅) (λ_ _=>False) s₄) (λ_ _=>False) s₃
      else ∃m,m<n/\I m s₃) (λ_ _=>False) s₂) (λ_ _=>False) s₁') (λ_ _=>False) s₁) (λ_ _=>False) s)(n:Nat)(h:I n s):codeAny (model prog w) A (.compLoop (.ListComp elt [⟨target,iter,ifs,0⟩] scope pos) 0 it acc env) R s:=by
 refine codeAny_loop rfl I (λn s hI=>?_) n h;show wpAny _ A ((compTurn (.ListComp elt [⟨target,iter,ifs,0⟩] scope pos) 0 it acc env).onRaise (λx=>do noteFrame x env;theTreesLotGoes x)) _ _ s;refine wpAny_noted ?_;rw[compTurn_list];refine wpAny_bind (wpAny_standAt (wpAny_bind (wpAny_mono (turn n s hI) (λr s₁ h₁=>?_) λ_ _ h'=>h'.elim)));cases r with
 |none=>exact wpAny_pure h₁
 |some v=>
  refine wpAny_bind (wpAny_mono h₁ (λ_ s₁' h₁'=>?_) λ_ _ h'=>h'.elim);refine wpAny_bind (wpAny_mono h₁' (λ_ s₂ h₂=>wpAny_bind (wpAny_mono h₂ (λok s₃ h₃=>?_) λ_ _ h'=>h'.elim)) λ_ _ h'=>h'.elim);cases ok with
  |false=>exact wpAny_pure ⟨rfl,h₃⟩
  |true=>
   exact wpAny_bind (wpAny_bind (wpAny_mono h₃ (λx s₄ h₄=>wpAny_bind (wpAny_mono h₄ (λ_ s₅ h₅=>wpAny_pure (wpAny_pure ⟨rfl,h₅⟩)) λ_ _ h'=>h'.elim)) λ_ _ h'=>h'.elim))
def ô(X:Cx)(ifs:List Expr)(t:TT):Prop:=
 ∀(U:ZB)(s:Shared)(σ:St)(H:Hp)(Q:Bool->Hp->Prop),bM X U σ H s->t σ H Q ->
  wpAny (model X.prog X.w) X.A (forIn ifs true λc r=>if r=true then do let ok <- isTrue c X.env (eval c X.env);pure (ForInStep.yield ok)else pure (ForInStep.yield r)) (TP X U σ Q) X.xe s
def P9{X:Cx}:ô X [] (λ_ H Q=>Q true H):=λ_ _ _ H _ I h=>wpAny_tests_nil ⟨H,I,h⟩
def aC3{X:Cx}{c:Expr}{t:TT}(h:PT X c t):ô X [c] t:=λU s σ H Q I hq=>wpAny_tests_one (h U s σ H Q I hq)
def QA(k:Nat)(wi:TI)(g:TG)(ti:TT)(te:TE):TE:=λσ H Q=>wi σ H λJ H1=>∃W:Nat->Nat->List V->St->Hp->Prop,(∃m,W 0 m [] (List.replicate k none++σ) H1)/\∀i m ys σ' H',W i m ys σ' H' ->
 (J.stop i H'/\∀p,H' p=none->Q (.ref p) (eB H' p (.lst ys))) \/
 (J.go i H'/\ys.length<sizeLine/\∃N:List V->St->Hp->Prop,(∀zs σ'' H'',N zs σ'' H''->∃m',m'<m/\W (i+1) m' zs σ'' H'') /\
  ∀x H2,J.yld i H' x H2->g x σ' H2 λσ2 H3=>ti σ2 H3 λb H4=>if b=true then te σ2 H4 λy H5=>N (ys++[y]) σ2 H5 else N ys σ2 H4)
section
variable{X:Cx}{pos:Pos}{tg elt iter:Expr}{ifs:List Expr}{scope:Scope}{xs:ZE}{wi:TI}{g:TG}{ti:TT}{te:TE}
def A0{U:ZB}{σ:St}{s:Shared}{Q:VK}{itv:Value}{E:ZA}{R:Value->Addr->Result->Shared->Prop}(hc:X.calm=true)(hk:scope.kind=.function)(hok:gO X.N xs scope.names X.env.scope.names=true)(hg:∀C fp s H,PG (bW X xs scope C fp s H) tg g)(hif:∀C fp s H,ô (bW X xs scope C fp s H) ifs ti)(he:∀C fp s H,PE (bW X xs scope C fp s H) elt te)(h:ň X U σ tg (λJ H1=>∃W:Nat->Nat->List V->St->Hp->Prop,(∃m,W 0 m [] (List.replicate xs.length none++σ) H1)/\∀i m ys σ' H',W i m ys σ' H' ->
   (J.stop i H'/\∀p,H' p=none->Q (.ref p) (eB H' p (.lst ys))) \/
   (J.go i H'/\ys.length<sizeLine/\∃N:List V->St->Hp->Prop,(∀zs σ'' H'',N zs σ'' H''->∃m',m'<m/\W (i+1) m' zs σ'' H'') /\
    ∀x H2,J.yld i H' x H2->g x σ' H2 λσ2 H3=>ti σ2 H3 λb H4=>if b=true then te σ2 H4 λy H5=>N (ys++[y]) σ2 H5 else N ys σ2 H4)) itv s)(hR:∀D C H' m s',bM X U σ H' s'->Q (.ref D) H'->s'.heap.Ns C m->H' C=none->X.s₀.heap.objs.size<=C->C≠X.env.locals->(∀x c,X.env.cells.lookup x=some c->c≠C)->(∀p∈X.pn++U,p.1≠C)->R (.ref D) C (.ok .next) s'):
  wpAny (model X.prog X.w) X.A (newList []) (λacc s₃=>wpAny (model X.prog X.w) X.A (newFunctionEnv scope X.env.globals (jD X.env.cells scope.names []) [] X.env.qual none .none (some X.env)) (λcenv s₄=>
   codeAny (model X.prog X.w) X.A (.compStart (.ListComp elt [⟨tg,iter,ifs,0⟩] scope pos) 0 itv acc {cenv with scope:=relabel scope X.env}) (R acc cenv.locals) s₄) E s₃) E s:=by
 let⟨it,fp,tn,J,H1,rfl,I,T,mD,hfp,W,⟨m0,w0⟩,turn⟩:=h;have hcell:=yP hok;refine wpAny_newObj_type (wpAny_newFunctionEnv hcell (by intro y hy;simp at hy) (λh₁ hns₁ hsb₁=>?_) hk);dsimp only at hns₁ hsb₁⊢;generalize hH2:s.heap.push {cls:=.type "list",dict:=none,data:=.seq ([]:ZH).toArray}=G2 at hns₁ hsb₁⊢;have hC:G2.objs.size=s.heap.objs.size+1:=by rw[<- hH2,Heap.size_push]
 have hDC:s.heap.objs.size≠G2.objs.size:=by rw[hC];exact Ï (Nat.lt_succ_self _)
 have hCle:s.heap.objs.size<=G2.objs.size:=by rw[hC];exact Nat.le_succ _
 have old:∀b o,s.heap.get? b=some o->h₁.get? b=some o:=λb o e=>hsb₁.extBut b o (Ï (Ô (Heap.lt_size e) hCle)) (Heap.get?_push_of_some _ (hH2▸Heap.get?_push_of_some _ e));have hacc:h₁.get? s.heap.objs.size=some {cls:=.type "list",data:=.seq ([]:ZH).toArray 0}:=hsb₁.extBut _ _ hDC (Heap.get?_push_of_some _ (hH2▸Heap.get?_push_size _ rfl));have objs:∀b∈fp,∃o,s.heap.get? b=some o:=λb hb=>let ⟨o,e,_⟩:=T.obj 0 _ mD b hb;⟨o,e⟩
 have ltf:∀b∈fp,b<s.heap.objs.size:=λb hb=>let ⟨_,e⟩:=objs b hb;Heap.lt_size e
 generalize hD:s.heap.objs.size=D at hC hDC hCle hacc ltf⊢;generalize hCC:G2.objs.size=C at hC hDC hCle hns₁ hsb₁⊢;have J0:bM (bW X xs scope C fp s H1) [] (List.replicate xs.length none++σ) H1 {s with heap:=h₁,toks:=s.toks+([]:List (Str×Value)).length}:=
  I.block hok hk hfp objs (by rw[hD];exact hCle) hns₁ old rfl I.bare
 have cD:∀x c,X.env.cells.lookup x=some c->c≠D/\c≠C:=λx c h=>by
  let⟨v,q⟩:=I.cell x c h;have:=q.lt;rw[hD]at this;exact⟨Ï this,Ï (Ô this hCle)⟩
 have pD:∀p∈X.pn++U,p.1≠D/\p.1≠C:=λp hp=>by
  have:=Heap.lt_size (I.pin p hp).1;rw[hD]at this;exact⟨Ï this,Ï (Ô this hCle)⟩
 have lL:=I.lt;have lS:=I.sz;rw[hD]at lL lS;have lSC:X.s₀.heap.objs.size<=C:=Ñ lS hCle;have lLD:D≠X.env.locals:=ê lL;have lLC:C≠X.env.locals:=ê (Ô lL hCle);have Dfs:D∉U8 X.stack:=λz=>by
  let⟨_,o,ho,_⟩:=(I.stack).mem z;have:=Heap.lt_size ho;rw[hD]at this;exact Nat.lt_irrefl _ this
 have fpb:∀{H':Hp}{ob:Obj},(∀b∈fp,H' b=none)->∀b∈fp,wE (bW X xs scope C fp s H1) [(D,ob)] H' b:=λ{H' ob}hn b hb=>
  ⟨hn b hb,Ï (Ô (ltf b hb) hCle),λz=>by
   rcases Å.mp (I.stkSub b z)with z|z
   .exact(hfp b hb).2.1 z
   .exact(hfp b hb).2.2.1 z,.inl hb,λx c h=>(hfp b hb).2.2.2.2.1 x c (u0 h),λp hp=>by
    have e:p=(D,ob):=by simpa using hp
    rw[e];exact ê (ltf b hb)⟩
 have loop:∀s₃:Shared,s₃={s with heap:=h₁,toks:=s.toks+([]:List (Str×Value)).length} ->
   codeAny (model X.prog X.w) X.A (.compLoop (.ListComp elt [⟨tg,iter,ifs,0⟩] scope pos) 0 (.ref it) (.ref D) (compEnvC scope (jD X.env.cells scope.names []) C X.env)) (R (.ref D) C) s₃:=by
  rintro s₃ rfl;refine p9 (λn s'=>∃i σ' H' ys its k,bM (bW X xs scope C fp s H1) [] σ' H' s'/\tn i s'.heap/\(∀b∈fp,H' b=none)/\W i n ys σ' H'/\b7 ys its/\ys.length<=sizeLine /\
   s'.heap.get? D=some {cls:=.type "list",data:=.seq its.toArray k}/\H' D=none) ?_ m0 ⟨0,_,H1,[],[],0,J0,T.keep _ _ _ mD λb hb o e=>old b o e,λb hb=>(hfp b hb).1,w0,.nil,î _,hacc,I.hok.fresh (by rw[hD];exact È _)⟩
  rintro n s1 ⟨i,σ1,K1,ys,its,k,I1,st1,fr1,w1,rv,hz,hd,nd⟩;have lys:=rv.length;generalize hob:({cls:=.type "list",data:=.seq its.toArray k}:Obj)=ob at hd;have I1':bM (bW X xs scope C fp s H1) [(D,ob)] σ1 K1 s1:=I1.pins_of λp hp=>by
   have e:p=(D,ob):=by simpa using hp
   rw[e];exact⟨hd,nd,hDC,Dfs,λv=>by rw[<- hob];exact λz=>by cases z⟩
  rcases turn i n ys σ1 K1 w1 with ⟨stop,qn⟩|⟨go,hlt,N,hN,step⟩
  .refine dL (T.done (bW X xs scope C fp s H1) rfl rfl rfl hc i [(D,ob)] s1 σ1 K1 (λ_ _=>False) I1' (fpb fr1) st1 stop) λr s2 zQ=>?_;let⟨hr,I2⟩:=zQ
   subst hr;have un:=I.unblock hfp I2;have hd2:=(I2.pin (D,ob) (by simp)).1;let⟨m2,hn2,_⟩:=I2.loc;refine hR D C (eB K1 D (.lst ys)) m2 s2 (un.adopt nd lS lLD (λx c h=>(cD x c h).1) (λp hp=>(pD p hp).1) ⟨hz,its,k,rv,by rw[hob];exact hd2⟩) (qn D nd) hn2 ?_ lSC lLC (λx c h=>(cD x c h).2) λp hp=>(pD p hp).2;rw[aZ (Ö hDC)];exact I2.free
  .refine dL (T.item (bW X xs scope C fp s H1) rfl rfl rfl hc i [(D,ob)] s1 σ1 K1 (λ_ _=>False) I1' (fpb fr1) st1 go) λr s2 zQ=>?_;let⟨u,hr,h2⟩:=zQ
   subst hr;refine dL h2 λ_ s3 zQ=>?_;let⟨x,H3,I3,r3,y3,st3,fr3⟩:=zQ;have I3':=I3.pinned (fpb fr3) (T.obj _ _ st3);have again:∀{σ7:St}{H7:Hp}{s7:Shared},bM (bW X xs scope C fp s H1) ([(D,ob)]++AS fp s3.heap) σ7 H7 s7->bM (bW X xs scope C fp s H1) [] σ7 H7 s7/\tn (i+1) s7.heap/\(∀b∈fp,H7 b=none)/\s7.heap.get? D=some ob/\H7 D=none:=λ{σ7 H7 s7}I7=>by
    have pi:∀b∈fp,∀o,s3.heap.get? b=some o->s7.heap.get? b=some o/\H7 b=none:=λb hb o e=>by
     have q:=I7.pin (b,o) (ý _ (ý _ (tY hb e)));exact⟨q.1,q.2.1⟩
    have pd:=I7.pin (D,ob) (ý _ (List.mem_append_left _ (by simp)));refine⟨I7.pins_of λp hp=>absurd hp (by simp),T.keep _ _ _ st3 λb hb o e=>(pi b hb o e).1,λb hb=>?_,pd.1,pd.2.1⟩;let⟨o,e,_⟩:=T.obj _ _ st3 b hb;exact(pi b hb o e).2
   refine dL (hg C fp s H1 _ s3 σ1 H3 x u _ I3' r3 (step x H3 y3)) λ_ s4 zQ=>?_;let⟨σ4,H4,I4,q4⟩:=zQ;refine dL (hif C fp s H1 _ s4 σ4 H4 _ I4 q4) λb s5 zQ=>?_;let⟨H5,I5,q5⟩:=zQ;cases b with
   |false=>
    rw[Ã Ý]at q5⊢;let⟨m',hm,w5⟩:=hN _ _ _ q5;let⟨a1,a2,a3,a4,a5⟩:=again I5;exact⟨m',hm,i+1,σ4,H5,ys,its,k,a1,a2,a3,w5,rv,hz,by rw[hob];exact a4,a5⟩
   |true=>
    rw[Á rfl]at q5⊢;refine dL (he C fp s H1 _ s5 σ4 H5 _ I5 q5) λy s6 zQ=>?_;let⟨yv,H6,I6,r6,q6⟩:=zQ;let⟨m',hm,w6⟩:=hN _ _ _ q6;let⟨a1,a2,a3,a4,a5⟩:=again I6;rw[<- hob]at a4;refine call_meets F.slot_list_append ⟨_,a4,rfl⟩ F.entry_list_append (F.args_list_append_2 _ _) (PySem.list_append D its.toArray k y (by rw[â];lia)) ⟨a4,?_⟩;have qd:∃k',(s6.heap.update D (Obj.mapSeq λz=>z.push y)).get? D=some {cls:=.type "list",data:=.seq (its++[y]).toArray k'}:=by
     have e:(its++[y]).toArray=its.toArray.push y:=by simp
     rw[e];exact⟨_,PySem.IsL.update a4 λz=>z.push y⟩
    let⟨k',qd⟩:=qd;refine⟨m',hm,i+1,σ4,H6,ys++[yv],its++[y],k',a1.turned (it:=D) (t':=s6.toks) (λb o hb e=>(Heap.get?_update_other s6.heap _ (Ö hb)).trans e) a5 hDC (.inr (Nat.le_of_eq hD)) (λx c h=>(cD x c (u0 h)).1) (λp hp=>absurd (show p∈([]:ZB)from hp) (by simp)),?_,a3,w6,rv.append (.cons r6 .nil),by rw[Î];exact hlt,qd,a5⟩;exact T.keep _ _ _ a2 λb hb o e=>(Heap.get?_update_other s6.heap _ (λz=>by rw[<- z]at hb;exact absurd (ltf D hb) (Nat.lt_irrefl _))).trans e
 exact codeAny_compStart_list (loop _ rfl) (T.self _ 0 _ _ _ (T.keep _ _ _ mD λb hb o e=>old b o e) (loop _ rfl))
def V8(hc:X.calm=true)(hi:PI X tg iter wi)(hg:∀C fp s H,PG (bW X xs scope C fp s H) tg g)(hif:∀C fp s H,ô (bW X xs scope C fp s H) ifs ti)(he:∀C fp s H,PE (bW X xs scope C fp s H) elt te)(hk:↥(scope.kind=.function))(hok:↥(gO X.N xs scope.names X.env.scope.names=true))(hs: ~~~(Zfi iter X.env)):
  PE X (.ListComp elt [⟨tg,iter,ifs,0⟩] scope pos) (QA xs.length wi g ti te):=by
 intro U s σ H Q I h;rw[eval_ListComp];refine wpAny_comprehension_free (use:=none) rfl hs (P8 (I.freeIn hok)) hk (u3 hok) (dL (hi U s σ H _ I h) λv s1 h1=>dL h1 λitv s2 h2=>?_);refine A0 (Q:=Q) hc hk hok hg hif he h2 λD C H' m s' I' q hn c1 c2 c3 c4 c5=>?_;exact⟨m,hn,λh' sb=>⟨.ref D,H',I'.turned (it:=C) (t':=s'.toks) (λb o hb e=>(sb.2 b hb).trans e) c1 c3 (.inr c2) c4 c5,rfl,q⟩⟩
def u4{i:Nat}{x:Str}{pos' spos:Pos}(hc:X.calm=true)(hN:X.N.Nodup)(hx:X.N[i]?=some x)(hl:X.env.scope.names.lookup x=some .local)(hi:PI X tg iter wi)(hg:∀C fp s H,PG (bW X xs scope C fp s H) tg g)(hif:∀C fp s H,ô (bW X xs scope C fp s H) ifs ti)(he:∀C fp s H,PE (bW X xs scope C fp s H) elt te)(hsw:↥(swapsWith (.ListComp elt [⟨tg,iter,ifs,0⟩] scope pos) (some (.Name x pos')) spos.line X.env=pure true))(hk:↥(scope.kind=.function))(hok:↥(gO X.N xs scope.names X.env.scope.names=true))(hs: ~~~(Zfi iter X.env)):
  PS X (.Assign [.Name x pos'] (.ListComp elt [⟨tg,iter,ifs,0⟩] scope pos) spos) (VO (QA xs.length wi g ti te) (p8 i)):=by
 intro U s σ H D I h;rw[exec_Assign_Name_used _ _ _ _ hsw];refine wpAny_bind (wpAny_standAt (wpAny_bind ?_));show wpAny _ X.A (do let _ <- comprehension (.ListComp elt [⟨tg,iter,ifs,0⟩] scope pos) scope X.env _ (newList []) false (eval iter X.env) (some (assign (.Name x pos') X.env))) _ _ s;refine wpAny_bind (wpAny_mono (wpAny_comprehension_free (use:=some (assign (.Name x pos') X.env)) (Q:=λ_ s'=>SP X U D .next s') rfl hs (P8 (I.freeIn hok)) hk (u3 hok)
  (dL (hi U s σ H _ I h) λv s1 h1=>dL h1 λitv s2 h2=>?_)) (λ_ s' hq=>wpAny_pure (wpAny_pure hq)) λ_ _ e=>e)
 refine A0 (Q:=λv H'=>D.nx (σ.set i (some v)) H') hc hk hok hg hif he h2 λD' C H' m s' I' q hn c1 c2 c3 c4 c5=>?_;show wpAny _ X.A (assign (.Name x pos') X.env (.ref D')) _ _ _;refine wpAny_assign_Name (ET I' hN hx (.inl hl) (v:=.ref D') rfl (λs'' I'' zQ=>?_) (.inr hl));let⟨a,sb,ha⟩:=zQ;have hCa:C≠a:=by
  rcases ha with e|e
  .rw[e];exact c3
  .exact Ö (c4 _ _ e)
 exact⟨m,hn.sameBut sb hCa,λh' sb'=>⟨_,H',I''.turned (it:=C) (t':=s''.toks) (λb o hb e=>(sb'.2 b hb).trans e) c1 c3 (.inr c2) c4 c5,q⟩⟩
end
abbrev D:=PyData
abbrev DS:=List (ZJ)
inductive Res(α:Type) where
 |ok (a:α) (δ:DS)
 |stuck
def Res.bind{α β:Type}:Res α->(α->DS->Res β)->Res β
 |.ok a δ,k=>k a δ
 |.stuck,_=>.stuck
abbrev M(α:Type):=DS->Res α
structure dQ where
 F0:Hp
 H0:Hp
 g0:Addr->Option (Nat×ZF)
 ps:ZF
 σ0:St
 owp:ZF
 wf:∀a i q,g0 a=some (i,q)->i∈ps
abbrev į:=Nat×ZF
abbrev ZN:=Addr->Option į
def kd:Nat->Nat
 |20=>2
 |21=>2
 |30=>3
 |_=>0
def ch:Nat->Nat->Nat
 |20,1=>1
 |20,2=>1
 |20,_=>0
 |21,_=>0
 |30,_=>0
 |n,_=>n-1
def eI(nm:Str)(fs:ZE)(ds:ZG):D:=.dict ((.none,.str nm)::(fs.map PyData.str).zip ds)
def qA(ms:List eA)(ds:ZG):D:=.dict ((ms.map J9).zip ds)
abbrev V9:=Addr×ZF×HO
def Nd(K:ZC)(k:Nat)(d:D)(ds:ZG)(v:V)(vs:List V)(cs:List V9):Prop:=match k with
 |0=>∃a,d=.list ds/\v=.ref a/\cs=[(a,[],.lst vs)]
 |1=>∃a,d=.tuple ds/\v=.ref a/\cs=[(a,[],.tup vs)]
 |2=>∃a nm fs C dx,d=eI nm fs ds/\v=.ref a/\fs.length=ds.length/\W.nsIn K mainGlobals nm=some (some (.ref C))/\cs=[(a,[],.ins C dx (fs.zip vs)),(dx,[1000],.own a)]
 |_=>∃a ms,d=qA ms ds/\v=.ref a/\ms.length=ds.length/\cs=[(a,[],.dK (ms.zip vs))]
def k4(K:ZC)(F H:Hp)(g:ZN)(i:Nat):Nat->Nat->ZF->D->V->Prop
 |_,0,_,d,v=>cI K F d v
 |0,_+1,_,_,_=>False
 |f+1,c+1,p,d,v=>∃(ds:ZG)(vs:List V)(cs:List V9),Nd K (kd (c+1)) d ds v vs cs/\(∀x∈cs,g x.1=some (i,p++x.2.1)/\H x.1=some x.2.2/\F x.1=none)/\ds.length=vs.length /\
   ∀(k:Nat)(d':D)(v':V),ds[k]?=some d'->vs[k]?=some v'->k4 K F H g i f (ch (c+1) k) (p++[k]) d' v'
def cC(K:ZC)(F H:Hp)(g:ZN)(i:Nat)(n:Nat)(p:ZF)(d:D)(v:V):Prop:=k4 K F H g i n n p d v
def qB:Str:="place_below"
def İ:Str:="place_below.<locals>.<lambda>"
def GV:List Stmt->Option Pos
 |[_,.Return (some (.Call _ _ (⟨_,.Lambda _ _ _ pos,_⟩::_) _)) _]=>some pos
 |_=>none
def pQ(K:ZC):(Option (Addr×Addr×Pos)):=match W.nsIn K mainGlobals qB with
 |some (some (.ref f))=>(match K.lookup f with
  |some ⟨_,_,.func fd,_⟩=>(match fd.body,W.tabIn K qB with
   |.stmts b,some (c,P)=>(match GV b with
    |some pos=>some (c,P,pos)
    |none=>none)
   |_,_=>none)
  |_=>none)
 |_=>none
def õ(K:ZC)(F:Hp):Prop:=∀c P pos,pQ K=some (c,P,pos)->F P=some (.lam (rawInt pos.line) (rawInt pos.col) İ)
def õ.mono{K:ZC}{F F':Hp}(h:õ K F)(s:aW F F'):õ K F':=λc P pos e=>s _ _ (h c P pos e)
def E2(K:ZC)(F0 F:Hp):Prop:=õ K F0/\aW F0 F
def E2.trans'{K:ZC}{H H1 H2:Hp}(a:E2 K H H1)(b:aW H1 H2):E2 K H H2:=⟨a.1,λc o h=>b c o (a.2 c o h)⟩
def E2.lm{K:ZC}{H H1:Hp}(a:E2 K H H1):õ K H1:=a.1.mono a.2
structure fN(K:ZC)(Z:dQ)(ow:ZF)(g:ZN)(F H:Hp)(σ:St)(δ:DS):Prop where
 sub:aW F H
 f0:E2 K Z.F0 F
 kept:∀b o,Z.g0 b=none->Z.H0 b=some o->H b=some o
 new:∀a,Z.F0 a=none->Z.H0 a≠none->F a=none
 there:∀b,Z.H0 b≠none->H b≠none
 lab:∀a i p,g a=some (i,p)->Z.H0 a=none\/∃q,Z.g0 a=some (i,q)
 len:δ.length=σ.length
 par:∀i∈Z.ps,σ[i]?=Z.σ0[i]?/\ow.getD i 0=Z.owp.getD i 0
 slot:∀(i:Nat)(d:D),δ[i]?=some (some d)->∃v,σ[i]?=some (some v)/\cC K F H g i (ow.getD i 0) [] d v
def eJ(K:ZC)(Z:dQ)(ow:ZF)(F H:Hp)(σ:St)(δ:DS):Prop:=∃g,fN K Z ow g F H σ δ
def iF(K:ZC)(Z:dQ)(ow:ZF)(n:Nat)(d:D)(v:V)(F H:Hp)(σ:St)(δ:DS):Prop:=∃g,fN K Z ow g F H σ δ/\cC K F H g 1000 n [] d v
def aW.trans'{H H1 H2:Hp}(a:aW H H1)(b:aW H1 H2):aW H H2:=λc o h=>b c o (a c o h)
def aJ.len{K:ZC}{F:Hp}:∀{ds:ZG}{vs:List V},aJ K F ds vs->ds.length=vs.length
 |[]=>by rename_i vs;intro h;unfold aJ at h;rw[h];rfl
 |d::ds=>by
  rename_i vs;intro h;unfold aJ at h;let⟨x,r,rfl,_,h⟩:=h;rw[Ë,Ë,aJ.len h]
def aJ.get{K:ZC}{F:Hp}:∀{ds:ZG}{vs:List V}{i:Nat}{d:D},aJ K F ds vs->ds[i]?=some d->∃v,vs[i]?=some v/\cI K F d v
 |d::ds,vs,0,d',h,e=>by
  unfold aJ at h
  grind
 |d::ds,vs,i+1,d',h,e=>by
  unfold aJ at h;let⟨x,r,rfl,hx,h⟩:=h;exact aJ.get (i:=i) h e
def aJ.of{K:ZC}{F:Hp}{ds:ZG}{vs:List V}(hl:ds.length=vs.length)(h:∀(k:Nat)(d:D)(v:V),ds[k]?=some d->vs[k]?=some v->cI K F d v):aJ K F ds vs:=by
 induction ds generalizing vs with
 |nil=>
  cases vs with
  |nil=>unfold aJ;rfl
  |cons v vs=>cases hl
 |cons d ds ih=>
  cases vs with
  |nil=>cases hl
  |cons v vs=>
   unfold aJ;exact⟨v,vs,rfl,h 0 d v rfl rfl,ih (Nat.succ.inj hl) λk d' v' e1 e2=>h (k+1) d' v' e1 e2⟩
def aJ.both{K:ZC}{F:Hp}{ds:ZG}{vs:List V}(h:aJ K F ds vs)(k:Nat)(d:D)(v:V)(e1:ds[k]?=some d)(e2:vs[k]?=some v):cI K F d v:=by
 let⟨v',e,r⟩:=h.get e1
 grind
def mU{K:ZC}{F:Hp}:aJ K F [] []:=by unfold aJ;rfl
def jS{K:ZC}{F:Hp}{d:D}{v:V}{ds:ZG}{vs:List V}(h:cI K F d v)(t:aJ K F ds vs):aJ K F (d::ds) (v::vs):=by unfold aJ;exact⟨v,vs,rfl,h,t⟩
def aJ.app{K:ZC}{F:Hp}:∀{ds es:ZG}{vs ws:List V},aJ K F ds vs->aJ K F es ws->aJ K F (ds++es) (vs++ws)
 |[]=>by rename_i es vs ws;intro h t;unfold aJ at h;rw[h];exact t
 |d::ds=>by
  rename_i es vs ws;intro h t;unfold aJ at h;let⟨x,r,rfl,hx,h⟩:=h;exact jS hx (aJ.app h t)
def aJ.take{K:ZC}{F:Hp}{ds:ZG}{vs:List V}(n:Nat)(h:aJ K F ds vs):aJ K F (ds.take n) (vs.take n):=
 aJ.of (by rw[ì,ì,h.len]) λk d v e1 e2=>by
  rw[List.getElem?_take]at e1 e2;split at e1
  .rw[Á (by assumption)]at e2;exact h.both k d v e1 e2
  .cases e1
def aJ.drop{K:ZC}{F:Hp}{ds:ZG}{vs:List V}(n:Nat)(h:aJ K F ds vs):aJ K F (ds.drop n) (vs.drop n):=
 aJ.of (by rw[List.length_drop,List.length_drop,h.len]) λk d v e1 e2=>by
  rw[List.getElem?_drop]at e1 e2;exact h.both _ d v e1 e2
def QB:∀{c k:Nat},ch (c+1) k<=c:=by
 intro c k;unfold ch;split<;>lia
def k4.trans{K:ZC}{F F' H H':Hp}{g g':ZN}{i j:Nat}{q:ZF}(hF:aW F F')(h:∀a p o,g a=some (i,p)->H a=some o->F a=none->g' a=some (j,q++p)/\H' a=some o/\F' a=none){f c:Nat}{p:ZF}{d:D}{v:V}(r:k4 K F H g i f c p d v):k4 K F' H' g' j f c (q++p) d v:=by
 induction f generalizing c p d v with
 |zero=>
  cases c with
  |zero=>exact hF.rep d v r
  |succ c=>exact r.elim
 |succ f ih=>
  cases c with
  |zero=>exact hF.rep d v r
  |succ c=>
   let⟨ds,vs,cs,nd,hc,hl,r⟩:=r;refine⟨ds,vs,cs,nd,λx hx=>?_,hl,λk d' v' q1 q2=>?_⟩
   .obtain⟨a1,a2,a3⟩:=hc x hx
    rw[List.append_assoc];exact h _ _ _ a1 a2 a3
   .rw[List.append_assoc]
    exact ih (r k d' v' q1 q2)
def k4.fuel{K:ZC}{F H:Hp}{g:ZN}{i f c f':Nat}{p:ZF}{d:D}{v:V}(h1:c<=f)(h2:c<=f')(r:k4 K F H g i f c p d v):k4 K F H g i f' c p d v:=by
 induction f generalizing c f' p d v with
 |zero=>
  cases c with
  |zero=>unfold k4 at r⊢;exact r
  |succ c=>exact r.elim
 |succ f ih=>
  cases c with
  |zero=>unfold k4 at r⊢;exact r
  |succ c=>
   cases f' with
   |zero=>exact absurd h2 (Nat.not_succ_le_zero _)
   |succ f'=>
    let⟨ds,vs,cs,nd,hc,hl,r⟩:=r;exact⟨ds,vs,cs,nd,hc,hl,λk d' v' q1 q2=>ih (Ñ QB (Nat.le_of_succ_le_succ h1)) (Ñ QB (Nat.le_of_succ_le_succ h2)) (r k d' v' q1 q2)⟩
def cC.open{K:ZC}{F H:Hp}{g:ZN}{i c:Nat}{p:ZF}{d:D}{v:V}(h:cC K F H g i (c+1) p d v):
  ∃(ds:ZG)(vs:List V)(cs:List V9),Nd K (kd (c+1)) d ds v vs cs/\(∀x∈cs,g x.1=some (i,p++x.2.1)/\H x.1=some x.2.2/\F x.1=none)/\ds.length=vs.length /\
   ∀(k:Nat)(d':D)(v':V),ds[k]?=some d'->vs[k]?=some v'->cC K F H g i (ch (c+1) k) (p++[k]) d' v':=by
 let⟨ds,vs,cs,nd,hc,hl,r⟩:=h;exact⟨ds,vs,cs,nd,hc,hl,λk d' v' q1 q2=>k4.fuel QB (È _) (r k d' v' q1 q2)⟩
def cC.shut{K:ZC}{F H:Hp}{g:ZN}{i c:Nat}{p:ZF}{d:D}{v:V}{ds:ZG}{vs:List V}{cs:List V9}(nd:Nd K (kd (c+1)) d ds v vs cs)(hc:∀x∈cs,g x.1=some (i,p++x.2.1)/\H x.1=some x.2.2/\F x.1=none)(hl:ds.length=vs.length)(r:∀(k:Nat)(d':D)(v':V),ds[k]?=some d'->vs[k]?=some v'->cC K F H g i (ch (c+1) k) (p++[k]) d' v'):cC K F H g i (c+1) p d v:=
 ⟨ds,vs,cs,nd,hc,hl,λk d' v' q1 q2=>k4.fuel (È _) QB (r k d' v' q1 q2)⟩
def cC.lst{K:ZC}{F H:Hp}{g:ZN}{i c m:Nat}{p:ZF}{d:D}{v:V}(h:cC K F H g i (c+1) p d v)(hk:↥(kd (c+1)=0))(hm:∀k,ch (c+1) k=m:=by intro k;rfl):
  ∃(a:Addr)(ds:ZG)(vs:List V),d=.list ds/\v=.ref a/\g a=some (i,p)/\H a=some (.lst vs)/\F a=none/\ds.length=vs.length /\
   ∀(k:Nat)(d':D)(v':V),ds[k]?=some d'->vs[k]?=some v'->cC K F H g i m (p++[k]) d' v':=by
 let⟨ds,vs,cs,nd,hc,hl,r⟩:=h.open;rw[hk]at nd;let⟨a,rfl,rfl,rfl⟩:=nd;let⟨a1,a2,a3⟩:=hc _ (ç.mpr rfl);exact⟨a,ds,vs,rfl,rfl,by simpa using a1,a2,a3,hl,λk d' v' q1 q2=>by rw[<- hm k];exact r k d' v' q1 q2⟩
def cC.mkL{K:ZC}{F H:Hp}{g:ZN}{i c m:Nat}{p:ZF}{d:D}{v:V}(h:∃(a:Addr)(ds:ZG)(vs:List V),d=.list ds/\v=.ref a/\g a=some (i,p)/\H a=some (.lst vs)/\F a=none/\ds.length=vs.length /\
   ∀(k:Nat)(d':D)(v':V),ds[k]?=some d'->vs[k]?=some v'->cC K F H g i m (p++[k]) d' v')(hk:↥(kd (c+1)=0))(hm:∀k,ch (c+1) k=m:=by intro k;rfl):cC K F H g i (c+1) p d v:=by
 let⟨a,ds,vs,e1,e2,e3,e4,e5,e6,h⟩:=h;refine cC.shut (ds:=ds) (vs:=vs) (cs:=[(a,[],.lst vs)]) (by rw[hk];exact⟨a,e1,e2,rfl⟩) (λx hx=>?_) e6 λk d' v' q1 q2=>by rw[hm k];exact h k d' v' q1 q2
 rw[ç.mp hx];exact⟨by simpa using e3,e4,e5⟩
def cC.keepJ{K:ZC}{F F' H H':Hp}{g g':ZN}{i j n:Nat}{p:ZF}{d:D}{v:V}(hF:aW F F')(h:∀a p o,g a=some (i,p)->H a=some o->F a=none->g' a=some (j,p)/\H' a=some o/\F' a=none)(r:cC K F H g i n p d v):cC K F' H' g' j n p d v:=
 k4.trans (q:=[]) hF h r
def cC.mono{K:ZC}{F F' H H':Hp}{g g':ZN}{i:Nat}(hF:aW F F')(hg:∀a l,l.1=i->g a=some l->g' a=some l)(hn:∀a l,l.1=i->g a=some l->F a=none->F' a=none)(hH:∀a l o,l.1=i->g a=some l->H a=some o->H' a=some o){n:Nat}{p:ZF}{d:D}{v:V}(r:cC K F H g i n p d v):cC K F' H' g' i n p d v:=r.keepJ hF λa p o e1 e2 e3=>⟨hg a _ rfl e1,hH a _ _ rfl e1 e2,hn a _ rfl e1 e3⟩
def cC.relab{K:ZC}{F H:Hp}{g g':ZN}{i j:Nat}(hg:∀a p,g a=some (i,p)->g' a=some (j,p)){n:Nat}{p:ZF}{d:D}{v:V}(r:cC K F H g i n p d v):cC K F H g' j n p d v:=
 r.keepJ (λ_ _ z=>z) λa p o e1 e2 e3=>⟨hg a p e1,e2,e3⟩
def Nd.rep{K:ZC}{F:Hp}{k:Nat}{d:D}{ds:ZG}{v:V}{vs:List V}{cs:List V9}(nd:Nd K k d ds v vs cs)(hc:∀x∈cs,F x.1=some x.2.2)(hl:ds.length=vs.length)(r:aJ K F ds vs):cI K F d v:=by
 unfold Nd at nd;split at nd
 .obtain⟨a,rfl,rfl,rfl⟩:=nd
  unfold cI;exact⟨a,vs,rfl,gM.of (hc _ (ç.mpr rfl)),r⟩
 .obtain⟨a,rfl,rfl,rfl⟩:=nd
  unfold cI;exact⟨a,vs,rfl,tX.of (hc _ (ç.mpr rfl)),r⟩
 .obtain⟨a,nm,fs,C,dx,rfl,rfl,hfl,hC,rfl⟩:=nd
  have h1:=hc _ (Ì);have h2:=hc _ (É _ (ç.mpr rfl));unfold eI cI;refine⟨a,.str nm::vs,rfl,.inl ⟨nm,fs,C,dx,vs,rfl,?_,by grind,h1,h2,hC⟩,?_⟩
  .rw[Ê,List.map_fst_zip (by grind)]
  .unfold kZ
   exact⟨_,_,rfl,by unfold cI;rfl,AY (by grind) r⟩
 .obtain⟨a,ms,rfl,rfl,hm,rfl⟩:=nd
  unfold qA cI;refine⟨a,vs,rfl,.inr ⟨ms,?_,by grind,hc _ (ç.mpr rfl)⟩,AY (by grind) r⟩;rw[List.map_fst_zip (by grind)]
def k4.froze{K:ZC}{F F' H:Hp}{g:ZN}{i:Nat}(hF:aW F F')(h:∀a p o,g a=some (i,p)->H a=some o->F a=none->F' a=some o):
  ∀{f c:Nat}{p:ZF}{d:D}{v:V},k4 K F H g i f c p d v->cI K F' d v
 |0,0,_,d,v,r=>hF.rep d v r
 |_+1,0,_,d,v,r=>hF.rep d v r
 |_+1,_+1,p,d,v,⟨ds,vs,cs,nd,hc,hl,r⟩=>nd.rep (λx hx=>by
   let⟨a1,a2,a3⟩:=hc x hx;exact h _ _ _ a1 a2 a3) hl (aJ.of hl λk d' v' q1 q2=>k4.froze hF h (r k d' v' q1 q2))
def ö(g:ZN)(i:Nat)(F H:Hp):Hp:=λb=>open Classical in if ∃p,g b=some (i,p)then (if F b=none then H b else F b)else F b
def aIC{g:ZN}{i:Nat}{F H:Hp}{b:Addr}{p:ZF}(h:g b=some (i,p))(hn:F b=none):ö g i F H b=H b:=by
 unfold ö;rw[Á ⟨p,h⟩,Á hn]
def QC{g:ZN}{i:Nat}{F H:Hp}{b:Addr}(h:∀p,g b≠some (i,p)):ö g i F H b=F b:=by
 unfold ö;rw[Ã λzQ=>by let⟨p,e⟩:=zQ;exact h p e]
def qC{g:ZN}{i:Nat}{F H:Hp}:aW F (ö g i F H):=λb o e=>by
 unfold ö
 simp_all
def aC5{g:ZN}{i:Nat}{F H:Hp}(hs:aW F H):aW (ö g i F H) H:=λb o e=>by
 unfold ö at e;split at e
 .split at e
  .exact e
  .exact hs b o e
 .exact hs b o e
def cC.freeze{K:ZC}{F H:Hp}{g:ZN}{i:Nat}{n:Nat}{p:ZF}{d:D}{v:V}(r:cC K F H g i n p d v):cI K (ö g i F H) d v:=
 k4.froze qC (λa p o e1 e2 e3=>by rw[aIC e1 e3];exact e2) r
section
variable{K:ZC}{Z:dQ}{ow:ZF}{g:ZN}{F H:Hp}{σ:St}{δ:DS}
def đ(g:ZN)(i:Nat):ZN:=λb=>open Classical in if ∃p,g b=some (i,p)then none else g b
def NI{g:ZN}{i:Nat}{a:Addr}{l:į}(h:l.1≠i)(e:g a=some l):đ g i a=some l:=by
 unfold đ
 grind
def NJ{g:ZN}{i:Nat}{a:Addr}{l:į}(e:đ g i a=some l):g a=some l/\l.1≠i:=by
 unfold đ at e;split at e
 all_goals grind
def fN.freeze(R:fN K Z ow g F H σ δ)(i:Nat)(hP:i∉Z.ps):fN K Z (ow.set i 0) (đ g i) (ö g i F H) H σ δ:=by
 refine⟨aC5 R.sub,R.f0.trans' qC,R.kept,λa h1 h2=>?_,R.there,λa j p e=>R.lab a j p (NJ e).1,R.len,λj hj=>⟨(R.par j hj).1,?_⟩,λj d e=>?_⟩
 .have q:∀p,g a≠some (i,p):=λp e=>(R.lab a i p e).elim h2 λ⟨q,z⟩=>hP (Z.wf a i q z)
  rw[QC q];exact R.new a h1 h2
 .have:j≠i:=λe=>hP (by rw[<- e];exact hj)
  rw[Ð,Ü (Ö this),<- Ð];exact(R.par j hj).2
 .obtain⟨v,e1,o⟩:=R.slot j d e
  refine⟨v,e1,?_⟩;by_cases hj:j=i
  .subst hj
   have:(ow.set j 0).getD j 0=0:=by
    rw[Ð,List.getElem?_set];split
    .split<;>rfl
    .grind
   rw[this];exact o.freeze
  .have:(ow.set i 0).getD j 0=ow.getD j 0:=by rw[Ð,Ð,Ü (Ö hj)]
   rw[this];exact o.mono qC (λa l hl e=>NI (by rw[hl];exact hj) e) (λa l hl e hn=>by rw[QC (λp q=>by grind)];exact hn) λ_ _ _ _ _ h=>h
structure bH(Z:dQ)(ow:ZF):Prop where
 ow:ow.length<=1000
 ps:1000∉Z.ps
def iF.freeze{n:Nat}{d:D}{v:V}(S:bH Z ow)(R:iF K Z ow n d v F H σ δ):∃F',aW F F'/\iF K Z ow 0 d v F' H σ δ:=by
 let⟨g,R,o⟩:=R;have R':=R.freeze 1000 S.ps;rw[List.set_eq_of_length_le S.ow]at R';exact⟨_,qC,_,R',o.freeze⟩
def iF.rel{n:Nat}{d:D}{v:V}(R:iF K Z ow n d v F H σ δ):eJ K Z ow F H σ δ:=let ⟨g,R,_⟩:=R;⟨g,R⟩
def iF.rep{d:D}{v:V}(R:iF K Z ow 0 d v F H σ δ):cI K F d v:=let ⟨_,_,o⟩:=R;o
def eJ.x{d:D}{v:V}(R:eJ K Z ow F H σ δ)(h:cI K F d v):iF K Z ow 0 d v F H σ δ:=let ⟨g,R⟩:=R;⟨g,R,h⟩
def eJ.sub(R:eJ K Z ow F H σ δ):aW F H:=let ⟨_,R⟩:=R;R.sub
def fN.laid{p:Addr}{o:HO}(R:fN K Z ow g F H σ δ)(hp:H p=none):fN K Z ow g (eB F p o) (eB H p o) σ δ:=by
 have fp:F p=none:=by
  cases e:F p with
  |none=>rfl
  |some u=>rw[R.sub p u e]at hp;cases hp
 have z:Z.H0 p=none:=by
  cases e:Z.H0 p with
  |none=>rfl
  |some u=>exact absurd hp (R.there p (by rw[e];simp))
 refine⟨λb u e=>?_,R.f0.trans' (dP fp o),λb u n e=>?_,λa h1 h2=>?_,λb h=>?_,R.lab,R.len,R.par,λi d e=>?_⟩
 .by_cases hb:b=p
  .subst hb;rw[cJ]at e⊢;exact e
  .rw[aZ hb]at e⊢;exact R.sub b u e
 .have:b≠p:=λq=>by rw[q,z]at e;cases e
  rw[aZ this];exact R.kept b u n e
 .have:a≠p:=λq=>h2 (by rw[q,z])
  rw[aZ this];exact R.new a h1 h2
 .have:b≠p:=λq=>h (by rw[q,z])
  rw[aZ this];exact R.there b h
 .obtain⟨v,e1,ho⟩:=R.slot i d e
  refine⟨v,e1,?_⟩;refine ho.keepJ (dP fp o) λa q u e1 e2 e3=>?_;have:a≠p:=λz=>by rw[z,hp]at e2;cases e2
  exact⟨e1,by rw[aZ this];exact e2,by rw[aZ this];exact e3⟩
def eJ.laid{p:Addr}{o:HO}(R:eJ K Z ow F H σ δ)(hp:H p=none):eJ K Z ow (eB F p o) (eB H p o) σ δ:=let ⟨g,R⟩:=R;⟨g,R.laid hp⟩
def eJ.fnone{p:Addr}(R:eJ K Z ow F H σ δ)(hp:H p=none):F p=none:=by
 cases e:F p with
 |none=>rfl
 |some u=>rw[R.sub p u e]at hp;cases hp
def eJ.newList{p:Addr}{ds:ZG}{vs:List V}(S:bH Z ow)(R:eJ K Z ow F H σ δ)(hp:H p=none)(h:aJ K F ds vs):iF K Z ow 1 (.list ds) (.ref p) F (eB H p (.lst vs)) σ δ:=by
 have fp:=R.fnone hp;let⟨g,R⟩:=R;have z:Z.H0 p=none:=by
  cases e:Z.H0 p with
  |none=>rfl
  |some u=>exact absurd hp (R.there p (by rw[e];simp))
 refine⟨λb=>if b=p then some (1000,[])else đ g 1000 b,⟨R.sub.trans' (dP hp _),R.f0,λb u n e=>?_,R.new,λb h=>?_,λa i q e=>?_,R.len,R.par,λi d e=>?_⟩,?_⟩
 .have:b≠p:=λq=>by rw[q,z]at e;cases e
  rw[aZ this];exact R.kept b u n e
 .have:b≠p:=λq=>h (by rw[q,z])
  rw[aZ this];exact R.there b h
 .split at e
  .rename_i q;rw[q];exact .inl z
  .exact R.lab a i q (NJ e).1
 .obtain⟨v,e1,o⟩:=R.slot i d e
  refine⟨v,e1,?_⟩;by_cases hi:ow.getD i 0=0
  .rw[hi]at o⊢;exact o
  .have hi':i<1000:=by
    by_cases hl:i<ow.length
    .exact Ô hl S.ow
    .exact absurd (by rw[Ð,Ú (by exact å.mp ‹_›)];rfl) hi
   refine o.keepJ (λ_ _ z=>z) λa q u e1 e2 e3=>?_;have:a≠p:=λz=>by rw[z,hp]at e2;cases e2
   exact⟨by rw[Ã this];exact NI (by show i≠1000;exact Ï ‹_›) e1,by rw[aZ this];exact e2,e3⟩
 .refine cC.mkL (m:=0) ?_
  exact⟨p,ds,vs,rfl,rfl,by rw[Á rfl],cJ,fp,h.len,λk d' v' q1 q2=>h.both k d' v' q1 q2⟩
end
def PE.mono{X:Cx}{e:Expr}{t t':TE}(h:PE X e t)(hm:∀σ H Q,t' σ H Q->t σ H Q):PE X e t':=λU s σ H Q I q=>h U s σ H Q I (hm σ H Q q)
def PT.mono{X:Cx}{e:Expr}{t t':TT}(h:PT X e t)(hm:∀σ H Q,t' σ H Q->t σ H Q):PT X e t':=λU s σ H Q I q=>h U s σ H Q I (hm σ H Q q)
def PA.mono{X:Cx}{es:List Expr}{t t':TA}(h:PA X es t)(hm:∀σ H Q,t' σ H Q->t σ H Q):PA X es t':=λpos U s σ H Q I q=>h pos U s σ H Q I (hm σ H Q q)
def PS.mono{X:Cx}{st:Stmt}{t t':TS}(h:PS X st t)(hm:∀D σ H,t' D σ H->t D σ H):PS X st t':=λU s σ H D I q=>h U s σ H D I (hm D σ H q)
def JT.mono{X:Cx}{st:List Stmt}{t t':TS}(h:JT X st t)(hm:∀D σ H,t' D σ H->t D σ H):JT X st t':=λU s σ H D I q=>h U s σ H D I (hm D σ H q)
section
variable{K:ZC}{Z:dQ}{ow:ZF}{g:ZN}{F H:Hp}{σ:St}{δ:DS}
end
def kD(X:Cx)(Z:dQ)(ow:ZF)(n:Nat)(r:Res D)(F:Hp)(σ:St)(Q:VK):Prop:=match r with
 |.ok d δ=>∀v H' F',iF X.K Z ow n d v F' H' σ δ->aW F F'->Q v H'
 |.stuck=>False
def tD(X:Cx)(Z:dQ)(ow:ZF)(n:Nat)(f:M D):TE:=λσ H Q=>∃F δ,eJ X.K Z ow F H σ δ/\kD X Z ow n (f δ) F σ Q
def DE(X:Cx)(Z:dQ)(ow:ZF)(n:Nat)(e:Expr)(f:M D):Prop:=PE X e (tD X Z ow n f)
def kT(X:Cx)(Z:dQ)(ow:ZF)(r:Res Bool)(F:Hp)(σ:St)(Q:Bool->Hp->Prop):Prop:=match r with
 |.ok b δ=>∀H' F',eJ X.K Z ow F' H' σ δ->aW F F'->Q b H'
 |.stuck=>False
def tT(X:Cx)(Z:dQ)(ow:ZF)(f:M Bool):TT:=λσ H Q=>∃F δ,eJ X.K Z ow F H σ δ/\kT X Z ow (f δ) F σ Q
def DT(X:Cx)(Z:dQ)(ow:ZF)(e:Expr)(f:M Bool):Prop:=PT X e (tT X Z ow f)
inductive Arg where
 |own (i:Nat)
 |val (f:M D)
def u5(K:ZC)(F:Hp)(σ:St):List Arg->List (ZJ)->List V->Prop
 |[],[],[]=>True
 |.own i::as,none::ds,v::vs=>σ[i]?=some (some v)/\u5 K F σ as ds vs
 |.val _::as,some d::ds,v::vs=>cI K F d v/\u5 K F σ as ds vs
 |_,_,_=>False
def cZ:List Arg->M (List (ZJ))
 |[]=>λδ=>.ok [] δ
 |.own i::as=>λδ=>match δ[i]? with
  |some (some _)=>(cZ as δ).bind λds δ'=>.ok (none::ds) δ'
  |_=>.stuck
 |.val f::as=>λδ=>(f δ).bind λd δ1=>(cZ as δ1).bind λds δ2=>.ok (some d::ds) δ2
def kA(X:Cx)(Z:dQ)(ow:ZF)(as:List Arg)(r:Res (List (ZJ)))(F:Hp)(σ:St)(Q:List V->Hp->Prop):Prop:=match r with
 |.ok ds δ=>∀vs H' F',eJ X.K Z ow F' H' σ δ->aW F F'->u5 X.K F' σ as ds vs->Q vs H'
 |.stuck=>False
def ı(X:Cx)(Z:dQ)(ow:ZF)(as:List Arg):TA:=λσ H Q=>∃F δ,eJ X.K Z ow F H σ δ/\kA X Z ow as (cZ as δ) F σ Q
def DA(X:Cx)(Z:dQ)(ow:ZF)(es:List Expr)(as:List Arg):Prop:=PA X es (ı X Z ow as)
section
variable{X:Cx}{Z:dQ}{ow:ZF}{n:Nat}{F F1:Hp}{σ:St}{Q Q':VK}{pos:Pos}{e a b c:Expr}{f g:M D}
def kD.mono{r:Res D}(h:kD X Z ow n r F σ Q)(s:aW F F1)(q:∀v H',Q v H'->Q' v H'):kD X Z ow n r F1 σ Q':=by
 cases r with
 |ok d δ=>exact λv H' F' R s'=>q v H' (h v H' F' R (s.trans' s'))
 |stuck=>exact h
def kT.mono{r:Res Bool}{Q Q':Bool->Hp->Prop}(h:kT X Z ow r F σ Q)(s:aW F F1)(q:∀v H',Q v H'->Q' v H'):kT X Z ow r F1 σ Q':=by
 cases r with
 |ok d δ=>exact λH' F' R s'=>q _ H' (h H' F' R (s.trans' s'))
 |stuck=>exact h
def aD(i:Nat):M D:=λδ=>match δ[i]? with
 |some (some d)=>.ok d δ
 |_=>.stuck
def dC(d:D):M D:=λδ=>.ok d δ
def aA(i:Nat){x:Str}(ho:↥(ow.getD i 0=0))(hN:↥(X.N[i]?=some x))(hv:#v[JZ X.env.scope x])(hd:⇑(Zdb x))(hcd:⇑(Zcd x)):DE X Z ow 0 (.Name x pos) (aD i):=
 (iG hN hv hd hcd).mono λσ H Q h=>by
  let⟨F,δ,R,h⟩:=h;unfold aD at h;cases e:δ[i]? with
  |none=>rw[e]at h;exact h.elim
  |some o=>
   cases o with
   |none=>rw[e]at h;exact h.elim
   |some d=>
    rw[e]at h;let⟨g,R⟩:=R;let⟨v,e1,o⟩:=R.slot i d e;rw[ho]at o;exact⟨v,e1,h v H F ⟨g,R,o⟩ λ_ _ z=>z⟩
def qD{v:V}{d:D}(h:PE X e (tC v))(hr:∀F,cI X.K F d v):DE X Z ow 0 e (dC d):=h.mono λσ H Q h=>by
 let⟨F,δ,⟨g,R⟩,h⟩:=h;exact h v H F ⟨g,R,hr F⟩ λ_ _ z=>z
def aC{i:Int}{j}:DE X Z ow 0 (.Constant (.int i) j pos) (dC (.int i)):=qD aHC λF=>by unfold cI;rfl
def jX{b:Bool}{j}:DE X Z ow 0 (.Constant (.bool b) j pos) (dC (.bool b)):=qD aKX λF=>by unfold cI;rfl
def bD{x:Str}{j}:DE X Z ow 0 (.Constant (.str x) j pos) (dC (.str x)):=qD aHD λF=>by unfold cI;rfl
def aU(op:D->D->ZJ)(f g:M D):M D:=λδ=>(f δ).bind λx δ1=>(g δ1).bind λy δ2=>match op x y with
 |some z=>.ok z δ2
 |none=>.stuck
def sY(X:Cx)(r:R2)(n:Nat)(op:D->D->ZJ):Prop:=∀(Z:dQ)(ow:ZF)(F H:Hp)(σ:St)(δ:DS)(a b:D)(x y:V)(d:D)(Q:VK),bH Z ow->eJ X.K Z ow F H σ δ->cI X.K F a x->cI X.K F b y->op a b=some d ->
 (∀v H' F',iF X.K Z ow n d v F' H' σ δ->aW F F'->Q v H')->r x y H Q
def GW{r:R2}{op:D->D->ZJ}(S:bH Z ow)(os:sY X r n op){H:Hp}(h:tD X Z ow n (aU op f g) σ H Q):Ğ r (tD X Z ow 0 f) (tD X Z ow 0 g) σ H Q:=by
 let⟨F,δ,R,h⟩:=h;unfold aU at h;refine⟨F,δ,R,?_⟩;cases e:f δ with
 |stuck=>rw[e]at h;exact h.elim
 |ok d1 δ1=>
  rw[e]at h;intro x H1 F1 R1 s1;refine⟨F1,δ1,R1.rel,?_⟩;simp![Res.bind]at h;cases e2:g δ1 with
  |stuck=>rw[e2]at h;exact h.elim
  |ok d2 δ2=>
   rw[e2]at h;simp![Res.bind]at h;intro y H2 F2 R2 s2;cases e3:op d1 d2 with
   |none=>rw[e3]at h;exact h.elim
   |some d=>
    rw[e3]at h;exact os Z ow F2 H2 σ δ2 d1 d2 x y d Q S R2.rel (s2.rep _ _ R1.rep) R2.rep e3 λv H' F' R' s'=>h v H' F' R' (s1.trans' (s2.trans' s'))
def E3{o:Operator}{r:R2}{op:D->D->ZJ}(S:bH Z ow)(ho:pO X (binaryOp o) r)(os:sY X r n op)(ha:DE X Z ow 0 a f)(hb:DE X Z ow 0 b g):DE X Z ow n (.BinOp a o b pos) (aU op f g):=
 (aK9 ho ha hb).mono λ_ _ _ h=>GW S os h
def GX{o:CmpOp}{r:R2}{op:D->D->ZJ}(S:bH Z ow)(ho:pO X (compareOp o) r)(os:sY X r 0 op)(ha:DE X Z ow 0 a f)(hb:DE X Z ow 0 b g)(hm:behindInMarks o b=false):DE X Z ow 0 (.Compare a [o] [b] pos) (aU op f g):=
 (aCO ho ha hb hm).mono λ_ _ _ h=>GW S os h
def dB(f:M D):M Bool:=λδ=>(f δ).bind λd δ1=>match d with
 |.bool b=>.ok b δ1
 |_=>.stuck
def E4{H:Hp}{Q:Bool->Hp->Prop}(h:tT X Z ow (dB f) σ H Q):tD X Z ow 0 f σ H (λx H'=>∃k,x=.bl k/\Q k H'):=by
 let⟨F,δ,R,h⟩:=h;unfold dB at h;refine⟨F,δ,R,?_⟩;cases e:f δ with
 |stuck=>rw[e]at h;exact h.elim
 |ok d1 δ1=>
  rw[e]at h;intro x H1 F1 R1 s1;simp![Res.bind]at h;cases d1 with
  |bool k=>
   have q:=R1.rep;unfold cI at q;exact⟨k,q,h H1 F1 R1.rel s1⟩
  |_=>exact h.elim
def c9{o:CmpOp}{r:R2}{op:D->D->ZJ}(S:bH Z ow)(ho:pO X (compareOp o) r)(os:sY X r 0 op)(ha:DE X Z ow 0 a f)(hb:DE X Z ow 0 b g)(hm:behindInMarks o b=false):DT X Z ow (.Compare a [o] [b] pos) (dB (aU op f g)):=
 (aCP ho ha hb hm).mono λ_ _ _ h=>GW S os (E4 h)
def d8(h:DE X Z ow 0 e f)(he: ~~~(∀whole,isTrue e X.env whole=(do let v <- whole;standAt e.pos;holding [v] (truthy v)))):DT X Z ow e (dB f):=(aHF h he).mono λ_ _ _ h=>E4 h
def eK(f:M Bool):M Bool:=λδ=>(f δ).bind λb δ1=>.ok (!b) δ1
def eZ{f:M Bool}(h:DT X Z ow e f):DT X Z ow (.UnaryOp .Not e pos) (eK f):=(aHI h).mono λσ H Q h=>by
 let⟨F,δ,R,h⟩:=h;unfold eK at h;refine⟨F,δ,R,?_⟩;cases e:f δ with
 |stuck=>rw[e]at h;exact h.elim
 |ok b δ1=>rw[e]at h;exact h
def yR(f g:M Bool):M Bool:=λδ=>(f δ).bind λb δ1=>if b=true then g δ1 else .ok false δ1
def A1(f g:M Bool):M Bool:=λδ=>(f δ).bind λb δ1=>if b=true then .ok true δ1 else g δ1
def PW.mono{t t':TT}(h:PW X e t)(hm:∀σ H Q,t' σ H Q->t σ H Q):PW X e t':=λwh U s σ H Q I q=>h wh U s σ H Q I (hm σ H Q q)
def WA{f g:M Bool}{rest:List Expr}(ha:DT X Z ow a f)(hb:PW X (.BoolOp .And (b::rest) pos) (tT X Z ow g)):PW X (.BoolOp .And (a::b::rest) pos) (tT X Z ow (yR f g)):=(aHH ha hb).mono λσ H Q h=>by
 let⟨F,δ,R,h⟩:=h;unfold yR at h;refine⟨F,δ,R,?_⟩;cases e:f δ with
 |stuck=>rw[e]at h;exact h.elim
 |ok k δ1=>
  rw[e]at h;simp![Res.bind]at h;intro H1 F1 R1 s1;cases k with
  |true=>rw[Á rfl]at h⊢;exact⟨F1,δ1,R1,h.mono s1 λ_ _ z=>z⟩
  |false=>rw[Ã Ý]at h⊢;exact h H1 F1 R1 s1
def KC{f g:M Bool}{rest:List Expr}(ha:DT X Z ow a f)(hb:PW X (.BoolOp .Or (b::rest) pos) (tT X Z ow g)):PW X (.BoolOp .Or (a::b::rest) pos) (tT X Z ow (A1 f g)):=(aKY ha hb).mono λσ H Q h=>by
 let⟨F,δ,R,h⟩:=h;unfold A1 at h;refine⟨F,δ,R,?_⟩;cases e:f δ with
 |stuck=>rw[e]at h;exact h.elim
 |ok k δ1=>
  rw[e]at h;simp![Res.bind]at h;intro H1 F1 R1 s1;cases k with
  |true=>rw[Á rfl]at h⊢;exact h H1 F1 R1 s1
  |false=>rw[Ã Ý]at h⊢;exact⟨F1,δ1,R1,h.mono s1 λ_ _ z=>z⟩
def ă(c:M Bool)(f g:M D):M D:=λδ=>(c δ).bind λb δ1=>if b=true then f δ1 else g δ1
def WB{h:M Bool}(hc:DT X Z ow c h)(ha:DE X Z ow n a f)(hb:DE X Z ow n b g):DE X Z ow n (.IfExp c a b pos) (ă h f g):=(VI hc ha hb).mono λσ H Q q=>by
 let⟨F,δ,R,q⟩:=q;unfold ă at q;refine⟨F,δ,R,?_⟩;cases e:h δ with
 |stuck=>rw[e]at q;exact q.elim
 |ok k δ1=>
  rw[e]at q;simp![Res.bind]at q;intro H1 F1 R1 s1;cases k with
  |true=>rw[Á rfl]at q⊢;exact⟨F1,δ1,R1,q.mono s1 λ_ _ z=>z⟩
  |false=>rw[Ã Ý]at q⊢;exact⟨F1,δ1,R1,q.mono s1 λ_ _ z=>z⟩
def cT(S:bH Z ow)(h:DE X Z ow n e f):DE X Z ow 0 e f:=PE.mono h λσ H Q h=>by
 let⟨F,δ,R,h⟩:=h;refine⟨F,δ,R,?_⟩;cases e:f δ with
 |stuck=>rw[e]at h;exact h.elim
 |ok d δ1=>
  rw[e]at h;intro v H1 F1 R1 s1;let⟨F2,s2,R2⟩:=R1.freeze S;exact h v H1 F2 R2 (s1.trans' s2)
end
def bO:List (M D)->M (ZG)
 |[]=>λδ=>.ok [] δ
 |f::fs=>λδ=>(f δ).bind λd δ1=>(bO fs δ1).bind λds δ2=>.ok (d::ds) δ2
def kV'(X:Cx)(Z:dQ)(ow:ZF)(r:Res (ZG))(F:Hp)(σ:St)(Q:List V->Hp->Prop):Prop:=match r with
 |.ok ds δ=>∀vs H' F',eJ X.K Z ow F' H' σ δ->aW F F'->aJ X.K F' ds vs->Q vs H'
 |.stuck=>False
def tV(X:Cx)(Z:dQ)(ow:ZF)(fs:List (M D)):TA:=λσ H Q=>∃F δ,eJ X.K Z ow F H σ δ/\kV' X Z ow (bO fs δ) F σ Q
def DV(X:Cx)(Z:dQ)(ow:ZF)(es:List Expr)(fs:List (M D)):Prop:=PA X es (tV X Z ow fs)
section
variable{X:Cx}{Z:dQ}{ow:ZF}{n:Nat}{pos:Pos}{e a b c:Expr}{es:List Expr}{f g:M D}{fs:List (M D)}{as:List Arg}
def aV:DV X Z ow [] []:=oH.mono λσ H Q h=>by
 let⟨F,δ,R,h⟩:=h;exact h [] H F R (aW.refl _) mU
def aG(he:DE X Z ow 0 e f)(hs:DV X Z ow es fs)(hst:↥(Zse e es X.env)):DV X Z ow (e::es) (f::fs):=(iI he hs hst).mono λσ H Q h=>by
 let⟨F,δ,R,h⟩:=h;unfold bO at h;refine⟨F,δ,R,?_⟩;cases e1:f δ with
 |stuck=>rw[e1]at h;exact h.elim
 |ok d δ1=>
  rw[e1]at h;simp![Res.bind]at h;intro x H1 F1 R1 s1;refine⟨F1,δ1,R1.rel,?_⟩;cases e2:bO fs δ1 with
  |stuck=>rw[e2]at h;exact h.elim
  |ok ds δ2=>
   rw[e2]at h;intro vs H2 F2 R2 s2 z;exact h (x::vs) H2 F2 R2 (s1.trans' s2) (jS (s2.rep _ _ R1.rep) z)
def aK:DA X Z ow [] []:=oH.mono λσ H Q h=>by
 let⟨F,δ,R,h⟩:=h;exact h [] H F R (aW.refl _) trivial
def aB(he:DE X Z ow 0 e f)(hs:DA X Z ow es as)(hst:↥(Zse e es X.env)):DA X Z ow (e::es) (.val f::as):=(iI he hs hst).mono λσ H Q h=>by
 let⟨F,δ,R,h⟩:=h;unfold cZ at h;refine⟨F,δ,R,?_⟩;cases e1:f δ with
 |stuck=>rw[e1]at h;exact h.elim
 |ok d δ1=>
  rw[e1]at h;simp![Res.bind]at h;intro x H1 F1 R1 s1;refine⟨F1,δ1,R1.rel,?_⟩;cases e2:cZ as δ1 with
  |stuck=>rw[e2]at h;exact h.elim
  |ok ds δ2=>
   rw[e2]at h;intro vs H2 F2 R2 s2 z;exact h (x::vs) H2 F2 R2 (s1.trans' s2) ⟨s2.rep _ _ R1.rep,z⟩
def jH(i:Nat){x:Str}{p:Pos}(hs:DA X Z ow es as)(hst:↥(starEach (.Name x p::es) X.env=(false,eval (.Name x p) X.env)::starEach es X.env))(hN:↥(X.N[i]?=some x))(hv:#v[JZ X.env.scope x])(hd:⇑(Zdb x))(hcd:⇑(Zcd x)):DA X Z ow (.Name x p::es) (.own i::as):=
 (iI (iG hN hv hd hcd) hs hst).mono λσ H Q h=>by
  let⟨F,δ,R,h⟩:=h;unfold cZ at h;cases e:δ[i]? with
  |none=>rw[e]at h;exact h.elim
  |some o=>
   cases o with
   |none=>rw[e]at h;exact h.elim
   |some d=>
    rw[e]at h;let⟨g,R'⟩:=id R;let⟨v,e1,_⟩:=R'.slot i d e;refine⟨v,e1,F,δ,R,?_⟩;cases e2:cZ as δ with
    |stuck=>simp![e2]at h;exact h.elim
    |ok ds δ2=>
     simp![e2]at h;intro vs H2 F2 R2 s2 z;exact h (v::vs) H2 F2 R2 s2 ⟨e1,z⟩
def iJ(fs:List (M D)):M D:=λδ=>(bO fs δ).bind λds δ1=>if ds.length<=sizeLine then .ok (.tuple ds) δ1 else .stuck
def iK(fs:List (M D)):M D:=λδ=>(bO fs δ).bind λds δ1=>if ds.length<=sizeLine then .ok (.list ds) δ1 else .stuck
def oK{K:ZC}{F:Hp}{p:Addr}{ds:ZG}{vs:List V}(hp:F p=none)(h:aJ K F ds vs):cI K (eB F p (.tup vs)) (.tuple ds) (.ref p):=by
 unfold cI;exact⟨p,vs,rfl,tX.of cJ,(dP hp _).repAll ds vs h⟩
def dW{x1}(h:DV X Z ow es fs):DE X Z ow 0 (.Tuple es x1 pos) (iJ fs):=(aH1 h).mono λσ H Q h=>by
 let⟨F,δ,R,h⟩:=h;unfold iJ at h;refine⟨F,δ,R,?_⟩;cases e:bO fs δ with
 |stuck=>rw[e]at h;exact h.elim
 |ok ds δ1=>
  rw[e]at h;simp![Res.bind]at h;intro vs H1 F1 R1 s1 z;split at h
  .rename_i hl
   refine⟨by rw[<- z.len];exact hl,λp hp=>?_⟩;have fp:=R1.fnone hp;exact h _ _ (eB F1 p (.tup vs)) ((R1.laid hp).x (oK fp z)) (s1.trans' (dP fp _))
  .exact h.elim
def eS(S:bH Z ow)(h:DV X Z ow es fs):DE X Z ow 1 (.List es pos) (iK fs):=(aH2 h).mono λσ H Q h=>by
 let⟨F,δ,R,h⟩:=h;unfold iK at h;refine⟨F,δ,R,?_⟩;cases e:bO fs δ with
 |stuck=>rw[e]at h;exact h.elim
 |ok ds δ1=>
  rw[e]at h;simp![Res.bind]at h;intro vs H1 F1 R1 s1 z;split at h
  .rename_i hl
   exact⟨by rw[<- z.len];exact hl,λp hp=>h _ _ F1 (R1.newList S hp z) s1⟩
  .exact h.elim
def jY(op:ZG->ZJ)(fs:List (M D)):M D:=λδ=>(bO fs δ).bind λds δ1=>match op ds with
 |some d=>.ok d δ1
 |none=>.stuck
def WC(X:Cx)(r:List V->Hp->VK->Prop)(n:Nat)(op:ZG->ZJ):Prop:=∀(Z:dQ)(ow:ZF)(F H:Hp)(σ:St)(δ:DS)(ds:ZG)(vs:List V)(d:D)(Q:VK),bH Z ow->eJ X.K Z ow F H σ δ->aJ X.K F ds vs->op ds=some d ->
 (∀v H' F',iF X.K Z ow n d v F' H' σ δ->aW F F'->Q v H')->r vs H Q
def WD{r:List V->Hp->VK->Prop}{op:ZG->ZJ}{σ:St}{H:Hp}{Q:VK}(S:bH Z ow)(os:WC X r n op)(h:tD X Z ow n (jY op fs) σ H Q):Ŏ r (tV X Z ow fs) σ H Q:=by
 let⟨F,δ,R,h⟩:=h;unfold jY at h;refine⟨F,δ,R,?_⟩;cases e:bO fs δ with
 |stuck=>rw[e]at h;exact h.elim
 |ok ds δ1=>
  rw[e]at h;simp![Res.bind]at h;intro vs H1 F1 R1 s1 z;cases e3:op ds with
  |none=>rw[e3]at h;exact h.elim
  |some d=>
   rw[e3]at h;exact os Z ow F1 H1 σ δ1 ds vs d Q S R1 z e3 λv H' F' R' s'=>h v H' F' R' (s1.trans' s')
def nU{id:String}{x:Str}{p:Pos}{r:List V->Hp->VK->Prop}{op:ZG->ZJ}(S:bH Z ow)(hc:iH X (.builtin id) r)(os:WC X r n op)(hg:Gl X x)(hm:X.mg x=none)(hv:bootBuiltins x=some (.builtin id))(ha:DV X Z ow (e::es) fs)(hn:⇑(x≠"__name__"))(hdb:⇑(Zdb x))(he:↥(Zse e es X.env))(hpl:↥(Zbt pos es X.env)):
  DE X Z ow n (.Call (.Name x p) (e::es) [] pos) (jY op fs):=PE.mono (AU hc hg hm hv ha hn hdb he hpl) λ_ _ _ h=>WD S os h
def fQ{T:String}{x:Str}{p:Pos}{r:List V->Hp->VK->Prop}{op:ZG->ZJ}(S:bH Z ow)(hc:iH X (.type T) r)(os:WC X r n op)(hg:Gl X x)(hm:X.mg x=none)(hv:bootBuiltins x=some (.type T))(ha:DV X Z ow (e::es) fs)(hn:⇑(x≠"__name__"))(hdb:⇑(Zdb x))(he:↥(Zse e es X.env))(hpl:↥(Zbt pos es X.env)):
  DE X Z ow n (.Call (.Name x p) (e::es) [] pos) (jY op fs):=PE.mono (SZ hc hg hm hv ha hn hdb he hpl) λ_ _ _ h=>WD S os h
end
inductive Fl where
 |next|brk|cont
 |ret (d:D)
def kS(X:Cx)(Z:dQ)(ow' ol ox:ZF)(rm:Nat)(r:Res Fl)(F:Hp)(Dn:DU):Prop:=match r with
 |.ok .next δ=>∀σ' H' F',eJ X.K Z ow' F' H' σ' δ->aW F F'->Dn.nx σ' H'
 |.ok .brk δ=>∀σ' H' F',eJ X.K Z ol F' H' σ' δ->aW F F'->Dn.bk σ' H'
 |.ok .cont δ=>∀σ' H' F',eJ X.K Z ol F' H' σ' δ->aW F F'->Dn.ct σ' H'
 |.ok (.ret d) δ=>∀v σ' H' F' owr,iF X.K Z owr rm d v F' H' σ' δ->aW F F'->Dn.rt v H'
 |.stuck=>False
def tS(X:Cx)(Z:dQ)(ow ow' ol ox:ZF)(rm:Nat)(f:M Fl):TS:=λDn σ H=>∃F δ,eJ X.K Z ow F H σ δ/\kS X Z ow' ol ox rm (f δ) F Dn
def NK(X:Cx)(Z:dQ)(ow ow' ol ox:ZF)(rm:Nat)(st:Stmt)(f:M Fl):Prop:=PS X st (tS X Z ow ow' ol ox rm f)
def QD(X:Cx)(Z:dQ)(ow ow' ol ox:ZF)(rm:Nat)(st:List Stmt)(f:M Fl):Prop:=JT X st (tS X Z ow ow' ol ox rm f)
section
variable{X:Cx}{Z:dQ}{ow ow' ow1 ol ox:ZF}{n rm:Nat}{pos:Pos}{e a b c:Expr}{es:List Expr}{f:M D}{st:Stmt}{sts:List Stmt}{u v:M Fl}{F F1:Hp}
def kS.mono{r:Res Fl}{Dn:DU}(h:kS X Z ow' ol ox rm r F Dn)(s:aW F F1):kS X Z ow' ol ox rm r F1 Dn:=by
 cases r with
 |ok fl δ=>
  cases fl with
  |next=>exact λσ' H' F' R s'=>h σ' H' F' R (s.trans' s')
  |brk=>exact λσ' H' F' R s'=>h σ' H' F' R (s.trans' s')
  |cont=>exact λσ' H' F' R s'=>h σ' H' F' R (s.trans' s')
  |ret d=>exact λv σ' H' F' owr R s'=>h v σ' H' F' owr R (s.trans' s')
 |stuck=>exact h
def cK:M Fl:=λδ=>.ok .next δ
def bL:QD X Z ow ow ol ox rm [] cK:=JT.mono aCJ λDn σ H h=>by
 let⟨F,δ,R,h⟩:=h;exact h σ H F R (aW.refl _)
def aQ(u v:M Fl):M Fl:=λδ=>(u δ).bind λfl δ1=>match fl with
 |.next=>v δ1
 |fl=>.ok fl δ1
def aE(h1:NK X Z ow ow1 ol ox rm st u)(h2:QD X Z ow1 ow' ol ox rm sts v):QD X Z ow ow' ol ox rm (st::sts) (aQ u v):=JT.mono (VJ h1 h2) λDn σ H h=>by
 let⟨F,δ,R,h⟩:=h;unfold aQ at h;refine⟨F,δ,R,?_⟩;cases e:u δ with
 |stuck=>rw[e]at h;exact h.elim
 |ok fl δ1=>
  rw[e]at h;simp![Res.bind]at h;cases fl with
  |next=>exact λσ' H' F' R' s'=>⟨F',δ1,R',h.mono s'⟩
  |brk=>exact h
  |cont=>exact h
  |ret d=>exact h
def aH(h1:NK X Z ow ow' ol ox rm st u):QD X Z ow ow' ol ox rm [st] u:=JT.mono (aCK h1) λDn σ H h=>h
def cA(f:M D):M Fl:=λδ=>(f δ).bind λd δ1=>.ok (.ret d) δ1
def bC(h:DE X Z ow rm e f):NK X Z ow ow' ol ox rm (.Return (some e) pos) (cA f):=PS.mono (aHL h) λDn σ H h=>by
 let⟨F,δ,R,h⟩:=h;unfold cA at h;refine⟨F,δ,R,?_⟩;cases e:f δ with
 |stuck=>rw[e]at h;exact h.elim
 |ok d δ1=>
  rw[e]at h;exact λv H' F' R' s'=>h v σ H' F' ow R' s'
def c7(f:M D):M Fl:=λδ=>(f δ).bind λ_ δ1=>.ok .next δ1
def cE(h:DE X Z ow n e f)(hs:↥(swapsWith e none pos.line X.env=pure false)):NK X Z ow ow ol ox rm (.Expr e pos) (c7 f):=PS.mono (aCL h hs) λDn σ H h=>by
 let⟨F,δ,R,h⟩:=h;unfold c7 at h;refine⟨F,δ,R,?_⟩;cases e:f δ with
 |stuck=>rw[e]at h;exact h.elim
 |ok d δ1=>
  rw[e]at h;exact λv H' F' R' s'=>h σ H' F' R'.rel s'
def dH(c:M Bool)(u v:M Fl):M Fl:=λδ=>(c δ).bind λb δ1=>if b=true then u δ1 else v δ1
def cN{k:M Bool}{sa sb:List Stmt}(hc:DT X Z ow c k)(ha:QD X Z ow ow' ol ox rm sa u)(hb:QD X Z ow ow' ol ox rm sb v):NK X Z ow ow' ol ox rm (.If c sa sb pos) (dH k u v):=PS.mono (aK4 hc ha hb) λDn σ H h=>by
 let⟨F,δ,R,h⟩:=h;unfold dH at h;refine⟨F,δ,R,?_⟩;cases e:k δ with
 |stuck=>rw[e]at h;exact h.elim
 |ok d δ1=>
  rw[e]at h;simp![Res.bind]at h;intro H1 F1 R1 s1;cases d with
  |true=>rw[Á rfl]at h⊢;exact⟨F1,δ1,R1,h.mono s1⟩
  |false=>rw[Ã Ý]at h⊢;exact⟨F1,δ1,R1,h.mono s1⟩
def eJ.freeze{H:Hp}{σ:St}{δ:DS}(i:Nat)(R:eJ X.K Z ow F H σ δ)(hi:i∉Z.ps):∃F',aW F F'/\eJ X.K Z (ow.set i 0) F' H σ δ:=let ⟨_,R⟩:=R;⟨_,qC,_,R.freeze i hi⟩
def bQ{i:Nat}{l:ZF}(h:l.contains i=false):i∉l:=λm=>by rw[List.contains_iff_mem.mpr m]at h;cases h
def iM(i:Nat)(h:QD X Z (ow.set i 0) ow' ol ox rm sts u)(hi:↥(Z.ps.contains i=false)):QD X Z ow ow' ol ox rm sts u:=JT.mono h λDn σ H h=>by
 let⟨F,δ,R,h⟩:=h;let⟨F',s,R'⟩:=R.freeze i (bQ hi);exact⟨F',δ,R',h.mono s⟩
def iF.store{i:Nat}{d:D}{v:V}{H:Hp}{σ:St}{δ:DS}(S:bH Z ow)(R:iF X.K Z ow n d v F H σ δ)(hi:i<δ.length)(hps:i∉Z.ps)(hl:i<ow.length):eJ X.K Z (ow.set i n) F H (σ.set i (some v)) (δ.set i (some d)):=by
 let⟨g,R,o⟩:=R;have i1:i<1000:=Ô hl S.ow;have hg:∀(a:Addr)(l:į),l.1≠i->l.1≠1000->g a=some l->(λb=>match g b with|some (j,p)=>if j=1000 then some (i,p)else if j=i then none else some (j,p)|none=>none:ZN) a=some l:=λa l h1 h2 e=>by
  let⟨j,p⟩:=l;dsimp only;rw[e];dsimp only;rw[Ã h2,Ã h1]
 refine⟨λb=>match g b with|some (j,p)=>if j=1000 then some (i,p)else if j=i then none else some (j,p)|none=>none,R.sub,R.f0,R.kept,R.new,R.there,λa j p e=>?_,by rw[à,à];exact R.len,λj hj=>?_,λj d' e=>?_⟩
 .cases q:g a with
  |none=>rw[q]at e;cases e
  |some l=>
   let⟨j',p'⟩:=l;rw[q]at e;have e:(if j'=1000 then some (i,p')else if j'=i then none else some (j',p'))=some (j,p):=e;split at e
   .rename_i z
    refine .inl ((R.lab a j' p' q).elim id λzQ=>by let⟨q',w⟩:=zQ;exact absurd (Z.wf a j' q' w) (by rw[z];exact S.ps))
   .split at e
    .cases e
    .cases e;exact R.lab a j p q
 .have ne:j≠i:=λz=>hps (by rw[<- z];exact hj)
  rw[Ü (Ö ne),Ð,Ü (Ö ne),<- Ð];exact R.par j hj
 .by_cases hj:j=i
  .subst hj
   rw[è hi]at e;cases e;refine⟨v,è (by rw[<- R.len];exact hi),?_⟩;have:(ow.set j n).getD j 0=n:=by rw[Ð,è hl];rfl
   rw[this];exact o.relab λa p e=>by rw[e];exact Á rfl
  .rw[Ü (Ö hj)]at e
   let⟨w,e1,o1⟩:=R.slot j d' e;refine⟨w,by rw[Ü (Ö hj)];exact e1,?_⟩;have:(ow.set i n).getD j 0=ow.getD j 0:=by rw[Ð,Ð,Ü (Ö hj)]
   rw[this];by_cases hz:ow.getD j 0=0
   .rw[hz]at o1⊢;exact o1
   .have j1:j<1000:=by
     by_cases hl:j<ow.length
     .exact Ô hl S.ow
     .exact absurd (by rw[Ð,Ú (by exact å.mp ‹_›)];rfl) hz
    exact o1.mono (aW.refl _) (λa l hl e=>hg a l (by rw[hl];exact hj) (by rw[hl];exact Ï ‹_›) e) (λ_ _ _ _ h=>h) λ_ _ _ _ _ h=>h
def bT(i:Nat)(f:M D):M Fl:=λδ=>(f δ).bind λd δ1=>if i<δ1.length then .ok .next (δ1.set i (some d))else .stuck
def AE{i:Nat}{Dn:DU}{σ:St}{H:Hp}(S:bH Z ow)(hps:i∉Z.ps)(hl:i<ow.length)(h:tS X Z ow (ow.set i n) ol ox rm (bT i f) Dn σ H):VO (tD X Z ow n f) (p8 i) Dn σ H:=by
 let⟨F,δ,R,h⟩:=h;unfold bT at h;refine⟨F,δ,R,?_⟩;cases e:f δ with
 |stuck=>rw[e]at h;exact h.elim
 |ok d δ1=>
  rw[e]at h;simp![Res.bind]at h;intro v H1 F1 R1 s1;split at h
  .rename_i hi
   exact h _ H1 F1 (R1.store S hi hps hl) s1
  .exact h.elim
def aX(i:Nat){x:Str}{pos':Pos}(S:bH Z ow)(h:DE X Z ow n e f)(hN:X.N.Nodup)(hi:↥(X.N[i]?=some x))(hx:#v[ď X.env.scope x])(hps:↥(Z.ps.contains i=false))(hl:⇑(i<ow.length))(hs:↥(swapsWith e (some (.Name x pos')) pos.line X.env=pure false))(hf:X.fn x=true\/X.env.scope.names.lookup x=some .local:=by first|exact .inl rfl|exact .inr rfl|assumption):
  NK X Z ow (ow.set i n) ol ox rm (.Assign [.Name x pos'] e pos) (bT i f):=PS.mono (aHR hN hi hx h hs hf) λDn σ H h=>AE S (bQ hps) hl h
end
def k5(set:D->DS->Option DS)(body:M Fl):ZG->M Fl
 |[]=>λδ=>.ok .next δ
 |d::ds=>λδ=>match set d δ with
  |none=>.stuck
  |some δ1=>(body δ1).bind λfl δ2=>match fl with
   |.next=>k5 set body ds δ2
   |.cont=>k5 set body ds δ2
   |.brk=>.ok .next δ2
   |.ret d=>.ok (.ret d) δ2
def Ġ(X:Cx)(Z:dQ)(ow:ZF)(g:TG)(set:D->DS->Option DS):Prop:=∀(F H:Hp)(σ:St)(δ δ':DS)(d:D)(v:V)(Q:St->Hp->Prop),eJ X.K Z ow F H σ δ->cI X.K F d v->set d δ=some δ'->(∀σ',eJ X.K Z ow F H σ' δ'->Q σ' H)->g v σ H Q
def cH(i:Nat):D->DS->Option DS:=λd δ=>if i<δ.length then some (δ.set i (some d))else none
def gQ(is:ZF):D->DS->Option DS:=λd δ=>match d with
 |.tuple ds=>if ds.length=is.length then (is.zip ds).foldl (λ(o:Option DS)(p:Nat×D)=>o.bind λδ=>cH p.1 p.2 δ) (some δ)else none
 |_=>none
section
variable{X:Cx}{Z:dQ}{ow ow' ol ox:ZF}{n rm:Nat}{pos:Pos}{e tg:Expr}{f:M D}{sts:List Stmt}{u:M Fl}{g:TG}{set:D->DS->Option DS}
def Β{i:Nat}(h:ow.getD i 0=0):ow.set i 0=ow:=by
 by_cases hi:i<ow.length
 .apply List.ext_getElem?
  intro j;by_cases hj:j=i
  .subst hj
   rw[è hi];rw[Ð,Ç hi]at h;rw[Ç hi];exact congrArg some h.symm
  .rw[Ü (Ö hj)]
 .exact List.set_eq_of_length_le (by exact å.mp ‹_›)
def fY{i:Nat}(S:bH Z ow)(hps:i∉Z.ps)(hl:i<ow.length)(h0:ow.getD i 0=0):Ġ X Z ow (p8 i) (cH i):=λF H σ δ δ' d v Q R r e q=>by
 unfold cH at e;split at e
 .rename_i hi
  cases e;have:=(R.x r).store S hi hps hl;rw[Β h0]at this;exact q _ this
 .cases e
def E5(S:bH Z ow):∀(is:ZF)(t:VM),(∀i∈is,i∉Z.ps/\i<ow.length/\ow.getD i 0=0)->t=is.foldr (λi u=>J3 (p8 i) u) VN ->
  ∀(F H:Hp)(σ:St)(δ δ':DS)(ds:ZG)(vs:List V)(Q:St->Hp->Prop),eJ X.K Z ow F H σ δ->aJ X.K F ds vs->ds.length=is.length->(is.zip ds).foldl (λ(o:Option DS)(p:Nat×D)=>o.bind λδ=>cH p.1 p.2 δ) (some δ)=some δ' ->
   (∀σ',eJ X.K Z ow F H σ' δ'->Q σ' H)->t vs σ H Q
 |[]=>by
  intro t _ ht F H σ δ δ' ds vs Q R r hl e q;cases ds with
  |cons _ _=>cases hl
  |nil=>
   unfold aJ at r;subst ht r;cases e;exact⟨rfl,q σ R⟩
 |i::is=>by
  intro t hi ht F H σ δ δ' ds vs Q R r hl e q;cases ds with
  |nil=>cases hl
  |cons d ds=>
   unfold aJ at r;let⟨x,rest,rfl,rx,r⟩:=r;subst ht;rw[Ù,List.foldl_cons]at e;have no:∀(l:List (Nat×D)),l.foldl (λ(o:Option DS)(p:Nat×D)=>o.bind λδ=>cH p.1 p.2 δ) none=none:=λl=>by
    induction l with
    |nil=>rfl
    |cons p l ih=>rw[List.foldl_cons];exact ih
   cases e1:cH i d δ with
   |none=>
    rw[show ((some δ:Option DS).bind λδ=>cH (i,d).1 (i,d).2 δ)=none from e1,no]at e;cases e
   |some δ1=>
    rw[show ((some δ:Option DS).bind λδ=>cH (i,d).1 (i,d).2 δ)=some δ1 from e1]at e;let⟨h1,h2,h3⟩:=hi i Ì;refine⟨x,rest,rfl,fY S h1 h2 h3 F H σ δ δ1 d x _ R rx e1 λσ' R'=>?_⟩;exact E5 S is _ (λj hj=>hi j (É _ hj)) rfl F H σ' δ1 δ' ds rest Q R' r (by simpa using hl) e q
def f7{is:ZF}{t:VM}(S:bH Z ow)(hi:∀i∈is,i∉Z.ps/\i<ow.length/\ow.getD i 0=0)(ht:t=is.foldr (λi u=>J3 (p8 i) u) VN):Ġ X Z ow (Ň X.K is.length t) (gQ is):=λF H σ δ δ' d v Q R r e q=>by
 unfold gQ at e;cases d with
 |tuple ds=>
  dsimp only at e;split at e
  .rename_i hl
   unfold cI at r;let⟨a,xs,rfl,hq,ra⟩:=r;exact⟨a,xs,rfl,R.sub.seqT hq,by rw[<- ra.len];exact hl,E5 S is t hi ht F H σ δ δ' ds xs Q R ra hl e q⟩
  .cases e
 |_=>cases e
def aC7{Dn:DU}{F F1 H:Hp}{σ:St}{δ:DS}{ds:ZG}{k:Nat}{d:D}{x:V}(hg:Ġ X Z ow g set)(R:eJ X.K Z ow F H σ δ)(s1:aW F1 F)(hk:kS X Z ow ol ox rm (k5 set u (ds.drop k) δ) F Dn)(hd:ds[k]?=some d)(rx:cI X.K F d x)(Pv:Nat->St->Hp->Prop)(hP:∀k σ H F δ,eJ X.K Z ow F H σ δ->aW F1 F->kS X Z ow ol ox rm (k5 set u (ds.drop k) δ) F Dn->Pv k σ H):
  g x σ H λσ2 H2=>tS X Z ow ow ow ox rm u {Dn with nx:=Pv (k+1),ct:=Pv (k+1),bk:=Dn.nx} σ2 H2:=by
 have e:ds.drop k=d::ds.drop (k+1):=by
  let⟨hlt,rfl⟩:=Ó.mp hd;exact ð hlt
 rw[e]at hk;unfold k5 at hk;cases e1:set d δ with
 |none=>simp![e1]at hk;exact hk.elim
 |some δ1=>
  simp![e1]at hk;refine hg F H σ δ δ1 d x _ R rx e1 λσ' R'=>⟨F,δ1,R',?_⟩;cases e2:u δ1 with
  |stuck=>rw[e2]at hk;exact hk.elim
  |ok fl δ2=>
   rw[e2]at hk;simp![Res.bind]at hk;cases fl with
   |next=>exact λσ2 H2 F2 R2 s2=>hP _ σ2 H2 F2 δ2 R2 (s1.trans' s2) (hk.mono s2)
   |cont=>exact λσ2 H2 F2 R2 s2=>hP _ σ2 H2 F2 δ2 R2 (s1.trans' s2) (hk.mono s2)
   |brk=>exact hk
   |ret d=>exact hk
def aOM(K:ZC)(tl:TE):TI:=λσ H R=>tl σ H λx H1=>(∃a,x=.ref a/\(∃xs,gM K H1 a xs)/\R (ŉ K a) H1)\/(∃a,x=.ref a/\(∃xs,tX K H1 a xs)/\R (Ŋ K a) H1)
def aIE{l:Expr}{tl:TE}(hl:PE X l tl):PI X tg l (aOM X.K tl):=by
 intro U s σ H R I h;refine dL (hl U s σ H _ I h) λv s1 zQ=>?_;let⟨x,H1,I1,r1,q1⟩:=zQ;rcases q1 with ⟨a,e,⟨xs,hq⟩,q⟩|⟨a,e,⟨xs,hq⟩,q⟩
 .subst e
  cases r1;let⟨its,rv,p,hz⟩:=I1.list hq;refine wpAny_pyIter_list p.isList ?_;refine⟨s1.heap.objs.size,[s1.heap.objs.size],_,_,H1,rfl,I1.kept (t':=s1.toks) λb o e=>Heap.get?_push_of_some _ e,SS a _,⟨_,Heap.get?_push_size _ rfl,rfl,rfl⟩,λb hb=>?_,q⟩;have e:b=s1.heap.objs.size:=by simpa using hb
  subst e;exact I1.fpOk (È _) (I1.hok.fresh (È _))
 .subst e
  cases r1;let⟨its,rv,p,hz⟩:=I1.tuple hq;refine wpAny_pyIter_tuple (show s1.heap.IsTuple a its.toArray from p) ?_;refine⟨s1.heap.objs.size,[s1.heap.objs.size],_,_,H1,rfl,I1.kept (t':=s1.toks) λb o e=>Heap.get?_push_of_some _ e,M4 a _,⟨_,Heap.get?_push_size _ rfl,rfl,rfl⟩,λb hb=>?_,q⟩;have e:b=s1.heap.objs.size:=by simpa using hb
  subst e;exact I1.fpOk (È _) (I1.hok.fresh (È _))
def zL(lo:Int)(n:Nat):ZG:=(List.range n).map λ(k:Nat)=>PyData.int (lo+(k:Int))
def QE{lo:Int}{n k:Nat}(h:k<n):(zL lo n)[k]?=some (.int (lo+(k:Int))):=by
 unfold zL;rw[Ò,List.getElem?_range h];rfl
def nV{lo:Int}{n:Nat}:(zL lo n).length=n:=by unfold zL;rw[Â,List.length_range]
def GY:ZG->Option (Int×Nat)
 |[.int j]=>if -(2^62)<=j/\j<2^62 then some (0,j.toNat)else none
 |[.int i,.int j]=>if -(2^62)<=i/\i<2^62/\-(2^62)<=j/\j<2^62 then some (i,(j-i).toNat)else none
 |_=>none
def E6:∀{fs:List (M D)}{δ δ1:DS}{ds:ZG},bO fs δ=.ok ds δ1->ds.length=fs.length
 |[]=>by rename_i δ δ1 ds;intro h;cases h;rfl
 |f::fs=>by
  rename_i δ δ1 ds;intro h;unfold bO at h;cases e:f δ with
  |stuck=>rw[e]at h;cases h
  |ok d δ2=>
   rw[e]at h;simp![Res.bind]at h;cases e2:bO fs δ2 with
   |stuck=>rw[e2]at h;cases h
   |ok ds' δ3=>
    rw[e2]at h;cases h;rw[Ë,Ë,E6 e2]
def WE{ds:ZG}{lo:Int}{n:Nat}(h:GY ds=some (lo,n))(hl:ds.length=1):∃j:Int,ds=[.int j]/\-(2^62)<=j/\j<2^62/\lo=0/\n=j.toNat:=by
 rcases ds with _|⟨d,_|⟨_,_⟩⟩<;>try cases hl
 cases d<;>try cases h
 unfold GY at h;dsimp only at h;split at h
 .rename_i hj;cases h;exact⟨_,rfl,hj.1,hj.2,rfl,rfl⟩
 .cases h
def WF{K:ZC}{F:Hp}{j:Int}{vs:List V}(h:aJ K F [.int j] vs):vs=[.int j]:=by
 unfold aJ at h;let⟨x,r,rfl,rx,h⟩:=h;unfold aJ at h;unfold cI at rx;rw[h,rx]
def Ĳ(c:M Bool)(u:M Fl):Nat->M Fl
 |0=>λ_=>.stuck
 |n+1=>λδ=>(c δ).bind λb δ1=>if b=true then (u δ1).bind λfl δ2=>(match fl with
   |.next=>Ĳ c u n δ2
   |.cont=>Ĳ c u n δ2
   |.brk=>.ok .next δ2
   |.ret d=>.ok (.ret d) δ2)else .ok .next δ1
def aIF(c:M Bool)(u:M Fl):M Fl:=λδ=>open Classical in if h:∃n,Ĳ c u n δ≠.stuck then Ĳ c u h.choose δ else .stuck
end
structure ĳ(K:ZC)(ps owp:ZF)(rm:Nat)(F H:Hp)(g:ZN)(vs:List V)(F' H':Hp)(g':ZN)(outs:ZG)(d:D)(v:V):Prop where
 s:aW F F'
 sub:aW F' H'
 kept:∀b o,g b=none->H b=some o->H' b=some o
 new:∀a,F a=none->H a≠none->F' a=none
 there:∀b,H b≠none->H' b≠none
 lab:∀a i p,g' a=some (i,p)->H a=none\/∃q,g a=some (i,q)
 ret:cC K F' H' g' 1000 rm [] d v
 olen:outs.length=ps.length
 out:∀(k i:Nat)(d':D),ps[k]?=some i->outs[k]?=some d'->∃v',vs[i]?=some v'/\cC K F' H' g' i (owp.getD i 0) [] d' v'
def aON(K:ZC)(ps owp:ZF)(rm:Nat)(F H:Hp)(g:ZN)(vs:List V)(Q:VK)(E:XK):Res D->Prop
 |.ok d outs=>∀v H' F' g',ĳ K ps owp rm F H g vs F' H' g' (outs.filterMap id) d v->Q v H'
 |.stuck=>False
def Œ(K:ZC)(ps owp:ZF)(rm:Nat)(f:ZG->Res D):Sp:=λvs H Q E=>∃F g ds,õ K F/\aW F H/\ds.length=vs.length/\(∀a i p,g a=some (i,p)->i∈ps) /\
 (∀(i:Nat)(d:D)(v:V),ds[i]?=some d->vs[i]?=some v->cC K F H g i (owp.getD i 0) [] d v)/\aON K ps owp rm F H g vs Q E (f ds)
def E7(P:Program)(w:World)(K:ZC):SY:=λ_ _ _ _ _ _=>False
def f8(δ:DS):ZF->Option (ZG)
 |[]=>some []
 |i::is=>match δ[i]?,f8 δ is with
  |some (some d),some ds=>some (d::ds)
  |_,_=>none
def wL{δ:DS}:∀{is:ZF}{ds:ZG},f8 δ is=some ds->ds.length=is.length/\∀(k i:Nat)(d:D),is[k]?=some i->ds[k]?=some d->δ[i]?=some (some d)
 |[]=>by rename_i ds;intro h;cases h;exact⟨rfl,λk i d e=>by simp at e⟩
 |i::is=>by
  rename_i ds;intro h;unfold f8 at h;split at h
  .rename_i d ds' e1 e2
   cases h;let⟨h1,h2⟩:=wL e2;refine⟨by simp[h1],λk j d' q1 q2=>?_⟩;cases k with
   |zero=>cases q1;cases q2;exact e1
   |succ k=>exact h2 k j d' (by simpa using q1) (by simpa using q2)
  .cases h
def bK(m:Nat)(ps:ZF)(rm:Nat)(body:M Fl):ZG->Res D:=λds=>match body (ds.map some++List.replicate (m-ds.length) none)with
 |.ok (.ret d) δ=>(match f8 δ ps with
  |some outs=>.ok d (outs.map some)
  |none=>.stuck)
 |.ok .next δ=>if rm=0 then (match f8 δ ps with
  |some outs=>.ok .none (outs.map some)
  |none=>.stuck)else .stuck
 |.ok _ _=>.stuck
 |.stuck=>.stuck
section
variable{P:Program}{w:World}{K:ZC}{mg:ZD}{base:Heap}
def VA.okG{CX:SY}{x qual:Str}{st:Stmt}{f:Addr}{fd:FuncData}{N ps:ZE}{k:Nat}{sp:Sp}(F:VA K x qual st f fd)(S:aS N ps (aL st))(len:∀vs H Q E,sp vs H Q E->vs.length=ps.length)(hbody:∀(cdv:Value)(_:fd.code=cdv)(A:Around)(outer:List Env)(s:Shared)(H:Hp)(vs:List V)(Q:VK)(E:XK),gN k (A.deeper (envOfC qual (aL st) s.heap.objs.size f cdv))->sp vs H Q E ->
   ∃t,JT (wG CX P w K mg base N qual (aL st) f cdv A outer s H E) (fH st) t/\t {nx:=λ_ H'=>Q .non H',rt:=Q} (f6 N vs) H):sP P w K mg base CX (k+1) f fd ps sp:=by
 let⟨oc,od,kV,doc,pm,an,cdv,ct,osl,rfl,lk,hcd⟩:=F.ex;exact aLD lk hcd S len λA outer s H vs Q E hr hsp=>hbody cdv rfl A outer s H vs Q E hr hsp
def VA.okD{x qual:Str}{st:Stmt}{f:Addr}{fd:FuncData}{N pn:ZE}{k:Nat}{ps owp:ZF}{rm:Nat}{body:M Fl}(Fn:VA K x qual st f fd)(S:aS N pn (aL st))(hN:owp.length=N.length)(hb:∀(cdv:Value)(_:fd.code=cdv)(A:Around)(outer:List Env)(s:Shared)(H:Hp)(E:XK)(F0:Hp)(g0:ZN)(σ0:St)(wf:∀a i q,g0 a=some (i,q)->i∈ps),gN k (A.deeper (envOfC qual (aL st) s.heap.objs.size f cdv)) ->
   ∃ow',QD (wG (E7 P w K) P w K mg base N qual (aL st) f cdv A outer s H E) ⟨F0,H,g0,ps,σ0,owp,wf⟩ owp ow' ow' ow' rm (fH st) body):sP P w K mg base (E7 P w K) (k+1) f fd pn (λvs H Q E=>vs.length=pn.length/\Œ K ps owp rm (bK N.length ps rm body) vs H Q E):=by
 refine Fn.okG S (λvs H Q E h=>h.1) λcdv ec A outer s H vs Q E hr h=>?_;let⟨hl,F,g,ds,hL,hs,hd,hg,hv,q⟩:=h;let Z:dQ:=⟨F,H,g,ps,f6 N vs,owp,hg⟩;let⟨ow',hB⟩:=hb cdv ec A outer s H E F g (f6 N vs) hg hr;refine⟨_,hB,F,ds.map some++List.replicate (N.length-ds.length) none,⟨g,hs,⟨hL,aW.refl _⟩,λ_ _ _ e=>e,λ_ h _=>h,λ_ h=>h,λa i p e=>.inr ⟨p,e⟩,?_,λi _=>⟨rfl,rfl⟩,λi d' e=>?_⟩,?_⟩
 .have hpl:pn.length<=N.length:=by have:=congrArg List.length S.pre;rw[ì]at this;lia
  unfold f6;simp![Î,Â,é,hd]
 .have hi:i<ds.length:=by
   by_cases hi:i<ds.length
   .exact hi
   .rw[Þ (by simpa using hi),ÿ]at e
    split at e<;>cases e
  rw[ã (by simpa using hi),Ò,Ç hi]at e;have ed:ds[i]?=some d':=by
   rw[Ç hi];simpa using e
  have hi':i<vs.length:=by exact þ ‹_› ‹_›
  refine⟨vs[i],?_,hv i d' _ ed (Ç hi')⟩;unfold f6;rw[ã (by simpa using hi'),Ò,Ç hi'];rfl
 .have fin:∀{rm:Nat}{d0:D}{δ:DS}{v:V}{σ':St}{H' F':Hp}{owr:ZF}{os:ZG},iF K Z owr rm d0 v F' H' σ' δ->f8 δ ps=some os->∃g',ĳ K ps owp rm F H g vs F' H' g' ((os.map some).filterMap id) d0 v:=λ{rm d0 δ v σ' H' F' owr os}R ho=>by
   have eo:(os.map some).filterMap id=os:=by rw[List.filterMap_map];exact List.filterMap_some
   rw[eo];let⟨g',R,o⟩:=R;let⟨ol,oa⟩:=wL ho;refine⟨g',R.f0.2,R.sub,R.kept,R.new,R.there,R.lab,o,ol,λk i d' h1 h2=>?_⟩;let⟨v',e1,o1⟩:=R.slot i d' (oa k i d' h1 h2);let⟨p1,p2⟩:=R.par i (ä h1);rw[show Z.owp=owp from rfl]at p2;rw[p2]at o1;refine⟨v',?_,o1⟩;rw[p1]at e1;have e1:(f6 N vs)[i]?=some (some v'):=e1;unfold f6 at e1;by_cases hi:i<vs.length
   .rw[ã (by simpa using hi),Ò,Ç hi]at e1
    rw[Ç hi];simpa using e1
   .rw[Þ (by simpa using hi),ÿ]at e1
    split at e1<;>cases e1
  unfold bK at q;cases e:body (ds.map some++List.replicate (N.length-ds.length) none)with
  |stuck=>rw[e]at q;exact q.elim
  |ok fl δ=>
   rw[e]at q;cases fl with
   |brk=>exact q.elim
   |cont=>exact q.elim
   |ret d0=>
    dsimp only at q;intro v σ' H' F' owr R _;cases ho:f8 δ ps with
    |none=>rw[ho]at q;exact q.elim
    |some os=>
     rw[ho]at q;let⟨g',T⟩:=fin R ho;exact q v H' F' g' T
   |next=>
    dsimp only at q;intro σ' H' F' R _;by_cases hrm:rm=0
    .rw[Á hrm]at q
     cases ho:f8 δ ps with
     |none=>rw[ho]at q;exact q.elim
     |some os=>
      rw[ho]at q;let⟨g',R⟩:=R;have RX:iF K Z ow' rm .none .non F' H' σ' δ:=⟨g',R,by rw[hrm];show cI K F' .none .non;unfold cI;rfl⟩;let⟨g2,T⟩:=fin RX ho;exact q .non H' F' g2 T
    .rw[Ã hrm]at q;exact q.elim
end
def bP:List Arg->ZF
 |[]=>[]
 |.own i::as=>i::bP as
 |.val _::as=>bP as
def g7:Nat->List Arg->ZF
 |_,[]=>[]
 |k,.own _::as=>k::g7 (k+1) as
 |k,.val _::as=>g7 (k+1) as
def fO(δ:DS):List Arg->List (ZJ)->Option (ZG)
 |[],[]=>some []
 |.own i::as,none::ds=>match δ[i]?,fO δ as ds with
  |some (some d),some r=>some (d::r)
  |_,_=>none
 |.val _::as,some d::ds=>(fO δ as ds).map (d::·)
 |_,_=>none
def eL:ZF->ZG->DS->DS
 |i::is,d::ds,δ=>eL is ds (δ.set i (some d))
 |_,_,δ=>δ
def aM(fn:ZG->Res D)(as:List Arg):M D:=λδ=>(cZ as δ).bind λods δ1=>match fO δ1 as ods with
 |none=>.stuck
 |some ds=>match fn ds with
  |.ok d outs=>.ok d (eL (bP as) (outs.filterMap id) δ1)
  |.stuck=>.stuck
def k6:Nat->List Arg->Nat->Option Nat
 |_,[],_=>none
 |k,.own i::as,j=>if i=j then some k else k6 (k+1) as j
 |k,.val _::as,j=>k6 (k+1) as j
def nW:∀{k:Nat}{as:List Arg}{i m:Nat},k6 k as i=some m->∃q,as[q]?=some (.own i)/\m=k+q/\m∈g7 k as
 |k,.own s::as,i,m,h=>by
  unfold k6 at h;split at h
  .rename_i e;cases h;exact⟨0,by rw[e];rfl,rfl,Ì⟩
  .obtain⟨q,e1,e2,e3⟩:=nW h
   exact⟨q+1,e1,∅,É _ e3⟩
 |k,.val _::as,i,m,h=>by
  let⟨q,e1,e2,e3⟩:=nW (k:=k+1) (as:=as) h;exact⟨q+1,e1,∅,e3⟩
def wM:∀{k:Nat}{as:List Arg}{t m i:Nat},(g7 k as)[t]?=some m->(bP as)[t]?=some i->as[m-k]?=some (.own i)/\k<=m
 |k,.own s::as,0,m,i,h1,h2=>by cases h1;cases h2;exact⟨by rw[Nat.sub_self];rfl,È _⟩
 |k,.own s::as,t+1,m,i,h1,h2=>by
  let⟨e1,e2⟩:=wM (k:=k+1) (as:=as) (t:=t) h1 h2;exact⟨by rw[show m-k=(m-(k+1))+1 by lia];exact e1,by exact Nat.le_of_lt ‹_›⟩
 |k,.val _::as,t,m,i,h1,h2=>by
  let⟨e1,e2⟩:=wM (k:=k+1) (as:=as) (t:=t) h1 h2;exact⟨by rw[show m-k=(m-(k+1))+1 by lia];exact e1,by exact Nat.le_of_lt ‹_›⟩
def u6:∀{as:List Arg}{q i:Nat},as[q]?=some (.own i)->i∈bP as
 |.own s::as,0,i,h=>by cases h;exact Ì
 |.own s::as,q+1,i,h=>É _ (u6 (as:=as) (q:=q) h)
 |.val _::as,0,i,h=>by cases h
 |.val _::as,q+1,i,h=>u6 (as:=as) (q:=q) h
def wN:∀{k:Nat}{as:List Arg}{q i:Nat},(bP as).Nodup->as[q]?=some (.own i)->k6 k as i=some (k+q)
 |k,.own s::as,0,i,_,h=>by cases h;unfold k6;rw[Á rfl];rfl
 |k,.own s::as,q+1,i,nd,h=>by
  have nd':=Ā.mp (show (s::bP as).Nodup from nd);have h:as[q]?=some (.own i):=h;have hm:i∈bP as:=u6 h;have ne:¬s=i:=λe=>nd'.1 (by rw[e];exact hm);unfold k6;rw[Ã ne,wN nd'.2 h];congr 1;lia
 |k,.val _::as,0,i,_,h=>by cases h
 |k,.val _::as,q+1,i,nd,h=>by
  have e:k6 (k+1) as i=some (k+1+q):=wN (q:=q) nd h;show k6 (k+1) as i=_;rw[e];congr 1;lia
def nX{δ:DS}{K:ZC}{F:Hp}{σ:St}:∀{as:List Arg}{ods:List (ZJ)}{ds:ZG}{vs:List V},fO δ as ods=some ds->u5 K F σ as ods vs->ds.length=as.length/\vs.length=as.length /\
  ∀(q:Nat)(d:D)(v:V),ds[q]?=some d->vs[q]?=some v->(∃i,as[q]?=some (.own i)/\δ[i]?=some (some d)/\σ[i]?=some (some v))\/((∃f,as[q]?=some (.val f))/\cI K F d v)
 |[],[],ds,[],h,_=>by cases h;exact⟨rfl,rfl,λq d v e=>by simp at e⟩
 |.own i::as,none::ods,ds,v::vs,h,⟨z1,z2⟩=>by
  unfold fO at h;split at h
  .rename_i d r e1 e2
   cases h;let⟨h1,h2,h3⟩:=nX e2 z2;refine⟨by simp[h1],by simp[h2],λq d' v' q1 q2=>?_⟩;cases q with
   |zero=>cases q1;cases q2;exact .inl ⟨i,rfl,e1,z1⟩
   |succ q=>exact h3 q d' v' q1 q2
  .cases h
 |.val f::as,some d::ods,ds,v::vs,h,⟨z1,z2⟩=>by
  unfold fO at h;cases e:fO δ as ods with
  |none=>rw[e]at h;cases h
  |some r=>
   rw[e]at h;cases h;let⟨h1,h2,h3⟩:=nX e z2;refine⟨by simp[h1],by simp[h2],λq d' v' q1 q2=>?_⟩;cases q with
   |zero=>cases q1;cases q2;exact .inr ⟨⟨f,rfl⟩,z1⟩
   |succ q=>exact h3 q d' v' q1 q2
def yS:∀{is:ZF}{ds:ZG}{δ:DS},(eL is ds δ).length=δ.length
 |[],_,_=>by unfold eL;rfl
 |_::_,[],_=>by unfold eL;rfl
 |i::is,d::ds,δ=>by
  unfold eL;rw[yS,à]
def qE:∀{is:ZF}{ds:ZG}{δ:DS}{j:Nat},j∉is->(eL is ds δ)[j]?=δ[j]?
 |[],_=>by intro _;unfold eL;rfl
 |_::_,[]=>by intro _;unfold eL;rfl
 |i::is,d::ds=>by
  rename_i δ j;intro h;unfold eL;rw[qE λm=>h (É _ m),Ü λe=>h (by rw[e];exact Ì)]
def A5:∀{is:ZF}{ds:ZG}{δ:DS}{j:Nat}{d:D},is.Nodup->is.length=ds.length->j∈is->(eL is ds δ)[j]?=some (some d)->∃t:Nat,is[t]?=some j/\ds[t]?=some d
 |i::is,d::ds,δ,j,d',nd,hl,hm,h=>by
  unfold eL at h;have nd:=Ā.mp nd;by_cases e:j=i
  .subst e
   rw[qE nd.1,List.getElem?_set]at h;split at h
   .split at h
    .cases h;exact⟨0,rfl,rfl⟩
    .cases h
   .rename_i z;exact absurd rfl z
  .obtain⟨t,t1,t2⟩:=A5 nd.2 (by simpa using hl) ((Å.mp hm).resolve_left e) h
   exact⟨t+1,t1,t2⟩
section
variable{X:Cx}{Z:dQ}{ow:ZF}{n:Nat}{pos:Pos}{as:List Arg}{F H:Hp}{σ:St}{δ:DS}{g:ZN}
def GZ(as:List Arg)(g:ZN):ZN:=λa=>match g a with
 |some (i,p)=>(k6 0 as i).map λj=>(j,p)
 |none=>none
def WG(as:List Arg)(g g':ZN):ZN:=λa=>match g' a with
 |some (j,p)=>if j=1000 then some (1000,p)else (match as[j]? with|some (.own i)=>some (i,p)|_=>none)
 |none=>match g a with
  |some (i,p)=>if i=1000\/(k6 0 as i).isSome=true then none else some (i,p)
  |none=>none
def aLS{a:Addr}{i j:Nat}{p:ZF}(h:g a=some (i,p))(e:k6 0 as i=some j):GZ as g a=some (j,p):=by
 unfold GZ;rw[h];dsimp only;rw[e];rfl
def QF{a:Addr}{j:Nat}{p:ZF}(h:GZ as g a=some (j,p)):∃i,g a=some (i,p)/\k6 0 as i=some j:=by
 unfold GZ at h;cases e:g a with
 |none=>rw[e]at h;cases h
 |some l=>
  let⟨i,q⟩:=l;rw[e]at h;dsimp only at h;cases e2:k6 0 as i with
  |none=>rw[e2]at h;cases h
  |some m=>rw[e2]at h;cases h;exact⟨i,rfl,e2⟩
def WH{ps owp:ZF}{rm:Nat}{ods:List (ZJ)}{ds:ZG}{vs:List V}{d:D}{outs:ZG}{v:V}{F' H':Hp}{g':ZN}(S:bH Z ow)(R:fN X.K Z ow g F H σ δ)(hA:u5 X.K F σ as ods vs)(hf:fO δ as ods=some ds)(hps:g7 0 as=ps)(nd:(bP as).Nodup)(hm:∀q i,as[q]?=some (.own i)->owp.getD q 0=ow.getD i 0)(hlt:as.length<=1000)(T:ĳ X.K ps owp rm F H (GZ as g) vs F' H' g' outs d v):iF X.K Z ow rm d v F' H' σ (eL (bP as) outs δ):=by
 let⟨l1,l2,hat⟩:=nX hf hA;have keepOut:∀{a:Addr}{i:Nat}{p:ZF},g a=some (i,p)->i∉bP as->GZ as g a=none:=λ{a i p}e hi=>by
  cases e1:GZ as g a with
  |none=>rfl
  |some l=>
   let⟨j,r⟩:=l;let⟨i',e2,e3⟩:=QF e1;rw[e]at e2;cases e2;let⟨q,e4,_⟩:=nW e3;exact absurd (u6 e4) hi
 have h0:∀a,H a=none->Z.H0 a=none:=λa e=>by
  cases e1:Z.H0 a with
  |none=>rfl
  |some o=>exact absurd e (R.there a (by rw[e1];simp))
 refine⟨WG as g g',⟨T.sub,R.f0.trans' T.s,λb o n e=>?_,λa z1 z2=>T.new a (R.new a z1 z2) (R.there a z2),λb z=>T.there b (R.there b z),λa i p e=>?_,by rw[yS];exact R.len,R.par,λi d' e=>?_⟩,?_⟩
 .refine T.kept b o ?_ (R.kept b o n e)
  cases e1:GZ as g b with
  |none=>rfl
  |some l=>
   let⟨j,r⟩:=l;let⟨i',e2,e3⟩:=QF e1;rcases R.lab b i' r e2 with z|⟨q',z⟩
   .rw[z]at e;cases e
   .rw[z]at n;cases n
 .unfold WG at e
  cases e1:g' a with
  |some l=>
   let⟨j,r⟩:=l;rw[e1]at e;dsimp only at e;rcases T.lab a j r e1 with z|⟨q',z⟩
   .exact .inl (h0 a z)
   .obtain⟨i',z1,z2⟩:=QF z
    let⟨q2,z3,z4,_⟩:=nW z2;have:j=q2:=by lia
    subst this;have hj:j≠1000:=λw=>by
     have:=(Ó.mp z3).1;lia
    rw[Ã hj,z3]at e;cases e;exact R.lab a i q' z1
  |none=>
   rw[e1]at e;dsimp only at e;cases e2:g a with
   |none=>rw[e2]at e;cases e
   |some l=>
    let⟨j,r⟩:=l;rw[e2]at e;dsimp only at e;split at e
    .cases e
    .cases e;exact R.lab a i p e2
 .by_cases hi:i∈bP as
  .have hl:(bP as).length=outs.length:=by
    rw[T.olen,<- hps];have:∀(k:Nat)(as:List Arg),(bP as).length=(g7 k as).length:=by
     intro k as
     induction as generalizing k with
     |nil=>rfl
     |cons a as ih=>
      cases a with
      |own i=>exact congrArg Nat.succ (ih (k+1))
      |val f=>exact ih (k+1)
    exact this 0 as
   let⟨t,t1,t2⟩:=A5 nd hl hi e;have hpos:∃m,ps[t]?=some m:=by
    have:t<ps.length:=by rw[<- T.olen];exact(Ó.mp t2).1
    exact⟨ps[t],Ç this⟩
   let⟨m,hm1⟩:=hpos;let⟨v',o1,o2⟩:=T.out t m d' hm1 t2;have e3:=(wM (k:=0) (by rw[hps];exact hm1) t1).1;rw[Nat.sub_zero]at e3;have hlm:m<ds.length:=by
    have:=(Ó.mp e3).1;exact þ ‹_› (Eq.symm ‹_›)
   rcases hat m ds[m] v' (Ç hlm) o1 with ⟨s,a1,a2,a3⟩|⟨⟨f,a1⟩,a2⟩
   .rw[e3]at a1;cases a1
    refine⟨v',a3,?_⟩;rw[hm m i e3]at o2;refine o2.relab λa p e4=>?_;unfold WG;rw[e4];dsimp only;have hj:m≠1000:=λw=>by
     have:=(Ó.mp e3).1;lia
    rw[Ã hj,e3]
   .rw[e3]at a1;cases a1
  .rw[qE hi]at e
   let⟨w,w1,o⟩:=R.slot i d' e;refine⟨w,w1,?_⟩;by_cases hz:ow.getD i 0=0
   .rw[hz]at o⊢;exact T.s.rep _ _ o
   .have i1:i<1000:=by
     by_cases hl:i<ow.length
     .exact Ô hl S.ow
     .exact absurd (by rw[Ð,Ú (by exact å.mp ‹_›)];rfl) hz
    refine cC.keepJ T.s (λa q u e3 e4 e5=>?_) o;have gn:=keepOut e3 hi;have g'n:g' a=none:=by
     cases e7:g' a with
     |none=>rfl
     |some l=>
      let⟨j,r⟩:=l;rcases T.lab a j r e7 with z|⟨q',z⟩
      .rw[e4]at z;cases z
      .rw[gn]at z;cases z
    refine⟨?_,T.kept a _ gn e4,T.new a e5 (by rw[e4];simp)⟩;unfold WG;rw[g'n,e3];dsimp only;rw[Ã];rintro(z|z)
    .lia
    .cases e8:k6 0 as i with
     |none=>rw[e8]at z;cases z
     |some m=>let⟨q,e9,_⟩:=nW e8;exact hi (u6 e9)
 .refine T.ret.relab λa p e=>?_
  unfold WG;rw[e];exact Á rfl
def QG{fn:ZG->Res D}{ps owp:ZF}{rm:Nat}{ods:List (ZJ)}{ds:ZG}{vs:List V}{Q:VK}{E:XK}(S:bH Z ow)(R:eJ X.K Z ow F H σ δ)(hA:u5 X.K F σ as ods vs)(hf:fO δ as ods=some ds)(hps:g7 0 as=ps)(nd:(bP as).Nodup)(hm:∀q i,as[q]?=some (.own i)->owp.getD q 0=ow.getD i 0)(hv:∀q f,as[q]?=some (.val f)->owp.getD q 0=0)(hlt:as.length<=1000)(q:match fn ds with
   |.ok d outs=>∀v H' F',iF X.K Z ow rm d v F' H' σ (eL (bP as) (outs.filterMap id) δ)->aW F F'->Q v H'
   |.stuck=>False):Œ X.K ps owp rm fn vs H Q E:=by
 let⟨g,R⟩:=R;let⟨l1,l2,hat⟩:=nX hf hA;refine⟨F,GZ as g,ds,R.f0.lm,R.sub,∅,λa i p e=>?_,λi d' v' e1 e2=>?_,?_⟩
 .obtain⟨j,_,e2⟩:=QF e
  let⟨_,_,_,e3⟩:=nW e2;rw[<- hps];exact e3
 .rcases hat i d' v' e1 e2 with ⟨s,a1,a2,a3⟩|⟨⟨f,a1⟩,a2⟩
  .rw[hm i s a1]
   let⟨w,w1,o⟩:=R.slot s d' a2;rw[a3]at w1;cases w1;exact o.relab λa p e=>aLS e (by rw[wN nd a1];simp)
  .rw[hv i f a1];exact a2
 .cases e:fn ds with
  |stuck=>rw[e]at q;exact q
  |ok d outs=>
   rw[e]at q;exact λv H' F' g' T=>q v H' F' (WH S R hA hf hps nd hm hlt T) T.s
def fZ(owp ow:ZF):Nat->List Arg->Bool
 |_,[]=>true
 |k,.own i::as=>(owp.getD k 0 == ow.getD i 0) && fZ owp ow (k+1) as
 |k,.val _::as=>(owp.getD k 0 == 0) && fZ owp ow (k+1) as
def oM{owp ow:ZF}:∀{k:Nat}{as:List Arg},fZ owp ow k as=true->(∀q i,as[q]?=some (.own i)->owp.getD (k+q) 0=ow.getD i 0)/\(∀q f,as[q]?=some (.val f)->owp.getD (k+q) 0=0)
 |k,[],_=>⟨λq i e=>by simp at e,λq f e=>by simp at e⟩
 |k,.own s::as,h=>by
  unfold fZ at h;rw[á,beq_iff_eq]at h;let⟨h1,h2⟩:=oM h.2;refine⟨λq i e=>?_,λq f e=>?_⟩
  .cases q with
   |zero=>cases e;exact h.1
   |succ q=>have:=h1 q i e;rw[show k+(q+1)=k+1+q by lia];exact this
  .cases q with
   |zero=>cases e
   |succ q=>have:=h2 q f e;rw[show k+(q+1)=k+1+q by lia];exact this
 |k,.val _::as,h=>by
  unfold fZ at h;rw[á,beq_iff_eq]at h;let⟨h1,h2⟩:=oM h.2;refine⟨λq i e=>?_,λq f e=>?_⟩
  .cases q with
   |zero=>cases e
   |succ q=>have:=h1 q i e;rw[show k+(q+1)=k+1+q by lia];exact this
  .cases q with
   |zero=>exact h.1
   |succ q=>have:=h2 q f e;rw[show k+(q+1)=k+1+q by lia];exact this
abbrev NL(K:ZC)(pn:ZE)(ps owp:ZF)(rm:Nat)(fn:ZG->Res D):Sp:=λvs H Q E=>vs.length=pn.length/\Œ K ps owp rm fn vs H Q E
def WI(sp:Sp)(E:St->XK)(t:TA):TE:=λσ H Q=>t σ H λvs H1=>sp vs H1 Q (E σ)
def EX(X:Cx)(σ:St):XK:=λ_ _ _=>False
def WJ{e:Expr}{es:List Expr}{x:Str}{p:Pos}{k:Nat}{f:Addr}{fd:FuncData}{pn:ZE}{sp:Sp}{t:TA}(Fk:sP X.prog X.w X.K X.mg X.base (E7 X.prog X.w X.K) k f fd pn sp)(hr:gN k X.A)(hg:Gl X x)(hmg:X.mg x=some (.ref f))(hk:W.keepIn X.K (.ref f)=true)(hb:pP X.K fd pn [])(ha:PA X (e::es) t)(hdb:⇑(Zdb x))(he:↥(Zse e es X.env))(hpl:↥(Zbt pos es X.env)):
  PE X (.Call (.Name x p) (e::es) [] pos) (WI sp (EX X) t):=by
 intro U s σ H Q I h;refine wpAny_Call_Name_kw (rZ I hg hmg ?_ hdb);refine W.callWith_K (h₀:=X.base) I.ok.mod.kin hk (dL (ha pos U s σ H _ I h) λus s1⟨vs,H1,I1,r,q⟩=>⟨I1.kIn,?_⟩) he hpl;have hl:us.length=pn.length:=by rw[<- r.length];exact Fk.len _ _ _ _ q
 have hb':=hb s1 us I1.kIn (by rw[Û];exact hl);rw[Û]at hb';refine wpAny_call (codeAny_mono (Fk.run X.A X.stack s1 H1 ⟨us,[]⟩ us vs Q (EX X σ) hr I1.env0 hb' r q) λr s' hq=>?_);cases r with
 |error e=>exact hq.elim
 |ok fl=>
  cases fl with
  |ret u=>exact I1.after hq
  |next=>exact False.elim hq
  |brk=>exact False.elim hq
  |cont=>exact False.elim hq
def A6{fn:ZG->Res D}{ps owp:ZF}{rm:Nat}{pn:ZE}{Q:VK}(S:bH Z ow)(hl:as.length=pn.length)(hps:g7 0 as=ps)(nd:decide (bP as).Nodup=true)(hm:fZ owp ow 0 as=true)(hlt:as.length<=1000)(h:tD X Z ow rm (aM fn as) σ H Q):WI (NL X.K pn ps owp rm fn) (EX X) (ı X Z ow as) σ H Q:=by
 let⟨F,δ,R,h⟩:=h;unfold aM at h;refine⟨F,δ,R,?_⟩;let⟨m1,m2⟩:=oM hm;cases e:cZ as δ with
 |stuck=>rw[e]at h;exact h.elim
 |ok ods δ1=>
  rw[e]at h;simp![Res.bind]at h;intro vs H1 F1 R1 s1 z;cases e2:fO δ1 as ods with
  |none=>rw[e2]at h;exact h.elim
  |some ds=>
   rw[e2]at h;dsimp only at h;have l2:=(nX e2 z).2.1;refine⟨by exact Eq.trans ‹_› ‹_›,QG S R1 z e2 hps (of_decide_eq_true nd) (λq i e=>by have:=m1 q i e;rwa [Nat.zero_add]at this) (λq f e=>by have:=m2 q f e;rwa [Nat.zero_add]at this) hlt ?_⟩
   cases e3:fn ds with
   |stuck=>rw[e3]at h;exact h.elim
   |ok d outs=>
    rw[e3]at h;dsimp only at h⊢;exact λv H' F' R' s'=>h v H' F' R' (s1.trans' s')
def aC9{e:Expr}{es:List Expr}{x:Str}{p:Pos}{k:Nat}{f:Addr}{fd:FuncData}{fn:ZG->Res D}{ps owp:ZF}{rm:Nat}{pn:ZE}(S:bH Z ow)(Fk:sP X.prog X.w X.K X.mg X.base (E7 X.prog X.w X.K) k f fd pn (NL X.K pn ps owp rm fn))(hr:gN k X.A)(hg:Gl X x)(hmg:X.mg x=some (.ref f))(hk:W.keepIn X.K (.ref f)=true)(hb:pP X.K fd pn [])(ha:DA X Z ow (e::es) as)(hl:↥(as.length=pn.length))(hps:↥(g7 0 as=ps))(nd:↥(decide (bP as).Nodup=true))(hm:↥(fZ owp ow 0 as=true))(hlt:⇑(as.length<=1000))(hdb:⇑(Zdb x))(he:↥(Zse e es X.env))(hpl:↥(Zbt pos es X.env)):
  DE X Z ow rm (.Call (.Name x p) (e::es) [] pos) (aM fn as):=PE.mono (WJ Fk hr hg hmg hk hb ha hdb he hpl) λ_ _ _ h=>A6 S hl hps nd hm hlt h
end
section
variable{X:Cx}{Z:dQ}{ow ow' ol ox:ZF}{n rm:Nat}{pos:Pos}{e a b c:Expr}{f h:M D}{F H:Hp}{σ:St}{δ:DS}{g:ZN}{K:ZC}
def cC.relabP{g':ZN}{i j:Nat}{q:ZF}(hg:∀a p,g a=some (i,p)->g' a=some (j,q++p)){n:Nat}{p:ZF}{d:D}{v:V}(r:cC K F H g i n p d v):cC K F H g' j n (q++p) d v:=
 k4.trans (λ_ _ z=>z) (λa p o e1 e2 e3=>⟨hg a p e1,e2,e3⟩) r
def eJ.rewrite{i:Nat}{ds ds':ZG}{vs':List V}{a:Addr}(S:bH Z ow)(R:eJ K Z ow F H σ δ)(ho:ow.getD i 0=1)(hd:δ[i]?=some (some (.list ds)))(hs:σ[i]?=some (some (.ref a)))(hr:aJ K F ds' vs'):
  eJ K Z ow F (eB H a (.lst vs')) σ (δ.set i (some (.list ds'))):=by
 let⟨g,R⟩:=R;let⟨v,e1,o⟩:=R.slot i _ hd;rw[hs]at e1;cases e1;rw[ho]at o;let⟨a',ds0,vs0,q1,q2,q3,q4,q5,q6,q7⟩:=o.lst (m:=0);cases q1;cases q2;have hi:i<δ.length:=(Ó.mp hd).1;refine⟨g,λb u e=>?_,R.f0,λb u n e=>?_,R.new,λb z=>?_,R.lab,by rw[à];exact R.len,R.par,λj d e=>?_⟩
 .have:b≠a:=λz=>by rw[z,q5]at e;cases e
  rw[aZ this];exact R.sub b u e
 .have:b≠a:=λz=>by
   subst z;rcases R.lab b i [] q3 with w|⟨q,w⟩
   all_goals grind
  rw[aZ this];exact R.kept b u n e
 .by_cases hb:b=a
  .subst hb;rw[cJ];simp
  .rw[aZ hb];exact R.there b z
 .by_cases hj:j=i
  .subst hj
   rw[è hi]at e;cases e;refine⟨_,hs,?_⟩;rw[ho];exact cC.mkL (m:=0) ⟨a,ds',vs',rfl,rfl,q3,cJ,q5,hr.len,λk d' v' z1 z2=>hr.both k d' v' z1 z2⟩
  .rw[Ü (Ö hj)]at e
   let⟨v,e1,o⟩:=R.slot j d e;refine⟨v,e1,o.mono (aW.refl _) (λ_ _ _ e=>e) (λ_ _ _ _ h=>h) λa' l u hl e h=>?_⟩;have:a'≠a:=λz=>by grind
   rw[aZ this];exact h
def eJ.ownAt{i:Nat}{d:D}(R:eJ K Z ow F H σ δ)(ho:ow.getD i 0=1)(hd:δ[i]?=some (some d)):∃a ds vs,d=.list ds/\σ[i]?=some (some (.ref a))/\H a=some (.lst vs)/\aJ K F ds vs:=by
 let⟨g,R⟩:=R;let⟨v,e1,o⟩:=R.slot i _ hd;rw[ho]at o;let⟨a,ds0,vs0,q1,q2,q3,q4,q5,q6,q7⟩:=o.lst (m:=0);exact⟨a,ds0,vs0,q1,by rw[e1,q2],q4,aJ.of q6 q7⟩
def kK(i:Nat)(op:ZG->ZG->Option (D×ZG))(fs:List (M D)):M D:=λδ=>match δ[i]? with
 |some (some _)=>(bO fs δ).bind λargs δ1=>(match δ1[i]? with
  |some (some (.list ds))=>(match op ds args with
   |some (ret,ds')=>.ok ret (δ1.set i (some (.list ds')))
   |none=>.stuck)
  |_=>.stuck)
 |_=>.stuck
def S3(X:Cx)(r:V->List V->Hp->VK->Prop)(op:ZG->ZG->Option (D×ZG)):Prop:=∀(F H:Hp)(l:Addr)(xs vs:List V)(ds args:ZG)(ret:D)(ds':ZG),H l=some (.lst xs)->aW F H->aJ X.K F ds xs->aJ X.K F args vs->op ds args=some (ret,ds') ->
 ∃xs' rv,aJ X.K F ds' xs'/\cI X.K F ret rv/\∀Q:VK,Q rv (eB H l (.lst xs'))->r (.ref l) vs H Q
def aDA{i:Nat}{r:V->List V->Hp->VK->Prop}{op:ZG->ZG->Option (D×ZG)}{fs:List (M D)}{Q:VK}(S:bH Z ow)(ho:ow.getD i 0=1)(hm:S3 X r op)(h:tD X Z ow 0 (kK i op fs) σ H Q):Ő X.K "list" r (VH i) (tV X Z ow fs) σ H Q:=by
 let⟨F,δ,R,h⟩:=h;unfold kK at h;cases e0:δ[i]? with
 |none=>rw[e0]at h;exact h.elim
 |some o=>
  cases o with
  |none=>rw[e0]at h;exact h.elim
  |some d0=>
   rw[e0]at h;dsimp only at h;let⟨a,ds0,vs0,q1,q2,q3,q4⟩:=R.ownAt ho e0;refine⟨_,q2,.inl ⟨rfl,vs0,gM.of q3⟩,F,δ,R,?_⟩;cases e:bO fs δ with
   |stuck=>rw[e]at h;exact h.elim
   |ok args δ1=>
    rw[e]at h;simp![Res.bind]at h;intro vs H1 F1 R1 s1 z;cases e1:δ1[i]? with
    |none=>rw[e1]at h;exact h.elim
    |some o=>
     cases o with
     |none=>rw[e1]at h;exact h.elim
     |some d1=>
      rw[e1]at h;let⟨a',ds1,vs1,p1,p2,p3,p4⟩:=R1.ownAt ho e1;rw[q2]at p2;cases p2;subst p1;dsimp only at h;cases e2:op ds1 args with
      |none=>rw[e2]at h;exact h.elim
      |some rr=>
       let⟨ret,ds'⟩:=rr;rw[e2]at h;dsimp only at h;let⟨xs',rv,w1,w2,w3⟩:=hm F1 H1 a vs1 vs ds1 args ret ds' p3 R1.sub p4 z e2;exact w3 Q (h _ _ F1 ((R1.rewrite S ho e1 q2 w1).x w2) s1)
def k7(i:Nat){x:Str}{p q:Pos}{name:Str}{id:String}{es:List Expr}{r:V->List V->Hp->VK->Prop}{op:ZG->ZG->Option (D×ZG)}{fs:List (M D)}(S:bH Z ow)(slot:Slot "list" name id)(hty:typeOf (.builtin id)=pure (.type "method_descriptor"))(hmr:Đ X id r)(hm:S3 X r op)(ha:DV X Z ow (e::es) fs)(ho:↥(ow.getD i 0=1))(hN:↥(X.N[i]?=some x))(hv:#v[JZ X.env.scope x])(hd:⇑(Zdb x))(hcd:⇑(Zcd x))(hbase:↥(attributeBase (.Name x p) name X.env (eval (.Name x p) X.env)=eval (.Name x p) X.env))(hfew:↥(((backTo pos (starEach (e::es) X.env)).all (λx=>!x.1) && (backToKw pos (keywordEach [] X.env)).all (λx=>x.1.isSome)
   && decide ((e::es).length+([]:List Keyword).length+(if ([]:List Keyword).isEmpty then 0 else 1)<30))=true))(hline:↥((q.endLine == pos.line)=true))(hs:↥(Zse e es X.env))(hplain:↥(Zbt pos es X.env)):
  DE X Z ow 0 (.Call (.Attribute (.Name x p) name q) (e::es) [] pos) (kK i op fs):=PE.mono (E0 PySem.F.plainAttrs_list slot hty hmr (iG hN hv hd hcd) ha hbase hfew hline hs hplain) λ_ _ _ h=>aDA S ho hm h
def t0:ZG->ZG->Option (D×ZG)
 |ds,[d]=>if ds.length<sizeLine then some (.none,ds++[d])else none
 |_,_=>none
def G0{F:Hp}:cI K F .none .non:=by unfold cI;rfl
def t5:S3 X P7 t0:=λF H l xs vs ds args ret ds' hl hs h1 h2 e=>by
 unfold t0 at e;split at e
 .rename_i d
  split at e
  .rename_i hlt
   cases e;unfold aJ at h2;let⟨x,r,rfl,hx,h2⟩:=h2;unfold aJ at h2;subst h2;exact⟨xs++[x],.non,h1.app (jS hx mU),G0,λQ q=>⟨l,xs,x,rfl,rfl,hl,by rw[<- h1.len];exact hlt,q⟩⟩
  .cases e
 .cases e
def kU(i:Nat){x:Str}{p q:Pos}(S:bH Z ow)(ha:DE X Z ow 0 e f)(ho:↥(ow.getD i 0=1))(hN:↥(X.N[i]?=some x))(hv:#v[JZ X.env.scope x])(hd:⇑(Zdb x))(hcd:⇑(Zcd x))(hbase:↥(attributeBase (.Name x p) "append" X.env (eval (.Name x p) X.env)=eval (.Name x p) X.env))(hfew:↥(((backTo pos (starEach [e] X.env)).all (λx=>!x.1) && (backToKw pos (keywordEach [] X.env)).all (λx=>x.1.isSome)
   && decide ([e].length+([]:List Keyword).length+(if ([]:List Keyword).isEmpty then 0 else 1)<30))=true))(hline:↥((q.endLine == pos.line)=true))(hs:↥(Zse e [] X.env))(hplain:↥(Zbt pos [] X.env)):
  DE X Z ow 0 (.Call (.Attribute (.Name x p) "append" q) [e] [] pos) (kK i t0 [f]):=k7 i S PySem.F.slot_list_append PySem.F.type_list_append wJ t5 (aG ha aV hs) ho hN hv hd hcd hbase hfew hline hs hplain
def DZ(i:Nat)(fk fv:M D):M Fl:=λδ=>(fv δ).bind λv δ1=>match δ1[i]? with
 |some (some _)=>(fk δ1).bind λk δ2=>(match δ2[i]?,k with
  |some (some (.list ds)),.int k=>(match mT ds.length k with
   |some j=>.ok .next (δ2.set i (some (.list (ds.set j v))))
   |none=>.stuck)
  |_,_=>.stuck)
 |_=>.stuck
def aJ.set{ds:ZG}{vs:List V}{d:D}{v:V}(h:aJ K F ds vs)(j:Nat)(r:cI K F d v):aJ K F (ds.set j d) (vs.set j v):=
 aJ.of (by rw[à,à,h.len]) λk d' v' e1 e2=>by
  by_cases hk:j=k
  .grind
  .rw[Ü hk]at e1 e2
   exact h.both k d' v' e1 e2
def G1(i:Nat){x:Str}{p:Pos}{spos tpos:Pos}{ek ev:Expr}{fk fv:M D}(S:bH Z ow)(hv:DE X Z ow 0 ev fv)(hk:DE X Z ow 0 ek fk)(ho:↥(ow.getD i 0=1))(hN:↥(X.N[i]?=some x))(hvi:#v[JZ X.env.scope x])(hd:⇑(Zdb x))(hcd:⇑(Zcd x))(ha: ~~~(∀v,assign (.Subscript (.Name x p) ek tpos) X.env v=(do
   let ov <- holding [v] (eval (.Name x p) X.env);let iv <- holding [v,ov] (eval ek X.env)
   standAt tpos
   holding [v,ov,iv] (setItem ov iv v)
   release [v,ov,iv] [])))(hs:↥(swapsWithSole [.Subscript (.Name x p) ek tpos] ev spos.line X.env=pure false))(hw:↥(swappedStores [.Subscript (.Name x p) ek tpos] ev X.env=pure none))(h1:↥((assignEach [.Subscript (.Name x p) ek tpos] X.env).map (·.2)=[assign (.Subscript (.Name x p) ek tpos) X.env])):
  NK X Z ow ow ol ox rm (.Assign [.Subscript (.Name x p) ek tpos] ev spos) (DZ i fk fv):=PS.mono (aHQ hv (aHP (iG hN hvi hd hcd) hk VY ha) hs hw h1) λDn σ H h=>by
 let⟨F,δ,R,h⟩:=h;unfold DZ at h;refine⟨F,δ,R,?_⟩;cases e:fv δ with
 |stuck=>rw[e]at h;exact h.elim
 |ok dv δ1=>
  rw[e]at h;simp![Res.bind]at h;intro v H1 F1 R1 s1;cases e0:δ1[i]? with
  |none=>rw[e0]at h;exact h.elim
  |some o=>
   cases o with
   |none=>rw[e0]at h;exact h.elim
   |some d0=>
    rw[e0]at h;dsimp only at h;let⟨a,ds0,vs0,q1,q2,q3,q4⟩:=R1.rel.ownAt ho e0;refine⟨_,q2,F1,δ1,R1.rel,?_⟩;cases e1:fk δ1 with
    |stuck=>rw[e1]at h;exact h.elim
    |ok dk δ2=>
     rw[e1]at h;dsimp only at h;intro kv H2 F2 R2 s2;cases e2:δ2[i]? with
     |none=>rw[e2]at h;exact h.elim
     |some o=>
      cases o with
      |none=>rw[e2]at h;exact h.elim
      |some d1=>
       rw[e2]at h;let⟨a',ds1,vs1,p1,p2,p3,p4⟩:=R2.rel.ownAt ho e2;rw[q2]at p2;cases p2;subst p1;cases dk with
       |int k=>
        dsimp only at h;cases e3:mT ds1.length k with
        |none=>rw[e3]at h;exact h.elim
        |some j=>
         rw[e3]at h;have rk:=R2.rep;unfold cI at rk;subst rk;refine⟨a,vs1,k,j,rfl,rfl,p3,by rw[<- p4.len];exact e3,?_⟩;exact h σ _ F2 (R2.rel.rewrite S ho e2 q2 (p4.set j (s2.rep _ _ R1.rep))) (s1.trans' s2)
       |_=>exact h.elim
def bN(a b:D):ZJ:=match b with
 |.int i=>(match a with
  |.list ds=>atI ds i
  |.tuple ds=>atI ds i
  |.str z=>if z.length<=sizeLine then (atI z.cps.toList i).map λc=>.str ⟨#[c]⟩else none
  |_=>none)
 |_=>none
def aJ.atI{ds:ZG}{vs:List V}{i:Int}{d:D}(h:aJ K F ds vs)(e:L2.atI ds i=some d):∃v,L2.atI vs i=some v/\cI K F d v:=by
 unfold L2.atI at e⊢;rw[<- h.len];cases q:mT ds.length i with
 |none=>rw[q]at e;cases e
 |some j=>
  rw[q]at e;exact h.get e
def aLT:sY X (ž X.K) 0 bN:=λZ ow F H σ δ a b x y d Q S R ra rb e q=>by
 unfold bN at e;split at e<;>try cases e
 split at e<;>try cases e
 .rename_i i _ ds
  unfold cI at ra rb;let⟨p,xs,rfl,hq,rs⟩:=ra;subst rb;let⟨v,e1,r⟩:=rs.atI e;exact .inl ⟨p,xs,i,v,rfl,rfl,R.sub.seq hq,e1,q v H F (R.x r) (aW.refl _)⟩
 .rename_i i _ ds
  unfold cI at ra rb;let⟨p,xs,rfl,hq,rs⟩:=ra;subst rb;let⟨v,e1,r⟩:=rs.atI e;exact .inr (.inl ⟨p,xs,i,v,rfl,rfl,R.sub.seqT hq,e1,q v H F (R.x r) (aW.refl _)⟩)
 .rename_i i _ z
  unfold cI at ra rb;subst ra rb;split at e
  .rename_i hz
   cases e1:atI z.cps.toList i with
   |none=>rw[e1]at e;cases e
   |some c=>
    rw[e1]at e;cases e;exact .inr (.inr ⟨z,i,c,rfl,rfl,hz,e1,q _ H F (R.x (by unfold cI;rfl)) (aW.refl _)⟩)
  .cases e
def aN(S:bH Z ow)(ha:DE X Z ow 0 a f)(hb:DE X Z ow 0 b h)(hs:uY b:=by exact λ_ _=>rfl):DE X Z ow 0 (.Subscript a b pos) (aU bN f h):=PE.mono (P6 aH8 ha hb hs) λ_ _ _ q=>GW S aLT q
def D0(i:Nat)(fk:M D):M D:=λδ=>match δ[i]? with
 |some (some _)=>(fk δ).bind λk δ1=>(match δ1[i]? with
  |some (some d)=>(match bN d k with
   |some r=>.ok r δ1
   |none=>.stuck)
  |_=>.stuck)
 |_=>.stuck
def G3(i:Nat){x:Str}{p:Pos}(hb:DE X Z ow 0 b h)(ho:↥(ow.getD i 0=1))(hN:↥(X.N[i]?=some x))(hv:#v[JZ X.env.scope x])(hd:⇑(Zdb x))(hcd:⇑(Zcd x))(hs:uY b:=by exact λ_ _=>rfl):
  DE X Z ow 0 (.Subscript (.Name x p) b pos) (D0 i h):=PE.mono (P6 AC (iG hN hv hd hcd) hb hs) λσ H Q q=>by
 let⟨F,δ,R,q⟩:=q;unfold D0 at q;cases e0:δ[i]? with
 |none=>rw[e0]at q;exact q.elim
 |some o=>
  cases o with
  |none=>rw[e0]at q;exact q.elim
  |some d0=>
   rw[e0]at q;dsimp only at q;let⟨a,ds0,vs0,q1,q2,q3,q4⟩:=R.ownAt ho e0;refine⟨_,q2,F,δ,R,?_⟩;cases e1:h δ with
   |stuck=>rw[e1]at q;exact q.elim
   |ok dk δ2=>
    rw[e1]at q;simp![Res.bind]at q;intro kv H2 F2 R2 s2;cases e2:δ2[i]? with
    |none=>rw[e2]at q;exact q.elim
    |some o=>
     cases o with
     |none=>rw[e2]at q;exact q.elim
     |some d1=>
      rw[e2]at q;let⟨a',ds1,vs1,p1,p2,p3,p4⟩:=R2.rel.ownAt ho e2;rw[q2]at p2;cases p2;subst p1;cases dk with
      |int k=>
       dsimp![bN]at q;cases e3:atI ds1 k with
       |none=>rw[e3]at q;exact q.elim
       |some r=>
        rw[e3]at q;have rk:=R2.rep;unfold cI at rk;subst rk;let⟨v,w1,w2⟩:=p4.atI e3;exact⟨a,vs1,k,v,rfl,rfl,gM.of p3,w1,q v H2 F2 (R2.rel.x w2) s2⟩
      |_=>exact q.elim
def dR:ZG->ZJ
 |[d]=>(match d with
  |.list ds=>some (.int ds.length)
  |.tuple ds=>some (.int ds.length)
  |.str z=>if z.length<=sizeLine then some (.int z.length)else none
  |_=>none)
 |_=>none
def yT(i:Nat):M D:=λδ=>match δ[i]? with
 |some (some d)=>(match dR [d]with
  |some r=>.ok r δ
  |none=>.stuck)
 |_=>.stuck
def QH(i:Nat){x:Str}{p p2:Pos}(hg:Gl X "len")(hm:X.mg "len"=none)(ho:↥(ow.getD i 0=1))(hN:↥(X.N[i]?=some x))(hv:#v[JZ X.env.scope x])(hd:⇑(Zdb x))(hcd:⇑(Zcd x))(he:↥(starEach [.Name x p] X.env=(false,eval (.Name x p) X.env)::starEach [] X.env))(hpl:↥(Zbt pos [] X.env)):DE X Z ow 0 (.Call (.Name "len" p2) [.Name x p] [] pos) (yT i):=
 PE.mono (AU uZ hg hm V3 (iI (iG hN hv hd hcd) oH he) ⋯ ⋯ he hpl) λσ H Q q=>by
  let⟨F,δ,R,q⟩:=q;unfold yT at q;cases e0:δ[i]? with
  |none=>rw[e0]at q;exact q.elim
  |some o=>
   cases o with
   |none=>rw[e0]at q;exact q.elim
   |some d0=>
    rw[e0]at q;let⟨a,ds0,vs0,rfl,q2,q3,q4⟩:=R.ownAt ho e0;refine⟨_,q2,a,vs0,rfl,.inl (gM.of q3),?_⟩;dsimp![dR]at q;rw[q4.len]at q;exact q _ H F (R.x (by unfold cI;rfl)) (aW.refl _)
end
section
variable{X:Cx}{Z:dQ}{ow ow' ol ox:ZF}{n rm:Nat}{pos:Pos}{e a b c:Expr}{f h k:M D}{F H:Hp}{σ:St}{δ:DS}{K:ZC}
def k8{i:Int}{v:V}(h:cI K F (.int i) v):v=.int i:=by unfold cI at h;exact h
def fI{x:Str}{v:V}(h:cI K F (.str x) v):v=.str x:=by unfold cI at h;exact h
def E8{x:Bool}{v:V}(h:cI K F (.bool x) v):v=.bl x:=by unfold cI at h;exact h
def aIG{v:V}(h:cI K F .none v):v=.non:=by unfold cI at h;exact h
def oN{ds:ZG}{v:V}(h:cI K F (.list ds) v):∃(a:Addr)(xs:List V),v=.ref a/\gM K F a xs/\aJ K F ds xs:=by unfold cI at h;exact h
def G4{ds:ZG}{v:V}(h:cI K F (.tuple ds) v):∃(a:Addr)(xs:List V),v=.ref a/\tX K F a xs/\aJ K F ds xs:=by unfold cI at h;exact h
def kF{i:Int}:cI K F (.int i) (.int i):=by unfold cI;rfl
def kG{i:Str}:cI K F (.str i) (.str i):=by unfold cI;rfl
def sQ{i:Bool}:cI K F (.bool i) (.bl i):=by unfold cI;rfl
def iD(C:Int->Int->Prop)(g:Int->Int->D):D->D->ZJ
 |.int i,.int j=>open Classical in if C i j then some (g i j)else none
 |_,_=>none
def NM{C:Int->Int->Prop}{g:Int->Int->V}{g':Int->Int->D}(hg:∀F i j,cI X.K F (g' i j) (g i j)):sY X (rI C g) 0 (iD C g'):=λZ ow F H σ δ a b x y d Q S R ra rb e q=>by
 unfold iD at e;split at e
 .rename_i i j
  split at e
  .rename_i hc
   cases e;exact⟨i,j,k8 ra,k8 rb,hc,q _ H F (R.x (hg F i j)) (aW.refl _)⟩
  .cases e
 .cases e
def WK(g:Int->Int->D):D->D->ZJ
 |.int i,.int j=>some (g i j)
 |_,_=>none
def u7{g:Int->Int->V}{g':Int->Int->D}(hg:∀F i j,cI X.K F (g' i j) (g i j)):sY X (VQ g) 0 (WK g'):=λZ ow F H σ δ a b x y d Q S R ra rb e q=>by
 unfold WK at e;split at e
 .rename_i i j
  cases e;exact⟨i,j,k8 ra,k8 rb,q _ H F (R.x (hg F i j)) (aW.refl _)⟩
 .cases e
def sY.or{r r':R2}{o o':D->D->ZJ}(h:sY X r n o)(h':sY X r' n o'):sY X (λx y H Q=>r x y H Q\/r' x y H Q) n (λa b=>(o a b).or (o' a b)):=λZ ow F H σ δ a b x y d Q S R ra rb e q=>by
 dsimp only at e;cases e1:o a b with
 |some d'=>
  rw[e1,Option.some_or]at e;cases e;exact .inl (h Z ow F H σ δ a b x y d Q S R ra rb e1 q)
 |none=>
  rw[e1,Option.none_or]at e;exact .inr (h' Z ow F H σ δ a b x y d Q S R ra rb e q)
def G5:D->D->ZJ
 |.str i,.str j=>if i.length+j.length<=sizeLine then some (.str (i++j))else none
 |_,_=>none
def NN:D->D->ZJ
 |.tuple i,.tuple j=>if i≠[]/\i.length+j.length<=sizeLine then some (.tuple (i++j))else none
 |_,_=>none
def œ:D->D->ZJ
 |.list i,.list j=>if i.length+j.length<=sizeLine then some (.list (i++j))else none
 |_,_=>none
instance{l:ZG}:Decidable (l≠[]):=match l with
 |[]=>.isFalse λh=>h rfl
 |_::_=>.isTrue λh=>by cases h
def aII:sY X (λx y H Q=>∃i j,x=.str i/\y=.str j/\i.length+j.length<=sizeLine/\Q (.str (i++j)) H) 0 G5:=λZ ow F H σ δ a b x y d Q S R ra rb e q=>by
 unfold G5 at e;split at e
 .rename_i i j
  split at e
  .rename_i hc
   cases e;exact⟨i,j,fI ra,fI rb,hc,q _ H F (R.x kG) (aW.refl _)⟩
  .cases e
 .cases e
def aIJ:sY X (Ż X.K) 0 NN:=λZ ow F H σ δ a b x y d Q S R ra rb e q=>by
 unfold NN at e;split at e
 .rename_i i j
  split at e
  .rename_i hc
   cases e;let⟨p,xs,rfl,hp,ha⟩:=G4 ra;let⟨p',ys,rfl,hp',hb⟩:=G4 rb;refine⟨p,p',xs,ys,rfl,rfl,R.sub.seqT hp,R.sub.seqT hp',λz=>?_,by rw[<- ha.len,<- hb.len];exact hc.2,λz=>?_,λz t ht=>?_⟩
   .have:=ha.len;rw[z]at this;exact hc.1 (List.length_eq_zero_iff.mp this)
   .have hj:j=[]:=by have:=hb.len;rw[z]at this;exact List.length_eq_zero_iff.mp this
    rw[hj,Û]at q;exact q _ H F (R.x ra) (aW.refl _)
   .have ft:=R.fnone ht
    exact q _ _ (eB F t (.tup (xs++ys))) ((R.laid ht).x (oK ft (ha.app hb))) (dP ft _)
  .cases e
 .cases e
def S4(l:Addr)(items:Array Value)(n:Nat)(sl:Array (ZL))(b:Addr)(g9:Array Value)(n2:Nat)(sl2:Array (ZL))(hc0:items.size+g9.size<=sizeLine):
  Meets (Builtin.«list.__add__» ⟨[.ref l,.ref b],[]⟩) (λ_ R s=>s.heap.get? l=some ⟨.type "list",none,.seq items n,sl⟩/\s.heap.get? b=some ⟨.type "list",none,.seq g9 n2,sl2⟩/\R (.ok (.ret (Value.ref s.heap.objs.size))) {s with heap:=s.heap.push {cls:=Value.type "list",data:=Data.seq (items++g9)},toks:=s.toks}):=
 .of_wp λprog w A R s h=>by
  let⟨hp,g,d,tk,os⟩:=s;let⟨hl,hb,h⟩:=h;have f1:=PySem.AutoSeq1.idx_int;have f2:=PySem.AutoSeq1.sub_tuple_tuple;have f3:=PySem.AutoSeq1.sub_list_list;have f4:=PySem.AutoSeq1.sub_tuple_list;have f5:=PySem.AutoSeq1.sub_list_tuple
  wp_walk using PySem.AutoSeq1.wpAny_loadPart' hl,PySem.AutoSeq1.wpAny_loadPart' hb
  exact⟨_,rfl,h⟩
def S5{prog:Program}{w:World}{A:Around}{E:ZA}{s:Shared}{l b:Addr}{items g9:Array Value}{n n2:Nat}{sl sl2:Array (ZL)}{Q:ZA}(hl:s.heap.get? l=some ⟨.type "list",none,.seq items n,sl⟩)(hb:s.heap.get? b=some ⟨.type "list",none,.seq g9 n2,sl2⟩)(h:Q (.ref s.heap.objs.size) {s with heap:=s.heap.push {cls:=.type "list",data:=.seq (items++g9)}})(hsz:items.size+g9.size<=sizeLine):wpAny (model prog w) A (binaryOp .Add (.ref l) (.ref b)) Q E s:=
 concat_meets ⟨_,hl,rfl⟩ ⟨_,hb,rfl⟩ noFill_list_add seq_list_add F.slot_list_add F.entry_list_add (F.args_list_add_2 _ _) (S4 l items n sl b g9 n2 sl2 hsz) ⟨hl,hb,h⟩
def Γ(K:ZC):R2:=λx y H Q=>∃l b xs zs,x=.ref l/\y=.ref b/\gM K H l xs/\gM K H b zs/\xs.length+zs.length<=sizeLine/\∀p,H p=none->Q (.ref p) (eB H p (.lst (xs++zs)))
def aDB:pO X (binaryOp .Add) (Γ X.K):=by
 intro U s σ H x y v u Q I rx ry h;let⟨l,b,xs,zs,rfl,rfl,hH,hB,hz,q⟩:=h;cases rx;cases ry;let⟨its,r,⟨o,n,e,c,dn,dd⟩,z⟩:=I.list hH;let⟨its2,r2,⟨o2,n2,e2,c2,dn2,dd2⟩,z2⟩:=I.list hB;let⟨oc,od,oda,osl⟩:=o;let⟨oc2,od2,oda2,osl2⟩:=o2;cases c;cases c2;cases dn;cases dn2;cases dd;cases dd2;have hl:=r.length;have hl2:=r2.length;refine S5 e e2 ?_ (by grind);have ea:its.toArray++its2.toArray=(its++its2).toArray:=by simp
 rw[ea];exact⟨.ref _,_,I.lnew (t':=s.toks) (r.append r2) (by grind),rfl,q _ I.fresh⟩
def aDC:sY X (Γ X.K) 1 œ:=λZ ow F H σ δ a b x y d Q S R ra rb e q=>by
 unfold œ at e;split at e
 .rename_i i j
  split at e
  .rename_i hc
   cases e;let⟨p,xs,rfl,hp,ha⟩:=oN ra;let⟨p',ys,rfl,hp',hb⟩:=oN rb;exact⟨p,p',xs,ys,rfl,rfl,R.sub.seq hp,R.sub.seq hp',by rw[<- ha.len,<- hb.len];exact hc,λt ht=>q _ _ F (R.newList S ht (ha.app hb)) (aW.refl _)⟩
  .cases e
 .cases e
def sY.fz{r:R2}{o:D->D->ZJ}(h:sY X r n o):sY X r 0 o:=λZ ow F H σ δ a b x y d Q S R ra rb e q=>h Z ow F H σ δ a b x y d Q S R ra rb e λv H' F' R' s=>by
 let⟨F2,s2,R2⟩:=R'.freeze S;exact q v H' F2 R2 (s.trans' s2)
def b8:D->D->ZJ:=λa b=>(WK (λi j=>.int (i+j)) a b).or ((G5 a b).or ((NN a b).or (œ a b)))
def bE(S:bH Z ow)(ha:DE X Z ow 0 a f)(hb:DE X Z ow 0 b h):DE X Z ow 0 (.BinOp a .Add b pos) (aU b8 f h):=
 E3 S (aHV.or (M8.or (aCY.or aDB))) ((u7 λ_ _ _=>kF).or (aII.or (aIJ.or aDC.fz))) ha hb
def sR:D->D->ZJ:=WK λi j=>.int (i-j)
def iN(S:bH Z ow)(ha:DE X Z ow 0 a f)(hb:DE X Z ow 0 b h):DE X Z ow 0 (.BinOp a .Sub b pos) (aU sR f h):=E3 S aHW (u7 λ_ _ _=>kF) ha hb
def hG:D->D->ZJ:=iD IntMulOk λi j=>.int (i*j)
def dI(S:bH Z ow)(ha:DE X Z ow 0 a f)(hb:DE X Z ow 0 b h):DE X Z ow 0 (.BinOp a .Mult b pos) (aU hG f h):=E3 S aC2 (NM λ_ _ _=>kF) ha hb
def u8:D->D->ZJ:=iD (λ_ j=>j≠0) λi j=>.int (i.fmod j)
def mV(S:bH Z ow)(ha:DE X Z ow 0 a f)(hb:DE X Z ow 0 b h):DE X Z ow 0 (.BinOp a .Mod b pos) (aU u8 f h):=E3 S aCN (NM λ_ _ _=>kF) ha hb
def WL:D->D->ZJ:=iD ī λi j=>.int (i^j.toNat)
def aIK(S:bH Z ow)(ha:DE X Z ow 0 a f)(hb:DE X Z ow 0 b h):DE X Z ow 0 (.BinOp a .Pow b pos) (aU WL f h):=E3 S aHX (NM λ_ _ _=>kF) ha hb
def t6(op:D->ZJ)(f:M D):M D:=λδ=>(f δ).bind λd δ1=>match op d with
 |some r=>.ok r δ1
 |none=>.stuck
def aOP:D->ZJ
 |.int i=>some (.int (-i))
 |_=>none
def QI(f:M D):M D:=λδ=>(f δ).bind λd δ1=>match d with
 |.bool b=>.ok (.bool (!b)) δ1
 |_=>.stuck
def nY(f g:M D):M D:=λδ=>(f δ).bind λd δ1=>match d with
 |.bool b=>if b=true then g δ1 else .ok (.bool false) δ1
 |_=>.stuck
def Ĵ(f g:M D):M D:=λδ=>(f δ).bind λd δ1=>match d with
 |.bool b=>if b=true then .ok (.bool true) δ1 else g δ1
 |_=>.stuck
def NO{op}(h:DE X Z ow 0 a f):DE X Z ow 0 (.BoolOp op [a] pos) f:=PE.mono (aHJ h) λ_ _ _ q=>q
def NP{rest:List Expr}(ha:DE X Z ow 0 a f)(hb:DE X Z ow 0 (.BoolOp .And (b::rest) pos) h):DE X Z ow 0 (.BoolOp .And (a::b::rest) pos) (nY f h):=PE.mono (aHK ha hb) λσ H Q q=>by
 let⟨F,δ,R,q⟩:=q;unfold nY at q;refine⟨F,δ,R,?_⟩;cases e:f δ with
 |stuck=>rw[e]at q;exact q.elim
 |ok d δ1=>
  rw[e]at q;simp![Res.bind]at q;intro v H1 F1 R1 s1;cases d with
  |bool i=>
   refine⟨i,E8 R1.rep,?_⟩;dsimp only at q;cases i with
   |true=>rw[Á rfl]at q⊢;exact⟨F1,δ1,R1.rel,q.mono s1 λ_ _ z=>z⟩
   |false=>rw[Ã Ý]at q⊢;exact q _ H1 F1 (R1.rel.x sQ) s1
  |_=>exact q.elim
def QJ{f:M Bool}(ha:DT X Z ow a f):PW X (.BoolOp .And [a] pos) (tT X Z ow f):=aCI ha
def A7{f:M Bool}(ha:DT X Z ow a f):PW X (.BoolOp .Or [a] pos) (tT X Z ow f):=aHG ha
def oO{f:M Bool}(h:PW X e (tT X Z ow f)):DT X Z ow e f:=h.pt
def yU:D->D->ZJ:=λa b=>if SeqAt.shaped a=true/\SeqAt.shaped b=true then some (.bool (PyData.eqv a b))else none
def Ĉ:D->D->ZJ:=λa b=>if SeqAt.shaped a=true/\SeqAt.shaped b=true then some (.bool (!PyData.eqv a b))else none
def pR:sY X (λx y H Q=>∃d e,cI X.K H d x/\cI X.K H e y/\SeqAt.shaped d=true/\SeqAt.shaped e=true/\Q (.bl (PyData.eqv d e)) H) 0 yU:=λZ ow F H σ δ a b x y d Q S R ra rb e q=>by
 unfold yU at e;split at e
 .rename_i hc
  cases e;exact⟨a,b,R.sub.rep _ _ ra,R.sub.rep _ _ rb,hc.1,hc.2,q _ H F (R.x sQ) (aW.refl _)⟩
 .cases e
def Δ:sY X (λx y H Q=>∃d e,cI X.K H d x/\cI X.K H e y/\SeqAt.shaped d=true/\SeqAt.shaped e=true/\Q (.bl (!PyData.eqv d e)) H) 0 Ĉ:=λZ ow F H σ δ a b x y d Q S R ra rb e q=>by
 unfold Ĉ at e;split at e
 .rename_i hc
  cases e;exact⟨a,b,R.sub.rep _ _ ra,R.sub.rep _ _ rb,hc.1,hc.2,q _ H F (R.x sQ) (aW.refl _)⟩
 .cases e
def VB:D->D->ZJ:=WK λi j=>.bool (decide (i<j))
def QK:D->D->ZJ:=WK λi j=>.bool (decide (i<=j))
def ø:D->D->ZJ:=WK λi j=>.bool (decide (j<i))
def aP2:D->D->ZJ:=WK λi j=>.bool (decide (j<=i))
def yV:sY X (VQ λi j=>.bl (decide (i<j))) 0 VB:=u7 λ_ _ _=>sQ
def KD:sY X (VQ λi j=>.bl (decide (i<=j))) 0 QK:=u7 λ_ _ _=>sQ
def yW:sY X (VQ λi j=>.bl (decide (j<i))) 0 ø:=u7 λ_ _ _=>sQ
def eU(o o':D->D->ZJ)(f g k:M D):M D:=λδ=>(f δ).bind λx δ1=>(g δ1).bind λy δ2=>match o x y with
 |some (.bool true)=>(k δ2).bind λz δ3=>(match o' y z with
  |some r=>.ok r δ3
  |none=>.stuck)
 |some (.bool false)=>.ok (.bool false) δ2
 |_=>.stuck
def E9{r r':R2}{o o':D->D->ZJ}{Q:VK}(S:bH Z ow)(os:sY X r 0 o)(os':sY X r' 0 o')(q:tD X Z ow 0 (eU o o' f h k) σ H Q):M6 r r' (tD X Z ow 0 f) (tD X Z ow 0 h) (tD X Z ow 0 k) σ H Q:=by
 let⟨F,δ,R,q⟩:=q;unfold eU at q;refine⟨F,δ,R,?_⟩;cases e:f δ with
 |stuck=>rw[e]at q;exact q.elim
 |ok d1 δ1=>
  rw[e]at q;simp![Res.bind]at q;intro x H1 F1 R1 s1;refine⟨F1,δ1,R1.rel,?_⟩;cases e2:h δ1 with
  |stuck=>rw[e2]at q;exact q.elim
  |ok d2 δ2=>
   rw[e2]at q;dsimp only at q;intro y H2 F2 R2 s2;cases e3:o d1 d2 with
   |none=>rw[e3]at q;exact q.elim
   |some d=>
    refine os Z ow F2 H2 σ δ2 d1 d2 x y d _ S R2.rel (s2.rep _ _ R1.rep) R2.rep e3 λv H3 F3 R3 s3=>?_;cases d with
    |bool bb=>
     refine⟨bb,E8 R3.rep,?_⟩;cases bb with
     |false=>
      rw[e3]at q;rw[Ã Ý];exact q _ H3 F3 (R3.rel.x sQ) (s1.trans' (s2.trans' s3))
     |true=>
      rw[e3]at q;rw[Á rfl];dsimp only at q;refine⟨F3,δ2,R3.rel,?_⟩;cases e4:k δ2 with
      |stuck=>rw[e4]at q;exact q.elim
      |ok d3 δ3=>
       rw[e4]at q;dsimp only at q;intro z H4 F4 R4 s4;cases e5:o' d2 d3 with
       |none=>rw[e5]at q;exact q.elim
       |some r0=>
        rw[e5]at q;exact os' Z ow F4 H4 σ δ3 d2 d3 y z r0 Q S R4.rel ((s3.trans' s4).rep _ _ R2.rep) R4.rep e5 λv' H' F' R' s'=>q v' H' F' R' (s1.trans' (s2.trans' (s3.trans' (s4.trans' s'))))
    |_=>rw[e3]at q;exact q.elim
def u9{o1 o2:CmpOp}{r r':R2}{o o':D->D->ZJ}(S:bH Z ow)(ho:pO X (compareOp o1) r)(os:sY X r 0 o)(ho':pO X (compareOp o2) r')(os':sY X r' 0 o')(ha:DE X Z ow 0 a f)(hb:DE X Z ow 0 b h)(hc:DE X Z ow 0 c k)(hm:lastMarks [o1,o2] [b,c]=false:=by with_unfolding_all rfl):DE X Z ow 0 (.Compare a [o1,o2] [b,c] pos) (eU o o' f h k):=PE.mono (VR ho ho' ha hb hc hm) λ_ _ _ q=>E9 S os os' q
def WN{o1 o2:CmpOp}{r r':R2}{o o':D->D->ZJ}(S:bH Z ow)(ho:pO X (compareOp o1) r)(os:sY X r 0 o)(ho':pO X (compareOp o2) r')(os':sY X r' 0 o')(ha:DE X Z ow 0 a f)(hb:DE X Z ow 0 b h)(hc:DE X Z ow 0 c k)(hm:lastMarks [o1,o2] [b,c]=false:=by with_unfolding_all rfl):DT X Z ow (.Compare a [o1,o2] [b,c] pos) (dB (eU o o' f h k)):=PT.mono (VS ho ho' ha hb hc hm) λ_ _ _ q=>E9 S os os' (E4 q)
end
structure VC(K:ZC)(F:Hp)(J:It)(ds:ZG):Prop where
 go:∀i H,aW F H->i<ds.length->J.go i H
 yld:∀i H x H' d,aW F H->J.yld i H x H'->ds[i]?=some d->(H'=H/\cI K F d x)\/∃p o,H p=none/\H'=eB H p o/\∀F2,aW F F2->F2 p=none->cI K (eB F2 p o) d x
 stop:∀H,aW F H->J.stop ds.length H
def kI(X:Cx)(Z:dQ)(ow:ZF)(r:Res (ZG))(F:Hp)(σ:St)(R:It->Hp->Prop):Prop:=match r with
 |.ok ds δ=>∀J H' F',eJ X.K Z ow F' H' σ δ->aW F F'->VC X.K F' J ds->R J H'
 |.stuck=>False
def tI(X:Cx)(Z:dQ)(ow:ZF)(f:M (ZG)):TI:=λσ H R=>∃F δ,eJ X.K Z ow F H σ δ/\kI X Z ow (f δ) F σ R
def DI(X:Cx)(Z:dQ)(ow:ZF)(tg e:Expr)(f:M (ZG)):Prop:=PI X tg e (tI X Z ow f)
def PI.mono{X:Cx}{tg e:Expr}{t t':TI}(h:PI X tg e t)(hm:∀σ H R,t' σ H R->t σ H R):PI X tg e t':=λU s σ H R I q=>h U s σ H R I (hm σ H R q)
section
variable{X:Cx}{Z:dQ}{ow ow' ol ox:ZF}{n rm:Nat}{pos:Pos}{e tg a b:Expr}{f f':M D}{sts:List Stmt}{u:M Fl}{g:TG}{set:D->DS->Option DS}{K:ZC}{F H:Hp}{σ:St}{δ:DS}
def WO{a:Addr}{xs:List V}{ds:ZG}(h:gM K F a xs)(r:aJ K F ds xs):VC K F (ŉ K a) ds where
 go:=λi H s hi=>⟨xs,xs[i]'(by rw[<- r.len];exact hi),s.seq h,Ç _⟩
 yld:=λi H x H' d s y e=>.inl ⟨y.1,by
  let⟨v,e1,q⟩:=r.get e;have:=y.2 xs (s.seq h);rw[e1]at this;cases this;exact q⟩
 stop:=λH s=>⟨xs,s.seq h,by rw[<- r.len];exact È _⟩
def aDE{a:Addr}{xs:List V}{ds:ZG}(h:tX K F a xs)(r:aJ K F ds xs):VC K F (Ŋ K a) ds where
 go:=λi H s hi=>⟨xs,xs[i]'(by rw[<- r.len];exact hi),s.seqT h,Ç _⟩
 yld:=λi H x H' d s y e=>.inl ⟨y.1,by
  let⟨v,e1,q⟩:=r.get e;have:=y.2 xs (s.seqT h);rw[e1]at this;cases this;exact q⟩
 stop:=λH s=>⟨xs,s.seqT h,by rw[<- r.len];exact È _⟩
def aDF{lo:Int}{m:Nat}:VC K F (Ī lo m) (zL lo m) where
 go:=λi H s hi=>by rw[nV]at hi;exact hi
 yld:=λi H x H' d s y e=>.inl ⟨y.1,by
  have hi:i<m:=by have:=(Ó.mp e).1;rwa [nV]at this
  rw[QE hi]at e;cases e;rw[y.2];exact kF⟩
 stop:=λH s=>by rw[nV];exact È _
def bR(f:M D):M (ZG):=λδ=>(f δ).bind λd δ1=>match d with
 |.list ds=>.ok ds δ1
 |.tuple ds=>.ok ds δ1
 |_=>.stuck
def cS(h:DE X Z ow 0 e f):DI X Z ow tg e (bR f):=(aIE h).mono λσ H R q=>by
 let⟨F,δ,Rl,q⟩:=q;unfold bR at q;refine⟨F,δ,Rl,?_⟩;cases e1:f δ with
 |stuck=>rw[e1]at q;exact q.elim
 |ok d δ1=>
  rw[e1]at q;simp![Res.bind]at q;intro v H1 F1 R1 s1;have rp:=R1.rep;cases d with
  |list ds=>
   let⟨a,xs,rfl,hq,ra⟩:=oN rp;exact .inl ⟨a,rfl,⟨xs,R1.rel.sub.seq hq⟩,q _ H1 F1 R1.rel s1 (WO hq ra)⟩
  |tuple ds=>
   let⟨a,xs,rfl,hq,ra⟩:=G4 rp;exact .inr ⟨a,rfl,⟨xs,R1.rel.sub.seqT hq⟩,q _ H1 F1 R1.rel s1 (aDE hq ra)⟩
  |_=>exact q.elim
def pY(fs:List (M D)):M (ZG):=λδ=>(bO fs δ).bind λds δ1=>match GY ds with
 |some (lo,n)=>.ok (zL lo n) δ1
 |none=>.stuck
def hJ{p2 p3:Pos}(hgl:Gl X "range")(hm:X.mg "range"=none)(hi:DE X Z ow 0 b f)(hst:↥(Zse b [] X.env)):DI X Z ow tg (.Call (.Name "range" p2) [b] [] p3) (pY [f]):=
 (SU hgl hm (aG hi aV hst) hst).mono λσ H R q=>by
  let⟨F,δ,Rl,q⟩:=q;unfold pY at q;refine⟨F,δ,Rl,?_⟩;cases e1:bO [f] δ with
  |stuck=>rw[e1]at q;exact q.elim
  |ok ds δ1=>
   rw[e1]at q;simp![Res.bind]at q;intro vs H1 F1 R1 s1 ra;cases e2:GY ds with
   |none=>rw[e2]at q;exact q.elim
   |some p=>
    let⟨lo,m⟩:=p;rw[e2]at q;let⟨j,rfl,h1,h2,rfl,rfl⟩:=WE e2 (E6 e1);exact⟨j,WF ra,h1,h2,q _ H1 F1 R1 s1 aDF⟩
def VC.turn{J:It}{ds:ZG}{F1 H':Hp}{i:Nat}{x:V}{d:D}(T:VC X.K F1 J ds)(R:eJ X.K Z ow F H σ δ)(s:aW F1 F)(y:J.yld i H x H')(e:ds[i]?=some d):∃F',aW F F'/\eJ X.K Z ow F' H' σ δ/\cI X.K F' d x:=by
 rcases T.yld i H x H' d (s.trans' R.sub) y e with ⟨rfl,r⟩|⟨p,o,hp,rfl,r⟩
 .exact⟨F,aW.refl _,R,s.rep _ _ r⟩
 .have fp:=R.fnone hp
  exact⟨eB F p o,dP fp o,R.laid hp,r F s fp⟩
def c6(set:D->DS->Option DS)(f:M (ZG))(u:M Fl):M Fl:=λδ=>(f δ).bind λds δ1=>k5 set u ds δ1
def cG{f:M (ZG)}(hp:PassesOwn (model X.prog X.w) X.A X.env X.xe)(hc:X.calm=true)(hi:DI X Z ow tg e f)(hg:PG X tg g)(hs:Ġ X Z ow g set)(hb:QD X Z ow ow ow ox rm sts u)(hf: ~~~(Zfi e X.env)):NK X Z ow ow ol ox rm (.For tg e sts [] pos) (c6 set f u):=PS.mono (aHS hp hc hi hg hb hf) λDn σ H h=>by
 let⟨F,δ,R,h⟩:=h;unfold c6 at h;refine⟨F,δ,R,?_⟩;cases e1:f δ with
 |stuck=>rw[e1]at h;exact h.elim
 |ok ds δ1=>
  rw[e1]at h;simp![Res.bind]at h;intro J H1 F1 R1 s1 T;refine⟨λi m σ H=>m=ds.length-i/\i<=ds.length/\∃F2 δ,eJ X.K Z ow F2 H σ δ/\aW F1 F2/\kS X Z ow ol ox rm (k5 set u (ds.drop i) δ) F2 Dn,⟨ds.length,rfl,î _,F1,δ1,R1,aW.refl _,h.mono s1⟩,?_⟩;rintro i m σ2 H2 ⟨rfl,hi,F2,δ2,R2,s2,k2⟩;by_cases hlt:i<ds.length
  .refine .inr ⟨T.go i H2 (s2.trans' R2.sub) hlt,λσ' H'=>∃F3 δ,eJ X.K Z ow F3 H' σ' δ/\aW F1 F3/\kS X Z ow ol ox rm (k5 set u (ds.drop (i+1)) δ) F3 Dn,λσ' H' q=>⟨ds.length-(i+1),∅,rfl,hlt,q⟩,λx H' y=>?_⟩
   have ed:=Ç hlt;let⟨F3,s3,R3,r3⟩:=T.turn R2 s2 y ed;exact aC7 (Pv:=λj σ' H'=>∃F3 δ,eJ X.K Z ow F3 H' σ' δ/\aW F1 F3/\kS X Z ow ol ox rm (k5 set u (ds.drop j) δ) F3 Dn) hs R3 (s2.trans' s3) (k2.mono s3) ed r3 λk σ H F δ q1 q2 q3=>⟨F,δ,q1,q2,q3⟩
  .have e:i=ds.length:=by lia
   subst e;rw[List.drop_length]at k2;exact .inl ⟨T.stop H2 (s2.trans' R2.sub),k2 σ2 H2 F2 R2 (aW.refl _)⟩
def WP(k:Nat)(g:ZN):ZN:=λa=>match g a with
 |some (i,p)=>if i=1000 then none else some (i+k,p)
 |none=>none
def NQ{k:Nat}{g:ZN}{a:Addr}{i:Nat}{p:ZF}(h:WP k g a=some (i,p)):∃j,g a=some (j,p)/\i=j+k/\j≠1000:=by
 unfold WP at h;cases e:g a with
 |none=>rw[e]at h;cases h
 |some l=>
  let⟨j,q⟩:=l;rw[e]at h;dsimp only at h;split at h
  .cases h
  .rename_i hj;cases h;exact⟨j,rfl,rfl,hj⟩
def NR{k:Nat}{g:ZN}{a:Addr}{j:Nat}{p:ZF}(h:g a=some (j,p))(hj:j≠1000):WP k g a=some (j+k,p):=by
 unfold WP;rw[h];exact Ã hj
def dQ.sh(Z:dQ)(k:Nat):dQ:=⟨Z.F0,Z.H0,WP k Z.g0,Z.ps.map (·+k),List.replicate k none++Z.σ0,List.replicate k 0++Z.owp,λa i q h=>by
 let⟨j,e1,e2,_⟩:=NQ h;rw[e2];exact Æ.mpr ⟨j,Z.wf a j q e1,rfl⟩⟩
def oP{k i:Nat}:(List.replicate k 0++ow).getD (i+k) 0=ow.getD i 0:=by
 rw[Ð,Ð,Þ (by simp),é,Ć]
def bH.lt{i:Nat}(S:bH Z ow)(h:ow.getD i 0≠0):i<1000:=by
 by_cases hl:i<ow.length
 .exact Ô hl S.ow
 .exact absurd (by rw[Ð,Ú (by exact å.mp ‹_›)];rfl) h
def cC.sh{k i:Nat}{g:ZN}{n:Nat}{p:ZF}{d:D}{v:V}(hi:n=0\/i≠1000)(h:cC K F H g i n p d v):cC K F H (WP k g) (i+k) n p d v:=by
 rcases hi with rfl|hi
 .exact h
 .exact h.relab λa p e=>NR e hi
def eJ.sh{k:Nat}(S:bH Z ow)(R:eJ K Z ow F H σ δ):eJ K (Z.sh k) (List.replicate k 0++ow) F H (List.replicate k none++σ) (List.replicate k none++δ):=by
 let⟨g,R⟩:=R;refine⟨WP k g,R.sub,R.f0,λb o n e=>R.kept b o ?_ e,R.new,R.there,λa i p e=>?_,by simp[R.len],λi hi=>?_,λi d e=>?_⟩
 .cases e1:Z.g0 b with
  |none=>rfl
  |some l=>
   let⟨j,q⟩:=l;have n:WP k Z.g0 b=none:=n;rw[NR e1 λz=>S.ps (by rw[<- z];exact Z.wf b j q e1)]at n;cases n
 .obtain⟨j,e1,e2,e3⟩:=NQ e
  rcases R.lab a j p e1 with z|⟨q,z⟩
  .exact .inl z
  .exact .inr ⟨q,by rw[e2];exact NR z e3⟩
 .obtain⟨j,hj,rfl⟩:=Æ.mp (show i∈Z.ps.map (·+k)from hi)
  let⟨p1,p2⟩:=R.par j hj;refine⟨?_,?_⟩
  .show (List.replicate k none++σ)[j+k]?=(List.replicate k none++Z.σ0)[j+k]?
   rw[Þ (by simp),Þ (by simp),é,Ć];exact p1
  .show (List.replicate k 0++ow).getD (j+k) 0=(List.replicate k 0++Z.owp).getD (j+k) 0
   rw[oP,oP];exact p2
 .by_cases hi:i<k
  .rw[ã (by simpa using hi),ÿ]at e
   split at e<;>cases e
  .rw[Þ (by simp;exact å.mp ‹_›),é]at e
   let⟨v,e1,o⟩:=R.slot _ d e;obtain⟨j,rfl⟩:∃j,i=j+k:=⟨i-k,∅⟩;rw[Ć]at e1 o;refine⟨v,by rw[Þ (by simp),é,Ć];exact e1,?_⟩;rw[oP];refine o.sh ?_;by_cases hz:ow.getD j 0=0
   .exact .inl hz
   .exact .inr (Ï (S.lt hz))
def eJ.unsh{k:Nat}{σ':St}{δ':DS}(S:bH Z ow)(hs:bH (Z.sh k) (List.replicate k 0++ow))(R:eJ K (Z.sh k) (List.replicate k 0++ow) F H σ' δ')(hσ:∀i,σ'[i+k]?=σ[i]?)(hl:σ'.length=σ.length+k)(hk:k<=δ'.length):eJ K Z ow F H σ (δ'.drop k):=by
 let⟨g,R⟩:=R;have un:∀a i p,(λb=>match g b with|some (j,q)=>if j<k\/j-k=1000 then none else some (j-k,q)|none=>none:ZN) a=some (i,p)->g a=some (i+k,p):=λa i p e=>by
  dsimp only at e;cases e1:g a with
  |none=>rw[e1]at e;cases e
  |some l=>
   let⟨j,q⟩:=l;rw[e1]at e;dsimp only at e;split at e
   .cases e
   .rename_i hj
    cases e;have:j-k+k=j:=by lia
    rw[this]
 have ins:∀a i p,i≠1000->g a=some (i+k,p)->(λb=>match g b with|some (j,q)=>if j<k\/j-k=1000 then none else some (j-k,q)|none=>none:ZN) a=some (i,p):=λa i p hi e=>by
  dsimp only;rw[e];dsimp only;rw[Ã ∅,Ć]
 refine⟨λb=>match g b with|some (j,q)=>if j<k\/j-k=1000 then none else some (j-k,q)|none=>none,R.sub,R.f0,λb o n e=>R.kept b o ?_ e,R.new,R.there,λa i p e=>?_,?_,λi hi=>?_,λi d e=>?_⟩
 .show WP k Z.g0 b=none
  unfold WP;rw[n]
 .rcases R.lab a (i+k) p (un a i p e)with z|⟨q,z⟩
  .exact .inl z
  .obtain⟨j,e1,e2,_⟩:=NQ (show WP k Z.g0 a=some (i+k,q)from z)
   have:i=j:=by lia
   rw[this];exact .inr ⟨q,e1⟩
 .rw[List.length_drop,R.len,hl];lia
 .obtain⟨p1,p2⟩:=R.par (i+k) (Æ.mpr ⟨i,hi,rfl⟩)
  have p1:σ'[i+k]?=(List.replicate k none++Z.σ0)[i+k]?:=p1;have p2:(List.replicate k 0++ow).getD (i+k) 0=(List.replicate k 0++Z.owp).getD (i+k) 0:=p2;rw[hσ,Þ (by simp),é,Ć]at p1;rw[oP,oP]at p2;exact⟨p1,p2⟩
 .rw[List.getElem?_drop,Nat.add_comm]at e
  let⟨v,e1,o⟩:=R.slot _ d e;rw[hσ]at e1;rw[oP]at o;refine⟨v,e1,?_⟩;by_cases hz:ow.getD i 0=0
  .rw[hz]at o⊢;exact o
  .exact o.relab λa p e=>ins a i p (Ï (S.lt hz)) e
def ĉ(X:Cx)(Z:dQ)(ow:ZF)(k:Nat)(g:TG)(set:D->DS->Option DS):Prop:=∀(F H:Hp)(σ:St)(δ δ':DS)(d:D)(v:V)(Q:St->Hp->Prop),eJ X.K Z ow F H σ δ->cI X.K F d v->set d δ=some δ'->(∀σ',eJ X.K Z ow F H σ' δ'->σ'.length=σ.length->δ'.length=δ.length->(∀i,σ'[i+k]?=σ[i+k]?)->Q σ' H)->g v σ H Q
def cB{k i:Nat}(S:bH Z ow)(hk:i<k)(hps:i∉Z.ps)(hl:i<ow.length)(h0:ow.getD i 0=0):ĉ X Z ow k (p8 i) (cH i):=λF H σ δ δ' d v Q R r e q=>by
 unfold cH at e;split at e
 .rename_i hi
  cases e;have:=(R.x r).store S hi hps hl;rw[Β h0]at this;exact q _ this (by simp) (by simp) λj=>Ü ∅
 .cases e
def cL(set:D->DS->Option DS)(t:M Bool)(e:M D):ZG->ZG->DS->Res (ZG)
 |[],acc,δ=>.ok acc δ
 |d::ds,acc,δ=>match set d δ with
  |none=>.stuck
  |some δ1=>(t δ1).bind λb δ2=>if b=true then (e δ2).bind λy δ3=>(if acc.length<sizeLine then cL set t e ds (acc++[y]) δ3 else .stuck)else (if acc.length<sizeLine then cL set t e ds acc δ2 else .stuck)
def bX(k:Nat)(set:D->DS->Option DS)(f:M (ZG))(t:M Bool)(e:M D):M D:=λδ=>(f δ).bind λds δ1=>match cL set t e ds [] (List.replicate k none++δ1)with
 |.ok acc δ2=>if k<=δ2.length then .ok (.list acc) (δ2.drop k)else .stuck
 |_=>.stuck
def aP3(X:Cx)(Z:dQ)(ow:ZF)(n:Nat)(r:Res D)(F:Hp)(σ:St)(Q:VK):Prop:=match r with
 |.ok d δ=>∀v H' F',iF X.K Z ow n d v F' H' σ δ->aW F F'->Q v H'
 |_=>False
def ė(X:Cx)(Z:dQ)(ow:ZF)(n:Nat)(f:M D):TE:=λσ H Q=>∃F δ,eJ X.K Z ow F H σ δ/\aP3 X Z ow n (f δ) F σ Q
def aP4(X:Cx)(Z:dQ)(ow:ZF)(r:Res Bool)(F:Hp)(σ:St)(Q:Bool->Hp->Prop):Prop:=match r with
 |.ok b δ=>∀H' F',eJ X.K Z ow F' H' σ δ->aW F F'->Q b H'
 |_=>False
def ĵ(X:Cx)(Z:dQ)(ow:ZF)(f:M Bool):TT:=λσ H Q=>∃F δ,eJ X.K Z ow F H σ δ/\aP4 X Z ow (f δ) F σ Q
def KF{k:Nat}{wi:TI}{fi:M (ZG)}{t:M Bool}{fe:M D}{Q:VK}(S:bH Z ow)(Sk:bH (Z.sh k) (List.replicate k 0++ow))(hs:ĉ X (Z.sh k) (List.replicate k 0++ow) k g set)(q:tD X Z ow 1 (bX k set fi t fe) σ H Q):QA k (tI X Z ow fi) g (ĵ X (Z.sh k) (List.replicate k 0++ow) t) (ė X (Z.sh k) (List.replicate k 0++ow) 0 fe) σ H Q:=by
 let⟨F,δ,R,q⟩:=q;unfold bX at q;refine⟨F,δ,R,?_⟩;cases e1:fi δ with
 |stuck=>rw[e1]at q;exact q.elim
 |ok ds δ1=>
  rw[e1]at q;simp![Res.bind]at q;intro J H1 F1 R1 s1 T;have hcase:∃acc δ2,cL set t fe ds [] (List.replicate k none++δ1)=.ok acc δ2/\k<=δ2.length/\kD X Z ow 1 (.ok (.list acc) (δ2.drop k)) F σ Q:=by
   cases e2:cL set t fe ds [] (List.replicate k none++δ1)with
   |stuck=>rw[e2]at q;exact q.elim
   |ok acc δ2=>
    rw[e2]at q;dsimp only at q;split at q
    .rename_i hk;exact⟨acc,δ2,rfl,hk,q⟩
    .exact q.elim
  let⟨acc,δ2,e2,hk2,q⟩:=hcase;refine⟨λi m ys σ' H'=>m=ds.length-i/\i<=ds.length/\σ'.length=σ.length+k/\(∀i,σ'[i+k]?=σ[i]?)/\∃F2 δ' acc',eJ X.K (Z.sh k) (List.replicate k 0++ow) F2 H' σ' δ'/\aW F1 F2/\aJ X.K F2 acc' ys/\cL set t fe (ds.drop i) acc' δ'=.ok acc δ2,
   ⟨ds.length,rfl,î _,by simp;exact Nat.add_comm _ _,λi=>by rw[Þ (by simp),é,Ć],F1,_,[],R1.sh S,aW.refl _,mU,e2⟩,?_⟩
  rintro i m ys σ2 H2 ⟨rfl,hi,hl2,hσ2,F2,δ',acc',R2,s2,ra,e3⟩;by_cases hlt:i<ds.length
  .have ed:=Ç hlt
   have ee:ds.drop i=ds[i]::ds.drop (i+1):=ð hlt;rw[ee]at e3;unfold cL at e3;cases e4:set ds[i] δ' with
   |none=>simp![e4]at e3;cases e3
   |some δ3=>
    simp![e4]at e3;have small:acc'.length<sizeLine:=by
     cases e5:t δ3 with
     |stuck=>rw[e5]at e3;cases e3
     |ok bb δ4=>
      rw[e5]at e3;simp![Res.bind]at e3;cases bb with
      |false=>
       rw[Ã Ý]at e3;split at e3
       .assumption
       .cases e3
      |true=>
       rw[Á rfl]at e3;cases e6:fe δ4 with
       |stuck=>rw[e6]at e3;cases e3
       |ok y δ5=>
        rw[e6]at e3;dsimp only at e3;split at e3
        .assumption
        .cases e3
    refine .inr ⟨T.go i H2 (s2.trans' R2.sub) hlt,by rw[<- ra.len];exact small,λzs σ'' H''=>σ''.length=σ.length+k/\(∀i,σ''[i+k]?=σ[i]?)/\∃F3 δ' acc',eJ X.K (Z.sh k) (List.replicate k 0++ow) F3 H'' σ'' δ'/\aW F1 F3/\aJ X.K F3 acc' zs/\cL set t fe (ds.drop (i+1)) acc' δ'=.ok acc δ2,λzs σ'' H'' z=>⟨ds.length-(i+1),∅,rfl,hlt,z⟩,λx H3 y=>?_⟩
    let⟨F3,s3,R3,r3⟩:=T.turn R2 s2 y ed;refine hs F3 H3 σ2 δ' δ3 ds[i] x _ R3 r3 e4 λσ3 R4 l3 _ hσ3=>⟨F3,δ3,R4,?_⟩;have hl3:σ3.length=σ.length+k:=by exact Eq.trans ‹_› ‹_›
    have hσ4:∀i,σ3[i+k]?=σ[i]?:=λi=>(hσ3 i).trans (hσ2 i);cases e5:t δ3 with
    |stuck=>rw[e5]at e3;cases e3
    |ok bb δ4=>
     rw[e5]at e3;simp![Res.bind]at e3;intro H5 F5 R5 s5;cases bb with
     |false=>
      rw[Ã Ý,Á small]at e3;rw[Ã Ý];exact⟨hl3,hσ4,F5,δ4,acc',R5,s2.trans' (s3.trans' s5),(s3.trans' s5).repAll _ _ ra,e3⟩
     |true=>
      rw[Á rfl]at e3;rw[Á rfl];refine⟨F5,δ4,R5,?_⟩;cases e6:fe δ4 with
      |stuck=>rw[e6]at e3;cases e3
      |ok yd δ5=>
       rw[e6]at e3;dsimp only at e3;rw[Á small]at e3;intro yv H6 F6 R6 s6;exact⟨hl3,hσ4,F6,δ5,acc'++[yd],R6.rel,s2.trans' (s3.trans' (s5.trans' s6)),((s3.trans' (s5.trans' s6)).repAll _ _ ra).app (jS R6.rep mU),e3⟩
  .have e:i=ds.length:=by lia
   subst e;rw[List.drop_length]at e3;unfold cL at e3;cases e3;refine .inl ⟨T.stop H2 (s2.trans' R2.sub),λp hp=>?_⟩;have R7:eJ X.K Z ow F2 H2 σ (δ2.drop k):=R2.unsh S Sk hσ2 hl2 hk2;exact q _ _ F2 (R7.newList S hp ra) (s1.trans' s2)
def WQ{X':Cx}{f:M D}{Q:VK}(hK:X'.K=X.K)(h:ė X Z ow n f σ H Q):tD X' Z ow n f σ H Q:=by
 let⟨F,δ,R,h⟩:=h;refine⟨F,δ,by rw[hK];exact R,?_⟩;cases e:f δ with
 |stuck=>rw[e]at h;exact h
 |ok d δ1=>rw[e]at h;exact λv H' F' R' s=>h v H' F' (by rw[<- hK];exact R') s
def Ε{X':Cx}{f:M Bool}{Q:Bool->Hp->Prop}(hK:X'.K=X.K)(h:ĵ X Z ow f σ H Q):tT X' Z ow f σ H Q:=by
 let⟨F,δ,R,h⟩:=h;refine⟨F,δ,by rw[hK];exact R,?_⟩;cases e:f δ with
 |stuck=>rw[e]at h;exact h
 |ok d δ1=>rw[e]at h;exact λH' F' R' s=>h H' F' (by rw[<- hK];exact R') s
def bY:M Bool:=λδ=>.ok true δ
def cV:ô X [] (tT X Z ow bY):=λU s σ H Q I h=>by
 let⟨F,δ,R,h⟩:=h;exact P9 U s σ H Q I (h H F R (aW.refl _))
def QL{c:Expr}{t:M Bool}(h:DT X Z ow c t):ô X [c] (tT X Z ow t):=aC3 h
def cP{elt iter:Expr}{ifs:List Expr}{scope:Scope}{xs:ZE}{fi:M (ZG)}{t:M Bool}{fe:M D}(S:bH Z ow)(Sk:bH (Z.sh xs.length) (List.replicate xs.length 0++ow))(hc:X.calm=true)(hi:DI X Z ow tg iter fi)(hg:∀C fp s H,PG (bW X xs scope C fp s H) tg g)(hs:ĉ X (Z.sh xs.length) (List.replicate xs.length 0++ow) xs.length g set)(hif:∀C fp s H,ô (bW X xs scope C fp s H) ifs (tT (bW X xs scope C fp s H) (Z.sh xs.length) (List.replicate xs.length 0++ow) t))(he:∀C fp s H,DE (bW X xs scope C fp s H) (Z.sh xs.length) (List.replicate xs.length 0++ow) 0 elt fe)(hk:↥(scope.kind=.function))(hok:↥(gO X.N xs scope.names X.env.scope.names=true))(hfs: ~~~(Zfi iter X.env)):
  DE X Z ow 1 (.ListComp elt [⟨tg,iter,ifs,0⟩] scope pos) (bX xs.length set fi t fe):=
 PE.mono (V8 (ti:=ĵ X (Z.sh xs.length) (List.replicate xs.length 0++ow) t) (te:=ė X (Z.sh xs.length) (List.replicate xs.length 0++ow) 0 fe) hc hi hg (λC fp s H U s' σ H' Q I h=>hif C fp s H U s' σ H' Q I (Ε (X:=X) (X':=bW X xs scope C fp s H) rfl h)) (λC fp s H=>PE.mono (he C fp s H) λ_ _ _ h=>WQ (X:=X) (X':=bW X xs scope C fp s H) rfl h) hk hok hfs)
  λ_ _ _ q=>KF (wi:=tI X Z ow fi) S Sk hs q
def kL(i:Nat){x:Str}{pos' spos:Pos}{elt iter:Expr}{ifs:List Expr}{scope:Scope}{xs:ZE}{fi:M (ZG)}{t:M Bool}{fe:M D}(S:bH Z ow)(Sk:bH (Z.sh xs.length) (List.replicate xs.length 0++ow))(hc:X.calm=true)(hN:X.N.Nodup)(hi:DI X Z ow tg iter fi)(hg:∀C fp s H,PG (bW X xs scope C fp s H) tg g)(hs:ĉ X (Z.sh xs.length) (List.replicate xs.length 0++ow) xs.length g set)(hif:∀C fp s H,ô (bW X xs scope C fp s H) ifs (tT (bW X xs scope C fp s H) (Z.sh xs.length) (List.replicate xs.length 0++ow) t))(he:∀C fp s H,DE (bW X xs scope C fp s H) (Z.sh xs.length) (List.replicate xs.length 0++ow) 0 elt fe)(hx:↥(X.N[i]?=some x))(hl:↥(X.env.scope.names.lookup x=some .local))(hps:↥(Z.ps.contains i=false))(hlo:⇑(i<ow.length))(hsw:↥(swapsWith (.ListComp elt [⟨tg,iter,ifs,0⟩] scope pos) (some (.Name x pos')) spos.line X.env=pure true))(hk:↥(scope.kind=.function))(hok:↥(gO X.N xs scope.names X.env.scope.names=true))(hfs: ~~~(Zfi iter X.env)):
  NK X Z ow (ow.set i 1) ol ox rm (.Assign [.Name x pos'] (.ListComp elt [⟨tg,iter,ifs,0⟩] scope pos) spos) (bT i (bX xs.length set fi t fe)):=
 PS.mono (u4 (ti:=ĵ X (Z.sh xs.length) (List.replicate xs.length 0++ow) t) (te:=ė X (Z.sh xs.length) (List.replicate xs.length 0++ow) 0 fe) hc hN hx hl hi hg (λC fp s H U s' σ H' Q I h=>hif C fp s H U s' σ H' Q I (Ε (X:=X) (X':=bW X xs scope C fp s H) rfl h)) (λC fp s H=>PE.mono (he C fp s H) λ_ _ _ h=>WQ (X:=X) (X':=bW X xs scope C fp s H) rfl h) hsw hk hok hfs)
  λDn σ H h=>KF (wi:=tI X Z ow fi) S Sk hs (AE S (bQ hps) hlo h)
end
section
variable{X:Cx}{Z:dQ}{ow ow' ol ox:ZF}{n rm:Nat}{pos:Pos}{e a b c:Expr}{f h k:M D}{F H:Hp}{σ:St}{δ:DS}{K:ZC}
def vA{d:D}{vs:List V}(h:aJ K F [d] vs):∃v,vs=[v]/\cI K F d v:=by
 unfold aJ at h;let⟨x,r,rfl,rx,h⟩:=h;unfold aJ at h;exact⟨x,by rw[h],rx⟩
def aIL:WC X (λxs H Q=>(∃p ys,xs=[.ref p]/\(gM X.K H p ys\/tX X.K H p ys)/\Q (.int ys.length) H)\/(∃z,xs=[.str z]/\z.length<=sizeLine/\Q (.int z.length) H)) 0 dR:=λZ ow F H σ δ ds vs d Q S R ra e q=>by
 unfold dR at e;split at e<;>try cases e
 split at e<;>try cases e
 .obtain⟨v,rfl,r⟩:=vA ra
  let⟨p,xs,rfl,hp,hr⟩:=oN r;rw[hr.len]at q;exact .inl ⟨p,xs,rfl,.inl (R.sub.seq hp),q _ H F (R.x kF) (aW.refl _)⟩
 .obtain⟨v,rfl,r⟩:=vA ra
  let⟨p,xs,rfl,hp,hr⟩:=G4 r;rw[hr.len]at q;exact .inl ⟨p,xs,rfl,.inr (R.sub.seqT hp),q _ H F (R.x kF) (aW.refl _)⟩
 .split at e
  .rename_i hz
   cases e;let⟨v,rfl,r⟩:=vA ra;obtain rfl:=fI r;exact .inr ⟨_,rfl,hz,q _ H F (R.x kF) (aW.refl _)⟩
  .cases e
def eV{p:Pos}(S:bH Z ow)(hg:Gl X "len")(hm:X.mg "len"=none)(ha:DE X Z ow 0 e f)(hs:↥(Zse e [] X.env))(hpl:↥(Zbt pos [] X.env)):DE X Z ow 0 (.Call (.Name "len" p) [e] [] pos) (jY dR [f]):=
 nU S (uZ.or GT) aIL hg hm V3 (aG ha aV hs) ⋯ ⋯ hs hpl
def WR:ZG->ZJ
 |[.int i]=>some (.int (if i<0 then -i else i))
 |_=>none
def WS:WC X (λxs H Q=>∃i,xs=[.int i]/\Q (.int (if i<0 then -i else i)) H) 0 WR:=λZ ow F H σ δ ds vs d Q S R ra e q=>by
 unfold WR at e;split at e
 .cases e
  let⟨v,rfl,r⟩:=vA ra;exact⟨_,by rw[k8 r],q _ H F (R.x kF) (aW.refl _)⟩
 .cases e
def KG:ZG->ZJ
 |[.list ds]=>some (.list ds)
 |[.tuple ds]=>some (.list ds)
 |_=>none
def aDG:WC X (λxs H Q=>∃p ys,xs=[.ref p]/\(gM X.K H p ys\/tX X.K H p ys)/\∀l,H l=none->Q (.ref l) (eB H l (.lst ys))) 1 KG:=λZ ow F H σ δ ds vs d Q S R ra e q=>by
 unfold KG at e;split at e
 .cases e
  let⟨v,rfl,r⟩:=vA ra;let⟨p,xs,rfl,hp,hr⟩:=oN r;exact⟨p,xs,rfl,.inl (R.sub.seq hp),λl hl=>q _ _ F (R.newList S hl hr) (aW.refl _)⟩
 .cases e
  let⟨v,rfl,r⟩:=vA ra;let⟨p,xs,rfl,hp,hr⟩:=G4 r;exact⟨p,xs,rfl,.inr (R.sub.seqT hp),λl hl=>q _ _ F (R.newList S hl hr) (aW.refl _)⟩
 .cases e
def G6:ZG->ZJ
 |[.list ds]=>some (.tuple ds)
 |[.tuple ds]=>some (.tuple ds)
 |_=>none
def WT:WC X (λxs H Q=>∃p ys,xs=[.ref p]/\((gM X.K H p ys/\∀l,H l=none->Q (.ref l) (eB H l (.tup ys)))\/(tX X.K H p ys/\Q (.ref p) H))) 0 G6:=λZ ow F H σ δ ds vs d Q S R ra e q=>by
 unfold G6 at e;split at e
 .cases e
  let⟨v,rfl,r⟩:=vA ra;let⟨p,xs,rfl,hp,hr⟩:=oN r;refine⟨p,xs,rfl,.inl ⟨R.sub.seq hp,λl hl=>?_⟩⟩;have fl:=R.fnone hl;exact q _ _ (eB F l (.tup xs)) ((R.laid hl).x (oK fl hr)) (dP fl _)
 .cases e
  let⟨v,rfl,r⟩:=vA ra;let⟨p,xs,e',hp,hr⟩:=G4 r;subst e';exact⟨p,xs,rfl,.inr ⟨R.sub.seqT hp,q _ H F (R.x r) (aW.refl _)⟩⟩
 .cases e
inductive Ty where|int|bool|str|list|tuple
def Ty.name:Ty->String
 |.int=>"int"|.bool=>"bool"|.str=>"str"|.list=>"list"|.tuple=>"tuple"
def A8:Ty->D->ZJ
 |.int,.int _=>some (.bool true)|.int,.bool _=>some (.bool true)|.bool,.bool _=>some (.bool true)|.str,.str _=>some (.bool true)|.list,.list _=>some (.bool true)|.tuple,.tuple _=>some (.bool true)
 |_,.dict _=>none
 |_,_=>some (.bool false)
def S6(T:Ty):iH X (.builtin "isinstance") (λxs H Q=>∃(x:V)(d:D)(b:Bool),xs=[x,.ty T.name]/\cI X.K H d x/\A8 T d=some (.bool b)/\Q (.bl b) H):=by
 intro U s σ H xs us Q I r h;let⟨x,d,b,rfl,rd,hb,q⟩:=h;let⟨u,v,rfl,rx,rc⟩:=aLC r;obtain rfl:v=Value.type T.name:=rc;obtain⟨t,G,Z,p,⟨c,e2,e⟩,hx⟩:∃t G,W.KitX X.K u t G/\G s.heap/\(∃c,A8 T d=some (.bool c)/\W.kitOne X.K t (.type T.name)=some c)/\u≠.builtin "__main__.__loader__#opaque":=by
  cases d with
  |none=>obtain rfl:=aIG rd;cases (show u=Value.none from rx);exact⟨_,_,W.kitx_none,trivial,by cases T<;>exact⟨_,rfl,rfl⟩,nofun⟩
  |bool y=>obtain rfl:=E8 rd;cases (show u=Value.bool y from rx);exact⟨_,_,W.kitx_bool,trivial,by cases T<;>exact⟨_,rfl,rfl⟩,nofun⟩
  |int i=>obtain rfl:=k8 rd;let⟨t,q'⟩:=(show ∃t,u=Value.int i t from rx);cases q';exact⟨_,_,W.kitx_int,trivial,by cases T<;>exact⟨_,rfl,rfl⟩,nofun⟩
  |str i=>obtain rfl:=fI rd;let⟨t,q'⟩:=(show ∃t,u=Value.str i t from rx);cases q';exact⟨_,_,W.kitx_str,trivial,by cases T<;>exact⟨_,rfl,rfl⟩,nofun⟩
  |list ds=>
   let⟨a,xs,rfl,hp,_⟩:=oN rd;cases (show u=Value.ref a from rx);let⟨_,_,⟨o,_,h1,h2,_⟩,_⟩:=I.list hp;exact⟨_,_,W.kitx_list,⟨o,h1,h2⟩,by cases T<;>exact⟨_,rfl,rfl⟩,nofun⟩
  |tuple ds=>
   let⟨a,xs,rfl,hp,_⟩:=G4 rd;cases (show u=Value.ref a from rx);let⟨_,_,⟨o,h1,h2,_⟩,_⟩:=I.tuple hp;exact⟨_,_,W.kitx_tuple,⟨o,h1,h2⟩,by cases T<;>exact⟨_,rfl,rfl⟩,nofun⟩
  |dict _=>cases T<;>cases hb
 cases hb.symm.trans e2;exact W.kia_one Z I.kIn p e hx λtk=>⟨.bl b,H,I.tok tk,rfl,q⟩
def WU(T:Ty){x:Str}{p p2:Pos}(hx:x=T.name)(hg:Gl X "isinstance")(hm:X.mg "isinstance"=none)(Ċ:Gl X x)(hmt:X.mg x=none)(hbt:bootBuiltins x=some (.type T.name))(ha:DE X Z ow 0 e f)(hn:⇑(x≠"__name__"))(hd:⇑(Zdb x))(hs:↥(starEach [e,.Name x p2] X.env=(false,eval e X.env)::starEach [.Name x p2] X.env))(hs2:↥(starEach [.Name x p2] X.env=(false,eval (.Name x p2) X.env)::starEach [] X.env))(hpl:↥((backTo pos (starEach [.Name x p2] X.env)).any (·.1)=false)):
  DE X Z ow 0 (.Call (.Name "isinstance" p) [e,.Name x p2] [] pos) (t6 (A8 T) f):=
 PE.mono (AU (S6 T) hg hm DY (iI ha (iI (aLN Ċ hmt hbt hn hd) oH hs2) hs) ⋯ ⋯ hs hpl) λσ H Q q=>by
  let⟨F,δ,R,q⟩:=q;unfold t6 at q;refine⟨F,δ,R,?_⟩;cases e:f δ with
  |stuck=>rw[e]at q;exact q.elim
  |ok d δ1=>
   rw[e]at q;simp![Res.bind]at q;intro v H1 F1 R1 s1;have hb:∀r,A8 T d=some r->∃b,r=.bool b:=λr h=>by
    cases T<;>cases d<;>cases h<;>exact⟨_,rfl⟩
   cases e1:A8 T d with
   |none=>rw[e1]at q;exact q.elim
   |some r=>
    rw[e1]at q;let⟨b,rfl⟩:=hb r e1;exact⟨v,d,b,rfl,R1.rel.sub.rep _ _ R1.rep,e1,q _ H1 F1 (R1.rel.x sQ) s1⟩
def D1(xs:ZG)(lo hi:Option Int):ZG:=(xs.drop (HT.sIx xs.length 0 lo)).take (HT.sIx xs.length xs.length hi-HT.sIx xs.length 0 lo)
def aJ.cut{ds:ZG}{vs:List V}(r:aJ K F ds vs)(lo hi:Option Int):aJ K F (D1 ds lo hi) (GN vs lo hi):=by
 unfold D1 GN;rw[r.len];exact(r.drop _).take _
def iO:Option (M D)->M (Option Int)
 |none=>λδ=>.ok none δ
 |some f=>λδ=>(f δ).bind λd δ1=>match d with
  |.int i=>.ok (some i) δ1
  |_=>.stuck
def kO(X:Cx)(Z:dQ)(ow:ZF)(r:Res (Option Int))(F:Hp)(σ:St)(Q:Option Int->Hp->Prop):Prop:=match r with
 |.ok o δ=>∀H' F',eJ X.K Z ow F' H' σ δ->aW F F'->Q o H'
 |.stuck=>False
def aP5(X:Cx)(Z:dQ)(ow:ZF)(f:Option (M D)):TO:=λσ H Q=>∃F δ,eJ X.K Z ow F H σ δ/\kO X Z ow (iO f δ) F σ Q
def DO(X:Cx)(Z:dQ)(ow:ZF)(e:Option Expr)(f:Option (M D)):Prop:=PO X e (aP5 X Z ow f)
def PO.mono{o:Option Expr}{t t':TO}(h:PO X o t)(hm:∀σ H Q,t' σ H Q->t σ H Q):PO X o t':=λU s σ H Q I q=>h U s σ H Q I (hm σ H Q q)
def iP:DO X Z ow none none:=PO.mono aCW λσ H Q q=>by
 let⟨F,δ,R,q⟩:=q;exact q H F R (aW.refl _)
def iQ(h:DE X Z ow 0 e f):DO X Z ow (some e) (some f):=PO.mono (aCX h) λσ H Q q=>by
 let⟨F,δ,R,q⟩:=q;have q:kO X Z ow ((f δ).bind λd δ1=>match d with|.int i=>.ok (some i) δ1|_=>.stuck) F σ Q:=q;refine⟨F,δ,R,?_⟩;cases e:f δ with
 |stuck=>rw[e]at q;exact q.elim
 |ok d δ1=>
  rw[e]at q;simp![Res.bind]at q;intro v H1 F1 R1 s1;cases d with
  |int i=>exact⟨i,k8 R1.rep,q H1 F1 R1.rel s1⟩
  |_=>exact q.elim
def KH(op:D->Option Int->Option Int->ZJ)(f:M D)(lo hi:Option (M D)):M D:=λδ=>(f δ).bind λd δ1=>(iO lo δ1).bind λl δ2=>(iO hi δ2).bind λu δ3=>match op d l u with
 |some r=>.ok r δ3
 |none=>.stuck
def Ķ(X:Cx)(r:V->Option Int->Option Int->Hp->VK->Prop)(n:Nat)(op:D->Option Int->Option Int->ZJ):Prop:=∀(Z:dQ)(ow:ZF)(F H:Hp)(σ:St)(δ:DS)(a:D)(x:V)(l u:Option Int)(d:D)(Q:VK),bH Z ow->eJ X.K Z ow F H σ δ->cI X.K F a x->op a l u=some d ->
 (∀v H' F',iF X.K Z ow n d v F' H' σ δ->aW F F'->Q v H')->r x l u H Q
def gB{r:V->Option Int->Option Int->Hp->VK->Prop}{op:D->Option Int->Option Int->ZJ}{lo hi:Option Expr}{p2:Pos}{fl fh:Option (M D)}(S:bH Z ow)(hr:ğ X r)(os:Ķ X r n op)(he:DE X Z ow 0 e f)(hl:DO X Z ow lo fl)(hu:DO X Z ow hi fh):
  DE X Z ow n (.Subscript e (.Slice lo hi none p2) pos) (KH op f fl fh):=PE.mono (VX hr he hl hu) λσ H Q q=>by
 let⟨F,δ,R,q⟩:=q;unfold KH at q;refine⟨F,δ,R,?_⟩;cases e1:f δ with
 |stuck=>rw[e1]at q;exact q.elim
 |ok d δ1=>
  rw[e1]at q;simp![Res.bind]at q;intro v H1 F1 R1 s1;refine⟨F1,δ1,R1.rel,?_⟩;cases e2:iO fl δ1 with
  |stuck=>rw[e2]at q;exact q.elim
  |ok l δ2=>
   rw[e2]at q;dsimp only at q;intro H2 F2 R2 s2;refine⟨F2,δ2,R2,?_⟩;cases e3:iO fh δ2 with
   |stuck=>rw[e3]at q;exact q.elim
   |ok u δ3=>
    rw[e3]at q;dsimp only at q;intro H3 F3 R3 s3;cases e4:op d l u with
    |none=>rw[e4]at q;exact q.elim
    |some r0=>
     rw[e4]at q;exact os Z ow F3 H3 σ δ3 d v l u r0 Q S R3 ((s2.trans' s3).rep _ _ R1.rep) e4 λv' H' F' R' s'=>q v' H' F' R' (s1.trans' (s2.trans' (s3.trans' s')))
def zM:D->Option Int->Option Int->ZJ
 |.list ds,l,u=>some (.list (D1 ds l u))
 |_,_,_=>none
def AF:Ķ X (ſ X.K) 1 zM:=λZ ow F H σ δ a x l u d Q S R ra e q=>by
 unfold zM at e;split at e
 .cases e
  let⟨p,xs,rfl,hp,hr⟩:=oN ra;exact⟨p,xs,rfl,R.sub.seq hp,λt ht=>q _ _ F (R.newList S ht (hr.cut l u)) (aW.refl _)⟩
 .cases e
def vB:D->Option Int->Option Int->ZJ
 |.tuple ds,l,u=>if HT.sIx ds.length 0 l=0/\HT.sIx ds.length ds.length u=ds.length then none else some (.tuple (D1 ds l u))
 |_,_,_=>none
def wO:Ķ X (ź X.K) 0 vB:=λZ ow F H σ δ a x l u d Q S R ra e q=>by
 unfold vB at e;split at e
 .split at e
  .cases e
  .rename_i hw
   cases e;let⟨p,xs,rfl,hp,hr⟩:=G4 ra;rw[hr.len]at hw;refine⟨p,xs,rfl,R.sub.seqT hp,hw,λt ht=>?_⟩;have ft:=R.fnone ht;exact q _ _ (eB F t (.tup (GN xs l u))) ((R.laid ht).x (oK ft (hr.cut l u))) (dP ft _)
 .cases e
def aI{Z:dQ}{ow:ZF}(h1:↥(decide (ow.length<=1000)=true))(h2:↥(Z.ps.contains 1000=false)):bH Z ow:=⟨of_decide_eq_true h1,bQ h2⟩
end
def Ŕ(x:Str):It:=⟨λi _=>i<x.cps.size,λi H v H'=>H'=H/\∃c,x.cps[i]?=some c/\v=.str ⟨#[c]⟩,λi _=>i=x.cps.size⟩
def WW{P:Program}{w:World}{K:ZC}{tg:Expr}(x:Str)(t:Tok)(it:Addr):J4 P w K tg (Ŕ x) [it] it (λi h=>h.IsStrIter it (strIterType x) x t i):=by
 have hty:strIterType x="str_ascii_iterator"\/strIterType x="str_iterator":=by
  unfold strIterType;split
  .exact .inl rfl
  .exact .inr rfl
 have W:∀A:Around,A.handled=none->Walks P w A it [it] [it] x.cps.size (SignAt x) (λi h=>h.IsStrIter it (strIterType x) x t i):=λA hh=>by
  rcases hty with e|e
  .rw[e];exact Walks.strAscii hh it x t
  .rw[e];exact Walks.strWide hh it x t
 refine⟨by simp,λi h st b hb=>?_,λi h h' st k=>let ⟨o,ho,r⟩:=st;⟨o,k it (by simp) o ho,r⟩,?_,?_,λA i s Q E st h=>?_⟩
 .have e:b=it:=by simpa using hb
  subst e;let⟨o,e,c,d⟩:=st;exact⟨o,e,λv z=>by rw[d]at z;cases z⟩
 .intro X hP hw hK hc i U s σ H E I hf st hg
  subst hP hw hK;let⟨f0,f1,f2,f3,f4,f5⟩:=hf it (by simp);refine(W X.A (I.ok.hd hc)).item i s _ E hg st λv h' tk hv st' k=>?_;have I1:bM X U σ H {s with heap:=h',toks:=tk}:=I.turned (t':=tk) (λb o hb e=>k b o (by simpa using hb) e) f0 f1 f3 f4 f5;let⟨c,u,hx,rfl⟩:=hv;let⟨o,e,cl,d⟩:=id st';refine⟨_,rfl,P3 (s:={s with heap:=h',toks:=tk}) e cl d (by rcases hty with e|e<;>rw[e]<;>decide) ⟨.str ⟨#[c]⟩,H,I1,⟨u,rfl⟩,⟨rfl,c,hx,rfl⟩,st',λb hb=>(hf b hb).1⟩⟩
 .intro X hP hw hK hc i U s σ H E I hf st hg
  subst hP hw hK;let⟨f0,f1,f2,f3,f4,f5⟩:=hf it (by simp);have hg:i=x.cps.size:=hg;subst hg;exact(W X.A (I.ok.hd hc)).done s _ E st λh' tk k=>⟨rfl,I.turned (t':=tk) (λb o hb e=>k b o (by simpa using hb) e) f0 f1 f3 f4 f5⟩
 .have st:s.heap.IsStrIter it (strIterType x) x t i:=st
  rcases hty with e|e
  .rw[e]at st;exact wpAny_pyIter_striter_ascii st h
  .rw[e]at st;exact wpAny_pyIter_striter_wide st h
section
variable{X:Cx}{Z:dQ}{ow ow' ol ox:ZF}{n rm:Nat}{pos:Pos}{e tg a b c:Expr}{f h k:M D}{F H:Hp}{σ:St}{δ:DS}{K:ZC}
def aOR(tl:TE):TI:=λσ H R=>tl σ H λx H1=>∃z,x=.str z/\R (Ŕ z) H1
def aIM{l:Expr}{tl:TE}(hl:PE X l tl):PI X tg l (aOR tl):=by
 intro U s σ H R I h;refine dL (hl U s σ H _ I h) λv s1 zQ=>?_;let⟨x,H1,I1,r1,q1⟩:=zQ;let⟨z,rfl,q⟩:=q1;let⟨t,rfl⟩:=r1;refine wpAny_pyIter_strU ?_;refine⟨s1.heap.objs.size,[s1.heap.objs.size],_,_,H1,rfl,I1.kept (t':=s1.toks) λb o e=>Heap.get?_push_of_some _ e,WW z t _,⟨_,Heap.get?_push_size _ rfl,rfl,rfl⟩,λb hb=>?_,q⟩;have e:b=s1.heap.objs.size:=by simpa using hb
 subst e;exact I1.fpOk (È _) (I1.hok.fresh (È _))
def fB(z:Str):ZG:=z.cps.toList.map λc=>.str ⟨#[c]⟩
def aDH{z:Str}:VC K F (Ŕ z) (fB z) where
 go:=λi H s hi=>by
  have:(fB z).length=z.cps.size:=by unfold fB;simp
  rw[this]at hi;exact hi
 yld:=λi H x H' d s y e=>.inl ⟨y.1,by
  let⟨c,hc,rfl⟩:=y.2;unfold fB at e;rw[Ò]at e;have:z.cps.toList[i]?=some c:=by simpa using hc
  rw[this]at e;cases e;exact kG⟩
 stop:=λH s=>by
  show (fB z).length=z.cps.size;unfold fB;simp
def mW(f:M D):M (ZG):=λδ=>(f δ).bind λd δ1=>match d with
 |.str z=>.ok (fB z) δ1
 |_=>.stuck
def WX(h:DE X Z ow 0 e f):DI X Z ow tg e (mW f):=(aIM h).mono λσ H R q=>by
 let⟨F,δ,Rl,q⟩:=q;unfold mW at q;refine⟨F,δ,Rl,?_⟩;cases e1:f δ with
 |stuck=>rw[e1]at q;exact q.elim
 |ok d δ1=>
  rw[e1]at q;simp![Res.bind]at q;intro v H1 F1 R1 s1;cases d with
  |str z=>exact⟨z,fI R1.rep,q _ H1 F1 R1.rel s1 aDH⟩
  |_=>exact q.elim
def sA:pO X (compareOp .LtE) (λx y H Q=>∃i j,x=.str i/\y=.str j/\Q (.bl (!decide (j.cps.toList<i.cps.toList))) H):=by
 intro U s σ H x y v u Q I rx ry h;let⟨i,j,rfl,rfl,q⟩:=h;let⟨t,rfl⟩:=rx;let⟨t',rfl⟩:=ry;exact PySem.P.le_str ⟨.bl _,H,I,rfl,q⟩
def M1:D->D->ZJ
 |.str i,.str j=>some (.bool (!decide (j.cps.toList<i.cps.toList)))
 |_,_=>none
def G7:sY X (λx y H Q=>∃i j,x=.str i/\y=.str j/\Q (.bl (!decide (j.cps.toList<i.cps.toList))) H) 0 M1:=λZ ow F H σ δ a b x y d Q S R ra rb e q=>by
 unfold M1 at e;split at e
 .cases e;exact⟨_,_,fI ra,fI rb,q _ H F (R.x sQ) (aW.refl _)⟩
 .cases e
def b7.bl_at:∀{bs:List Bool}{us:ZH}{i:Nat}{u:Value},b7 (bs.map V.bl) us->us[i]?=some u->∃b,bs[i]?=some b/\u=.bool b
 |[],us,i,u,r,e=>by cases r;simp at e
 |b::bs,_,0,u,.cons r _,e=>by cases e;exact⟨b,rfl,r⟩
 |b::bs,_,i+1,u,.cons _ r,e=>by
  let⟨b',e1,e2⟩:=b7.bl_at (i:=i) r (by simpa using e);exact⟨b',e1,e2⟩
def S7{bs:List Bool}:(List.range bs.length).all (λi=>bs.getD i true)=bs.all id:=by
 rw[Bool.eq_iff_iff,ß,ß];constructor
 .intro h b hb
  let⟨i,hi,e⟩:=List.mem_iff_getElem.mp hb;have:=h i (List.mem_range.mpr hi);rw[Ð,Ç hi]at this;rw[<- e];exact this
 .intro h i hi
  have hi:=List.mem_range.mp hi;rw[Ð,Ç hi];exact h _ (List.getElem_mem hi)
def yX(hc:X.calm=true):iH X (.builtin "all") (λxs H Q=>∃(p:Addr)(bs:List Bool),xs=[.ref p]/\gM X.K H p (bs.map V.bl)/\Q (.bl (bs.all id)) H):=by
 intro U s σ H xs us Q I r h;let⟨p,bs,rfl,hq,q⟩:=h;let⟨u,rfl,rx⟩:=nR r;cases rx;let⟨its,rv,pl,hz⟩:=I.list hq;refine call_all_walk (wpAny_pyIter_list pl.isList ?_);have hlen:=rv.length;rw[Â]at hlen;have hne:p≠s.heap.objs.size:=by
  let⟨o,n,e,_⟩:=pl;exact Ï (Heap.lt_size e)
 have ph:bM X U σ H {s with heap:=s.heap.push {cls:=.type "list_iterator",data:=.fields #[.ref p,.int 0 0]}}:=I.kept (t':=s.toks) λb o e=>Heap.get?_push_of_some _ e;let⟨its',rv',pl',_⟩:=ph.list hq;have e1:its=its':=by
  let⟨o,n,e,c,dn,d⟩:=pl;let⟨o',n',e',c',dn',d'⟩:=pl';have e'':=Heap.get?_push_of_some {cls:=.type "list_iterator",data:=.fields #[.ref p,.int 0 0]} e;rw[e'']at e';cases e';rw[d]at d';injection d' with d1 _;simpa using congrArg Array.toList d1
 subst e1;refine⟨s.heap.objs.size,_,_,_,_,_,λi=>bs.getD i true,rfl,Walks.list (A:=X.A.in1) (show X.A.in1.handled=none from I.ok.hd hc) s.heap.objs.size p hne its.toArray,⟨⟨_,Heap.get?_push_size _ rfl,rfl,rfl⟩,pl'.isList⟩,λi v s' Q' E' hv hQ=>?_,λh' tk k=>?_⟩
 .have hv:its.toArray[i]?=some v:=hv
  let⟨b,hb,rfl⟩:=b7.bl_at (i:=i) rv (by simpa using hv);have hQ:Q' (bs.getD i true) s':=hQ;rw[Ð,hb]at hQ;exact wpAny_truthy_bool hQ
 .have sz:its.toArray.size=bs.length:=by simp;exact Eq.symm ‹_›
  rw[sz,S7];have I2:=ph.turned (it:=s.heap.objs.size) (h':=h') (t':=tk) (λb o hb e=>k b o (by simpa using hb) e) (I.hok.fresh (È _)) (ê I.lt) (.inr I.sz) (λx c e=>by
   let⟨v,q⟩:=I.cell x c e;exact Ï q.lt) λp hp=>Ï (Heap.lt_size (I.pin p hp).1)
  exact⟨.bl _,H,I2,rfl,q⟩
def sZ:ZG->Option (List Bool)
 |[]=>some []
 |.bool b::r=>(sZ r).map (b::·)
 |_=>none
def FA:∀{ds:ZG}{bs:List Bool}{vs:List V},sZ ds=some bs->aJ K F ds vs->vs=bs.map V.bl
 |[]=>by
  rename_i bs vs;intro h r;cases h;unfold aJ at r;rw[r];rfl
 |d::ds=>by
  rename_i bs vs;intro h r;unfold aJ at r;let⟨x,rest,rfl,rx,r⟩:=r;cases d with
  |bool b=>
   have h:(sZ ds).map (b::·)=some bs:=h;cases e:sZ ds with
   |none=>rw[e]at h;cases h
   |some bs'=>
    rw[e]at h;cases h;rw[E8 rx,FA e r];rfl
  |_=>cases h
def S8:ZG->ZJ
 |[.list ds]=>(sZ ds).map λbs=>.bool (bs.all id)
 |_=>none
def WY:WC X (λxs H Q=>∃(p:Addr)(bs:List Bool),xs=[.ref p]/\gM X.K H p (bs.map V.bl)/\Q (.bl (bs.all id)) H) 0 S8:=λZ ow F H σ δ ds vs d Q S R ra e q=>by
 unfold S8 at e;split at e
 .rename_i ds'
  cases e1:sZ ds' with
  |none=>rw[e1]at e;cases e
  |some bs=>
   rw[e1]at e;cases e;let⟨v,rfl,r⟩:=vA ra;let⟨p,xs,rfl,hp,hr⟩:=oN r;rw[FA e1 hr]at hp;exact⟨p,bs,rfl,R.sub.seq hp,q _ H F (R.x sQ) (aW.refl _)⟩
 .cases e
def QM{x:Str}{i:Int}(hg:Gl X x)(hm:∃t,X.mg x=some (.int i t))(hd:⇑(Zdb x)):DE X Z ow 0 (.Name x pos) (dC (.int i)):=by
 let⟨t,hm⟩:=hm;exact qD (P1 hg hm (v:=.int i) ⟨t,rfl⟩ hd) λF=>kF
end
theorem S9{P:Program}{w:World}{K:ZC}{outer:List Env}{H:Hp}{s s':Shared}{e:Value}(z:E7 P w K outer H s (λ_ _ _=>False) e s'):False:=z
end L2
namespace L2
open PySem PySem.Spec
def NS{C:Int->Int->Prop}{g:Int->Int->D}{i j:Int}(h:C i j):iD C g (.int i) (.int j)=some (g i j):=by
 unfold iD;exact Á h
def WZ{i j:Int}(h:0<j):u8 (.int i) (.int j)=some (.int (i % j)):=by
 rw[u8,NS (by show j≠0;exact Int.ne_of_gt ‹_›),Int.fmod_eq_emod_of_nonneg i (by exact Int.le_of_lt ‹_›)]
def aDI{i j:Int}(h:IntMulOk i j):hG (.int i) (.int j)=some (.int (i*j)):=by rw[hG,NS h]
def aDJ{i j:Int}(h:ī i j):WL (.int i) (.int j)=some (.int (i^j.toNat)):=by rw[WL,NS h]
def aDK{i j:Int}:yU (.int i) (.int j)=some (.bool (i == j)):=rfl
def aDL{i j:Int}:Ĉ (.int i) (.int j)=some (.bool (!(i == j))):=rfl
def W0{i j:Bool}:Ĉ (.bool i) (.bool j)=some (.bool (!(i == j))):=rfl
def A9{e:M D}{g:D->D}{δ:DS}:∀{ds acc:ZG}{o:ZJ},(∀d∈ds,e (some d::δ)=.ok (g d) (some d::δ))->acc.length+ds.length<=sizeLine->∃o',cL (cH 0) bY e ds acc (o::δ)=.ok (acc++ds.map g) (o'::δ)
 |[]=>by rename_i acc o;intro _ _;exact⟨o,by simp[cL]⟩
 |d::ds=>by
  rename_i acc o;intro h hl;have hd:=h d Ì;rw[Ë]at hl;let⟨o',ih⟩:=A9 (ds:=ds) (acc:=acc++[g d]) (o:=some d) (λx hx=>h x (É _ hx)) (by simp;lia);refine⟨o',?_⟩;unfold cL;have e1:cH 0 d (o::δ)=some (some d::δ):=by simp[cH]
  rw[e1];show Res.bind (bY (some d::δ)) _=_;simp![bY,Res.bind,if_true,hd];rw[Á ∅,ih];simp
def wP{f:M (ZG)}{e:M D}{g:D->D}{δ δ1:DS}{ds:ZG}(hf:f δ=.ok ds δ1)(he:∀d∈ds,e (some d::δ1)=.ok (g d) (some d::δ1))(hl:ds.length<=sizeLine):bX 1 (cH 0) f bY e δ=.ok (.list (ds.map g)) δ1:=by
 unfold bX;rw[hf];let⟨o',h⟩:=A9 (acc:=[]) (o:=none) he (by simpa using hl);simp![Res.bind];rw[show List.replicate 1 (none:ZJ)++δ1=none::δ1 from rfl,h];simp
def QN{u v:M Fl}{δ δ1:DS}(h:u δ=.ok .next δ1):aQ u v δ=v δ1:=by unfold aQ;rw[h];rfl
def W1{u v:M Fl}{δ δ1:DS}{d:D}(h:u δ=.ok (.ret d) δ1):aQ u v δ=.ok (.ret d) δ1:=by unfold aQ;rw[h];rfl
def W2{lo:Int}{n k:Nat}{d:D}(h:(zL lo n)[k]?=some d):k<n/\d=.int (lo+(k:Int)):=by
 have hk:k<n:=by have:=(Ó.mp h).1;rwa [nV]at this
 rw[QE hk]at h;cases h;exact⟨hk,rfl⟩
def vC{z:Str}{n:Nat}(h:z.length=n)(hn:n<=sizeLine):dR [.str z]=some (.int n):=by
 show (if z.length<=sizeLine then some (PyData.int z.length)else none)=_;rw[Á (by rw[h];exact hn),h]
def bZ{α β:Type}{a:α}{δ:DS}{k:α->DS->Res β}:(Res.ok a δ).bind k=k a δ:=rfl
def AG{op:ZG->ZJ}{f:M D}{δ δ1:DS}{a c:D}(hf:f δ=.ok a δ1)(ho:op [a]=some c):jY op [f] δ=.ok c δ1:=by
 unfold jY;rw[show bO [f] δ=.ok [a] δ1 by simp![bO,hf,bZ],bZ,ho]
def aIN{op:D->ZJ}{f:M D}{δ δ1:DS}{a c:D}(hf:f δ=.ok a δ1)(ho:op a=some c):t6 op f δ=.ok c δ1:=by
 unfold t6;rw[hf,bZ,ho]
def aLU{f:M D}{δ δ1:DS}{b:Bool}(hf:f δ=.ok (.bool b) δ1):dB f δ=.ok b δ1:=by
 unfold dB;rw[hf,bZ]
def aDM{f:M D}{δ δ1:DS}{d:D}(hf:f δ=.ok d δ1):cA f δ=.ok (.ret d) δ1:=by
 unfold cA;rw[hf,bZ]
def aIO{c:M Bool}{u v:M Fl}{δ δ1:DS}(h:c δ=.ok true δ1):dH c u v δ=u δ1:=by unfold dH;rw[h,bZ,Á rfl]
def W3{c:M Bool}{u v:M Fl}{δ δ1:DS}(h:c δ=.ok false δ1):dH c u v δ=v δ1:=by unfold dH;rw[h,bZ,Ã Ý]
def aDN{f g:M D}{δ δ1:DS}(h:f δ=.ok (.bool true) δ1):nY f g δ=g δ1:=by unfold nY;rw[h,bZ];exact Á rfl
def aDO{f g:M D}{δ δ1:DS}(h:f δ=.ok (.bool false) δ1):nY f g δ=.ok (.bool false) δ1:=by unfold nY;rw[h,bZ];exact Ã Ý
def W4{f:M Bool}{δ δ1:DS}{b:Bool}(h:f δ=.ok b δ1):eK f δ=.ok (!b) δ1:=by unfold eK;rw[h,bZ]
def jT{i:Nat}{δ:DS}{d:D}(h:δ[i]?=some (some d)):aD i δ=.ok d δ:=by unfold aD;rw[h]
def KI{d:D}{δ:DS}:dC d δ=.ok d δ:=rfl
def Ζ(N B C:ZM)(R:D->ZM):Fl->ZM
 |.next,δ=>N δ
 |.brk,δ=>B δ
 |.cont,δ=>C δ
 |.ret d,δ=>R d δ
structure Wt{α:Type}(a:α):Type where
def cQ(m:M Fl)(δ:DS)(N:ZM)(B C:ZM)(R:D->ZM)(_w:Wt (N,B,C,R):=⟨⟩):Prop:=match m δ with
 |.ok .next δ'=>N δ'
 |.ok .brk δ'=>B δ'
 |.ok .cont δ'=>C δ'
 |.ok (.ret d) δ'=>R d δ'
 |_=>False
def bJ{α:Type}(f:M α)(δ:DS)(Q:α->ZM)(_w:Wt Q:=⟨⟩):Prop:=match f δ with
 |.ok a δ'=>Q a δ'
 |_=>False
section
variable{α:Type}{m u v:M Fl}{f g k:M D}{c c':M Bool}{δ δ1:DS}{N B C:ZM}{R:D->ZM}{Q:D->ZM}{i:Nat}
def bJ.of{f:M α}{a:α}{Q:α->ZM}(h:f δ=.ok a δ1)(q:Q a δ1):bJ f δ Q:=by unfold bJ;rw[h];exact q
def bJ.ex{f:M α}{Q:α->ZM}(h:bJ f δ Q):∃a δ1,f δ=.ok a δ1/\Q a δ1:=by
 unfold bJ at h;cases e:f δ with
 |ok a δ1=>rw[e]at h;exact⟨a,δ1,rfl,h⟩
 |stuck=>rw[e]at h;exact h.elim
def cQ.of{fl:Fl}(h:m δ=.ok fl δ1)(q:Ζ N B C R fl δ1):cQ m δ N B C R:=by
 unfold cQ;rw[h];cases fl<;>exact q
def cQ.ex(h:cQ m δ N B C R):∃fl δ1,m δ=.ok fl δ1/\Ζ N B C R fl δ1:=by
 unfold cQ at h;cases e:m δ with
 |ok fl δ1=>rw[e]at h;exact⟨fl,δ1,rfl,by cases fl<;>exact h⟩
 |stuck=>rw[e]at h;exact h.elim
def aIP(h:cQ u δ (λδ1=>cQ v δ1 N B C R) B C R):cQ (aQ u v) δ N B C R:=by
 let⟨fl,δ1,e,q⟩:=h.ex;cases fl with
 |next=>
  let⟨fl,δ2,e2,q⟩:=cQ.ex q;exact .of ((QN e).trans e2) q
 |brk=>exact .of (fl:=.brk) (by unfold aQ;rw[e];rfl) q
 |cont=>exact .of (fl:=.cont) (by unfold aQ;rw[e];rfl) q
 |ret d=>exact .of (fl:=.ret d) (W1 e) q
def aLV(h:bJ c δ λb δ1=>if b=true then cQ u δ1 N B C R else cQ v δ1 N B C R):cQ (dH c u v) δ N B C R:=by
 let⟨b,δ1,e,q⟩:=h.ex;cases b with
 |true=>
  rw[Á rfl]at q;let⟨fl,δ2,e2,q⟩:=q.ex;exact .of ((aIO e).trans e2) q
 |false=>
  rw[Ã Ý]at q;let⟨fl,δ2,e2,q⟩:=q.ex;exact .of ((W3 e).trans e2) q
def aDP{set:D->DS->Option DS}(I:Nat->ZM){ds:ZG}(hs:∀(k:Nat)(d:D)(δ:DS),ds[k]?=some d->I k δ->∃δ1,set d δ=some δ1/\cQ u δ1 (I (k+1)) N (I (k+1)) R)(hN:∀δ,I ds.length δ->N δ)(h0:I 0 δ):cQ (k5 set u ds) δ N B C R:=by
 have main:∀(n k:Nat)(δ:DS),k+n=ds.length->I k δ->cQ (k5 set u (ds.drop k)) δ N B C R:=by
  intro n
  induction n with
  |zero=>
   intro k δ hk h;have:k=ds.length:=by assumption
   subst this;rw[List.drop_length];exact .of (fl:=.next) rfl (hN δ h)
  |succ n ih=>
   intro k δ hk h;have hlt:k<ds.length:=by lia
   let⟨δ1,e1,w⟩:=hs k ds[k] δ (Ç hlt) h;let⟨fl,δ2,e2,q⟩:=w.ex;rw[ð hlt];cases fl with
   |next=>
    let⟨fl,δ3,e3,q⟩:=(ih (k+1) δ2 ∅ q).ex;exact .of (by unfold k5;rw[e1];simp![e2,bZ];exact e3) q
   |cont=>
    let⟨fl,δ3,e3,q⟩:=(ih (k+1) δ2 ∅ q).ex;exact .of (by unfold k5;rw[e1];simp![e2,bZ];exact e3) q
   |brk=>exact .of (fl:=.next) (by unfold k5;rw[e1];simp![e2,bZ]) q
   |ret d=>exact .of (fl:=.ret d) (by unfold k5;rw[e1];simp![e2,bZ]) q
 have:=main ds.length 0 δ (by exact Nat.add_comm _ _) h0
 rwa [List.drop_zero]at this
def dO{set:D->DS->Option DS}{f:M (ZG)}(I:Nat->ZM){ds:ZG}(hf:f δ=.ok ds δ1)(h0:I 0 δ1)(hs:∀(k:Nat)(d:D)(δ:DS),ds[k]?=some d->I k δ->∃δ1,set d δ=some δ1/\cQ u δ1 (I (k+1)) N (I (k+1)) R)(hN:∀δ,I ds.length δ->N δ):cQ (c6 set f u) δ N B C R:=by
 let⟨fl,δ2,e,q⟩:=(aDP (B:=B) (C:=C) I hs hN h0).ex;exact .of (by unfold c6;rw[hf,bZ];exact e) q
def W5{set:D->DS->Option DS}{j:Int}(I:Nat->ZM)(hf:f δ=.ok (.int j) δ1)(hj:-(2^62)<=j)(hj2:j<2^62)(h0:I 0 δ1)(hs:∀(k:Nat)(δ:DS),(k:Int)<j->I k δ->∃δ1,set (.int k) δ=some δ1/\cQ u δ1 (I (k+1)) N (I (k+1)) R)(hN:∀δ,I j.toNat δ->N δ):cQ (c6 set (pY [f]) u) δ N B C R:=by
 refine dO (ds:=zL 0 j.toNat) (δ1:=δ1) I ?_ h0 (λk d δ hd hI=>?_) (λδ h=>hN δ (by rwa [nV]at h))
 .simp![pY,bO,hf,bZ,GY]
  rw[Á ⟨hj,hj2⟩]
 .obtain⟨hk,rfl⟩:=W2 hd
  rw[Int.zero_add];exact hs k δ ∅ hI
def aY{m0:Nat}{ps:ZF}{rm:Nat}{body:M Fl}{ds:ZG}{d:D}{os:ZG}(h:cQ body (ds.map some++List.replicate (m0-ds.length) none) (λ_=>False) (λ_=>False) (λ_=>False) λr δ=>r=d/\f8 δ ps=some os):bK m0 ps rm body ds=.ok d (os.map some):=by
 let⟨fl,δ1,e,q⟩:=h.ex;cases fl with
 |ret r=>
  let⟨rfl,ho⟩:=q;unfold bK;rw[e];dsimp only;rw[ho]
 |next=>exact q.elim
 |brk=>exact q.elim
 |cont=>exact q.elim
end
end L2
namespace L2
open PySem PySem.Spec PyProof.Rows
section
variable{X:Cx}{Z:dQ}{ow ow' ol ox:ZF}{n rm:Nat}{pos:Pos}{e a b c tg:Expr}{f h k:M D}{F H:Hp}{σ:St}{δ:DS}{K:ZC}{g:TG}{set:D->DS->Option DS}
def fC:M Fl:=λ_=>.stuck
def cW{st:Stmt}:NK X Z ow ow' ol ox rm st fC:=PS.mono VL λDn σ H h=>by
 let⟨F,δ,R,h⟩:=h;exact h.elim
def ķ(set:D->DS->Option DS)(f:M D):M Fl:=λδ=>(f δ).bind λd δ1=>match set d δ1 with
 |some δ2=>.ok .next δ2
 |none=>.stuck
def b7.int_at:∀{ns:ZI}{us:ZH}{i:Nat}{u:Value},b7 (ns.map V.int) us->us[i]?=some u->∃m t,ns[i]?=some m/\u=.int m t
 |[],_,i,u,.nil,h=>by simp at h
 |m::ns,_,0,u,.cons r rr,h=>by
  let⟨t,rfl⟩:=r;cases h;exact⟨m,t,rfl,rfl⟩
 |m::ns,_,i+1,u,.cons r rr,h=>by
  let⟨m',t,h1,h2⟩:=b7.int_at (i:=i) rr (by simpa using h);exact⟨m',t,by simpa using h1,h2⟩
def yY{ns:ZI}:∀{j:Nat},j<=ns.length->preSum (λi=>ns.getD i 0) j=(ns.take j).sum
 |0=>by intro _;exact rfl
 |j+1=>by
  intro h;show preSum (λi=>ns.getD i 0) j+ns.getD j 0=_;have e1:ns.getD j 0=ns[j]:=by rw[Ð,Ç (by assumption)];rfl
  have e2:ns.take (j+1)=ns.take j++[ns[j]]:=by rw[List.take_add_one,Ç (by assumption)];rfl
  rw[yY (Nat.le_of_succ_le h),e1,e2,List.sum_append];simp![List.sum_cons,List.sum_nil,Int.add_zero]
def G8(hc:X.calm=true):iH X (.builtin "sum") (λxs H Q=>∃(p:Addr)(ns:ZI),xs=[.ref p]/\gM X.K H p (ns.map V.int)/\Q (.int ns.sum) H):=by
 intro U s σ H xs us Q I r h;let⟨p,ns,rfl,hq,q⟩:=h;let⟨u,rfl,rx⟩:=nR r;cases rx;let⟨its,rv,pl,hz⟩:=I.list hq;refine call_sum_walkAnyS (wpAny_pyIter_list pl.isList ?_);have hlen:=rv.length;rw[Â]at hlen;have hne:p≠s.heap.objs.size:=by
  let⟨o,n,e,_⟩:=pl;exact Ï (Heap.lt_size e)
 have ph:bM X U σ H {s with heap:=s.heap.push {cls:=.type "list_iterator",data:=.fields #[.ref p,.int 0 0]}}:=I.kept (t':=s.toks) λb o e=>Heap.get?_push_of_some _ e;let⟨its',rv',pl',_⟩:=ph.list hq;have e1:its=its':=by
  let⟨o,n,e,c,dn,d⟩:=pl;let⟨o',n',e',c',dn',d'⟩:=pl';have e'':=Heap.get?_push_of_some {cls:=.type "list_iterator",data:=.fields #[.ref p,.int 0 0]} e;rw[e'']at e';cases e';rw[d]at d';injection d' with d1 _;simpa using congrArg Array.toList d1
 subst e1;refine⟨s.heap.objs.size,_,_,_,_,_,_,λi=>ns.getD i 0,rfl,(Walks.list (A:=X.A.in1) (show X.A.in1.handled=none from I.ok.hd hc) s.heap.objs.size p hne its.toArray).toS,⟨⟨_,Heap.get?_push_size _ rfl,rfl,rfl⟩,pl'.isList⟩,λb hb=>?_,λi v hv=>?_,λs' t' mv=>?_⟩
 .have hb:b∈[s.heap.objs.size,p]:=hb
  have z:(s.heap.push {cls:=.type "list_iterator",data:=.fields #[.ref p,.int 0 0]}).objs.size=s.heap.objs.size+1:=by simp[Heap.push]
  show b<(s.heap.push _).objs.size;rw[z];simp![Å,Í,or_false]at hb;rcases hb with rfl|rfl
  .exact Nat.lt_succ_self _
  .obtain⟨o,n,e,_⟩:=pl
   exact Nat.lt_succ_of_lt (Heap.lt_size e)
 .have hv:its.toArray[i]?=some v:=hv
  let⟨m,t,hb,rfl⟩:=b7.int_at (i:=i) rv (by simpa using hv);refine⟨t,?_⟩;show _=Value.int (ns.getD i 0) t;rw[Ð,hb];rfl
 .have sz:its.toArray.size=ns.length:=by simp;exact Eq.symm ‹_›
  rw[sz,yY (È _),List.take_length];let⟨h',g',d',t2,o'⟩:=s';obtain rfl:g'=s.gens:=mv.gens;obtain rfl:d'=s.drawn:=mv.drawn;obtain rfl:o'=s.os:=mv.os;have I2:=ph.turned (it:=s.heap.objs.size) (h':=h') (t':=t2) (λb o hb e=>mv.heap b o (by simpa using hb) e) (I.hok.fresh (È _)) (ê I.lt) (.inr I.sz) (λx c e=>by
   let⟨v,q⟩:=I.cell x c e;exact Ï q.lt) λp hp=>Ï (Heap.lt_size (I.pin p hp).1)
  exact⟨.int _,H,I2,⟨t',rfl⟩,q⟩
def fD:ZG->Option (ZI)
 |[]=>some []
 |.int i::r=>(fD r).map (i::·)
 |_=>none
def BA{l:ZI}:fD (l.map .int)=some l:=by
 induction l with
 |nil=>rfl
 |cons a l ih=>show (fD (l.map .int)).map (a::·)=_;rw[ih];rfl
def t7:∀{ds:ZG}{bs:ZI}{vs:List V},fD ds=some bs->aJ K F ds vs->vs=bs.map V.int
 |[]=>by
  rename_i bs vs;intro h r;cases h;unfold aJ at r;rw[r];rfl
 |d::ds=>by
  rename_i bs vs;intro h r;unfold aJ at r;let⟨x,rest,rfl,rx,r⟩:=r;cases d with
  |int b=>
   have h:(fD ds).map (b::·)=some bs:=h;cases e:fD ds with
   |none=>rw[e]at h;cases h
   |some bs'=>
    rw[e]at h;cases h;rw[k8 rx,t7 e r];rfl
  |_=>cases h
def W6:ZG->ZJ
 |[.list ds]=>(fD ds).map λbs=>.int bs.sum
 |_=>none
def aIQ:WC X (λxs H Q=>∃(p:Addr)(ns:ZI),xs=[.ref p]/\gM X.K H p (ns.map V.int)/\Q (.int ns.sum) H) 0 W6:=λZ ow F H σ δ ds vs d Q S R ra e q=>by
 unfold W6 at e;split at e
 .rename_i ds'
  cases e1:fD ds' with
  |none=>rw[e1]at e;cases e
  |some bs=>
   rw[e1]at e;cases e;let⟨v,rfl,r⟩:=vA ra;let⟨p,xs,rfl,hp,hr⟩:=oN r;rw[t7 e1 hr]at hp;exact⟨p,bs,rfl,R.sub.seq hp,q _ H F (R.x kF) (aW.refl _)⟩
 .cases e
def ċ:D->Option V
 |.int i=>some (.int i)
 |.bool b=>some (.bl b)
 |.str z=>some (.str z)
 |.none=>some .non
 |_=>none
def W7:ZG->Option (List V)
 |[]=>some []
 |d::ds=>match ċ d,W7 ds with
  |some v,some vs=>some (v::vs)
  |_,_=>none
def G9{d:D}{v x:V}(h:ċ d=some v)(r:cI K F d x):x=v/\sW v=true:=by
 cases d with
 |int i=>cases h;exact⟨k8 r,rfl⟩
 |bool b=>cases h;exact⟨E8 r,rfl⟩
 |str z=>cases h;exact⟨fI r,rfl⟩
 |none=>cases h;unfold cI at r;exact⟨r,rfl⟩
 |_=>cases h
def BB:∀{ds:ZG}{vs xs:List V},W7 ds=some vs->aJ K F ds xs->xs=vs/\vs.all sW=true
 |[]=>by
  rename_i vs xs;intro h r;cases h;unfold aJ at r;exact⟨r,rfl⟩
 |d::ds=>by
  rename_i vs xs;intro h r;unfold aJ at r;let⟨x,rest,rfl,rx,r⟩:=r;unfold W7 at h;split at h
  .rename_i v vs' e1 e2
   cases h;let⟨rfl,f1⟩:=G9 e1 rx;let⟨rfl,f2⟩:=BB e2 r;exact⟨rfl,by rw[List.all_cons,f1,f2];rfl⟩
  .cases h
def Ą(neg:Bool):D->D->ZJ
 |a,.list ds=>match ċ a,W7 ds with
  |some x,some xs=>some (.bool (if neg then !Ė x xs else Ė x xs))
  |_,_=>none
 |a,.tuple ds=>match ċ a,W7 ds with
  |some x,some xs=>some (.bool (if neg then !Ė x xs else Ė x xs))
  |_,_=>none
 |_,_=>none
def aIR{neg:Bool}:sY X (Α X.K neg) 0 (Ą neg):=λZ ow F H σ δ a b x y d Q S R ra rb e q=>by
 unfold Ą at e;split at e
 .split at e
  .rename_i v vs e1 e2
   cases e;let⟨p,xs,rfl,hp,hr⟩:=oN rb;let⟨rfl,f1⟩:=G9 e1 ra;let⟨rfl,f2⟩:=BB e2 hr;exact⟨p,_,rfl,.inl (R.sub.seq hp),f1,f2,q _ H F (R.x sQ) (aW.refl _)⟩
  .cases e
 .split at e
  .rename_i v vs e1 e2
   cases e;let⟨p,xs,rfl,hp,hr⟩:=G4 rb;let⟨rfl,f1⟩:=G9 e1 ra;let⟨rfl,f2⟩:=BB e2 hr;exact⟨p,_,rfl,.inr (R.sub.seqT hp),f1,f2,q _ H F (R.x sQ) (aW.refl _)⟩
  .cases e
 .cases e
def BC{k:Nat}(S:bH Z ow):∀(is:ZF)(t:VM),(∀i∈is,i<k/\i∉Z.ps/\i<ow.length/\ow.getD i 0=0)->t=is.foldr (λi u=>J3 (p8 i) u) VN ->
  ∀(F H:Hp)(σ:St)(δ δ':DS)(ds:ZG)(vs:List V)(Q:St->Hp->Prop),eJ X.K Z ow F H σ δ->aJ X.K F ds vs->ds.length=is.length ->
   (is.zip ds).foldl (λ(o:Option DS)(p:Nat×D)=>o.bind λδ=>cH p.1 p.2 δ) (some δ)=some δ'->(∀σ',eJ X.K Z ow F H σ' δ'->σ'.length=σ.length->δ'.length=δ.length->(∀i,σ'[i+k]?=σ[i+k]?)->Q σ' H)->t vs σ H Q
 |[]=>by
  intro t hi ht F H σ δ δ' ds vs Q R ra hl e q;subst ht;cases ds with
  |cons _ _=>simp at hl
  |nil=>
   unfold aJ at ra;cases e;exact⟨ra,q σ R rfl rfl λ_=>rfl⟩
 |i::is=>by
  intro t hi ht F H σ δ δ' ds vs Q R ra hl e q;subst ht;cases ds with
  |nil=>simp at hl
  |cons d ds=>
   unfold aJ at ra;let⟨x,rest,rfl,rx,r⟩:=ra;rw[Ù,List.foldl_cons]at e;cases e1:cH i d δ with
   |none=>
    rw[show ((some δ:Option DS).bind λδ=>cH (i,d).1 (i,d).2 δ)=none from e1]at e;have:∀l:List (Nat×D),l.foldl (λ(o:Option DS)(p:Nat×D)=>o.bind λδ=>cH p.1 p.2 δ) none=none:=λl=>by induction l with|nil=>rfl|cons a l ih=>exact ih
    rw[this]at e;cases e
   |some δ1=>
    rw[show ((some δ:Option DS).bind λδ=>cH (i,d).1 (i,d).2 δ)=some δ1 from e1]at e;let⟨h0,h1,h2,h3⟩:=hi i Ì;refine⟨x,rest,rfl,cB S h0 h1 h2 h3 F H σ δ δ1 d x _ R rx e1 λσ' R' l1 l2 l3=>?_⟩;exact BC S is _ (λj hj=>hi j (É _ hj)) rfl F H σ' δ1 δ' ds rest Q R' r (by simpa using hl) e λσ2 R2 m1 m2 m3=>q σ2 R2 (m1.trans l1) (m2.trans l2) λj=>(m3 j).trans (l3 j)
def HA{k:Nat}{is:ZF}{t:VM}(S:bH Z ow)(hi:∀i∈is,i<k/\i∉Z.ps/\i<ow.length/\ow.getD i 0=0)(ht:t=is.foldr (λi u=>J3 (p8 i) u) VN):ĉ X Z ow k (Ň X.K is.length t) (gQ is):=λF H σ δ δ' d v Q R r e q=>by
 unfold gQ at e;cases d with
 |tuple ds=>
  dsimp only at e;split at e
  .rename_i hl
   unfold cI at r;let⟨a,xs,rfl,hq,ra⟩:=r;exact⟨a,xs,rfl,R.sub.seqT hq,by rw[<- ra.len];exact hl,BC S is t hi ht F H σ δ δ' ds xs Q R ra hl e q⟩
  .cases e
 |_=>cases e
end
section
variable{X:Cx}{Z:dQ}{ow ow' ol ox:ZF}{n rm:Nat}{pos:Pos}{e a b c tg:Expr}{f h k:M D}{F H:Hp}{σ:St}{δ:DS}{K:ZC}
def HB(l:Addr)(items:Array Value)(n:Nat)(b:Addr)(g9:Array Value)(n2:Nat)(sl2:Array (ZL))(hc0:¬(!items.isEmpty && Builtin.List.listTooLong (items.size+g9.size))=true)(hc1:items.size<=sizeLine)(hs2:items.size+g9.size<=sizeLine+1):
  Meets (Builtin.«list.extend» ⟨[.ref l,.ref b],[]⟩) (λ_ R s=>s.heap.get? l=some {cls:=.type "list",dict:=none,data:=.seq items n,slots:=#[]}/\s.heap.get? b=some ⟨.type "list",none,.seq g9 n2,sl2⟩/\R (.ok (.ret Value.none)) {s with heap:=s.heap.update l (Obj.mapSeq λx=>x++g9),toks:=s.toks}):=
 .of_wp λprog w A R s h=>by
  let⟨hp,g,d,tk,os⟩:=s;let⟨hl,hb,h⟩:=h;have f1:=PySem.AutoSeq1.idx_int;have f2:=PySem.AutoSeq1.sub_tuple_tuple;have f3:=PySem.AutoSeq1.sub_list_list;have f4:=PySem.AutoSeq1.sub_tuple_list;have f5:=PySem.AutoSeq1.sub_list_tuple;have hz':(items++g9).size<=sizeLine+1:=by rw[Array.size_append];exact hs2
  wp_walk using (wpAny_updateSeq hl rfl (hz:=hc1) (_hz':=hz')),PySem.AutoSeq1.wpAny_loadPart' hl,PySem.AutoSeq1.wpAny_loadPart' hb
  exact⟨_,rfl,h⟩
def Η(K:ZC):V->List V->Hp->VK->Prop:=λx vs H Q=>∃l b xs zs,x=.ref l/\vs=[.ref b]/\H l=some (.lst xs)/\gM K H b zs/\xs.length+zs.length<=sizeLine/\Q .non (eB H l (.lst (xs++zs)))
def jU:ő X "list.extend" (Η X.K):=by
 intro U s σ H x vs v us Q I rx rv h;let⟨l,b,xs,zs,rfl,rfl,hH,hB,hz,q⟩:=h;cases rx;let⟨u,rfl,ru⟩:=rv.one;cases ru;let⟨z,its,n,r,hl,e⟩:=I.lstM hH;let⟨its2,r2,⟨o2,n2,e2,c2,dn2,dd2⟩,z2⟩:=I.list hB;let⟨oc2,od2,oda2,osl2⟩:=o2;cases c2;cases dn2;cases dd2;have hl2:=r2.length;have hsz:its.toArray.size+its2.toArray.size<=sizeLine:=by rw[â,â];lia
 have hlong:¬(!its.toArray.isEmpty && Builtin.List.listTooLong (its.toArray.size+its2.toArray.size))=true:=by
  rw[V1 hsz,Bool.and_false];exact Ý
 refine call_meets F.slot_list_extend ⟨_,e,rfl⟩ F.entry_list_extend (F.args_list_extend_2 _ _)
  (HB l its.toArray n b its2.toArray n2 osl2 hlong (by rw[â];lia) (by exact Nat.le_succ_of_le ‹_›)) ⟨e,e2,?_⟩
 refine⟨.non,_,I.lset (its':=its++its2) hH e (by simp) (r.append r2) ?_,rfl,q⟩;rw[Î];assumption
def t9:ZG->ZG->Option (D×ZG)
 |ds,[.list zs]=>if ds.length+zs.length<=sizeLine then some (.none,ds++zs)else none
 |_,_=>none
def eW:S3 X (Η X.K) t9:=λF H l xs vs ds args ret ds' hl hs h1 h2 e=>by
 unfold t9 at e;split at e
 .rename_i zs
  split at e
  .rename_i hlt
   cases e;let⟨v,rfl,r⟩:=vA h2;let⟨p,ys,rfl,hp,hr⟩:=oN r;exact⟨xs++ys,.non,h1.app hr,G0,λQ q=>⟨l,p,xs,ys,rfl,rfl,hl,hs.seq hp,by rw[<- h1.len,<- hr.len];exact hlt,q⟩⟩
  .cases e
 .cases e
def qF:ZG->Option (ZE)
 |[]=>some []
 |.str i::r=>(qF r).map (i::·)
 |_=>none
def BD:∀{ds:ZG}{bs:ZE}{vs:List V},qF ds=some bs->aJ K F ds vs->vs=bs.map V.str
 |[]=>by
  rename_i bs vs;intro h r;cases h;unfold aJ at r;rw[r];rfl
 |d::ds=>by
  rename_i bs vs;intro h r;unfold aJ at r;let⟨x,rest,rfl,rx,r⟩:=r;cases d with
  |str b=>
   have h:(qF ds).map (b::·)=some bs:=h;cases e:qF ds with
   |none=>rw[e]at h;cases h
   |some bs'=>
    rw[e]at h;cases h;rw[fI rx,BD e r];rfl
  |_=>cases h
def b7.strs:∀{zs:ZE}{us:ZH},b7 (zs.map V.str) us->∃l:List (Str×Tok),us=strValues l/\l.map (·.1)=zs
 |[],_,.nil=>⟨[],rfl,rfl⟩
 |z::zs,_,.cons r rr=>by
  let⟨t,rfl⟩:=r;let⟨l,rfl,rfl⟩:=b7.strs rr;exact⟨(z,t)::l,rfl,rfl⟩
def AH(sep:Str)(zs:ZE):Nat:=zs.toArray.foldl (·+·.length+sep.length) 0
def aLW(K:ZC):V->List V->Hp->VK->Prop:=λx vs H Q=>∃sep p zs,x=.str sep/\vs=[.ref p]/\gM K H p (zs.map V.str)/\Builtin.Str.tooLong (AH sep zs)=false/\(Builtin.Str.glued sep zs).length<=sizeLine/\Q (.str (Builtin.Str.glued sep zs)) H
def aDS:Đ X "str.join" (aLW X.K):=by
 intro U s σ H x vs v us Q I rx rv h;let⟨sep,p,zs,rfl,rfl,hq,hz,hg,q⟩:=h;let⟨t,rfl⟩:=rx;let⟨u,rfl,ru⟩:=nR rv;cases ru;let⟨its,r,pl,hs⟩:=I.list hq;let⟨l,rfl,rfl⟩:=r.strs;refine call_meets F.slot_str_join (typeIs_str s sep t) F.entry_str_join (F.args_str_join_2 _ _) (meets_str_join_list sep t p l hz) ⟨pl.isList,?_⟩;unfold joinMade;split
 .rename_i z
  have e:Builtin.Str.glued sep ([z].map (·.1))=z.1:=by simp[Builtin.Str.glued]
  rw[e]at q;exact⟨.str z.1,H,I,⟨_,rfl⟩,q⟩
 .exact⟨hg,.str _,H,I.tok _,⟨_,rfl⟩,q⟩
def jE(z:Str)(xs:D):ZJ:=match xs with
 |.list ds=>match qF ds with
  |some zs=>if Builtin.Str.tooLong (AH z zs)=false/\(Builtin.Str.glued z zs).length<=sizeLine then some (.str (Builtin.Str.glued z zs))else none
  |none=>none
 |_=>none
def k9(f k:M D):M D:=λδ=>(f δ).bind λx δ1=>match x with
 |.str z=>(k δ1).bind λy δ2=>match jE z y with
  |some d=>.ok d δ2
  |none=>.stuck
 |_=>.stuck
def iR{p:Pos}(ha:DE X Z ow 0 a f)(hb:DE X Z ow 0 b k)(hbase:↥(attributeBase a "join" X.env (eval a X.env)=eval a X.env))(hfew:↥(((backTo pos (starEach [b] X.env)).all (λx=>!x.1) && (backToKw pos (keywordEach [] X.env)).all (λx=>x.1.isSome)
   && decide ([b].length+([]:List Keyword).length+(if ([]:List Keyword).isEmpty then 0 else 1)<30))=true))(hline:↥((p.endLine == pos.line)=true))(hs:↥(Zse b [] X.env))(hplain:↥(Zbt pos [] X.env)):
  DE X Z ow 0 (.Call (.Attribute a "join" p) [b] [] pos) (k9 f k):=PE.mono (E0 PySem.F.plainAttrs_str PySem.F.slot_str_join PySem.F.type_str_join aDS ha (iI hb oH hs) hbase hfew hline hs hplain) λσ H Q q=>by
 let⟨F,δ,R,q⟩:=q;unfold k9 at q;refine⟨F,δ,R,?_⟩;cases e:f δ with
 |stuck=>rw[e]at q;exact q.elim
 |ok d1 δ1=>
  rw[e]at q;simp![Res.bind]at q;intro x H1 F1 R1 s1;cases d1 with
  |str z=>
   have hx:=fI R1.rep;subst hx;dsimp only at q;refine⟨rfl,F1,δ1,R1.rel,?_⟩;cases e2:k δ1 with
   |stuck=>rw[e2]at q;exact q.elim
   |ok d2 δ2=>
    rw[e2]at q;simp![Res.bind]at q;intro y H2 F2 R2 s2;cases e3:jE z d2 with
    |none=>rw[e3]at q;exact q.elim
    |some d=>
     rw[e3]at q;unfold jE at e3;split at e3
     .rename_i ds
      split at e3
      .rename_i zs e4
       split at e3
       .rename_i hz
        cases e3;let⟨l,xs,rfl,hp,hr⟩:=oN R2.rep;rw[BD e4 hr]at hp;have R2':=R2.rel;exact⟨z,l,zs,rfl,rfl,R2'.sub.seq hp,hz.1,hz.2,q _ H2 F2 (R2'.x kG) (s1.trans' s2)⟩
       .cases e3
      .cases e3
     .cases e3
  |_=>exact q.elim
end
section
variable{K:ZC}{X:Cx}{Z:dQ}{ow:ZF}{n:Nat}{pos:Pos}{as:List Arg}{F H H':Hp}{σ:St}{δ:DS}{g:ZN}
def QO(g:ZN)(F H:Hp):Hp:=λb=>open Classical in if ∃l,g b=some l then (if F b=none then H b else F b)else F b
def KJ:aW F (QO g F H):=λb o e=>by
 unfold QO;split
 .rw[Ã (by rw[e];simp)];exact e
 .exact e
def aDT(hs:aW F H):aW (QO g F H) H:=λb o e=>by
 unfold QO at e;split at e
 .split at e
  .exact e
  .exact hs b o e
 .exact hs b o e
def cC.freezeA{i:Nat}{n:Nat}{p:ZF}{d:D}{v:V}(r:cC K F H g i n p d v):cI K (QO g F H) d v:=
 k4.froze KJ (λa p o e1 e2 e3=>by unfold QO;rw[Á ⟨_,e1⟩,Á e3];exact e2) r
def fN.grow(R:fN K Z ow g F H σ δ)(h:aW H H'):fN K Z ow g F H' σ δ:=
 ⟨R.sub.trans' h,R.f0,λb o n e=>h b o (R.kept b o n e),R.new,λb z=>by
  cases e:H b with
  |none=>exact absurd e (R.there b z)
  |some o=>rw[h b o e];simp,R.lab,R.len,R.par,λi d e=>by
  let⟨v,e1,o⟩:=R.slot i d e;exact⟨v,e1,o.mono (λ_ _ z=>z) (λ_ _ _ z=>z) (λ_ _ _ _ z=>z) λa l ob _ _ z=>h a ob z⟩⟩
def mX(F H:Hp)(σ:St)(m:Nat):dQ:=⟨F,H,λ_=>none,[],σ,List.replicate m 0,λ_ _ _ e=>by cases e⟩
def oR{m i:Nat}:(List.replicate m 0).getD i 0=0:=by
 rw[Ð,ÿ];split<;>rfl
def fN.bor{m:Nat}(R:fN K Z ow g F H σ δ):eJ K (mX (QO g F H) H σ m) (List.replicate m 0) (QO g F H) H σ δ:=
 ⟨λ_=>none,aDT R.sub,⟨R.f0.lm.mono KJ,λ_ _ z=>z⟩,λ_ _ _ e=>e,λ_ h _=>h,λ_ h=>h,λ_ _ _ e=>(by cases e),R.len,λi hi=>(by cases hi),λi d e=>by
  let⟨v,e1,o⟩:=R.slot i d e;refine⟨v,e1,?_⟩;rw[oR];exact o.freezeA⟩
def ŕ(f:M D):M D:=λδ=>match f δ with
 |.ok d _=>(match ċ d with|some _=>.ok d δ|none=>.stuck)
 |_=>.stuck
def vD(f:M Bool):M Bool:=λδ=>match f δ with
 |.ok b _=>.ok b δ
 |_=>.stuck
def HC{e:Expr}{f:M Bool}(m:Nat)(h:∀F H σ,DT X (mX F H σ m) (List.replicate m 0) e f):DT X Z ow e (vD f):=λU s σ H Q I q=>by
 let⟨F,δ,⟨g,R⟩,q⟩:=q;unfold vD at q;refine h (QO g F H) H σ U s σ H Q I ⟨QO g F H,δ,R.bor,?_⟩;cases e1:f δ with
 |stuck=>rw[e1]at q;exact q.elim
 |ok d δ1=>
  rw[e1]at q;rintro H' F' ⟨g',R'⟩ s';exact q H' F ⟨g,R.grow λb o e=>R'.kept b o rfl e⟩ λ_ _ z=>z
def Ŗ(i:Nat)(lo hi:Option (M D)):M D:=λδ=>match δ[i]? with
 |some (some _)=>(iO lo δ).bind λl δ1=>(iO hi δ1).bind λu δ2=>(match δ2[i]? with
  |some (some (.list ds))=>.ok (.list (D1 ds l u)) δ2
  |_=>.stuck)
 |_=>.stuck
end
section
variable{X:Cx}{U:ZB}{σ:St}{H:Hp}{s:Shared}{h':Heap}
def bM.turns{t':Nat}{ch:ZK}(I:bM X U σ H s)(k:∀b o,b∉ch->s.heap.get? b=some o->h'.get? b=some o)(hc:∀b∈ch,wE X U H b):
  bM X U σ H {s with heap:=h',toks:=t'}:=by
 have off:∀b u,H b=some u->b∉ch:=λb u e z=>by have:=(hc b z).1;rw[this]at e;cases e
 refine I.step (g':=s.gens) (d':=s.drawn) (ch:=ch) (λb hb=>⟨(hc b hb).2.2.2.1,(hc b hb).2.1,(hc b hb).2.2.2.2.1,(hc b hb).2.2.2.2.2⟩) (λb o _ _ n e _=>k b o n e) (λb o _ _ n e _=>⟨o.slots,k b o n e⟩)
  (λb o n e z=>z) (λb o n e=>⟨o,k b o n e⟩) (λb ys e=>e) (λb o u e=>e) (λb ps e=>⟨#[],by rw[e];simp⟩) (λm hm=>?_) (λb u e=>?_) I.bare
 .obtain⟨o,es,ep,ho,q⟩:=hm
  exact⟨o,es,ep,k _ o (λz=>(hc _ z).2.1 rfl) ho,q⟩
 .refine(I.hok b u e).stay (λc v z q=>k c v ?_ q) (λc q=>q) λc ys q=>q
  grind
def bM.pair{t':Nat}{ch:ZK}{T:Addr}{xs:List V}{us:ZH}(I:bM X U σ H s)(k:∀b o,b∉ch->s.heap.get? b=some o->h'.get? b=some o)(hc:∀b∈ch,wE X U H b)(hT:s.heap.objs.size<=T)(hz:xs.length<=sizeLine)(r:b7 xs us)(ht:IsTup h' T us.toArray):
  bM X U σ (eB H T (.tup xs)) {s with heap:=h',toks:=t'}:=by
 have fT:H T=none:=I.hok.fresh hT;have off:∀b u,H b=some u->b∉ch:=λb u e z=>by have:=(hc b z).1;rw[this]at e;cases e
 have neT:∀b u,H b=some u->b≠T:=λb u e=>dN e fT;refine I.step (g':=s.gens) (d':=s.drawn) (ch:=ch) (λb hb=>⟨(hc b hb).2.2.2.1,(hc b hb).2.1,(hc b hb).2.2.2.2.1,(hc b hb).2.2.2.2.2⟩) (λb o _ _ n e _=>k b o n e) (λb o _ _ n e _=>⟨o.slots,k b o n e⟩)
  (λb o n e z=>?_) (λb o n e=>⟨o,k b o n e⟩) (λb ys e=>?_) (λb o u e=>?_) (λb ps e=>⟨#[],?_⟩) (λm hm=>?_) (λb u e=>?_) I.bare
 .rw[aZ (Ï (Ô (Heap.lt_size e) hT))];exact z
 .rw[aZ (neT b _ e)];exact e
 .rw[aZ (neT b _ e)];exact e
 .rw[aZ (neT b _ e),e];simp
 .obtain⟨o,es,ep,ho,q⟩:=hm
  exact⟨o,es,ep,k _ o (λz=>(hc _ z).2.1 rfl) ho,q⟩
 .by_cases hb:b=T
  .subst hb;rw[cJ]at e;cases e;exact⟨hz,us,r,ht⟩
  .rw[aZ hb]at e
   refine(I.hok b u e).stay (λc v z q=>k c v ?_ q) (λc q=>by rw[aZ (neT c _ q)];exact q) λc ys q=>by rw[aZ (neT c _ q)];exact q
   grind
end
def ŗ(K:ZC)(a b:Addr):It:=
 ⟨λi H=>∃xs ys x y,gM K H a xs/\gM K H b ys/\xs[i]?=some x/\ys[i]?=some y,
   λi H v H'=>∃p x y,H p=none/\H'=eB H p (.tup [x,y])/\v=.ref p/\(∀xs,gM K H a xs->xs[i]?=some x)/\∀ys,gM K H b ys->ys[i]?=some y,
   λi H=>∃xs ys,gM K H a xs/\gM K H b ys/\(xs.length<=i\/ys.length<=i)⟩
structure aLX(z p q i1 i2 a b:Addr)(i:Nat)(h:Heap):Prop where
 z0:IsZip h z p q .none
 p0:IsPair h p (.ref i1) (.ref i2)
 q0:∃u v,IsPair h q u v
 a0:h.IsListIter i1 a i
 b0:h.IsListIter i2 b i
def W8{P:Program}{w:World}{K:ZC}{es:List Expr}{n:Nat}{tp:Pos}(z p q i1 i2 a b:Addr)(D:ZipApart z p q i1 i2 a b):J4 P w K (.Tuple es n tp) (ŗ K a b) [z,p,q,i1,i2] z (aLX z p q i1 i2 a b) where
 mem:=by simp
 obj:=λi h st c hc=>by
  simp![Å,Í,or_false]at hc;rcases hc with rfl|rfl|rfl|rfl|rfl
  .exact⟨_,st.z0,λv e=>by cases e⟩
  .exact⟨_,st.p0,λv e=>by cases e⟩
  .obtain⟨u,v,e⟩:=st.q0
   grind
  .obtain⟨o,e,_,d⟩:=st.a0
   grind
  .obtain⟨o,e,_,d⟩:=st.b0
   grind
 keep:=λi h h' st k=>⟨k z (by simp) _ st.z0,k p (by simp) _ st.p0,by
  let⟨u,v,e⟩:=st.q0
  grind,st.a0.at λo e=>k i1 (by simp) o e,st.b0.at λo e=>k i2 (by simp) o e⟩
 item:=by
  intro X hP hw hK hc i U s σ H E I hf st hg;subst hP hw hK;let⟨xs,ys,x,y,hx,hy,ex,ey⟩:=hg;let⟨ia,ra,pa,_⟩:=I.list hx;let⟨ib,rb,pb,_⟩:=I.list hy;let⟨u,hu,ru⟩:=ra.get ex;let⟨v,hv,rv⟩:=rb.get ey;let⟨c1,c2,hq⟩:=st.q0;refine wpAny_pyNext_zip_item D st.z0 st.p0 hq st.a0 st.b0 pa.isList pb.isList (x:=u) (y:=v) (by simpa using hu) (by simpa using hv) λh1 e1 e2 e3 e4 e5 e6 k1=>⟨_,rfl,?_⟩;refine wpAny_letOwnedTupleGo_zip (s:={s with heap:=h1}) e1 λh2 f1 f2=>?_;have hT:s.heap.objs.size≠z:=ê (Heap.lt_size st.z0);have tup:IsTup h2 s.heap.objs.size #[u,v]:=⟨_,f2.extBut _ _ hT e5,rfl,_,rfl⟩;have kk:∀c o,c∉[z,q,i1,i2]->s.heap.get? c=some o->h2.get? c=some o:=λc o n e=>by
   simp![Å,Í,or_false,not_or]at n;exact f2.extBut _ _ n.1 (k1 c o n.1 n.2.1 n.2.2.1 n.2.2.2 e)
  have fp:∀c∈[z,q,i1,i2],wE X U H c:=λc hc=>hf c (by
   grind)
  have I2:bM X U σ (eB H s.heap.objs.size (.tup [x,y])) {s with heap:=h2,toks:=s.toks}:=I.pair (us:=[u,v]) kk fp (È _) (show 2<=sizeLine by decide) (.cons ru (.cons rv .nil)) tup;refine⟨.ref s.heap.objs.size,_,I2,rfl,⟨_,x,y,I.hok.fresh (È _),rfl,rfl,λxs' h=>by rw[I.list_inj h hx];exact ex,λys' h=>by rw[I.list_inj h hy];exact ey⟩,⟨f1,f2.extBut _ _ D.TIz (k1 _ _ D.TIz D.TITO D.TIi1 D.TIi2 st.p0),⟨_,_,f2.extBut _ _ D.TOz e2⟩,e3.extBut f2.extBut D.i1z,e4.extBut f2.extBut D.i2z⟩,λc hc=>?_⟩
  rw[aZ]
  .exact(hf c hc).1
  .intro z0
   simp![Å,Í,or_false]at hc;have lt:∀{c o},s.heap.get? c=some o->c≠s.heap.objs.size:=λe=>Ï (Heap.lt_size e);let⟨o1,g1,_⟩:=st.a0;let⟨o2,g2,_⟩:=st.b0;rcases hc with rfl|rfl|rfl|rfl|rfl
   .exact lt st.z0 z0
   .exact lt st.p0 z0
   all_goals grind
 done:=by
  intro X hP hw hK hc i U s σ H E I hf st hg;subst hP hw hK;let⟨xs,ys,hx,hy,hl⟩:=hg;let⟨ia,ra,pa,_⟩:=I.list hx;let⟨ib,rb,pb,_⟩:=I.list hy;let⟨c1,c2,hq⟩:=st.q0;have la:=ra.length;have lb:=rb.length;refine wpAny_pyNext_zip_end (I.ok.hd hc) D st.z0 st.p0 hq st.a0 st.b0 pa.isList pb.isList ?_ λh1 k1=>⟨rfl,I.turns (t':=s.toks) (ch:=[z,q,i1,i2]) (λc o n e=>?_) λc hc=>hf c ?_⟩
  all_goals grind
 self:=λ_ _ _ _ _ st h=>wpAny_pyIter_zip st.z0 h
section
variable{X:Cx}{tg:Expr}
def aOT(K:ZC)(ta:TA):TI:=λσ H R=>ta σ H λvs H1=>∃a b,vs=[.ref a,.ref b]/\(∃xs,gM K H1 a xs)/\(∃ys,gM K H1 b ys)/\R (ŗ K a b) H1
def aIU{a b:Expr}{ta:TA}{es:List Expr}{n:Nat}{tp p pos:Pos}(hg:Gl X "zip")(hm:X.mg "zip"=none)(ha:PA X [a,b] ta)(hs:↥(starEach [a,b] X.env=[(false,eval a X.env),(false,eval b X.env)]))(hs2:↥(starEach [b] X.env=[(false,eval b X.env)])):
  PI X (.Tuple es n tp) (.Call (.Name "zip" p) [a,b] [] pos) (aOT X.K ta):=by
 intro U s σ H R I h;refine Call_ (p7 I hg hm boot_zip (callWith_type1 (dL (ha pos U s σ H _ I h) λus s1 zQ=>?_) (by rw[hs,hs2]) (by rw[hs2];rfl)));let⟨vs,H1,I1,r1,q1⟩:=zQ;let⟨l,m,e,⟨xs,hx⟩,⟨ys,hy⟩,q⟩:=q1;subst e;cases r1 with
 |cons r rr=>
  cases rr with
  |cons r' rr=>
   cases rr;cases r;cases r';let⟨ia,ra,pa,_⟩:=I1.list hx;let⟨ib,rb,pb,_⟩:=I1.list hy;refine call_zip_2 pa.isList pb.isList λh1 z1 z2 z3 z4 z5 sz kk=>wpAny_pyIter_zip (s:={s1 with heap:=h1}) z1 ?_;have la:l<s1.heap.objs.size:=by let⟨o,n,e,_⟩:=pa;exact Heap.lt_size e
   have lb:m<s1.heap.objs.size:=by let⟨o,n,e,_⟩:=pb;exact Heap.lt_size e
   have ge:∀c∈[s1.heap.objs.size+4,s1.heap.objs.size+2,s1.heap.objs.size+3,s1.heap.objs.size,s1.heap.objs.size+1],s1.heap.objs.size<=c:=λc hc=>by
    grind
   refine⟨_,_,_,_,H1,rfl,I1.kept (t':=s1.toks) kk,W8 _ _ _ _ _ l m ?_,⟨z1,z2,⟨_,_,z3⟩,z4,z5⟩,λc hc=>I1.fpOk (ge c hc) (I1.hok.fresh (ge c hc)),q⟩;have la:@LT.lt Nat instLTNat l s1.heap.objs.size:=la;have lb:@LT.lt Nat instLTNat m s1.heap.objs.size:=lb;constructor<;>(grind)
end
def jZ(as bs:ZG):ZG:=List.zipWith (λa b=>PyData.tuple [a,b]) as bs
def HD{K:ZC}{F:Hp}{p:Addr}{x y:V}{d e:D}(h:F p=some (.tup [x,y]))(rx:cI K F d x)(ry:cI K F e y):cI K F (.tuple [d,e]) (.ref p):=by
 unfold cI;refine⟨p,_,rfl,tX.of h,?_⟩;unfold aJ;refine⟨_,_,rfl,rx,?_⟩;unfold aJ;refine⟨_,_,rfl,ry,?_⟩;unfold aJ;rfl
def aDU{K:ZC}{F:Hp}{a b:Addr}{xs ys:List V}{ds es:ZG}(hx:gM K F a xs)(hy:gM K F b ys)(rx:aJ K F ds xs)(ry:aJ K F es ys):VC K F (ŗ K a b) (jZ ds es) where
 go:=λi H s hi=>by
  have hi:i<min ds.length es.length:=by simpa[jZ]using hi
  have l1:=rx.len;have l2:=ry.len;exact⟨xs,ys,xs[i]'∅,ys[i]'∅,s.seq hx,s.seq hy,Ç _,Ç _⟩
 yld:=λi H v H' d s y e=>by
  let⟨p,x,y,hp,rfl,rfl,q1,q2⟩:=y;have hi:=(Ó.mp e).1;have hi:i<min ds.length es.length:=by simpa[jZ]using hi
  have e1:ds[i]?=some ds[i]:=Ç ∅;have e2:es[i]?=some es[i]:=Ç ∅;have ee:(jZ ds es)[i]?=some (.tuple [ds[i],es[i]]):=by unfold jZ;rw[List.getElem?_zipWith,e1,e2]
  rw[ee]at e;cases e;let⟨x',f1,g1⟩:=rx.get e1;let⟨y',f2,g2⟩:=ry.get e2;have:=q1 xs (s.seq hx);rw[f1]at this;cases this;have:=q2 ys (s.seq hy);rw[f2]at this;cases this;refine .inr ⟨p,_,hp,rfl,λF2 s2 n=>HD cJ ?_ ?_⟩
  .exact(s2.trans' (dP n _)).rep _ _ g1
  .exact(s2.trans' (dP n _)).rep _ _ g2
 stop:=λH s=>⟨xs,ys,s.seq hx,s.seq hy,by
  have l1:=rx.len;have l2:=ry.len;simp![jZ,List.length_zipWith];lia⟩
def HE(f g:M D):M (ZG):=λδ=>(bO [f,g] δ).bind λds δ1=>match ds with
 |[.list as,.list bs]=>.ok (jZ as bs) δ1
 |_=>.stuck
section
variable{X:Cx}{Z:dQ}{ow:ZF}{a b:Expr}{f g:M D}
def HF{es:List Expr}{n:Nat}{tp p2 p3:Pos}(hgl:Gl X "zip")(hm:X.mg "zip"=none)(ha:DE X Z ow 0 a f)(hb:DE X Z ow 0 b g)(hst:↥(starEach [a,b] X.env=(false,eval a X.env)::starEach [b] X.env))(hst2:↥(Zse b [] X.env)):
  DI X Z ow (.Tuple es n tp) (.Call (.Name "zip" p2) [a,b] [] p3) (HE f g):=
 (aIU hgl hm (aG ha (aG hb aV hst2) hst) (hst.trans (by rw[hst2];rfl)) hst2).mono λσ H R q=>by
  let⟨F,δ,Rl,q⟩:=q;unfold HE at q;refine⟨F,δ,Rl,?_⟩;cases e1:bO [f,g] δ with
  |stuck=>rw[e1]at q;exact q.elim
  |ok ds δ1=>
   rw[e1]at q;simp![Res.bind]at q;intro vs H1 F1 R1 s1 ra;split at q
   .rename_i as bs
    unfold aJ at ra;let⟨x,t,rfl,rx,ra⟩:=ra;unfold aJ at ra;let⟨y,t,rfl,ry,ra⟩:=ra;unfold aJ at ra;subst ra;let⟨l,xs,rfl,hx,rx⟩:=oN rx;let⟨m,ys,rfl,hy,ry⟩:=oN ry;exact⟨l,m,rfl,⟨xs,R1.sub.seq hx⟩,⟨ys,R1.sub.seq hy⟩,q _ H1 F1 R1 s1 (aDU hx hy rx ry)⟩
   .exact q.elim
end
def Ř(K:ZC)(a:Addr):It:=
 ⟨λi H=>∃xs x,gM K H a xs/\xs[i]?=some x,
   λi H v H'=>∃p x,H p=none/\H'=eB H p (.tup [.int i,x])/\v=.ref p/\∀xs,gM K H a xs->xs[i]?=some x,
   λi H=>∃xs,gM K H a xs/\xs.length<=i⟩
structure aIV(e it a:Addr)(i:Nat)(h:Heap):Prop where
 e0:∃old,IsEnum h e it (i:Int) old
 a0:h.IsListIter it a i
def TB{P:Program}{w:World}{K:ZC}{es:List Expr}{n:Nat}{tp:Pos}(e it a:Addr)(hne:e≠it):J4 P w K (.Tuple es n tp) (Ř K a) [e,it] e (aIV e it a) where
 mem:=by simp
 obj:=λi h st c hc=>by
  simp![Å,Í,or_false]at hc;rcases hc with rfl|rfl
  .obtain⟨o,x⟩:=st.e0
   exact⟨_,x,λv e=>by cases e⟩
  .obtain⟨o,e,_,d⟩:=st.a0
   exact⟨o,e,λv x=>by rw[d]at x;cases x⟩
 keep:=λi h h' st k=>⟨by
  let⟨o,x⟩:=st.e0;exact⟨o,k e (by simp) _ x⟩,st.a0.at λo x=>k it (by simp) o x⟩
 item:=by
  intro X hP hw hK hc i U s σ H E I hf st hg;subst hP hw hK;let⟨xs,x,hx,ex⟩:=hg;let⟨ia,ra,pa,_⟩:=I.list hx;let⟨u,hu,ru⟩:=ra.get ex;let⟨old,he⟩:=st.e0;refine wpAny_pyNext_enum_item he st.a0 pa.isList (x:=u) (by simpa using hu) hne λh1 e1 e2 e3 e4 k1=>⟨_,rfl,?_⟩;refine wpAny_letOwnedTupleGo_enum (s:={s with heap:=h1,toks:=s.toks+1}) e1 λh2 f1 f2=>?_;have hT:s.heap.objs.size≠e:=ê (Heap.lt_size he);have tup:IsTup h2 s.heap.objs.size #[.int i s.toks,u]:=⟨_,f2.extBut _ _ hT e3,rfl,_,rfl⟩;have kk:∀c o,c∉[e,it]->s.heap.get? c=some o->h2.get? c=some o:=λc o n x=>by
   simp![Å,Í,or_false,not_or]at n;exact f2.extBut _ _ n.1 (k1 c o n.1 n.2 x)
  have I2:bM X U σ (eB H s.heap.objs.size (.tup [.int i,x])) {s with heap:=h2,toks:=s.toks+1}:=I.pair (us:=[.int i s.toks,u]) kk hf (È _) (show 2<=sizeLine by decide) (.cons ⟨_,rfl⟩ (.cons ru .nil)) tup;refine⟨.ref s.heap.objs.size,_,I2,rfl,⟨_,x,I.hok.fresh (È _),rfl,rfl,λxs' h=>by rw[I.list_inj h hx];exact ex⟩,⟨⟨_,by simpa using f1⟩,e2.extBut f2.extBut hne.symm⟩,λc hc=>?_⟩;rw[aZ]
  .exact(hf c hc).1
  .intro z0
   simp![Å,Í,or_false]at hc;have lt:∀{c o},s.heap.get? c=some o->c≠s.heap.objs.size:=λe=>Ï (Heap.lt_size e);let⟨o1,g1,_⟩:=st.a0;rcases hc with rfl|rfl
   .exact lt he z0
   .exact lt g1 z0
 done:=by
  intro X hP hw hK hc i U s σ H E I hf st hg;subst hP hw hK;let⟨xs,hx,hl⟩:=hg;let⟨ia,ra,pa,_⟩:=I.list hx;let⟨old,he⟩:=st.e0;have la:=ra.length;refine wpAny_pyNext_enum_end (I.ok.hd hc) he st.a0 pa.isList (Array.getElem?_eq_none (by simp;lia)) λh1 k1=>⟨rfl,I.turns (t':=s.toks) (ch:=[e,it]) (λc o n x=>?_) hf⟩;simp![Å,Í,or_false,not_or]at n;exact k1 c o n.2 x
 self:=λ_ _ _ _ _ st h=>by
  let⟨old,he⟩:=st.e0;exact wpAny_pyIter_enum he h
section
variable{X:Cx}{tg:Expr}
def aLY(K:ZC)(ta:TA):TI:=λσ H R=>ta σ H λvs H1=>∃a,vs=[.ref a]/\(∃xs,gM K H1 a xs)/\R (Ř K a) H1
def aDV{a:Expr}{ta:TA}{es:List Expr}{n:Nat}{tp p pos:Pos}(hg:Gl X "enumerate")(hm:X.mg "enumerate"=none)(ha:PA X [a] ta)(hs:↥(starEach [a] X.env=[(false,eval a X.env)])):
  PI X (.Tuple es n tp) (.Call (.Name "enumerate" p) [a] [] pos) (aLY X.K ta):=by
 intro U s σ H R I h;refine Call_ (p7 I hg hm boot_enumerate (callWith_type1 (dL (ha pos U s σ H _ I h) λus s1 zQ=>?_) hs rfl));let⟨vs,H1,I1,r1,q1⟩:=zQ;let⟨l,e,⟨xs,hx⟩,q⟩:=q1;subst e;cases r1 with
 |cons r rr=>
  cases rr;cases r;let⟨ia,ra,pa,_⟩:=I1.list hx;refine call_enumerate_list pa.isList λh1 z1 z2 sz kk=>wpAny_pyIter_enum (s:={s1 with heap:=h1}) z1 ?_;have ge:∀c∈[s1.heap.objs.size+1,s1.heap.objs.size],s1.heap.objs.size<=c:=λc hc=>by
   simp![Å,Í,or_false]at hc;rcases hc with rfl|rfl<;>lia
  exact⟨_,_,_,_,H1,rfl,I1.kept (t':=s1.toks) kk,TB _ _ l (show ¬(s1.heap.objs.size+1=s1.heap.objs.size) by lia),⟨⟨_,z1⟩,z2⟩,λc hc=>I1.fpOk (ge c hc) (I1.hok.fresh (ge c hc)),q⟩
end
def eN(ds:ZG):ZG:=ds.mapIdx λi d=>PyData.tuple [.int i,d]
def W9{K:ZC}{F:Hp}{a:Addr}{xs:List V}{ds:ZG}(hx:gM K F a xs)(rx:aJ K F ds xs):VC K F (Ř K a) (eN ds) where
 go:=λi H s hi=>by
  have hi:i<ds.length:=by simpa[eN]using hi
  have l1:=rx.len;exact⟨xs,xs[i]'(by exact þ ‹_› ‹_›),s.seq hx,Ç _⟩
 yld:=λi H v H' d s y e=>by
  let⟨p,x,hp,rfl,rfl,q1⟩:=y;have hi:=(Ó.mp e).1;have hi:i<ds.length:=by simpa[eN]using hi
  have e1:ds[i]?=some ds[i]:=Ç hi;have ee:(eN ds)[i]?=some (.tuple [.int i,ds[i]]):=by unfold eN;rw[List.getElem?_mapIdx,e1];rfl
  rw[ee]at e;cases e;let⟨x',f1,g1⟩:=rx.get e1;have:=q1 xs (s.seq hx);rw[f1]at this;cases this;exact .inr ⟨p,_,hp,rfl,λF2 s2 n=>HD cJ kF ((s2.trans' (dP n _)).rep _ _ g1)⟩
 stop:=λH s=>⟨xs,s.seq hx,by
  have l1:=rx.len;simp![eN,List.length_mapIdx];lia⟩
def gC(f:M D):M (ZG):=λδ=>(bO [f] δ).bind λds δ1=>match ds with
 |[.list as]=>.ok (eN as) δ1
 |_=>.stuck
section
variable{X:Cx}{Z:dQ}{ow:ZF}{n:Nat}{pos:Pos}{a b:Expr}{f g:M D}{K:ZC}{F:Hp}
def gX{es:List Expr}{n:Nat}{tp p2 p3:Pos}(hgl:Gl X "enumerate")(hm:X.mg "enumerate"=none)(ha:DE X Z ow 0 a f)(hst:↥(Zse a [] X.env)):
  DI X Z ow (.Tuple es n tp) (.Call (.Name "enumerate" p2) [a] [] p3) (gC f):=
 (aDV hgl hm (aG ha aV hst) hst).mono λσ H R q=>by
  let⟨F,δ,Rl,q⟩:=q;unfold gC at q;refine⟨F,δ,Rl,?_⟩;cases e1:bO [f] δ with
  |stuck=>rw[e1]at q;exact q.elim
  |ok ds δ1=>
   rw[e1]at q;simp![Res.bind]at q;intro vs H1 F1 R1 s1 ra;split at q
   .rename_i as
    unfold aJ at ra;let⟨x,t,rfl,rx,ra⟩:=ra;unfold aJ at ra;subst ra;let⟨l,xs,rfl,hx,rx⟩:=oN rx;exact⟨l,rfl,⟨xs,R1.sub.seq hx⟩,q _ H1 F1 R1 s1 (W9 hx rx)⟩
   .exact q.elim
def aIW:bootBuiltins "sum"=some (.builtin "sum"):=by decide +kernel
end
section
variable{X:Cx}{Z:dQ}{ow:ZF}{pos:Pos}{a b:Expr}{f g:M D}
end
section
variable{X:Cx}
def fJ:iH X (.type "str") (λxs H Q=>(∃i,xs=[.int i]/\i.natAbs.log2<1920/\Q (.str (toString i)) H)\/∃z,xs=[.str z]/\Q (.str z) H):=by
 intro U s σ H xs us Q I r h;rcases h with h|⟨z,rfl,q⟩
 .exact GL U s σ H xs us Q I r h
 .obtain⟨u,rfl,t,rfl⟩:=nR r
  exact PySem.P.str_of_str ⟨.str z,H,I,⟨t,rfl⟩,q⟩
def strA:ZG->ZJ
 |[.int i]=>if i.natAbs.log2<1920 then some (.str (toString i))else none
 |[.str z]=>some (.str z)
 |_=>none
def oS:WC X (λxs H Q=>(∃i,xs=[.int i]/\i.natAbs.log2<1920/\Q (.str (toString i)) H)\/∃z,xs=[.str z]/\Q (.str z) H) 0 strA:=λZ ow F H σ δ ds vs d Q S R ra e q=>by
 unfold strA at e;split at e
 .split at e
  .rename_i hz
   cases e;let⟨v,rfl,r⟩:=vA ra;exact .inl ⟨_,by rw[k8 r],hz,q _ H F (R.x kG) (aW.refl _)⟩
  .cases e
 .cases e
  let⟨v,rfl,r⟩:=vA ra;exact .inr ⟨_,by rw[fI r],q _ H F (R.x kG) (aW.refl _)⟩
 .cases e
end
section
variable{prog:Program}{w:World}{A:Around}{E:ZA}{s:Shared}
def XA{z p r c1 c2 l1:Addr}{k:Nat}{xs:Array Value}{a b:Value}{Q:ZL->Shared->Prop}(hh:A.handled=none)(i1z:c1≠z)(l1z:l1≠z)(g0:IsZip s.heap z p r .none)(g1:IsPair s.heap p (.ref c1) (.ref c2))(g2:IsPair s.heap r a b)(g3:s.heap.IsListIter c1 l1 k)(g5:s.heap.IsList l1 xs)(ex:xs[k]?=none)(q:∀h',(∀c o,c≠z->c≠r->c≠c1->c≠c2->s.heap.get? c=some o->h'.get? c=some o)->Q none {s with heap:=h'}):wpAny (model prog w) A (pyNext (.ref z)) Q E s:=by
 have hT:s.TypeIs (.ref z) "zip":=⟨_,g0,rfl⟩;unfold pyNext;refine wpAny_bind (wpAny_attempt (wpAny_callSpecial?_slot (name:=Str.ofString "__next__") hT F.slot_zip_next (wpAny_call_entry F.slot_zip_next hT F.entry_zip_next ?_ (F.args_zip_next_1 _))));show wpAny _ _ (field (.ref z) 2 >>= _) _ _ _;refine wpAny_bind (wpAny_field g0 rfl (x:=.bool false) rfl ?_);show wpAny _ _ (field (.ref z) 3 >>= _) _ _ _;refine wpAny_bind (wpAny_field g0 rfl (x:=.ref p) rfl ?_);refine wpAny_bind (wpAny_seqItems g1 rfl ?_);show wpAny _ _ (Builtin.SmallTypes.ownedTupleIsFree (.ref z) >>= _) _ _ _;refine wpAny_bind ?_;unfold Builtin.SmallTypes.ownedTupleIsFree;refine wpAny_bind (wpAny_field g0 rfl (x:=.none) rfl (wpAny_pure ?_));simp![if_true];refine wpAny_bind (wpAny_rule ?_);refine wpAny_bind (wpAny_field g0 rfl (x:=.ref r) rfl ?_);refine wpAny_bind (wpAny_setField_rec g0 (by simp) λm1 n1 s1=>?_);replace n1:IsZip m1 z p r .ellipsis:=n1;refine wpAny_bind ?_;simp![List.zipIdx_cons,List.zipIdx_nil,List.forIn_cons,List.forIn_nil];refine wpAny_bind (wpAny_bind (wpAny_onRaise ?_));show wpAny _ _ (Builtin.SmallTypes.nextOf (.ref c1) >>= _) _ _ _;refine wpAny_bind (wpAny_nextOf_list_end hh (g3.extBut s1.extBut i1z) (g5.extBut s1.extBut l1z) ex λm2 e s2 he=>?_);let⟨oe,ge,ce⟩:=he;have z2:IsZip m2 z p r .ellipsis:=s2 _ _ i1z.symm n1;have ez:e≠z:=λv=>by grind
 refine wpAny_setField_rec z2 (by simp) λm3 _ s3=>?_;refine wpAny_bind (wpAny_isInstance (T:="StopIteration") (b:=true) ⟨oe,s3.extBut _ _ ez ge,ce⟩ isSubtype_stop ?_);exact wpAny_pure (q _ λc o e1 _ e3 _ v=>s3.extBut _ _ e1 (s2 _ _ e3 (s1.extBut _ _ e1 v)))
end
abbrev zA(h:Heap)(l1:Addr):Heap:=h.push {cls:=.type "list_iterator",data:=.fields #[.ref l1,.int 0 0]}
section
variable{prog:Program}{w:World}{A:Around}{E:ZA}{s:Shared}
end
section
variable{X:Cx}{tg:Expr}
end
section
variable{X:Cx}{Z:dQ}{ow:ZF}{a b:Expr}{f g:M D}
end
end L2
namespace L2
open PySem PySem.Spec
def XB(o:ZJ)(δ:DS)(Q:D->ZM)(_w:Wt Q:=⟨⟩):Prop:=∃r,o=some r/\Q r δ
def HG(o:Option (ZJ))(δ:DS)(Q:D->ZM)(_w:Wt Q:=⟨⟩):Prop:=∃d,o=some (some d)/\Q d δ
def ř(i:Nat)(d:D)(δ:DS)(N:ZM)(_w:Wt N:=⟨⟩):Prop:=i<δ.length/\N (δ.set i (some d))
def FB(d:D)(δ:DS)(Q:Bool->ZM)(_w:Wt Q:=⟨⟩):Prop:=∃b,d=.bool b/\Q b δ
def Ś(o:Option DS)(N:ZM)(_w:Wt N:=⟨⟩):Prop:=∃δ,o=some δ/\N δ
def ĸ(o:Option (D×ZG))(i:Nat)(δ:DS)(Q:D->ZM)(_w:Wt Q:=⟨⟩):Prop:=∃ret ds',o=some (ret,ds')/\Q ret (δ.set i (some (.list ds')))
def Ē:Prop:=bJ (λ_=>(.stuck:Res Unit)) [] λ_ _=>cQ (λ_=>.stuck) [] (λ_=>False) (λ_=>False) (λ_=>False) λ_ _=>False
def Ċ:Ē=False:=rfl
def Ĺ:Nat->D->DS->Option DS
 |_,_,[]=>none
 |0,d,_::l=>some (some d::l)
 |n+1,d,a::l=>match Ĺ n d l with
  |some l=>some (a::l)
  |none=>none
def mG(o:ZJ)(δ:DS)(Q:D->ZM)(_w:Wt Q:=⟨⟩):Prop:=match o with
 |some r=>Q r δ
 |none=>Ē
def TC(r:Res D)(is:ZF)(δ:DS)(Q:D->ZM)(_w:Wt Q:=⟨⟩):Prop:=match r with
 |.ok d os=>Q d (eL is (os.filterMap id) δ)
 |_=>Ē
def D2(o:Option (D×ZG))(i:Nat)(δ:DS)(Q:D->ZM)(_w:Wt Q:=⟨⟩):Prop:=match o with
 |some (ret,ds)=>Q ret (δ.set i (some (.list ds)))
 |none=>Ē
def ġ(o:Option Nat)(ds:ZG)(v:D)(i:Nat)(δ:DS)(N:ZM)(_w:Wt N:=⟨⟩):Prop:=match o with
 |some j=>N (δ.set i (some (.list (ds.set j v))))
 |none=>Ē
def TD(o:Option DS)(N:ZM)(_w:Wt N:=⟨⟩):Prop:=match o with
 |some δ=>N δ
 |none=>Ē
def ē:Prop:=mG .none [] λ_ _=>TC .stuck [] [] λ_ _=>D2 .none 0 [] λ_ _=>ġ .none [] .none 0 [] λ_=>TD .none λ_=>False
def ś:ē=False:=rfl
def d9(o:Option (ZJ))(δ:DS)(Q:D->ZM)(_w:Wt Q:=⟨⟩):Prop:=match o with
 |some (some d)=>Q d δ
 |_=>ē
def D3(i:Nat)(d:D)(δ:DS)(N:ZM)(_w:Wt N:=⟨⟩):Prop:=match Ĺ i d δ with
 |some l=>N l
 |none=>ē
def pS(d:D)(δ:DS)(Q:Bool->ZM)(_w:Wt Q:=⟨⟩):Prop:=match d with
 |.bool b=>Q b δ
 |_=>ē
def KK(o:Option (ZG))(fn:ZG->Res D)(is:ZF)(δ:DS)(Q:D->ZM)(_w:Wt Q:=⟨⟩):Prop:=match o with
 |some ds=>TC (fn ds) is δ Q
 |none=>ē
def XC(o:Option (ZJ))(i:Nat)(op:ZG->ZG->Option (D×ZG))(args:ZG)(δ:DS)(Q:D->ZM)(_w:Wt Q:=⟨⟩):Prop:=match o with
 |some (some (.list ds))=>D2 (op ds args) i δ Q
 |_=>ē
def XD(o:Option (ZJ))(k v:D)(i:Nat)(δ:DS)(N:ZM)(_w:Wt N:=⟨⟩):Prop:=match o,k with
 |some (some (.list ds)),.int n=>ġ (mT ds.length n) ds v i δ N
 |_,_=>ē
def mY:@mG=@XB:=by funext o δ Q w;cases o<;>simp[mG,XB,Ċ]
def oT:@d9=@HG:=by funext o δ Q w;rcases o with _|_|d<;>simp[d9,HG,ś]
def vE:@pS=@FB:=by funext d δ Q w;cases d<;>simp[pS,FB,ś]
def aDY:@TD=@Ś:=by funext o N w;cases o<;>simp[TD,Ś,Ċ]
def QP:@D2=@ĸ:=by
 funext o i δ Q w;rcases o with _|⟨r,ds⟩
 .simp[D2,ĸ,Ċ]
 .simp![D2,ĸ]
  exact propext ⟨λq=>⟨_,_,rfl,q⟩,λ⟨_,_,h,q⟩=>by cases h;exact q⟩
def QQ:∀{δ:DS}{i:Nat}{d:D},Ĺ i d δ=if i<δ.length then some (δ.set i (some d))else none
 |[],i,d=>by cases i<;>rfl
 |a::l,0,d=>rfl
 |a::l,i+1,d=>by
  rw[Ĺ,QQ (δ:=l)];by_cases h:i<l.length
  .rw[Á h,Á (show i+1<(a::l).length from Nat.succ_lt_succ h)];rfl
  .rw[Ã h,Ã (show ¬i+1<(a::l).length from λz=>h (Nat.lt_of_succ_lt_succ z))]
def aI1:@D3=@ř:=by
 funext i d δ N w;unfold D3 ř;rw[QQ];by_cases h:i<δ.length
 .simp[h]
 .simp[h,ś]
section
variable{m:M Fl}{α:Type}{f:M α}{δ δ':DS}{N B C:ZM}{R:D->ZM}{Q:D->ZM}
def Θ{r:D}:mG (some r) δ Q=Q r δ:=Eq.trans rfl rfl
def Ι{d:D}:d9 (some (some d)) δ Q=Q d δ:=rfl
def XE{b:Bool}{Q:Bool->ZM}:pS (.bool b) δ Q=Q b δ:=rfl
def k_set:TD (some δ) N=N δ:=Eq.trans rfl rfl
def k_fill{fn:ZG->Res D}{is:ZF}{ds:ZG}:KK (some ds) fn is δ Q=TC (fn ds) is δ Q:=rfl
def XF{d:D}{os:DS}:TC (.ok d os) [] δ Q=Q d δ:=Eq.trans rfl rfl
def XG{d e:D}{i:Nat}:TC (.ok d [some e]) [i] δ Q=Q d (δ.set i (some e)):=Eq.trans rfl rfl
def Κ{i:Nat}{op:ZG->ZG->Option (D×ZG)}{args ds:ZG}:XC (some (some (.list ds))) i op args δ Q=D2 (op ds args) i δ Q:=rfl
def XH{i:Nat}{r:D}{ds:ZG}:D2 (some (r,ds)) i δ Q=Q r (δ.set i (some (.list ds))):=Eq.trans rfl rfl
def XI{ds:ZG}{n:Int}{v:D}{i:Nat}:XD (some (some (.list ds))) (.int n) v i δ N=ġ (mT ds.length n) ds v i δ N:=rfl
def Ŝ{ds:ZG}{j:Nat}{v:D}{i:Nat}:ġ (some j) ds v i δ N=N (δ.set i (some (.list (ds.set j v)))):=Eq.trans rfl rfl
def Λ{i j:Int}:mG (hG (.int i) (.int j)) δ Q=(IntMulOk i j/\Q (.int (i*j)) δ):=by
 rw[mY];refine propext ⟨λzQ=>?_,λzQ=>by let⟨h,p⟩:=zQ;exact ⟨_,aDI h,p⟩⟩;let⟨r,h,p⟩:=zQ;unfold hG iD at h;dsimp only at h;split at h
 .rename_i hc;cases h;exact⟨hc,p⟩
 .cases h
def Μ{ds:ZG}{d:D}{i:Nat}:D2 (t0 ds [d]) i δ Q=(ds.length<sizeLine/\Q .none (δ.set i (some (.list (ds++[d]))))):=by
 rw[QP];refine propext ⟨λzQ=>?_,λzQ=>by let⟨h,p⟩:=zQ;exact ⟨_,_,Á h,p⟩⟩;let⟨r,d2,h,p⟩:=zQ;unfold t0 at h;dsimp only at h;split at h
 .rename_i hc;cases h;exact⟨hc,p⟩
 .cases h
def Ν{a b:ZG}:mG (b8 (.list a) (.list b)) δ Q=(a.length+b.length<=sizeLine/\Q (.list (a++b)) δ):=by
 have e:b8 (.list a) (.list b)=if a.length+b.length<=sizeLine then some (.list (a++b))else none:=rfl;rw[e];rw[mY];unfold XB;split
 .rename_i h;simp[h]
 .rename_i h;simp[h]
def XJ{a0:ZJ}{d:D}:D3 0 d (a0::δ) N=N (some d::δ):=rfl
def XL{a0 a1:ZJ}{d:D}:D3 1 d (a0::a1::δ) N=N (a0::some d::δ):=rfl
def XM{a0 a1 a2:ZJ}{d:D}:D3 2 d (a0::a1::a2::δ) N=N (a0::a1::some d::δ):=rfl
def XN{a0 a1 a2 a3:ZJ}{d:D}:D3 3 d (a0::a1::a2::a3::δ) N=N (a0::a1::a2::some d::δ):=rfl
def XO{a0 a1 a2 a3 a4:ZJ}{d:D}:D3 4 d (a0::a1::a2::a3::a4::δ) N=N (a0::a1::a2::a3::some d::δ):=rfl
def XQ{a0 a1 a2 a3 a4 a5:ZJ}{d:D}:D3 5 d (a0::a1::a2::a3::a4::a5::δ) N=N (a0::a1::a2::a3::a4::some d::δ):=rfl
def XR{a0 a1 a2 a3 a4 a5 a6:ZJ}{d:D}:D3 6 d (a0::a1::a2::a3::a4::a5::a6::δ) N=N (a0::a1::a2::a3::a4::a5::some d::δ):=rfl
def XS{a0 a1 a2 a3 a4 a5 a6 a7:ZJ}{d:D}:D3 7 d (a0::a1::a2::a3::a4::a5::a6::a7::δ) N=N (a0::a1::a2::a3::a4::a5::a6::some d::δ):=rfl
def XT{a0 a1 a2 a3 a4 a5 a6 a7 a8:ZJ}{d:D}:D3 8 d (a0::a1::a2::a3::a4::a5::a6::a7::a8::δ) N=N (a0::a1::a2::a3::a4::a5::a6::a7::some d::δ):=rfl
def XU{a0 a1 a2 a3 a4 a5 a6 a7 a8 a9:ZJ}{d:D}:D3 9 d (a0::a1::a2::a3::a4::a5::a6::a7::a8::a9::δ) N=N (a0::a1::a2::a3::a4::a5::a6::a7::a8::some d::δ):=rfl
def QR{a0 a1 a2 a3 a4 a5 a6 a7 a8 a9 a10:ZJ}{d:D}:D3 10 d (a0::a1::a2::a3::a4::a5::a6::a7::a8::a9::a10::δ) N=N (a0::a1::a2::a3::a4::a5::a6::a7::a8::a9::some d::δ):=rfl
def QS{a0 a1 a2 a3 a4 a5 a6 a7 a8 a9 a10 a11:ZJ}{d:D}:D3 11 d (a0::a1::a2::a3::a4::a5::a6::a7::a8::a9::a10::a11::δ) N=N (a0::a1::a2::a3::a4::a5::a6::a7::a8::a9::a10::some d::δ):=rfl
def QT{a0 a1 a2 a3 a4 a5 a6 a7 a8 a9 a10 a11 a12:ZJ}{d:D}:D3 12 d (a0::a1::a2::a3::a4::a5::a6::a7::a8::a9::a10::a11::a12::δ) N=N (a0::a1::a2::a3::a4::a5::a6::a7::a8::a9::a10::a11::some d::δ):=rfl
def QU{a0 a1 a2 a3 a4 a5 a6 a7 a8 a9 a10 a11 a12 a13:ZJ}{d:D}:D3 13 d (a0::a1::a2::a3::a4::a5::a6::a7::a8::a9::a10::a11::a12::a13::δ) N=N (a0::a1::a2::a3::a4::a5::a6::a7::a8::a9::a10::a11::a12::some d::δ):=rfl
def QV{a0 a1 a2 a3 a4 a5 a6 a7 a8 a9 a10 a11 a12 a13 a14:ZJ}{d:D}:D3 14 d (a0::a1::a2::a3::a4::a5::a6::a7::a8::a9::a10::a11::a12::a13::a14::δ) N=N (a0::a1::a2::a3::a4::a5::a6::a7::a8::a9::a10::a11::a12::a13::some d::δ):=rfl
def QW{a0 a1 a2 a3 a4 a5 a6 a7 a8 a9 a10 a11 a12 a13 a14 a15:ZJ}{d:D}:D3 15 d (a0::a1::a2::a3::a4::a5::a6::a7::a8::a9::a10::a11::a12::a13::a14::a15::δ) N=N (a0::a1::a2::a3::a4::a5::a6::a7::a8::a9::a10::a11::a12::a13::a14::some d::δ):=rfl
end
section
variable{α:Type}{u v:M Fl}{f g:M D}{c c':M Bool}{δ:DS}{N B C:ZM}{R:D->ZM}{Q:D->ZM}{P:D->Prop}{i:Nat}
def KL:cQ (aQ u v) δ N B C R=cQ u δ (λδ1=>cQ v δ1 N B C R) B C R:=by
 refine propext ⟨λh=>?_,aIP⟩;unfold cQ aQ at *;cases e:u δ with
 |stuck=>rw[e]at h;exact h
 |ok fl d=>rw[e]at h;cases fl<;>exact h
def XV:cQ cK δ N B C R=N δ:=rfl
def Ξ:cQ (λδ=>.ok .brk δ) δ N B C R=B δ:=rfl
def XW:cQ (λδ=>.ok .cont δ) δ N B C R=C δ:=rfl
def QX:cQ (bT i f) δ N B C R=bJ f δ λd δ1=>D3 i d δ1 N:=by
 rw[aI1];unfold cQ bT bJ ř;cases f δ with
 |ok a d=>
  dsimp![Res.bind];by_cases h:i<d.length
  .rw[Á h]
   exact propext ⟨λq=>⟨h,q⟩,And.right⟩
  .rw[Ã h]
   exact propext ⟨False.elim,λq=>h q.1⟩
 |_=>rfl
def XX:cQ (cA f) δ N B C R=bJ f δ R:=by
 unfold cQ cA bJ;cases f δ<;>rfl
def NT:cQ (c7 f) δ N B C R=bJ f δ λ_ δ1=>N δ1:=by
 unfold cQ c7 bJ;cases f δ<;>rfl
def ŝ:cQ (dH c u v) δ N B C R=bJ c δ λb δ1=>if b=true then cQ u δ1 N B C R else cQ v δ1 N B C R:=by
 refine propext ⟨λh=>?_,aLV⟩;unfold cQ dH at h;unfold bJ;cases e:c δ with
 |stuck=>rw[e]at h;exact h
 |ok b d=>
  rw[e]at h;cases b
  .exact h
  .exact h
def XY{set:D->DS->Option DS}:cQ (ķ set f) δ N B C R=bJ f δ λd δ1=>TD (set d δ1) N:=by
 rw[aDY];unfold cQ ķ bJ Ś;cases f δ with
 |stuck=>rfl
 |ok a d=>
  simp![Res.bind];cases set a d<;>simp
def XZ:bJ (aD i) δ Q=d9 δ[i]? δ Q:=by
 rw[oT];unfold bJ aD HG;cases δ[i]? with
 |none=>simp
 |some o=>cases o<;>simp
def Ο{d:D}:bJ (dC d) δ Q=Q d δ:=rfl
def Ş{op:D->D->ZJ}:bJ (aU op f g) δ Q=bJ f δ λa δ1=>bJ g δ1 λb δ2=>mG (op a b) δ2 Q:=by
 rw[mY];unfold bJ aU XB;cases f δ with
 |stuck=>rfl
 |ok a d=>
  simp![Res.bind];cases g d with
  |stuck=>rfl
  |ok b d=>dsimp only;cases op a b<;>simp
def ş{op:D->ZJ}:bJ (t6 op f) δ Q=bJ f δ λa δ1=>mG (op a) δ1 Q:=by
 rw[mY];unfold bJ t6 XB;cases f δ with
 |stuck=>rfl
 |ok a d=>simp![Res.bind];cases op a<;>simp
def QY{Q:ZG->ZM}:bJ (bO []) δ Q=Q [] δ:=rfl
def HH{fs:List (M D)}{Q:ZG->ZM}:bJ (bO (f::fs)) δ Q=bJ f δ λa δ1=>bJ (bO fs) δ1 λds δ2=>Q (a::ds) δ2:=by
 unfold bJ;rw[bO];dsimp only;cases f δ with
 |stuck=>rfl
 |ok a d=>
  simp![Res.bind];cases bO fs d<;>rfl
def Š{op:ZG->ZJ}{fs:List (M D)}:bJ (jY op fs) δ Q=bJ (bO fs) δ λds δ1=>mG (op ds) δ1 Q:=by
 rw[mY];unfold bJ jY XB;cases bO fs δ with
 |stuck=>rfl
 |ok a d=>simp![Res.bind];cases op a<;>simp
def X0{fs:List (M D)}:bJ (iJ fs) δ Q=bJ (bO fs) δ λds δ1=>ds.length<=sizeLine/\Q (.tuple ds) δ1:=by
 unfold bJ iJ;cases bO fs δ with
 |stuck=>rfl
 |ok a d=>
  simp![Res.bind];split
  .rename_i z;split at z
   .rename_i h;cases z;simp[h]
   .cases z
  .rename_i z
   split at z
   .rename_i h
    exact absurd rfl (z _ _)
   .rename_i h;simp[h]
def X1{fs:List (M D)}:bJ (iK fs) δ Q=bJ (bO fs) δ λds δ1=>ds.length<=sizeLine/\Q (.list ds) δ1:=by
 unfold bJ iK;cases bO fs δ with
 |stuck=>rfl
 |ok a d=>
  simp![Res.bind];split
  .rename_i z;split at z
   .rename_i h;cases z;simp[h]
   .cases z
  .rename_i z
   split at z
   .rename_i h
    exact absurd rfl (z _ _)
   .rename_i h;simp[h]
def š{Q:Bool->ZM}:bJ (dB f) δ Q=bJ f δ λa δ1=>pS a δ1 Q:=by
 rw[vE];unfold bJ dB FB;cases f δ with
 |stuck=>rfl
 |ok a d=>cases a<;>simp[Res.bind]
def NU{Q:Bool->ZM}:bJ (eK c) δ Q=bJ c δ λb δ1=>Q (!b) δ1:=by
 unfold bJ eK;cases c δ<;>rfl
def NV:bJ (QI f) δ Q=bJ f δ λa δ1=>pS a δ1 λb δ2=>Q (.bool (!b)) δ2:=by
 rw[vE];unfold bJ QI FB;cases f δ with
 |stuck=>rfl
 |ok a d=>cases a<;>simp[Res.bind]
def X2{Q:Bool->ZM}:bJ (A1 c c') δ Q=bJ c δ λb δ1=>if b=true then Q true δ1 else bJ c' δ1 Q:=by
 unfold bJ A1;cases c δ with
 |stuck=>rfl
 |ok b d=>cases b<;>rfl
def NW{Q:Bool->ZM}:bJ (yR c c') δ Q=bJ c δ λb δ1=>if b=true then bJ c' δ1 Q else Q false δ1:=by
 unfold bJ yR;cases c δ with
 |stuck=>rfl
 |ok b d=>cases b<;>rfl
def NX:bJ (nY f g) δ Q=bJ f δ λa δ1=>pS a δ1 λb δ1=>if b=true then bJ g δ1 Q else Q (.bool false) δ1:=by
 rw[vE];unfold bJ nY FB;cases f δ with
 |stuck=>rfl
 |ok a d=>
  cases a with
  |bool b=>cases b<;>simp[Res.bind]
  |_=>simp[Res.bind]
def X3:bJ (Ĵ f g) δ Q=bJ f δ λa δ1=>pS a δ1 λb δ1=>if b=true then Q (.bool true) δ1 else bJ g δ1 Q:=by
 rw[vE];unfold bJ Ĵ FB;cases f δ with
 |stuck=>rfl
 |ok a d=>
  cases a with
  |bool b=>cases b<;>simp[Res.bind]
  |_=>simp[Res.bind]
def NY{fn:ZG->Res D}{as:List Arg}:bJ (aM fn as) δ Q=bJ (cZ as) δ λods δ1=>KK (fO δ1 as ods) fn (bP as) δ1 Q:=by
 unfold bJ aM KK TC;cases cZ as δ with
 |ok ods d=>
  dsimp![Res.bind];cases fO d as ods with
  |none=>rfl
  |some ds=>
   dsimp only;cases fn ds<;>rfl
 |_=>rfl
def QZ{Q:List (ZJ)->ZM}:bJ (cZ []) δ Q=Q [] δ:=rfl
def HI{as:List Arg}{Q:List (ZJ)->ZM}:bJ (cZ (.val f::as)) δ Q=bJ f δ λa δ1=>bJ (cZ as) δ1 λds δ2=>Q (some a::ds) δ2:=by
 unfold bJ;rw[cZ];dsimp only;cases f δ with
 |stuck=>rfl
 |ok a d=>simp![Res.bind];cases cZ as d<;>rfl
def HJ{as:List Arg}{j:Nat}{Q:List (ZJ)->ZM}:bJ (cZ (.own j::as)) δ Q=d9 δ[j]? δ λ_ δ=>bJ (cZ as) δ λds δ2=>Q (none::ds) δ2:=by
 rw[oT];unfold bJ HG;rw[cZ];dsimp only;cases δ[j]? with
 |none=>simp
 |some o=>
  cases o with
  |none=>simp
  |some d=>
   simp![Option.some.injEq,exists_eq_left'];cases cZ as δ<;>rfl
def X4{op:ZG->ZG->Option (D×ZG)}{fs:List (M D)}:bJ (kK i op fs) δ Q=d9 δ[i]? δ λ_ _=>bJ (bO fs) δ λargs δ1=>XC δ1[i]? i op args δ1 Q:=by
 unfold bJ kK d9 XC D2;cases δ[i]? with
 |none=>rfl
 |some o=>
  cases o with
  |none=>rfl
  |some d=>
   dsimp only;cases bO fs δ with
   |ok args δ1=>
    dsimp![Res.bind];cases δ1[i]? with
    |none=>rfl
    |some o=>
     cases o with
     |none=>rfl
     |some d=>
      cases d with
      |list ds=>
       dsimp only;cases op ds args with
       |none=>rfl
       |some p=>rfl
      |_=>rfl
   |_=>rfl
def X5{fk:M D}:bJ (D0 i fk) δ Q=d9 δ[i]? δ λ_ _=>bJ fk δ λk δ1=>d9 δ1[i]? δ1 λd δ1=>mG (bN d k) δ1 Q:=by
 unfold bJ D0 d9 mG;cases δ[i]? with
 |none=>rfl
 |some o=>
  cases o with
  |none=>rfl
  |some d=>
   dsimp only;cases fk δ with
   |ok k δ1=>
    dsimp![Res.bind];cases δ1[i]? with
    |none=>rfl
    |some o=>
     cases o with
     |none=>rfl
     |some d=>
      dsimp only;cases bN d k<;>rfl
   |_=>rfl
def X6{fk fv:M D}:cQ (DZ i fk fv) δ N B C R=bJ fv δ λv δ1=>d9 δ1[i]? δ1 λ_ δ1=>bJ fk δ1 λk δ2=>XD δ2[i]? k v i δ2 N:=by
 unfold cQ DZ bJ d9 XD ġ;cases fv δ with
 |ok w δ1=>
  dsimp![Res.bind];cases δ1[i]? with
  |none=>rfl
  |some o=>
   cases o with
   |none=>rfl
   |some d=>
    dsimp only;cases fk δ1 with
    |ok k δ2=>
     dsimp only;cases δ2[i]? with
     |none=>rfl
     |some o=>
      cases o with
      |none=>rfl
      |some d=>
       cases d with
       |list ds=>
        cases k with
        |int n=>
         dsimp only;cases mT ds.length n<;>rfl
        |_=>rfl
       |_=>rfl
    |_=>rfl
 |_=>rfl
def NZ:bJ (yT i) δ Q=d9 δ[i]? δ λd δ=>mG (dR [d]) δ Q:=by
 rw[oT,mY];unfold bJ yT HG XB;cases δ[i]? with
 |none=>simp
 |some o=>
  cases o with
  |none=>simp
  |some d=>
   simp![Option.some.injEq,exists_eq_left'];cases e:dR [d]<;>simp
def X7:bJ (ă c f g) δ Q=bJ c δ λb δ1=>if b=true then bJ f δ1 Q else bJ g δ1 Q:=by
 unfold bJ ă;cases c δ with
 |stuck=>rfl
 |ok b d=>cases b<;>rfl
def Ρ{i j:Int}:b8 (.int i) (.int j)=some (.int (i+j)):=rfl
def Τ{i j:Int}:sR (.int i) (.int j)=some (.int (i-j)):=rfl
def Υ{i:Int}:aOP (.int i)=some (.int (-i)):=rfl
def Φ{i j:Int}:VB (.int i) (.int j)=some (.bool (decide (i<j))):=rfl
def Χ{i j:Int}:QK (.int i) (.int j)=some (.bool (decide (i<=j))):=rfl
def Ψ{i j:Int}:ø (.int i) (.int j)=some (.bool (decide (j<i))):=rfl
def Ω{i j:Int}:aP2 (.int i) (.int j)=some (.bool (decide (j<=i))):=rfl
def TF{i j:Int}:yU (.int i) (.int j)=some (.bool (decide (i=j))):=by rw[aDK];congr 2
def γ{i j:Int}:Ĉ (.int i) (.int j)=some (.bool (decide (i≠j))):=by
 rw[aDL];congr 2;rw[Bool.eq_iff_iff];simp
def ε{i j:Bool}:Ĉ (.bool i) (.bool j)=some (.bool (decide (i≠j))):=by
 rw[W0];congr 2;cases i<;>cases j<;>rfl
def KM{i j:Int}(h:0<j):u8 (.int i) (.int j)=some (.int (i % j)):=WZ h
def ζ{i:Int}:WR [.int i]=some (.int (i.natAbs:Int)):=by
 show some (PyData.int (if i<0 then -i else i))=_;congr 2;split<;>lia
def X8{ds:ZG}:dR [.list ds]=some (.int ds.length):=rfl
def X9{ds:ZG}:dR [.tuple ds]=some (.int ds.length):=rfl
def η{ds:ZG}{i:Int}:bN (.list ds) (.int i)=atI ds i:=rfl
def θ{ds:ZG}{i:Int}:bN (.tuple ds) (.int i)=atI ds i:=rfl
def ι{α:Type}{a:α}{as:List α}:atI (a::as) 0=some a:=jR (j:=0) rfl
def μ{α:Type}{a b:α}{as:List α}:atI (a::b::as) 1=some b:=jR (j:=1) rfl
def ν{α:Type}{a b c:α}{as:List α}:atI (a::b::c::as) 2=some c:=jR (j:=2) rfl
def ξ{α:Type}{a b c d:α}{as:List α}:atI (a::b::c::d::as) 3=some d:=jR (j:=3) rfl
def ο{α:Type}{a b c d e:α}{as:List α}:atI (a::b::c::d::e::as) 4=some e:=jR (j:=4) rfl
def π{α:Type}{a b c d e f:α}{as:List α}:atI (a::b::c::d::e::f::as) 5=some f:=jR (j:=5) rfl
def ρ{α:Type}{a b c d e f g:α}{as:List α}:atI (a::b::c::d::e::f::g::as) 6=some g:=jR (j:=6) rfl
end
def Q0{n:Nat}(h:n<=1000):(n<=sizeLine)=True:=eq_true (Ñ h ⋯)
def ς{b:Bool}:A8 .bool (.bool b)=some (.bool true):=rfl
def gR{f:M D}{δ:DS}{d:D}(h:bJ f δ λa δ1=>a=d/\δ1=δ):f δ=.ok d δ:=by
 let⟨a,δ1,e,rfl,rfl⟩:=h.ex;exact e
def KN{f e:M D}{δ:DS}{n:Int}{g:Nat->D}(hf:f δ=.ok (.int n) δ)(h0:0<=n)(h1:n<2^20)(he:∀k:Nat,(k:Int)<n->bJ e (some (.int k)::δ) λa δ1=>a=g k/\δ1=some (.int k)::δ):bX 1 (cH 0) (pY [f]) bY e δ=.ok (.list ((List.range n.toNat).map g)) δ:=by
 have hr:pY [f] δ=.ok (zL 0 n.toNat) δ:=by
  simp![pY,bO,hf,bZ,GY];rw[Á ⟨∅,∅⟩]
 have:=wP (e:=e) (g:=λd=>match d with|.int i=>g i.toNat|_=>.none) hr (λd hd=>by
  let⟨k,hk,rfl⟩:=Æ.mp hd;have hk:=List.mem_range.mp hk;have:=gR (he k ∅);rw[Int.zero_add];exact this) (by rw[nV];show n.toNat<=2^24;lia)
 rw[this,zL];simp
def Q1{set:D->DS->Option DS}{u:M Fl}{f:M D}{δ δ1:DS}{N B C:ZM}{R:D->ZM}{j:Int}(I:Nat->ZM)(hf:f δ=.ok (.int j) δ1)(hj:-1000<=j)(hj2:j<=1000)(h0:I 0 δ1)(hs:∀(k:Nat)(δ:DS),(k:Int)<j->I k δ->∃δ1,set (.int k) δ=some δ1/\cQ u δ1 (I (k+1)) N (I (k+1)) R)(hN:∀δ,I j.toNat δ->N δ):cQ (c6 set (pY [f]) u) δ N B C R:=
 W5 I hf ∅ ∅ h0 hs hN
def BE{set:D->DS->Option DS}{u:M Fl}{f:M D}{δ δ1:DS}{N B C:ZM}{R:D->ZM}{j:Nat}(I:Nat->ZM)(hf:f δ=.ok (.int (j:Int)) δ1)(hj:j<=1000)(h0:I 0 δ1)(hs:∀(k:Nat)(δ:DS),k<j->I k δ->∃δ1,set (.int k) δ=some δ1/\cQ u δ1 (I (k+1)) N (I (k+1)) R)(hN:∀δ,I j δ->N δ):cQ (c6 set (pY [f]) u) δ N B C R:=
 Q1 I hf ∅ ∅ h0 (λk δ hk=>hs k δ ∅) λδ h=>hN δ (by rwa [Int.toNat_natCast]at h)
def FC{m0:Nat}{rm:Nat}{body:M Fl}{ds:ZG}{P:D->Prop}(h:cQ body (ds.map some++List.replicate (m0-ds.length) none) (λ_=>False) (λ_=>False) (λ_=>False) λr _=>P r):∃r,bK m0 [] rm body ds=.ok r []/\P r:=by
 let⟨fl,δ1,e,q⟩:=h.ex;cases fl with
 |ret r=>exact⟨r,by unfold bK;rw[e];rfl,q⟩
 |next=>exact q.elim
 |brk=>exact q.elim
 |cont=>exact q.elim
end L2
namespace L2
open PySem
def τ{α β:Type}{f:α->β}{a:α}:(some a).map f=some (f a):=rfl
def υ{α β:Type}{f:α->Option β}:List.filterMap f []=[]:=rfl
def χ{α:Type}{a:α}{l:List α}{i:Nat}:(a::l)[i+1]?=l[i]?:=rfl
def ψ{α:Type}{a:α}{l:List α}:(a::l)[0]?=some a:=rfl
def ω{α:Type}{a b:α}:(some a=some b)=(a=b):=by simp
def ϊ{α:Type}{p:α->Prop}{a:α}:(∃x,a=x/\p x)=p a:=by simp
def ϋ{α:Type}{a:α}{l:List α}:(a::l).length=l.length+1:=rfl
def ό{α:Type}:([]:List α).length=0:=rfl
def ύ{α:Type}{a x:α}{l:List α}{i:Nat}:(a::l).set (i+1) x=a::l.set i x:=rfl
def ώ{α:Type}{a x:α}{l:List α}:(a::l).set 0 x=x::l:=rfl
def Ϗ{a b:Prop}:(if True then a else b)=a:=by simp
def ϐ{a b:Prop}:(if False then a else b)=b:=by simp
def ϑ:type_of% (Ä @KL <| Ä @XV <| Ä @Ξ <| Ä @XW <| Ä @QX <| Ä @XX <| Ä @NT <| Ä @ŝ <| Ä @XY <| Ä @XZ <| Ä @Ο <| Ä @Ş <| Ä @ş <| Ä @QY <| Ä @HH <| Ä @Š <| Ä @X0 <| Ä @X1 <| Ä @š <| Ä @NU <| Ä @NV <| Ä @X2 <| Ä @NW <| Ä @NX <| Ä @X3 <| Ä @NY <| Ä @QZ <| Ä @HI <| Ä @HJ <| Ä @X4 <| Ä @X5 <| Ä @X6 <| Ä @NZ <| Ä @X7 <| Ä @Υ <| Ä @TF <| Ä @γ <| Ä @ε <| Ä @ζ <| Ä @ι <| Ä @μ <| Ä @ν <| Ä @ξ <| Ä @ο <| Ä @π <| Ä @ρ <| Ä @Q0 <| Ä @XI <| Ä @Ŝ <| Ä @Λ <| Ä @Μ <| Ä @Ν <| Ä @QT <| Ä @QU <| Ä @QV <| Ä @QW <| Ä @ω <| Ä @ϊ <| Ä @Nat.zero_add <| Ä @true_and <| Ä @and_true <| Ä @Res.ok.injEq <| Ä @PySem.PyData.bool.injEq <| Ä @PySem.PyData.int.injEq <| Ä @PySem.PyData.list.injEq <| Ä @PySem.PyData.tuple.injEq <| Ä @Bool.not_true <| Ä @Bool.not_false <| Ä @Bool.false_eq_true <| Ä @Ϗ <| @ϐ):=
 Ä @KL <| Ä @XV <| Ä @Ξ <| Ä @XW <| Ä @QX <| Ä @XX <| Ä @NT <| Ä @ŝ <| Ä @XY <| Ä @XZ <| Ä @Ο <| Ä @Ş <| Ä @ş <| Ä @QY <| Ä @HH <| Ä @Š <| Ä @X0 <| Ä @X1 <| Ä @š <| Ä @NU <| Ä @NV <| Ä @X2 <| Ä @NW <| Ä @NX <| Ä @X3 <| Ä @NY <| Ä @QZ <| Ä @HI <| Ä @HJ <| Ä @X4 <| Ä @X5 <| Ä @X6 <| Ä @NZ <| Ä @X7 <| Ä @Υ <| Ä @TF <| Ä @γ <| Ä @ε <| Ä @ζ <| Ä @ι <| Ä @μ <| Ä @ν <| Ä @ξ <| Ä @ο <| Ä @π <| Ä @ρ <| Ä @Q0 <| Ä @XI <| Ä @Ŝ <| Ä @Λ <| Ä @Μ <| Ä @Ν <| Ä @QT <| Ä @QU <| Ä @QV <| Ä @QW <| Ä @ω <| Ä @ϊ <| Ä @Nat.zero_add <| Ä @true_and <| Ä @and_true <| Ä @Res.ok.injEq <| Ä @PySem.PyData.bool.injEq <| Ä @PySem.PyData.int.injEq <| Ä @PySem.PyData.list.injEq <| Ä @PySem.PyData.tuple.injEq <| Ä @Bool.not_true <| Ä @Bool.not_false <| Ä @Bool.false_eq_true <| Ä @Ϗ <| @ϐ
end L2
namespace L2
open PySem PySem.Spec
structure Sh(k:Nat)(d:D):Prop where
 lay:d.canLay0=true
 dep:d.depth<=k
def YA{k:Nat}:∀{ds:ZG},(∀d∈ds,Sh k d)->PyData.canLayAll0 ds=true/\PyData.depthAll ds<=k
 |[]=>by intro _;exact⟨by simp[PyData.canLayAll0],by simp[PyData.depthAll]⟩
 |d::ds=>by
  intro h;let⟨h1,h2⟩:=YA (ds:=ds) λx hx=>h x (É _ hx);have hd:=h d Ì;refine⟨by simp[PyData.canLayAll0,hd.lay,h1],?_⟩;have:=hd.dep;simp![PyData.depthAll];lia
def YB{k:Nat}{ds:ZG}(h:∀d∈ds,Sh k d):Sh (k+1) (.tuple ds):=by
 let⟨h1,h2⟩:=YA h;exact⟨by simpa[PyData.canLay0]using h1,by simp![PyData.depth];exact Nat.lt_succ_of_le ‹_›⟩
def Sh.shaped{k:Nat}{d:D}(h:Sh k d)(e:k<=64):SeqAt.shaped d=true:=by
 unfold SeqAt.shaped;rw[h.lay,decide_eq_true (Ñ h.dep e)];rfl
def aMH{xs:ZI}:W6 [.list (xs.map PyData.int)]=some (.int xs.sum):=by
 show (fD (xs.map PyData.int)).map _=_;rw[BA];rfl
def KO{ds:ZG}{k:Nat}(h:k<=ds.length):zM (.list ds) (some (k:Int)) none=some (.list (ds.drop k)):=by
 show some (PyData.list (D1 ds (some (k:Int)) none))=_;unfold D1;rw[HT.sIx_none,HT.sIx_nat,Nat.min_eq_left h,List.take_of_length_le (by simp)]
section
variable{f:M D}{lo hi:Option (M D)}{δ:DS}{Q:D->ZM}{op:D->Option Int->Option Int->ZJ}
def BF:bJ (KH op f lo hi) δ Q=bJ f δ λd δ1=>bJ (iO lo) δ1 λl δ2=>bJ (iO hi) δ2 λu δ3=>mG (op d l u) δ3 Q:=by
 rw[mY];unfold bJ KH XB;cases f δ with
 |stuck=>rfl
 |ok a d=>
  simp![Res.bind];cases iO lo d with
  |stuck=>rfl
  |ok l d=>
   dsimp only;cases iO hi d with
   |stuck=>rfl
   |ok u d=>dsimp only;cases op a l u<;>simp
def YC(d:D)(δ:DS)(Q:Option Int->ZM)(_w:Wt Q:=⟨⟩):Prop:=∃i,d=.int i/\Q (some i) δ
def s9{i:Int}{Q:Option Int->ZM}:YC (.int i) δ Q=Q (some i) δ:=by unfold YC;simp
def mZ{Q:Option Int->ZM}:bJ (iO none) δ Q=Q none δ:=rfl
def lB{Q:Option Int->ZM}:bJ (iO (some f)) δ Q=bJ f δ λd δ1=>YC d δ1 Q:=by
 unfold bJ iO YC;dsimp only;cases f δ with
 |stuck=>rfl
 |ok a d=>cases a<;>simp[Res.bind]
end
end L2
namespace L2
open PySem PySem.Spec PyProof.Rows
section
variable{X:Cx}{Z:dQ}{ow:ZF}{pos:Pos}
def eJ.give{K:ZC}{F H:Hp}{σ:St}{δ:DS}{i:Nat}{d:D}(S:bH Z ow)(hps:i∉Z.ps)(R:eJ K Z ow F H σ δ)(e:δ[i]?=some (some d)):∃v,σ[i]?=some (some v)/\iF K Z ow (ow.getD i 0) d v F H σ (δ.set i none):=by
 let⟨g,R⟩:=R;let⟨v,e1,o⟩:=R.slot i d e;refine⟨v,e1,λb=>match g b with|some (j,p)=>if j=i then some (1000,p)else if j=1000 then none else some (j,p)|none=>none,⟨R.sub,R.f0,R.kept,R.new,R.there,λa j p e=>?_,by rw[à];exact R.len,R.par,λj d' e=>?_⟩,?_⟩
 .cases q:g a with
  |none=>rw[q]at e;cases e
  |some l=>
   let⟨j',p'⟩:=l;rw[q]at e;have e:(if j'=i then some (1000,p')else if j'=1000 then none else some (j',p'))=some (j,p):=e;split at e
   .rename_i z
    refine .inl ((R.lab a j' p' q).elim id λzQ=>by let⟨q',w⟩:=zQ;exact absurd (Z.wf a j' q' w) (by rw[z];exact hps))
   .split at e
    .cases e
    .cases e;exact R.lab a j p q
 .have hj:j≠i:=λz=>by
   subst z;by_cases hl:j<δ.length
   .rw[è hl]at e;cases e
   .rw[Ú (by rw[à];exact å.mp ‹_›)]at e;cases e
  rw[Ü (Ö hj)]at e;let⟨w,e1,o1⟩:=R.slot j d' e;refine⟨w,e1,?_⟩;by_cases hz:ow.getD j 0=0
  .rw[hz]at o1⊢;exact o1
  .have j1:j<1000:=by
    by_cases hl:j<ow.length
    .exact Ô hl S.ow
    .exact absurd (by rw[Ð,Ú (by exact å.mp ‹_›)];rfl) hz
   exact o1.relab λa p e=>by
    rw[e];dsimp only;rw[Ã hj,Ã (by exact Ï ‹_›)]
 .exact o.relab λa p e=>by
   rw[e];exact Á rfl
def BG(i:Nat):M D:=λδ=>match δ[i]? with
 |some (some d)=>.ok d (δ.set i none)
 |_=>.stuck
def Q2(i:Nat){n:Nat}{x:Str}(S:bH Z ow)(ho:↥(ow.getD i 0=n))(hps:↥(Z.ps.contains i=false))(hN:↥(X.N[i]?=some x))(hv:#v[JZ X.env.scope x])(hd:⇑(Zdb x))(hcd:⇑(Zcd x)):DE X Z ow n (.Name x pos) (BG i):=
 (iG hN hv hd hcd).mono λσ H Q h=>by
  let⟨F,δ,R,h⟩:=h;unfold BG at h;cases e:δ[i]? with
  |none=>rw[e]at h;exact h.elim
  |some o=>
   cases o with
   |none=>rw[e]at h;exact h.elim
   |some d=>
    rw[e]at h;let⟨v,e1,R'⟩:=R.give S (bQ hps) e;rw[ho]at R';exact⟨v,e1,h v H F R' λ_ _ z=>z⟩
end
def iS:Option Int->ZI->Option Int
 |o,[]=>o
 |none,x::xs=>iS (some x) xs
 |some m,x::xs=>iS (some (if x>m then x else m)) xs
def ϒ:ZL->Array Value
 |none=>#[]
 |some v=>#[v,v]
def aMI(b:Option Int)(o:ZL):Prop:=match b,o with
 |none,none=>True
 |some m,some v=>∃t,v=.int m t
 |_,_=>False
section
variable{prog:Program}{w:World}{A:Around}{E:ZA}{s:Shared}
def KP(a d:Value):argsOk "max" ⟨[a],[("default",d)]⟩:=by unfold argsOk;kernel_rfl
def BH:∀o:ZL,(ϒ o).size<=sizeLine
 |none=>by show 0<=sizeLine;decide
 |some _=>by show 2<=sizeLine;decide
def aDZ{x m:Int}{t t':Tok}{Q:ZA}(h:Q (.bool (decide (x>m))) s):wpAny (model prog w) A (richCompare .Gt (.int x t) (.int m t')) Q E s:=CmpOf.ints_gt (P:=λi v=>∃t,v=.int (if i=0 then x else m) t) (λi=>if i=0 then x else m) (λ_ _ h=>h) 0 1 _ _ s Q E ⟨t,rfl⟩ ⟨t',rfl⟩ (by simpa using h)
def TH{R:Result->Shared->Prop}{I S:Addr}{fp wr:ZK}{n:Nat}{P:Nat->Value->Prop}{St:Nat->Heap->Prop}{dv:Value}{xs:ZI}(W:Walks prog w A.in1 I fp wr n P St)(hP:∀i v,P i v->∃x t,xs[i]?=some x/\v=.int x t)(hx:xs.length=n)(hSf:S∉fp):
  ∀(k i:Nat)(s:Shared)(b:Option Int)(o:ZL)(c:Nat),n-i=k->i<=n->St i s.heap->aMI b o->s.heap.get? S=some {cls:=.type "list",dict:=none,data:=.seq (ϒ o) c,slots:=#[]} ->
  (∀v h' tk,(match iS b (xs.drop i)with|none=>v=dv|some m=>∃t,v=.int m t)->(∀b o,b∉wr->b≠S->s.heap.get? b=some o->h'.get? b=some o)->R (.ok (.ret v)) {s with heap:=h',toks:=tk}) ->
  codeAny (model prog w) A (.builtin "max.loop" ⟨[.ref I,.none,.ref S],[("default",dv)]⟩) R s:=by
 have hSw:S∉wr:=λh=>hSf (W.sub _ h);have nm:(toString "max"++toString ".loop":String)="max.loop":=by decide
 intro k
 induction k with
 |zero=>
  intro i s b o c hk hi hst hb hS hR;obtain rfl:i=n:=by lia
  rw[List.drop_of_length_le (by exact Nat.le_of_eq ‹_›),show iS b []=b by cases b<;>rfl]at hR;refine codeAny_builtin F.entry_max_loop ?_;rw[Around.under_plainId F.plain_max_loop _];refine(show wpAny _ A.in1 (seqItems? (.ref S) >>= _) _ _ s from wpAny_bind (wpAny_seqItems hS rfl ?_));refine(show wpAny _ A.in1 (tryCatch (pyNext (.ref I)) _ >>= _) _ _ s from wpAny_bind (wpAny_tryCatch (W.done s _ _ hst λh' tk hk'=>?_)));cases o with
  |none=>
   cases b with
   |some m=>exact hb.elim
   |none=>exact wpAny_bind (wpAny_rule (wpAny_pure (hR dv h' tk rfl λb o h1 _ e=>hk' b o h1 e)))
  |some v=>
   cases b with
   |none=>exact hb.elim
   |some m=>
    refine(show wpAny _ A.in1 (updateSeq S (λ_=>#[]) >>= _) _ _ _ from wpAny_bind (wpAny_updateSeq (hk' S _ hSw hS) rfl (wpAny_bind (wpAny_letGo (wpAny_pure ?_))) (hz:=BH _) (_hz':=î _)));exact hR v _ tk hb λb o h1 h2 e=>(Heap.get?_update_other _ _ (Ö h2)).trans (hk' b o h1 e)
 |succ k ih=>
  intro i s b o c hk hi hst hb hS hR;have hlt:i<n:=by lia
  refine codeAny_builtin F.entry_max_loop ?_;rw[Around.under_plainId F.plain_max_loop _];refine(show wpAny _ A.in1 (seqItems? (.ref S) >>= _) _ _ s from wpAny_bind (wpAny_seqItems hS rfl ?_));refine(show wpAny _ A.in1 (tryCatch (pyNext (.ref I)) _ >>= _) _ _ s from wpAny_bind (wpAny_tryCatch (W.item i s _ _ hlt hst λv h' tk hp hst' hk'=>?_)));have hS':=hk' S _ hSw hS;let⟨x,t,ex,rfl⟩:=hP i v hp;have ed:xs.drop i=x::xs.drop (i+1):=by
   let⟨h1,h2⟩:=Ó.mp ex;rw[ð h1,h2]
  rw[ed]at hR;have new:(∀v h' tk,(match iS (some x) (xs.drop (i+1))with|none=>v=dv|some m=>∃t,v=.int m t)->(∀b o,b∉wr->b≠S->s.heap.get? b=some o->h'.get? b=some o)->R (.ok (.ret v)) {s with heap:=h',toks:=tk})->codeAny (model prog w) A (.builtin "max.loop" ⟨[.ref I,.none,.ref S],[("default",dv)]⟩) R {s with heap:=h'.update S (Obj.mapSeq λ_=>#[.int x t,.int x t]),toks:=tk}:=λhR=>ih (i+1) _ (some x) (some (.int x t)) _ ∅ hlt (W.frame _ _ _ hst' λb hbf o e=>(Heap.get?_update_other _ _ (λh:S=b=>hSf (by rw[h];exact hbf))).trans e) ⟨t,rfl⟩ (Heap.get?_update_self _ hS' rfl) λv h'' tk'' hv hk''=>hR v h'' tk'' hv λb o h1 h2 e=>hk'' b o h1 h2 ((Heap.get?_update_other _ _ (Ö h2)).trans (hk' b o h1 e));cases o with
  |none=>
   cases b with
   |some m=>exact hb.elim
   |none=>
    refine(show wpAny _ A.in1 (updateSeq S (λ_=>#[.int x t,.int x t]) >>= _) _ _ _ from wpAny_bind (wpAny_updateSeq hS' rfl ?_ (hz:=BH _) (_hz':=(by show 2<=sizeLine+1;decide))));rw[nm];exact wpAny_pure ⟨plainId_quiet F.plain_max_loop _,new hR⟩
  |some vb=>
   cases b with
   |none=>exact hb.elim
   |some m=>
    let⟨t',rfl⟩:=hb;refine(show wpAny _ A.in1 (tryCatch (holding [.int x t,.int x t] (richCompare .Gt (.int x t) (.int m t') >>= _)) _ >>= _) _ _ _ from wpAny_bind (wpAny_tryCatch (wpAny_holding (wpAny_bind (aDZ ?_)))));refine wpAny_bind (wpAny_holding (wpAny_truthy_bool (wpAny_bind (wpAny_letGo (wpAny_pure ?_)))));by_cases hg:x>m
    .rw[show iS (some m) (x::xs.drop (i+1))=iS (some x) (xs.drop (i+1)) by simp[iS,hg]]at hR
     simp![hg,decide_true,if_true];refine wpAny_bind (wpAny_updateSeq hS' rfl (wpAny_bind (wpAny_letGo ?_)) (hz:=BH _) (_hz':=(by show 2<=sizeLine+1;decide)));rw[nm];exact wpAny_pure ⟨plainId_quiet F.plain_max_loop _,new hR⟩
    .rw[show iS (some m) (x::xs.drop (i+1))=iS (some m) (xs.drop (i+1)) by simp[iS,hg]]at hR
     simp![hg,decide_false,Bool.false_eq_true,if_false];refine wpAny_bind (wpAny_letGo ?_);rw[nm];exact wpAny_pure ⟨plainId_quiet F.plain_max_loop _,ih (i+1) _ (some m) (some (.int m t')) c ∅ hlt hst' ⟨t',rfl⟩ hS' λv h'' tk'' hv hk''=>hR v h'' tk'' hv λb o h1 h2 e=>hk'' b o h1 h2 (hk' b o h1 e)⟩
def TJ{x dv:Value}{xs:ZI}{Q:ZA}(h:wpAny (model prog w) A.in1 (pyIter x) (λit s₂=>∃I fp wr n P St,it=.ref I/\Walks prog w A.in1 I fp wr n P St/\St 0 s₂.heap/\(∀b∈fp,b<s₂.heap.objs.size)/\(∀i v,P i v->∃x t,xs[i]?=some x/\v=.int x t)/\xs.length=n /\
   ∀v h' tk,(match iS none xs with|none=>v=dv|some m=>∃t,v=.int m t)->(∀b o,b∉wr->s₂.heap.get? b=some o->h'.get? b=some o)->Q v {s₂ with heap:=h',toks:=tk}) E s):wpAny (model prog w) A (call (.builtin "max") [x] [("default",dv)]) Q E s:=by
 have nm:(toString "max"++toString ".loop":String)="max.loop":=by decide
 refine wpAny_call (codeAny_call_builtin F.plain_max F.entry_max ?_);simp![checkBuiltinCall,F.kind_max];have key:wpAny (model prog w) A.in1 (Builtin.«max» ⟨[x],[("default",dv)]⟩) (λfin s'=>match fin with
   |.done f=>(match (Except.ok f:Result)with|.ok (.ret v)=>Q v s'|.ok _=>False|.error e=>E e s')
   |.again c'=>c'.quiet=true/\codeAny (model prog w) A c' (λr s'=>match r with|.ok (.ret v)=>Q v s'|.ok _=>False|.error e=>E e s') s') E s:=by
  refine(show wpAny _ A.in1 (Builtin.Builtins.bindParams "max" ["key","default"] 0 ⟨[],[("default",dv)]⟩ >>= _) _ _ s from wpAny_bind (wpAny_of_eq (show Builtin.Builtins.bindParams "max" ["key","default"] 0 ⟨[],[("default",dv)]⟩=pure [none,some dv]from rfl) ?_));refine wpAny_bind (wpAny_pure (wpAny_bind (wpAny_mono h (λit s₂ h₂=>?_) λ_ _ e=>e)));let⟨I,fp,wr,n,P,St,rfl,W,hst,hfp,hP,hx,hQ⟩:=h₂;refine wpAny_bind (wpAny_newObj_type ?_);have hSf:s₂.heap.objs.size∉fp:=λhm=>Nat.lt_irrefl _ (hfp _ hm);rw[nm];refine wpAny_pure ⟨plainId_quiet F.plain_max_loop _,TH (dv:=dv) W hP hx hSf _ 0 _ none none _ rfl (î _) (W.frame _ _ _ hst λb _ o e=>Heap.get?_push_of_some _ e) trivial (Heap.get?_push_size _ rfl) λv h' tk hv hk=>?_⟩;rw[List.drop_zero]at hv;exact hQ v h' tk hv λb o hbw e=>hk b o hbw (Ï (Heap.lt_size e)) (Heap.get?_push_of_some _ e)
 have ha:=KP x dv;cases hsig:Manifest.signature? "max"with
 |none=>exact wpAny_pure key
 |some sig=>
  simp![argsOk,hsig]at ha;have h2:Bind.checkArgs "max" sig ⟨[x],[("default",dv)]⟩=pure ():=ha;refine(show wpAny _ A.in1 (Bind.checkArgs "max" sig ⟨[x],[("default",dv)]⟩) _ _ s from ?_);rw[h2];exact wpAny_pure key
end
section
variable{X:Cx}{Z:dQ}{ow:ZF}{e c:Expr}{f g:M D}{te tc:TE}
def aMJ(X:Cx)(te tc:TE):TE:=λσ H Q=>P4 te ĭ σ H λvs H1=>tc σ H1 λd H2=>∃(p:Addr)(xs:ZI),vs=[.ref p]/\gM X.K H2 p (xs.map V.int)/\Q (match iS none xs with|none=>d|some m=>.int m) H2
def YD{U:ZB}{s:Shared}{σ:St}{H:Hp}{Q:VK}{p:Addr}{xs:ZI}{d:V}{dv:Value}(hc:X.calm=true)(I:bM X U σ H s)(hq:gM X.K H p (xs.map V.int))(rd:cR d dv)(q:Q (match iS none xs with|none=>d|some m=>.int m) H):
  wpAny (model X.prog X.w) X.A (call (.builtin "max") [.ref p] [("default",dv)]) (EP X U σ Q) X.xe s:=by
 let⟨its,rv,pl,hz⟩:=I.list hq;refine TJ (xs:=xs) (wpAny_pyIter_list pl.isList ?_);have hlen:=rv.length;rw[Â]at hlen;have hlt:p<s.heap.objs.size:=by
  let⟨o,n,e,_⟩:=pl;exact Heap.lt_size e
 have ph:bM X U σ H {s with heap:=s.heap.push {cls:=.type "list_iterator",data:=.fields #[.ref p,.int 0 0]}}:=I.kept (t':=s.toks) λb o e=>Heap.get?_push_of_some _ e;let⟨its',rv',pl',_⟩:=ph.list hq;have e1:its=its':=by
  let⟨o,n,e,c,dn,d⟩:=pl;let⟨o',n',e',c',dn',d'⟩:=pl';have e2:=Heap.get?_push_of_some {cls:=.type "list_iterator",data:=.fields #[.ref p,.int 0 0]} e;rw[e2]at e';cases e';rw[d]at d';injection d' with d1 _;simpa using congrArg Array.toList d1
 subst e1;refine⟨s.heap.objs.size,_,_,_,_,_,rfl,Walks.list (A:=X.A.in1) (show X.A.in1.handled=none from I.ok.hd hc) s.heap.objs.size p (Ï hlt) its.toArray,⟨⟨_,Heap.get?_push_size _ rfl,rfl,rfl⟩,pl'.isList⟩,λb hb=>?_,λi v hv=>?_,by simp;assumption,λv h' tk hv k=>?_⟩
 .show b<(s.heap.push _).objs.size
  rw[Heap.size_push]
  grind
 .have hv:its.toArray[i]?=some v:=hv
  exact b7.int_at (i:=i) rv (by simpa using hv)
 .have I2:=ph.turned (it:=s.heap.objs.size) (h':=h') (t':=tk) (λb o hb e=>k b o (by simpa using hb) e) (I.hok.fresh (È _)) (ê I.lt) (.inr I.sz) (λx c e=>by
   let⟨v,q⟩:=I.cell x c e;exact Ï q.lt) λp hp=>Ï (Heap.lt_size (I.pin p hp).1)
  refine⟨_,H,I2,?_,q⟩;cases eb:iS none xs with
  |none=>grind
  |some m=>rw[eb]at hv;exact hv
def aD0{p pos kp:Pos}(hc:X.calm=true)(hg:Gl X "max")(hm:X.mg "max"=none)(ha:PE X e te)(hd:PE X c tc)(hs:↥(Zse e [] X.env))(hv:bootBuiltins "max"=some (.builtin "max"):=by decide +kernel):
  PE X (.Call (.Name "max" p) [e] [⟨some "default",c,kp⟩] pos) (aMJ X te tc):=by
 intro U s σ H Q I h;refine wpAny_Call_Name_kw (p7 I hg hm hv ?_ ⋯ ⋯);have a1:backTo pos (starEach [e] X.env)=(false,eval e X.env)::backTo pos (starEach [] X.env):=by rw[hs];rfl
 refine callWith_kw (dL ((iI ha oH hs) pos U s σ H _ I h) λus s1 zQ=>?_) a1 (by rw[a1];rfl) rfl rfl;let⟨vs,H1,I1,r,q⟩:=zQ;refine kws_cons (dL (hd U s1 σ H1 _ I1 q) λu s2⟨d,H2,I2,rd,q2⟩=>kws_nil ?_);let⟨l,xs,rfl,hq,q2⟩:=q2;let⟨u',rfl,rx⟩:=nR r;cases rx;exact YD hc I2 hq rd q2
def BI(f g:M D):M D:=λδ=>(f δ).bind λd δ1=>(g δ1).bind λe δ2=>match d,e with
 |.list ds,.int n=>(match fD ds with
  |some xs=>.ok (.int ((iS none xs).getD n)) δ2
  |none=>.stuck)
 |_,_=>.stuck
def aD1{p pos kp:Pos}(hc:X.calm=true)(hg:Gl X "max")(hm:X.mg "max"=none)(ha:DE X Z ow 0 e f)(hd:DE X Z ow 0 c g)(hs:↥(Zse e [] X.env)):DE X Z ow 0 (.Call (.Name "max" p) [e] [⟨some "default",c,kp⟩] pos) (BI f g):=
 (aD0 hc hg hm ha hd hs).mono λσ H Q h=>by
  let⟨F,δ,R,h⟩:=h;unfold BI at h;refine⟨F,δ,R,?_⟩;cases e1:f δ with
  |stuck=>rw[e1]at h;exact h.elim
  |ok d1 δ1=>
   rw[e1]at h;intro x H1 F1 R1 s1;refine⟨F1,δ1,R1.rel,?_⟩;simp![Res.bind]at h;cases e2:g δ1 with
   |stuck=>rw[e2]at h;exact h.elim
   |ok d2 δ2=>
    rw[e2]at h;simp![Res.bind]at h;intro y H2 F2 R2 s2;split at h
    .rename_i ds n
     cases e3:fD ds with
     |none=>rw[e3]at h;exact h.elim
     |some xs=>
      rw[e3]at h;let⟨l,vs,rfl,hx,rx⟩:=oN R1.rep;rw[t7 e3 rx]at hx;have ry:=R2.rep;unfold cI at ry;subst ry;refine⟨l,xs,rfl,R2.rel.sub.seq (s2.seq hx),h _ H2 F2 (R2.rel.x ?_) (s1.trans' s2)⟩;cases iS none xs with
      |none=>show cI X.K F2 (.int n) (.int n);unfold cI;rfl
      |some m=>show cI X.K F2 (.int m) (.int m);unfold cI;rfl
    .exact h.elim
end
section
variable{X:Cx}{Z:dQ}{ow:ZF}{tg a b c:Expr}{f g h:M D}
end
end L2
namespace L2
open PySem PySem.Spec
section
variable{δ:DS}{Q:D->ZM}{f g:M D}{i:Nat}
def FD:D->D->ZJ
 |.list ds,.int n=>(fD ds).map λxs=>.int ((iS none xs).getD n)
 |_,_=>none
def aD2:BI f g=aU FD f g:=by
 funext δ;unfold BI aU;cases f δ with
 |stuck=>rfl
 |ok a d=>
  simp![Res.bind];cases g d with
  |stuck=>rfl
  |ok b d=>
   simp![Res.bind];cases a<;>cases b<;>try rfl
   rename_i ds n;simp![FD];cases fD ds<;>rfl
def YE:bJ (BI f g) δ Q=bJ (aU FD f g) δ Q:=by rw[aD2]
def N0:bJ (BG i) δ Q=d9 δ[i]? δ λd δ=>Q d (δ.set i none):=by
 rw[oT];unfold bJ BG HG;cases e:δ[i]? with
 |none=>simp
 |some o=>cases o<;>simp
def wQ{c:M Bool}{Q:Bool->ZM}:bJ (vD c) δ Q=bJ c δ λb _=>Q b δ:=by
 unfold bJ vD;cases c δ<;>rfl
def aMK{lo hi:Option (M D)}:bJ (Ŗ i lo hi) δ Q=d9 δ[i]? δ λ_ _=>bJ (iO lo) δ λl δ1=>bJ (iO hi) δ1 λu δ2=>d9 δ2[i]? δ2 λd δ2=>mG (zM d l u) δ2 Q:=by
 unfold bJ Ŗ d9 mG;cases δ[i]? with
 |none=>rfl
 |some o=>
  cases o with
  |none=>rfl
  |some d0=>
   dsimp only;cases iO lo δ with
   |ok l δ1=>
    dsimp![Res.bind];cases iO hi δ1 with
    |ok u δ2=>
     dsimp only;cases δ2[i]? with
     |none=>rfl
     |some o=>
      cases o with
      |none=>rfl
      |some d=>cases d<;>rfl
    |_=>rfl
   |_=>rfl
def m6{ds zs:ZG}:D2 (t9 ds [.list zs]) i δ Q=(ds.length+zs.length<=sizeLine/\Q .none (δ.set i (some (.list (ds++zs))))):=by
 by_cases h:ds.length+zs.length<=sizeLine
 .have:t9 ds [.list zs]=some (.none,ds++zs):=Á h
  rw[this,XH];simp[h]
 .have:t9 ds [.list zs]=none:=Ã h
  rw[this];simp[h,QP,ĸ]
end
end L2
namespace L2
open PySem PySem.Spec PyProof.Rows
def AI:D->Option (ZG)
 |.list xs=>some xs
 |.tuple xs=>some xs
 |_=>none
def Ę:D->D->ZJ:=λa b=>match AI b with
 |some xs=>if SeqAt.shaped a=true/\SeqAt.shaped b=true then some (.bool (xs.any λy=>PyData.eqv y a))else none
 |none=>none
section
variable{X:Cx}{Z:dQ}{ow:ZF}{a b:Expr}{f g:M D}{pos:Pos}
def ϓ(K:ZC):R2:=λx y H Q=>∃d e xs,cI K H d x/\cI K H e y/\AI e=some xs/\SeqAt.shaped d=true/\SeqAt.shaped e=true/\Q (.bl (xs.any λy=>PyData.eqv y d)) H
def aI7(hu:X.A.units+64<cLine):pO X (compareOp .In) (ϓ X.K):=by
 intro U s σ H x y v u Q I rx ry h;let⟨d,e,xs,hd,he,hi,sd,se,q⟩:=h;let⟨as,ra⟩:=cI.reads I d x v (jF sd) hd rx;let⟨bs,rb⟩:=cI.reads I e y u (jF se) he ry;have lay:=SeqAt.canLay_of_shaped se;have dep:=SeqAt.depth_of_shaped se;have ld:=SeqAt.canLay_of_shaped sd;cases e with
 |list ys=>
  cases hi;rw[PyData.depth]at dep;have:min (PyData.depthAll xs) d.depth<=PyData.depthAll xs:=Nat.min_le_left _ _;exact SeqAt.in_list_reads rb ra (by simpa[PyData.canLay0]using lay) ld ∅ (GK I q rfl)
 |tuple ys=>
  cases hi;rw[PyData.depth]at dep;have:min (PyData.depthAll xs) d.depth<=PyData.depthAll xs:=Nat.min_le_left _ _;exact SeqAt.in_tuple_reads rb ra (by simpa[PyData.canLay0]using lay) ld ∅ (GK I q rfl)
 |_=>cases hi
def aI8:sY X (ϓ X.K) 0 Ę:=λZ ow F H σ δ a b x y d Q S R ra rb e q=>by
 unfold Ę at e;cases hi:AI b with
 |none=>rw[hi]at e;cases e
 |some xs=>
  rw[hi]at e;dsimp only at e;split at e
  .rename_i hc
   cases e;exact⟨a,b,xs,R.sub.rep _ _ ra,R.sub.rep _ _ rb,hi,hc.1,hc.2,q _ H F (R.x sQ) (aW.refl _)⟩
  .cases e
end
section
variable{X:Cx}{Z:dQ}{ow ow' ol ox:ZF}{n rm m:Nat}{pos:Pos}{e a b c tg:Expr}{f h:M D}{F F' H H':Hp}{σ:St}{δ δ':DS}{g g':ZN}{K:ZC}
def cC.keep{i:Nat}(hF:aW F F')(h:∀a p o,g a=some (i,p)->H a=some o->F a=none->g' a=some (i,p)/\H' a=some o/\F' a=none){n:Nat}{p:ZF}{d:D}{v:V}(r:cC K F H g i n p d v):cC K F' H' g' i n p d v:=r.keepJ hF h
def k4.updNe{b:Addr}{i i0:Nat}{q0:ZF}{o:HO}(hb:g b=some (i0,q0)){f c:Nat}{p:ZF}{d:D}{v:V}(hn:i≠i0\/¬p <+: q0)(r:k4 K F H g i f c p d v):k4 K F (eB H b o) g i f c p d v:=by
 induction f generalizing c p d v with
 |zero=>
  cases c with
  |zero=>exact r
  |succ c=>exact r.elim
 |succ f ih=>
  cases c with
  |zero=>exact r
  |succ c=>
   let⟨ds,vs,cs,nd,hc,hl,r⟩:=r;refine⟨ds,vs,cs,nd,λx hx=>?_,hl,λk d' v' z1 z2=>ih (hn.imp id λz w=>z ((List.prefix_append p [k]).trans w)) (r k d' v' z1 z2)⟩;let⟨a1,a2,a3⟩:=hc x hx;have ne:x.1≠b:=λz=>by
    rw[z,hb]at a1;cases a1;exact hn.elim (λz=>z rfl) λz=>z (List.prefix_append _ _)
   exact⟨a1,by rw[aZ ne];exact a2,a3⟩
def cC.updNe{b:Addr}{i i0:Nat}{q0:ZF}{o:HO}(hb:g b=some (i0,q0)){n:Nat}{p:ZF}{d:D}{v:V}(hn:i≠i0\/¬p <+: q0)(r:cC K F H g i n p d v):cC K F (eB H b o) g i n p d v:=k4.updNe hb hn r
def N1:ZF->DS->DS
 |[],δ=>δ
 |_::_,[]=>[]
 |n::ow,o::δ=>(if n=0 then o else none)::N1 ow δ
def Q3:∀{ow:ZF}{δ:DS},(N1 ow δ).length=δ.length
 |[],_=>rfl
 |_::_,[]=>rfl
 |n::ow,o::δ=>by unfold N1;rw[Ë,Ë,Q3]
def YF:∀{ow:ZF}{δ:DS}{i:Nat}{d:D},(N1 ow δ)[i]?=some (some d)->ow.getD i 0=0/\δ[i]?=some (some d)
 |[],_,i=>by intro e;exact⟨by simp,e⟩
 |_::_,[],_=>by intro e;unfold N1 at e;cases e
 |n::ow,o::δ,0=>by
  rename_i d;intro e;unfold N1 at e;rw[List.getElem?_cons_zero]at e;split at e
  .rename_i h;exact⟨h,e⟩
  .cases e
 |n::ow,o::δ,i+1=>by
  rename_i d;intro e;unfold N1 at e;rw[List.getElem?_cons_succ]at e;let⟨h1,h2⟩:=YF e;exact⟨by simpa using h1,by simpa using h2⟩
def fN.hide(R:fN K Z ow g F H σ δ):eJ K (mX F H σ m) (List.replicate m 0) F H σ (N1 ow δ):=
 ⟨λ_=>none,R.sub,⟨R.f0.lm,λ_ _ z=>z⟩,λ_ _ _ e=>e,λ_ h _=>h,λ_ h=>h,λ_ _ _ e=>(by cases e),by rw[Q3];exact R.len,λi hi=>(by cases hi),λi d e=>by
  let⟨h0,e⟩:=YF e;let⟨v,e1,o⟩:=R.slot i d e;rw[h0]at o;exact⟨v,e1,by rw[oR];exact o⟩⟩
def fN.back(R:fN K Z ow g F H σ δ)(R':fN K (mX F H σ m) (List.replicate m 0) g' F' H' σ δ'):fN K Z ow g F' H' σ δ:=by
 have hk:∀b o,H b=some o->H' b=some o:=λb o e=>R'.kept b o rfl e;refine⟨R'.sub,R.f0.trans' R'.f0.2,λb o n e=>hk b o (R.kept b o n e),λa h1 h2=>R'.new a (R.new a h1 h2) (R.there a h2),λb h=>?_,R.lab,R.len,R.par,λi d e=>?_⟩
 .cases e:H b with
  |none=>exact absurd e (R.there b h)
  |some o=>rw[hk b o e];simp
 .obtain⟨v,e1,o⟩:=R.slot i d e
  exact⟨v,e1,o.keep (show aW F F' from R'.f0.2) λa p o e1 e2 e3=>⟨e1,hk a o e2,R'.new a e3 (show H a≠none by rw[e2];simp)⟩⟩
def fN.at2{i j:Nat}{ds inner:ZG}(R:fN K Z ow g F H σ δ)(ho:ow.getD i 0=2)(hd:δ[i]?=some (some (.list ds)))(hj:ds[j]?=some (.list inner)):
  ∃a vs b ws,σ[i]?=some (some (.ref a))/\H a=some (.lst vs)/\ds.length=vs.length/\vs[j]?=some (.ref b)/\H b=some (.lst ws)/\aJ K F inner ws:=by
 let⟨v,e1,o⟩:=R.slot i _ hd;rw[ho]at o;let⟨a,ds0,vs,q1,q2,q3,q4,q5,q6,q7⟩:=o.lst (m:=1);cases q1;subst q2;have jl:j<vs.length:=by rw[<- q6];exact(Ó.mp hj).1
 let⟨b,inner',ws,w1,w2,w3,w4,w5,w6,w7⟩:=(q7 j _ _ hj (Ç jl)).lst (m:=0);cases w1;exact⟨a,vs,b,ws,e1,q4,q6,by rw[Ç jl,w2],w4,aJ.of w6 w7⟩
def fN.rewrite2{i j:Nat}{ds inner':ZG}{vs vs':List V}{a b:Addr}(R:fN K Z ow g F H σ δ)(ho:ow.getD i 0=2)(hd:δ[i]?=some (some (.list ds)))(hs:σ[i]?=some (some (.ref a)))(ha:H a=some (.lst vs))(hb:vs[j]?=some (.ref b))(hr:aJ K F inner' vs'):
  fN K Z ow g F (eB H b (.lst vs')) σ (δ.set i (some (.list (ds.set j (.list inner'))))):=by
 let⟨v,e1,o⟩:=R.slot i _ hd;rw[hs]at e1;cases e1;rw[ho]at o;let⟨a',ds0,vs0,q1,q2,q3,q4,q5,q6,q7⟩:=o.lst (m:=1);cases q1;cases q2;rw[ha]at q4;cases q4;have jl:j<vs.length:=(Ó.mp hb).1;have jd:j<ds.length:=by exact þ ‹_› (Eq.symm ‹_›)
 let⟨b',inner,ws,w1,w2,w3,w4,w5,w6,w7⟩:=(q7 j _ _ (Ç jd) hb).lst (m:=0);cases w2;have hi:i<δ.length:=(Ó.mp hd).1;have nab:a≠b:=λz=>by rw[z,w3]at q3;cases q3
 refine⟨λb' u e=>?_,R.f0,λb' u n e=>?_,R.new,λb' z=>?_,R.lab,by rw[à];exact R.len,R.par,λk d e=>?_⟩
 .have:b'≠b:=λz=>by rw[z,w5]at e;cases e
  rw[aZ this];exact R.sub b' u e
 .have:b'≠b:=λz=>by
   subst z;rcases R.lab b' i _ w3 with w|⟨q,w⟩
   .rw[w]at e;cases e
   .rw[w]at n;cases n
  rw[aZ this];exact R.kept b' u n e
 .by_cases hb':b'=b
  .subst hb';rw[cJ];simp
  .rw[aZ hb'];exact R.there b' z
 .by_cases hk:k=i
  .subst hk
   rw[è hi]at e;cases e;refine⟨_,hs,?_⟩;rw[ho];refine cC.mkL (m:=1) ⟨a,_,vs,rfl,rfl,q3,by rw[aZ nab];exact ha,q5,by rw[à];exact q6,λl d' v' z1 z2=>?_⟩
   by_cases hl:j=l
   .subst hl
    rw[è jd]at z1;cases z1;rw[hb]at z2;cases z2;exact cC.mkL (m:=0) ⟨b,inner',vs',rfl,rfl,w3,cJ,w5,hr.len,λk d' v' z1 z2=>hr.both k d' v' z1 z2⟩
   .rw[Ü hl]at z1
    refine cC.updNe w3 (.inr λz=>?_) (q7 l d' v' z1 z2);have z:[l] <+: [j]:=z;let⟨t,ht⟩:=z;cases ht;exact hl rfl
  .rw[Ü (Ö hk)]at e
   let⟨v,e1,o⟩:=R.slot k d e;exact⟨v,e1,cC.updNe w3 (.inl hk) o⟩
def tE(ow:ZF)(i:Nat)(fk:M D)(op:ZG->ZG->Option (D×ZG))(fs:List (M D)):M D:=λδ=>match δ[i]? with
 |some (some (.list ds))=>(match fk δ with
  |.ok (.int k) _=>(match mT ds.length k with
   |some j=>(match ds[j]? with
    |some (.list inner)=>(match bO fs (N1 ow δ)with
     |.ok args _=>(match op inner args with
      |some (ret,inner')=>.ok ret (δ.set i (some (.list (ds.set j (.list inner')))))
      |none=>.stuck)
     |_=>.stuck)
    |_=>.stuck)
   |none=>.stuck)
  |_=>.stuck)
 |_=>.stuck
def KQ{i:Nat}{fk:M D}{op:ZG->ZG->Option (D×ZG)}{fs:List (M D)}{d:D}{δ1:DS}(h:tE ow i fk op fs δ=.ok d δ1):
  ∃ds k δ2 j inner args δ3 inner',δ[i]?=some (some (.list ds))/\fk δ=.ok (.int k) δ2/\mT ds.length k=some j/\ds[j]?=some (.list inner)/\bO fs (N1 ow δ)=.ok args δ3/\op inner args=some (d,inner')/\δ1=δ.set i (some (.list (ds.set j (.list inner')))):=by
 unfold tE at h;split at h
 .rename_i ds e1
  split at h
  .rename_i k δ2 e2
   split at h
   .rename_i j e3
    split at h
    .rename_i inner e4
     split at h
     .rename_i args δ3 e5
      split at h
      .rename_i ret inner' e6
       cases h;exact⟨ds,k,δ2,j,inner,args,δ3,inner',e1,e2,e3,e4,e5,e6,rfl⟩
      .cases h
     .cases h
    .cases h
   .cases h
  .cases h
 .cases h
def N3{ek:Expr}{fk:M D}(m:Nat)(h:∀F H σ,DE X (mX F H σ m) (List.replicate m 0) 0 ek fk):PE X ek (λσ H Q=>∃F0,tD X (mX F0 H σ m) (List.replicate m 0) 0 fk σ H Q):=λU s σ H Q I zQ=>by let⟨F0,q⟩:=zQ;exact h F0 H σ U s σ H Q I q
def aI9{es:List Expr}{fs:List (M D)}(m:Nat)(h:∀F H σ,DV X (mX F H σ m) (List.replicate m 0) es fs):PA X es (λσ H Q=>∃F0,tV X (mX F0 H σ m) (List.replicate m 0) fs σ H Q):=λcp U s σ H Q I zQ=>by let⟨F0,q⟩:=zQ;exact h F0 H σ cp U s σ H Q I q
def YG{i:Nat}{r:V->List V->Hp->VK->Prop}{op:ZG->ZG->Option (D×ZG)}{fk:M D}{fs:List (M D)}{Q:VK}(m:Nat)(ho:ow.getD i 0=2)(hm:S3 X r op)(h:tD X Z ow 0 (tE ow i fk op fs) σ H Q):
  VH i σ H λx H1=>∃F0,tD X (mX F0 H1 σ m) (List.replicate m 0) 0 fk σ H1 λy H2=>ŏ X.K x y H2 λv H3=>Į X.K "list" v H3/\∃F1,tV X (mX F1 H3 σ m) (List.replicate m 0) fs σ H3 λxs H4=>r v xs H4 Q:=by
 let⟨F,δ,⟨g,R⟩,h⟩:=h;cases e:tE ow i fk op fs δ with
 |stuck=>rw[e]at h;exact h.elim
 |ok d δ1=>
  rw[e]at h;let⟨ds,k,δ2,j,inner,args,δ3,inner',e1,e2,e3,e4,e5,e6,rfl⟩:=KQ e;let⟨a,vs,b,ws,q1,q2,q3,q4,q5,q6⟩:=R.at2 ho e1 e4;refine⟨_,q1,QO g F H,QO g F H,δ,R.bor,?_⟩;rw[e2];rintro v H1 F1 ⟨g1,R1,o1⟩ s1;have ev:v=.int k:=by
   have o1:cI X.K F1 (.int k) v:=o1;unfold cI at o1;exact o1
  subst ev;have hk:aW H H1:=λb o e=>R1.kept b o rfl e;have R2:=R.grow hk;refine⟨a,vs,k,.ref b,rfl,rfl,gM.of (hk _ _ q2),?_,.inl ⟨rfl,ws,gM.of (hk _ _ q5)⟩,F,F,N1 ow δ,R2.hide,?_⟩
  .unfold atI
   rw[<- q3,e3];exact q4
  .rw[e5]
   rintro us H2 F2 ⟨g3,R3⟩ s3 ra;have hk2:aW H1 H2:=λb o e=>R3.kept b o rfl e;have R4:=R2.back R3;let⟨xs',rv,w1,w2,w3⟩:=hm F2 H2 b ws us inner args d inner' (hk2 _ _ (hk _ _ q5)) R4.sub (s3.repAll _ _ q6) ra e6;exact w3 Q (h rv _ F2 ⟨g,R4.rewrite2 ho e1 q1 (hk2 _ _ (hk _ _ q2)) q4 w1,w2⟩ s3)
def Q5(i m:Nat){x:Str}{p p2 q:Pos}{name:Str}{id:String}{ek:Expr}{es:List Expr}{r:V->List V->Hp->VK->Prop}{op:ZG->ZG->Option (D×ZG)}{fk:M D}{fs:List (M D)}(slot:Slot "list" name id)(hty:typeOf (.builtin id)=pure (.type "method_descriptor"))(hmr:Đ X id r)(hm:S3 X r op)(hk:∀F H σ,DE X (mX F H σ m) (List.replicate m 0) 0 ek fk)(ha:∀F H σ,DV X (mX F H σ m) (List.replicate m 0) (e::es) fs)(ho:↥(ow.getD i 0=2))(hN:↥(X.N[i]?=some x))(hv:#v[JZ X.env.scope x])(hd:⇑(Zdb x))(hcd:⇑(Zcd x))(hp:uY ek:=by exact λ_ _=>rfl)(hbase:↥(attributeBase (.Subscript (.Name x p) ek p2) name X.env (eval (.Subscript (.Name x p) ek p2) X.env)=eval (.Subscript (.Name x p) ek p2) X.env))(hfew:↥(((backTo pos (starEach (e::es) X.env)).all (λx=>!x.1) && (backToKw pos (keywordEach [] X.env)).all (λx=>x.1.isSome)
   && decide ((e::es).length+([]:List Keyword).length+(if ([]:List Keyword).isEmpty then 0 else 1)<30))=true))(hline:↥((q.endLine == pos.line)=true))(hs:↥(Zse e es X.env))(hplain:↥(Zbt pos es X.env)):
  DE X Z ow 0 (.Call (.Attribute (.Subscript (.Name x p) ek p2) name q) (e::es) [] pos) (tE ow i fk op fs):=PE.mono (E0 PySem.F.plainAttrs_list slot hty hmr (P6 AC (iG hN hv hd hcd) (N3 m hk) hp) (aI9 m ha) hbase hfew hline hs hplain) λ_ _ _ h=>YG m ho hm h
def eJ.enter(hz:∀i,ow.getD i 0=0)(R:eJ K Z ow F H σ δ):eJ K (mX F H σ m) (List.replicate m 0) F H σ δ:=by
 let⟨g,R⟩:=R;exact⟨λ_=>none,R.sub,⟨R.f0.lm,λ_ _ z=>z⟩,λ_ _ _ e=>e,λ_ h _=>h,λ_ h=>h,λ_ _ _ e=>(by cases e),R.len,λi hi=>(by cases hi),λi d e=>by
  let⟨v,e1,o⟩:=R.slot i d e;rw[hz]at o;exact⟨v,e1,by rw[oR];exact o⟩⟩
def eJ.leave(hz:∀i,ow.getD i 0=0)(R:eJ K Z ow F H σ δ)(R':fN K (mX F H σ m) (List.replicate m 0) g' F' H' σ δ'):eJ K Z ow F' H' σ δ':=by
 let⟨g,R⟩:=R;have hk:∀b o,H b=some o->H' b=some o:=λb o e=>R'.kept b o rfl e;refine⟨λ_=>none,R'.sub,R.f0.trans' R'.f0.2,λb o n e=>hk b o (R.kept b o n e),λa h1 h2=>R'.new a (R.new a h1 h2) (R.there a h2),λb h=>?_,λ_ _ _ e=>(by cases e),R'.len,R.par,λi d e=>?_⟩
 .cases e:H b with
  |none=>exact absurd e (R.there b h)
  |some o=>rw[hk b o e];simp
 .obtain⟨v,e1,o⟩:=R'.slot i d e
  rw[oR]at o;exact⟨v,e1,by rw[hz];exact o⟩
def eJ.reg(hz:∀i,ow.getD i 0=0)(R:eJ K Z ow F H σ δ)(hl:∀a i p,g a=some (i,p)->Z.H0 a=none):fN K Z ow g F H σ δ:=by
 let⟨g0,R⟩:=R;exact⟨R.sub,R.f0,R.kept,R.new,R.there,λa i p e=>.inl (hl a i p e),R.len,R.par,λi d e=>by
  let⟨v,e1,o⟩:=R.slot i d e;rw[hz]at o;exact⟨v,e1,by rw[hz];exact o⟩⟩
structure KR(K:ZC)(H0 F H:Hp)(ga:ZN)(n:Nat)(acc:ZG)(ys:List V):Prop where
 len:acc.length=ys.length
 own:∀(k:Nat)(d:D)(v:V),acc[k]?=some d->ys[k]?=some v->cC K F H ga 1000 n [k] d v
 lab:∀a i p,ga a=some (i,p)->H0 a=none
def KR.keep{H0:Hp}{acc:ZG}{ys:List V}(A:KR K H0 F H g n acc ys)(hF:aW F F')(h:∀a o,H a=some o->F a=none->H' a=some o/\F' a=none):KR K H0 F' H' g n acc ys:=
 ⟨A.len,λk d v e1 e2=>(A.own k d v e1 e2).keep hF λa p o z1 z2 z3=>⟨z1,h a o z2 z3⟩,A.lab⟩
def KR.add{H0:Hp}{acc:ZG}{ys:List V}{d:D}{v:V}(A:KR K H0 F H g n acc ys)(R':fN K (mX F H σ m) (List.replicate m 0) g' F' H' σ δ')(o:cC K F' H' g' 1000 n [] d v)(h0:∀a,H a=none->H0 a=none):
  ∃ga,KR K H0 F' H' ga n (acc++[d]) (ys++[v]):=by
 have hn:∀a l,g' a=some l->H a=none:=λa l e=>by
  let⟨i,p⟩:=l;rcases R'.lab a i p e with z|⟨q,z⟩
  .exact z
  .cases z
 refine⟨λb=>match g' b with|some (i,p)=>if i=1000 then some (1000,ys.length::p)else none|none=>g b,by simp[A.len],λk d' v' e1 e2=>?_,λa i p e=>?_⟩
 .by_cases hk:k<ys.length
  .rw[ã (by rw[A.len];exact hk)]at e1
   rw[ã hk]at e2;refine(A.own k d' v' e1 e2).keep (H:=H) (H':=H') (show aW F F' from R'.f0.2) λa p o z1(z2:H a=some o)z3=>⟨?_,R'.kept a o rfl z2,R'.new a z3 (show H a≠none by rw[z2];simp)⟩;cases z4:g' a with
   |none=>exact z1
   |some l=>rw[hn a l z4]at z2;cases z2
  .have hk':k=ys.length:=by
    have:=(Ó.mp e2).1;rw[Î,í]at this;lia
   subst hk';rw[Þ (È _),Nat.sub_self]at e2;rw[<- A.len,Þ (È _),Nat.sub_self]at e1;cases e1;cases e2;have:=cC.relabP (g':=λb=>match g' b with|some (i,p)=>if i=1000 then some (1000,ys.length::p)else none|none=>g b) (j:=1000) (q:=[ys.length]) (λa p e=>by
    show (match g' a with|some (i,p)=>if i=1000 then some (1000,ys.length::p)else none|none=>g a)=_;rw[e];exact Á rfl) o
   exact this
 .cases z:g' a with
  |none=>rw[z]at e;exact A.lab a i p e
  |some l=>exact h0 a (hn a l z)
def VC.turn2{J:It}{ds:ZG}{F1:Hp}{i:Nat}{x:V}{d:D}(T:VC X.K F1 J ds)(R:eJ X.K Z ow F H σ δ)(s:aW F1 F)(y:J.yld i H x H')(e:ds[i]?=some d):∃F',aW F F'/\eJ X.K Z ow F' H' σ δ/\cI X.K F' d x/\∀a o,H a=some o->F a=none->H' a=some o/\F' a=none:=by
 rcases T.yld i H x H' d (s.trans' R.sub) y e with ⟨rfl,r⟩|⟨p,o,hp,rfl,r⟩
 .exact⟨F,aW.refl _,R,s.rep _ _ r,λa o z1 z2=>⟨z1,z2⟩⟩
 .have fp:=R.fnone hp
  refine⟨eB F p o,dP fp o,R.laid hp,r F s fp,λa u z1 z2=>?_⟩;have:a≠p:=λz=>by rw[z,hp]at z1;cases z1
  rw[aZ this,aZ this];exact⟨z1,z2⟩
def TK{k:Nat}(hz:∀i,ow.getD i 0=0)(i:Nat):(List.replicate k 0++ow).getD i 0=0:=by
 by_cases h:i<k
 .rw[Ð,ã (by simpa using h),ÿ]
  split<;>rfl
 .obtain⟨j,rfl⟩:∃j,i=j+k:=⟨i-k,∅⟩
  rw[oP];exact hz j
def YH(h:ow.all (· == 0)=true)(i:Nat):ow.getD i 0=0:=by
 by_cases hl:i<ow.length
 .have:=ß.mp h ow[i] (List.getElem_mem hl)
  rw[Ð,Ç hl];simpa using this
 .rw[Ð,Ú (by exact å.mp ‹_›)];rfl
def TL{k:Nat}{gt:TG}{set:D->DS->Option DS}{fi:M (ZG)}{fe:M D}{Q:VK}(m:Nat)(hkd:kd (n+1)=0)(hch:∀k,ch (n+1) k=n)(S:bH Z ow)(Sk:bH (Z.sh k) (List.replicate k 0++ow))(hz:∀i,ow.getD i 0=0)(hs:ĉ X (Z.sh k) (List.replicate k 0++ow) k gt set)(q:tD X Z ow (n+1) (bX k set fi bY fe) σ H Q):QA k (tI X Z ow fi) gt (λ_ H Q=>Q true H) (λσ H Q=>∃F0,ė X (mX F0 H σ m) (List.replicate m 0) n fe σ H Q) σ H Q:=by
 let⟨F,δ,R,q⟩:=q;unfold bX at q;refine⟨F,δ,R,?_⟩;cases e1:fi δ with
 |stuck=>rw[e1]at q;exact q.elim
 |ok ds δ1=>
  rw[e1]at q;simp![Res.bind]at q;intro J H1 F1 R1 s1 T;have hcase:∃acc δ2,cL set bY fe ds [] (List.replicate k none++δ1)=.ok acc δ2/\k<=δ2.length/\kD X Z ow (n+1) (.ok (.list acc) (δ2.drop k)) F σ Q:=by
   cases e2:cL set bY fe ds [] (List.replicate k none++δ1)with
   |stuck=>rw[e2]at q;exact q.elim
   |ok acc δ2=>
    rw[e2]at q;dsimp only at q;split at q
    .rename_i hk;exact⟨acc,δ2,rfl,hk,q⟩
    .exact q.elim
  let⟨acc,δ2,e2,hk2,q⟩:=hcase;have hz':∀i,(List.replicate k 0++ow).getD i 0=0:=TK hz;refine⟨λi m ys σ' H'=>m=ds.length-i/\i<=ds.length/\σ'.length=σ.length+k/\(∀i,σ'[i+k]?=σ[i]?)/\∃F2 δ' acc' ga,eJ X.K (Z.sh k) (List.replicate k 0++ow) F2 H' σ' δ'/\aW F1 F2/\KR X.K Z.H0 F2 H' ga n acc' ys/\cL set bY fe (ds.drop i) acc' δ'=.ok acc δ2,
   ⟨ds.length,rfl,î _,by simp;exact Nat.add_comm _ _,λi=>by rw[Þ (by simp),é,Ć],F1,_,[],λ_=>none,R1.sh S,aW.refl _,⟨rfl,λk d v e=>(by cases e),λa i p e=>(by cases e)⟩,e2⟩,?_⟩
  rintro i m' ys σ2 H2 ⟨rfl,hi,hl2,hσ2,F2,δ',acc',ga,R2,s2,A2,e3⟩;by_cases hlt:i<ds.length
  .have ed:=Ç hlt
   have ee:ds.drop i=ds[i]::ds.drop (i+1):=ð hlt;rw[ee]at e3;unfold cL at e3;cases e4:set ds[i] δ' with
   |none=>simp![e4]at e3;cases e3
   |some δ3=>
    simp![e4]at e3;have e3':((fe δ3).bind λy δ3=>if acc'.length<sizeLine then cL set bY fe (ds.drop (i+1)) (acc'++[y]) δ3 else .stuck)=.ok acc δ2:=e3;cases e6:fe δ3 with
    |stuck=>rw[e6]at e3';cases e3'
    |ok yd δ5=>
     rw[e6]at e3';simp![Res.bind]at e3';split at e3'
     .rename_i small
      refine .inr ⟨T.go i H2 (s2.trans' R2.sub) hlt,by rw[<- A2.len];exact small,λzs σ'' H''=>σ''.length=σ.length+k/\(∀i,σ''[i+k]?=σ[i]?)/\∃F3 δ' acc' ga,eJ X.K (Z.sh k) (List.replicate k 0++ow) F3 H'' σ'' δ'/\aW F1 F3/\KR X.K Z.H0 F3 H'' ga n acc' zs/\cL set bY fe (ds.drop (i+1)) acc' δ'=.ok acc δ2,λzs σ'' H'' z=>⟨ds.length-(i+1),∅,rfl,hlt,z⟩,λx H3 y=>?_⟩
      let⟨F3,s3,R3,r3,k3⟩:=T.turn2 R2 s2 y ed;refine hs F3 H3 σ2 δ' δ3 ds[i] x _ R3 r3 e4 λσ3 R4 l3 _ hσ3=>?_;dsimp only;rw[Á rfl];refine⟨F3,F3,δ3,R4.enter hz',?_⟩;rw[e6];rintro yv H6 F6 ⟨g6,R6,o6⟩ s6;have hl3:σ3.length=σ.length+k:=by exact Eq.trans ‹_› ‹_›
      have hσ4:∀i,σ3[i+k]?=σ[i]?:=λi=>(hσ3 i).trans (hσ2 i);have A3:=A2.keep s3 k3;let⟨ga',A4⟩:=A3.add R6 o6 λa ha=>by
       cases z:Z.H0 a with
       |none=>rfl
       |some u=>
        let⟨g4,R4⟩:=R4;exact absurd ha (R4.there a (by show Z.H0 a≠none;rw[z];simp))
      exact⟨hl3,hσ4,F6,δ5,acc'++[yd],ga',R4.leave hz' R6,s2.trans' (s3.trans' s6),A4,e3'⟩
     .cases e3'
  .have e:i=ds.length:=by lia
   subst e;rw[List.drop_length]at e3;unfold cL at e3;cases e3;refine .inl ⟨T.stop H2 (s2.trans' R2.sub),λp hp=>?_⟩;have R7:eJ X.K Z ow F2 H2 σ (δ2.drop k):=R2.unsh S Sk hσ2 hl2 hk2;have fp:=R7.fnone hp;have zp:Z.H0 p=none:=by
    cases z:Z.H0 p with
    |none=>rfl
    |some u=>
     let⟨g4,R4⟩:=R7;exact absurd hp (R4.there p (by rw[z];simp))
   refine q _ _ F2 ⟨λb=>if b=p then some (1000,[])else ga b,(R7.reg hz λa i q e=>?_).grow (dP hp _),?_⟩ (s1.trans' s2)
   .split at e
    .rename_i z;rw[z];exact zp
    .exact A2.lab a i q e
   .refine cC.mkL (hk:=hkd) (hm:=hch) ⟨p,acc,ys,rfl,rfl,Á rfl,cJ,fp,A2.len,λk d v z1 z2=>?_⟩
    refine cC.keep (aW.refl _) (λa q o y1 y2 y3=>?_) (A2.own k d v z1 z2);have:a≠p:=λz=>by rw[z,hp]at y2;cases y2
    rw[aZ this];exact⟨by rw[Ã this];exact y1,y2,y3⟩
def m9(i:Nat){x:Str}{pos' spos:Pos}{elt iter:Expr}{scope:Scope}{xs:ZE}{gt:TG}{set:D->DS->Option DS}{fi:M (ZG)}{fe:M D}(m:Nat)(S:bH Z ow)(Sk:bH (Z.sh xs.length) (List.replicate xs.length 0++ow))(hc:X.calm=true)(hN:X.N.Nodup)(hi:DI X Z ow tg iter fi)(hg:∀C fp s H,PG (bW X xs scope C fp s H) tg gt)(hs:ĉ X (Z.sh xs.length) (List.replicate xs.length 0++ow) xs.length gt set)(he:∀C fp s H,∀F1 H1 σ1,DE (bW X xs scope C fp s H) (mX F1 H1 σ1 m) (List.replicate m 0) n elt fe)(hz:↥(ow.all (· == 0)=true))(hkd:↥(kd (n+1)=0))(hch: ~~~(∀k,ch (n+1) k=n))(hx:↥(X.N[i]?=some x))(hl:↥(X.env.scope.names.lookup x=some .local))(hps:↥(Z.ps.contains i=false))(hlo:⇑(i<ow.length))(hsw:↥(swapsWith (.ListComp elt [⟨tg,iter,[],0⟩] scope pos) (some (.Name x pos')) spos.line X.env=pure true))(hk:↥(scope.kind=.function))(hok:↥(gO X.N xs scope.names X.env.scope.names=true))(hfs: ~~~(Zfi iter X.env)):
  NK X Z ow (ow.set i (n+1)) ol ox rm (.Assign [.Name x pos'] (.ListComp elt [⟨tg,iter,[],0⟩] scope pos) spos) (bT i (bX xs.length set fi bY fe)):=
 PS.mono (u4 (ti:=λ_ H Q=>Q true H) (te:=λσ H Q=>∃F0,ė X (mX F0 H σ m) (List.replicate m 0) n fe σ H Q) hc hN hx hl hi hg (λC fp s H=>P9) (λC fp s H U s' σ H' Q I zQ=>by let⟨F0,h⟩:=zQ;exact he C fp s H F0 H' σ U s' σ H' Q I (WQ (X:=X) (X':=bW X xs scope C fp s H) rfl h)) hsw hk hok hfs)
  λDn σ H h=>TL m hkd hch S Sk (YH hz) hs (AE S (bQ hps) hlo h)
end
end L2
namespace L2
open PySem PySem.Spec
section
variable{ow:ZF}{i:Nat}{fk f k:M D}{op:ZG->ZG->Option (D×ZG)}{fs:List (M D)}{δ:DS}{Q:D->ZM}
def Q6(ow:ZF)(i:Nat)(o:Option (ZJ))(k:D)(op:ZG->ZG->Option (D×ZG))(fs:List (M D))(δ:DS)(Q:D->ZM)(_w:Wt Q:=⟨⟩):Prop:=
 ∃ds n j inner,o=some (some (.list ds))/\k=.int n/\mT ds.length n=some j/\ds[j]?=some (.list inner)/\bJ (bO fs) (N1 ow δ) λargs _=>∃ret inner',op inner args=some (ret,inner')/\Q ret (δ.set i (some (.list (ds.set j (.list inner')))))
def N4:bJ (tE ow i fk op fs) δ Q=bJ fk δ λk _=>Q6 ow i δ[i]? k op fs δ Q:=by
 refine propext ⟨λh=>?_,λh=>?_⟩
 .obtain⟨d,δ1,e,q⟩:=h.ex
  let⟨ds,n,δ2,j,inner,args,δ3,inner',e1,e2,e3,e4,e5,e6,rfl⟩:=KQ e;exact bJ.of e2 ⟨ds,n,j,inner,e1,rfl,e3,e4,bJ.of e5 ⟨d,inner',e6,q⟩⟩
 .obtain⟨k,δ2,e2,q⟩:=h.ex
  let⟨ds,n,j,inner,e1,rfl,e3,e4,w⟩:=q;let⟨args,δ3,e5,ret,inner',e6,q⟩:=w.ex;refine bJ.of (a:=ret) (δ1:=δ.set i (some (.list (ds.set j (.list inner'))))) ?_ q;unfold tE;rw[e1];dsimp only;rw[e2];dsimp only;rw[e3];dsimp only;rw[e4];dsimp only;rw[e5];dsimp only;rw[e6]
def YI(o:Option (D×ZG))(ds:ZG)(j i:Nat)(δ:DS)(Q:D->ZM)(_w:Wt Q:=⟨⟩):Prop:=∃ret inner',o=some (ret,inner')/\Q ret (δ.set i (some (.list (ds.set j (.list inner')))))
def YJ{ds inner:ZG}{n:Int}{j:Nat}(e3:mT ds.length n=some j)(e4:ds[j]?=some (.list inner)):Q6 ow i (some (some (.list ds))) (.int n) op fs δ Q=bJ (bO fs) (N1 ow δ) λargs _=>YI (op inner args) ds j i δ Q:=by
 unfold Q6 YI;refine propext ⟨λh=>?_,λh=>?_⟩
 .obtain⟨ds',n',j',inner',h1,h2,h3,h4,w⟩:=h
  cases h1;cases h2;rw[e3]at h3;cases h3;rw[e4]at h4;cases h4;exact w
 .exact⟨ds,n,j,inner,rfl,rfl,e3,e4,h⟩
def YK{ds l:ZG}{d:D}{j:Nat}:YI (t0 l [d]) ds j i δ Q=(l.length<sizeLine/\Q .none (δ.set i (some (.list (ds.set j (.list (l++[d]))))))):=by
 refine propext ⟨λzQ=>?_,λzQ=>by let⟨h,p⟩:=zQ;exact ⟨_,_,Á h,p⟩⟩;let⟨r,d2,h,p⟩:=zQ;unfold t0 at h;dsimp only at h;split at h
 .rename_i hc;cases h;exact⟨hc,p⟩
 .cases h
end
end L2
namespace L2
open PySem PySem.Spec PyProof.Rows
end L2
namespace L2
open PySem PySem.Spec
end L2
namespace L2
open PySem PySem.Spec PyProof.Rows
section
variable{X:Cx}{Z:dQ}{ow:ZF}{a b:Expr}{f k:M D}{pos:Pos}
end
end L2
namespace L2
open PySem PySem.Spec
end L2
namespace L2
open PySem PySem.Spec PyProof.Rows
section
variable{X:Cx}{Z:dQ}{ow:ZF}{e:Expr}{f:M D}{pos:Pos}
end
section
variable{X:Cx}{Z:dQ}{ow:ZF}{a b:Expr}{f h:M D}{pos:Pos}
def lC(x:Str)(n:Int):Str:=⟨(List.replicate n.toNat x.cps).foldl (·++·) #[]⟩
def KS{x:Array Nat}:∀(n:Nat)(a:Array Nat),((List.replicate n x).foldl (·++·) a).size=a.size+n*x.size
 |0=>by intro a;simp
 |n+1=>by intro a;rw[List.replicate_succ,List.foldl_cons,KS n,Array.size_append,Nat.succ_mul];omega
def qG{x:Str}{n:Int}:(lC x n).length=n.toNat*x.length:=by
 show ((List.replicate n.toNat x.cps).foldl (·++·) #[]).size=_;rw[KS];simp;rfl
def Q7:∀n:Nat,(List.replicate n (#[]:Array Nat)).foldl (·++·) #[]=#[]
 |0=>rfl
 |n+1=>by
  rw[List.replicate_succ,List.foldl_cons,Array.append_empty];exact Q7 n
def aD3:pO X (binaryOp .Mult) (λx y H Q=>∃i n,x=.str i/\y=.int n/\i.length<=1000/\0<=n/\n<=1000/\Q (.str (lC i n)) H):=by
 intro U s σ H x y v u Q I rx ry h;let⟨i,n,rfl,rfl,h1,h2,h3,q⟩:=h;let⟨t,rfl⟩:=rx;let⟨t',rfl⟩:=ry;have hm:i.length*n.toNat<=1000*1000:=Nat.mul_le_mul h1 (by omega);have hz:sizeLine=2^24:=rfl;refine PySem.P.mul_str (by grind) (λg1 _ g2=>?_) (λ_ _=>?_) ?_
 .have:(1000:Int)<=(2^63-1)/n:=Int.le_ediv_of_mul_le (by omega) (by omega)
  omega
 .unfold Builtin.Str.tooLong
  grind
 .split
  .rename_i g
   have e:n.toNat=0:=by omega
   have e2:lC i n=Str.empty:=by
    unfold lC;rw[e];rfl
   rw[e2]at q;exact⟨⋯,.str Str.empty,H,I.tok _,⟨_,rfl⟩,q⟩
  .split
   .rename_i g
    rw[Bool.or_eq_true,beq_iff_eq,beq_iff_eq]at g;refine⟨.str (lC i n),H,I,⟨t,?_⟩,q⟩;have:lC i n=i:=by
     unfold lC;rcases g with rfl|g
     .simp_all
     .have e:i.cps=#[]:=Array.eq_empty_of_size_eq_zero g
      rw[e,Q7,<- e]
    rw[this]
   .refine⟨?_,.str (lC i n),H,I.tok _,⟨_,rfl⟩,q⟩
    have:=qG (x:=i) (n:=n);unfold lC at this
    grind
def N5:D->D->ZJ
 |.str i,.int n=>if i.length<=1000/\0<=n/\n<=1000 then some (.str (lC i n))else none
 |_,_=>none
def aD4:sY X (λx y H Q=>∃i n,x=.str i/\y=.int n/\i.length<=1000/\0<=n/\n<=1000/\Q (.str (lC i n)) H) 0 N5:=λZ ow F H σ δ a b x y d Q S R ra rb e q=>by
 unfold N5 at e;split at e
 .rename_i i n
  split at e
  .rename_i hc
   cases e;exact⟨i,n,fI ra,k8 rb,hc.1,hc.2.1,hc.2.2,q _ H F (R.x kG) (aW.refl _)⟩
  .cases e
 .cases e
def HK(S:bH Z ow)(ha:DE X Z ow 0 a f)(hb:DE X Z ow 0 b h):DE X Z ow 0 (.BinOp a .Mult b pos) (aU N5 f h):=E3 S aD3 aD4 ha hb
def ϔ{i:Str}{n:Int}(h1:i.length<=1000)(h2:0<=n)(h3:n<=1000):N5 (.str i) (.int n)=some (.str (lC i n)):=Á ⟨h1,h2,h3⟩
end
section
variable{X:Cx}{tg:Expr}
end
section
variable{X:Cx}{Z:dQ}{ow:ZF}{tg a:Expr}{f:M D}
end
section
variable{X:Cx}{Z:dQ}{ow ol ox:ZF}{rm:Nat}{pos:Pos}{F H:Hp}{σ:St}{δ:DS}{g:ZN}{K:ZC}
end
section
variable{X:Cx}
def ϕ:V->Option Int->Option Int->Hp->VK->Prop:=λx lo hi H Q=>∃z,x=.str z/\z.length<=sizeLine/\Q (.str (Txt.slice z lo hi)) H
def aJA:ğ X ϕ:=by
 intro U s σ H x v vl vu lo hi sl Q I rx hs pl pu h;let⟨z,rfl,hz,q⟩:=h;let⟨t,rfl⟩:=rx;refine⟨"str",_,PySem.F.slot_str_getitem.lookup,typeIs_str _ _ _,?_⟩;obtain⟨l,el,hl⟩:∃l:Option (Int×Tok),vl=partValue l/\l.map (·.1)=lo:=by
  cases pl with
  |none=>exact⟨none,rfl,rfl⟩
  |int i t=>exact⟨some (i,t),rfl,rfl⟩
 obtain⟨u,eu,hu⟩:∃u:Option (Int×Tok),vu=partValue u/\u.map (·.1)=hi:=by
  cases pu with
  |none=>exact⟨none,rfl,rfl⟩
  |int i t=>exact⟨some (i,t),rfl,rfl⟩
 subst el eu hl hu;let⟨o,h1,h2,h3⟩:=hs;refine wpAny_getItem_str_slice (l:=l) (u:=u) (st:=none) ⟨o,h1,h2,h3⟩ rfl ?_;exact post_val_or_str ⟨Ñ (Txt.slice_le z _ _) hz,λt' k=>⟨.str (Txt.slice z (l.map (·.1)) (u.map (·.1))),H,I.tok k,⟨_,rfl⟩,q⟩⟩
def ĺ:D->Option Int->Option Int->ZJ
 |.str z,l,u=>if z.length<=sizeLine then some (.str (Txt.slice z l u))else none
 |_,_,_=>none
def aJB:Ķ X ϕ 0 ĺ:=λZ ow F H σ δ a x l u d Q S R ra e q=>by
 unfold ĺ at e;split at e
 .split at e
  .rename_i hz
   cases e;exact⟨_,fI ra,hz,q _ H F (R.x kG) (aW.refl _)⟩
  .cases e
 .cases e
end
def wR(f:Str):ZE->Nat
 |[]=>0
 |g::r=>if g=f then 0 else wR f r+1
def KU(f:Str):ZE->ZE
 |[]=>[f]
 |g::r=>if g=f then g::r else g::KU f r
def BJ{α:Type}(k:Nat)(y:α)(xs:List α):(List α):=if k<xs.length then xs.set k y else xs++[y]
def YL{f:Str}:∀{fs:ZE},wR f fs<=fs.length
 |[]=>È _
 |g::r=>by
  unfold wR;split
  .exact î _
  .have:=YL (f:=f) (fs:=r);rw[Ë];exact Nat.lt_succ_of_le ‹_›
def FE{α:Type}{k:Nat}{y x:α}{xs:List α}:BJ (k+1) y (x::xs)=x::BJ k y xs:=by
 unfold BJ;by_cases h:k<xs.length
 .rw[Á (by rw[Ë];exact Nat.succ_lt_succ ‹_›),Á h];rfl
 .rw[Ã (by rw[Ë];lia),Ã h];rfl
def BK{α:Type}{k:Nat}{y:α}{xs:List α}:(BJ k y xs).length=if k<xs.length then xs.length else xs.length+1:=by
 unfold BJ;split
 .rw[à]
 .rw[Î];rfl
def Q8{α:Type}{k:Nat}{y:α}{xs:List α}(h:k<=xs.length)(j:Nat):(BJ k y xs)[j]?=if j=k then some y else xs[j]?:=by
 unfold BJ;by_cases hk:k<xs.length
 .rw[Á hk]
  by_cases hj:j=k
  .subst hj;rw[Á rfl,è hk]
  .rw[Ã hj,Ü (Ö hj)]
 .rw[Ã hk]
  have:k=xs.length:=by lia
  subst this;by_cases hj:j=xs.length
  .subst hj;rw[Á rfl,Þ (È _),Nat.sub_self];rfl
  .rw[Ã hj]
   by_cases hl:j<xs.length
   .rw[ã hl]
   .rw[Ú (by rw[Î,í];lia),Ú (by exact å.mp ‹_›)]
def KW{f:Str}:∀{fs:ZE},(KU f fs).length=if wR f fs<fs.length then fs.length else fs.length+1
 |[]=>rfl
 |g::r=>by
  unfold KU wR;by_cases h:g=f
  .rw[Á h,Á h,Á (by rw[Ë];exact Nat.zero_lt_succ _)]
  .rw[Ã h,Ã h,Ë,KW (f:=f) (fs:=r),Ë]
   by_cases q:wR f r<r.length
   .rw[Á q,Á (by exact Nat.succ_lt_succ ‹_›)]
   .rw[Ã q,Ã ∅]
def uA{f:Str}:∀{fs:ZE}{vs:List V},fs.length=vs.length->(fs.zip vs).lookup f=vs[wR f fs]?
 |[],[],_=>rfl
 |g::fs,v::vs,h=>by
  rw[Ù];unfold wR;by_cases e:g=f
  .rw[Á e,æ,show (f == g)=true by rw[e];exact beq_self_eq_true _]
   rfl
  .rw[Ã e,æ,show (f == g)=false from beq_eq_false_iff_ne.mpr (Ö e),List.getElem?_cons_succ]
   exact uA (by simpa using h)
def KY{f:Str}{y:V}:∀{fs:ZE}{vs:List V},fs.length=vs.length->nT f y (fs.zip vs)=(KU f fs).zip (BJ (wR f fs) y vs)
 |[],[],_=>rfl
 |g::fs,v::vs,h=>by
  rw[Ù];unfold nT KU wR;by_cases e:g=f
  .rw[Á e,Á e,Á e];rfl
  .rw[Ã e,Ã e,Ã e,FE,Ù,KY (by simpa using h)]
def oU(f:Str):List (D×D)->ZJ
 |(.str g,d)::r=>if g=f then some d else oU f r
 |_=>none
def sS(f:Str):List (D×D)->Nat
 |(.str g,_)::r=>if g=f then 0 else sS f r+1
 |_=>0
def tF(f:Str)(y:D):List (D×D)->List (D×D)
 |(.str g,d)::r=>if g=f then (.str g,y)::r else (.str g,d)::tF f y r
 |_=>[(.str f,y)]
def BL{f:Str}:∀{fs:ZE}{ds:ZG},fs.length=ds.length->oU f ((fs.map PyData.str).zip ds)=ds[wR f fs]?
 |[],[],_=>rfl
 |g::fs,v::vs,h=>by
  rw[Ê,Ù];unfold oU wR;by_cases e:g=f
  .rw[Á e,Á e];rfl
  .rw[Ã e,Ã e,List.getElem?_cons_succ]
   exact BL (by simpa using h)
def BM{f:Str}:∀{fs:ZE}{ds:ZG},fs.length=ds.length->sS f ((fs.map PyData.str).zip ds)=wR f fs
 |[],[],_=>rfl
 |g::fs,v::vs,h=>by
  rw[Ê,Ù];unfold sS wR;rw[BM (by simpa using h)]
def FF{f:Str}{y:D}:∀{fs:ZE}{ds:ZG},fs.length=ds.length->tF f y ((fs.map PyData.str).zip ds)=((KU f fs).map PyData.str).zip (BJ (wR f fs) y ds)
 |[],[],_=>rfl
 |g::fs,v::vs,h=>by
  rw[Ê,Ù];unfold tF KU wR;by_cases e:g=f
  .rw[Á e,Á e,Á e];rfl
  .rw[Ã e,Ã e,Ã e,FE,Ê,Ù,FF (by simpa using h)]
def Ţ(nm f:Str):D->ZJ
 |.dict ((.none,.str n)::À)=>if n=nm then oU f À else none
 |_=>none
section
variable{X:Cx}{Z:dQ}{ow ow' ol ox:ZF}{n rm:Nat}{pos:Pos}{e a b c:Expr}{fe h:M D}{F F' H H':Hp}{σ:St}{δ:DS}{g:ZN}{K:ZC}{nm f:Str}
def Ĕ(K:ZC)(nm f:Str):Prop:=∀C,W.nsIn K mainGlobals nm=some (some (.ref C))->U9 K C/\oG K C f
def cC.ins{i c:Nat}{p:ZF}{d:D}{v:V}(h:cC K F H g i c p d v)(hk:kd c=2):
  ∃a nm fs C dx ds vs,d=eI nm fs ds/\v=.ref a/\fs.length=ds.length/\ds.length=vs.length/\W.nsIn K mainGlobals nm=some (some (.ref C))/\g a=some (i,p)/\H a=some (.ins C dx (fs.zip vs))/\F a=none/\g dx=some (i,p++[1000])/\H dx=some (.own a)/\F dx=none /\
   ∀(k:Nat)(d':D)(v':V),ds[k]?=some d'->vs[k]?=some v'->cC K F H g i (ch c k) (p++[k]) d' v':=by
 cases c with
 |zero=>cases hk
 |succ c=>
  let⟨ds,vs,cs,nd,hc,hl,r⟩:=h.open;rw[hk]at nd;let⟨a,nm,fs,C,dx,h1,h2,h3,h4,rfl⟩:=nd;let⟨a1,a2,a3⟩:=hc _ Ì;let⟨b1,b2,b3⟩:=hc _ (É _ (ç.mpr rfl));exact⟨a,nm,fs,C,dx,ds,vs,h1,h2,h3,hl,h4,by simpa using a1,a2,a3,b1,b2,b3,r⟩
def cC.mkI{i c:Nat}{p:ZF}{a C dx:Addr}{fs:ZE}{ds:ZG}{vs:List V}(hk:kd c=2)(h3:fs.length=ds.length)(hl:ds.length=vs.length)(h4:W.nsIn K mainGlobals nm=some (some (.ref C)))(a1:g a=some (i,p))(a2:H a=some (.ins C dx (fs.zip vs)))(a3:F a=none)(b1:g dx=some (i,p++[1000]))(b2:H dx=some (.own a))(b3:F dx=none)(r:∀(k:Nat)(d':D)(v':V),ds[k]?=some d'->vs[k]?=some v'->cC K F H g i (ch c k) (p++[k]) d' v'):cC K F H g i c p (eI nm fs ds) (.ref a):=by
 cases c with
 |zero=>cases hk
 |succ c=>
  refine cC.shut (ds:=ds) (vs:=vs) (cs:=[(a,[],.ins C dx (fs.zip vs)),(dx,[1000],.own a)]) (by rw[hk];exact⟨a,nm,fs,C,dx,rfl,rfl,h3,h4,rfl⟩) (λx hx=>?_) hl r
  rcases Å.mp hx with z|z
  .subst z;exact⟨by simpa using a1,a2,a3⟩
  .rw[ç.mp z];exact⟨b1,b2,b3⟩
def gS(i c:Nat)(nm f:Str):M D:=λδ=>match δ[i]? with
 |some (some (.dict ((.none,.str n)::À)))=>if n=nm/\ch c (sS f À)=0 then (match oU f À with
  |some r=>.ok r δ
  |none=>.stuck)else .stuck
 |_=>.stuck
def AJ{n:Str}{À:List (D×D)}{fs:ZE}{ds:ZG}(h:(PyData.dict ((.none,.str n)::À):D)=eI nm fs ds):n=nm/\À=(fs.map PyData.str).zip ds:=by
 unfold eI at h;injection h with h;injection h with h1 h2;injection h1 with _ h1;injection h1 with h1;exact⟨h1,h2⟩
def gH(i:Nat)(nm:Str){c:Nat}{x:Str}{p:Pos}(hc:Ĕ X.K nm f)(ho:↥(ow.getD i 0=c))(hk:↥(kd c=2))(hN:↥(X.N[i]?=some x))(hv:#v[JZ X.env.scope x])(hd:⇑(Zdb x))(hcd:⇑(Zcd x))(hb:↥(attributeBase (.Name x p) f X.env (eval (.Name x p) X.env)=eval (.Name x p) X.env)):DE X Z ow 0 (.Attribute (.Name x p) f pos) (gS i c nm f):=PE.mono (aHZ (iG hN hv hd hcd) hb) λσ H Q q=>by
 let⟨F,δ,⟨g,R⟩,q⟩:=q;unfold gS at q;split at q
 .rename_i n À e0
  split at q
  .rename_i hn
   let⟨rfl,hch⟩:=hn;cases e1:oU f À with
   |none=>rw[e1]at q;exact q.elim
   |some r=>
    rw[e1]at q;let⟨v,w1,o⟩:=R.slot i _ e0;rw[ho]at o;let⟨a,nm',fs,C,dx,ds,vs,d1,rfl,l1,l2,hC,_,hH,_,_,_,_,hch'⟩:=o.ins hk;let⟨rfl,rfl⟩:=AJ d1;rw[BL l1]at e1;rw[BM l1]at hch;have hlt:wR f fs<vs.length:=by have:=(Ó.mp e1).1;exact þ ‹_› ‹_›
    have o1:=hch' _ _ _ e1 (Ç hlt);rw[hch]at o1;let⟨c1,c2⟩:=hc C hC;refine⟨_,w1,a,C,dx,_,vs[wR f fs],rfl,hH,c1,c2,?_,q _ H F ⟨g,R,o1⟩ λ_ _ z=>z⟩;rw[uA (by exact Eq.trans ‹_› ‹_›)];exact Ç hlt
  .exact q.elim
 .exact q.elim
end
section
variable{X:Cx}{Z:dQ}{ow ow' ol ox:ZF}{n rm c i:Nat}{pos spos tpos:Pos}{e:Expr}{fe fk fv:M D}{F F' H H':Hp}{σ:St}{δ:DS}{g:ZN}{K:ZC}{nm f:Str}
def N6(S:bH Z ow)(h:ow.getD i 0≠0):i<1000:=by
 by_cases hl:i<ow.length
 .exact Ô hl S.ow
 .exact absurd (by rw[Ð,Ú (by exact å.mp ‹_›)];rfl) h
def aMN(hk:kd c=2):c≠0:=λz=>by rw[z]at hk;cases hk
def Q9:∀{xs ys:ZE},xs.map PyData.str=ys.map PyData.str->xs=ys
 |[],[],_=>rfl
 |x::xs,y::ys,h=>by
  rw[Ê,Ê]at h;injection h with h1 h2;injection h1 with h1;rw[h1,Q9 h2]
def iF.putFld{d:D}{v:V}{fs:ZE}{ds:ZG}{a:Addr}(S:bH Z ow)(R:iF K Z ow n d v F H σ δ)(ho:ow.getD i 0=c)(hk:kd c=2)(hd:δ[i]?=some (some (eI nm fs ds)))(hl:fs.length=ds.length)(hs:σ[i]?=some (some (.ref a)))(hch:ch c (wR f fs)=n):
  ∃C dx vs,fs.length=vs.length/\W.nsIn K mainGlobals nm=some (some (.ref C))/\H a=some (.ins C dx (fs.zip vs))/\eJ K Z ow F (eB H a (.ins C dx (nT f v (fs.zip vs)))) σ (δ.set i (some (eI nm (KU f fs) (BJ (wR f fs) d ds)))):=by
 let⟨g,R,oh⟩:=R;let⟨v1,w1,o⟩:=R.slot i _ hd;rw[hs]at w1;cases w1;rw[ho]at o;have i1:i<1000:=N6 S (by rw[ho];exact aMN hk);let⟨a',nm',fs',C,dx,ds',vs,d1,ea,l1,l2,hC,a1,a2,a3,b1,b2,b3,hch'⟩:=o.ins hk;cases ea;let⟨rfl,ez⟩:=AJ (nm:=nm') (n:=nm) (À:=(fs.map PyData.str).zip ds) d1;have efs:fs=fs':=by
  have:=congrArg (List.map Prod.fst) ez;rw[List.map_fst_zip (by rw[Â];exact Nat.le_of_eq ‹_›),List.map_fst_zip (by rw[Â];exact Nat.le_of_eq ‹_›)]at this;exact Q9 this
 have eds:ds=ds':=by
  have:=congrArg (List.map Prod.snd) ez;rw[List.map_snd_zip (by rw[Â];lia),List.map_snd_zip (by rw[Â];lia)]at this;exact this
 subst efs eds;have hi:i<δ.length:=(Ó.mp hd).1;have nda:dx≠a:=λz=>by rw[z,a1]at b1;cases b1
 refine⟨C,dx,vs,by exact Eq.trans ‹_› ‹_›,hC,a2,λb=>match g b with|some (m,p)=>if m=1000 then some (i,wR f fs::p)else some (m,p)|none=>none,λb u e=>?_,R.f0,λb u m e=>?_,R.new,λb z=>?_,λb m p e=>?_,by rw[à];exact R.len,R.par,λj d' e=>?_⟩
 .have:b≠a:=λz=>by rw[z,a3]at e;cases e
  rw[aZ this];exact R.sub b u e
 .have:b≠a:=λz=>by
   subst z;rcases R.lab b i [] a1 with w|⟨q,w⟩
   .rw[w]at e;cases e
   .rw[w]at m;cases m
  rw[aZ this];exact R.kept b u m e
 .by_cases hb:b=a
  .subst hb;rw[cJ];simp
  .rw[aZ hb];exact R.there b z
 .cases eg:g b with
  |none=>rw[eg]at e;cases e
  |some l=>
   let⟨m',p'⟩:=l;rw[eg]at e;dsimp only at e;split at e
   .rename_i hm
    subst hm;rcases R.lab b 1000 p' eg with w|⟨q,w⟩
    .exact .inl w
    .exact absurd (Z.wf b 1000 q w) S.ps
   .cases e;exact R.lab b m p eg
 .have rl:∀{m:Nat},m≠1000->∀b p,g b=some (m,p)->(match g b with|some (m,p)=>if m=1000 then some (i,wR f fs::p)else some (m,p)|none=>none)=some (m,p):=λhm b p e=>by rw[e];exact Ã hm
  by_cases hj:j=i
  .subst hj
   rw[è hi]at e;cases e;refine⟨_,hs,?_⟩;rw[ho];have ile:wR f fs<=ds.length:=by have:=YL (f:=f) (fs:=fs);lia
   refine cC.mkI (C:=C) (dx:=dx) (vs:=BJ (wR f fs) v vs) hk ?_ ?_ hC (rl (by exact Ï ‹_›) _ _ a1) (by rw[cJ,KY (by exact Eq.trans ‹_› ‹_›)]) a3 (rl (by exact Ï ‹_›) _ _ b1) (by rw[aZ nda];exact b2) b3 λk d' v' z1 z2=>?_
   .rw[KW,BK,hl]
   .rw[BK,BK,l2]
   .rw[Q8 ile]at z1
    rw[Q8 ∅]at z2;by_cases hk':k=wR f fs
    .subst hk'
     rw[Á rfl]at z1 z2;cases z1;cases z2;rw[hch];have:=cC.relabP (q:=[wR f fs]) (j:=j) (g':=λb=>match g b with|some (m,p)=>if m=1000 then some (j,wR f fs::p)else some (m,p)|none=>none) (λb p e=>by rw[e];exact Á rfl) (cC.updNe (o:=.ins C dx (nT f v (fs.zip vs))) a1 (.inl (by exact ê ‹_›)) oh);rw[Û]at this;exact this
    .rw[Ã hk']at z1 z2
     refine cC.relab (rl (by exact Ï ‹_›)) (cC.updNe a1 (.inr λw=>?_) (hch' k d' v' z1 z2));let⟨t,ht⟩:=w;cases ht
  .rw[Ü (Ö hj)]at e
   let⟨v',e1,o'⟩:=R.slot j d' e;refine⟨v',e1,?_⟩;by_cases hz:ow.getD j 0=0
   .rw[hz]at o'⊢;exact o'
   .have j1:j<1000:=N6 S hz
    exact cC.relab (rl (by exact Ï ‹_›)) (cC.updNe a1 (.inl hj) o')
def iT(i c n:Nat)(nm f:Str)(fe:M D):M Fl:=λδ=>(fe δ).bind λy δ1=>match δ1[i]? with
 |some (some (.dict ((.none,.str m)::À)))=>if m=nm/\ch c (sS f À)=n/\À.length<1000 then .ok .next (δ1.set i (some (.dict ((.none,.str m)::tF f y À))))else .stuck
 |_=>.stuck
def YM{À:List (D×D)}{m:Str}(R:fN K Z ow g F H σ δ)(ho:ow.getD i 0=c)(hk:kd c=2)(hd:δ[i]?=some (some (.dict ((.none,.str m)::À)))):∃(a:Addr)(fs:ZE)(ds:ZG),À=(fs.map PyData.str).zip ds/\fs.length=ds.length/\σ[i]?=some (some (.ref a)):=by
 let⟨v1,w1,o⟩:=R.slot i _ hd;rw[ho]at o;let⟨a',nm',fs',C,dx,ds',vs,d1,ea,l1,_⟩:=o.ins hk;subst ea;let⟨_,ez⟩:=AJ d1;exact⟨a',fs',ds',ez,l1,w1⟩
def BN(i:Nat)(nm:Str){c:Nat}{x:Str}{p pos':Pos}(S:bH Z ow)(hc:Ĕ X.K nm f)(hv:DE X Z ow n e fe)(ho:↥(ow.getD i 0=c))(hk:↥(kd c=2))(hN:↥(X.N[i]?=some x))(hvi:#v[JZ X.env.scope x])(hd:⇑(Zdb x))(hcd:⇑(Zcd x))(hs:↥(swapsWith e (some (.Attribute (.Name x p) f pos')) pos.line X.env=pure false)):NK X Z ow ow ol ox rm (.Assign [.Attribute (.Name x p) f pos'] e pos) (iT i c n nm f fe):=PS.mono (aH0 (iG hN hvi hd hcd) hv hs) λDn σ H h=>by
 let⟨F,δ,R,h⟩:=h;unfold iT at h;refine⟨F,δ,R,?_⟩;cases e1:fe δ with
 |stuck=>rw[e1]at h;exact h.elim
 |ok dv δ1=>
  rw[e1]at h;simp![Res.bind]at h;intro v H1 F1 R1 s1;split at h
  .rename_i m À e0
   split at h
   .rename_i hh
    let⟨rfl,hch,hlt⟩:=hh;let⟨g1,RG,o1⟩:=R1;let⟨a,fs,ds,rfl,l1,w1⟩:=YM RG ho hk e0;rw[BM l1]at hch;let⟨C,dx,vs,l3,hC,hH,R2⟩:=iF.putFld (f:=f) S ⟨g1,RG,o1⟩ ho hk (show δ1[i]?=some (some (eI m fs ds))from e0) l1 w1 hch;let⟨c1,c2⟩:=hc C hC;rw[List.length_zip,Â]at hlt;refine⟨_,w1,a,C,dx,_,rfl,hH,c1,c2,by rw[List.length_zip];lia,?_⟩;rw[FF l1]at h;exact h σ _ F1 R2 s1
   .exact h.elim
  .exact h.elim
end
section
variable{X:Cx}{Z:dQ}{ow ow' ol ox:ZF}{n rm c i:Nat}{pos spos tpos:Pos}{e:Expr}{fe fk fv:M D}{F F' H H':Hp}{σ:St}{δ:DS}{g:ZN}{K:ZC}{nm f:Str}
def AK(i c:Nat)(nm f:Str)(fk fv:M D):M Fl:=λδ=>(fv δ).bind λv δ1=>match δ1[i]?,fk δ1 with
 |some (some (.dict ((.none,.str m)::À))),.ok (.int k) _=>if m=nm/\ch c (sS f À)=1 then (match oU f À with
  |some (.list ds)=>(match mT ds.length k with
   |some j=>.ok .next (δ1.set i (some (.dict ((.none,.str m)::tF f (.list (ds.set j v)) À))))
   |none=>.stuck)
  |_=>.stuck)else .stuck
 |_,_=>.stuck
def YN(C:Addr)(m:Str)(sp:Sp)(E:St->XK)(ta:TE)(t:TA):TE:=λσ H Q=>ta σ H λx H1=>∃a dx fs,x=.ref a/\H1 a=some (.ins C dx fs)/\fs.lookup m=none/\t σ H1 λvs H2=>sp (x::vs) H2 Q (E σ)
def YO{pl:Sem Bool}{o:Expr}{es:List Expr}{m:Str}{apos:Pos}{k:Nat}{fa C:Addr}{fd:FuncData}{pn:ZE}{sp:Sp}{ta:TE}{t:TA}(he:PE X o ta)(c:U9 X.K C)(hm:Ĭ X.K C m fa)(Fk:sP X.prog X.w X.K X.mg X.base (E7 X.prog X.w X.K) k fa fd pn sp)(hr:gN k X.A)(hb:pP X.K fd pn [])(ha:PA X (e::es) t)(hst:↥(Zse e es X.env))(hpl:↥(Zbt pos es X.env))(ht:↥(eval (.Call (.Attribute o m apos) (e::es) [] pos) X.env=(do
   let ov <- eval o X.env
   standAt apos.atName
   let (f,first) <- holding [ov] (getMethod ov m pl)
   callWith pos f first (backTo pos (starEach (e::es) X.env)) (backToKw pos (keywordEach [] X.env))))):
  PE X (.Call (.Attribute o m apos) (e::es) [] pos) (YN C m sp (EX X) ta t):=by
 intro U s σ H Q I h;refine W.methodCall_KW (pl:=pl) (dL (he U s σ H _ I h) λu s1 zQ=>?_) ht;let⟨x,H1,I1,rx,a,dx,fs,ex,ea,l,q⟩:=zQ;subst ex;obtain rfl:u=Value.ref a:=rx;refine NB I1 ea c hm l ?_;refine W.callWith_K (first:=[.ref a]) (h₀:=X.base) I.ok.mod.kin hm.kp (dL (ha pos U s1 σ H1 _ I1 q) λus s2⟨vs,H2,I2,r,q2⟩=>⟨I2.kIn,?_⟩) hst hpl;have r2:b7 (V.ref a::vs) (Value.ref a::us):=.cons rfl r;have hl:(Value.ref a::us).length=pn.length:=by rw[<- r2.length];exact Fk.len _ _ _ _ q2
 have hb':=hb s2 (Value.ref a::us) I2.kIn (by rw[Û];exact hl);rw[Û]at hb';refine wpAny_call (codeAny_mono (Fk.run X.A X.stack s2 H2 ⟨Value.ref a::us,[]⟩ (Value.ref a::us) _ Q (EX X σ) hr I2.env0 hb' r2 q2) λr s' hq=>?_);cases r with
 |error e=>exact hq.elim
 |ok fl=>
  cases fl with
  |ret u=>exact I2.after hq
  |next=>exact False.elim hq
  |brk=>exact False.elim hq
  |cont=>exact False.elim hq
def yZ(i:Nat)(nm m:Str)(fn:ZG->Res D)(as:List Arg):M D:=λδ=>match δ[i]? with
 |some (some (.dict ((.none,.str n)::À)))=>if n=nm/\oU m À=none then aM fn (.own i::as) δ else .stuck
 |_=>.stuck
def TM{m:Str}{fs:ZE}{ds:ZG}{vs:List V}(l1:fs.length=ds.length)(l2:fs.length=vs.length)(h:oU m ((fs.map PyData.str).zip ds)=none):(fs.zip vs).lookup m=none:=by
 rw[BL l1]at h;rw[uA l2];rw[List.getElem?_eq_none_iff]at h⊢;lia
def Ļ(K:ZC)(nm:Str)(C:Addr):Prop:=W.nsIn K mainGlobals nm=some (some (.ref C))/\U9 K C
def YQ{fn:ZG->Res D}{ps owp:ZF}{pn:ZE}{as:List Arg}{m:Str}{C:Addr}{Q:VK}(S:bH Z ow)(hC:Ļ X.K nm C)(ho:kd (ow.getD i 0)=2)(hl:as.length+1=pn.length)(hps:g7 0 (.own i::as)=ps)(nd:decide (bP (.own i::as)).Nodup=true)(hm:fZ owp ow 0 (.own i::as)=true)(hlt:as.length+1<=1000)(h:tD X Z ow rm (yZ i nm m fn as) σ H Q):YN C m (NL X.K pn ps owp rm fn) (EX X) (VH i) (ı X Z ow as) σ H Q:=by
 let⟨F,δ,R,h⟩:=h;unfold yZ at h;split at h
 .rename_i n À e0
  split at h
  .rename_i hh
   let⟨rfl,hg⟩:=hh;let⟨F0,δ0,R0,h0⟩:=A6 (as:=.own i::as) (pn:=pn) (ps:=ps) (owp:=owp) S hl hps nd hm hlt ⟨F,δ,R,h⟩;let⟨g,RG⟩:=R;let⟨v,w1,o⟩:=RG.slot i _ e0;let⟨a,nm',fs,C',dx,ds,vs,d1,rfl,l1,l2,hC',_,hH,_⟩:=o.ins ho;let⟨rfl,rfl⟩:=AJ d1;rw[hC.1]at hC';cases hC';refine⟨_,w1,a,dx,_,rfl,hH,TM l1 (by exact Eq.trans ‹_› ‹_›) hg,F0,δ0,R0,?_⟩;unfold cZ at h0;split at h0
   .cases e1:cZ as δ0 with
    |stuck=>rw[e1]at h0;exact h0.elim
    |ok ods δ1=>
     rw[e1]at h0;exact λus H' F' R' s' z=>h0 (.ref a::us) H' F' R' s' ⟨w1,z⟩
   .exact h0.elim
  .exact h.elim
 .exact h.elim
def aD7(i:Nat){pl:Sem Bool}{x:Str}{p apos:Pos}{es:List Expr}{as:List Arg}{m:Str}{k:Nat}{fa C:Addr}{fd:FuncData}{fn:ZG->Res D}{ps owp:ZF}{pn:ZE}(S:bH Z ow)(hC:Ļ X.K nm C)(hme:Ĭ X.K C m fa)(Fk:sP X.prog X.w X.K X.mg X.base (E7 X.prog X.w X.K) k fa fd pn (NL X.K pn ps owp rm fn))(hr:gN k X.A)(hb:pP X.K fd pn [])(ha:DA X Z ow (e::es) as)(ho:↥(kd (ow.getD i 0)=2))(hl:↥(as.length+1=pn.length))(hps:↥(g7 0 (.own i::as)=ps))(nd:↥(decide (bP (.own i::as)).Nodup=true))(hm:↥(fZ owp ow 0 (.own i::as)=true))(hlt:⇑(as.length+1<=1000))(hN:↥(X.N[i]?=some x))(hvi:#v[JZ X.env.scope x])(hd:⇑(Zdb x))(hcd:⇑(Zcd x))(hst:↥(Zse e es X.env))(hpl:↥(Zbt pos es X.env))(ht:↥(eval (.Call (.Attribute (.Name x p) m apos) (e::es) [] pos) X.env=(do
   let ov <- eval (.Name x p) X.env
   standAt apos.atName
   let (f,first) <- holding [ov] (getMethod ov m pl)
   callWith pos f first (backTo pos (starEach (e::es) X.env)) (backToKw pos (keywordEach [] X.env))))):
  DE X Z ow rm (.Call (.Attribute (.Name x p) m apos) (e::es) [] pos) (yZ i nm m fn as):=PE.mono (YO (pl:=pl) (iG hN hvi hd hcd) hC.2 hme Fk hr hb ha hst hpl ht) λ_ _ _ h=>YQ S hC ho hl hps nd hm hlt h
def YR(C:Addr)(sp:Sp)(E:St->XK)(t:TA):TE:=λσ H Q=>t σ H λvs H1=>∀x dx,H1 x=none->H1 dx=none->dx≠x ->
 sp (.ref x::vs) (eB (eB H1 dx (.own x)) x (.ins C dx [])) (λv H2=>v=.non/\Q (.ref x) H2) (E σ)
def YS{es:List Expr}{x:Str}{p:Pos}{k:Nat}{fa C:Addr}{fd:FuncData}{pn:ZE}{sp:Sp}{t:TA}(M:Mk X.K C fa)(Fk:sP X.prog X.w X.K X.mg X.base (E7 X.prog X.w X.K) k fa fd pn sp)(hr:gN (k+1) X.A)(hg:Gl X x)(hm:X.mg x=some (.ref C))(hb:pP X.K fd pn [])(ha:PA X (e::es) t)(hdb:⇑(Zdb x))(he:↥(Zse e es X.env))(hpl:↥(Zbt pos es X.env)):
  PE X (.Call (.Name x p) (e::es) [] pos) (YR C sp (EX X) t):=by
 intro U s0 σ H0 Q I0 h0;refine wpAny_Call_Name_kw (rZ I0 hg hm ?_ hdb);refine W.callWith_K (h₀:=X.base) I0.ok.mod.kin M.kp (dL (ha pos U s0 σ H0 _ I0 h0) λus s⟨vs,H,I,r,h⟩=>⟨I.kIn,?_⟩) he hpl;have hq:=h (s.heap.objs.size+1) s.heap.objs.size (I.hok.fresh (Nat.le_succ _)) (I.hok.fresh (È _)) (Ï (Nat.lt_succ_self _));have I2:=bM.made (C:=C) I;have r2:b7 (V.ref (s.heap.objs.size+1)::vs) (Value.ref (s.heap.objs.size+1)::us):=.cons rfl r;have hl:(Value.ref (s.heap.objs.size+1)::us).length=pn.length:=by
  have e:=r2.length;rw[Fk.len _ _ _ _ hq]at e;exact e.symm
 have hb':=hb _ (Value.ref (s.heap.objs.size+1)::us) I2.kIn (by rw[Û];exact hl);rw[Û]at hb';refine wpAny_call (VV (f:=fa) I.kIn M.makes M.init (beq_iff_eq.mp M.fn) (codeAny_mono (Fk.run _ X.stack _ _ ⟨Value.ref (s.heap.objs.size+1)::us,[]⟩ (Value.ref (s.heap.objs.size+1)::us) _ _ (EX X σ) (hr.make C us [])
  (I2.env0.make C us []) hb' r2 hq) λr s' hq'=>?_))
 cases r with
 |error e=>exact hq'.elim
 |ok fl=>
  cases fl with
  |ret u=>
   let⟨v,H',I3,rv,ev,q3⟩:=I2.after hq';subst ev;exact⟨rv,⟨V.ref (s.heap.objs.size+1),H',I3,rfl,q3⟩⟩
  |next=>exact False.elim hq'
  |brk=>exact False.elim hq'
  |cont=>exact False.elim hq'
end
section
variable{X:Cx}{Z:dQ}{ow:ZF}{rm c m:Nat}{pos:Pos}{e:Expr}{F F' H H':Hp}{σ:St}{δ:DS}{g:ZN}{K:ZC}{nm:Str}
def vF{c:Nat}{ow:ZF}{i:Nat}(h:i≠ow.length):(ow++[c]).getD i 0=ow.getD i 0:=by
 rw[Ð,Ð];by_cases hl:i<ow.length
 .rw[ã hl]
 .rw[Ú (by rw[Î,í];lia),Ú (by exact å.mp ‹_›)]
def FG{c:Nat}{ow:ZF}:(ow++[c]).getD ow.length 0=c:=by
 rw[Ð,Þ (È _),Nat.sub_self];rfl
def wT{α:Type}{xs:List α}{y:α}{i:Nat}(h:i≠xs.length):(xs++[y])[i]?=xs[i]?:=by
 by_cases hl:i<xs.length
 .rw[ã hl]
 .rw[Ú (by rw[Î,í];lia),Ú (by exact å.mp ‹_›)]
def nZ{α:Type}{xs:List α}{y:α}:(xs++[y])[xs.length]?=some y:=by
 rw[Þ (È _),Nat.sub_self];rfl
def fN.push{x dx C:Addr}(R:fN K Z ow g F H σ δ)(hk:kd c=2)(hC:W.nsIn K mainGlobals nm=some (some (.ref C)))(hx:H x=none)(hdx:H dx=none)(ne:dx≠x)(hm:δ.length=ow.length)(hps:ow.length∉Z.ps):
  eJ K Z (ow++[c]) F (eB (eB H dx (.own x)) x (.ins C dx [])) (σ++[some (.ref x)]) (δ++[some (eI nm [] [])]):=by
 have hsm:σ.length=ow.length:=by rw[<- R.len];exact hm
 have fx:F x=none:=by
  cases e:F x with
  |none=>rfl
  |some u=>rw[R.sub x u e]at hx;cases hx
 have fdx:F dx=none:=by
  cases e:F dx with
  |none=>rfl
  |some u=>rw[R.sub dx u e]at hdx;cases hdx
 have h0:∀a,H a=none->Z.H0 a=none:=λa e=>by
  cases e1:Z.H0 a with
  |none=>rfl
  |some o=>exact absurd e (R.there a (by rw[e1];simp))
 have hk':∀b o,H b=some o->eB (eB H dx (.own x)) x (.ins C dx []) b=some o:=λb o e=>by
  rw[aZ (λz=>by rw[z,hx]at e;cases e),aZ (λz=>by rw[z,hdx]at e;cases e)];exact e
 refine⟨λb=>if b=x then some (ow.length,[])else if b=dx then some (ow.length,[1000])else g b,λb u e=>hk' b u (R.sub b u e),R.f0,λb u n e=>hk' b u (R.kept b u n e),R.new,λb z=>?_,λa i p e=>?_,by rw[Î,Î,R.len];rfl,λi hi=>?_,λi d e=>?_⟩
 .cases e:H b with
  |none=>exact absurd e (R.there b z)
  |some o=>rw[hk' b o e];simp
 .split at e
  .rename_i z;rw[z];exact .inl (h0 x hx)
  .split at e
   .rename_i z;rw[z];exact .inl (h0 dx hdx)
   .exact R.lab a i p e
 .have:i≠ow.length:=λz=>hps (by rw[<- z];exact hi)
  rw[wT ∅,vF this];exact R.par i hi
 .by_cases hi:i=ow.length
  .have e2:(δ++[some (eI nm [] [])])[i]?=some (some (eI nm [] [])):=by rw[hi,<- hm];exact nZ
   rw[e2]at e;cases e;refine⟨.ref x,by rw[hi,<- hsm];exact nZ,?_⟩;rw[hi,FG];exact cC.mkI (C:=C) (dx:=dx) (vs:=[]) hk rfl rfl hC (Á rfl) cJ fx (by rw[Ã ne,Á rfl];rfl) (by rw[aZ ne,cJ]) fdx λk d' v' z1=>by cases z1
  .rw[wT ∅]at e
   let⟨v,e1,o⟩:=R.slot i d e;refine⟨v,by rw[wT ∅];exact e1,?_⟩;rw[vF hi];refine o.keepJ (aW.refl _) λa p u y1 y2 y3=>⟨?_,hk' a u y2,y3⟩;rw[Ã (λz=>by rw[z,hx]at y2;cases y2),Ã (λz=>by rw[z,hdx]at y2;cases y2)];exact y1
def fN.pop{d:D}{v:V}(S:bH Z ow)(R:fN K Z (ow++[c]) g F H (σ++[some v]) (δ++[some d]))(hm:δ.length=ow.length)(hps:ow.length∉Z.ps)(hlt:ow.length<1000):iF K Z ow c d v F H σ δ:=by
 have hsm:σ.length=ow.length:=by have:=R.len;rw[Î,Î]at this;simp at this;lia
 refine⟨λb=>match g b with|some (j,p)=>if j=ow.length then some (1000,p)else if j=1000 then none else some (j,p)|none=>none,⟨R.sub,R.f0,R.kept,R.new,R.there,λa i p e=>?_,∅,λi hi=>?_,λi d' e=>?_⟩,?_⟩
 .cases eg:g a with
  |none=>rw[eg]at e;cases e
  |some l=>
   let⟨j,q⟩:=l;rw[eg]at e;dsimp only at e;split at e
   .rename_i z
    cases e;rcases R.lab a j _ eg with w|⟨q',w⟩
    .exact .inl w
    .exact absurd (Z.wf a j q' w) (by rw[z];exact hps)
   .split at e
    .cases e
    .cases e;exact R.lab a i p eg
 .have:i≠ow.length:=λz=>hps (by rw[<- z];exact hi)
  have q:=R.par i hi;rw[wT ∅,vF this]at q;exact q
 .have hi:i<δ.length:=(Ó.mp e).1
  let⟨v',e1,o⟩:=R.slot i d' (by rw[wT (by exact Ï ‹_›)];exact e);rw[wT ∅]at e1;rw[vF ∅]at o;refine⟨v',e1,o.relab λa p y=>?_⟩;rw[y];dsimp only;rw[Ã ∅,Ã ∅]
 .obtain⟨v',e1,o⟩:=R.slot ow.length d (by rw[<- hm];exact nZ)
  rw[<- hsm,nZ]at e1;cases e1;rw[FG]at o;refine o.relab λa p y=>?_;rw[y];exact Á rfl
def y0(m:Nat)(nm:Str)(fn:ZG->Res D)(as:List Arg):M D:=λδ=>(cZ as δ).bind λods δ1=>if δ1.length=m then (match fO δ1 as ods with
 |some ds=>(match fn (eI nm [] []::ds)with
  |.ok .none [some d]=>.ok d δ1
  |_=>.stuck)
 |none=>.stuck)else .stuck
def BO{δ δ':DS}:∀{as:List Arg}{ods:List (ZJ)},bP as=[]->fO δ as ods=fO δ' as ods
 |[],[],_=>rfl
 |[],_::_,_=>rfl
 |.own i::as,_,h=>by cases h
 |.val f::as,[],_=>rfl
 |.val f::as,none::ods,_=>rfl
 |.val f::as,some d::ods,h=>by unfold fO;rw[BO (δ:=δ) (δ':=δ') (as:=as) h]
def BP{σ σ':St}:∀{as:List Arg}{ods:List (ZJ)}{vs:List V},bP as=[]->u5 K F σ as ods vs->u5 K F σ' as ods vs
 |[],[],[],_,_=>True.intro
 |.own i::as,_,_,h,_=>by cases h
 |.val f::as,some d::ods,v::vs,h,z=>⟨z.1,BP (as:=as) h z.2⟩
def YT{xs:DS}{y z:ZJ}:(xs++[y]).set xs.length z=xs++[z]:=by
 rw[List.set_append_right _ _ (È _),Nat.sub_self];rfl
def YU{fn:ZG->Res D}{owp:ZF}{pn:ZE}{as:List Arg}{C:Addr}{Q:VK}(S:bH Z ow)(hC:Ļ X.K nm C)(hk:kd c=2)(hl:as.length+1=pn.length)(hv:bP as=[])(hm:fZ owp (ow++[c]) 0 (.own ow.length::as)=true)(hlt:as.length+1<=1000)(hps:ow.length∉Z.ps)(hlo:ow.length<1000)(h:tD X Z ow c (y0 ow.length nm fn as) σ H Q):YR C (NL X.K pn [0] owp 0 fn) (EX X) (ı X Z ow as) σ H Q:=by
 let⟨F,δ,R,h⟩:=h;unfold y0 at h;refine⟨F,δ,R,?_⟩;cases e:cZ as δ with
 |stuck=>rw[e]at h;exact h.elim
 |ok ods δ1=>
  rw[e]at h;simp![Res.bind]at h;rintro vs H1 F1 ⟨g1,R1⟩ s1 z x dx hx hdx ne;split at h
  .rename_i hml
   cases e2:fO δ1 as ods with
   |none=>rw[e2]at h;exact h.elim
   |some ds=>
    rw[e2]at h;dsimp only at h;have R2:=R1.push (c:=c) (nm:=nm) hk hC.1 hx hdx ne hml hps;have hsl:σ.length=ow.length:=by rw[<- R1.len];exact hml
    have zA:u5 X.K F1 (σ++[some (.ref x)]) (.own ow.length::as) (none::ods) (.ref x::vs):=⟨by rw[<- hsl];exact nZ,BP hv z⟩;have fA:fO (δ1++[some (eI nm [] [])]) (.own ow.length::as) (none::ods)=some (eI nm [] []::ds):=by
     unfold fO;rw[<- hml,nZ,BO (δ':=δ1) hv,e2]
    have S2:bH Z (ow++[c]):=⟨by rw[Î,í];assumption,S.ps⟩;let⟨m1,m2⟩:=oM hm;have l2:=(nX fA zA).2.1;refine⟨by rw[l2];exact hl,QG S2 R2 zA fA ?_ ?_ (λq i e=>by have:=m1 q i e;rwa [Nat.zero_add]at this) (λq f e=>by have:=m2 q f e;rwa [Nat.zero_add]at this) hlt ?_⟩
    .have:∀(k:Nat)(as:List Arg),bP as=[]->g7 k as=[]:=by
      intro k as
      induction as generalizing k with
      |nil=>intro _;rfl
      |cons a as ih=>
       cases a with
       |own i=>intro h;cases h
       |val f=>intro h;exact ih (k+1) h
     show 0::g7 1 as=[0];rw[this 1 as hv]
    .show (ow.length::bP as).Nodup
     rw[hv];simp
    .have es:bP (.own ow.length::as)=[ow.length]:=by show ow.length::bP as=_;rw[hv]
     rw[es];split at h
     .rename_i d e3
      rw[e3];intro v H' F' R' s';have hv':=R'.rep;unfold cI at hv';subst hv';let⟨g3,R3⟩:=R'.rel;have R3:fN X.K Z (ow++[c]) g3 F' H' (σ++[some (.ref x)]) ((δ1++[some (eI nm [] [])]).set ow.length (some d)):=R3;rw[<- hml,YT]at R3;exact⟨rfl,h _ H' F' (R3.pop S hml hps hlo) (s1.trans' s')⟩
     .exact h.elim
  .exact h.elim
def RA{es:List Expr}{x:Str}{p:Pos}{k:Nat}{fa C:Addr}{fd:FuncData}{fn:ZG->Res D}{owp:ZF}{pn:ZE}{as:List Arg}(m:Nat)(S:bH Z ow)(hC:Ļ X.K x C)(M:Mk X.K C fa)(Fk:sP X.prog X.w X.K X.mg X.base (E7 X.prog X.w X.K) k fa fd pn (NL X.K pn [0] owp 0 fn))(hr:gN (k+1) X.A)(hg:Gl X x)(hmg:X.mg x=some (.ref C))(hb:pP X.K fd pn [])(ha:DA X Z ow (e::es) as)(c:Nat)(hm0:↥(ow.length=m))(hk:↥(kd c=2))(hl:↥(as.length+1=pn.length))(hv:↥(bP as=[]))(hm:↥(fZ owp (ow++[c]) 0 (.own ow.length::as)=true))(hlt:⇑(as.length+1<=1000))(hps:↥(Z.ps.contains ow.length=false))(hlo:⇑(ow.length<1000))(hdb:⇑(Zdb x))(he:↥(Zse e es X.env))(hpl:↥(Zbt pos es X.env)):
  DE X Z ow c (.Call (.Name x p) (e::es) [] pos) (y0 m x fn as):=PE.mono (YS M Fk hr hg hmg hb ha hdb he hpl) λ_ _ _ h=>by subst hm0;exact YU S hC hk hl hv hm hlt (bQ hps) hlo h
end
section
variable{κ:Type}[DecidableEq κ]
def pZ(À:List (κ×V))(k:κ):(Option V):=(À.find? λkv=>decide (kv.1=k)).map (·.2)
def wU(À:List (κ×V))(k:κ)(v:V):(List (κ×V)):=
 if (À.any λkv=>decide (kv.1=k))=true then À.map (λkv=>if kv.1=k then (kv.1,v)else kv)else À++[(k,v)]
def n6{p:κ×V}{r:List (κ×V)}{k:κ}(e:p.1=k):pZ (p::r) k=some p.2:=by simp[pZ,ï,e]
def n8{p:κ×V}{r:List (κ×V)}{k:κ}(e:¬p.1=k):pZ (p::r) k=pZ r k:=by simp[pZ,ï,e]
def KZ(k:κ):∀À:List (κ×V),(À.any λkv=>decide (kv.1=k))=(pZ À k).isSome
 |[]=>rfl
 |p::r=>by
  rw[ó];by_cases e:p.1=k
  .simp![n6 e,decide_eq_true e,Bool.true_or,Option.isSome_some]
  .rw[n8 e,decide_eq_false e,Bool.false_or];exact KZ k r
def y4(À:List (κ×V))(k:κ)(v:V):(wU À k v).length<=À.length+1:=by
 unfold wU;split
 .rw[Â];exact Nat.le_succ _
 .rw[Î,Ë,List.length_nil];exact Nat.lt_succ_self _
def pX.isSome_eq{o:Option V}{u:ZL}(r:pX o u):o.isSome=u.isSome:=by
 cases o with
 |none=>cases u with
  |none=>rfl
  |some _=>exact(show False from r).elim
 |some _=>cases u with
  |none=>exact(show False from r).elim
  |some _=>rfl
def KV.val{À:List (κ×V)}{vs:List (κ×Value)}(r:KV À vs)(k:κ):pX (pZ À k) (valueAt vs k):=by
 unfold KV at r
 induction r with
 |nil=>exact True.intro
 |@cons p q ps qs h t ih=>
  let⟨h1,h2⟩:=h;by_cases e:p.1=k
  .have e':q.1=k:=h1.symm.trans e
   have b:valueAt (q::qs) k=some q.2:=by simp[valueAt,ï,e']
   rw[n6 e,b];exact h2
  .have e':¬q.1=k:=λz=>e (h1.trans z)
   have b:valueAt (q::qs) k=valueAt qs k:=by simp[valueAt,ï,e']
   rw[n8 e,b];exact ih
def KV.any{À:List (κ×V)}{vs:List (κ×Value)}(r:KV À vs)(k:κ):(À.any λkv=>decide (kv.1=k))=vs.any λkv=>decide (kv.1=k):=by
 unfold KV at r
 induction r with
 |nil=>rfl
 |cons h t ih=>rw[ó,ó,ih,h.1]
def KV.repl{À:List (κ×V)}{vs:List (κ×Value)}(r:KV À vs)(k:κ){y:V}{u:Value}(ry:cR y u):
  KV (À.map λkv=>if kv.1=k then (kv.1,y)else kv) (vs.map λkv=>if kv.1=k then (kv.1,u)else kv):=by
 unfold KV at r⊢
 induction r with
 |nil=>exact .nil
 |@cons p q ps qs h t ih=>
  rw[Ê,Ê];refine .cons ?_ ih;let⟨h1,h2⟩:=h;by_cases e:p.1=k
  .rw[Á e,Á (h1.symm.trans e)];exact⟨h1,ry⟩
  .rw[Ã e,Ã (λz=>e (h1.trans z))];exact⟨h1,h2⟩
def KV.put{À:List (κ×V)}{vs:List (κ×Value)}(r:KV À vs)(k:κ){y:V}{u:Value}(ry:cR y u):KV (wU À k y) (stored vs k u):=by
 unfold wU stored;rw[r.any k];by_cases e:(vs.any λkv=>decide (kv.1=k))=true
 .rw[Á e,Á e];exact r.repl k ry
 .rw[Ã e,Ã e];exact Paired.snoc r ⟨rfl,ry⟩
def KV.length{À:List (κ×V)}{vs:List (κ×Value)}(r:KV À vs):À.length=vs.length:=Paired.length r
end
def qH{P:Program}{w:World}{k:eA}{u:Value}(r:cR (kV k) u):(cF P w).is k u=true:=by
 cases k with
 |inl i=>let⟨t,e⟩:=(show ∃t,u=Value.int i t from r);subst e;exact JX P w i t
 |inr x=>let⟨t,e⟩:=(show ∃t,u=Value.str x t from r);subst e;exact JY P w x t
def FH{P:Program}{w:World}:∀{ks:List eA}{us:ZH},b7 (ks.map kV) us->ItemsAre (cF P w) ks us
 |[]=>by intro r;rw[List.map_nil]at r;cases r;exact .nil
 |k::ks=>by
  intro r;rw[Ê]at r;cases r with
  |cons h t=>exact .cons (qH h) (FH t)
abbrev KT(H:Hp):List (List eA×V)->List (List eA×Addr×Value)->Prop:=Paired λp q=>p.1=q.1/\H q.2.1=some (.tup (p.1.map kV))/\cR p.2 q.2.2
def KT.val{H:Hp}{À:List (List eA×V)}{xs:List (List eA×Addr×Value)}(r:KT H À xs)(k:List eA):pX (pZ À k) ((atKey xs k).map (·.2)):=by
 induction r with
 |nil=>exact True.intro
 |@cons p q ps qs h t ih=>
  let⟨h1,_,h2⟩:=h;by_cases e:p.1=k
  .have e':q.1=k:=h1.symm.trans e
   have b:atKey (q::qs) k=some q.2:=by simp[atKey,ï,e']
   rw[n6 e,b];exact h2
  .have e':¬q.1=k:=λz=>e (h1.trans z)
   have b:atKey (q::qs) k=atKey qs k:=by simp[atKey,ï,e']
   rw[n8 e,b];exact ih
def KT.repl{H:Hp}{À:List (List eA×V)}{xs:List (List eA×Addr×Value)}(r:KT H À xs)(k:List eA){y:V}{u:Value}(ry:cR y u):
  KT H (À.map λkv=>if kv.1=k then (kv.1,y)else kv) (xs.map (putAt k u)):=by
 induction r with
 |nil=>exact .nil
 |@cons p q ps qs h t ih=>
  rw[Ê,Ê];refine .cons ?_ ih;let⟨h1,h2,h3⟩:=h;unfold putAt;by_cases e:p.1=k
  .rw[Á e,Á (h1.symm.trans e)];exact⟨h1,h2,ry⟩
  .rw[Ã e,Ã (λz=>e (h1.trans z))];exact⟨h1,h2,h3⟩
def KT.put{H:Hp}{À:List (List eA×V)}{xs:List (List eA×Addr×Value)}(r:KT H À xs)(k:List eA){b:Addr}{y:V}{u:Value}(hb:H b=some (.tup (k.map kV)))(ry:cR y u):
  KT H (wU À k y) (storedH xs k b u):=by
 have e:(À.any λkv=>decide (kv.1=k))=(atKey xs k).isSome:=by
  rw[KZ,(r.val k).isSome_eq,Option.isSome_map]
 unfold wU storedH;rw[e];by_cases q:(atKey xs k).isSome=true
 .rw[Á q,Á q];exact r.repl k ry
 .rw[Ã q,Ã q];exact Paired.snoc r ⟨rfl,hb,ry⟩
def KT.keeps{H H':Hp}{À:List (List eA×V)}{xs:List (List eA×Addr×Value)}(r:KT H À xs)(ht:∀b ys,H b=some (.tup ys)->H' b=some (.tup ys)):KT H' À xs:=
 Paired.mapP r λ_ _ z=>⟨z.1,ht _ _ z.2.1,z.2.2⟩
section
variable{P:Program}{w:World}{H:Hp}{h:Heap}{a:Addr}
def ϖ{u:HO}(ok:sO P w H h)(e:Rd H a u):fX P w H h a u:=e.ok ok
def K0{À:List (eA×V)}(ok:sO P w H h)(e:Rd H a (.dK À)):À.length<=sizeLine/\(a == sysModules)=false/\∃vs,KV À vs/\h.DictOf (cF P w) a vs:=
 show fX P w H h a (.dK À)from ϖ ok e
def aMO{À:List (eA×V)}(ok:sO P w H h)(e:H a=some (.dK À)):À.length<=sizeLine/\(a == sysModules)=false/\∃vs,KV À vs/\h.DictOf (cF P w) a vs:=K0 ok (.inl e)
def BQ{ks:List eA}(ok:sO P w H h)(e:H a=some (.tup (ks.map kV))):(tupleKind (cF P w)).is h ks a:=by
 let⟨_,its,r,o,h1,h2,n,h3⟩:=(show fX P w H h a (.tup (ks.map kV))from ok a _ e);exact⟨o,its.toArray,n,h1,h2,h3,by simpa using FH r⟩
def K2{À:List (List eA×V)}(ok:sO P w H h)(e:Rd H a (.dT À)):À.length<=sizeLine/\(a == sysModules)=false /\
  ∃xs,KT H À xs/\h.DictOfH (tupleKind (cF P w)) a xs:=by
 let⟨z,y,xs,r,o,es,ep,h1,h2,h3,h4,h5⟩:=(show fX P w H h a (.dT À)from ϖ ok e);refine⟨z,y,xs,r,o,es,ep,h1,h2,h3,h4,λx hx=>?_,h5⟩;have all:∀{l:List (List eA×V)}{m:List (List eA×Addr×Value)},KT H l m->∀x∈m,(tupleKind (cF P w)).is h x.1 x.2.1:=by
  intro l m q
  induction q with
  |nil=>intro x hx;exact nomatch hx
  |@cons p q ps qs hq t ih=>
   intro x hx;rcases Å.mp hx with e|hx
   .subst e
    exact BQ ok (by rw[<- hq.1];exact hq.2.1)
   .exact ih x hx
 exact all r x hx
def aMP{À:List (List eA×V)}(ok:sO P w H h)(e:H a=some (.dT À)):À.length<=sizeLine/\(a == sysModules)=false /\
  ∃xs,KT H À xs/\h.DictOfH (tupleKind (cF P w)) a xs:=K2 ok (.inl e)
end
def zN(H:Hp)(a:Addr)(y:V)(r:Option V):Prop:=
 (∃À k,Rd H a (.dK À)/\y=kV k/\r=pZ À k)\/∃À k b,Rd H a (.dT À)/\y=.ref b/\H b=some (.tup (k.map kV))/\r=pZ À k
def YV(H:Hp)(a:Addr)(y v:V)(H':Hp):Prop:=
 (∃À k,H a=some (.dK À)/\y=kV k/\À.length<sizeLine/\H'=eB H a (.dK (wU À k v))) \/
 ∃À k b,H a=some (.dT À)/\y=.ref b/\H b=some (.tup (k.map kV))/\À.length<sizeLine/\H'=eB H a (.dT (wU À k v))
def zN.k{H:Hp}{a:Addr}{À:List (eA×V)}{k:eA}(e:H a=some (.dK À)):zN H a (kV k) (pZ À k):=.inl ⟨À,k,.inl e,rfl,rfl⟩
def YV.k{H:Hp}{a:Addr}{À:List (eA×V)}{k:eA}{v:V}(e:H a=some (.dK À))(hl:À.length<sizeLine):YV H a (kV k) v (eB H a (.dK (wU À k v))):=.inl ⟨À,k,e,rfl,hl,rfl⟩
section
variable{X:Cx}{U:ZB}{σ:St}{H:Hp}{s:Shared}{a:Addr}{y v:V}{u r:Value}{o:Option V}{A:Around}{E:ZA}
def bM.big(I:bM X U σ H s):sysModules<s.heap.objs.size:=by
 have h:mainGlobals<s.heap.objs.size:=(I.mod.glob.keeps I.bk).lt;exact Nat.lt_trans ⋯ h
def TN{Q:ZA}(hu:A.units+1<cLine)(I:bM X U σ H s)(g:zN H a y (some v))(ry:cR y u)(h:∀w' s',bM X U σ H s'->cR v w'->Q w' s'):
  wpAny (model X.prog X.w) A (getItem (.ref a) u) Q E s:=by
 rcases g with ⟨À,k,e,ey,l⟩|⟨À,k,b,e,ey,eb,l⟩
 .subst ey
  let⟨z,hd,vs,rel,dd⟩:=K0 I.hok e;let⟨w',hw,rw'⟩:=pX.some_of (v:=v) (o:=valueAt vs k) (by rw[l];exact rel.val k);exact wpAny_getItem_of (qH ry) dd.mapOf hw (h w' _ (I.tok _) rw')
 .subst ey
  cases (show u=Value.ref b from ry);let⟨z,hd,xs,rel,dd⟩:=K2 I.hok e;let⟨w',hw,rw'⟩:=pX.some_of (v:=v) (o:=(atKey xs k).map (·.2)) (by rw[l];exact rel.val k);let⟨p,hp,hp2⟩:=Option.map_eq_some_iff.mp hw;refine wpAny_getItem_heap (tupleKind_room_in1 hu) (BQ I.hok eb) dd hp ?_;rw[hp2];exact h w' _ (I.tok _) rw'
def aOX{Q:ZA}(hu:A.units+1<cLine)(I:bM X U σ H s)(g:zN H a y o)(ry:cR y u)(h:∀s',bM X U σ H s'->Q (.bool o.isSome) s'):
  wpAny (model X.prog X.w) A (compareOp .In u (.ref a)) Q E s:=by
 rcases g with ⟨À,k,e,ey,l⟩|⟨À,k,b,e,ey,eb,l⟩
 .subst ey
  let⟨z,hd,vs,rel,dd⟩:=K0 I.hok e;refine wpAny_in_of (qH ry) hd dd.mapOf ?_;rw[<- (rel.val k).isSome_eq,<- l];exact h _ (I.tok _)
 .subst ey
  cases (show u=Value.ref b from ry);let⟨z,hd,xs,rel,dd⟩:=K2 I.hok e;refine wpAny_in_heap (tupleKind_room_in1 hu) (BQ I.hok eb) hd dd ?_;have q:=(rel.val k).isSome_eq;rw[Option.isSome_map]at q;rw[<- q,<- l];exact h _ (I.tok _)
def aD8{Q:ZA}(hu:A.units+1<cLine)(I:bM X U σ H s)(g:zN H a y o)(ry:cR y u)(h:∀s',bM X U σ H s'->Q (.bool (!o.isSome)) s'):
  wpAny (model X.prog X.w) A (compareOp .NotIn u (.ref a)) Q E s:=by
 rcases g with ⟨À,k,e,ey,l⟩|⟨À,k,b,e,ey,eb,l⟩
 .subst ey
  let⟨z,hd,vs,rel,dd⟩:=K0 I.hok e;refine wpAny_notIn_of (qH ry) hd dd.mapOf ?_;rw[<- (rel.val k).isSome_eq,<- l];exact h _ (I.tok _)
 .subst ey
  cases (show u=Value.ref b from ry);let⟨z,hd,xs,rel,dd⟩:=K2 I.hok e;refine wpAny_notIn_heap (tupleKind_room_in1 hu) (BQ I.hok eb) hd dd ?_;have q:=(rel.val k).isSome_eq;rw[Option.isSome_map]at q;rw[<- q,<- l];exact h _ (I.tok _)
def RB{h':Heap}{t':Nat}{ob:HO}(I:bM X U σ H s)(mu:Ĝ (H a))(hs:Heap.SameBut a s.heap h')(he:∃q,h'.get? a=some q)(new:fX X.prog X.w (eB H a ob) h' a ob):
  bM X U σ (eB H a ob) {s with heap:=h',toks:=t'}:=
 I.write (x:=a) (e:=a) mu (.inl rfl) (λb q hb z=>(hs.2 b hb).trans z) he new
def aJE{P:Program}{w:World}{H':Hp}{h':Heap}{À:List (eA×V)}{vs:List (eA×Value)}(z:À.length<=sizeLine)(hd:(a == sysModules)=false)(rel:KV À vs)(dd:h'.DictOf (cF P w) a vs):
  fX P w H' h' a (.dK À):=⟨z,hd,vs,rel,dd⟩
def TQ{H':Hp}{Q:Unit->Shared->Prop}(hu:A.units+1<cLine)(I:bM X U σ H s)(g:YV H a y v H')(ry:cR y u)(rv:cR v r)(h:∀s',bM X U σ H' s'->Q () s'):
  wpAny (model X.prog X.w) A (setItem (.ref a) u r) Q E s:=by
 rcases g with ⟨À,k,e,ey,l,eH⟩|⟨À,k,b,e,ey,eb,l,eH⟩
 .subst ey eH
  let⟨z,hd,vs,rel,dd⟩:=aMO I.hok e;have hz:vs.length<=sizeLine:=by rw[<- rel.length];exact z
  have hl:(wU À k v).length<=sizeLine:=by have:=y4 À k v;exact Ñ ‹_› ‹_›
  refine wpAny_setItem_pairs (hsz:=hz) (qH ry) dd λh' dd' hs=>h _ ?_;have he:∃q,h'.get? a=some q:=let ⟨q,_,_,hq,_⟩:=dd';⟨q,hq⟩
  exact RB I (by rw[e];exact True.intro) hs he (aJE hl hd (rel.put k rv) dd')
 .subst ey eH
  cases (show u=Value.ref b from ry);let⟨z,hd,xs,rel,dd⟩:=aMP I.hok e;have hz:xs.length<=sizeLine:=by rw[<- Paired.length rel];exact z
  have hl:(wU À k v).length<=sizeLine:=by have:=y4 À k v;exact Ñ ‹_› ‹_›
  refine wpAny_setItem_heap (hsz:=hz) (tupleKind_room_in1 hu) (BQ I.hok eb) dd λh' dd' hs=>h _ ?_;let⟨q,es,ep,hq,h2,h3,h4,_,h5⟩:=dd';refine RB I (by rw[e];exact True.intro) hs ⟨q,hq⟩ ⟨hl,hd,_,(rel.put k eb rv).keeps λc ys ec=>?_,q,es,ep,hq,h2,h3,h4,h5⟩;rw[aZ (aKV ec e (λz=>nomatch z))];exact ec
end
section
variable{X:Cx}{U:ZB}{σ:St}{H:Hp}{s:Shared}{a:Addr}{À:List (eA×V)}{k:eA}{u:Value}{A:Around}{E:ZA}
end
def K3(i:Expr):Prop:=∀ov iv,subscripted i false ov iv=operate [ov,iv] (getItem ov iv)
def HL{prog:Program}{w:World}{A:Around}{E:ZA}{s:Shared}{env:Env}{value slice:Expr}{pos:Pos}{T id:String}{Q:ZA}(hl:typeLookup (.type T) "__getitem__"=pure (some (.builtin id)))(hs:K3 slice)(h:wpAny (model prog w) A (eval value env) (λo s₁=>wpAny (model prog w) A (eval slice env) (λi s₂=>s₂.TypeIs o T/\wpAny (model prog w) A (getItem o i) Q E s₂) E s₁) E s):
  wpAny (model prog w) A (eval (.Subscript value slice pos) env) Q E s:=by
 refine Subscript_ (wpAny_mono h (λo s₁ h₁=>wpAny_mono h₁ (λi s₂ h₂=>?_) λ_ _ x=>x) λ_ _ x=>x);let⟨hT,h₂⟩:=h₂;unfold subscriptTail;refine wpAny_bind ?_;rw[getitemInPython_of_ne hT.not_modules];refine wpAny_bind (wpAny_specialOf hT hl ?_);have fin:wpAny (model prog w) A (subscripted slice false o i) (λr s₃=>wpAny (model prog w) A (letTemporaryGo value o r >>= λ_=>pure r) Q E s₃) E s₂:=by
  rw[hs o i];exact wpAny_operating (wpAny_mono h₂ (λr s₃ h₃=>wpAny_bind (wpAny_letTemporaryGo (wpAny_pure h₃))) λ_ _ x=>x)
 first
  |exact wpAny_pure (wpAny_bind fin)
  |exact wpAny_bind (wpAny_pure (wpAny_bind fin))
  |exact wpAny_bind fin
def K4{X:Cx}{U:ZB}{σ:St}{H:Hp}{s:Shared}{a:Addr}{y:V}{o:Option V}(I:bM X U σ H s)(g:zN H a y o):s.TypeIs (.ref a) "dict":=by
 rcases g with ⟨À,k,e,_,_⟩|⟨À,k,b,e,_,_,_⟩
 .obtain⟨_,_,vs,_,dd⟩:=K0 I.hok e
  exact dd.typeIs
 .obtain⟨_,_,xs,_,dd⟩:=K2 I.hok e
  exact dd.typeIs
def aMQ(td ty:TE):TE:=λσ H Q=>td σ H λx H1=>ty σ H1 λy H2=>∃a v,x=.ref a/\zN H2 a y (some v)/\Q v H2
def aOY(ty td:TE):TE:=λσ H Q=>ty σ H λy H1=>td σ H1 λx H2=>∃a o,x=.ref a/\zN H2 a y o/\Q (.bl o.isSome) H2
def aD9(ty td:TE):TE:=λσ H Q=>ty σ H λy H1=>td σ H1 λx H2=>∃a o,x=.ref a/\zN H2 a y o/\Q (.bl (!o.isSome)) H2
def aMR(td ty tv:TE):TS:=λD σ H=>tv σ H λv H1=>td σ H1 λx H2=>ty σ H2 λy H3=>∃a H4,x=.ref a/\YV H3 a y v H4/\D.nx σ H4
section
variable{X:Cx}{o i e value:Expr}{pos pos' tpos:Pos}{td ty tv:TE}
def aEA(hu:X.A.units+1<cLine)(ho:PE X o td)(hi:PE X i ty)(hs:K3 i):PE X (.Subscript o i pos) (aMQ td ty):=by
 intro U s σ H Q I h;refine HL PySem.F.slot_dict_getitem.lookup hs (dL (ho U s σ H _ I h) λu s1⟨x,H1,I1,rx,q1⟩=>dL (hi U s1 σ H1 _ I1 q1) λiv s2 zQ=>?_);let⟨y,H2,I2,ry,a,v,ex,g,q2⟩:=zQ;subst ex;obtain rfl:u=Value.ref a:=rx;exact⟨K4 I2 g,TN hu I2 g ry λw' s3 I3 rw'=>⟨v,H2,I3,rw',q2⟩⟩
def aJF(hu:X.A.units+1<cLine)(hi:PE X i ty)(ho:PE X o td):PC X .In i o (aOY ty td):=by
 intro U s σ H Q I h;refine dL (hi U s σ H _ I h) λiv s1⟨y,H1,I1,ry,q1⟩=>dL (ho U s1 σ H1 _ I1 q1) λu s2 zQ=>?_;let⟨x,H2,I2,rx,a,ov,ex,g,q2⟩:=zQ;subst ex;obtain rfl:u=Value.ref a:=rx;exact aOX hu I2 g ry λs3 I3=>⟨.bl ov.isSome,H2,I3,rfl,q2⟩
def TR(hu:X.A.units+1<cLine)(hi:PE X i ty)(ho:PE X o td):PC X .NotIn i o (aD9 ty td):=by
 intro U s σ H Q I h;refine dL (hi U s σ H _ I h) λiv s1⟨y,H1,I1,ry,q1⟩=>dL (ho U s1 σ H1 _ I1 q1) λu s2 zQ=>?_;let⟨x,H2,I2,rx,a,ov,ex,g,q2⟩:=zQ;subst ex;obtain rfl:u=Value.ref a:=rx;exact aD8 hu I2 g ry λs3 I3=>⟨.bl (!ov.isSome),H2,I3,rfl,q2⟩
def aEB(hu:X.A.units+1<cLine)(ho:PE X o td)(hi:PE X i ty)(hv:PE X value tv)(hs:swapsWith value (some (.Subscript o i pos')) pos.line X.env=pure false):
  PS X (.Assign [.Subscript o i pos'] value pos) (aMR td ty tv):=by
 intro U s σ H D I h;refine wpAny_Assign_Subscript (dL (hv U s σ H _ I h) λr s1⟨v,H1,I1,rv,q1⟩=>dL (ho U s1 σ H1 _ I1 q1) λu s2⟨x,H2,I2,rx,q2⟩=>dL (hi U s2 σ H2 _ I2 q2) λiv s3 zQ=>?_) hs;let⟨y,H3,I3,ry,a,H4,ex,g,q3⟩:=zQ;subst ex;obtain rfl:u=Value.ref a:=rx;exact TQ hu I3 g ry rv λs4 I4=>⟨σ,H4,I4,q3⟩
end
def YW{P:Program}{w:World}{H:Hp}(h:Heap)(hb:sysModules<h.objs.size):fX P w H (h.push {cls:=.type "dict",data:=.dict #[]}) h.objs.size (.dK []):=
 ⟨î _,beq_eq_false_iff_ne.mpr (Ö (Ï hb)),[],.nil,Heap.DictOf.new h⟩
def aJG:TE:=λ_ H Q=>∀p,H p=none->Q (.ref p) (eB H p (.dK []))
section
variable{X:Cx}{pos:Pos}
def YX:PE X (.Dict [] [] pos) aJG:=λU s σ H Q I h=>
 wpAny_Dict_empty ⟨.ref s.heap.objs.size,_,I.laid (a:=s.heap.objs.size) (o:=.dK []) (t':=s.toks) (λ_ _ q=>Heap.get?_push_of_some _ q) (È _) (YW s.heap I.big),rfl,h _ (I.hok.fresh (È _))⟩
end
section
variable{X:Cx}{U:ZB}{σ:St}{H:Hp}{s:Shared}{a:Addr}{y d:V}{u r:Value}{o:Option V}{A:Around}{E:ZA}
end
section
variable{X:Cx}{o e f:Expr}{apos cpos:Pos}{td ty tx:TE}
end
section
variable{X:Cx}{U:ZB}{σ:St}{H:Hp}{s:Shared}{a:Addr}{À:List (eA×V)}{A:Around}{E:ZA}
end
section
variable{X:Cx}{U:ZB}{σ:St}{H:Hp}{s:Shared}{a:Addr}{y:V}{u:Value}{A:Around}{E:ZA}
end
def eX:D->Option eA
 |.int i=>some (.inl i)
 |.str x=>some (.inr x)
 |_=>none
def vG(k:eA):eX (J9 k)=some k:=by cases k<;>rfl
def N7(k:eA)(ms:List eA):(List eA):=if (ms.any λm=>decide (m=k))=true then ms else ms++[k]
def HM{α:Type}(k:eA)(y:α)(ms:List eA)(xs:List α):(List α):=if (ms.any λm=>decide (m=k))=true then (ms.zip xs).map (λp=>if p.1=k then y else p.2)else xs++[y]
def TU(k:eA)(y:D)(À:List (D×D)):(List (D×D)):=
 if (À.any λkv=>decide (eX kv.1=some k))=true then À.map (λkv=>if eX kv.1=some k then (kv.1,y)else kv)else À++[(J9 k,y)]
def kH(k:eA)(À:List (D×D)):ZJ:=(À.find? λkv=>decide (eX kv.1=some k)).map Prod.snd
def RC{α:Type}{k:eA}:∀{ms:List eA}{xs:List α},ms.length=xs.length->((ms.zip xs).any λkv=>decide (kv.1=k))=ms.any λm=>decide (m=k)
 |[],[],_=>rfl
 |m::ms,x::xs,h=>by rw[Ù,ó,ó,RC (by simpa using h)]
def K5{k:eA}:∀{ms:List eA}{xs:ZG},ms.length=xs.length->(((ms.map J9).zip xs).any λkv=>decide (eX kv.1=some k))=ms.any λm=>decide (m=k)
 |[],[],_=>rfl
 |m::ms,x::xs,h=>by
  rw[Ê,Ù,ó,ó,K5 (by simpa using h)];dsimp only;rw[vG]
  grind
def RD{α:Type}{k:eA}{y:α}:∀{ms:List eA}{xs:List α},ms.length=xs.length->(ms.zip xs).map (λkv=>if kv.1=k then (kv.1,y)else kv)=ms.zip ((ms.zip xs).map (λp=>if p.1=k then y else p.2))
 |[],[],_=>rfl
 |m::ms,x::xs,h=>by
  rw[Ù,Ê,Ê,Ù,RD (by simpa using h)];congr 1;dsimp only;split<;>rfl
def K6{k:eA}{y:D}:∀{ms:List eA}{xs:ZG},ms.length=xs.length->((ms.map J9).zip xs).map (λkv=>if eX kv.1=some k then (kv.1,y)else kv)=(ms.map J9).zip ((ms.zip xs).map (λp=>if p.1=k then y else p.2))
 |[],[],_=>rfl
 |m::ms,x::xs,h=>by
  rw[Ê,Ù,Ù,Ê,Ê,Ù,K6 (by simpa using h)];congr 1;dsimp only;rw[vG]
  grind
def YY{α:Type}{k:eA}{y:α}{ms:List eA}{xs:List α}(h:ms.length=xs.length):(N7 k ms).length=(HM k y ms xs).length:=by
 unfold N7 HM;split
 .rw[Â,List.length_zip];lia
 .rw[Î,Î,h];rfl
def YZ{k:eA}{y:V}{ms:List eA}{xs:List V}(h:ms.length=xs.length):wU (ms.zip xs) k y=(N7 k ms).zip (HM k y ms xs):=by
 unfold wU N7 HM;rw[RC h];split
 .exact RD h
 .rw[List.zip_append h];rfl
def Y0{k:eA}{y:D}{ms:List eA}{xs:ZG}(h:ms.length=xs.length):TU k y ((ms.map J9).zip xs)=((N7 k ms).map J9).zip (HM k y ms xs):=by
 unfold TU N7 HM;rw[K5 h];split
 .exact K6 h
 .rw[Ø,List.zip_append (by rw[Â];exact h)];rfl
def FI{K:ZC}{F:Hp}{k:eA}:∀{ms:List eA}{ds:ZG}{vs:List V},ms.length=ds.length->aJ K F ds vs->(kH k ((ms.map J9).zip ds)=none/\pZ (ms.zip vs) k=none)\/∃d v,kH k ((ms.map J9).zip ds)=some d/\pZ (ms.zip vs) k=some v/\cI K F d v
 |[],[],vs,_,_=>.inl ⟨rfl,rfl⟩
 |m::ms,d::ds,vs,h,r=>by
  unfold aJ at r;let⟨x,t,rfl,hx,ht⟩:=r;rw[Ê,Ù,Ù];by_cases e:m=k
  .refine .inr ⟨d,x,?_,?_,hx⟩
   .unfold kH
    rw[ï,decide_eq_true (by dsimp only;rw[vG,e])]
    rfl
   .exact n6 e
  .have ih:=FI (k:=k) (ms:=ms) (by simpa using h) ht
   have e1:kH k ((J9 m,d)::(ms.map J9).zip ds)=kH k ((ms.map J9).zip ds):=by
    unfold kH;rw[ï,decide_eq_false (by dsimp only;rw[vG];exact λz=>e (Option.some.inj z))]
   rw[e1,n8 (by exact e)];exact ih
def ϗ{K:ZC}{F:Hp}{k:eA}{d:D}{v:V}:∀{ms:List eA}{ds:ZG}{vs:List V},ms.length=ds.length->aJ K F ds vs->cI K F d v->aJ K F ((ms.zip ds).map (λp=>if p.1=k then d else p.2)) ((ms.zip vs).map (λp=>if p.1=k then v else p.2))
 |[],[],vs,_,r,_=>by unfold aJ at r;subst r;exact mU
 |m::ms,d'::ds,vs,h,r,hd=>by
  unfold aJ at r;let⟨x,t,rfl,hx,ht⟩:=r;rw[Ù,Ù,Ê,Ê];refine jS ?_ (ϗ (by simpa using h) ht hd);dsimp only;split
  .exact hd
  .exact hx
def aEC{K:ZC}{F:Hp}{k:eA}{d:D}{v:V}{ms:List eA}{ds:ZG}{vs:List V}(h:ms.length=ds.length)(r:aJ K F ds vs)(hd:cI K F d v):aJ K F (HM k d ms ds) (HM k v ms vs):=by
 unfold HM;split
 .exact ϗ h r hd
 .exact r.app (jS hd mU)
section
variable{X:Cx}{Z:dQ}{ow ow' ol ox:ZF}{n rm c i:Nat}{pos spos tpos:Pos}{e:Expr}{fe fk fv:M D}{F F' H H':Hp}{σ:St}{δ:DS}{g:ZN}{K:ZC}
def cC.dct{i:Nat}{p:ZF}{d:D}{v:V}(h:cC K F H g i 30 p d v):
  ∃a ms ds vs,d=qA ms ds/\v=.ref a/\ms.length=ds.length/\ds.length=vs.length/\g a=some (i,p)/\H a=some (.dK (ms.zip vs))/\F a=none/\aJ K F ds vs:=by
 let⟨ds,vs,cs,nd,hc,hl,r⟩:=cC.open (c:=29) h;let⟨a,ms,h1,h2,h3,rfl⟩:=nd;let⟨a1,a2,a3⟩:=hc _ (ç.mpr rfl);exact⟨a,ms,ds,vs,h1,h2,h3,hl,by simpa using a1,a2,a3,aJ.of hl λk d' v' q1 q2=>r k d' v' q1 q2⟩
def cC.mkD{i:Nat}{p:ZF}{a:Addr}{ms:List eA}{ds:ZG}{vs:List V}(h3:ms.length=ds.length)(a1:g a=some (i,p))(a2:H a=some (.dK (ms.zip vs)))(a3:F a=none)(r:aJ K F ds vs):cC K F H g i 30 p (qA ms ds) (.ref a):=by
 refine cC.shut (c:=29) (ds:=ds) (vs:=vs) (cs:=[(a,[],.dK (ms.zip vs))]) ⟨a,ms,rfl,rfl,h3,rfl⟩ (λx hx=>?_) r.len λk d' v' q1 q2=>r.both k d' v' q1 q2;rw[ç.mp hx];exact⟨by simpa using a1,a2,a3⟩
def eJ.newDict{p:Addr}(S:bH Z ow)(R:eJ K Z ow F H σ δ)(hp:H p=none):iF K Z ow 30 (qA [] []) (.ref p) F (eB H p (.dK [])) σ δ:=by
 have fp:=R.fnone hp;let⟨g,R⟩:=R;have z:Z.H0 p=none:=by
  cases e:Z.H0 p with
  |none=>rfl
  |some u=>exact absurd hp (R.there p (by rw[e];simp))
 refine⟨λb=>if b=p then some (1000,[])else đ g 1000 b,⟨R.sub.trans' (dP hp _),R.f0,λb u n e=>?_,R.new,λb h=>?_,λa i q e=>?_,R.len,R.par,λi d e=>?_⟩,?_⟩
 .have:b≠p:=λq=>by rw[q,z]at e;cases e
  rw[aZ this];exact R.kept b u n e
 .have:b≠p:=λq=>h (by rw[q,z])
  rw[aZ this];exact R.there b h
 .split at e
  .rename_i q;rw[q];exact .inl z
  .exact R.lab a i q (NJ e).1
 .obtain⟨v,e1,o⟩:=R.slot i d e
  refine⟨v,e1,?_⟩;by_cases hi:ow.getD i 0=0
  .rw[hi]at o⊢;exact o
  .have hi':i<1000:=N6 S hi
   refine o.keepJ (λ_ _ z=>z) λa q u e1 e2 e3=>?_;have:a≠p:=λz=>by rw[z,hp]at e2;cases e2
   exact⟨by rw[Ã this];exact NI (by show i≠1000;exact Ï ‹_›) e1,by rw[aZ this];exact e2,e3⟩
 .exact cC.mkD (ms:=[]) (vs:=[]) rfl (Á rfl) cJ fp mU
def AL(S:bH Z ow):DE X Z ow 30 (.Dict [] [] pos) (dC (qA [] [])):=PE.mono YX λσ H Q q=>by
 let⟨F,δ,R,q⟩:=q;exact λp hp=>q _ _ F (R.newDict S hp) (aW.refl _)
def fN.rewriteD{ms ms':List eA}{ds ds':ZG}{vs':List V}{a:Addr}(R:fN K Z ow g F H σ δ)(ho:ow.getD i 0=30)(hd:δ[i]?=some (some (qA ms ds)))(hs:σ[i]?=some (some (.ref a)))(hl:ms'.length=ds'.length)(hr:aJ K F ds' vs'):
  fN K Z ow g F (eB H a (.dK (ms'.zip vs'))) σ (δ.set i (some (qA ms' ds'))):=by
 let⟨v,e1,o⟩:=R.slot i _ hd;rw[hs]at e1;cases e1;rw[ho]at o;let⟨a',ms0,ds0,vs0,q1,q2,q3,q4,q5,q6,q7,q8⟩:=o.dct;cases q2;have hi:i<δ.length:=(Ó.mp hd).1;refine⟨λb u e=>?_,R.f0,λb u n e=>?_,R.new,λb z=>?_,R.lab,by rw[à];exact R.len,R.par,λj d e=>?_⟩
 .have:b≠a:=λz=>by rw[z,q7]at e;cases e
  rw[aZ this];exact R.sub b u e
 .have:b≠a:=λz=>by
   subst z;rcases R.lab b i [] q5 with w|⟨q,w⟩
   all_goals grind
  rw[aZ this];exact R.kept b u n e
 .by_cases hb:b=a
  .subst hb;rw[cJ];simp
  .rw[aZ hb];exact R.there b z
 .by_cases hj:j=i
  .subst hj
   rw[è hi]at e;cases e;refine⟨_,hs,?_⟩;rw[ho];exact cC.mkD hl q5 cJ q7 hr
  .rw[Ü (Ö hj)]at e
   let⟨v,e1,o⟩:=R.slot j d e;exact⟨v,e1,cC.updNe q5 (.inl hj) o⟩
def tG(i:Nat)(fk fv:M D):M Fl:=λδ=>(fv δ).bind λv δ1=>match δ1[i]? with
 |some (some _)=>(fk δ1).bind λk δ2=>(match δ2[i]?,eX k with
  |some (some (.dict À)),some ky=>if À.length<sizeLine then .ok .next (δ2.set i (some (.dict (TU ky v À))))else .stuck
  |_,_=>.stuck)
 |_=>.stuck
def RE{k:D}{y:V}{ky:eA}(h:eX k=some ky)(r:cI K F k y):y=kV ky:=by
 cases k with
 |int i=>cases h;unfold cI at r;exact r
 |str x=>cases h;unfold cI at r;exact r
 |_=>cases h
def aJH{À:List (D×D)}{ms:List eA}{ds:ZG}(h:(PyData.dict À:D)=qA ms ds):À=(ms.map J9).zip ds:=by
 unfold qA at h;injection h
def vH(i:Nat){x:Str}{p:Pos}{ek ev:Expr}(hu:X.A.units+64<cLine)(hv:DE X Z ow 0 ev fv)(hk:DE X Z ow 0 ek fk)(ho:↥(ow.getD i 0=30))(hN:↥(X.N[i]?=some x))(hvi:#v[JZ X.env.scope x])(hd:⇑(Zdb x))(hcd:⇑(Zcd x))(hs:↥(swapsWith ev (some (.Subscript (.Name x p) ek tpos)) spos.line X.env=pure false)):
  NK X Z ow ow ol ox rm (.Assign [.Subscript (.Name x p) ek tpos] ev spos) (tG i fk fv):=PS.mono (aEB ∅ (iG hN hvi hd hcd) hk hv hs) λDn σ H h=>by
 let⟨F,δ,R,h⟩:=h;unfold tG at h;refine⟨F,δ,R,?_⟩;cases e:fv δ with
 |stuck=>rw[e]at h;exact h.elim
 |ok dv δ1=>
  rw[e]at h;simp![Res.bind]at h;intro v H1 F1 R1 s1;cases e0:δ1[i]? with
  |none=>rw[e0]at h;exact h.elim
  |some o=>
   cases o with
   |none=>rw[e0]at h;exact h.elim
   |some d0=>
    rw[e0]at h;dsimp only at h;let⟨g0,R0⟩:=R1.rel;let⟨v0,w0,o0⟩:=R0.slot i _ e0;rw[ho]at o0;let⟨a,ms0,ds0,vs0,_,q2,_⟩:=o0.dct;subst q2;refine⟨_,w0,F1,δ1,R1.rel,?_⟩;cases e1:fk δ1 with
    |stuck=>rw[e1]at h;exact h.elim
    |ok dk δ2=>
     rw[e1]at h;dsimp only at h;intro kv H2 F2 R2 s2;let⟨g2,RG,ok2⟩:=R2;have ok2:cI X.K F2 dk kv:=ok2;split at h
     .rename_i À ky e2 e3
      split at h
      .rename_i hlt
       let⟨v1,w1,o1⟩:=RG.slot i _ e2;rw[ho]at o1;let⟨a',ms,ds,vs,d1,q2,l1,l2,_,hH,_,hr⟩:=o1.dct;rw[w0]at w1;cases w1;cases q2;obtain rfl:=aJH d1;obtain rfl:=RE e3 ok2;rw[List.length_zip,Â]at hlt;refine⟨a,_,rfl,YV.k hH (by rw[List.length_zip];lia),?_⟩;rw[YZ (by grind)];rw[Y0 l1]at h;have R3:=RG.rewriteD (ms':=N7 ky ms) ho (show δ2[i]?=some (some (qA ms ds))from e2) w0 (YY l1) (aEC (k:=ky) l1 hr (s2.rep _ _ R1.rep));exact h σ _ F2 ⟨g2,R3⟩ (s1.trans' s2)
      .exact h.elim
     .exact h.elim
def Y1(fx fk fz:M D):M D:=λδ=>(fx δ).bind λx δ1=>match x with
 |.dict À=>if (À.all λkv=>(eX kv.1).isSome)=true then (fk δ1).bind λk δ2=>(fz δ2).bind λz δ3=>(match eX k with
  |some ky=>.ok ((kH ky À).getD z) δ3
  |none=>.stuck)else .stuck
 |_=>.stuck
def aED{À:List (D×D)}{v:V}(h:cI K F (.dict À) v)(ha:(À.all λkv=>(eX kv.1).isSome)=true):∃(a:Addr)(ms:List eA)(ds:ZG)(vs:List V),À=(ms.map J9).zip ds/\ms.length=ds.length/\v=.ref a/\F a=some (.dK (ms.zip vs))/\aJ K F ds vs:=by
 unfold cI at h;let⟨a,xs,rfl,hh,hr⟩:=h;rcases hh with ⟨nm,fs,C,dx,vs,h1,h2,_⟩|⟨ms,h1,h2,h3⟩
 .exfalso
  cases À with
  |nil=>cases h2
  |cons kv À=>
   rw[Ê]at h2;injection h2 with h2 _;rw[List.all_cons,h2]at ha;cases ha
 .have hl:ms.length=(À.map Prod.snd).length:=by rw[<- Â (f:=J9),<- h1,Â,Â]
  refine⟨a,ms,À.map Prod.snd,xs,?_,hl,rfl,h3,hr.all⟩;rw[<- h1];clear h1 hl h3 hr h2 ha
  induction À with
  |nil=>rfl
  |cons kv À ih=>grind
end
section
variable{X:Cx}{Z:dQ}{ow:ZF}{n m:Nat}{pos:Pos}{e:Expr}{es:List Expr}{f:M D}{fs:List (M D)}{F F' H H':Hp}{σ:St}{δ δ':DS}{g g':ZN}{K:ZC}{cf:Nat->Nat}
def dU:List (M D)->M (ZG)
 |[],δ=>.ok [] δ
 |f::fs,δ=>match f δ with
  |.ok d δ1=>(match dU fs δ1 with
   |.ok ds δ2=>.ok (d::ds) δ2
   |_=>.stuck)
  |_=>.stuck
def Ϙ(fs:List (M D)):M D:=λδ=>(dU fs δ).bind λds δ1=>if ds.length<=sizeLine then .ok (.tuple ds) δ1 else .stuck
end
section
variable{X:Cx}{Z:dQ}{ow ow' ol ox:ZF}{n rm m i j:Nat}{pos spos:Pos}{e:Expr}{F F' H H':Hp}{σ:St}{δ:DS}{g:ZN}{K:ZC}
end
end L2
namespace L2
open PySem PySem.Spec
section
variable{δ:DS}{fs:List (M D)}{Q:D->ZM}{ow:ZF}{i:Nat}{fk fl:M D}{op:ZG->ZG->Option (D×ZG)}{N B C:ZM}{R:D->ZM}
def ϙ:∀{fs:List (M D)}{δ:DS}{Q:ZG->ZM},bJ (dU fs) δ Q=bJ (bO fs) δ Q
 |[],_,_=>rfl
 |f::fs,δ,Q=>by
  rw[HH];unfold bJ;rw[dU];cases e:f δ with
  |stuck=>rfl
  |ok a d=>
   dsimp only;have:=ϙ (fs:=fs) (δ:=d) (Q:=λds δ2=>Q (a::ds) δ2);unfold bJ at this;rw[<- this];cases dU fs d<;>rfl
def aJI:bJ (Ϙ fs) δ Q=bJ (bO fs) δ λds δ1=>ds.length<=sizeLine/\Q (.tuple ds) δ1:=by
 rw[<- ϙ];unfold bJ Ϙ;cases dU fs δ with
 |stuck=>rfl
 |ok a d=>
  simp![Res.bind];by_cases h:a.length<=sizeLine
  .rw[Á h];simp[h]
  .rw[Ã h];simp[h]
end
end L2
namespace L2
open PySem PySem.Spec PyProof.Rows
section
variable{X:Cx}{a b:Expr}{ta:TA}{p pos:Pos}
end
section
variable{X:Cx}{Z:dQ}{ow:ZF}{a b:Expr}{f g:M D}{p p2 p3 pos:Pos}
def Y2(fs:List (M D)):M D:=λδ=>(bO fs δ).bind λds δ1=>match GY ds with
 |some (lo,n)=>if n<=sizeLine then .ok (.list (zL lo n)) δ1 else .stuck
 |none=>.stuck
end
structure cM(K:ZC)(mg:ZD)(base:Heap):Prop where
 bm:∃bm ob,mg "__builtins__"=some (.ref bm)/\bm≠builtinsNs/\base.get? bm=some ob/\ob.cls=.type "module"/\ob.dict=some builtinsNs/\ob.data=.plain
 cd:∀c P pos,pQ K=some (c,P,pos)->W.CodeHd base c P
section
variable{X:Cx}{U:ZB}{σ:St}{H H':Hp}{s:Shared}
end
abbrev N8(pos:Pos):HO:=.lam (rawInt pos.line) (rawInt pos.col) İ
abbrev aOZ(pos:Pos)(c':Addr):Obj:=W.tabObj #[rawInt pos.line,rawInt pos.col,.ref c']
structure ļ(X:Cx)(U:ZB)(σ:St)(H:Hp)(P:Addr)(pos:Pos)(fo:Obj)(f c':Addr)(H':Hp)(s':Shared):Prop where
 inv:bM X U σ H' s'
 same:aW H H'
 fn:s'.heap.get? f=some fo
 un:H' f=none
 loc:f≠X.env.locals
 nf:f∉X.fs
 cd:s'.heap.CodeRec (.ref c') İ
 own:H' c'=some (.own P)
 ne:c'≠P
 tb:s'.heap.get? P=some (aOZ pos c')
 lm:H' P=some (N8 pos)
section
variable{X:Cx}{U:ZB}{σ:St}{H:Hp}{s:Shared}{params:Arguments}{body:Expr}{scope:Scope}{pos:Pos}{c P:Addr}{clos:List (Str×Addr)}
end
abbrev lamE(scope:Scope)(x:Str)(cc:Addr)(s:Shared)(f c':Addr):Env:=W.envX İ scope s.heap.objs.size f (.ref c') [(x,cc)]
section
variable{X:Cx}{U:ZB}{σ:St}{H:Hp}{s:Shared}{params:Arguments}{body:Expr}{scope:Scope}{p x:Str}{cc f c':Addr}
end
def RF{α:Type}:Option (α×Int)->List (α×Int)->Option (α×Int)
 |o,[]=>o
 |none,y::ys=>RF (some y) ys
 |some m,y::ys=>RF (some (if y.2<m.2 then y else m)) ys
section
variable{X:Cx}{U:ZB}{σ:St}{H0:Hp}{q l IA S:Addr}{dv:Value}{R:Result->Shared->Prop}
end
def HN(hs:ZI):ZI->Option (ZI)
 |[]=>some []
 |n::ns=>match atI hs n,HN hs ns with
  |some k,some ks=>some (k::ks)
  |_,_=>none
def HP(i:Nat)(nm fld:Str)(f:M D):M D:=λδ=>(f δ).bind λd δ1=>match d,δ1[i]? with
 |.list ds,some (some t)=>(match Ţ nm fld t with
  |some (.list hs)=>(match fD hs,fD ds with
   |some hs',some ns=>(match HN hs' ns with
    |some ks=>.ok ((RF none (ns.zip ks)).elim .none λm=>.int m.1) δ1
    |none=>.stuck)
   |_,_=>.stuck)
  |_=>.stuck)
 |_,_=>.stuck
section
variable{X:Cx}{Z:dQ}{ow:ZF}{e:Expr}{f:M D}{params:Arguments}{scope:Scope}{pos:Pos}{c P cc:Addr}{p x fld:Str}
end
def N9{K:ZC}{H:Hp}{a:Addr}{ns:ZI}{owp:ZF}{f:ZG->Res D}{x:Str}(hS:gM K H a (ns.map V.int))(hf:f [.list (ns.map .int)]=.ok (.bool true) [])(hL:õ K H)(h0:↥(owp.getD 0 0=0)):
  NL K [x] [] owp 0 f [.ref a] H (λv H'=>v=.bl true/\aW H H') (λ_ _ _=>False):=by
 refine⟨rfl,H,λ_=>none,[.list (ns.map .int)],hL,aW.refl _,rfl,λa i p e=>(by cases e),λi d v e1 e2=>?_,by rw[hf];exact λv H' F' g' T=>⟨E8 (F:=F') (K:=K) T.ret,λb o e=>T.kept b o rfl e⟩⟩
 cases i with
 |zero=>
  cases e1;cases e2;rw[h0];show cI K H _ _;unfold cI;refine⟨a,ns.map V.int,rfl,hS,?_⟩;clear hS hf
  induction ns with
  |nil=>exact mU
  |cons n ns ih=>exact jS kF ih
 |succ i=>simp at e1
def TV{P:Program}{w:World}{K:ZC}{mg mb:ZD}{CX:SY}{k:Nat}{fa a:Addr}{fd:FuncData}{x:Str}{sp:Sp}{s₁:Shared}{vs:ZH}{ns:ZI}{c PT:Addr}{pos:Pos}(KX:K.In s₁.heap)(hns:s₁.heap.Ns mainGlobals mg)(hb:s₁.heap.Ns builtinsNs mb)(hbb:∀x:Str,x≠"__name__"->mb x=bootBuiltins x)(hlim:s₁.heap.NoLimit)(hg:s₁.gens=#[])(ha:s₁.heap.get? a=some {cls:=.type "list",data:=.seq vs.toArray})(hi:IntsAre vs ns)(hl:ns.length<=sizeLine)(hr:gN k callerA)(hlam:pQ K=some (c,PT,pos))(hcd:W.CodeHd s₁.heap c PT)(hPT:s₁.heap.get? PT=some (W.tabObj #[]))(hnt:W.noTabs K=true)(hbm:∃bm ob,mg "__builtins__"=some (.ref bm)/\bm≠builtinsNs/\s₁.heap.get? bm=some ob/\ob.cls=.type "module"/\ob.dict=some builtinsNs/\ob.data=.plain)(F:∀base:Heap,K.In base->base.Ns mainGlobals mg->cM K mg base->sP P w K mg base CX k fa fd [x] sp)(hbind:∀(s:Shared)(u:Value),BindsTo s fd ⟨[u],[]⟩ [(x,u)])(hsp:∀H:Hp,õ K H->gM K H a (ns.map V.int)->sp [.ref a] H (λv H'=>v=.bl true/\aW H H') λ_ _ _=>False)(hCX:∀H e s',CX [] H s₁ (λ_ _ _=>False) e s'->False):
  codeAny (model P w) callerA (.call (.ref fa) ⟨[.ref a],[]⟩) (λr s'=>r=.ok (.ret (.bool true))/\OldK s₁.heap s'.heap/\s'.os=s₁.os/\AllBare s'.gens) s₁:=by
 have rv:=E1 hi;have lenV:=hi.length;have haP:a≠PT:=λz=>by rw[z,hPT]at ha;cases ha
 have hKP:K.lookup PT=none:=by
  cases q:K.lookup PT with
  |none=>rfl
  |some o=>
   have e:=KX PT o q;rw[hPT]at e;cases e;have h2:=ß.mp hnt (PT,_) (W.mem_of_lookupK q);exact absurd (show false=true from h2) Ý
 have core:∀H:Hp,H PT=some (N8 pos)->gM K H a (ns.map V.int)->sO P w H s₁.heap->(∀b u,H b=some u->(b=PT/\u=N8 pos)\/(b=a/\u=.frz {cls:=.type "list",data:=.seq vs.toArray} (.lst (ns.map V.int))/\K.lookup a=none)) ->
   codeAny (model P w) callerA (.call (.ref fa) ⟨[.ref a],[]⟩) (λr s'=>r=.ok (.ret (.bool true))/\OldK s₁.heap s'.heap/\s'.os=s₁.os/\AllBare s'.gens) s₁:=by
  intro H hO hS hok hA;have base_of:∀{b:Addr}{o:Obj},s₁.heap.get? b=some o->H b=none->(DR s₁.heap H).get? b=some o:=λe n=>VG e n;have noA:∀{b:Addr}{o:Obj},s₁.heap.get? b=some o->(∀z,o.data≠.seq z 0)->o.cls≠.none->H b=none:=λ{b o}e d d2=>by
   cases q:H b with
   |none=>rfl
   |some u=>
    rcases hA b u q with ⟨rfl,_⟩|⟨rfl,_⟩
    .rw[hPT]at e;cases e;exact absurd rfl d2
    .rw[ha]at e;cases e;exact absurd rfl (d vs.toArray)
  have nsK:∀{b:Addr}{m:ZD},s₁.heap.Ns b m->(DR s₁.heap H).Ns b m:=λ{b m}⟨o,es,ep,e,d,r⟩=>⟨o,es,ep,base_of e (by
   cases q:H b with
   |none=>rfl
   |some u=>
    rcases hA b u q with ⟨rfl,_⟩|⟨rfl,_⟩
    .rw[hPT]at e;cases e;cases d
    .rw[ha]at e;cases e;cases d),d,r⟩
  have hKb:K.In (DR s₁.heap H):=λb o e=>base_of (KX b o e) (by
   cases q:H b with
   |none=>rfl
   |some u=>
    rcases hA b u q with ⟨rfl,_⟩|⟨rfl,_,z⟩
    .rw[hKP]at e;cases e
    .rw[z]at e;cases e)
  have hM:Mod K mg (DR s₁.heap H):=⟨hKb,nsK hns,⟨mb,nsK hb,hbb⟩,let ⟨mc,h1,h2⟩:=hlim;⟨mc,nsK h1,h2⟩⟩
  have hB:cM K mg (DR s₁.heap H):=by
   refine⟨?_,λc2 P2 pos2 e=>?_⟩
   .obtain⟨bm,ob,b1,b2,b3,b4,b5,b6⟩:=hbm
    exact⟨bm,ob,b1,b2,base_of b3 (noA b3 (λz=>by rw[b6];simp) (by rw[b4];simp)),b4,b5,b6⟩
   .rw[hlam]at e;cases e
    let⟨o,vs,file,tf,flags,tg,inF,wV,tt,e1,e2,e3,r⟩:=hcd;exact⟨o,vs,file,tf,flags,tg,inF,wV,tt,base_of e1 (noA e1 (λz=>by rw[e3];simp) (by rw[e2];simp)),e2,e3,r⟩
  have e0:J7 P w K mg (DR s₁.heap H) callerA [] s₁ H:=⟨rfl,hM,λb o e=>aCF e,Nat.le_of_eq (SR _ _),trivial,λb hb=>absurd (show b∈([]:ZK)from hb) (by simp),hok,.of_eq hg⟩;have hLm:õ K H:=λc2 P2 pos2 e=>by rw[hlam]at e;cases e;exact hO
  refine codeAny_mono ((F _ hKb (nsK hns) hB).run callerA [] s₁ H ⟨[.ref a],[]⟩ [.ref a] [.ref a] _ _ hr e0 (hbind s₁ (.ref a)) (.cons rfl .nil) (hsp H hLm hS)) λr s' h=>?_;cases r with
  |error e=>exact(hCX H e s' h).elim
  |ok fl=>
   cases fl with
   |next=>exact False.elim h
   |brk=>exact False.elim h
   |cont=>exact False.elim h
   |ret u=>
    let⟨v,H',os,bare,un,hok',r',q⟩:=h;let⟨q',sm⟩:=q;subst q';obtain rfl:u=Value.bool true:=r';refine⟨rfl,⟨λb o e=>?_,λb o e=>un.there b o e (by simp)⟩,os,bare⟩;cases q:H b with
    |none=>exact .inl (un.keep b o e q (by intro z;exact absurd (show b∈([]:ZK)from z) (by simp)) (by simp))
    |some u=>
     rcases hA b u q with ⟨rfl,rfl⟩|⟨rfl,rfl,_⟩
     .rw[hPT]at e;cases e
      let⟨ps,e1,_⟩:=hok' _ _ (sm _ _ q);exact .inr (.inl ⟨(hcd.tab hPT).isCodeTable,rfl,#[],ps,rfl,by rw[e1];simp⟩)
     .obtain⟨e2,_⟩:=hok' _ _ (sm _ _ q)
      rw[ha]at e;cases e;exact .inl e2
 cases hk:K.lookup a with
 |some o=>
  have e:=KX a o hk;rw[ha]at e;cases e;refine core (λb=>if b=PT then some (N8 pos)else none) (Á rfl) (.inr ⟨_,vs.toArray,_,hk,rfl,rfl,rfl,by rw[â,lenV];exact hl,by simpa using rv⟩) (λb u z=>?_) λb u z=>?_
  .by_cases hb:b=PT
   .have z':=(Á hb).symm.trans z
    cases z';subst hb;exact⟨_,hPT,.inl rfl⟩
   .have z':=(Ã hb).symm.trans z
    cases z'
  .by_cases hb:b=PT
   .have z':=(Á hb).symm.trans z
    cases z';exact .inl ⟨hb,rfl⟩
   .have z':=(Ã hb).symm.trans z
    cases z'
 |none=>
  have eq1:∀b u,(if b=PT then some (N8 pos)else if b=a then some (HO.frz {cls:=.type "list",data:=.seq vs.toArray} (.lst (ns.map V.int)))else none)=some u->(b=PT/\u=N8 pos)\/(b=a/\u=.frz {cls:=.type "list",data:=.seq vs.toArray} (.lst (ns.map V.int))):=λb u z=>by
   split at z
   .rename_i h;cases z;exact .inl ⟨h,rfl⟩
   .split at z
    .rename_i h;cases z;exact .inr ⟨h,rfl⟩
    .cases z
  refine core (λb=>if b=PT then some (N8 pos)else if b=a then some (.frz {cls:=.type "list",data:=.seq vs.toArray} (.lst (ns.map V.int)))else none) (Á rfl) (.inl (.inr ⟨{cls:=.type "list",data:=.seq vs.toArray},by dsimp only;rw[Ã haP,Á rfl]⟩)) (λb u z=>?_) λb u z=>?_
  .rcases eq1 b u z with ⟨rfl,rfl⟩|⟨rfl,rfl⟩
   .exact⟨_,hPT,.inl rfl⟩
   .exact⟨ha,by rw[Â];exact hl,vs,_,rv,ha⟩
  .rcases eq1 b u z with h|⟨h1,h2⟩
   .exact .inl h
   .exact .inr ⟨h1,h2,hk⟩
def TW{K:ZC}{c P:Addr}{pos:Pos}(h:pQ K=some (c,P,pos)):W.tabIn K qB=some (c,P):=by
 unfold pQ at h;split at h
 .split at h
  .split at h
   .rename_i e
    split at h
    .cases h;exact e
    .cases h
   .cases h
  .cases h
 .cases h
def walk_ofL{l:W.OpenLaw}{n k:Nat}{q:Program}{loose:ZE}{XP:(ZD)->Heap->Prop}{YP:World->Heap->Prop}{d dl:DefRec}{K:Params->ZC}{CX:World->SY}{sp:World->Sp}{x:Str}(hn:l.most=some n)(hn2:n<=sizeLine)(hdf:d.params.defaults=[])(hr:gN k callerA)(hY:∀(w:World)(h:Heap),YP w h->(K w.params).In h)(hrec:(recsOf q).find? (λe=>e.name == qB)=some dl)(F:∀(w:World)(mg:ZD)(fa:Addr)(h:Heap),(K w.params).In h->h.Ns mainGlobals mg->mg d.name=some (.ref fa) ->
   (W.noTabs (K w.params)=true/\∃c P pos,pQ (K w.params)=some (c,P,pos))/\∃fd:FuncData,(∀(s:Shared)(u:Value),BindsTo s fd ⟨[u],[]⟩ [(x,u)]) /\
    ∀base:Heap,(K w.params).In base->base.Ns mainGlobals mg->cM (K w.params) mg base->sP l.prog w (K w.params) mg base (CX w) k fa fd [x] (sp w))(hsp:∀(w:World)(H:Hp)(a:Addr)(ns:ZI),ns.length<=n->õ (K w.params) H->gM (K w.params) H a (ns.map V.int)->sp w [.ref a] H (λv H'=>v=.bl true/\aW H H') λ_ _ _=>False)(hCX:∀(w:World)(H:Hp)(s:Shared)(e:Value)(s':Shared),CX w [] H s (λ_ _ _=>False) e s'->False):
  W.WalkO q loose XP YP l.row.toRowW d [] (λf vs=>PySem.call f vs):=by
 refine Att.attach_call hn hdf λw s₀ s₁ mg mb fa o pm cd doc a vs ns G Y ho hd hcd hmg hobj hints hlen hg=>?_;have KX:=hY w _ Y;let⟨⟨hnt,c,P,pos,hlam⟩,fd,hb,hF⟩:=F w mg fa _ KX G.T.g hmg;let⟨t1,t2⟩:=W.tab_of G.T KX hrec (TW hlam);exact TV KX G.T.g G.T.b G.T.builtins G.T.nolimit hg hobj hints (Ñ hlen hn2) hr hlam t1 t2 hnt G.T.bmain hF hb (λH hO hS=>hsp w H a ns hlen hO hS) λH e s'=>hCX w H s₁ e s'
def Y3(s:Stmt)(k:Nat):Stmt:=match s with
 |.ClassDef _ _ _ b _ _ _ _ _ _ _=>b.getD k (.Pass ⟨0,0,0,0⟩)
 |s=>s
def HQ{K:ZC}{nm f:Str}{C:Addr}(n:W.nsIn K mainGlobals nm=some (some (.ref C)))(c:U9 K C)(h:oG K C f):Ĕ K nm f:=λC' e=>by
 rw[n]at e;cases e;exact⟨c,h⟩
def Y4{K:ZC}{f c P:Addr}{pos:Pos}{fd:FuncData}{oc:Value}{od:Option Addr}{sl:Array (ZL)}{b:List Stmt}(a:W.nsIn K mainGlobals qB=some (some (.ref f)))(l:K.lookup f=some ⟨oc,od,.func fd,sl⟩)(hb:fd.body=.stmts b)(t:W.tabIn K qB=some (c,P))(hp:GV b=some pos):pQ K=some (c,P,pos):=by
 unfold pQ;rw[a];dsimp only;rw[l];dsimp only;rw[hb,t];dsimp only;rw[hp]
def Y5{K:ZC}{x:Str}{f c P:Addr}{fd:FuncData}{oc coc:Value}{od cod:Option Addr}{sl csl:Array (ZL)}{cvs:Array Value}(a:W.nsIn K mainGlobals x=some (some (.ref f)))(l:K.lookup f=some ⟨oc,od,.func fd,sl⟩)(e:fd.code=.ref c)(lk:K.lookup c=some ⟨coc,cod,.fields cvs,csl⟩)(lv:(cvs[11]?:ZL)=some (.ref P)):W.tabIn K x=some (c,P):=by
 unfold W.tabIn;rw[a];dsimp only;rw[l];dsimp only;rw[e];dsimp only;rw[lk];dsimp only;rw[lv]
def Y6{K:ZC}{f c P:Addr}{pos:Pos}{x q:Str}{st:Stmt}{fd:FuncData}{coc:Value}{cod:Option Addr}{csl:Array (ZL)}{cvs:Array Value}(a:W.nsIn K mainGlobals qB=some (some (.ref f)))(F:VA K x q st f fd)(e:fd.code=.ref c)(lk:K.lookup c=some ⟨coc,cod,.fields cvs,csl⟩)(lv:(cvs[11]?:ZL)=some (.ref P))(hp:GV (fH st)=some pos):pQ K=some (c,P,pos):=by
 let⟨oc,od,kV,doc,pm,an,cdv,ct,osl,e1,l,_⟩:=F.ex;exact Y4 a l (by rw[e1]) (Y5 a l e lk lv) hp
end L2
namespace L2
open PySem PySem.Spec
def BR(c:Nat)(nm f:Str):D->ZJ
 |.dict ((.none,.str n)::À)=>if n=nm/\ch c (sS f À)=0 then oU f À else none
 |_=>none
def vI(c n:Nat)(nm f:Str)(y:D):D->ZJ
 |.dict ((.none,.str m)::À)=>if m=nm/\ch c (sS f À)=n/\À.length<1000 then some (.dict ((.none,.str m)::tF f y À))else none
 |_=>none
def RH(c:Nat)(nm f:Str)(k v:D):D->ZJ
 |.dict ((.none,.str m)::À)=>if m=nm/\ch c (sS f À)=1 then (match oU f À,k with
  |some (.list ds),.int k=>(match mT ds.length k with
   |some j=>some (.dict ((.none,.str m)::tF f (.list (ds.set j v)) À))
   |none=>none)
  |_,_=>none)else none
 |_=>none
def y6(nm m:Str):D->Prop
 |.dict ((.none,.str n)::À)=>n=nm/\oU m À=none
 |_=>False
def K7(o:Option (ZG))(nm:Str)(fn:ZG->Res D)(δ:DS)(Q:D->ZM)(_w:Wt Q:=⟨⟩):Prop:=∃ds d,o=some ds/\fn (eI nm [] []::ds)=.ok .none [some d]/\Q d δ
def BS(k v:D):D->ZJ
 |.dict À=>(match eX k with
  |some ky=>if À.length<sizeLine then some (.dict (TU ky v À))else none
  |none=>none)
 |_=>none
def dctD':D->Bool
 |.dict À=>À.all λkv=>(eX kv.1).isSome
 |_=>false
def Y7(x k z:D):ZJ:=match x with
 |.dict À=>(match eX k with
  |some ky=>some ((kH ky À).getD z)
  |none=>none)
 |_=>none
def RI(nm fld:Str)(d t:D):ZJ:=match d with
 |.list ds=>(match Ţ nm fld t with
  |some (.list hs)=>(match fD hs,fD ds with
   |some hs',some ns=>(match HN hs' ns with
    |some ks=>some ((RF none (ns.zip ks)).elim .none λm=>.int m.1)
    |none=>none)
   |_,_=>none)
  |_=>none)
 |_=>none
def ţ(ds:ZG):ZJ:=match GY ds with
 |some (lo,n)=>if n<=sizeLine then some (.list (zL lo n))else none
 |none=>none
section
variable{i c n m0:Nat}{nm f m:Str}{δ:DS}{Q:D->ZM}{N B C:ZM}{R:D->ZM}{fe fk fv fx fz:M D}{fn:ZG->Res D}{as:List Arg}{fs:List (M D)}
def aEF:gS i c nm f δ=(match δ[i]? with
 |some (some d)=>(match BR c nm f d with
  |some r=>Res.ok r δ
  |none=>.stuck)
 |_=>.stuck):=by
 unfold gS;cases δ[i]? with
 |none=>rfl
 |some o=>
  cases o with
  |none=>rfl
  |some d=>
   cases d<;>try rfl
   rename_i À;cases À with
   |nil=>rfl
   |cons kv À=>
    let⟨k,v⟩:=kv;cases k<;>try rfl
    cases v<;>try rfl
    rename_i x;show _=(match (if x=nm/\ch c (sS f À)=0 then oU f À else none)with|some r=>Res.ok r δ|none=>.stuck);dsimp only;by_cases h:x=nm/\ch c (sS f À)=0
    .rw[Á h,Á h]
     try (cases oU f À<;>rfl)
    .rw[Ã h,Ã h]
def uB:bJ (gS i c nm f) δ Q=d9 δ[i]? δ λd δ=>mG (BR c nm f d) δ Q:=by
 unfold bJ d9 mG;rw[aEF];cases δ[i]? with
 |none=>rfl
 |some o=>
  cases o with
  |none=>rfl
  |some d=>
   dsimp only;cases BR c nm f d with
   |none=>rfl
   |some r=>rfl
def aEG:iT i c n nm f fe δ=(fe δ).bind λy δ1=>(match δ1[i]? with
 |some (some d)=>(match vI c n nm f y d with
  |some r=>Res.ok Fl.next (δ1.set i (some r))
  |none=>.stuck)
 |_=>.stuck):=by
 unfold iT;congr 1;funext y δ1;cases δ1[i]? with
 |none=>rfl
 |some o=>
  cases o with
  |none=>rfl
  |some d=>
   cases d<;>try rfl
   rename_i À;cases À with
   |nil=>rfl
   |cons kv À=>
    let⟨k,v⟩:=kv;cases k<;>try rfl
    cases v<;>try rfl
    rename_i x;show _=(match (if x=nm/\ch c (sS f À)=n/\À.length<1000 then some (PyData.dict ((.none,.str x)::tF f y À))else none)with|some r=>Res.ok Fl.next (δ1.set i (some r))|none=>.stuck);dsimp only;by_cases h:x=nm/\ch c (sS f À)=n/\À.length<1000
    .rw[Á h,Á h]
    .rw[Ã h,Ã h]
def BT:cQ (iT i c n nm f fe) δ N B C R=bJ fe δ λy δ1=>d9 δ1[i]? δ1 λd δ1=>mG (vI c n nm f y d) δ1 λd' δ1=>N (δ1.set i (some d')):=by
 unfold cQ bJ d9 mG;rw[aEG];cases fe δ with
 |stuck=>rfl
 |ok y δ1=>
  dsimp![Res.bind];cases δ1[i]? with
  |none=>rfl
  |some o=>
   cases o with
   |none=>rfl
   |some d=>
    dsimp only;cases vI c n nm f y d with
    |none=>rfl
    |some r=>rfl
def aEH:AK i c nm f fk fv δ=(fv δ).bind λv δ1=>(match fk δ1 with
 |.ok k _=>(match δ1[i]? with
  |some (some d)=>(match RH c nm f k v d with
   |some r=>Res.ok Fl.next (δ1.set i (some r))
   |none=>.stuck)
  |_=>.stuck)
 |_=>.stuck):=by
 unfold AK;congr 1;funext v δ1;have dead:∀(o:Option (ZJ))(rk:Res D),(∀k dd,rk≠.ok k dd)->(match o,rk with
  |some (some (.dict ((.none,.str m)::À))),.ok (.int k) _=>if m=nm/\ch c (sS f À)=1 then (match oU f À with
   |some (.list ds)=>(match mT ds.length k with
    |some j=>Res.ok Fl.next (δ1.set i (some (.dict ((.none,.str m)::tF f (.list (ds.set j v)) À))))
    |none=>.stuck)
   |_=>.stuck)else .stuck
  |_,_=>(Res.stuck:Res Fl))=.stuck:=λo rk h=>by
  split
  .exact absurd rfl (h _ _)
  .rfl
 cases e:fk δ1 with
 |stuck=>exact dead _ _ (λ_ _ z=>by cases z)
 |ok kk dd=>
  cases δ1[i]? with
  |none=>rfl
  |some o=>
   cases o with
   |none=>rfl
   |some d=>
    cases d<;>try rfl
    rename_i À;cases À with
    |nil=>rfl
    |cons kv À=>
     let⟨k,w⟩:=kv;cases k<;>try rfl
     cases w<;>try rfl
     rename_i x;show _=(match (if x=nm/\ch c (sS f À)=1 then (match oU f À,kk with
      |some (.list ds),.int k=>(match mT ds.length k with
       |some j=>some (PyData.dict ((.none,.str x)::tF f (.list (ds.set j v)) À))
       |none=>none)
      |_,_=>none)else none)with
      |some r=>Res.ok Fl.next (δ1.set i (some r))
      |none=>.stuck)
     by_cases h:x=nm/\ch c (sS f À)=1
     .rw[Á h]
      cases kk with
      |int k=>
       dsimp only;rw[Á h];cases oU f À with
       |none=>rfl
       |some r=>
        cases r with
        |list ds=>
         dsimp only;cases mT ds.length k<;>rfl
        |_=>rfl
      |_=>
       dsimp only;cases oU f À with
       |none=>rfl
       |some r=>cases r<;>rfl
     .rw[Ã h]
      cases kk with
      |int k=>dsimp only;rw[Ã h]
      |_=>rfl
def Y8:cQ (AK i c nm f fk fv) δ N B C R=bJ fv δ λv δ1=>bJ fk δ1 λk _=>d9 δ1[i]? δ1 λd δ1=>mG (RH c nm f k v d) δ1 λd' δ1=>N (δ1.set i (some d')):=by
 unfold cQ bJ d9 mG;rw[aEH];cases fv δ with
 |stuck=>rfl
 |ok y δ1=>
  dsimp![Res.bind];cases fk δ1 with
  |stuck=>rfl
  |ok k δ2=>
   dsimp only;cases δ1[i]? with
   |none=>rfl
   |some o=>
    cases o with
    |none=>rfl
    |some d=>
     dsimp only;cases RH c nm f k y d with
     |none=>rfl
     |some r=>rfl
def HR:yZ i nm m fn as δ=(match δ[i]? with
 |some (some d)=>open Classical in if y6 nm m d then aM fn (.own i::as) δ else .stuck
 |_=>.stuck):=by
 unfold yZ;cases δ[i]? with
 |none=>rfl
 |some o=>
  cases o with
  |none=>rfl
  |some d=>
   cases d<;>try (exact(Ã (λz:False=>z)).symm)
   rename_i À;cases À with
   |nil=>exact(Ã (λz:False=>z)).symm
   |cons kv À=>
    let⟨k,w⟩:=kv;cases k<;>try (exact(Ã (λz:False=>z)).symm)
    cases w<;>try (exact(Ã (λz:False=>z)).symm)
    rename_i x;dsimp only;by_cases h:x=nm/\oU m À=none
    .rw[Á h,Á (show y6 nm m (.dict ((.none,.str x)::À))from h)]
    .rw[Ã h,Ã (show ¬y6 nm m (.dict ((.none,.str x)::À))from h)]
def Y9:bJ (yZ i nm m fn as) δ Q=d9 δ[i]? δ λd δ=>y6 nm m d/\bJ (aM fn (.own i::as)) δ Q:=by
 rw[oT];unfold HG;cases e:δ[i]? with
 |none=>unfold bJ;rw[HR,e];simp
 |some o=>
  cases o with
  |none=>unfold bJ;rw[HR,e];simp
  |some d=>
   simp![Option.some.injEq,exists_eq_left'];unfold bJ;rw[HR,e];dsimp only;by_cases h:y6 nm m d
   .rw[Á h];simp[h]
   .rw[Ã h];simp[h]
def OA:bJ (y0 m0 nm fn as) δ Q=bJ (cZ as) δ λods δ1=>δ1.length=m0/\K7 (fO δ1 as ods) nm fn δ1 Q:=by
 unfold bJ y0 K7;cases cZ as δ with
 |stuck=>rfl
 |ok ods δ1=>
  simp![Res.bind];by_cases h:δ1.length=m0
  .rw[Á h]
   simp![h,true_and];cases fO δ1 as ods with
   |none=>simp
   |some ds=>
    simp![Option.some.injEq,exists_and_left,exists_eq_left'];cases e:fn (eI nm [] []::ds)with
    |stuck=>simp
    |ok d os=>
     refine propext ⟨λz=>?_,λ⟨d2,z,q⟩=>?_⟩
     .split at z
      .rename_i y
       split at y
       .rename_i y2;cases y2;cases y;exact⟨_,rfl,z⟩
       .cases y
      .exact z.elim
     .cases z;exact q
  .rw[Ã h];simp[h]
def wW:cQ (tG i fk fv) δ N B C R=bJ fv δ λv δ1=>d9 δ1[i]? δ1 λ_ δ1=>bJ fk δ1 λk δ2=>d9 δ2[i]? δ2 λd δ2=>mG (BS k v d) δ2 λd' δ2=>N (δ2.set i (some d')):=by
 rw[oT,mY];unfold cQ tG bJ HG XB;cases fv δ with
 |stuck=>rfl
 |ok v δ1=>
  simp![Res.bind];cases δ1[i]? with
  |none=>simp
  |some o=>
   cases o with
   |none=>simp
   |some d0=>
    simp![Option.some.injEq,exists_eq_left'];cases fk δ1 with
    |stuck=>rfl
    |ok k δ2=>
     simp![Res.bind];cases δ2[i]? with
     |none=>simp
     |some o=>
      cases o with
      |none=>simp
      |some d=>
       simp![Option.some.injEq,exists_eq_left'];unfold BS;cases d with
       |dict À=>
        dsimp only;cases eX k with
        |none=>simp
        |some ky=>
         dsimp only;by_cases h:À.length<sizeLine
         .rw[Á h];simp[h]
         .rw[Ã h];simp[h]
       |_=>simp
def aJJ:bJ (Y1 fx fk fz) δ Q=bJ fx δ λx δ1=>dctD' x=true/\bJ fk δ1 λk δ2=>bJ fz δ2 λz δ3=>mG (Y7 x k z) δ3 Q:=by
 unfold bJ Y1 mG;cases fx δ with
 |stuck=>rfl
 |ok x δ1=>
  dsimp![Res.bind];cases x with
  |dict À=>
   dsimp![dctD',Y7];by_cases h:(À.all λkv=>(eX kv.1).isSome)=true
   .rw[Á h]
    simp![h,true_and];cases fk δ1 with
    |stuck=>rfl
    |ok k δ2=>
     dsimp![Res.bind];cases fz δ2 with
     |stuck=>rfl
     |ok z δ3=>
      dsimp![Res.bind];cases eX k with
      |none=>rfl
      |some ky=>rfl
   .rw[Ã h];simp[h]
  |_=>simp[dctD']
def ZO:bJ (HP i nm f fe) δ Q=bJ fe δ λd δ1=>d9 δ1[i]? δ1 λt δ1=>mG (RI nm f d t) δ1 Q:=by
 rw[oT,mY];unfold bJ HP HG XB;cases fe δ with
 |stuck=>rfl
 |ok d δ1=>
  simp![Res.bind];cases d with
  |list ds=>
   cases δ1[i]? with
   |none=>simp
   |some o=>
    cases o with
    |none=>simp
    |some t=>
     simp![Option.some.injEq,exists_eq_left'];unfold RI;dsimp only;cases Ţ nm f t with
     |none=>simp
     |some r=>
      cases r with
      |list hs=>
       dsimp only;cases fD hs with
       |none=>simp
       |some hs'=>
        cases fD ds with
        |none=>simp
        |some ns=>
         dsimp only;cases HN hs' ns with
         |none=>simp
         |some ks=>simp
      |_=>simp
  |_=>simp[RI]
def aJK:bJ (Y2 fs) δ Q=bJ (bO fs) δ λds δ1=>mG (ţ ds) δ1 Q:=by
 rw[mY];unfold bJ Y2 XB ţ;cases bO fs δ with
 |stuck=>rfl
 |ok ds δ1=>
  simp![Res.bind];cases GY ds with
  |none=>simp
  |some p=>
   let⟨lo,n⟩:=p;dsimp only;by_cases h:n<=sizeLine
   .rw[Á h];simp[h]
   .rw[Ã h];simp[h]
def Ť(d:D)(δ:DS)(Q:D->ZM)(_w:Wt Q:=⟨⟩):Prop:=(ċ d).isSome=true/\Q d δ
def aJM:bJ (ŕ fe) δ Q=bJ fe δ λd _=>Ť d δ Q:=by
 unfold bJ ŕ Ť;cases fe δ with
 |stuck=>rfl
 |ok d δ1=>
  dsimp only;cases ċ d with
  |none=>simp
  |some v=>simp
end
end L2
namespace PySem
namespace F
end F
section
variable{prog:Program}{w:World}{A:Around}{E:ZA}{s:Shared}
end
end PySem
namespace L2
open PySem PySem.Spec PyProof.Rows
section
variable{X:Cx}{Z:dQ}{ow:ZF}{a:Expr}{ta:TA}{f:M D}{p p2 p3 pos:Pos}
end
def Ľ{P:ZH->Prop}{us:ZH}{n:Nat}(hl:us.length=n+1)(h:∀x xs,xs.length=n->P (x::xs)):P us:=by
 cases us with
 |nil=>cases hl
 |cons x xs=>exact h x xs (Nat.succ.inj hl)
def aP6{P:ZH->Prop}{us:ZH}(hl:us.length=0)(h:P []):P us:=by
 rw[List.length_eq_zero_iff.mp hl];exact h
def Ϛ{P:ZH->Prop}{us:ZH}(hl:us.length=1)(h:∀a,P [a]):P us:=Ľ hl λa _ hl=>aP6 (P:=λus=>P (a::us)) hl (h a)
def ϛ{P:ZH->Prop}{us:ZH}(hl:us.length=2)(h:∀a b,P [a,b]):P us:=Ľ hl λa _ hl=>Ϛ (P:=λus=>P (a::us)) hl (h a)
def Ϝ{P:ZH->Prop}{us:ZH}(hl:us.length=3)(h:∀a b c,P [a,b,c]):P us:=Ľ hl λa _ hl=>ϛ (P:=λus=>P (a::us)) hl (h a)
def aP7{P:ZH->Prop}{us:ZH}(hl:us.length=4)(h:∀a b c d,P [a,b,c,d]):P us:=Ľ hl λa _ hl=>Ϝ (P:=λus=>P (a::us)) hl (h a)
def aO1{fd:FuncData}{ps:ZE}{us:ZH}(hl:us.length=1)(h:∀a,bindArgs fd ⟨[a],[]⟩=pure (ps.zip [a])):bindArgs fd ⟨us,[]⟩=pure (ps.zip us):=Ϛ (P:=λus=>bindArgs fd ⟨us,[]⟩=pure (ps.zip us)) hl h
def aO2{fd:FuncData}{ps:ZE}{us:ZH}(hl:us.length=2)(h:∀a b,bindArgs fd ⟨[a,b],[]⟩=pure (ps.zip [a,b])):bindArgs fd ⟨us,[]⟩=pure (ps.zip us):=ϛ (P:=λus=>bindArgs fd ⟨us,[]⟩=pure (ps.zip us)) hl h
def aO3{fd:FuncData}{ps:ZE}{us:ZH}(hl:us.length=3)(h:∀a b c,bindArgs fd ⟨[a,b,c],[]⟩=pure (ps.zip [a,b,c])):bindArgs fd ⟨us,[]⟩=pure (ps.zip us):=Ϝ (P:=λus=>bindArgs fd ⟨us,[]⟩=pure (ps.zip us)) hl h
def aO4{fd:FuncData}{ps:ZE}{us:ZH}(hl:us.length=4)(h:∀a b c d,bindArgs fd ⟨[a,b,c,d],[]⟩=pure (ps.zip [a,b,c,d])):bindArgs fd ⟨us,[]⟩=pure (ps.zip us):=aP7 (P:=λus=>bindArgs fd ⟨us,[]⟩=pure (ps.zip us)) hl h
section
variable{P:Program}{w:World}{K:ZC}{mg:ZD}{base:Heap}{x qual:Str}{st:Stmt}{N:ZE}{k lev rm:Nat}{ps owp:ZF}{body:M Fl}{sc:Scope}
structure Fd(K:ZC)(x qual:Str)(st:Stmt)(N:ZE)(k:Nat) where
 f:Addr
 fd:FuncData
 F:VA K x qual st f fd
 b:pP K fd (N.take k) []
structure Fg(K:ZC)(mg:ZD)(x:Str)(st:Stmt)(N:ZE)(k:Nat) extends Fd K x x st N k where
 m:mg x=some (.ref f)
abbrev Fd.Ok(X:Fd K x qual st N k)(P:Program)(w:World)(mg:ZD)(base:Heap)(lev:Nat)(ps owp:ZF)(rm:Nat)(d:ZG->Res D):Prop:=sP P w K mg base (E7 P w K) lev X.f X.fd (N.take k) (NL K (N.take k) ps owp rm d)
def Fd.okD(X:Fd K x qual st N k)(S:aS N (N.take k) (aL st))(hb:∀{cdv:Value}{A:Around}{outer:List Env}{s:Shared}{H:Hp}{E:XK}{F0:Hp}{g0:ZN}{σ0:St}{wf:∀a i q,g0 a=some (i,q)->i∈ps}(_:X.fd.code=cdv)(_:gN lev (A.deeper (envOfC qual (aL st) s.heap.objs.size X.f cdv))),
   QD (wG (E7 P w K) P w K mg base N qual (aL st) X.f cdv A outer s H E) ⟨F0,H,g0,ps,σ0,owp,wf⟩ owp owp owp owp rm (fH st) body)(hN:↥(owp.length=N.length)):X.Ok P w mg base (lev+1) ps owp rm (bK N.length ps rm body):=
 X.F.okD S hN λ_ hcd _ _ _ _ _ _ _ _ _ hr=>⟨owp,hb hcd hr⟩
def Fd.okE(X:Fd K x qual st N k)(owe:ZF)(S:aS N (N.take k) (aL st))(hb:∀{cdv:Value}{A:Around}{outer:List Env}{s:Shared}{H:Hp}{E:XK}{F0:Hp}{g0:ZN}{σ0:St}{wf:∀a i q,g0 a=some (i,q)->i∈ps}(_:X.fd.code=cdv)(_:gN lev (A.deeper (envOfC qual (aL st) s.heap.objs.size X.f cdv))),
   QD (wG (E7 P w K) P w K mg base N qual (aL st) X.f cdv A outer s H E) ⟨F0,H,g0,ps,σ0,owp,wf⟩ owp owe owe owe rm (fH st) body)(hN:↥(owp.length=N.length)):X.Ok P w mg base (lev+1) ps owp rm (bK N.length ps rm body):=
 X.F.okD S hN λ_ hcd _ _ _ _ _ _ _ _ _ hr=>⟨owe,hb hcd hr⟩
def ť(N:ZE)(k:Nat)(sc:Scope):Bool:=(match sc.kind with|.function=>true|_=>false) && !sc.isCoroutine && !sc.isGenerator && decide N.Nodup && (N.take k).all (λx=>match sc.names.lookup x with|some .local=>true|some .cell=>true|_=>false) && sc.names.all (λy=>match y.2 with|.free=>false|_=>true)
def bU(h:ť N k sc=true):aS N (N.take k) sc:=by
 unfold ť at h;simp![á,Bool.not_eq_true',decide_eq_true_eq,ß]at h;let⟨⟨⟨⟨⟨h1,h2⟩,h3⟩,h4⟩,h5⟩,h6⟩:=h;refine⟨?_,h2,h3,h4,?_,λx hx=>?_,λy hy e=>?_⟩
 all_goals grind
def aMT{h:Heap}{f:Addr}{oc:Value}{od an:Option Addr}{osl:Array (ZL)}{kV doc pm cdv ct:Value}(X:K.In h)(G:h.Ns mainGlobals mg)(a:W.nsIn K mainGlobals x=some (some (.ref f)))(l:K.lookup f=some ⟨oc,od,.func (W.fnOf x x (mF st) (fH st) (aL st) .none kV doc pm an cdv ct),osl⟩)(c:W.codeIn K cdv x=true)(k':W.keepIn K (.ref f)=true)(hb:∀(kV doc pm:Value)(an:Option Addr)(cdv ct:Value)(us:ZH),us.length=(N.take k).length->bindArgs (W.fnOf x x (mF st) (fH st) (aL st) .none kV doc pm an cdv ct) ⟨us,[]⟩=pure ((N.take k).zip us)):(Fg K mg x st N k):=
 ⟨⟨f,_,AX l c k',(AX l c k').binds hb⟩,W.mg_of X G a⟩
def aGR{h:Heap}{v:Int}{t:Tok}(X:K.In h)(G:h.Ns mainGlobals mg)(a:W.nsIn K mainGlobals x=some (some (.int v t))):∃t,mg x=some (.int v t):=⟨t,W.mg_of X G a⟩
def aF{X:Cx}{Z:dQ}{ow:ZF}{pos p:Pos}{e:Expr}{es:List Expr}{as:List Arg}{k1:Nat}{fn:ZG->Res D}(Y:Fg X.K X.mg x st N k)(Fk:Y.Ok X.prog X.w X.mg X.base lev ps owp rm fn)(hr:gN k1 X.A)(ha:DA X Z ow (e::es) as)(hk:⇑(lev<=k1))(S:bH Z ow:=by exact aI)(hg:Gl X x:=by exact rfl)(hl:↥(as.length=(N.take k).length))(hps:↥(g7 0 as=ps))(nd:↥(decide (bP as).Nodup=true))(hm:↥(fZ owp ow 0 as=true))(hlt:⇑(as.length<=1000))(hdb:⇑(Zdb x))(he:↥(Zse e es X.env))(hpl:↥(Zbt pos es X.env)):
  DE X Z ow rm (.Call (.Name x p) (e::es) [] pos) (aM fn as):=aC9 S Fk (hr.mono hk) hg Y.m Y.F.kp Y.b ha hl hps nd hm hlt hdb he hpl
end
section
variable{K:ZC}{mg:ZD}{x y:Str}{st:Stmt}{N:ZE}{k lev rm:Nat}{ps owp:ZF}
structure Fa(K:ZC)(mg:ZD)(x y:Str)(st:Stmt)(N:ZE)(k:Nat) extends Fd K y y st N k where
 m:mg x=some (.ref f)
def aMU{h:Heap}{f:Addr}{oc:Value}{od an:Option Addr}{osl:Array (ZL)}{kV doc pm cdv ct:Value}(X:K.In h)(G:h.Ns mainGlobals mg)(a:W.nsIn K mainGlobals x=some (some (.ref f)))(l:K.lookup f=some ⟨oc,od,.func (W.fnOf y y (mF st) (fH st) (aL st) .none kV doc pm an cdv ct),osl⟩)(c:W.codeIn K cdv y=true)(k':W.keepIn K (.ref f)=true)(hb:∀(kV doc pm:Value)(an:Option Addr)(cdv ct:Value)(us:ZH),us.length=(N.take k).length->bindArgs (W.fnOf y y (mF st) (fH st) (aL st) .none kV doc pm an cdv ct) ⟨us,[]⟩=pure ((N.take k).zip us)):(Fa K mg x y st N k):=
 ⟨⟨f,_,AX l c k',(AX l c k').binds hb⟩,W.mg_of X G a⟩
end
section
variable{X:Cx}{Z:dQ}{ow ow' ol ox:ZF}{n rm m i c:Nat}{pos spos tpos:Pos}{F F' H H':Hp}{σ:St}{δ:DS}{g:ZN}{K:ZC}{d:D}{v:V}{p q:ZF}{inner inner':ZG}{us':List V}{b:Addr}
def RJ{fk:M D}{k:Int}{δ2:DS}{Q:VK}(m:Nat)(R:fN X.K Z ow g F H σ δ)(e2:fk δ=.ok (.int k) δ2)(h:∀H2,aW H H2->Q (.int k) H2):∃F0,tD X (mX F0 H σ m) (List.replicate m 0) 0 fk σ H Q:=by
 refine⟨QO g F H,QO g F H,δ,R.bor,?_⟩;rw[e2];rintro v H1 F1 ⟨g1,R1,o1⟩ s1;have ev:v=.int k:=by
  have o1:cI X.K F1 (.int k) v:=o1;unfold cI at o1;exact o1
 subst ev;exact h H1 λb o e=>R1.kept b o rfl e
end
section
variable{X:Cx}{Z:dQ}{ow:ZF}{pos:Pos}{e e2:Expr}{es:List Expr}{f:M D}{fs:List (M D)}
def D4:D->ZJ
 |.str z=>if z.length<=sizeLine then some (.str z)else none
 |.int i=>if i.natAbs.log2<1920 then some (.str (toString i))else none
 |_=>none
def OB(h:DE X Z ow 0 e f):DE X Z ow 0 (.FormattedValue e (-1) none pos) (t6 D4 f):=λU s σ H Q I q=>by
 let⟨F,δ,R,q⟩:=q;unfold t6 at q;refine FormattedValue_plain (dL (h U s σ H (λv H1=>(∃z,v=.str z/\z.length<=sizeLine/\Q (.str z) H1)\/∃i,v=.int i/\i.natAbs.log2<1920/\Q (.str (toString i)) H1) I ⟨F,δ,R,?_⟩) λu s1 h1=>?_)
 .cases e1:f δ with
  |stuck=>rw[e1]at q;exact q.elim
  |ok d δ1=>
   rw[e1]at q;simp![Res.bind]at q;intro v H1 F1 R1 s1;unfold D4 at q;split at q
   .rename_i y hy
    split at hy
    .split at hy
     .rename_i hz
      cases hy;have r:=R1.rep;unfold cI at r;exact .inl ⟨_,r,hz,q _ H1 F1 (R1.rel.x kG) s1⟩
     .cases hy
    .split at hy
     .rename_i hz
      cases hy;have r:=R1.rep;unfold cI at r;exact .inr ⟨_,r,hz,q _ H1 F1 (R1.rel.x kG) s1⟩
     .cases hy
    .cases hy
   .exact q.elim
 .obtain⟨v,H1,I1,r,⟨z,rfl,hz,q⟩|⟨i,rfl,hz,q⟩⟩:=h1
  .obtain⟨t,rfl⟩:=r
   exact formatField_str (λt' tk=>⟨.str z,H1,I1.tok _,⟨_,rfl⟩,q⟩) hz
  .obtain⟨t,rfl⟩:=r
   exact formatField_int_small hz ⟨.str _,H1,I1.tok _,⟨_,rfl⟩,q⟩
def jI:Str->List (M D)->M D
 |out,[]=>λδ=>.ok (.str out) δ
 |out,f::fs=>λδ=>(f δ).bind λd δ1=>match d with
  |.str y=>if (out++y).length<=sizeLine then jI (out++y) fs δ1 else .stuck
  |_=>.stuck
def DJ(X:Cx)(Z:dQ)(ow:ZF)(es:List Expr)(fs:List (M D)):Prop:=∀(out:Str)(U:ZB)(s:Shared)(σ:St)(H:Hp)(Q:VK),out.length<=sizeLine->bM X U σ H s->tD X Z ow 0 (jI out fs) σ H Q->wpAny (model X.prog X.w) X.A (joinParts out (evalEach es X.env)) (EP X U σ Q) X.xe s
def ZP:DJ X Z ow [] []:=λout U s σ H Q hz I q=>by
 let⟨F,δ,R,q⟩:=q;exact joinParts_nil ⟨.str out,H,I.tok _,⟨_,rfl⟩,q _ H F (R.x kG) (aW.refl _)⟩ hz
def vJ(h:DE X Z ow 0 e f)(t:DJ X Z ow es fs)(he:↥(evalEach (e::es) X.env=eval e X.env::evalEach es X.env)):DJ X Z ow (e::es) (f::fs):=λout U s σ H Q hz I q=>by
 let⟨F,δ,R,q⟩:=q;rw[he];refine joinParts_cons (dL (h U s σ H (λv H1=>∃y,v=.str y/\(out++y).length<=sizeLine/\tD X Z ow 0 (jI (out++y) fs) σ H1 Q) I ⟨F,δ,R,?_⟩) λu s1 h1=>?_)
 .unfold jI at q
  cases e1:f δ with
  |stuck=>rw[e1]at q;exact q.elim
  |ok d δ1=>
   rw[e1]at q;simp![Res.bind]at q;intro v H1 F1 R1 s1;cases d with
   |str y=>
    dsimp only at q;split at q
    .rename_i hy
     have r:=R1.rep;unfold cI at r;exact⟨y,r,hy,F1,δ1,R1.rel,q.mono s1 λ_ _ z=>z⟩
    .exact q.elim
   |_=>exact q.elim
 .obtain⟨v,H1,I1,r,y,rfl,hy,q⟩:=h1
  let⟨t1,rfl⟩:=r;exact⟨hy,t _ U s1 σ H1 Q hy I1 q⟩
def K8(h:DJ X Z ow (e::e2::es) fs)(he:↥(evalEach (e::e2::es) X.env=eval e X.env::eval e2 X.env::evalEach es X.env)):DE X Z ow 0 (.JoinedStr (e::e2::es) pos) (jI Str.empty fs):=λU s σ H Q I q=>by
 refine JoinedStr_many ?_;rw[<- he];exact h Str.empty U s σ H Q ⋯ I q
end
section
variable{X:Cx}{Z:dQ}{ow:ZF}{pos:Pos}{i o:Expr}{fk fx:M D}
def K9(k x:D):(Option (ZJ)):=match x with
 |.dict À=>if (À.all λkv=>(eX kv.1).isSome)=true then (match eX k with
  |some ky=>some (kH ky À)
  |none=>none)else none
 |_=>none
def qI(n:Bool)(k x:D):ZJ:=(K9 k x).map λr=>.bool (r.isSome != n)
def FJ(x k:D):ZJ:=match K9 k x with
 |some (some d)=>some d
 |_=>none
def LA{K:ZC}{F H:Hp}{k x:D}{r:ZJ}{y v:V}(e:K9 k x=some r)(hk:cI K F k y)(hx:cI K F x v)(hs:aW F H):∃a o,v=.ref a/\zN H a y o/\((r=none/\o=none)\/∃d w,r=some d/\o=some w/\cI K F d w):=by
 unfold K9 at e;split at e
 .rename_i À
  split at e
  .rename_i hall
   split at e
   .rename_i ky e4
    cases e;let⟨a,ms,ds,vs,rfl,l1,rfl,hF,hr⟩:=aED hx hall;obtain rfl:=RE e4 hk;refine⟨a,pZ (ms.zip vs) ky,rfl,zN.k (hs _ _ hF),?_⟩;rcases FI (k:=ky) l1 hr with ⟨h1,h2⟩|⟨d,w,h1,h2,h3⟩
    .exact .inl ⟨h1,h2⟩
    .exact .inr ⟨d,w,h1,h2,h3⟩
   .cases e
  .cases e
 .cases e
def ZQ{n:Bool}{σ:St}{H:Hp}{Q:VK}(h:tD X Z ow 0 (aU (qI n) fk fx) σ H Q):tD X Z ow 0 fk σ H λy H1=>tD X Z ow 0 fx σ H1 λx H2=>∃a o,x=.ref a/\zN H2 a y o/\Q (.bl (o.isSome != n)) H2:=by
 let⟨F,δ,R,h⟩:=h;unfold aU at h;refine⟨F,δ,R,?_⟩;cases e:fk δ with
 |stuck=>rw[e]at h;exact h.elim
 |ok d1 δ1=>
  rw[e]at h;simp![Res.bind]at h;intro y H1 F1 R1 s1;refine⟨F1,δ1,R1.rel,?_⟩;cases e2:fx δ1 with
  |stuck=>rw[e2]at h;exact h.elim
  |ok d2 δ2=>
   rw[e2]at h;simp![Res.bind]at h;intro v H2 F2 R2 s2;unfold qI at h;cases e3:K9 d1 d2 with
   |none=>rw[e3]at h;exact h.elim
   |some r=>
    rw[e3]at h;let⟨a,o,rfl,hg,hr⟩:=LA e3 (s2.rep _ _ R1.rep) R2.rep R2.rel.sub;have eo:o.isSome=r.isSome:=by
     rcases hr with ⟨rfl,rfl⟩|⟨d,w,rfl,rfl,_⟩<;>rfl
    refine⟨a,o,rfl,hg,?_⟩;rw[eo];exact h _ H2 F2 (R2.rel.x sQ) (s1.trans' s2)
def ZR(hu:X.A.units+64<cLine)(hi:DE X Z ow 0 i fk)(ho:DE X Z ow 0 o fx)(h1:↥(behindInMarks .In o=false)):DT X Z ow (.Compare i [.In] [o] pos) (dB (aU (qI false) fk fx)):=
 (M3 (aJF ∅ hi ho) h1).mono λσ H Q h=>by
  have:=ZQ (E4 h);simp![Bool.bne_false]at this;exact this
def TX(hu:X.A.units+64<cLine)(hi:DE X Z ow 0 i fk)(ho:DE X Z ow 0 o fx)(h1:↥(behindInMarks .NotIn o=false)):DT X Z ow (.Compare i [.NotIn] [o] pos) (dB (aU (qI true) fk fx)):=
 (M3 (TR ∅ hi ho) h1).mono λσ H Q h=>by
  have:=ZQ (E4 h);simp![Bool.bne_true]at this;exact this
def aJN{f:M D}(hu:X.A.units+64<cLine)(ho:DE X Z ow 0 o fx)(hi:DE X Z ow 0 i f)(hs:K3 i:=by exact λ_ _=>rfl):DE X Z ow 0 (.Subscript o i pos) (aU FJ fx f):=PE.mono (aEA ∅ ho hi hs) λσ H Q h=>by
 let⟨F,δ,R,h⟩:=h;unfold aU at h;refine⟨F,δ,R,?_⟩;cases e:fx δ with
 |stuck=>rw[e]at h;exact h.elim
 |ok d1 δ1=>
  rw[e]at h;simp![Res.bind]at h;intro x H1 F1 R1 s1;refine⟨F1,δ1,R1.rel,?_⟩;cases e2:f δ1 with
  |stuck=>rw[e2]at h;exact h.elim
  |ok d2 δ2=>
   rw[e2]at h;simp![Res.bind]at h;intro y H2 F2 R2 s2;cases e3:FJ d1 d2 with
   |none=>rw[e3]at h;exact h.elim
   |some r=>
    rw[e3]at h;unfold FJ at e3;split at e3
    .rename_i d e4
     cases e3;let⟨a,ov,rfl,hg,hr⟩:=LA e4 R2.rep (s2.rep _ _ R1.rep) R2.rel.sub;rcases hr with ⟨hh,_⟩|⟨d',w,hd,rfl,hw⟩
     .cases hh
     .cases hd
      exact⟨a,w,rfl,hg,h w H2 F2 (R2.rel.x hw) (s1.trans' s2)⟩
    .cases e3
end
section
variable{X:Cx}{Z:dQ}{ow:ZF}{n c i:Nat}{pos:Pos}{e:Expr}{f:M D}{F H:Hp}{σ:St}{δ:DS}{g:ZN}{K:ZC}
end
section
variable{X:Cx}{Z:dQ}{ow:ZF}{n c i:Nat}{pos:Pos}{e:Expr}{F H:Hp}{σ:St}{δ:DS}{g:ZN}{K:ZC}
end
section
variable{X:Cx}{Z:dQ}{ow:ZF}{e c:Expr}{f g:M D}{te tc:TE}
end
section
variable{X:Cx}{Z:dQ}{ow ow1 ow2 ol ox ol1 ox1:ZF}{n rm m i c:Nat}{pos spos tpos:Pos}{F F' H H':Hp}{σ σ':St}{δ δ':DS}{g g':ZN}{K:ZC}{d:D}{v:V}{q:ZF}{inner inner':ZG}{b:Addr}
end
section
variable{X:Cx}{Z:dQ}{ow:ZF}{e:Expr}{f:M D}
def LB(f:M D):M Bool:=λδ=>(f δ).bind λd δ1=>match d with
 |.list ds=>.ok (!ds.isEmpty) δ1
 |_=>.stuck
def aJO(h:DE X Z ow 0 e f)(he: ~~~(∀whole,isTrue e X.env whole=(do let v <- whole;standAt e.pos;holding [v] (truthy v)))):DT X Z ow e (LB f):=(VT h he).mono λσ H Q h=>by
 let⟨F,δ,R,h⟩:=h;unfold LB at h;refine⟨F,δ,R,?_⟩;cases e:f δ with
 |stuck=>rw[e]at h;exact h.elim
 |ok d δ1=>
  rw[e]at h;simp![Res.bind]at h;intro v H1 F1 R1 s1;split at h
  .rename_i ds
   let⟨l,vs,rfl,hx,rx⟩:=oN R1.rep;refine⟨!ds.isEmpty,?_,h H1 F1 R1.rel s1⟩;refine .inl ⟨vs,R1.rel.sub.seq hx,?_⟩;have:=rx.len
   grind
  .exact h.elim
def ZS{δ:DS}{Q:Bool->ZM}{ds:ZG}{δ1:DS}(h:f δ=.ok (.list ds) δ1)(q:Q (!ds.isEmpty) δ1):bJ (LB f) δ Q:=by
 unfold bJ LB;rw[h];exact q
end
section
variable{X:Cx}{Z:dQ}{ow:ZF}{n:Nat}{pos:Pos}{a b:Expr}{f k:M D}
def ZT{x y:Str}:(Txt.split x y).length<=x.length+2:=by
 unfold Txt.split;split
 .show 1<=_;lia
 .split
  .show 1<=_;lia
  .have:=StrLaws.occ_length_le x y 0 x.length (x.length+1)
   rw[length_partsBetween];lia
def LC:∀{l:List (Str×Tok)}{ys:ZE},l.map (·.1)=ys->b7 (ys.map V.str) (strValues l)
 |[],_,rfl=>.nil
 |p::l,_,rfl=>.cons ⟨p.2,rfl⟩ (LC rfl)
def OC:V->List V->Hp->VK->Prop:=λx vs H Q=>∃y z,x=.str y/\vs=[.str z]/\(z.length == 0)=false/\y.length+2<=sizeLine/\∀p,H p=none->Q (.ref p) (eB H p (.lst ((Txt.split y z).map V.str)))
def LD:Đ X "str.split" OC:=by
 intro U s σ H x vs v us Q I rx rv h;let⟨y,z,rfl,rfl,hz,hy,q⟩:=h;let⟨t,rfl⟩:=rx;let⟨u,rfl,ru⟩:=rv.one;let⟨t2,rfl⟩:=ru;have fin:∀(l:List (Str×Tok))(tk:Nat),l.map (·.1)=Txt.split y z->EP X U σ Q (.ref s.heap.objs.size) {s with heap:=s.heap.push {cls:=.type "list",data:=.seq (strValues l).toArray},toks:=tk}:=λl tk e=>by
  refine⟨.ref _,eB H s.heap.objs.size (.lst ((Txt.split y z).map V.str)),I.laid (o:=.lst ((Txt.split y z).map V.str)) (t':=tk) (λc w e=>Heap.get?_push_of_some _ e) (È _) ⟨?_,strValues l,_,LC e,Heap.get?_push_size _ rfl⟩,rfl,q _ (I.hok.fresh (È _))⟩;rw[Â];exact Ñ ZT hy
 have hn:(Builtin.Str.partsBetween y (Builtin.Str.occurrences y z 0 y.length (y.length+1)) z.length).length<=sizeLine:=by
  have:=StrLaws.occ_length_le y z 0 y.length (y.length+1);rw[length_partsBetween];lia
 by_cases c1:(decide (y.length<z.length) || decide (Builtin.Str.strKind y<Builtin.Str.strKind z))=true
 .exact call_meets F.slot_str_split (typeIs_str _ _ _) F.entry_str_split (F.args_str_split_2 _ _) (meets_str_split_cannot_occur y z t t2 c1) (fin [(y,t)] s.toks (by unfold Txt.split;rw[Á c1];rfl))
 .have c1':=eq_false_of_ne_true c1
  by_cases c2:(Builtin.Str.occurrences y z 0 y.length (y.length+1)).isEmpty=true
  .exact call_meets F.slot_str_split (typeIs_str _ _ _) F.entry_str_split (F.args_str_split_2 _ _) (meets_str_split_not_found y z t t2 c1' hz c2) (fin [(y,t)] s.toks (by unfold Txt.split;rw[Ã c1,Á c2];rfl))
  .refine call_meets F.slot_str_split (typeIs_str _ _ _) F.entry_str_split (F.args_str_split_2 _ _) (meets_str_split_sep y z t t2 c1' hz (eq_false_of_ne_true c2) ∅ hn) ?_
   have:=fin (numbered s.toks (Builtin.Str.partsBetween y (Builtin.Str.occurrences y z 0 y.length (y.length+1)) z.length));rw[<- strsFrom_eq]at this;exact this _ (by rw[numbered_texts];unfold Txt.split;rw[Ã c1,Ã c2])
def RK:V->List V->Hp->VK->Prop:=λx vs H Q=>∃y z,x=.str y/\vs=[.str z]/\Q (.bl (Txt.startswith y z)) H
def TY:Đ X "str.startswith" RK:=by
 intro U s σ H x vs v us Q I rx rv h;let⟨y,z,rfl,rfl,q⟩:=h;let⟨t,rfl⟩:=rx;let⟨u,rfl,ru⟩:=rv.one;let⟨t2,rfl⟩:=ru;exact call_gives F.slot_str_startswith (typeIs_str _ _ _) F.entry_str_startswith (F.args_str_startswith_2 _ _) (gives_str_startswith y z t t2) ⟨.bl (Txt.startswith y z),H,I,rfl,q⟩
def uC(op:Str->Str->ZJ)(f k:M D):M D:=λδ=>(f δ).bind λx δ1=>match x with
 |.str y=>(k δ1).bind λw δ2=>(match w with
  |.str z=>(match op y z with
   |some d=>.ok d δ2
   |none=>.stuck)
  |_=>.stuck)
 |_=>.stuck
def HS{op:Str->Str->ZJ}{r:V->List V->Hp->VK->Prop}{σ:St}{H:Hp}{Q:VK}(hr:∀(y z:Str)(d:D)(F H:Hp)(σ:St)(δ:DS)(Q:VK),op y z=some d->eJ X.K Z ow F H σ δ->(∀v H' F',iF X.K Z ow n d v F' H' σ δ->aW F F'->Q v H')->r (.str y) [.str z] H Q)(q:tD X Z ow n (uC op f k) σ H Q):tD X Z ow 0 f σ H λx H1=>Į X.K "str" x H1/\P4 (tD X Z ow 0 k) ĭ σ H1 λvs H2=>r x vs H2 Q:=by
 let⟨F,δ,R,q⟩:=q;unfold uC at q;refine⟨F,δ,R,?_⟩;cases e:f δ with
 |stuck=>rw[e]at q;exact q.elim
 |ok d1 δ1=>
  rw[e]at q;simp![Res.bind]at q;intro x H1 F1 R1 s1;cases d1 with
  |str y=>
   have hx:=fI R1.rep;subst hx;dsimp only at q;refine⟨rfl,F1,δ1,R1.rel,?_⟩;cases e2:k δ1 with
   |stuck=>rw[e2]at q;exact q.elim
   |ok d2 δ2=>
    rw[e2]at q;simp![Res.bind]at q;intro w H2 F2 R2 s2;cases d2 with
    |str z=>
     have hw:=fI R2.rep;subst hw;dsimp only at q;cases e3:op y z with
     |none=>rw[e3]at q;exact q.elim
     |some d=>
      rw[e3]at q;exact hr y z d F2 H2 σ δ2 Q e3 R2.rel λv H' F' R' s'=>q v H' F' R' (s1.trans' (s2.trans' s'))
    |_=>exact q.elim
  |_=>exact q.elim
def fV(y z:Str):ZJ:=if z.length≠0/\y.length+2<=sizeLine then some (.list ((Txt.split y z).map .str))else none
def jJ(y z:Str):ZJ:=some (.bool (Txt.startswith y z))
def BU{K:ZC}{F:Hp}:∀{xs:ZE},aJ K F (xs.map .str) (xs.map V.str)
 |[]=>mU
 |_::_=>jS kG BU
def BV{p:Pos}(S:bH Z ow)(ha:DE X Z ow 0 a f)(hb:DE X Z ow 0 b k)(hbase:↥(attributeBase a "split" X.env (eval a X.env)=eval a X.env))(hfew:↥(((backTo pos (starEach [b] X.env)).all (λx=>!x.1) && (backToKw pos (keywordEach [] X.env)).all (λx=>x.1.isSome)
   && decide ([b].length+([]:List Keyword).length+(if ([]:List Keyword).isEmpty then 0 else 1)<30))=true))(hline:↥((p.endLine == pos.line)=true))(hs:↥(Zse b [] X.env))(hplain:↥(Zbt pos [] X.env)):
  DE X Z ow 1 (.Call (.Attribute a "split" p) [b] [] pos) (uC fV f k):=PE.mono (E0 PySem.F.plainAttrs_str PySem.F.slot_str_split PySem.F.type_str_split LD ha (iI hb oH hs) hbase hfew hline hs hplain) λσ H Q q=>HS (r:=OC) (λy z d F H σ δ Q e R q=>by
 unfold fV at e;split at e
 .rename_i h
  cases e;exact⟨y,z,rfl,rfl,by simpa using h.1,h.2,λp hp=>q _ _ F (R.newList S hp BU) (aW.refl _)⟩
 .cases e) q
def FK{p:Pos}(ha:DE X Z ow 0 a f)(hb:DE X Z ow 0 b k)(hbase:↥(attributeBase a "startswith" X.env (eval a X.env)=eval a X.env))(hfew:↥(((backTo pos (starEach [b] X.env)).all (λx=>!x.1) && (backToKw pos (keywordEach [] X.env)).all (λx=>x.1.isSome)
   && decide ([b].length+([]:List Keyword).length+(if ([]:List Keyword).isEmpty then 0 else 1)<30))=true))(hline:↥((p.endLine == pos.line)=true))(hs:↥(Zse b [] X.env))(hplain:↥(Zbt pos [] X.env)):
  DE X Z ow 0 (.Call (.Attribute a "startswith" p) [b] [] pos) (uC jJ f k):=PE.mono (E0 PySem.F.plainAttrs_str PySem.F.slot_str_startswith PySem.F.type_str_startswith TY ha (iI hb oH hs) hbase hfew hline hs hplain) λσ H Q q=>HS (r:=RK) (λy z d F H σ δ Q e R q=>by
 cases e;exact⟨y,z,rfl,rfl,q _ H F (R.x sQ) (aW.refl _)⟩) q
def TZ:iH X (.type "int") (λxs H Q=>∃x i,xs=[.str x]/\intText? x=some i/\x.length<=640/\Q (.int i) H):=by
 intro U s σ H xs us Q I r h;let⟨x,i,rfl,e,hl,q⟩:=h;let⟨u,rfl,t,rfl⟩:=nR r;exact W.KIN.call_text e hl ⟨.int _,H,I.tok _,⟨_,rfl⟩,q⟩
def ľ:ZG->ZJ
 |[.str x]=>if x.length<=640 then (intText? x).map .int else none
 |_=>none
def aEJ:WC X (λxs H Q=>∃x i,xs=[.str x]/\intText? x=some i/\x.length<=640/\Q (.int i) H) 0 ľ:=λZ ow F H σ δ ds vs d Q S R ra e q=>by
 unfold ľ at e;split at e
 .rename_i x
  split at e
  .rename_i hl
   let⟨i,e1,rfl⟩:=Option.map_eq_some_iff.mp e;let⟨v,rfl,r⟩:=vA ra;exact⟨x,i,by rw[fI r],e1,hl,q _ H F (R.x kF) (aW.refl _)⟩
  .cases e
 .cases e
def sB{x:Str}{i j:Str}(hg:Gl X x)(hm:∃a o t u n,X.mg x=some (.ref a)/\X.K.lookup a=some o/\o.cls=.type "tuple"/\o.data=.seq #[.str i t,.str j u] n)(hd:⇑(Zdb x)):DE X Z ow 0 (.Name x pos) (dC (.tuple [.str i,.str j])):=by
 let⟨a,o,t,u,n,hm,hk,hc,hs⟩:=hm;exact qD (P1 hg hm (v:=.ref a) rfl hd) λF=>by
  unfold cI;exact⟨a,[.str i,.str j],rfl,.inr ⟨o,_,n,hk,hc,hs,(show 2<=sizeLine by decide),.cons ⟨t,rfl⟩ (.cons ⟨u,rfl⟩ .nil)⟩,jS kG (jS kG mU)⟩
def aJP{K:ZC}{mg:ZD}{x:Str}{h:Heap}{a:Addr}{od:Option Addr}{i j:Str}{t u:Tok}{n:Nat}{sl:Array (ZL)}(X:K.In h)(G:h.Ns mainGlobals mg)(y:W.nsIn K mainGlobals x=some (some (.ref a)))(l:K.lookup a=some ⟨.type "tuple",od,.seq #[.str i t,.str j u] n,sl⟩):
  ∃a o t u n,mg x=some (.ref a)/\K.lookup a=some o/\o.cls=.type "tuple"/\o.data=.seq #[.str i t,.str j u] n:=⟨a,_,t,u,n,W.mg_of X G y,l,rfl,rfl⟩
end
section
variable{X:Cx}{Z:dQ}{ow:ZF}{pos p:Pos}{i:Expr}{f:M D}{ty:TE}{x:Str}
def Ģ(À:List (Str×Str)):(List (eA×V)):=À.map λp=>(.inr p.1,.str p.2)
structure D5(P:Program)(w:World)(K:ZC)(mg:ZD)(x:Str)(À:List (Str×Str)):Prop where
 ex:∃a o es ep vs,mg x=some (.ref a)/\K.lookup a=some o/\(a == sysModules)=false/\o.ExactDict/\o.data=.dict es ep/\KeysOf (cF P w) es/\Pairs (cF P w) es.toList vs/\(vs.map (·.1)).Nodup/\KV (Ģ À) vs
def OD{z:Str}:∀{À:List (Str×Str)},pZ (Ģ À) (.inr z)=(À.lookup z).map V.str
 |[]=>rfl
 |(y,v)::À=>by
  show pZ ((.inr y,.str v)::Ģ À) (.inr z)=_;by_cases e:y=z
  .subst e
   rw[n6 rfl,æ,beq_self_eq_true];rfl
  .have e2:(z == y)=false:=by simpa using λh=>e h.symm
   rw[n8 (λh=>e (by cases h;rfl)),OD,æ,e2]
def D5.dict{À:List (Str×Str)}(G:D5 X.prog X.w X.K X.mg x À):∃a vs,X.mg x=some (.ref a)/\(a == sysModules)=false/\KV (Ģ À) vs/\∀{U σ H s},bM X U σ H s->s.heap.DictOf (cF X.prog X.w) a vs:=by
 let⟨a,o,es,ep,vs,h1,h2,h3,h4,h5,h6,h7,h8,h9⟩:=G.ex;exact⟨a,vs,h1,h3,h9,λI=>⟨o,es,ep,I.bk _ _ (I.ok.mod.kin _ _ h2),h4,h5,h6,h7,h8⟩⟩
def aEK{À:List (Str×Str)}(G:D5 X.prog X.w X.K X.mg x À)(hg:Gl X x)(hi:PE X i ty)(hs:K3 i)(hd:⇑(Zdb x)):PE X (.Subscript (.Name x p) i pos) (λσ H Q=>ty σ H λy H1=>∃z v,y=.str z/\À.lookup z=some v/\Q (.str v) H1):=by
 intro U s σ H Q I h;let⟨a,vs,h1,h3,rel,dd⟩:=G.dict;refine HL PySem.F.slot_dict_getitem.lookup hs (rZ I hg h1 (dL (hi U s σ H _ I h) λiv s2⟨y,H2,I2,ry,z,v,ey,l,q2⟩=>?_) hd);subst ey;have dd:=dd I2;refine⟨dd.typeIs,?_⟩;let⟨w',hw,rw'⟩:=pX.some_of (v:=.str v) (o:=valueAt vs (.inr z)) (by
  have:=rel.val (.inr z);rw[OD,l]at this;exact this)
 exact wpAny_getItem_of (k:=.inr z) (qH (k:=.inr z) ry) dd.mapOf hw ⟨.str v,H2,I2.tok _,rw',q2⟩
def ZU{À:List (Str×Str)}(n:Bool)(G:D5 X.prog X.w X.K X.mg x À)(hg:Gl X x)(hi:PE X i ty)(hd:⇑(Zdb x)):PC X (if n then .NotIn else .In) i (.Name x p) (λσ H Q=>ty σ H λy H1=>∃z,y=.str z/\Q (.bl ((À.lookup z).isSome != n)) H1):=by
 intro U s σ H Q I h;let⟨a,vs,h1,h3,rel,dd⟩:=G.dict;refine dL (hi U s σ H _ I h) λiv s1⟨y,H1,I1,ry,z,ey,q⟩=>rZ I1 hg h1 ?_ hd;subst ey;have dd:=dd I1;have e:(valueAt vs (.inr z)).isSome=(À.lookup z).isSome:=by rw[<- (rel.val (.inr z)).isSome_eq,OD,Option.isSome_map]
 cases n with
 |false=>
  refine wpAny_in_of (k:=.inr z) (qH (k:=.inr z) ry) h3 dd.mapOf ?_;rw[e];exact⟨.bl _,H1,I1.tok _,by rw[Bool.bne_false];rfl,q⟩
 |true=>
  refine wpAny_notIn_of (k:=.inr z) (qH (k:=.inr z) ry) h3 dd.mapOf ?_;rw[e];exact⟨.bl _,H1,I1.tok _,by rw[Bool.bne_true];rfl,q⟩
def FL(À:List (Str×Str)):D->ZJ
 |.str z=>(À.lookup z).map .str
 |_=>none
def OE(n:Bool)(À:List (Str×Str)):D->ZJ
 |.str z=>some (.bool ((À.lookup z).isSome != n))
 |_=>none
def Ŧ{op:D->ZJ}{T:Str->V->Prop}{σ:St}{H:Hp}{Q:VK}(ho:∀d r,op d=some r->∃z v,d=.str z/\T z v/\ċ r=some v)(h:tD X Z ow 0 (t6 op f) σ H Q):tD X Z ow 0 f σ H λy H1=>∃z v,y=.str z/\T z v/\Q v H1:=by
 let⟨F,δ,R,h⟩:=h;unfold t6 at h;refine⟨F,δ,R,?_⟩;cases e:f δ with
 |stuck=>rw[e]at h;exact h.elim
 |ok d δ1=>
  rw[e]at h;simp![Res.bind]at h;intro y H1 F1 R1 s1;cases e2:op d with
  |none=>rw[e2]at h;exact h.elim
  |some r=>
   rw[e2]at h;let⟨z,v,rfl,t,hv⟩:=ho d r e2;have hr:∀{K F},cI K F r v:=λ{K F}=>by
    cases r with
    |int i=>cases hv;exact kF
    |bool b=>cases hv;exact sQ
    |str z=>cases hv;exact kG
    |none=>cases hv;exact G0
    |_=>cases hv
   exact⟨z,v,fI R1.rep,t,h v H1 F1 (R1.rel.x hr) s1⟩
def HU{À:List (Str×Str)}(G:D5 X.prog X.w X.K X.mg x À)(hg:Gl X x)(hi:DE X Z ow 0 i f)(hs:K3 i:=by exact λ_ _=>rfl)(hd:⇑(Zdb x)):DE X Z ow 0 (.Subscript (.Name x p) i pos) (t6 (FL À) f):=PE.mono (aEK G hg hi hs hd) λσ H Q h=>by
 let⟨F,δ,R,q⟩:=Ŧ (T:=λz v=>∃y,À.lookup z=some y/\v=.str y) (λd r e=>by
  cases d with
  |str z=>
   let⟨y,e1,rfl⟩:=Option.map_eq_some_iff.mp e;exact⟨z,.str y,rfl,⟨y,e1,rfl⟩,rfl⟩
  |_=>cases e) h
 refine⟨F,δ,R,?_⟩;cases e:f δ with
 |stuck=>rw[e]at q;exact q
 |ok d δ1=>
  rw[e]at q;intro v H1 F1 R1 s1;let⟨z,w,h1,⟨y,h2,rfl⟩,h3⟩:=q v H1 F1 R1 s1;exact⟨z,y,h1,h2,h3⟩
def ϝ{n:Bool}{À:List (Str×Str)}{σ:St}{H:Hp}{Q:VK}(h:tD X Z ow 0 (t6 (OE n À) f) σ H Q):tD X Z ow 0 f σ H λy H1=>∃z,y=.str z/\Q (.bl ((À.lookup z).isSome != n)) H1:=by
 let⟨F,δ,R,q⟩:=Ŧ (T:=λz v=>v=.bl ((À.lookup z).isSome != n)) (λd r e=>by
  cases d with
  |str z=>cases e;exact⟨z,_,rfl,rfl,rfl⟩
  |_=>cases e) h
 refine⟨F,δ,R,?_⟩;cases e:f δ with
 |stuck=>rw[e]at q;exact q
 |ok d δ1=>
  rw[e]at q;intro v H1 F1 R1 s1;let⟨z,w,h1,rfl,h3⟩:=q v H1 F1 R1 s1;exact⟨z,h1,h3⟩
def aJR{À:List (Str×Str)}(n:Bool)(G:D5 X.prog X.w X.K X.mg x À)(hg:Gl X x)(hi:DE X Z ow 0 i f)(h1:↥(behindInMarks (if n then .NotIn else .In) (.Name x p)=false))(hd:⇑(Zdb x)):DE X Z ow 0 (.Compare i [if n then .NotIn else .In] [.Name x p] pos) (t6 (OE n À) f):=
 PE.mono (aHE (ZU n G hg hi hd) h1) λ_ _ _ h=>ϝ h
def aJS{À:List (Str×Str)}(n:Bool)(G:D5 X.prog X.w X.K X.mg x À)(hg:Gl X x)(hi:DE X Z ow 0 i f)(h1:↥(behindInMarks (if n then .NotIn else .In) (.Name x p)=false))(hd:⇑(Zdb x)):DT X Z ow (.Compare i [if n then .NotIn else .In] [.Name x p] pos) (dB (t6 (OE n À) f)):=
 (M3 (ZU n G hg hi hd) h1).mono λ_ _ _ h=>ϝ (E4 h)
def LF(P:Program)(w:World):List DictEntry->List (Str×Str)->Prop
 |[],[]=>True
 |e::es,(k,v)::À=>e.hash=(cF P w).hash (.inr k)/\(∃t,e.key=.str k t)/\(∃u,e.val=.str v u)/\LF P w es À
 |_,_=>False
def LF.all{P:Program}{w:World}:∀{es:List DictEntry}{À:List (Str×Str)},LF P w es À->∃vs:List (eA×Value),(∀e∈es,∃k,(cF P w).is k e.key=true/\e.hash=(cF P w).hash k)/\Pairs (cF P w) es vs/\vs.map (·.1)=À.map (λp=>(.inr p.1:eA))/\KV (Ģ À) vs
 |[],[],_=>⟨[],λe he=>(by cases he),.nil,rfl,.nil⟩
 |e::es,(k,v)::À,h=>by
  let⟨h1,⟨t,h2⟩,⟨u,h3⟩,h4⟩:=h;let⟨vs,g1,g2,g3,g4⟩:=LF.all h4;have ik:(cF P w).is (.inr k) e.key=true:=by rw[h2];exact qH (k:=.inr k) ⟨t,rfl⟩
  refine⟨(.inr k,.str v u)::vs,λe' he'=>?_,.cons ik h3 g2,by rw[Ê,Ê,g3],.cons ⟨rfl,u,rfl⟩ g4⟩;rcases Å.mp he' with rfl|he'
  .exact⟨.inr k,ik,h1⟩
  .exact g1 e' he'
def aGS{P:Program}{w:World}{K:ZC}{mg:ZD}{h:Heap}{a:Addr}{es:Array DictEntry}{ep:Nat}{À:List (Str×Str)}(X:K.In h)(G:h.Ns mainGlobals mg)(y:W.nsIn K mainGlobals x=some (some (.ref a)))(l:K.lookup a=some ⟨.type "dict",none,.dict es ep,#[]⟩)(hs:(a == sysModules)=false)(he:LF P w es.toList À)(nd:(À.map (·.1)).Nodup):D5 P w K mg x À:=by
 let⟨vs,g1,g2,g3,g4⟩:=he.all;refine⟨a,_,es,ep,vs,W.mg_of X G y,l,hs,⟨rfl,rfl,rfl⟩,rfl,λe he=>g1 e (Array.mem_toList_iff.mpr he),g2,?_,g4⟩;rw[g3,show (À.map λp=>(.inr p.1:eA))=(À.map (·.1)).map Sum.inr by rw[Õ];rfl];exact List.Pairwise.map _ (λ_ _ h e=>h (Sum.inr.inj e)) nd
end
def vK{h h':Heap}{a:Addr}{ty:String}{x:Str}{t:Tok}{i:Nat}(y:h.IsStrIter a ty x t i)(k:∀o,h.get? a=some o->h'.get? a=some o):h'.IsStrIter a ty x t i:=
 let ⟨o,ho,r⟩:=y;⟨o,k o ho,r⟩
section
variable{prog:Program}{w:World}{A:Around}{E:ZA}{s:Shared}
def T0{z p r c1 c2 l1:Addr}{k c:Nat}{xs:Array Value}{u:Str}{t:Tok}{x a b:Value}{Q:ZL->Shared->Prop}(D:ZipApart z p r c1 c2 l1 l1)(g0:IsZip s.heap z p r .none)(g1:IsPair s.heap p (.ref c1) (.ref c2))(g2:IsPair s.heap r a b)(g3:s.heap.IsListIter c1 l1 k)(g4:s.heap.IsStrIter c2 "str_ascii_iterator" u t k)(g5:s.heap.IsList l1 xs)(ex:xs[k]?=some x)(ey:u.cps[k]?=some c)(q:∀h',IsZip h' z p r (rawInt s.heap.objs.size)->IsPair h' r x (.str ⟨#[c]⟩ s.toks)->h'.IsListIter c1 l1 (k+1)->h'.IsStrIter c2 "str_ascii_iterator" u t (k+1)->IsPair h' s.heap.objs.size x (.str ⟨#[c]⟩ s.toks)->h'.objs.size=s.heap.objs.size+1 ->
   (∀c o,c≠z->c≠r->c≠c1->c≠c2->s.heap.get? c=some o->h'.get? c=some o)->Q (some (.ref s.heap.objs.size)) {s with heap:=h',toks:=s.toks+1}):
  wpAny (model prog w) A (pyNext (.ref z)) Q E s:=by
 have hT:s.TypeIs (.ref z) "zip":=⟨_,g0,rfl⟩;unfold pyNext;refine wpAny_bind (wpAny_attempt (wpAny_callSpecial?_slot (name:=Str.ofString "__next__") hT F.slot_zip_next (wpAny_call_entry F.slot_zip_next hT F.entry_zip_next ?_ (F.args_zip_next_1 _))));show wpAny _ _ (field (.ref z) 2 >>= _) _ _ _;refine wpAny_bind (wpAny_field g0 rfl (x:=.bool false) rfl ?_);show wpAny _ _ (field (.ref z) 3 >>= _) _ _ _;refine wpAny_bind (wpAny_field g0 rfl (x:=.ref p) rfl ?_);refine wpAny_bind (wpAny_seqItems g1 rfl ?_);show wpAny _ _ (Builtin.SmallTypes.ownedTupleIsFree (.ref z) >>= _) _ _ _;refine wpAny_bind ?_;unfold Builtin.SmallTypes.ownedTupleIsFree;refine wpAny_bind (wpAny_field g0 rfl (x:=.none) rfl (wpAny_pure ?_));simp![if_true];refine wpAny_bind (wpAny_rule ?_);refine wpAny_bind (wpAny_field g0 rfl (x:=.ref r) rfl ?_);refine wpAny_bind (wpAny_setField_rec g0 (by simp) λm1 n1 s1=>?_);replace n1:IsZip m1 z p r .ellipsis:=n1;refine wpAny_bind ?_;simp![List.zipIdx_cons,List.zipIdx_nil,List.forIn_cons,List.forIn_nil];refine wpAny_bind (wpAny_bind (wpAny_onRaise ?_));show wpAny _ _ (Builtin.SmallTypes.nextOf (.ref c1) >>= _) _ _ _;refine wpAny_bind (wpAny_nextOf_list_item (g3.extBut s1.extBut D.i1z) (g5.extBut s1.extBut D.l1z) ex λm2 n2 s2=>wpAny_pure ?_);have r2:IsPair m2 r a b:=s2.extBut _ _ D.TOi1 (s1.extBut _ _ D.TOz g2);refine wpAny_bind (wpAny_seqItems r2 rfl ?_);refine wpAny_bind (wpAny_updateSeq_pair r2 λm3 r3 s3=>?_);replace r3:IsPair m3 r x b:=r3;refine wpAny_bind (wpAny_letGo (wpAny_pure ?_));refine wpAny_bind (wpAny_bind (wpAny_onRaise ?_));show wpAny _ _ (Builtin.SmallTypes.nextOf (.ref c2) >>= _) _ _ _;refine wpAny_bind (wpAny_nextOf_ascii_item (((g4.extBut s1.extBut D.i2z).extBut s2.extBut D.i12.symm).extBut s3.extBut D.TOi2.symm) ey λm4 n4 s4=>wpAny_pure ?_);have r4:IsPair m4 r x b:=s4.extBut _ _ D.TOi2 r3;refine wpAny_bind (wpAny_seqItems r4 rfl ?_);refine wpAny_bind (wpAny_updateSeq_pair r4 λm5 r5 s5=>?_);replace r5:IsPair m5 r x (.str ⟨#[c]⟩ s.toks):=r5;refine wpAny_bind (wpAny_letGo (wpAny_pure (wpAny_pure ?_)));refine wpAny_bind (wpAny_seqItems r5 rfl ?_);refine wpAny_bind (wpAny_newTuple ?_);have sz:m5.objs.size=s.heap.objs.size:=by rw[s5.1,s4.1,s3.1,s2.1,s1.1]
 have z5:IsZip m5 z p r .ellipsis:=s5.extBut _ _ D.TOz.symm (s4.extBut _ _ D.i2z.symm (s3.extBut _ _ D.TOz.symm (s2.extBut _ _ D.i1z.symm n1)));have kk:∀c o,c≠z->c≠r->c≠c1->c≠c2->s.heap.get? c=some o->m5.get? c=some o:=λc o e1 e2 e3 e4 e=>
  s5.extBut _ _ e2 (s4.extBut _ _ e4 (s3.extBut _ _ e2 (s2.extBut _ _ e3 (s1.extBut _ _ e1 e))))
 have a5:m5.IsListIter c1 l1 (k+1):=((n2.extBut s3.extBut D.TOi1.symm).extBut s4.extBut D.i12).extBut s5.extBut D.TOi1.symm;have b5:m5.IsStrIter c2 "str_ascii_iterator" u t (k+1):=n4.extBut s5.extBut D.TOi2.symm;have zl:z<m5.objs.size:=Heap.lt_size z5;show wpAny _ _ (Builtin.SmallTypes.ownedTupleHandOut (.ref z) (.ref m5.objs.size) >>= _) _ _ _;refine wpAny_bind ?_;unfold Builtin.SmallTypes.ownedTupleHandOut;have z6:IsZip (m5.push {cls:=.type "tuple",data:=.seq #[x,.str ⟨#[c]⟩ s.toks]}) z p r .ellipsis:=Heap.get?_push_of_some _ z5;refine wpAny_bind (wpAny_setField_rec z6 (by simp) λm7 z7 s7=>?_);replace z7:IsZip m7 z p r (rawInt m5.objs.size):=z7;refine wpAny_setField_rec z7 (by simp) λm8 z8 s8=>?_;replace z8:IsZip m8 z p r (rawInt m5.objs.size):=z8;have up:∀c o,c≠z->m5.get? c=some o->m8.get? c=some o:=λc o e1 e=>s8.extBut _ _ e1 (s7.extBut _ _ e1 (Heap.get?_push_of_some _ e));have t8:IsPair m8 m5.objs.size x (.str ⟨#[c]⟩ s.toks):=s8.extBut _ _ (ê zl) (s7.extBut _ _ (ê zl) (Heap.get?_push_size _ rfl));have y8:m8.objs.size=m5.objs.size+1:=by rw[s8.1,s7.1,Heap.size_push]
 rw[sz]at z8 t8 y8;refine wpAny_pure ⟨_,rfl,wpAny_pure ?_⟩;show Q (some (.ref m5.objs.size)) _;rw[sz];exact q m8 z8 (up _ _ D.TOz r5) (a5.at λo e=>up _ o D.i1z e) (vK b5 λo e=>up _ o D.i2z e) t8 y8 λc o e1 e2 e3 e4 e=>up c o e1 (kk c o e1 e2 e3 e4 e)
end
abbrev yA(h:Heap)(l1:Addr):Heap:=h.push {cls:=.type "list_iterator",data:=.fields #[.ref l1,.int 0 0]}
abbrev yB(h:Heap)(l1:Addr)(u:Str)(t:Tok):Heap:=(yA h l1).push {cls:=.type "str_ascii_iterator",data:=.fields #[.str u t,.int 0 0]}
abbrev yC(h:Heap)(l1:Addr)(u:Str)(t:Tok):Heap:=(yB h l1 u t).push {cls:=.type "tuple",data:=.seq #[.ref h.objs.size,.ref (yA h l1).objs.size]}
abbrev yD(h:Heap)(l1:Addr)(u:Str)(t:Tok):Heap:=(yC h l1 u t).push {cls:=.type "tuple",data:=.seq #[.none,.none]}
abbrev yE(h:Heap)(l1:Addr)(u:Str)(t:Tok):Heap:=(yD h l1 u t).push {cls:=.type "zip",data:=.fields #[.none,.bool false,.bool false,.ref (yB h l1 u t).objs.size,.ref (yC h l1 u t).objs.size]}
def ZV(l1:Addr)(u:Str)(t:Tok)(xs:Array Value):
  Meets (Builtin.«zip.__new__» ⟨[.type "zip",.ref l1,.str u t],[]⟩) (λ_ R s=>s.heap.IsList l1 xs/\u.cps.all (·<128)=true/\R (.ok (.ret (.ref (yD s.heap l1 u t).objs.size))) {s with heap:=yE s.heap l1 u t}):=
 .of_wp λprog w A R s h=>by
  let⟨hp,g,d,tk,os⟩:=s;let⟨e1,e2,h⟩:=h;have sub:=sub_zip;have q1:Heap.IsList (Shared.heap ⟨hp,g,d,tk,os⟩) l1 xs:=e1
  wp_walk using wpAny_pyIter_list q1,wpAny_pyIter_ascii e2
  exact⟨_,rfl,h⟩
section
variable{prog:Program}{w:World}{A:Around}{E:ZA}{s:Shared}
def T1{l1:Addr}{u:Str}{t:Tok}{xs:Array Value}{Q:ZA}(e1:s.heap.IsList l1 xs)(e2:u.cps.all (·<128)=true)(q:∀h',IsZip h' (s.heap.objs.size+4) (s.heap.objs.size+2) (s.heap.objs.size+3) .none->IsPair h' (s.heap.objs.size+2) (.ref s.heap.objs.size) (.ref (s.heap.objs.size+1))->IsPair h' (s.heap.objs.size+3) .none .none->h'.IsListIter s.heap.objs.size l1 0->h'.IsStrIter (s.heap.objs.size+1) "str_ascii_iterator" u t 0->h'.objs.size=s.heap.objs.size+5 ->
   (∀c o,s.heap.get? c=some o->h'.get? c=some o)->Q (.ref (s.heap.objs.size+4)) {s with heap:=h'}):wpAny (model prog w) A (call (.type "zip") [.ref l1,.str u t]) Q E s:=by
 refine callType_new F.called_zip ⋯ (F.typeCall_zip_2 _ _) (F.newCall_zip_2 _ _) (λobj=>F.args_object_init_3 obj _ _) F.entry_zip_new (ZV l1 u t xs) ⟨e1,e2,?_⟩;have n1:(yA s.heap l1).objs.size=s.heap.objs.size+1:=Heap.size_push ..;have n2:(yB s.heap l1 u t).objs.size=s.heap.objs.size+2:=by rw[Heap.size_push,n1]
 have n3:(yC s.heap l1 u t).objs.size=s.heap.objs.size+3:=by rw[Heap.size_push,n2]
 have n4:(yD s.heap l1 u t).objs.size=s.heap.objs.size+4:=by rw[Heap.size_push,n3]
 have n5:(yE s.heap l1 u t).objs.size=s.heap.objs.size+5:=by rw[Heap.size_push,n4]
 have f5:(yE s.heap l1 u t).get? (yD s.heap l1 u t).objs.size=some _:=Heap.get?_push_size _ rfl;have f4:(yE s.heap l1 u t).get? (yC s.heap l1 u t).objs.size=some _:=Heap.get?_push_of_some _ (Heap.get?_push_size _ rfl);have f3:(yE s.heap l1 u t).get? (yB s.heap l1 u t).objs.size=some _:=Heap.get?_push_of_some _ (Heap.get?_push_of_some _ (Heap.get?_push_size _ rfl));have f2:(yE s.heap l1 u t).get? (yA s.heap l1).objs.size=some _:=Heap.get?_push_of_some _ (Heap.get?_push_of_some _ (Heap.get?_push_of_some _ (Heap.get?_push_size _ rfl)));have f1:(yE s.heap l1 u t).get? s.heap.objs.size=some _:=Heap.get?_push_of_some _ (Heap.get?_push_of_some _ (Heap.get?_push_of_some _ (Heap.get?_push_of_some _ (Heap.get?_push_size _ rfl))));show _/\_;rw[n2,n3,n4]at f5;rw[n1,n2]at f3;rw[n3]at f4;rw[n1]at f2;rw[n4];exact⟨⟨_,f5,rfl⟩,q _ f5 f3 f4 ⟨_,f1,rfl,rfl⟩ ⟨_,f2,rfl,rfl⟩ n5 λc o v=>Heap.get?_push_of_some _ (Heap.get?_push_of_some _ (Heap.get?_push_of_some _ (Heap.get?_push_of_some _ (Heap.get?_push_of_some _ v))))⟩
end
def ŧ(K:ZC)(a:Addr)(z:Str):It:=
 ⟨λi H=>∃xs x c,gM K H a xs/\xs[i]?=some x/\z.cps[i]?=some c,
   λi H v H'=>∃p x c,H p=none/\H'=eB H p (.tup [x,.str ⟨#[c]⟩])/\v=.ref p/\(∀xs,gM K H a xs->xs[i]?=some x)/\z.cps[i]?=some c,
   λi H=>∃xs,gM K H a xs/\xs.length<=i⟩
structure aJU(z p q i1 i2 a:Addr)(u:Str)(t:Tok)(i:Nat)(h:Heap):Prop where
 z0:IsZip h z p q .none
 p0:IsPair h p (.ref i1) (.ref i2)
 q0:∃u v,IsPair h q u v
 a0:h.IsListIter i1 a i
 b0:h.IsStrIter i2 "str_ascii_iterator" u t i
def T2{P:Program}{w:World}{K:ZC}{es:List Expr}{n:Nat}{tp:Pos}(z p q i1 i2 a:Addr)(uu:Str)(tt:Tok)(D:ZipApart z p q i1 i2 a a):J4 P w K (.Tuple es n tp) (ŧ K a uu) [z,p,q,i1,i2] z (aJU z p q i1 i2 a uu tt) where
 mem:=by simp
 obj:=λi h st c hc=>by
  simp![Å,Í,or_false]at hc;rcases hc with rfl|rfl|rfl|rfl|rfl
  .exact⟨_,st.z0,λv e=>by cases e⟩
  .exact⟨_,st.p0,λv e=>by cases e⟩
  .obtain⟨u,v,e⟩:=st.q0
   exact⟨_,e,λv e=>by cases e⟩
  .obtain⟨o,e,_,d⟩:=st.a0
   exact⟨o,e,λv x=>by rw[d]at x;cases x⟩
  .obtain⟨o,e,_,d⟩:=st.b0
   exact⟨o,e,λv x=>by rw[d]at x;cases x⟩
 keep:=λi h h' st k=>⟨k z (by simp) _ st.z0,k p (by simp) _ st.p0,by
  let⟨u,v,e⟩:=st.q0;exact⟨u,v,k q (by simp) _ e⟩,st.a0.at λo e=>k i1 (by simp) o e,vK st.b0 λo e=>k i2 (by simp) o e⟩
 item:=by
  intro X hP hw hK hc i U s σ H E I hf st hg;subst hP hw hK;let⟨xs,x,c,hx,ex,ey⟩:=hg;let⟨ia,ra,pa,_⟩:=I.list hx;let⟨u,hu,ru⟩:=ra.get ex;let⟨c1,c2,hq⟩:=st.q0;refine T0 D st.z0 st.p0 hq st.a0 st.b0 pa.isList (x:=u) (by simpa using hu) ey λh1 e1 e2 e3 e4 e5 e6 k1=>⟨_,rfl,?_⟩;refine wpAny_letOwnedTupleGo_zip (s:={s with heap:=h1,toks:=s.toks+1}) e1 λh2 f1 f2=>?_;have hT:s.heap.objs.size≠z:=ê (Heap.lt_size st.z0);have tup:IsTup h2 s.heap.objs.size #[u,.str ⟨#[c]⟩ s.toks]:=⟨_,f2.extBut _ _ hT e5,rfl,_,rfl⟩;have kk:∀c o,c∉[z,q,i1,i2]->s.heap.get? c=some o->h2.get? c=some o:=λc o n e=>by
   simp![Å,Í,or_false,not_or]at n;exact f2.extBut _ _ n.1 (k1 c o n.1 n.2.1 n.2.2.1 n.2.2.2 e)
  have fp:∀c∈[z,q,i1,i2],wE X U H c:=λc hc=>hf c (by
   simp![Å,Í,or_false]at hc⊢;rcases hc with h|h|h|h<;>simp[h])
  have I2:bM X U σ (eB H s.heap.objs.size (.tup [x,.str ⟨#[c]⟩])) {s with heap:=h2,toks:=s.toks+1}:=I.pair (us:=[u,.str ⟨#[c]⟩ s.toks]) kk fp (È _) (show 2<=sizeLine by decide) (.cons ru (.cons ⟨_,rfl⟩ .nil)) tup;refine⟨.ref s.heap.objs.size,_,I2,rfl,⟨_,x,c,I.hok.fresh (È _),rfl,rfl,λxs' h=>by rw[I.list_inj h hx];exact ex,ey⟩,⟨f1,f2.extBut _ _ D.TIz (k1 _ _ D.TIz D.TITO D.TIi1 D.TIi2 st.p0),⟨_,_,f2.extBut _ _ D.TOz e2⟩,e3.extBut f2.extBut D.i1z,e4.extBut f2.extBut D.i2z⟩,λc hc=>?_⟩;rw[aZ]
  .exact(hf c hc).1
  .intro z0
   simp![Å,Í,or_false]at hc;have lt:∀{c o},s.heap.get? c=some o->c≠s.heap.objs.size:=λe=>Ï (Heap.lt_size e);let⟨o1,g1,_⟩:=st.a0;let⟨o2,g2,_⟩:=st.b0;rcases hc with rfl|rfl|rfl|rfl|rfl
   .exact lt st.z0 z0
   .exact lt st.p0 z0
   .exact lt hq z0
   .exact lt g1 z0
   .exact lt g2 z0
 done:=by
  intro X hP hw hK hc i U s σ H E I hf st hg;subst hP hw hK;let⟨xs,hx,hl⟩:=hg;let⟨ia,ra,pa,_⟩:=I.list hx;let⟨c1,c2,hq⟩:=st.q0;have la:=ra.length;refine XA (I.ok.hd hc) D.i1z D.l1z st.z0 st.p0 hq st.a0 pa.isList (Array.getElem?_eq_none (by simp;lia)) λh1 k1=>⟨rfl,I.turns (t':=s.toks) (ch:=[z,q,i1,i2]) (λc o n e=>?_) λc hc=>hf c ?_⟩
  .simp![Å,Í,or_false,not_or]at n
   exact k1 c o n.1 n.2.1 n.2.2.1 n.2.2.2 e
  .simp![Å,Í,or_false]at hc⊢
   rcases hc with h|h|h|h<;>simp[h]
 self:=λ_ _ _ _ _ st h=>wpAny_pyIter_zip st.z0 h
section
variable{X:Cx}{tg:Expr}
def aMX(K:ZC)(ta:TA):TI:=λσ H R=>ta σ H λvs H1=>∃a z,vs=[.ref a,.str z]/\(∃xs,gM K H1 a xs)/\z.cps.all (·<128)=true/\R (ŧ K a z) H1
def aEL{a b:Expr}{ta:TA}{es:List Expr}{n:Nat}{tp p pos:Pos}(hg:Gl X "zip")(hm:X.mg "zip"=none)(ha:PA X [a,b] ta)(hs:↥(starEach [a,b] X.env=[(false,eval a X.env),(false,eval b X.env)]))(hs2:↥(starEach [b] X.env=[(false,eval b X.env)])):
  PI X (.Tuple es n tp) (.Call (.Name "zip" p) [a,b] [] pos) (aMX X.K ta):=by
 intro U s σ H R I h;refine Call_ (p7 I hg hm boot_zip (callWith_type1 (dL (ha pos U s σ H _ I h) λus s1 zQ=>?_) (by rw[hs,hs2]) (by rw[hs2];rfl)));let⟨vs,H1,I1,r1,q1⟩:=zQ;let⟨l,m,e,⟨xs,hx⟩,hy,q⟩:=q1;subst e;cases r1 with
 |cons r rr=>
  cases rr with
  |cons r' rr=>
   cases rr;cases r;let⟨tt,rfl⟩:=r';let⟨ia,ra,pa,_⟩:=I1.list hx;refine T1 pa.isList hy λh1 z1 z2 z3 z4 z5 sz kk=>wpAny_pyIter_zip (s:={s1 with heap:=h1}) z1 ?_;have la:@LT.lt Nat instLTNat l s1.heap.objs.size:=by let⟨o,n,e,_⟩:=pa;exact Heap.lt_size e
   have ge:∀c∈[s1.heap.objs.size+4,s1.heap.objs.size+2,s1.heap.objs.size+3,s1.heap.objs.size,s1.heap.objs.size+1],s1.heap.objs.size<=c:=λc hc=>by
    simp![Å,Í,or_false]at hc;rcases hc with rfl|rfl|rfl|rfl|rfl<;>lia
   refine⟨_,_,_,_,H1,rfl,I1.kept (t':=s1.toks) kk,T2 _ _ _ _ _ l m tt ?_,⟨z1,z2,⟨_,_,z3⟩,z4,z5⟩,λc hc=>I1.fpOk (ge c hc) (I1.hok.fresh (ge c hc)),q⟩;constructor<;>(refine λh=>?_;have h:@Eq Nat _ _:=h;lia)
end
def ZW{K:ZC}{F:Hp}{a:Addr}{xs:List V}{ds:ZG}{z:Str}(hx:gM K F a xs)(rx:aJ K F ds xs)(hle:ds.length<=z.length):VC K F (ŧ K a z) (jZ ds (fB z)) where
 go:=λi H s hi=>by
  have hi:i<min ds.length (fB z).length:=by simpa[jZ]using hi
  have l1:=rx.len;have l2:i<z.cps.size:=by have:z.length=z.cps.size:=rfl;lia
  exact⟨xs,xs[i]'∅,z.cps[i],s.seq hx,Ç _,Array.getElem?_eq_getElem l2⟩
 yld:=λi H v H' d s y e=>by
  let⟨p,x,c,hp,rfl,rfl,q1,q2⟩:=y;have hi:=(Ó.mp e).1;have hi:i<min ds.length (fB z).length:=by simpa[jZ]using hi
  have e1:ds[i]?=some ds[i]:=Ç ∅;have e2:(fB z)[i]?=some (.str ⟨#[c]⟩):=by
   unfold fB;rw[Ò,Array.getElem?_toList,q2];rfl
  have ee:(jZ ds (fB z))[i]?=some (.tuple [ds[i],.str ⟨#[c]⟩]):=by unfold jZ;rw[List.getElem?_zipWith,e1,e2]
  rw[ee]at e;cases e;let⟨x',f1,g1⟩:=rx.get e1;have:=q1 xs (s.seq hx);rw[f1]at this;cases this;refine .inr ⟨p,_,hp,rfl,λF2 s2 n=>HD cJ ?_ kG⟩;exact(s2.trans' (dP n _)).rep _ _ g1
 stop:=λH s=>⟨xs,s.seq hx,by
  have l1:=rx.len;have l3:(fB z).length=z.length:=by unfold fB;rw[Â];rfl
  simp![jZ,List.length_zipWith];lia⟩
def FM(f g:M D):M (ZG):=λδ=>(bO [f,g] δ).bind λds δ1=>match ds with
 |[.list as,.str z]=>if as.length<=z.length/\z.cps.all (·<128)=true then .ok (jZ as (fB z)) δ1 else .stuck
 |_=>.stuck
section
variable{X:Cx}{Z:dQ}{ow:ZF}{a b:Expr}{f g:M D}
def RL{es:List Expr}{n:Nat}{tp p2 p3:Pos}(hgl:Gl X "zip")(hm:X.mg "zip"=none)(ha:DE X Z ow 0 a f)(hb:DE X Z ow 0 b g)(hst:↥(starEach [a,b] X.env=(false,eval a X.env)::starEach [b] X.env))(hst2:↥(Zse b [] X.env)):
  DI X Z ow (.Tuple es n tp) (.Call (.Name "zip" p2) [a,b] [] p3) (FM f g):=
 (aEL hgl hm (aG ha (aG hb aV hst2) hst) (hst.trans (by rw[hst2];rfl)) hst2).mono λσ H R q=>by
  let⟨F,δ,Rl,q⟩:=q;unfold FM at q;refine⟨F,δ,Rl,?_⟩;cases e1:bO [f,g] δ with
  |stuck=>rw[e1]at q;exact q.elim
  |ok ds δ1=>
   rw[e1]at q;simp![Res.bind]at q;intro vs H1 F1 R1 s1 ra;split at q
   .rename_i as z
    split at q
    .rename_i hle
     unfold aJ at ra;let⟨x,t,rfl,rx,ra⟩:=ra;unfold aJ at ra;let⟨y,t,rfl,ry,ra⟩:=ra;unfold aJ at ra;subst ra;let⟨l,xs,rfl,hx,rx⟩:=oN rx;have ry:=fI ry;subst ry;exact⟨l,z,rfl,⟨xs,R1.sub.seq hx⟩,hle.2,q _ H1 F1 R1 s1 (ZW hx rx hle.1)⟩
    .exact q.elim
   .exact q.elim
end
def jl(c:Nat):List (ZF)->ZF
 |[]=>[]
 |[p]=>p
 |p::q::r=>p++c::jl c (q::r)
def aJV{c:Nat}:∀{ps qs:List (ZF)},ps≠[]->qs≠[]->(∀p∈ps,c∉p)->(∀p∈qs,c∉p)->jl c ps=jl c qs->ps=qs:=by
 have one:∀{p q r s:ZF},c∉p->c∉q->p++c::r=q++c::s->p=q/\r=s:=by
  intro p
  induction p with
  |nil=>
   intro q r s _ hq e;cases q with
   |nil=>grind
   |cons a q=>grind
  |cons a p ih=>
   intro q r s hp hq e;cases q with
   |nil=>grind
   |cons b q=>
    grind
 intro ps
 induction ps with
 |nil=>grind
 |cons p ps ih=>
  intro qs _ hq h1 h2 e;cases qs with
  |nil=>exact absurd rfl hq
  |cons q qs=>
   cases ps with
   |nil=>
    cases qs with
    |nil=>exact congrArg (λx=>[x]) e
    |cons q2 qs=>
     have e:p=q++c::jl c (q2::qs):=e
     simp_all
   |cons p2 ps=>
    cases qs with
    |nil=>
     have e:p++c::jl c (p2::ps)=q:=e;exact absurd (by rw[<- e];simp) (h2 q Ì)
    |cons q2 qs=>
     let⟨e1,e2⟩:=one (h1 p Ì) (h2 q Ì) e
     grind
def RM{c:Nat}:∀{ps:ZE},(Str.join ⟨#[c]⟩ ps).cps.toList=jl c (ps.map λp=>p.cps.toList)
 |[]=>rfl
 |[p]=>rfl
 |p::q::r=>by
  have ih:=RM (c:=c) (ps:=q::r);show (p++⟨#[c]⟩++Str.join ⟨#[c]⟩ (q::r):Str).cps.toList=_;show (p.cps++#[c]++(Str.join ⟨#[c]⟩ (q::r)).cps).toList=_;rw[Array.toList_append,Array.toList_append,ih];show p.cps.toList++[c]++_=p.cps.toList++c::jl c _
  grind
def RN{c:Nat}:∀{ps:ZE}{a:Array Nat},(ps.foldl (λacc p=>acc++(⟨#[c]⟩:Str).cps++p.cps) a).toList=jl c (a.toList::ps.map λp=>p.cps.toList)
 |[],a=>rfl
 |q::r,a=>by
  rw[List.foldl_cons,RN];cases r with
  |nil=>simp[jl]
  |cons r rs=>simp[jl]
def vL{c:Nat}{p:Str}{ps:ZE}:(Builtin.Str.glued ⟨#[c]⟩ (p::ps)).cps.toList=jl c ((p::ps).map λp=>p.cps.toList):=by
 unfold Builtin.Str.glued;exact RN
def HV{x y:Str}(h:x.cps.toList=y.cps.toList):x=y:=by
 cases x;cases y;exact congrArg Str.mk (Array.toList_inj.mp h)
def RO{α β:Type}{f:α->β}(hf:∀a b,f a=f b->a=b):∀as bs:List α,as.map f=bs.map f->as=bs
 |[],[]=>by intro _;exact rfl
 |[],_::_=>by intro h;cases h
 |_::_,[]=>by intro h;cases h
 |a::as,b::bs=>by
  intro h;rw[Ê,Ê]at h;injection h with h1 h2;rw[hf a b h1,RO hf as bs h2]
def mH{c:Nat}{p:Str}{ps:ZE}(h:∀q∈p::ps,c∉q.cps.toList):Txt.split (Builtin.Str.glued ⟨#[c]⟩ (p::ps)) ⟨#[c]⟩=p::ps:=by
 have e1:=StrLaws.join_split (Builtin.Str.glued ⟨#[c]⟩ (p::ps)) ⟨#[c]⟩;have e2:=StrLaws.split_free (Builtin.Str.glued ⟨#[c]⟩ (p::ps)) c;have e3:=congrArg (λx:Str=>x.cps.toList) e1;rw[RM,vL]at e3;have hne:Txt.split (Builtin.Str.glued ⟨#[c]⟩ (p::ps)) ⟨#[c]⟩≠[]:=by
  unfold Txt.split;split
  .simp
  .split
   .simp
   .intro z
    have:=congrArg List.length z;rw[length_partsBetween]at this;simp at this
 have e4:=aJV (by simpa using hne) (by simp) (λx hx=>by
  grind) (λx hx=>by
  grind) e3
 exact RO (λa b hab=>HV hab) _ _ e4
section
variable{X:Cx}{Z:dQ}{ow ow' ol ox:ZF}{n rm:Nat}{pos:Pos}{e o:Expr}{es:List Expr}{ts us:TS}{te to:TE}{st:Stmt}{rest:List Stmt}
def RP(X:Cx)(n:Nat)(e:Expr)(t:TE):Prop:=
 ∀(U:ZB)(s:Shared)(σ:St)(H:Hp)(Q:VK),bM X U σ H s->n<=s.toks->t σ H Q->wpAny (model X.prog X.w) X.A (eval e X.env) (λv s'=>EP X U σ Q v s'/\1<=s'.toks) X.xe s
def ZX(X:Cx)(n:Nat)(st:Stmt)(t:TS):Prop:=
 ∀(U:ZB)(s:Shared)(σ:St)(H:Hp)(D:DU),bM X U σ H s->n<=s.toks->t D σ H->wpAny (model X.prog X.w) X.A (exec st X.env) (λf s'=>SP X U D f s'/\1<=s'.toks) X.xe s
def D6(X:Cx)(n:Nat)(st:List Stmt)(t:TS):Prop:=
 ∀(U:ZB)(s:Shared)(σ:St)(H:Hp)(D:DU),bM X U σ H s->n<=s.toks->t D σ H->wpAny (model X.prog X.w) X.A (execs st X.env) (SP X U D) X.xe s
def wt{α:Type}{M:Model}{A:Around}{t:Sem α}{Q:α->Shared->Prop}{E:ZA}{s:Shared}(hn:n<=s.toks)(h:wpAny M A t Q E s):wpAny M A t (λa s'=>Q a s'/\n<=s'.toks) E s:=wpAny_mono (wpAny_toks_of hn h) (λ_ _ h=>⟨h.2,h.1⟩) λ_ _ h=>h.2
def PS.tk(h:PS X st ts):ZX X 1 st ts:=λU s σ H D I hn q=>wt hn (h U s σ H D I q)
def T3(h1:ZX X n st ts)(h2:D6 X 1 rest us):D6 X n (st::rest) (Ŵ ts us):=by
 intro U s σ H D I hn h;refine wpAny_execs_cons (dL (h1 U s σ H {D with nx:=us D} I hn h) λf s1 zQ=>?_);let⟨q,h1⟩:=zQ;cases f with
 |next=>
  let⟨σ',H',I',q⟩:=q;exact h2 U s1 σ' H' D I' h1 q
 |ret v=>exact q
 |brk=>exact q
 |cont=>exact q
def ZY(h1:ZX X n st ts):D6 X n [st] ts:=by
 intro U s σ H D I hn h;refine wpAny_execs_cons (dL (h1 U s σ H D I hn h) λf s1 zQ=>?_);let⟨q,_⟩:=zQ;cases f with
 |next=>exact wpAny_execs_nil q
 |ret v=>exact q
 |brk=>exact q
 |cont=>exact q
def ZZ(h:D6 X 0 rest us):JT X rest us:=λU s σ H D I q=>h U s σ H D I (î _) q
def aEM(he:RP X n e te):ZX X n (.Return (some e) pos) (ŵ te):=by
 intro U s σ H D I hn h;exact wpAny_Return_some (dL (he U s σ H _ I hn h) λv s1 zQ=>by let⟨⟨x,H1,I1,r1,q1⟩,h1⟩:=zQ;exact ⟨⟨x,σ,H1,I1,r1,q1⟩,h1⟩)
def aEN{i:Nat}{x:Str}{pos':Pos}(hN:X.N.Nodup)(hi:X.N[i]?=some x)(hx:ď X.env.scope x)(he:RP X n e te)(hs:↥(swapsWith e (some (.Name x pos')) pos.line X.env=pure false))(hf:X.fn x=true\/X.env.scope.names.lookup x=some .local:=by first|exact .inl rfl|exact .inr rfl|assumption):
  ZX X n (.Assign [.Name x pos'] e pos) (VO te (p8 i)):=by
 intro U s σ H D I hn h;refine wpAny_Assign_Name (dL (he U s σ H _ I hn h) λv s1 zQ=>?_) hs;let⟨⟨y,H1,I1,r1,q1⟩,h1⟩:=zQ;exact dL (wt h1 (AR (Q:=λ_ s2=>SP X U D .next s2) I1 hN hi hx r1 (λs2 I2=>⟨_,H1,I2,q1⟩) hf)) λ_ _ h=>h
def aJW{b:Expr}{tb:TE}{name:Str}{apos cpos:Pos}{T id:String}{r:V->List V->Hp->VK->Prop}(pa:PlainAttrs T)(slot:Slot T name id)(hty:typeOf (.builtin id)=pure (.type "method_descriptor"))(hm:Đ X id r)(ho:PE X o to)(hb:RP X 0 b tb)(hbase:↥(attributeBase o name X.env (eval o X.env)=eval o X.env))(hfew:↥(((backTo cpos (starEach [b] X.env)).all (λx=>!x.1) && (backToKw cpos (keywordEach [] X.env)).all (λx=>x.1.isSome)
   && decide (([b]:List Expr).length+([]:List Keyword).length+(if ([]:List Keyword).isEmpty then 0 else 1)<30))=true))(hline:↥((apos.endLine == cpos.line)=true))(hs:↥(Zse b [] X.env)):
  RP X 0 (.Call (.Attribute o name apos) [b] [] cpos) (Ő X.K T r to (P4 tb ĭ)):=by
 intro U s σ H Q I _ h;refine wpAny_Call_method_late hbase hfew hline rfl (dL (ho U s σ H _ I h) λv s1 zQ=>?_);let⟨y,H1,I1,r1,ty,q1⟩:=zQ;let⟨h1,h2⟩:=V0 I1 r1 ty;refine⟨T,id,pa,slot,hty,h1,h2,?_⟩;rw[hs];refine Calls.callWith_builtin rfl (Calls.evalArgs_plain ?_);refine Calls.spliced_cons (dL (hb U s1 σ H1 _ I1 (î _) q1) λu s2⟨⟨x,H2,I2,r2,q2⟩,h2⟩=>Calls.spliced_nil ?_);exact wt h2 (hm U _ σ H2 y [x] v [u] Q I2 r1 (.cons r2 .nil) q2)
def aMY(y z:Str)(to:TE):TE:=λσ H Q=>to σ H λx H1=>∃w,x=.str w/\w.length<=1048576/\Q (.str (Txt.replace w y z)) H1
def Z0{apos cpos p1 p2:Pos}{y z:Str}{k1 k2:Nat}(ho:PE X o to)(hyz:(y == z)=false)(hz:z.length<=14)(hbase:↥(attributeBase o "replace" X.env (eval o X.env)=eval o X.env))(hfew:↥(((backTo cpos (starEach [.Constant (.str y) k1 p1,.Constant (.str z) k2 p2] X.env)).all (λx=>!x.1) && (backToKw cpos (keywordEach [] X.env)).all (λx=>x.1.isSome)
   && decide (([.Constant (.str y) k1 p1,.Constant (.str z) k2 p2]:List Expr).length+([]:List Keyword).length+(if ([]:List Keyword).isEmpty then 0 else 1)<30))=true))(hline:↥((apos.endLine == cpos.line)=true))(hs:↥(starEach [.Constant (.str y) k1 p1,.Constant (.str z) k2 p2] X.env=(false,eval (.Constant (.str y) k1 p1) X.env)::(false,eval (.Constant (.str z) k2 p2) X.env)::starEach [] X.env)):
  RP X 1 (.Call (.Attribute o "replace" apos) [.Constant (.str y) k1 p1,.Constant (.str z) k2 p2] [] cpos) (aMY y z to):=by
 intro U s σ H Q I hn h;refine wpAny_Call_method_late hbase hfew hline rfl (dL (wt hn (ho U s σ H _ I h)) λv s1 zQ=>?_);let⟨⟨x,H1,I1,r1,w,ew,hw,q1⟩,hs1⟩:=zQ;subst ew;let⟨tk,rfl⟩:=r1;refine⟨"str","str.replace",F.plainAttrs_str,F.slot_str_replace,F.type_str_replace,typeIs_str _ _ _,(λ_ e=>nomatch e),?_⟩;rw[hs];refine Calls.callWith_builtin rfl (Calls.evalArgs_plain ?_);refine Calls.spliced_cons (Calls.Constant_str (k:=k1) (pos:=p1) (Calls.spliced_cons (Calls.Constant_str (k:=k2) (pos:=p2) (Calls.spliced_nil ?_))));exact wt (n:=1) (Nat.le_add_left _ _) (SC.replaceW ∅ (by show s1.toks+1≠0;lia) (by show s1.toks≠s1.toks+1;lia) hyz hw hz λt' k=>⟨.str _,H1,I1.tok k,⟨t',rfl⟩,q1⟩)
def RP.mono{t':TE}(h:RP X n e te)(hm:∀σ H Q,t' σ H Q->te σ H Q):RP X n e t':=λU s σ H Q I hn q=>h U s σ H Q I hn (hm σ H Q q)
def ZX.mono{t':TS}(h:ZX X n st ts)(hm:∀D σ H,t' D σ H->ts D σ H):ZX X n st t':=λU s σ H D I hn q=>h U s σ H D I hn (hm D σ H q)
def D6.mono{t':TS}(h:D6 X n rest ts)(hm:∀D σ H,t' D σ H->ts D σ H):D6 X n rest t':=λU s σ H D I hn q=>h U s σ H D I hn (hm D σ H q)
def ą(X:Cx)(Z:dQ)(ow:ZF)(n m:Nat)(e:Expr)(f:M D):Prop:=RP X n e (tD X Z ow m f)
def ģ(X:Cx)(Z:dQ)(ow ow' ol ox:ZF)(rm n:Nat)(st:Stmt)(f:M Fl):Prop:=ZX X n st (tS X Z ow ow' ol ox rm f)
def Z1(X:Cx)(Z:dQ)(ow ow' ol ox:ZF)(rm n:Nat)(st:List Stmt)(f:M Fl):Prop:=D6 X n st (tS X Z ow ow' ol ox rm f)
variable{f:M D}{u v:M Fl}{ow1:ZF}{m:Nat}
def aJX(h:NK X Z ow ow' ol ox rm st u):ģ X Z ow ow' ol ox rm 1 st u:=PS.tk h
def FN(h1:ģ X Z ow ow1 ol ox rm n st u)(h2:Z1 X Z ow1 ow' ol ox rm 1 rest v):Z1 X Z ow ow' ol ox rm n (st::rest) (aQ u v):=D6.mono (T3 h1 h2) λDn σ H h=>by
 let⟨F,δ,R,h⟩:=h;unfold aQ at h;refine⟨F,δ,R,?_⟩;cases e:u δ with
 |stuck=>rw[e]at h;exact h.elim
 |ok fl δ1=>
  rw[e]at h;simp![Res.bind]at h;cases fl with
  |next=>exact λσ' H' F' R' s'=>⟨F',δ1,R',h.mono s'⟩
  |brk=>exact h
  |cont=>exact h
  |ret d=>exact h
def LG(h1:ģ X Z ow ow' ol ox rm n st u):Z1 X Z ow ow' ol ox rm n [st] u:=ZY h1
def aJY(h:Z1 X Z ow ow' ol ox rm 0 rest u):QD X Z ow ow' ol ox rm rest u:=ZZ h
def RQ(h:ą X Z ow n rm e f):ģ X Z ow ow' ol ox rm n (.Return (some e) pos) (cA f):=ZX.mono (aEM h) λDn σ H h=>by
 let⟨F,δ,R,h⟩:=h;unfold cA at h;refine⟨F,δ,R,?_⟩;cases e:f δ with
 |stuck=>rw[e]at h;exact h.elim
 |ok d δ1=>
  rw[e]at h;exact λv H' F' R' s'=>h v σ H' F' ow R' s'
def aEP(i:Nat){x:Str}{pos':Pos}(S:bH Z ow)(h:ą X Z ow n m e f)(hN:X.N.Nodup)(hi:↥(X.N[i]?=some x))(hx:#v[ď X.env.scope x])(hps:↥(Z.ps.contains i=false))(hl:⇑(i<ow.length))(hs:↥(swapsWith e (some (.Name x pos')) pos.line X.env=pure false))(hf:X.fn x=true\/X.env.scope.names.lookup x=some .local:=by first|exact .inl rfl|exact .inr rfl|assumption):
  ģ X Z ow (ow.set i m) ol ox rm n (.Assign [.Name x pos'] e pos) (bT i f):=ZX.mono (aEN hN hi hx h hs hf) λDn σ H h=>AE S (bQ hps) hl h
def aEQ{x:Str}{k:Nat}:ą X Z ow 0 0 (.Constant (.str x) k pos) (dC (.str x)):=λU s σ H Q I _ zQ=>by let⟨F,δ,⟨g,R⟩,h⟩:=zQ;exact Calls.Constant_str ⟨⟨.str x,H,I.tok _,⟨_,rfl⟩,h _ H F ⟨g,R,kG (K:=X.K) (F:=F)⟩ (aW.refl _)⟩,Nat.le_add_left _ _⟩
def aJZ(S:bH Z ow)(h:ą X Z ow n m e f):ą X Z ow n 0 e f:=RP.mono h λσ H Q h=>by
 let⟨F,δ,R,h⟩:=h;refine⟨F,δ,R,?_⟩;cases e:f δ with
 |stuck=>rw[e]at h;exact h.elim
 |ok d δ1=>
  rw[e]at h;intro v H1 F1 R1 s1;let⟨F2,s2,R2⟩:=R1.freeze S;exact h v H1 F2 R2 (s1.trans' s2)
def T5{a b:Expr}{k:M D}{p:Pos}(S:bH Z ow)(ha:DE X Z ow 0 a f)(hb:ą X Z ow 0 0 b k)(hbase:↥(attributeBase a "split" X.env (eval a X.env)=eval a X.env))(hfew:↥(((backTo pos (starEach [b] X.env)).all (λx=>!x.1) && (backToKw pos (keywordEach [] X.env)).all (λx=>x.1.isSome)
   && decide ([b].length+([]:List Keyword).length+(if ([]:List Keyword).isEmpty then 0 else 1)<30))=true))(hline:↥((p.endLine == pos.line)=true))(hs:↥(Zse b [] X.env)):
  ą X Z ow 0 1 (.Call (.Attribute a "split" p) [b] [] pos) (uC fV f k):=RP.mono (aJW PySem.F.plainAttrs_str PySem.F.slot_str_split PySem.F.type_str_split LD ha hb hbase hfew hline hs) λσ H Q q=>HS (r:=OC) (λy z d F H σ δ Q e R q=>by
 unfold fV at e;split at e
 .rename_i h
  cases e;exact⟨y,z,rfl,rfl,by simpa using h.1,h.2,λp hp=>q _ _ F (R.newList S hp BU) (aW.refl _)⟩
 .cases e) q
def LH(y z:Str):D->ZJ
 |.str w=>if w.length<=1048576 then some (.str (Txt.replace w y z))else none
 |_=>none
def Z2{apos cpos p1 p2:Pos}{y z:Str}{k1 k2:Nat}(ho:DE X Z ow 0 o f)(hyz:⇑((y == z)=false))(hz:⇑(z.length<=14))(hbase:↥(attributeBase o "replace" X.env (eval o X.env)=eval o X.env))(hfew:↥(((backTo cpos (starEach [.Constant (.str y) k1 p1,.Constant (.str z) k2 p2] X.env)).all (λx=>!x.1) && (backToKw cpos (keywordEach [] X.env)).all (λx=>x.1.isSome)
   && decide (([.Constant (.str y) k1 p1,.Constant (.str z) k2 p2]:List Expr).length+([]:List Keyword).length+(if ([]:List Keyword).isEmpty then 0 else 1)<30))=true))(hline:↥((apos.endLine == cpos.line)=true))(hs:↥(starEach [.Constant (.str y) k1 p1,.Constant (.str z) k2 p2] X.env=(false,eval (.Constant (.str y) k1 p1) X.env)::(false,eval (.Constant (.str z) k2 p2) X.env)::starEach [] X.env)):
  ą X Z ow 1 0 (.Call (.Attribute o "replace" apos) [.Constant (.str y) k1 p1,.Constant (.str z) k2 p2] [] cpos) (t6 (LH y z) f):=RP.mono (Z0 ho hyz hz hbase hfew hline hs) λσ H Q h=>by
 let⟨F,δ,R,q⟩:=Ŧ (T:=λw v=>w.length<=1048576/\v=.str (Txt.replace w y z)) (λd r e=>by
  cases d with
  |str w=>
   by_cases hw:w.length<=1048576
   .simp![LH,Á hw,Option.some.injEq]at e
    subst e;exact⟨w,_,rfl,⟨hw,rfl⟩,rfl⟩
   .simp![LH,Ã hw]at e
    cases e
  |_=>cases e) h
 refine⟨F,δ,R,?_⟩;cases e:f δ with
 |stuck=>rw[e]at q;exact q
 |ok d δ1=>
  rw[e]at q;intro v H1 F1 R1 s1;let⟨w,_,h1,⟨h2,rfl⟩,h3⟩:=q v H1 F1 R1 s1;exact⟨w,h1,h2,h3⟩
end
structure ę(P:Program)(w:World)(K:ZC)(mg:ZD)(base:Heap)(CX:SY)(k:Nat)(f:Addr)(fd:FuncData)(ps:ZE)(sp:Sp):Prop where
 len:∀vs H Q E,sp vs H Q E->vs.length=ps.length
 run:∀(A:Around)(outer:List Env)(s:Shared)(H:Hp)(args:Args)(us:ZH)(vs:List V)(Q:VK)(E:XK),gN k A->1<=s.toks->J7 P w K mg base A outer s H->BindsTo s fd args (ps.zip us)->b7 vs us->sp vs H Q E ->
  codeAny (model P w) A (.call (.ref f) args) (CR CX outer P w H s Q E) s
section
variable{P:Program}{w:World}{K:ZC}{mg:ZD}{base:Heap}{CX:SY}
def sP.tk{k:Nat}{f:Addr}{fd:FuncData}{ps:ZE}{sp:Sp}(F:sP P w K mg base CX k f fd ps sp):ę P w K mg base CX k f fd ps sp:=
 ⟨F.len,λA outer s H args us vs Q E hr _=>F.run A outer s H args us vs Q E hr⟩
def aJ0{k:Nat}{f:Addr}{name qual:Str}{params:Arguments}{body:List Stmt}{scope:Scope}{dV kV doc pm cdv ct oc:Value}{an od:Option Addr}{osl:Array (ZL)}{N ps:ZE}{sp:Sp}(lk:K.lookup f=some ⟨oc,od,.func (W.fnOf name qual params body scope dV kV doc pm an cdv ct),osl⟩)(hcd:W.codeIn K cdv qual=true)(S:aS N ps scope)(len:∀vs H Q E,sp vs H Q E->vs.length=ps.length)(hbody:∀(A:Around)(outer:List Env)(s:Shared)(H:Hp)(vs:List V)(Q:VK)(E:XK),gN k (A.deeper (envOfC qual scope s.heap.objs.size f cdv))->sp vs H Q E ->
   ∃t,D6 (wG CX P w K mg base N qual scope f cdv A outer s H E) 1 body t/\t {nx:=λ_ H'=>Q .non H',rt:=Q} (f6 N vs) H):
  ę P w K mg base CX (k+1) f (W.fnOf name qual params body scope dV kV doc pm an cdv ct) ps sp:=by
 refine⟨len,λA outer s H args us vs Q E hr ht1 e0 hb r hsp=>?_⟩;have hl:=len _ _ _ _ hsp;have KX:K.In s.heap:=e0.mod.kin.keeps λb o e=>(e0.bs b o e).1;have lim:s.heap.NoLimit:=e0.mod.nolimit.keeps λb o e=>(e0.bs b o e).1;have hkind:∀y∈ps.zip us,scope.names.lookup y.1=some .local\/(scope.names.lookup y.1=some .cell/\((cellsFrom (s.heap.objs.size+1) scope.names []).lookup y.1).isSome=true):=λ⟨n,v⟩hy=>by
  rcases S.par n (List.of_mem_zip hy).1 with q|q
  .exact .inl q
  .exact .inr ⟨q,W.cellsFrom_some _ _ _ (.inl q)⟩
 refine codeAny_call_function hr.depth (KX _ _ lk) rfl S.co S.gen rfl (W.codeRec_of KX hcd) (hb _ _ _ _ ?_);refine wpAny_with_toks ht1 (wpAny_newFunctionEnv_cells S.kind hkind λenv he s1 x h1=>?_);subst he;refine⟨lim.keeps x.toInCall.keep,codeAny_func ?_⟩;let⟨t,ht,hq⟩:=hbody A outer s H vs Q E (hr.deeper _) hsp;have I:bM (wG CX P w K mg base N qual scope f cdv A outer s H E) [] (f6 N vs) H s1:=EZ S hr.hd e0 hl r x;refine wpAny_mono (ht [] s1 (f6 N vs) H _ I h1 hq) (λfl s' hs=>?_) λe s' hs=>hs;have fin:∀{σ':St}{H':Hp}{v:V}{u:Value},bM (wG CX P w K mg base N qual scope f cdv A outer s H E) [] σ' H' s'->cR v u->Q v H'->CE outer P w H s Q u s':=
  λ{σ' H' v u}J rv q=>⟨v,H',J.os,J.bare,J.base,J.hok,rv,q⟩
 cases fl with
 |ret u=>
  let⟨v,σ',H',J,rv,q⟩:=hs;exact fin J rv q
 |next=>
  let⟨σ',H',J,q⟩:=hs;exact fin (v:=V.non) (u:=Value.none) J rfl q
 |brk=>
  let⟨_,_,_,q⟩:=hs;exact False.elim q
 |cont=>
  let⟨_,_,_,q⟩:=hs;exact False.elim q
def Fd.okT{x qual:Str}{st:Stmt}{N:ZE}{k lev rm:Nat}{ps owp:ZF}{body:M Fl}(X:Fd K x qual st N k)(hb:∀{cdv:Value}{A:Around}{outer:List Env}{s:Shared}{H:Hp}{E:XK}{F0:Hp}{g0:ZN}{σ0:St}{wf:∀a i q,g0 a=some (i,q)->i∈ps}(_:X.fd.code=cdv)(_:gN lev (A.deeper (envOfC qual (aL st) s.heap.objs.size X.f cdv)))(_:N.Nodup),
   Z1 (wG (E7 P w K) P w K mg base N qual (aL st) X.f cdv A outer s H E) ⟨F0,H,g0,ps,σ0,owp,wf⟩ owp owp owp owp rm 1 (fH st) body)(h:ť N k (aL st)=true:=by decide +kernel)(hN:↥(owp.length=N.length)):
  ę P w K mg base (E7 P w K) (lev+1) X.f X.fd (N.take k) (NL K (N.take k) ps owp rm (bK owp.length ps rm body)):=by
 rw[hN];have S:=bU h;let⟨oc,od,kV,doc,pm,an,cdv,ct,osl,efd,lk,hcd⟩:=X.F.ex;have hb:=@hb;rw[efd]at hb lk⊢;refine aJ0 lk hcd S (λvs H Q E h=>h.1) λA outer s H vs Q E hr h=>?_;let⟨hl,F,g,ds,hL,hs,hd,hg,hv,q⟩:=h;let Z:dQ:=⟨F,H,g,ps,f6 N vs,owp,hg⟩;let pn:=N.take k;let ow':=owp;refine⟨_,hb rfl hr S.nd (σ0:=f6 N vs) (wf:=hg),F,ds.map some++List.replicate (N.length-ds.length) none,⟨g,hs,⟨hL,aW.refl _⟩,λ_ _ _ e=>e,λ_ h _=>h,λ_ h=>h,λa i p e=>.inr ⟨p,e⟩,?_,λi _=>⟨rfl,rfl⟩,λi d' e=>?_⟩,?_⟩
 .have hpl:pn.length<=N.length:=by have:=congrArg List.length S.pre;rw[ì]at this;lia
  unfold f6;simp![Î,Â,é,hd]
 .have hi:i<ds.length:=by
   by_cases hi:i<ds.length
   .exact hi
   .rw[Þ (by simpa using hi),ÿ]at e
    split at e<;>cases e
  rw[ã (by simpa using hi),Ò,Ç hi]at e;have ed:ds[i]?=some d':=by
   rw[Ç hi];simpa using e
  have hi':i<vs.length:=by exact þ ‹_› ‹_›
  refine⟨vs[i],?_,hv i d' _ ed (Ç hi')⟩;unfold f6;rw[ã (by simpa using hi'),Ò,Ç hi'];rfl
 .have fin:∀{rm:Nat}{d0:D}{δ:DS}{v:V}{σ':St}{H' F':Hp}{owr:ZF}{os:ZG},iF K Z owr rm d0 v F' H' σ' δ->f8 δ ps=some os->∃g',ĳ K ps owp rm F H g vs F' H' g' ((os.map some).filterMap id) d0 v:=λ{rm d0 δ v σ' H' F' owr os}R ho=>by
   have eo:(os.map some).filterMap id=os:=by rw[List.filterMap_map];exact List.filterMap_some
   rw[eo];let⟨g',R,o⟩:=R;let⟨ol,oa⟩:=wL ho;refine⟨g',R.f0.2,R.sub,R.kept,R.new,R.there,R.lab,o,ol,λk i d' h1 h2=>?_⟩;let⟨v',e1,o1⟩:=R.slot i d' (oa k i d' h1 h2);let⟨p1,p2⟩:=R.par i (ä h1);rw[show Z.owp=owp from rfl]at p2;rw[p2]at o1;refine⟨v',?_,o1⟩;rw[p1]at e1;have e1:(f6 N vs)[i]?=some (some v'):=e1;unfold f6 at e1;by_cases hi:i<vs.length
   .rw[ã (by simpa using hi),Ò,Ç hi]at e1
    rw[Ç hi];simpa using e1
   .rw[Þ (by simpa using hi),ÿ]at e1
    split at e1<;>cases e1
  unfold bK at q;cases e:body (ds.map some++List.replicate (N.length-ds.length) none)with
  |stuck=>rw[e]at q;exact q.elim
  |ok fl δ=>
   rw[e]at q;cases fl with
   |brk=>exact q.elim
   |cont=>exact q.elim
   |ret d0=>
    dsimp only at q;intro v σ' H' F' owr R _;cases ho:f8 δ ps with
    |none=>rw[ho]at q;exact q.elim
    |some os=>
     rw[ho]at q;let⟨g',T⟩:=fin R ho;exact q v H' F' g' T
   |next=>
    dsimp only at q;intro σ' H' F' R _;by_cases hrm:rm=0
    .rw[Á hrm]at q
     cases ho:f8 δ ps with
     |none=>rw[ho]at q;exact q.elim
     |some os=>
      rw[ho]at q;let⟨g',R⟩:=R;have RX:iF K Z ow' rm .none .non F' H' σ' δ:=⟨g',R,by rw[hrm];show cI K F' .none .non;unfold cI;rfl⟩;let⟨g2,T⟩:=fin RX ho;exact q .non H' F' g2 T
    .rw[Ã hrm]at q;exact q.elim
end
section
variable{X:Cx}{Z:dQ}{ow:ZF}{pos p ipos:Pos}{i e:Expr}{es:List Expr}{ty:TE}{ta:TA}{x:Str}{À:List (Str×Addr)}
def Ĥ(À:List (Str×Addr)):(List (eA×V)):=À.map λp=>(.inr p.1,.ref p.2)
structure OF(P:Program)(w:World)(K:ZC)(mg:ZD)(x:Str)(À:List (Str×Addr)):Prop where
 ex:∃a o es ep vs,mg x=some (.ref a)/\K.lookup a=some o/\(a == sysModules)=false/\o.ExactDict/\o.data=.dict es ep/\KeysOf (cF P w) es/\Pairs (cF P w) es.toList vs/\(vs.map (·.1)).Nodup/\KV (Ĥ À) vs
def Z3{z:Str}:∀{À:List (Str×Addr)},pZ (Ĥ À) (.inr z)=(À.lookup z).map V.ref
 |[]=>rfl
 |(y,v)::À=>by
  show pZ ((.inr y,.ref v)::Ĥ À) (.inr z)=_;by_cases e:y=z
  .subst e
   rw[n6 rfl,æ,beq_self_eq_true];rfl
  .have e2:(z == y)=false:=by simpa using λh=>e h.symm
   rw[n8 (λh=>e (by cases h;rfl)),Z3,æ,e2]
def OF.dict(G:OF X.prog X.w X.K X.mg x À):∃a vs,X.mg x=some (.ref a)/\(a == sysModules)=false/\KV (Ĥ À) vs/\∀{U σ H s},bM X U σ H s->s.heap.DictOf (cF X.prog X.w) a vs:=by
 let⟨a,o,es,ep,vs,h1,h2,h3,h4,h5,h6,h7,h8,h9⟩:=G.ex;exact⟨a,vs,h1,h3,h9,λI=>⟨o,es,ep,I.bk _ _ (I.ok.mod.kin _ _ h2),h4,h5,h6,h7,h8⟩⟩
def Z4(G:OF X.prog X.w X.K X.mg x À)(hg:Gl X x)(hi:PE X i ty)(hs:K3 i)(hd:⇑(Zdb x)):PE X (.Subscript (.Name x p) i pos) (λσ H Q=>ty σ H λy H1=>∃z v,y=.str z/\À.lookup z=some v/\Q (.ref v) H1):=by
 intro U s σ H Q I h;let⟨a,vs,h1,h3,rel,dd⟩:=G.dict;refine HL PySem.F.slot_dict_getitem.lookup hs (rZ I hg h1 (dL (hi U s σ H _ I h) λiv s2⟨y,H2,I2,ry,z,v,ey,l,q2⟩=>?_) hd);subst ey;have dd:=dd I2;refine⟨dd.typeIs,?_⟩;let⟨w',hw,rw'⟩:=pX.some_of (v:=.ref v) (o:=valueAt vs (.inr z)) (by
  have:=rel.val (.inr z);rw[Z3,l]at this;exact this)
 exact wpAny_getItem_of (k:=.inr z) (qH (k:=.inr z) ry) dd.mapOf hw ⟨.ref v,H2,I2.tok _,rw',q2⟩
structure Ũ(X:Cx)(k:Nat)(pn:ZE)(fa:Addr)(sp:Sp):Prop where
 ex:∃fd,ę X.prog X.w X.K X.mg X.base (E7 X.prog X.w X.K) k fa fd pn sp/\W.keepIn X.K (.ref fa)=true/\pP X.K fd pn []
def aM1(X:Cx)(k:Nat)(pn:ZE)(À:List (Str×Addr))(ty:TE)(ta:TA):TE:=λσ H Q=>ty σ H λy H1=>∃z v,y=.str z/\À.lookup z=some v/\∃fa sp,V.ref v=.ref fa/\Ũ X k pn fa sp/\ta σ H1 λvs H2=>sp vs H2 Q (EX X σ)
def aER{k:Nat}{pn:ZE}(G:OF X.prog X.w X.K X.mg x À)(hg:Gl X x)(hi:PE X i ty)(hs:K3 i)(hr:gN k X.A)(ha:PA X (e::es) ta)(hd:⇑(Zdb x))(he:↥(Zse e es X.env))(hpl:↥(Zbt pos es X.env)):
  RP X 1 (.Call (.Subscript (.Name x p) i ipos) (e::es) [] pos) (aM1 X k pn À ty ta):=by
 intro U s σ H Q I hn h;refine wt hn ?_;show wpAny _ _ (eval (.Subscript (.Name x p) i ipos) X.env >>= λf=>callWith pos f [] (backTo pos (starEach (e::es) X.env)) []) _ _ _;refine wpAny_bind (dL (wt hn (Z4 G hg hi hs hd U s σ H (λv H1=>∃fa sp,v=.ref fa/\Ũ X k pn fa sp/\ta σ H1 λvs H2=>sp vs H2 Q (EX X σ)) I h)) λfv s1 zQ=>?_);let⟨⟨v,H1,I1,r1,fa,sp,ev,ans,q1⟩,h1⟩:=zQ
 .subst ev
  cases r1;let⟨fd,Fk,hk,hb⟩:=ans.ex;refine W.callWith_K (h₀:=X.base) I1.ok.mod.kin hk (dL (wt h1 (ha pos U s1 σ H1 _ I1 q1)) λus s2⟨⟨vs,H2,I2,r,q⟩,h2⟩=>⟨I2.kIn,?_⟩) he hpl;have hl:us.length=pn.length:=by rw[<- r.length];exact Fk.len _ _ _ _ q
  have hb':=hb s2 us I2.kIn (by rw[Û];exact hl);rw[Û]at hb';refine wpAny_call (codeAny_mono (Fk.run X.A X.stack s2 H2 ⟨us,[]⟩ us vs Q (EX X σ) hr h2 I2.env0 hb' r q) λr s' hq=>?_);cases r with
  |error e=>exact hq.elim
  |ok fl=>
   cases fl with
   |ret u=>exact I2.after hq
   |next=>exact False.elim hq
   |brk=>exact False.elim hq
   |cont=>exact False.elim hq
abbrev Z5:=List (Str×ZF×(ZG->Res D))
def FO(ents:Z5)(f:M D)(as:List Arg):M D:=λδ=>(f δ).bind λy δ1=>match y with
 |.str z=>(match ents.lookup z with
  |some e=>aM e.2 as δ1
  |none=>.stuck)
 |_=>.stuck
def Ŀ(X:Cx)(À:List (Str×Addr))(k:Nat)(pn:ZE)(ps:ZF)(rm:Nat)(ents:Z5):Prop:=∀z e,ents.lookup z=some e->∃fa,À.lookup z=some fa/\Ũ X k pn fa (NL X.K pn ps e.1 rm e.2)
variable{k rm:Nat}{pn:ZE}{ps:ZF}{ents:Z5}{f:M D}{as:List Arg}
def aET:Ŀ X À k pn ps rm []:=λz e h=>by cases h
def qJ{z:Str}{owp:ZF}{fn:ZG->Res D}{fa:Addr}{fd:FuncData}{lev:Nat}(F:ę X.prog X.w X.K X.mg X.base (E7 X.prog X.w X.K) lev fa fd pn (NL X.K pn ps owp rm fn))(hk:W.keepIn X.K (.ref fa)=true)(hb:pP X.K fd pn [])(hl:À.lookup z=some fa)(h:Ŀ X À k pn ps rm ents)(hlev:⇑(lev<=k)):Ŀ X À k pn ps rm ((z,owp,fn)::ents):=λy e he=>by
 rw[æ]at he;split at he
 .rename_i hz
  cases he;have:y=z:=by simpa using hz
  subst this;exact⟨fa,hl,fd,⟨F.len,λA outer s H args us vs Q E hr=>F.run A outer s H args us vs Q E (hr.mono hlev)⟩,hk,hb⟩
 .exact h y e he
def BW{β:Type}{z:Str}{b:β}:∀{l:List (Str×β)},l.lookup z=some b->(z,b)∈l
 |(y,c)::l,h=>by
  rw[æ]at h;split at h
  .rename_i hz
   cases h;have:z=y:=by simpa using hz
   rw[this];exact Ì
  .exact É _ (BW h)
def Z6(G:OF X.prog X.w X.K X.mg x À)(hi:DE X Z ow 0 i f)(hr:gN k X.A)(hA:Ŀ X À k pn ps rm ents)(ha:DA X Z ow (e::es) as)(S:bH Z ow:=by exact aI)(hg:Gl X x:=by exact rfl)(hs:K3 i:=by exact λ_ _=>rfl)(hl:↥(as.length=pn.length))(hps:↥(g7 0 as=ps))(nd:↥(decide (bP as).Nodup=true))(hm:↥((ents.all λe=>fZ e.2.1 ow 0 as)=true))(hlt:⇑(as.length<=1000))(hd:⇑(Zdb x))(he:↥(Zse e es X.env))(hpl:↥(Zbt pos es X.env)):
  ą X Z ow 1 rm (.Call (.Subscript (.Name x p) i ipos) (e::es) [] pos) (FO ents f as):=RP.mono (aER (k:=k) (pn:=pn) G hg hi hs hr ha hd he hpl) λσ H Q h=>by
 let⟨F,δ,R,h⟩:=h;unfold FO at h;refine⟨F,δ,R,?_⟩;cases e1:f δ with
 |stuck=>rw[e1]at h;exact h.elim
 |ok y δ1=>
  rw[e1]at h;simp![Res.bind]at h;intro v H1 F1 R1 s1;cases y with
  |str z=>
   dsimp only at h;cases e2:ents.lookup z with
   |none=>rw[e2]at h;exact h.elim
   |some en=>
    rw[e2]at h;let⟨fa,l,ans⟩:=hA z en e2;have hm1:fZ en.1 ow 0 as=true:=ß.mp hm (z,en) (BW e2);exact⟨z,fa,fI R1.rep,l,fa,_,rfl,ans,A6 (rm:=rm) S hl hps nd hm1 hlt ⟨F1,δ1,R1.rel,kD.mono h s1 λ_ _ h=>h⟩⟩
  |_=>exact h.elim
def Z7(P:Program)(w:World):List DictEntry->List (Str×Addr)->Prop
 |[],[]=>True
 |e::es,(k,v)::À=>e.hash=(cF P w).hash (.inr k)/\(∃t,e.key=.str k t)/\e.val=.ref v/\Z7 P w es À
 |_,_=>False
def Z7.all{P:Program}{w:World}:∀{es:List DictEntry}{À:List (Str×Addr)},Z7 P w es À->∃vs:List (eA×Value),(∀e∈es,∃k,(cF P w).is k e.key=true/\e.hash=(cF P w).hash k)/\Pairs (cF P w) es vs/\vs.map (·.1)=À.map (λp=>(.inr p.1:eA))/\KV (Ĥ À) vs
 |[],[],_=>⟨[],λe he=>(by cases he),.nil,rfl,.nil⟩
 |e::es,(k,v)::À,h=>by
  let⟨h1,⟨t,h2⟩,h3,h4⟩:=h;let⟨vs,g1,g2,g3,g4⟩:=Z7.all h4;have ik:(cF P w).is (.inr k) e.key=true:=by rw[h2];exact qH (k:=.inr k) ⟨t,rfl⟩
  refine⟨(.inr k,.ref v)::vs,λe' he'=>?_,.cons ik h3 g2,by rw[Ê,Ê,g3],.cons ⟨rfl,rfl⟩ g4⟩;rcases Å.mp he' with rfl|he'
  .exact⟨.inr k,ik,h1⟩
  .exact g1 e' he'
def aM2{P:Program}{w:World}{K:ZC}{mg:ZD}{h:Heap}{a:Addr}{es:Array DictEntry}{ep:Nat}(X:K.In h)(G:h.Ns mainGlobals mg)(y:W.nsIn K mainGlobals x=some (some (.ref a)))(l:K.lookup a=some ⟨.type "dict",none,.dict es ep,#[]⟩)(hs:(a == sysModules)=false)(he:Z7 P w es.toList À)(nd:(À.map (·.1)).Nodup):OF P w K mg x À:=by
 let⟨vs,g1,g2,g3,g4⟩:=he.all;refine⟨a,_,es,ep,vs,W.mg_of X G y,l,hs,⟨rfl,rfl,rfl⟩,rfl,λe he=>g1 e (Array.mem_toList_iff.mpr he),g2,?_,g4⟩;rw[g3,show (À.map λp=>(.inr p.1:eA))=(À.map (·.1)).map Sum.inr by rw[Õ];rfl];exact List.Pairwise.map _ (λ_ _ h e=>h (Sum.inr.inj e)) nd
end
section
variable{X:Cx}{Z:dQ}{ow:ZF}{m i:Nat}{pos:Pos}{F H:Hp}{σ:St}{δ:DS}{g:ZN}{K:ZC}
def aJ.erase{F:Hp}{ds:ZG}{vs:List V}(h:aJ K F ds vs)(n:Nat):aJ K F (ds.eraseIdx n) (vs.eraseIdx n):=
 aJ.of (by rw[List.length_eraseIdx,List.length_eraseIdx,h.len]) λk d v e1 e2=>by
  rw[List.getElem?_eraseIdx]at e1 e2;split at e1
  .rename_i hk;rw[Á hk]at e2;exact h.both k d v e1 e2
  .rename_i hk;rw[Ã hk]at e2;exact h.both _ d v e1 e2
def LI(i:Nat)(fk fe:M D):M D:=λδ=>match δ[i]?,fk δ,fe δ with
 |some (some (.list ds)),.ok (.int k) _,.ok (.int e) _=>(match mT ds.length k with
  |some j=>(match ds[j]? with
   |some (.list inner)=>(match mT inner.length e with
    |some n=>(match inner[n]? with
     |some d=>if inner.length<=1000 then .ok d (δ.set i (some (.list (ds.set j (.list (inner.eraseIdx n))))))else .stuck
     |none=>.stuck)
    |none=>.stuck)
   |_=>.stuck)
  |none=>.stuck)
 |_,_,_=>.stuck
def aEU(i m:Nat){x:Str}{p p2 q:Pos}{ek e:Expr}{fk fe:M D}(hk:∀F H σ,DE X (mX F H σ m) (List.replicate m 0) 0 ek fk)(he:∀F H σ,DE X (mX F H σ m) (List.replicate m 0) 0 e fe)(ho:↥(ow.getD i 0=2))(hN:↥(X.N[i]?=some x))(hv:#v[JZ X.env.scope x])(hd:⇑(Zdb x))(hcd:⇑(Zcd x))(hp:uY ek:=by exact λ_ _=>rfl)(hbase:↥(attributeBase (.Subscript (.Name x p) ek p2) "pop" X.env (eval (.Subscript (.Name x p) ek p2) X.env)=eval (.Subscript (.Name x p) ek p2) X.env))(hfew:↥(((backTo pos (starEach [e] X.env)).all (λx=>!x.1) && (backToKw pos (keywordEach [] X.env)).all (λx=>x.1.isSome)
   && decide (([e]:List Expr).length+([]:List Keyword).length+(if ([]:List Keyword).isEmpty then 0 else 1)<30))=true))(hline:↥((q.endLine == pos.line)=true))(hst:↥(Zse e [] X.env))(hplain:↥(Zbt pos [] X.env)):
  DE X Z ow 0 (.Call (.Attribute (.Subscript (.Name x p) ek p2) "pop" q) [e] [] pos) (LI i fk fe):=PE.mono (E0 PySem.F.plainAttrs_list PySem.F.slot_list_pop PySem.F.type_list_pop V2 (P6 AC (iG hN hv hd hcd) (N3 m hk) hp) (iI (N3 m he) oH hst) hbase hfew hline hst hplain) λσ H Q h=>by
 let⟨F,δ,⟨g,R⟩,h⟩:=h;unfold LI at h;split at h
 .rename_i ds k δ2 e δ3 e0 e1 e2
  split at h
  .rename_i j e3
   split at h
   .rename_i inner e4
    split at h
    .rename_i n e5
     split at h
     .rename_i d e6
      split at h
      .rename_i hl
       let⟨a,vs,b,ws,q1,q2,q3,q4,q5,q6⟩:=R.at2 ho e0 e4;refine⟨_,q1,RJ m R e1 λH2 t2=>?_⟩;have R2:=R.grow t2;refine⟨a,vs,k,.ref b,rfl,rfl,gM.of (t2 _ _ q2),?_,.inl ⟨rfl,ws,gM.of (t2 _ _ q5)⟩,RJ m R2 e2 λH3 t3=>?_⟩
       .unfold atI
        rw[<- q3,e3];exact q4
       .obtain⟨i1,i2,i3,i4⟩:=GO e5
        have ll:=q6.len;have nl:n<ws.length:=by lia
        let⟨v,w1,w2⟩:=q6.get e6;refine⟨b,ws,e,n,v,rfl,rfl,t3 _ _ (t2 _ _ q5),∅,∅,by rw[<- ll];exact i1,w1,?_⟩;exact h v _ F ⟨g,(R2.grow t3).rewrite2 ho e0 q1 (t3 _ _ (t2 _ _ q2)) q4 (q6.erase n),w2⟩ (aW.refl _)
      .exact h.elim
     .exact h.elim
    .exact h.elim
   .exact h.elim
  .exact h.elim
 .exact h.elim
def aJ1{fk fe:M D}{ds inner:ZG}{k e:Int}{j n:Nat}{d:D}{Q:D->ZM}{δ2 δ3:DS}(e0:δ[i]?=some (some (.list ds)))(e1:fk δ=.ok (.int k) δ2)(e2:fe δ=.ok (.int e) δ3)(e3:mT ds.length k=some j)(e4:ds[j]?=some (.list inner))(e5:mT inner.length e=some n)(e6:inner[n]?=some d)(hl:inner.length<=1000):
  LI i fk fe δ=.ok d (δ.set i (some (.list (ds.set j (.list (inner.eraseIdx n)))))):=by
 unfold LI;rw[e0,e1,e2];dsimp only;rw[e3];dsimp only;rw[e4];dsimp only;rw[e5];dsimp only;rw[e6];dsimp only;rw[Á hl]
end
end L2
namespace L2
open PySem PySem.Spec
def Z8(out:Str)(d:D)(fs:List (M D))(δ:DS)(Q:D->ZM)(_w:Wt Q:=⟨⟩):Prop:=match d with
 |.str y=>(out++y).length<=sizeLine/\bJ (jI (out++y) fs) δ Q
 |_=>Ē
section
variable{i c n:Nat}{out:Str}{is:ZF}{δ:DS}{Q:D->ZM}{f g:M D}{fs:List (M D)}
def RR:bJ (jI out []) δ Q=Q (.str out) δ:=rfl
def Z9:bJ (jI out (f::fs)) δ Q=bJ f δ λd δ1=>Z8 out d fs δ1 Q:=by
 unfold bJ Z8;rw[jI];dsimp only;cases f δ with
 |stuck=>rfl
 |ok a d=>
  simp![Res.bind];cases a<;>try simp[Ċ]
  rename_i y;by_cases h:(out++y).length<=sizeLine
  .rw[Á h];exact⟨λq=>⟨h,q⟩,λq=>q.2⟩
  .rw[Ã h];exact⟨False.elim,λq=>h q.1⟩
def Ϟ{y:Str}:Z8 out (.str y) fs δ Q=((out++y).length<=sizeLine/\bJ (jI (out++y) fs) δ Q):=rfl
end
class WM(m:M Fl) where
 wp:DS->(ZM)->(ZM)->(ZM)->(D->ZM)->Prop
 ok:wp=λδ N B C R=>cQ m δ N B C R
class WV{α:Type}(f:M α) where
 wp:DS->(α->ZM)->Prop
 ok:wp=λδ Q=>bJ f δ Q
def ϟ:Prop:=d9 .none [] λ_ _=>D3 0 .none [] λ_=>pS .none [] λ_ _=>KK .none (λ_=>.stuck) [] [] λ_ _=>XC .none 0 (λ_ _=>.none) [] [] λ_ _=>XD .none .none .none 0 [] λ_=>True
def Ě(m:M Fl)[I:WM m](δ:DS)(N B C:ZM)(R:D->ZM)(_w:Wt (N,B,C,R):=⟨⟩):Prop:=(λ_=>I.wp δ N B C R) ϟ
def jB{α:Type}(f:M α)[I:WV f](δ:DS)(Q:α->ZM)(_w:Wt Q:=⟨⟩):Prop:=(λ_=>I.wp δ Q) ϟ
def aO7{m:M Fl}{x:ZJ}{δ:DS}{N B C:ZM}{R:D->ZM}{I:WM m}:Ě m (x::δ) N B C R=I.wp (x::δ) N B C R:=rfl
def aO8{α:Type}{f:M α}{x:ZJ}{δ:DS}{Q:α->ZM}{I:WV f}:jB f (x::δ) Q=I.wp (x::δ) Q:=rfl
def aM3{m:M Fl}{x:ZJ}{δ:DS}{N B C:ZM}{R:D->ZM}[I:WM m](h:Ě m (x::δ) N B C R):cQ m (x::δ) N B C R:=by
 let⟨_,rfl⟩:=I;exact h
def aM4{α:Type}{f:M α}{x:ZJ}{δ:DS}{Q:α->ZM}[I:WV f](h:jB f (x::δ) Q):bJ f (x::δ) Q:=by
 let⟨_,rfl⟩:=I;exact h
instance(priority:=low) wm_x {m:M Fl}:WM m:=⟨λδ N B C R=>cQ m δ N B C R,rfl⟩
instance(priority:=low) wv_x {α:Type}{f:M α}:WV f:=⟨λδ Q=>bJ f δ Q,rfl⟩
section
variable{α:Type}{u v:M Fl}{f g:M D}{c c':M Bool}{i:Nat}{fs:List (M D)}{as:List Arg}{fk fv:M D}
instance w_seq[I:WM u][J:WM v]:WM (aQ u v):=⟨λδ N B C R=>Ě u δ (λδ1=>Ě v δ1 N B C R) B C R,by let⟨_,rfl⟩:=I;let⟨_,rfl⟩:=J;funext _ _ _ _ _;exact KL.symm⟩
instance w_next:WM cK:=⟨λδ N _ _ _=>N δ,rfl⟩
instance w_set[I:WV f]:WM (bT i f):=⟨λδ N _ _ _=>jB f δ λd δ1=>D3 i d δ1 N,by let⟨_,rfl⟩:=I;funext _ _ _ _ _;exact QX.symm⟩
instance w_ret[I:WV f]:WM (cA f):=⟨λδ _ _ _ R=>jB f δ R,by let⟨_,rfl⟩:=I;funext _ _ _ _ _;exact XX.symm⟩
instance w_drop[I:WV f]:WM (c7 f):=⟨λδ N _ _ _=>jB f δ λ_ δ1=>N δ1,by let⟨_,rfl⟩:=I;funext _ _ _ _ _;exact NT.symm⟩
instance w_if[I:WV c][J:WM u][K:WM v]:WM (dH c u v):=⟨λδ N B C R=>jB c δ λb δ1=>if b=true then Ě u δ1 N B C R else Ě v δ1 N B C R,by let⟨_,rfl⟩:=I;let⟨_,rfl⟩:=J;let⟨_,rfl⟩:=K;funext _ _ _ _ _;exact ŝ.symm⟩
instance w_asg{set:D->DS->Option DS}[I:WV f]:WM (ķ set f):=⟨λδ N _ _ _=>jB f δ λd δ1=>TD (set d δ1) N,by let⟨_,rfl⟩:=I;funext _ _ _ _ _;exact XY.symm⟩
instance w_var:WV (aD i):=⟨λδ Q=>d9 δ[i]? δ Q,by funext _ _;exact XZ.symm⟩
instance w_c{d:D}:WV (dC d):=⟨λδ Q=>Q d δ,rfl⟩
instance w_op{op:D->D->ZJ}[I:WV f][J:WV g]:WV (aU op f g):=⟨λδ Q=>jB f δ λa δ1=>jB g δ1 λb δ2=>mG (op a b) δ2 Q,by let⟨_,rfl⟩:=I;let⟨_,rfl⟩:=J;funext _ _;exact Ş.symm⟩
instance w_un{op:D->ZJ}[I:WV f]:WV (t6 op f):=⟨λδ Q=>jB f δ λa δ1=>mG (op a) δ1 Q,by let⟨_,rfl⟩:=I;funext _ _;exact ş.symm⟩
instance w_vals0:WV (bO []):=⟨λδ Q=>Q [] δ,rfl⟩
instance w_vals[I:WV f][J:WV (bO fs)]:WV (bO (f::fs)):=⟨λδ Q=>jB f δ λa δ1=>jB (bO fs) δ1 λds δ2=>Q (a::ds) δ2,by let⟨_,rfl⟩:=I;let⟨_,rfl⟩:=J;funext _ _;exact HH.symm⟩
instance w_fn{op:ZG->ZJ}[I:WV (bO fs)]:WV (jY op fs):=⟨λδ Q=>jB (bO fs) δ λds δ1=>mG (op ds) δ1 Q,by let⟨_,rfl⟩:=I;funext _ _;exact Š.symm⟩
instance w_tup[I:WV (bO fs)]:WV (iJ fs):=⟨λδ Q=>jB (bO fs) δ λds δ1=>ds.length<=sizeLine/\Q (.tuple ds) δ1,by let⟨_,rfl⟩:=I;funext _ _;exact X0.symm⟩
instance w_lst[I:WV (bO fs)]:WV (iK fs):=⟨λδ Q=>jB (bO fs) δ λds δ1=>ds.length<=sizeLine/\Q (.list ds) δ1,by let⟨_,rfl⟩:=I;funext _ _;exact X1.symm⟩
instance w_b[I:WV f]:WV (dB f):=⟨λδ Q=>jB f δ λa δ1=>pS a δ1 Q,by let⟨_,rfl⟩:=I;funext _ _;exact š.symm⟩
instance w_notT[I:WV c]:WV (eK c):=⟨λδ Q=>jB c δ λb δ1=>Q (!b) δ1,by let⟨_,rfl⟩:=I;funext _ _;exact NU.symm⟩
instance w_notV[I:WV f]:WV (QI f):=⟨λδ Q=>jB f δ λa δ1=>pS a δ1 λb δ2=>Q (.bool (!b)) δ2,by let⟨_,rfl⟩:=I;funext _ _;exact NV.symm⟩
instance w_orT[I:WV c][J:WV c']:WV (A1 c c'):=⟨λδ Q=>jB c δ λb δ1=>if b=true then Q true δ1 else J.wp δ1 Q,by let⟨_,rfl⟩:=I;let⟨_,rfl⟩:=J;funext _ _;exact X2.symm⟩
instance w_andT[I:WV c][J:WV c']:WV (yR c c'):=⟨λδ Q=>jB c δ λb δ1=>if b=true then J.wp δ1 Q else Q false δ1,by let⟨_,rfl⟩:=I;let⟨_,rfl⟩:=J;funext _ _;exact NW.symm⟩
instance w_andV[I:WV f][J:WV g]:WV (nY f g):=⟨λδ Q=>jB f δ λa δ1=>pS a δ1 λb δ1=>if b=true then jB g δ1 Q else Q (.bool false) δ1,by let⟨_,rfl⟩:=I;let⟨_,rfl⟩:=J;funext _ _;exact NX.symm⟩
instance w_orV[I:WV f][J:WV g]:WV (Ĵ f g):=⟨λδ Q=>jB f δ λa δ1=>pS a δ1 λb δ1=>if b=true then Q (.bool true) δ1 else jB g δ1 Q,by let⟨_,rfl⟩:=I;let⟨_,rfl⟩:=J;funext _ _;exact X3.symm⟩
instance w_call{fn:ZG->Res D}[I:WV (cZ as)]:WV (aM fn as):=⟨λδ Q=>jB (cZ as) δ λods δ1=>KK (fO δ1 as ods) fn (bP as) δ1 Q,by let⟨_,rfl⟩:=I;funext _ _;exact NY.symm⟩
instance w_args0:WV (cZ []):=⟨λδ Q=>Q [] δ,rfl⟩
instance w_argsV[I:WV f][J:WV (cZ as)]:WV (cZ (.val f::as)):=⟨λδ Q=>jB f δ λa δ1=>jB (cZ as) δ1 λds δ2=>Q (some a::ds) δ2,by let⟨_,rfl⟩:=I;let⟨_,rfl⟩:=J;funext _ _;exact HI.symm⟩
instance w_argsO{j:Nat}[I:WV (cZ as)]:WV (cZ (.own j::as)):=⟨λδ Q=>d9 δ[j]? δ λ_ δ=>jB (cZ as) δ λds δ2=>Q (none::ds) δ2,by let⟨_,rfl⟩:=I;funext _ _;exact HJ.symm⟩
instance w_mut{op:ZG->ZG->Option (D×ZG)}[I:WV (bO fs)]:WV (kK i op fs):=⟨λδ Q=>d9 δ[i]? δ λ_ _=>jB (bO fs) δ λargs δ1=>XC δ1[i]? i op args δ1 Q,by let⟨_,rfl⟩:=I;funext _ _;exact X4.symm⟩
instance w_ixo[I:WV fk]:WV (D0 i fk):=⟨λδ Q=>d9 δ[i]? δ λ_ _=>jB fk δ λk δ1=>d9 δ1[i]? δ1 λd δ1=>mG (bN d k) δ1 Q,by let⟨_,rfl⟩:=I;funext _ _;exact X5.symm⟩
instance w_put[I:WV fk][J:WV fv]:WM (DZ i fk fv):=⟨λδ N _ _ _=>jB fv δ λv δ1=>d9 δ1[i]? δ1 λ_ δ1=>jB fk δ1 λk δ2=>XD δ2[i]? k v i δ2 N,by let⟨_,rfl⟩:=I;let⟨_,rfl⟩:=J;funext _ _ _ _ _;exact X6.symm⟩
instance w_leno:WV (yT i):=⟨λδ Q=>d9 δ[i]? δ λd δ=>mG (dR [d]) δ Q,by funext _ _;exact NZ.symm⟩
instance w_ifx[I:WV c][J:WV f][K:WV g]:WV (ă c f g):=⟨λδ Q=>jB c δ λb δ1=>if b=true then jB f δ1 Q else jB g δ1 Q,by let⟨_,rfl⟩:=I;let⟨_,rfl⟩:=J;let⟨_,rfl⟩:=K;funext _ _;exact X7.symm⟩
end
section
variable{i c n m0:Nat}{nm fl m:Str}{f g fe fk fv fx fz:M D}{fn:ZG->Res D}{as:List Arg}{fs:List (M D)}{lo hi:Option (M D)}{ow:ZF}
instance w_opt0:WV (iO none):=⟨λδ Q=>Q none δ,rfl⟩
instance w_opt1  [I:WV f]:WV (iO (some f)):=⟨λδ Q=>jB f δ λd δ1=>YC d δ1 Q,by let⟨_,rfl⟩:=I;funext _ _;exact lB.symm⟩
instance w_sl{op:D->Option Int->Option Int->ZJ}[I:WV f][J:WV (iO lo)][K:WV (iO hi)]:WV (KH op f lo hi):=⟨λδ Q=>jB f δ λd δ1=>jB (iO lo) δ1 λl δ2=>jB (iO hi) δ2 λu δ3=>mG (op d l u) δ3 Q,by let⟨_,rfl⟩:=I;let⟨_,rfl⟩:=J;let⟨_,rfl⟩:=K;funext _ _;exact BF.symm⟩
instance w_slo  [J:WV (iO lo)] [K:WV (iO hi)]:WV (Ŗ i lo hi):=⟨λδ Q=>d9 δ[i]? δ λ_ _=>jB (iO lo) δ λl δ1=>jB (iO hi) δ1 λu δ2=>d9 δ2[i]? δ2 λd δ2=>mG (zM d l u) δ2 Q,by let⟨_,rfl⟩:=J;let⟨_,rfl⟩:=K;funext _ _;exact aMK.symm⟩
instance w_maxd  [I:WV (aU FD f g)]:WV (BI f g):=⟨λδ Q=>jB (aU FD f g) δ Q,by let⟨_,rfl⟩:=I;funext _ _;exact YE.symm⟩
instance w_give  :WV (BG i):=⟨λδ Q=>d9 δ[i]? δ λd δ=>Q d (δ.set i none),by funext _ _;exact N0.symm⟩
instance w_borT{c:M Bool}[I:WV c]:WV (vD c):=⟨λδ Q=>jB c δ λb _=>Q b δ,by let⟨_,rfl⟩:=I;funext _ _;exact wQ.symm⟩
instance w_mutA{op:ZG->ZG->Option (D×ZG)}[I:WV fk]:WV (tE ow i fk op fs):=⟨λδ Q=>jB fk δ λk _=>Q6 ow i δ[i]? k op fs δ Q,by let⟨_,rfl⟩:=I;funext _ _;exact N4.symm⟩
instance w_fldo  :WV (gS i c nm fl):=⟨λδ Q=>d9 δ[i]? δ λd δ=>mG (BR c nm fl d) δ Q,by funext _ _;exact uB.symm⟩
instance w_fldset  [I:WV fe]:WM (iT i c n nm fl fe):=⟨λδ N _ _ _=>jB fe δ λy δ1=>d9 δ1[i]? δ1 λd δ1=>mG (vI c n nm fl y d) δ1 λd' δ1=>N (δ1.set i (some d')),by let⟨_,rfl⟩:=I;funext _ _ _ _ _;exact BT.symm⟩
instance w_fldput  [I:WV fv] [J:WV fk]:WM (AK i c nm fl fk fv):=⟨λδ N _ _ _=>jB fv δ λv δ1=>jB fk δ1 λk _=>d9 δ1[i]? δ1 λd δ1=>mG (RH c nm fl k v d) δ1 λd' δ1=>N (δ1.set i (some d')),by let⟨_,rfl⟩:=I;let⟨_,rfl⟩:=J;funext _ _ _ _ _;exact Y8.symm⟩
instance w_meth  [I:WV (aM fn (.own i::as))]:WV (yZ i nm m fn as):=⟨λδ Q=>d9 δ[i]? δ λd δ=>y6 nm m d/\jB (aM fn (.own i::as)) δ Q,by let⟨_,rfl⟩:=I;funext _ _;exact Y9.symm⟩
instance w_make  [I:WV (cZ as)]:WV (y0 m0 nm fn as):=⟨λδ Q=>jB (cZ as) δ λods δ1=>δ1.length=m0/\K7 (fO δ1 as ods) nm fn δ1 Q,by let⟨_,rfl⟩:=I;funext _ _;exact OA.symm⟩
instance w_dput  [I:WV fv] [J:WV fk]:WM (tG i fk fv):=⟨λδ N _ _ _=>jB fv δ λv δ1=>d9 δ1[i]? δ1 λ_ δ1=>jB fk δ1 λk δ2=>d9 δ2[i]? δ2 λd δ2=>mG (BS k v d) δ2 λd' δ2=>N (δ2.set i (some d')),by let⟨_,rfl⟩:=I;let⟨_,rfl⟩:=J;funext _ _ _ _ _;exact wW.symm⟩
instance w_get2  [I:WV fx] [J:WV fk] [K:WV fz]:WV (Y1 fx fk fz):=⟨λδ Q=>jB fx δ λx δ1=>dctD' x=true/\jB fk δ1 λk δ2=>jB fz δ2 λz δ3=>mG (Y7 x k z) δ3 Q,by let⟨_,rfl⟩:=I;let⟨_,rfl⟩:=J;let⟨_,rfl⟩:=K;funext _ _;exact aJJ.symm⟩
instance w_minfld  [I:WV fe]:WV (HP i nm fl fe):=⟨λδ Q=>jB fe δ λd δ1=>d9 δ1[i]? δ1 λt δ1=>mG (RI nm fl d t) δ1 Q,by let⟨_,rfl⟩:=I;funext _ _;exact ZO.symm⟩
instance w_lrng  [I:WV (bO fs)]:WV (Y2 fs):=⟨λδ Q=>jB (bO fs) δ λds δ1=>mG (ţ ds) δ1 Q,by let⟨_,rfl⟩:=I;funext _ _;exact aJK.symm⟩
instance w_borD  [I:WV fe]:WV (ŕ fe):=⟨λδ Q=>jB fe δ λd _=>Ť d δ Q,by let⟨_,rfl⟩:=I;funext _ _;exact aJM.symm⟩
end
end L2
set_option maxRecDepth 100000
set_option maxHeartbeats 4000000
open L2 in
seal DE DT NK QD DV DA DI DO ô PG Ġ ĉ ĝ PW
namespace Toy
open PySem L2
@[inline]def bF(i:Nat):Stmt:=PySem.Challenge.pw_keel_k75_what_a_desk_shows.main.body.getD i (.Pass ⟨0,0,0,0⟩)
abbrev uD:Stmt:=bF 11
abbrev uE:ZE:=["one","other","rest"]
abbrev OG:Stmt:=bF 12
abbrev OH:ZE:=["top","bottom","divisor"]
abbrev aJ2:Stmt:=bF 13
abbrev aJ3:ZE:=["one","other"]
abbrev aEV:Stmt:=bF 14
abbrev aEW:ZE:=["one","other"]
abbrev aEX:Stmt:=bF 15
abbrev aEY:ZE:=["one","other"]
abbrev HW:Stmt:=bF 18
abbrev HX:ZE:=["rooms","lines","tank","room","line"]
abbrev T6:Stmt:=bF 19
abbrev T7:ZE:=["line","pivot_line","column","scale","step","share","numbers"]
abbrev aAB:Stmt:=bF 20
abbrev aAC:ZE:=["pivot_line","column","scale","numbers"]
abbrev tH:Stmt:=bF 21
abbrev D7:ZE:=["table","below"]
abbrev uF:Stmt:=bF 22
abbrev uG:ZE:=["table","line","column","best","one","other"]
abbrev HY:Stmt:=bF 24
abbrev HZ:ZE:=["table","line","best","column"]
abbrev OI:Stmt:=bF 25
abbrev OJ:ZE:=["table","rows","shares","first_row","first_room","parts"]
abbrev LJ:Stmt:=bF 26
abbrev LK:ZE:=["table","line","shares","number","share"]
abbrev LL:Stmt:=bF 27
abbrev LM:ZE:=["table","rows","place","shares"]
abbrev LN:Stmt:=bF 28
abbrev LO:ZE:=["table","rows","rooms","reached","number","line","fills"]
abbrev aEZ:Stmt:=bF 29
abbrev aE0:ZE:=["rows","rooms","table","place","column"]
abbrev RS:Stmt:=bF 34
abbrev H8:ZE:=["sums","weight","place"]
def aAD:aS H8 (H8.take 3) (aL RS):=bU (by decide +kernel)
abbrev FP:Stmt:=bF 35
abbrev wX:ZE:=["ship","cargo","own","sums","stack","boxes","t","box","place"]
def fK:aS wX (wX.take 2) (aL FP):=bU (by decide +kernel)
abbrev D8:Stmt:=bF 36
abbrev D9:ZE:=["tanks","axis","high","sums"]
abbrev H9:Stmt:=bF 37
abbrev IB:ZE:=["tanks","axis","low","sums"]
abbrev T8:Stmt:=bF 38
abbrev T9:ZE:=["ship","cargo","bounds","tanks","sums"]
abbrev UA:Stmt:=bF 39
abbrev UB:ZE:=["one","other"]
abbrev aAE:Stmt:=bF 40
abbrev aAF:ZE:=["ship","cargo","fills","sums","tank","fill","shares"]
abbrev OK:Stmt:=bF 42
abbrev OL:ZE:=["ship"]
abbrev UC:Stmt:=bF 43
abbrev UD:ZE:=["ship","cargo"]
abbrev OM:Stmt:=bF 44
abbrev ON:ZE:=["mix"]
abbrev FQ:Stmt:=bF 47
abbrev wY:ZE:=["thing"]
def OO:aS wY (wY.take 1) (aL FQ):=bU (by decide +kernel)
def IC:(["sign","thing"]:ZE).Nodup:=by decide +kernel
abbrev tJ:Stmt:=bF 48
abbrev nA:ZE:=["sizes","owner","size"]
def qK:aS nA (nA.take 2) (aL tJ):=bU (by decide +kernel)
abbrev y7:Stmt:=bF 49
abbrev qL:ZE:=["own"]
def ID:aS qL (qL.take 1) (aL y7):=bU (by decide +kernel)
abbrev qM:Stmt:=bF 50
abbrev lD:ZE:=["bounds"]
def zO:aS lD (lD.take 1) (aL qM):=bU (by decide +kernel)
abbrev qN:Stmt:=bF 51
abbrev lE:ZE:=["places","sort","names","number","place","owner","name"]
def eC:aS lE (lE.take 2) (aL qN):=bU (by decide +kernel)
abbrev tK:Stmt:=bF 52
abbrev nB:ZE:=["apart","number","row","owner"]
def iU:aS nB (nB.take 1) (aL tK):=bU (by decide +kernel)
abbrev vM:Stmt:=bF 53
abbrev oV:ZE:=["ship"]
def EA:aS oV (oV.take 1) (aL vM):=bU (by decide +kernel)
abbrev BX:Stmt:=bF 54
abbrev uH:ZE:=["ship","s","other","one","two"]
def qO:aS uH (uH.take 3) (aL BX):=bU (by decide +kernel)
abbrev y9:Stmt:=bF 56
abbrev qP:ZE:=["box","names"]
def IE:aS qP (qP.take 2) (aL y9):=bU (by decide +kernel)
abbrev tL:Stmt:=bF 57
abbrev nC:ZE:=["ship","cargo","names","boxes","box"]
def iV:aS nC (nC.take 2) (aL tL):=bU (by decide +kernel)
abbrev mI:Stmt:=bF 58
abbrev iW:ZE:=["stack","s","boxes","rules","above","t","box"]
def dA:aS iW (iW.take 3) (aL mI):=bU (by decide +kernel)
def qQ:(["box","stack","s","boxes","rules","above","t",".box"]:ZE).Nodup:=by decide +kernel
abbrev LP:Stmt:=bF 59
abbrev BY:ZE:=["ship","one","other"]
def UE:aS BY (BY.take 3) (aL LP):=bU (by decide +kernel)
def LQ:(["row","ship","one","other"]:ZE).Nodup:=by decide +kernel
abbrev qR:Stmt:=bF 60
abbrev lF:ZE:=["cargo","placed","s","boxes","t","box"]
def eD:aS lF (lF.take 1) (aL qR):=bU (by decide +kernel)
abbrev qS:Stmt:=bF 61
abbrev lG:ZE:=["ship","cargo","rules","placed","number","one","other"]
def eE:aS lG (lG.take 2) (aL qS):=bU (by decide +kernel)
abbrev LR:Stmt:=bF 62
abbrev BZ:ZE:=["ship","cargo","rules","s","boxes"]
def sC:aS BZ (BZ.take 2) (aL LR):=bU (by decide +kernel)
abbrev B0:Stmt:=bF 64
abbrev B1:ZE:=["boxes","port","t","box"]
abbrev wZ:Stmt:=bF 65
abbrev w8:ZE:=["boxes","s","port","lifted","moves"]
abbrev OP:Stmt:=bF 66
abbrev OQ:ZE:=["cargo","call","moves","s","boxes"]
abbrev OS:Stmt:=bF 67
abbrev OT:ZE:=["cargo","call"]
abbrev OU:Stmt:=bF 68
abbrev OV:ZE:=["cargo","call"]
abbrev aAG:Stmt:=bF 69
abbrev aAH:ZE:=["cargo"]
abbrev UF:Stmt:=bF 70
abbrev UG:ZE:=["cargo","step","box","behind"]
abbrev B3:Stmt:=bF 71
abbrev uI:ZE:=["cargo","names","boxes","box"]
def mJ:aS uI (uI.take 1) (aL B3):=bU (by decide +kernel)
abbrev tN:Stmt:=bF 72
abbrev nD:ZE:=["ship","cargo","loads","names","box","s"]
def iX:aS nD (nD.take 3) (aL tN):=bU (by decide +kernel)
abbrev OW:Stmt:=bF 73
abbrev OX:ZE:=["ship","cargo","rules"]
abbrev aAI:Stmt:=bF 74
abbrev aAJ:ZE:=["ship","cargo","call","behind","log","step","box","told"]
abbrev OY:Stmt:=bF 76
abbrev OZ:ZE:=["port","ports"]
abbrev B4:Stmt:=bF 77
abbrev B5:ZE:=["cargo","s","box","ports","place"]
abbrev aAK:Stmt:=bF 78
abbrev aAL:ZE:=["fills","reached","fill"]
abbrev aAM:Stmt:=bF 79
abbrev aAN:ZE:=["cargo","s","box"]
abbrev IF:Stmt:=bF 80
abbrev IG:ZE:=["ship","cargo","box","ports","offers","s","told"]
abbrev sT:Stmt:=bF 81
abbrev sU:ZE:=["one","other"]
abbrev LS:Stmt:=bF 83
abbrev LU:ZE:=["ship","cargo","box","ports","best","offer"]
abbrev FR:Stmt:=bF 88
abbrev w9:ZE:=["first","parts"]
def O0:aS w9 (w9.take 2) (aL FR):=bU (by decide +kernel)
def IH:(["part","first","parts"]:ZE).Nodup:=by decide +kernel
abbrev tO:Stmt:=bF 89
abbrev nE:ZE:=["stack","boxes"]
def B6:aS nE (nE.take 2) (aL tO):=bU (by decide +kernel)
def xA:(["box","stack","boxes"]:ZE).Nodup:=by decide +kernel
abbrev vN:Stmt:=bF 90
abbrev oW:ZE:=["ship","cargo","lines","stack","boxes"]
def jV:aS oW (oW.take 2) (aL vN):=bU (by decide +kernel)
def zP:(["stack","ship","cargo","lines",".stack","boxes"]:ZE).Nodup:=by decide +kernel
def zQ:(["tank","ship","cargo","lines","stack","boxes"]:ZE).Nodup:=by decide +kernel
def zR:(["row","ship","cargo","lines","stack","boxes"]:ZE).Nodup:=by decide +kernel
abbrev zB:Stmt:=bF 91
abbrev qT:ZE:=["word","figures"]
def vO:aS qT (qT.take 1) (aL zB):=bU (by decide +kernel)
def B7:(["sign","word","figures"]:ZE).Nodup:=by decide +kernel
abbrev qU:Stmt:=bF 92
abbrev lH:ZE:=["first","number"]
def zS:aS lH (lH.take 2) (aL qU):=bU (by decide +kernel)
abbrev Ϡ:Stmt:=bF 93
abbrev O1:ZE:=["words","form","word","sort"]
def II:aS O1 (O1.take 2) (aL Ϡ):=bU (by decide +kernel)
abbrev n9:Stmt:=bF 94
abbrev jK:ZE:=["words","form"]
def vP:aS jK (jK.take 2) (aL n9):=bU (by decide +kernel)
def kJ:(["word","sort","words","form"]:ZE).Nodup:=by decide +kernel
abbrev zC:Stmt:=bF 95
abbrev qV:ZE:=["line","number","words","first"]
def oX:aS qV (qV.take 2) (aL zC):=bU (by decide +kernel)
abbrev vQ:Stmt:=bF 96
abbrev oY:ZE:=["text","lines"]
def tP:aS oY (oY.take 1) (aL vQ):=bU (by decide +kernel)
def pT:(["number","line","text","lines"]:ZE).Nodup:=by decide +kernel
abbrev qW:Stmt:=bF 97
abbrev lI:ZE:=["lines","wanted"]
def zT:aS lI (lI.take 2) (aL qW):=bU (by decide +kernel)
def mK:(["first","parts","lines","wanted"]:ZE).Nodup:=by decide +kernel
abbrev FS:Stmt:=bF 98
abbrev xB:ZE:=["lines"]
def O2:aS xB (xB.take 1) (aL FS):=bU (by decide +kernel)
abbrev B8:Stmt:=bF 99
abbrev uJ:ZE:=["ship","lines","cargo","numbers","s","stack","parts"]
def hU:aS uJ (uJ.take 2) (aL B8):=bU (by decide +kernel)
def EB:(["stack","ship","lines","cargo","numbers","s",".stack","parts"]:ZE).Nodup:=by decide +kernel
abbrev zD:Stmt:=bF 100
abbrev qX:ZE:=["text","lines","ship","cargo"]
def kM:aS qX (qX.take 1) (aL zD):=bU (by decide +kernel)
abbrev EC:Stmt:=bF 102
abbrev ED:ZE:=["names","name"]
abbrev LV:Stmt:=bF 103
abbrev B9:ZE:=["texts"]
def UH:aS B9 (B9.take 1) (aL LV):=bU (by decide +kernel)
abbrev xC:Stmt:=bF 104
abbrev xD:ZE:=["one"]
abbrev IJ:Stmt:=bF 105
abbrev IK:ZE:=["mix"]
abbrev IL:Stmt:=bF 106
abbrev IM:ZE:=["desk","s"]
abbrev qY:Stmt:=bF 107
abbrev lJ:ZE:=["desk","name","s","stack"]
def j9:aS lJ (lJ.take 2) (aL qY):=bU (by decide +kernel)
abbrev qZ:Stmt:=bF 108
abbrev lK:ZE:=["desk","parts"]
def zU:aS lK (lK.take 2) (aL qZ):=bU (by decide +kernel)
def vR:(["number","desk","parts"]:ZE).Nodup:=by decide +kernel
abbrev vS:Stmt:=bF 109
abbrev oZ:ZE:=["desk","parts"]
def EE:aS oZ (oZ.take 2) (aL vS):=bU (by decide +kernel)
def zV:(["rule","desk","parts"]:ZE).Nodup:=by decide +kernel
abbrev LW:Stmt:=bF 110
abbrev LX:ZE:=["desk","parts","told"]
abbrev EF:Stmt:=bF 111
abbrev EG:ZE:=["desk","parts","told"]
abbrev IN:Stmt:=bF 112
abbrev IP:ZE:=["desk","parts"]
abbrev zE:Stmt:=bF 113
abbrev q9:ZE:=["desk","parts","loads"]
def vT:aS q9 (q9.take 2) (aL zE):=bU (by decide +kernel)
abbrev EH:Stmt:=bF 114
abbrev EI:ZE:=["desk","parts"]
abbrev IQ:Stmt:=bF 115
abbrev IR:ZE:=["desk","parts","steps"]
abbrev UI:Stmt:=bF 116
abbrev UJ:ZE:=["desk","parts","told"]
abbrev vU:Stmt:=bF 117
abbrev o9:ZE:=["desk","parts","stack","boxes","t","box"]
def gT:aS o9 (o9.take 2) (aL vU):=bU (by decide +kernel)
abbrev LY:Stmt:=bF 118
abbrev rA:ZE:=["desk","parts"]
abbrev FT:Stmt:=bF 121
abbrev xE:ZE:=["first","words"]
def O3:aS xE (xE.take 2) (aL FT):=bU (by decide +kernel)
abbrev zF:Stmt:=bF 122
abbrev rB:ZE:=["first","words"]
def IS:aS rB (rB.take 2) (aL zF):=bU (by decide +kernel)
abbrev zG:Stmt:=bF 125
abbrev rC:ZE:=["_law_script","_law_k"]
def IT:aS rC (rC.take 2) (aL zG):=bU (by decide +kernel)
abbrev LZ:Stmt:=bF 126
abbrev CA:ZE:=["_law_script","_law_k","_law_many"]
def UK:aS CA (CA.take 3) (aL LZ):=bU (by decide +kernel)
abbrev FU:Stmt:=bF 127
abbrev xF:ZE:=["_law_script","_law_k","_law_many"]
def O4:aS xF (xF.take 3) (aL FU):=bU (by decide +kernel)
abbrev FV:Stmt:=bF 128
abbrev xG:ZE:=["_law_script","_law_k","_law_many"]
def O5:aS xG (xG.take 3) (aL FV):=bU (by decide +kernel)
abbrev L0:Stmt:=bF 129
abbrev CB:ZE:=["_law_script","_law_k","_law_n","_law_letters","_law_many","_law_spot","_law_base","_law_sign"]
def jM:aS CB (CB.take 3) (aL L0):=bU (by decide +kernel)
abbrev FW:Stmt:=bF 130
abbrev xH:ZE:=["_law_script"]
def O6:aS xH (xH.take 1) (aL FW):=bU (by decide +kernel)
abbrev FX:Stmt:=bF 131
abbrev xI:ZE:=["_law_script","_law_s","_law_along","_law_across","_law_high","_law_most","_law_name_here"]
def jN:aS xI (xI.take 2) (aL FX):=bU (by decide +kernel)
abbrev L3:Stmt:=bF 132
abbrev CC:ZE:=["_law_script","_law_k","_law_along","_law_across","_law_room"]
def sD:aS CC (CC.take 2) (aL L3):=bU (by decide +kernel)
abbrev L4:Stmt:=bF 133
abbrev CD:ZE:=["_law_script","_law_scale_here","_law_own","_law_long","_law_wide","_law_most","_law_bounds","_law_stacks","_law_tanks","_law_apart","_law_k","_law_one","_law_other_here"]
def dS:aS CD (CD.take 1) (aL L4):=bU (by decide +kernel)
def L5:(["_law_s","_law_script","_law_scale_here","_law_own","_law_long","_law_wide","_law_most","_law_bounds","_law_stacks","_law_tanks","_law_apart","_law_k","_law_one","_law_other_here"]:ZE).Nodup:=by decide +kernel
def L6:(["_law_k","_law_script","_law_scale_here","_law_own","_law_long","_law_wide","_law_most","_law_bounds","_law_stacks","_law_tanks","_law_apart","._law_k","_law_one","_law_other_here"]:ZE).Nodup:=by decide +kernel
abbrev RT:Stmt:=bF 134
abbrev IU:ZE:=["_law_script","_law_n","_law_scale_here","_law_port","_law_kind","_law_bears"]
def oA:aS IU (IU.take 2) (aL RT):=bU (by decide +kernel)
abbrev FY:Stmt:=bF 135
abbrev xJ:ZE:=["_law_script","_law_ship_here","_law_many","_law_cargo_here","_law_n"]
def uK:aS xJ (xJ.take 3) (aL FY):=bU (by decide +kernel)
def IV:(["_law_stack_here","_law_script","_law_ship_here","_law_many","_law_cargo_here","_law_n"]:ZE).Nodup:=by decide +kernel
abbrev zH:Stmt:=bF 136
abbrev rD:ZE:=["_law_ship_here","_law_cargo_here","_law_own","_law_told","_law_stack_here","_law_boxes","_law_t","_law_weight"]
def fL:aS rD (rD.take 2) (aL zH):=bU (by decide +kernel)
abbrev L7:Stmt:=bF 137
abbrev CF:ZE:=["_law_word","_law_parts"]
def UL:aS CF (CF.take 2) (aL L7):=bU (by decide +kernel)
def L8:(["_law_part","_law_word","_law_parts"]:ZE).Nodup:=by decide +kernel
abbrev L9:Stmt:=bF 138
abbrev CG:ZE:=["_law_ship_here","_law_cargo_here","_law_lines","_law_s"]
def xK:aS CG (CG.take 2) (aL L9):=bU (by decide +kernel)
def MA:(["_law_stack_here","_law_ship_here","_law_cargo_here","_law_lines","_law_s"]:ZE).Nodup:=by decide +kernel
def MB:(["_law_tank_here","_law_ship_here","_law_cargo_here","_law_lines","_law_s"]:ZE).Nodup:=by decide +kernel
def MC:(["_law_row","_law_ship_here","_law_cargo_here","_law_lines","_law_s"]:ZE).Nodup:=by decide +kernel
def MD:(["_law_box_here","_law_ship_here","_law_cargo_here","_law_lines","_law_s"]:ZE).Nodup:=by decide +kernel
abbrev CH:Stmt:=Y3 (bF 123) 1
abbrev uL:ZE:=["self","line","words","parts"]
def rE:aS uL (uL.take 2) (aL CH):=bU (by decide +kernel)
abbrev ME:Stmt:=bF 139
abbrev CI:ZE:=["_law_desk","_law_line_here","_law_due","_law_found"]
def FZ:aS CI (CI.take 3) (aL ME):=bU (by decide +kernel)
abbrev F7:Stmt:=bF 140
abbrev xL:ZE:=["_law_ship_here","_law_cargo_here","_law_rows"]
def CJ:aS xL (xL.take 2) (aL F7):=bU (by decide +kernel)
def IW:(["_law_rule","_law_ship_here","_law_cargo_here","_law_rows"]:ZE).Nodup:=by decide +kernel
def IX:(["_law_part","_law_rule","_law_ship_here","_law_cargo_here","_law_rows"]:ZE).Nodup:=by decide +kernel
abbrev F8:Stmt:=bF 141
abbrev xM:ZE:=["_law_desk","_law_ship_here","_law_cargo_here","_law_other_here","_law_s","_law_t"]
def uM:aS xM (xM.take 4) (aL F8):=bU (by decide +kernel)
def IY:(["_law_number","_law_desk","_law_ship_here","_law_cargo_here","_law_other_here","_law_s","_law_t"]:ZE).Nodup:=by decide +kernel
abbrev pU:Stmt:=Y3 (bF 123) 0
abbrev kB:ZE:=["self","text","read"]
def oB:aS kB (kB.take 2) (aL pU):=bU (by decide +kernel)
abbrev ϡ:Stmt:=bF 142
abbrev ũ:ZE:=["_law_script","_law_ship_here","_law_many","_law_cargo_here","_law_fewer","_law_gone","_law_s","_law_desk","_law_other_here","_law_away","_law_load"]
def kC:aS ũ (ũ.take 1) (aL ϡ):=bU (by decide +kernel)
def aAQ:(["_law_boxes","_law_script","_law_ship_here","_law_many","_law_cargo_here","_law_fewer","_law_gone","_law_s","_law_desk","_law_other_here","_law_away","_law_load"]:ZE).Nodup:=by decide +kernel
def aAR:(["_law_part","_law_script","_law_ship_here","_law_many","_law_cargo_here","_law_fewer","_law_gone","_law_s","_law_desk","_law_other_here","_law_away","_law_load"]:ZE).Nodup:=by decide +kernel
abbrev aO9:Pos:=(GV (fH tH)).getD ⟨0,0,0,0⟩
abbrev bV:List (Str×Str):=[("weigh",""),("rules",""),("trim",""),("middle",""),("ports","w"),("load","wnwwnw"),("advise","wnwwn"),("steps","w"),("call","w"),("where","w"),("show","")]
abbrev bA:List (Str×Str):=[("own","nnnn"),("bounds","nnnnnn"),("stack","wnnnnnn"),("tank","wnnnn"),("apart","wwn"),("box","wwnwwn")]
set_option genInjectivity false in
set_option genSizeOf false in
structure Txt(P:Program)(w:World)(K:ZC)(mg:ZD) where
 x0:Fg K mg "greatest_divisor" uD uE 2
 x1:Fg K mg "fraction" OG OH 2
 x2:Fg K mg "plus" aJ2 aJ3 2
 x3:Fg K mg "times" aEV aEW 2
 x4:Fg K mg "under" aEX aEY 2
 x5:Fg K mg "room_lines" HW HX 1
 x6:Fg K mg "cleared" T6 T7 4
 x7:Fg K mg "turned" aAB aAC 3
 x8:Fg K mg "place_below" tH D7 1
 x9:Fa K mg "goes_ahead_least" "goes_ahead" uF uG 4
 x10:Fg K mg "column_for" HY HZ 2
 x11:Fg K mg "parts_of" OI OJ 3
 x12:Fg K mg "shares_of" LJ LK 2
 x13:Fg K mg "told_none" LL LM 3
 x14:Fg K mg "told_fill" LN LO 3
 x15:Fg K mg "least" aEZ aE0 2
 x16:Fg K mg "added" RS H8 3
 x17:Fg K mg "weights" FP wX 2
 x18:Fg K mg "row_of_high" D8 D9 4
 x19:Fg K mg "row_of_low" H9 IB 4
 x20:Fg K mg "rows_of" T8 T9 2
 x21:Fg K mg "divided" UA UB 2
 x22:Fg K mg "middle" aAE aAF 3
 x23:Fg K mg "rooms_of" OK OL 1
 x24:Fg K mg "ballast" UC UD 2
 x25:Fg K mg "breaking" OM ON 1
 x26:Fg K mg "is_name" FQ wY 1
 x27:Fg K mg "check_sizes" tJ nA 2
 x28:Fg K mg "check_own" y7 qL 1
 x29:Fg K mg "check_bounds" qM lD 1
 x30:Fg K mg "check_places" qN lE 2
 x31:Fg K mg "check_apart" tK nB 1
 x32:Fg K mg "right_ship" vM oV 1
 x33:Fg K mg "apart_by" BX uH 3
 x34:Fg K mg "check_box" y9 qP 2
 x35:Fg K mg "right_cargo" tL nC 2
 x36:Fg K mg "broken_in_stack" mI iW 3
 x37:Fg K mg "far_of" LP BY 3
 x38:Fg K mg "placed_boxes" qR lF 1
 x39:Fg K mg "broken_apart" qS lG 2
 x40:Fg K mg "broken" LR BZ 2
 x41:Fg K mg "lifted_boxes" B0 B1 2
 x42:Fg K mg "moves_in_stack" wZ w8 3
 x43:Fg K mg "moves_of" OP OQ 2
 x44:Fg K mg "steps_of" OS OT 2
 x45:Fg K mg "moved_at" OU OV 2
 x46:Fg K mg "copied" aAG aAH 1
 x47:Fg K mg "stepped" UF UG 3
 x48:Fg K mg "names_in" B3 uI 1
 x49:Fg K mg "check_loads" tN nD 3
 x50:Fg K mg "standing" OW OX 2
 x51:Fg K mg "called" aAI aAJ 3
 x52:Fg K mg "place_of" OY OZ 2
 x53:Fg K mg "overstanding" B4 B5 4
 x54:Fg K mg "sum_of" aAK aAL 1
 x55:Fg K mg "put_on" aAM aAN 3
 x56:Fg K mg "offers_for" IF IG 4
 x57:Fa K mg "goes_ahead_advice" "goes_ahead" sT sU 2
 x58:Fg K mg "stack_for" LS LU 4
 x59:Fg K mg "written" FR w9 2
 x60:Fg K mg "shown_boxes" tO nE 2
 x61:Fg K mg "shown_ship" vN oW 2
 x62:Fg K mg "is_number" zB qT 1
 x63:Fg K mg "may_stand_at" qU lH 2
 x64:Fg K mg "fits" Ϡ O1 2
 x65:Fg K mg "parts_of_words" n9 jK 2
 x66:Fg K mg "read_line" zC qV 2
 x67:Fg K mg "read_lines" vQ oY 1
 x68:Fg K mg "parts_behind" qW lI 2
 x69:Fg K mg "ship_of" FS xB 1
 x70:Fg K mg "cargo_of" B8 uJ 2
 x71:Fg K mg "read_ship" zD qX 1
 x72:Fg K mg "check_names" EC ED 1
 x73:Fg K mg "listed" LV B9 1
 x74:Fg K mg "shown_fraction" xC xD 1
 x75:Fg K mg "shown_none" IJ IK 1
 x76:Fg K mg "stack_name" IL IM 2
 x77:Fg K mg "stack_number" qY lJ 2
 x78:Fg K mg "tell_weights" qZ lK 2
 x79:Fg K mg "tell_rules" vS oZ 2
 x80:Fg K mg "tell_trim" LW LX 2
 x81:Fg K mg "tell_middle" EF EG 2
 x82:Fg K mg "keep_ports" IN IP 2
 x83:Fg K mg "keep_load" zE q9 2
 x84:Fg K mg "tell_advice" EH EI 2
 x85:Fg K mg "tell_steps" IQ IR 2
 x86:Fg K mg "do_call" UI UJ 2
 x87:Fg K mg "tell_where" vU o9 2
 x88:Fg K mg "tell_ship" LY rA 2
 x89:Fg K mg "form_of" FT xE 2
 x90:Fg K mg "read_deed" zF rB 2
 x91:Fg K mg "_law_cell_at" zG rC 2
 x92:Fg K mg "_law_draw" LZ CA 3
 x93:Fg K mg "_law_other" FU xF 3
 x94:Fg K mg "_law_third" FV xG 3
 x95:Fg K mg "_law_name" L0 CB 3
 x96:Fg K mg "_law_scale" FW xH 1
 x97:Fg K mg "_law_stack" FX xI 2
 x98:Fg K mg "_law_tank" L3 CC 2
 x99:Fg K mg "_law_ship" L4 CD 1
 x100:Fg K mg "_law_box" RT IU 2
 x101:Fg K mg "_law_cargo" FY xJ 3
 x102:Fg K mg "_law_weights" zH rD 2
 x103:Fg K mg "_law_line" L7 CF 2
 x104:Fg K mg "_law_text" L9 CG 2
 x105:Fd K "say" "Desk.say" CH uL 2
 x106:Fg K mg "_law_says" ME CI 3
 x107:Fg K mg "_law_rules" F7 xL 2
 x108:Fg K mg "_law_shows" F8 xM 4
 x109:Fd K "__init__" "Desk.__init__" pU kB 2
 x110:Fg K mg "law" ϡ ũ 1
 c_Desk:Addr
 n_Desk:W.nsIn K mainGlobals "Desk"=some (some (.ref c_Desk))
 q_Desk:mg "Desk"=some (.ref c_Desk)
 cl_Desk:U9 K c_Desk
 x124:Ĕ K "Desk" "cargo"
 x125:Ĕ K "Desk" "loads"
 x126:Ĕ K "Desk" "ports"
 x127:Ĕ K "Desk" "ship"
 mk_Desk:Mk K c_Desk x109.f
 me_Desk_say:Ĭ K c_Desk "say" x105.f
 lamC:Addr
 lamP:Addr
 lamE:pQ K=some (lamC,lamP,aO9)
 lamF:x8.fd.code=.ref lamC
 x111:mg "abs"=none
 x112:mg "all"=none
 x113:mg "enumerate"=none
 x114:mg "int"=none
 x115:mg "isinstance"=none
 x116:mg "len"=none
 x117:mg "list"=none
 x118:mg "max"=none
 x119:mg "range"=none
 x120:mg "str"=none
 x121:mg "sum"=none
 x122:mg "tuple"=none
 x123:mg "zip"=none
 g_LONGEST_NAME:∃t,mg "LONGEST_NAME"=some (.int 8 t)
 g_MOST_FIGURES:∃t,mg "MOST_FIGURES"=some (.int 10 t)
 p_FIRST_LINES:∃a o t u n,mg "FIRST_LINES"=some (.ref a)/\K.lookup a=some o/\o.cls=.type "tuple"/\o.data=.seq #[.str "own" t,.str "bounds" u] n
 d_FORMS_desk:D5 P w K mg "FORMS_desk" bV
 d_FORMS_shiptexts:D5 P w K mg "FORMS_shiptexts" bA
 f_ANSWERS:OF P w K mg "ANSWERS" [("weigh",x78.f),("rules",x79.f),("trim",x80.f),("middle",x81.f),("ports",x82.f),("load",x83.f),("advise",x84.f),("steps",x85.f),("call",x86.f),("where",x87.f),("show",x88.f)]
def IZ:M Fl:=
  (cA (iJ [(aU b8 (aU bN (aD 0) (dC (.int 0))) (aD 1)),(aU b8 (aU bN (aD 0) (dC (.int 1))) (aU hG (aD 1) (aU bN (aD 2) (dC (.int 0))))),(aU b8 (aU bN (aD 0) (dC (.int 2))) (aU hG (aD 1) (aU bN (aD 2) (dC (.int 1))))),(aU b8 (aU bN (aD 0) (dC (.int 3))) (aU hG (aD 1) (aU bN (aD 2) (dC (.int 2)))))]))
def vV:ZG->Res D:=bK 3 [] 0 IZ
def xN:M Fl:=
  (aQ (bT 2 (aU bN (aD 0) (dC (.int 0))))
  (aQ (bT 3 (aM vV [.val (iJ [(dC (.int 0)),(dC (.int 0)),(dC (.int 0)),(dC (.int 0))]),.val (aU bN (aD 2) (dC (.int 0))),.val (KH vB (aD 2) (some (dC (.int 1))) none)]))
  (aQ (c6 (gQ [4,5]) (HE (aU bN (aD 0) (dC (.int 2))) (aD 1))
   (c6 (gQ [6,7]) (gC (aD 5))
    (aQ (bT 8 (iJ [(aU bN (aD 4) (dC (.int 1))),(aU bN (aD 4) (dC (.int 2))),(aU b8 (aU bN (aD 4) (dC (.int 3))) (aU hG (aD 6) (aU bN (aD 4) (dC (.int 4)))))]))
    (bT 3 (aM vV [.val (aD 3),.val (aU bN (aD 7) (dC (.int 1))),.val (aD 8)])))))
  (cA (aD 3)))))
def sE:ZG->Res D:=bK 9 [] 0 xN
def sF:M Fl:=
  (aQ (dH (eK (dB (t6 (A8 .str) (aD 0))))
   (cA (dC (.bool false)))
   cK)
  (cA (nY (eU QK QK (dC (.int 1)) (jY dR [(aD 0)]) (dC (.int 8))) (jY S8 [(bX 1 (cH 0) (mW (aD 0)) bY (eU M1 M1 (dC (.str "a")) (aD 0) (dC (.str "z"))))]))))
def fR:ZG->Res D:=bK 1 [] 0 sF
def nF:M Fl:=
  (c6 (cH 2) (bR (aD 0))
   (dH (dB (aU VB (aD 2) (dC (.int 1))))
    fC
    cK))
def gU:ZG->Res D:=bK 3 [] 0 nF
def rF:M Fl:=
  (dH (dB (aU VB (aU bN (aD 0) (dC (.int 0))) (dC (.int 1))))
   fC
   cK)
def mL:ZG->Res D:=bK 1 [] 0 rF
def lM:M Fl:=
  (aQ (dH (dB (aU ø (aU bN (aD 0) (dC (.int 0))) (aU bN (aD 0) (dC (.int 1)))))
   fC
   cK)
  (aQ (dH (dB (aU ø (aU bN (aD 0) (dC (.int 2))) (aU bN (aD 0) (dC (.int 3)))))
   fC
   cK)
  (c7 (aM gU [.val (iK [(aU bN (aD 0) (dC (.int 5)))]),.val (dC (.str "bounds"))]))))
def iY:ZG->Res D:=bK 1 [] 0 lM
def lN:M Fl:=
  (aQ (bT 2 (dC (qA [] [])))
  (c6 (gQ [3,4]) (gC (aD 0))
   (aQ (bT 5 (jI Str.empty [(t6 D4 (aD 1)),(dC (.str " ")),(t6 D4 (aD 3))]))
   (aQ (bT 6 (aU bN (aD 4) (dC (.int 0))))
   (aQ (dH (eK (dB (aM fR [.val (aD 6)])))
    fC
    cK)
   (aQ (dH (vD (dB (aU (qI false) (aD 6) (aD 2))))
    fC
    cK)
   (aQ (tG 2 (aD 6) (dC (.bool true)))
   (c7 (aM gU [.val (KH vB (aD 4) (some (dC (.int 4))) none),.val (aD 5)])))))))))
def iZ:ZG->Res D:=bK 7 [] 0 lN
def nG:M Fl:=
  (c6 (gQ [1,2]) (gC (aD 0))
   (aQ (bT 3 (jI Str.empty [(dC (.str "row of kinds apart ")),(t6 D4 (aD 1))]))
   (aQ (dH (A1 (eK (dB (aM fR [.val (aU bN (aD 2) (dC (.int 0)))]))) (eK (dB (aM fR [.val (aU bN (aD 2) (dC (.int 1)))]))))
    fC
    cK)
   (c7 (aM gU [.val (iK [(aU bN (aD 2) (dC (.int 2)))]),.val (aD 3)])))))
def nH:ZG->Res D:=bK 4 [] 0 nG
def pA:M Fl:=
  (aQ (c7 (aM mL [.val (aU bN (aD 0) (dC (.int 0)))]))
  (aQ (c7 (aM iY [.val (aU bN (aD 0) (dC (.int 1)))]))
  (aQ (c7 (aM iZ [.val (aU bN (aD 0) (dC (.int 2))),.val (dC (.str "stack"))]))
  (aQ (c7 (aM iZ [.val (aU bN (aD 0) (dC (.int 3))),.val (dC (.str "tank"))]))
  (aQ (c7 (aM nH [.val (aU bN (aD 0) (dC (.int 4)))]))
  (cA (dC (.bool true))))))))
def pB:ZG->Res D:=bK 1 [] 0 pA
def uN:M Fl:=
  (aQ (bT 3 (aU bN (aU bN (aD 0) (dC (.int 2))) (aD 1)))
  (aQ (bT 4 (aU bN (aU bN (aD 0) (dC (.int 2))) (aD 2)))
  (cA (aU b8 (jY WR [(aU sR (aU bN (aD 3) (dC (.int 1))) (aU bN (aD 4) (dC (.int 1))))]) (jY WR [(aU sR (aU bN (aD 3) (dC (.int 2))) (aU bN (aD 4) (dC (.int 2))))])))))
def uO:ZG->Res D:=bK 5 [] 0 uN
def rG:M Fl:=
  (aQ (dH (eK (dB (aM fR [.val (aU bN (aD 0) (dC (.int 0)))])))
   fC
   cK)
  (aQ (dH (vD (dB (aU (qI false) (aU bN (aD 0) (dC (.int 0))) (aD 1))))
   fC
   cK)
  (aQ (dH (dB (aU VB (aU bN (aD 0) (dC (.int 1))) (dC (.int 1))))
   fC
   cK)
  (aQ (dH (eK (dB (aM fR [.val (aU bN (aD 0) (dC (.int 2)))])))
   fC
   cK)
  (aQ (dH (eK (dB (aM fR [.val (aU bN (aD 0) (dC (.int 3)))])))
   fC
   cK)
  (dH (dB (aU VB (aU bN (aD 0) (dC (.int 4))) (dC (.int 0))))
   fC
   cK))))))
def mM:ZG->Res D:=bK 2 [1] 0 rG
def nI:M Fl:=
  (aQ (dH (dB (aU Ĉ (jY dR [(aD 1)]) (jY dR [(aU bN (aD 0) (dC (.int 2)))])))
   fC
   cK)
  (aQ (bT 2 (dC (qA [] [])))
  (aQ (c6 (cH 3) (bR (aD 1))
   (c6 (cH 4) (bR (aD 3))
    (aQ (c7 (aM mM [.val (aD 4),.own 2]))
    (tG 2 (aU bN (aD 4) (dC (.int 0))) (dC (.bool true))))))
  (cA (dC (.bool true))))))
def nJ:ZG->Res D:=bK 5 [] 0 nI
def i5:M Fl:=
  (aQ (bT 3 (iK []))
  (aQ (bT 4 (jY W6 [(bX 1 (cH 0) (bR (aD 2)) bY (aU bN (aD 0) (dC (.int 1))))]))
  (aQ (dH (dB (aU ø (jY dR [(aD 2)]) (aU bN (aD 0) (dC (.int 5)))))
   (c7 (kK 3 t0 [(iJ [(dC (.str "high")),(aD 1)])]))
   cK)
  (aQ (dH (dB (aU ø (aD 4) (aU bN (aD 0) (dC (.int 6)))))
   (c7 (kK 3 t0 [(iJ [(dC (.str "most")),(aD 1)])]))
   cK)
  (aQ (c6 (gQ [5,6]) (gC (aD 2))
   (aQ (bT 4 (aU sR (aD 4) (aU bN (aD 6) (dC (.int 1)))))
   (dH (dB (aU ø (aD 4) (aU bN (aD 6) (dC (.int 4)))))
    (c7 (kK 3 t0 [(iJ [(dC (.str "bears")),(aD 1),(aD 5)])]))
    cK)))
  (cA (aD 3)))))))
def i6:ZG->Res D:=bK 7 [] 0 i5
def CK:M Fl:=
  (cA (BI (bX 1 (cH 0) (bR (aU bN (aD 0) (dC (.int 4)))) (dB (aU Ę (KH vB (aD 0) none (some (dC (.int 2)))) (iJ [(iJ [(aD 2),(aD 3)]),(iJ [(aD 3),(aD 2)])]))) (aU bN (aD 0) (dC (.int 2)))) (dC (.int 0))))
def CL:ZG->Res D:=bK 3 [] 0 CK
def lO:M Fl:=
  (aQ (bT 1 (iK []))
  (aQ (c6 (gQ [2,3]) (gC (aD 0))
   (c6 (gQ [4,5]) (gC (aD 3))
    (c7 (kK 1 t0 [(iJ [(aD 2),(aD 4),(aU bN (aD 5) (dC (.int 3)))])]))))
  (cA (aD 1))))
def lQ:ZG->Res D:=bK 6 [] 0 lO
def lR:M Fl:=
  (aQ (bT 2 (iK []))
  (aQ (bT 3 (aM lQ [.val (aD 1)]))
  (aQ (c6 (gQ [4,5]) (gC (aD 3))
   (c6 (cH 6) (bR (KH zM (aD 3) (some (aU b8 (aD 4) (dC (.int 1)))) none))
    (dH (dB (aU ø (aM CL [.val (aD 0),.val (aU bN (aD 5) (dC (.int 2))),.val (aU bN (aD 6) (dC (.int 2)))]) (aM uO [.val (aD 0),.val (aU bN (aD 5) (dC (.int 0))),.val (aU bN (aD 6) (dC (.int 0)))])))
     (c7 (kK 2 t0 [(iJ [(dC (.str "apart")),(aU bN (aD 5) (dC (.int 0))),(aU bN (aD 5) (dC (.int 1))),(aU bN (aD 6) (dC (.int 0))),(aU bN (aD 6) (dC (.int 1)))])]))
     cK)))
  (cA (aD 2)))))
def lT:ZG->Res D:=bK 7 [] 0 lR
def CM:M Fl:=
  (aQ (bT 2 (iK []))
  (aQ (c6 (gQ [3,4]) (gC (aD 1))
   (c7 (kK 2 t9 [(aM i6 [.val (aU bN (aU bN (aD 0) (dC (.int 2))) (aD 3)),.val (aD 3),.val (aD 4)])])))
  (aQ (c7 (kK 2 t9 [(aM lT [.val (aD 0),.val (aD 1)])]))
  (cA (aD 2)))))
def j0:ZG->Res D:=bK 5 [] 0 CM
def uP:M Fl:=
  (aQ (bT 1 (dC (qA [] [])))
  (aQ (c6 (cH 2) (bR (aD 0))
   (c6 (cH 3) (bR (aD 2))
    (tG 1 (aU bN (aD 3) (dC (.int 0))) (dC (.bool true)))))
  (cA (BG 1))))
def pC:ZG->Res D:=bK 4 [] 30 uP
def nK:M Fl:=
  (aQ (bT 3 (aM pC [.val (aD 1)]))
  (c6 (gQ [4,5]) (bR (aD 2))
   (aQ (dH (eK (dB (eU QK VB (dC (.int 0)) (aD 5) (jY dR [(aU bN (aD 0) (dC (.int 2)))]))))
    fC
    cK)
   (aQ (c7 (aM mM [.val (aD 4),.own 3]))
   (tG 3 (aU bN (aD 4) (dC (.int 0))) (dC (.bool true)))))))
def nL:ZG->Res D:=bK 6 [] 0 nK
def oC:M Fl:=
  (cA (k9 (dC (.str " ")) (aU b8 (iK [(aD 0)]) (bX 1 (cH 0) (bR (aD 1)) bY (jY strA [(aD 0)])))))
def dD:ZG->Res D:=bK 2 [] 0 oC
def nM:M Fl:=
  (cA (bX 1 (cH 0) (bR (aD 1)) bY (aM dD [.val (dC (.str "box")),.val (aU b8 (iJ [(aU bN (aD 1) (dC (.int 0)))]) (aD 0))])))
def jW:ZG->Res D:=bK 2 [] 0 nM
def pE:M Fl:=
  (aQ (bT 2 (iK [(aM dD [.val (dC (.str "own")),.val (aU bN (aD 0) (dC (.int 0)))]),(aM dD [.val (dC (.str "bounds")),.val (aU bN (aD 0) (dC (.int 1)))])]))
  (aQ (c7 (kK 2 t9 [(bX 1 (cH 0) (bR (aU bN (aD 0) (dC (.int 2)))) bY (aM dD [.val (dC (.str "stack")),.val (aD 0)]))]))
  (aQ (c7 (kK 2 t9 [(bX 1 (cH 0) (bR (aU bN (aD 0) (dC (.int 3)))) bY (aM dD [.val (dC (.str "tank")),.val (aD 0)]))]))
  (aQ (c7 (kK 2 t9 [(bX 1 (cH 0) (bR (aU bN (aD 0) (dC (.int 4)))) bY (aM dD [.val (dC (.str "apart")),.val (aD 0)]))]))
  (aQ (c6 (gQ [3,4]) (HE (aU bN (aD 0) (dC (.int 2))) (aD 1))
   (c7 (kK 2 t9 [(aM jW [.val (aD 3),.val (aD 4)])])))
  (cA (k9 (dC (.str "\n")) (aD 2))))))))
def kN:ZG->Res D:=bK 5 [] 0 pE
def rH:M Fl:=
  (aQ (bT 1 (ă (dB (uC jJ (aD 0) (dC (.str "-")))) (KH ĺ (aD 0) (some (dC (.int 1))) none) (aD 0)))
  (aQ (dH (eK (dB (jY S8 [(bX 1 (cH 0) (mW (aD 1)) bY (eU M1 M1 (dC (.str "0")) (aD 0) (dC (.str "9"))))])))
   (cA (dC (.bool false)))
   cK)
  (aQ (dH (dB (uC jJ (aD 1) (dC (.str "0"))))
   (cA (aU yU (aD 0) (dC (.str "0"))))
   cK)
  (cA (eU QK QK (dC (.int 1)) (jY dR [(aD 1)]) (dC (.int 10)))))))
def mN:ZG->Res D:=bK 2 [] 0 rH
def dX:M Fl:=
  (aQ (dH (dB (aU VB (aD 1) (jY dR [(dC (.tuple [.str "own",.str "bounds"]))])))
   (cA (aU yU (aD 0) (aU bN (dC (.tuple [.str "own",.str "bounds"])) (aD 1))))
   cK)
  (cA (nY (t6 (OE false bA) (aD 0)) (aU (Ą true) (aD 0) (dC (.tuple [.str "own",.str "bounds"]))))))
def fE:ZG->Res D:=bK 2 [] 0 dX
def O7:M Fl:=
  (aQ (dH (dB (aU Ĉ (jY dR [(aD 0)]) (jY dR [(aD 1)])))
   (cA (dC (.bool false)))
   cK)
  (aQ (c6 (gQ [2,3]) (FM (aD 0) (aD 1))
   (dH (A1 (dB (aU yU (aD 2) (dC (.str "")))) (yR (dB (aU yU (aD 3) (dC (.str "n")))) (eK (dB (aM mN [.val (aD 2)])))))
    (cA (dC (.bool false)))
    cK))
  (cA (dC (.bool true)))))
def I8:ZG->Res D:=bK 4 [] 0 O7
def jO:M Fl:=
  (cA (jY G6 [(bX 2 (gQ [0,1]) (FM (aD 0) (aD 1)) bY (ă (dB (aU yU (aD 1) (dC (.str "n")))) (jY ľ [(aD 0)]) (aD 0)))]))
def gI:ZG->Res D:=bK 2 [] 0 jO
def rJ:M Fl:=
  (aQ (bT 2 (uC fV (aD 0) (dC (.str " "))))
  (aQ (bT 3 (aU bN (aD 2) (dC (.int 0))))
  (aQ (dH (A1 (eK (dB (aM fE [.val (aD 3),.val (aD 1)]))) (eK (dB (aM I8 [.val (KH zM (aD 2) (some (dC (.int 1))) none),.val (t6 (FL bA) (aD 3))]))))
   fC
   cK)
  (cA (iJ [(aD 3),(aM gI [.val (KH zM (aD 2) (some (dC (.int 1))) none),.val (t6 (FL bA) (aD 3))])])))))
def rK:ZG->Res D:=bK 4 [] 0 rJ
def pF:M Fl:=
  (aQ (bT 1 (bX 2 (gQ [0,1]) (gC (uC fV (aD 0) (dC (.str "\n")))) bY (aM rK [.val (aD 1),.val (aD 0)])))
  (aQ (dH (dB (aU VB (yT 1) (jY dR [(dC (.tuple [.str "own",.str "bounds"]))])))
   fC
   cK)
  (cA (aD 1))))
def kP:ZG->Res D:=bK 2 [] 0 pF
def lU:M Fl:=
  (cA (bX 2 (gQ [0,1]) (bR (aD 0)) (dB (aU yU (aD 0) (aD 3))) (aD 1)))
def dJ:ZG->Res D:=bK 2 [] 0 lU
def xO:M Fl:=
  (cA (iJ [(aU bN (aU bN (aD 0) (dC (.int 0))) (dC (.int 1))),(aU bN (aU bN (aD 0) (dC (.int 1))) (dC (.int 1))),(aM dJ [.val (aD 0),.val (dC (.str "stack"))]),(aM dJ [.val (aD 0),.val (dC (.str "tank"))]),(aM dJ [.val (aD 0),.val (dC (.str "apart"))])]))
def xP:ZG->Res D:=bK 1 [] 0 xO
def uQ:M Fl:=
  (aQ (bT 2 (bX 1 (cH 0) (bR (aU bN (aD 0) (dC (.int 2)))) bY (iK [])))
  (aQ (bT 3 (dC (qA [] [])))
  (aQ (c6 (gQ [4,5]) (gC (aU bN (aD 0) (dC (.int 2))))
   (tG 3 (aU bN (aD 5) (dC (.int 0))) (aD 4)))
  (aQ (c6 (cH 6) (bR (aM dJ [.val (aD 1),.val (dC (.str "box"))]))
   (aQ (dH (vD (dB (aU (qI true) (aU bN (aD 6) (dC (.int 0))) (aD 3))))
    fC
    cK)
   (c7 (tE [0,0,2,30,0,0,0] 2 (aU FJ (aD 3) (aU bN (aD 6) (dC (.int 0)))) t0 [(KH vB (aD 6) (some (dC (.int 1))) none)]))))
  (cA (BG 2))))))
def uR:ZG->Res D:=bK 7 [] 2 uQ
def rL:M Fl:=
  (aQ (bT 1 (aM kP [.val (aD 0)]))
  (aQ (bT 2 (aM xP [.val (aD 1)]))
  (aQ (c7 (aM pB [.val (aD 2)]))
  (aQ (bT 3 (aM uR [.val (aD 2),.val (aD 1)]))
  (aQ (c7 (aM nJ [.val (aD 2),.val (aD 3)]))
  (cA (iJ [(aD 2),(aD 3)])))))))
def rM:ZG->Res D:=bK 4 [] 0 rL
def CN:M Fl:=
  (cA (ă (LB (aD 0)) (k9 (dC (.str ", ")) (aD 0)) (dC (.str "none"))))
def CO:ZG->Res D:=bK 1 [] 0 CN
def lV:M Fl:=
  (aQ (c6 (gQ [2,3]) (gC (aU bN (gS 0 21 "Desk" "ship") (dC (.int 2))))
   (dH (dB (aU yU (aU bN (aD 3) (dC (.int 0))) (aD 1)))
    (cA (aD 2))
    cK))
  (cA (jY dR [(aU bN (gS 0 21 "Desk" "ship") (dC (.int 2)))])))
def lW:ZG->Res D:=bK 4 [0] 0 lV
def lX:M Fl:=
  (cA (k9 (dC (.str " ")) (bX 1 (cH 0) (bR (aM sE [.val (gS 0 21 "Desk" "ship"),.val (gS 0 21 "Desk" "cargo")])) bY (jY strA [(aD 0)]))))
def fF:ZG->Res D:=bK 2 [0] 0 lX
def pG:M Fl:=
  (cA (aM CO [.val (bX 1 (cH 0) (bR (aM j0 [.val (gS 0 21 "Desk" "ship"),.val (gS 0 21 "Desk" "cargo")])) bY (aM dD [.val (aU bN (aD 0) (dC (.int 0))),.val (KH vB (aD 0) (some (dC (.int 1))) none)]))]))
def gJ:ZG->Res D:=bK 2 [0] 0 pG
def rN:M Fl:=
  (aQ (bT 2 (aU b8 (gS 0 21 "Desk" "loads") (iK [(iJ [(KH vB (aD 1) none (some (dC (.int 5)))),(aM lW [.own 0,.val (aU bN (aD 1) (dC (.int 5)))])])])))
  (aQ (c7 (aM nL [.val (gS 0 21 "Desk" "ship"),.val (gS 0 21 "Desk" "cargo"),.val (aD 2)]))
  (aQ (iT 0 21 0 "Desk" "loads" (aD 2))
  (cA (dC (.str "ok"))))))
def hV:ZG->Res D:=bK 3 [0] 0 rN
def pH:M Fl:=
  (aQ (c6 (gQ [2,3]) (HE (aU bN (gS 0 21 "Desk" "ship") (dC (.int 2))) (gS 0 21 "Desk" "cargo"))
   (c6 (gQ [4,5]) (gC (aD 3))
    (dH (dB (aU yU (aU bN (aD 5) (dC (.int 0))) (aU bN (aD 1) (dC (.int 0)))))
     (cA (aM dD [.val (aU bN (aD 2) (dC (.int 0))),.val (iK [(aD 4)])]))
     cK)))
  (cA (dC (.str "away"))))
def gK:ZG->Res D:=bK 6 [0] 0 pH
def rO:M Fl:=
  (cA (t6 (LH "\n" ", ") (aM kN [.val (gS 0 21 "Desk" "ship"),.val (gS 0 21 "Desk" "cargo")])))
def hW:ZG->Res D:=bK 2 [0] 0 rO
def xQ:M Fl:=
  (aQ (dH (yR (dB (aU yU (aD 0) (dC (.str "ports")))) (dB (aD 1)))
   (cA (aU N5 (dC (.str "w")) (jY dR [(aD 1)])))
   cK)
  (cA (t6 (FL bV) (aD 0))))
def sG:ZG->Res D:=bK 2 [] 0 xQ
def rP:M Fl:=
  (aQ (dH (A1 (dB (t6 (OE true bV) (aD 0))) (eK (dB (aM I8 [.val (aD 1),.val (aM sG [.val (aD 0),.val (aD 1)])]))))
   fC
   cK)
  (cA (aM gI [.val (aD 1),.val (aM sG [.val (aD 0),.val (aD 1)])])))
def rQ:ZG->Res D:=bK 2 [] 0 rP
def rR:M Fl:=
  (aQ (dH (dB (aU VB (aD 1) (jY dR [(aD 0)])))
   (cA (aU bN (aD 0) (aD 1)))
   cK)
  (cA (dC (.int 0))))
def j3:ZG->Res D:=bK 2 [] 0 rR
def CP:M Fl:=
  (cA (aU u8 (aU u8 (aU hG (aU b8 (aU u8 (aM j3 [.val (aD 0),.val (aD 1)]) (dC (.int 1000003))) (aU hG (aD 1) (aD 1))) (dC (.int 48271))) (dC (.int 999983))) (aD 2)))
def eO:ZG->Res D:=bK 3 [] 0 CP
def xR:M Fl:=
  (cA (aU u8 (aU u8 (aU hG (aU b8 (aU b8 (aU u8 (aM j3 [.val (aD 0),.val (aD 1)]) (dC (.int 1000033))) (aU hG (dC (.int 7)) (aD 1))) (dC (.int 1))) (dC (.int 69621))) (dC (.int 1000003))) (aD 2)))
def dE:ZG->Res D:=bK 3 [] 0 xR
def xS:M Fl:=
  (cA (aU u8 (aU u8 (aU hG (aU b8 (aU b8 (aU u8 (aM j3 [.val (aD 0),.val (aD 1)]) (dC (.int 1000037))) (aU hG (dC (.int 11)) (aD 1))) (dC (.int 5))) (dC (.int 16807))) (dC (.int 999979))) (aD 2)))
def cX:ZG->Res D:=bK 3 [] 0 xS
def CQ:M Fl:=
  (aQ (bT 3 (dC (.str "abcdefghijklmnopqrstuvwxyz")))
  (aQ (dH (dB (aU yU (aM dE [.val (aD 0),.val (dC (.int 12)),.val (dC (.int 3))]) (dC (.int 1))))
   (bT 1 (dC (.int 14)))
   cK)
  (aQ (bT 4 (aU b8 (dC (.int 1)) (aM cX [.val (aD 0),.val (aD 1),.val (dC (.int 8))])))
  (aQ (bT 5 (aM dE [.val (aD 0),.val (aD 1),.val (aD 4)]))
  (aQ (bT 6 (aU bN (aD 3) (aM eO [.val (aD 0),.val (aD 1),.val (dC (.int 26))])))
  (aQ (bT 7 (aU bN (aD 3) (aU u8 (aU b8 (aU hG (dC (.int 7)) (aD 2)) (aM dE [.val (aD 0),.val (aU b8 (aD 1) (dC (.int 1))),.val (dC (.int 26))])) (dC (.int 26)))))
  (cA (aU b8 (aU b8 (aU N5 (aD 6) (aD 5)) (aD 7)) (aU N5 (aD 6) (aU sR (aU sR (aD 4) (dC (.int 1))) (aD 5)))))))))))
def gD:ZG->Res D:=bK 8 [] 0 CQ
def xT:M Fl:=
  (cA (aU bN (iK [(dC (.int 1)),(dC (.int 1)),(dC (.int 997)),(aU WL (dC (.int 10)) (dC (.int 6)))]) (aM eO [.val (aD 0),.val (dC (.int 0)),.val (dC (.int 4))])))
def kW:ZG->Res D:=bK 1 [] 0 xT
def xU:M Fl:=
  (aQ (bT 2 (aU sR (aM eO [.val (aD 0),.val (aU b8 (dC (.int 2)) (aD 1)),.val (dC (.int 21))]) (dC (.int 10))))
  (aQ (bT 3 (aU sR (aM dE [.val (aD 0),.val (aU b8 (dC (.int 2)) (aD 1)),.val (dC (.int 21))]) (dC (.int 10))))
  (aQ (bT 4 (aU b8 (dC (.int 2)) (aM cX [.val (aD 0),.val (aU b8 (dC (.int 6)) (aD 1)),.val (dC (.int 5))])))
  (aQ (bT 5 (aU hG (aM kW [.val (aD 0)]) (aU b8 (dC (.int 30)) (aM dE [.val (aD 0),.val (aU b8 (dC (.int 6)) (aD 1)),.val (dC (.int 60))]))))
  (aQ (bT 6 (aM gD [.val (aD 0),.val (dC (.int 14)),.val (aD 1)]))
  (cA (iJ [(aD 6),(aD 2),(aD 3),(aM cX [.val (aD 0),.val (aU b8 (dC (.int 2)) (aD 1)),.val (dC (.int 5))]),(aU b8 (dC (.int 1)) (aM eO [.val (aD 0),.val (aU b8 (dC (.int 6)) (aD 1)),.val (dC (.int 3))])),(aD 4),(aD 5)])))))))
def xV:ZG->Res D:=bK 7 [] 0 xU
def CS:M Fl:=
  (aQ (bT 2 (aU sR (aM eO [.val (aD 0),.val (aU b8 (dC (.int 10)) (aD 1)),.val (dC (.int 81))]) (dC (.int 40))))
  (aQ (bT 3 (aU sR (aM dE [.val (aD 0),.val (aU b8 (dC (.int 10)) (aD 1)),.val (dC (.int 81))]) (dC (.int 40))))
  (aQ (bT 4 (aU hG (aM kW [.val (aD 0)]) (aU b8 (dC (.int 1)) (aM eO [.val (aD 0),.val (aU b8 (dC (.int 13)) (aD 1)),.val (dC (.int 60))]))))
  (cA (iJ [(aM gD [.val (aD 0),.val (dC (.int 15)),.val (aD 1)]),(aD 2),(aD 3),(aU sR (aM cX [.val (aD 0),.val (aU b8 (dC (.int 10)) (aD 1)),.val (dC (.int 5))]) (dC (.int 2))),(aD 4)])))))
def CT:ZG->Res D:=bK 5 [] 0 CS
def CU:M Fl:=
  (aQ (bT 1 (aM kW [.val (aD 0)]))
  (aQ (bT 2 (iJ [(aU hG (aD 1) (aU b8 (dC (.int 40)) (aM eO [.val (aD 0),.val (dC (.int 13)),.val (dC (.int 80))]))),(aU sR (aM dE [.val (aD 0),.val (dC (.int 13)),.val (dC (.int 7))]) (dC (.int 3))),(aU sR (aM cX [.val (aD 0),.val (dC (.int 13)),.val (dC (.int 5))]) (dC (.int 2))),(dC (.int 2))]))
  (aQ (bT 3 (aU b8 (dC (.int 1)) (aM cX [.val (aD 0),.val (dC (.int 14)),.val (dC (.int 6))])))
  (aQ (bT 4 (aU b8 (dC (.int 1)) (aM cX [.val (aD 0),.val (dC (.int 15)),.val (dC (.int 6))])))
  (aQ (bT 5 (aU hG (aD 1) (aU b8 (dC (.int 120)) (aM dE [.val (aD 0),.val (dC (.int 0)),.val (dC (.int 200))]))))
  (aQ (bT 6 (iJ [(aU sR (dC (.int 0)) (aD 3)),(aD 3),(aU sR (dC (.int 0)) (aD 4)),(aU b8 (aD 4) (aM eO [.val (aD 0),.val (dC (.int 15)),.val (dC (.int 2))])),(aU b8 (dC (.int 4)) (aM cX [.val (aD 0),.val (dC (.int 0)),.val (dC (.int 9))])),(aD 5)]))
  (aQ (bT 7 (bX 1 (cH 0) (pY [(aU b8 (dC (.int 1)) (aM eO [.val (aD 0),.val (dC (.int 1)),.val (dC (.int 4))]))]) bY (aM xV [.val (aD 1),.val (aD 0)])))
  (aQ (bT 8 (bX 1 (cH 0) (pY [(aM dE [.val (aD 0),.val (dC (.int 1)),.val (dC (.int 4))])]) bY (aM CT [.val (aD 1),.val (aD 0)])))
  (aQ (bT 9 (iK []))
  (aQ (c6 (cH 10) (pY [(aU bN (iK [(dC (.int 0)),(dC (.int 0)),(dC (.int 0)),(dC (.int 1)),(dC (.int 2))]) (aM cX [.val (aD 0),.val (dC (.int 1)),.val (dC (.int 5))]))])
   (aQ (bT 11 (aM gD [.val (aD 0),.val (dC (.int 18)),.val (aM eO [.val (aD 0),.val (aU b8 (dC (.int 17)) (aD 10)),.val (dC (.int 3))])]))
   (aQ (bT 12 (aM gD [.val (aD 0),.val (dC (.int 18)),.val (aM dE [.val (aD 0),.val (aU b8 (dC (.int 17)) (aD 10)),.val (dC (.int 3))])]))
   (c7 (kK 9 t0 [(iJ [(aD 11),(aD 12),(aU b8 (dC (.int 1)) (aM cX [.val (aD 0),.val (aU b8 (dC (.int 17)) (aD 10)),.val (dC (.int 9))]))])])))))
  (cA (iJ [(aD 2),(aD 6),(aD 7),(aD 8),(aD 9)]))))))))))))
def vW:ZG->Res D:=bK 13 [] 0 CU
def I9:M Fl:=
  (aQ (bT 2 (aM kW [.val (aD 0)]))
  (aQ (bT 3 (aM gD [.val (aD 0),.val (dC (.int 17)),.val (aM dE [.val (aD 0),.val (aU b8 (dC (.int 20)) (aD 1)),.val (dC (.int 4))])]))
  (aQ (bT 4 (aM gD [.val (aD 0),.val (dC (.int 18)),.val (aU bN (iK [(dC (.int 0)),(dC (.int 0)),(dC (.int 0)),(dC (.int 0)),(dC (.int 1)),(dC (.int 2))]) (aM cX [.val (aD 0),.val (aU b8 (dC (.int 20)) (aD 1)),.val (dC (.int 6))]))]))
  (aQ (bT 5 (aU hG (aD 2) (aM dE [.val (aD 0),.val (aU b8 (dC (.int 21)) (aD 1)),.val (dC (.int 90))])))
  (aQ (dH (dB (aU ø (aD 5) (aU hG (dC (.int 9)) (aD 2))))
   (bT 5 (aU b8 (aD 5) (aU hG (dC (.int 40)) (aD 2))))
   cK)
  (cA (iJ [(aM gD [.val (aD 0),.val (dC (.int 16)),.val (aD 1)]),(aU hG (aD 2) (aU b8 (dC (.int 1)) (aM eO [.val (aD 0),.val (aU b8 (dC (.int 20)) (aD 1)),.val (dC (.int 20))]))),(aD 3),(aD 4),(aD 5)])))))))
def vX:ZG->Res D:=bK 6 [] 0 I9
def xW:M Fl:=
  (aQ (bT 3 (bX 1 (cH 0) (bR (aU bN (aD 1) (dC (.int 2)))) bY (iK [])))
  (aQ (c6 (cH 4) (pY [(aD 2)])
   (c7 (tE [0,0,0,2,0] 3 (aM cX [.val (aD 0),.val (aU b8 (dC (.int 21)) (aD 4)),.val (jY dR [(aD 3)])]) t0 [(aM vX [.val (aD 0),.val (aD 4)])])))
  (cA (aD 3))))
def sH:ZG->Res D:=bK 5 [] 0 xW
def rS:M Fl:=
  (aQ (bT 2 (aU bN (aD 0) (dC (.int 0))))
  (aQ (bT 3 (iK [(aU bN (aD 2) (dC (.int 0))),(aU hG (aU bN (aD 2) (dC (.int 0))) (aU bN (aD 2) (dC (.int 1)))),(aU hG (aU bN (aD 2) (dC (.int 0))) (aU bN (aD 2) (dC (.int 2)))),(aU hG (aU bN (aD 2) (dC (.int 0))) (aU bN (aD 2) (dC (.int 3))))]))
  (aQ (c6 (gQ [4,5]) (HE (aU bN (aD 0) (dC (.int 2))) (aD 1))
   (c6 (cH 6) (pY [(jY dR [(aD 5)])])
    (aQ (bT 7 (aU bN (aU bN (aD 5) (aD 6)) (dC (.int 1))))
    (aQ (DZ 3 (dC (.int 0)) (aU b8 (D0 3 (dC (.int 0))) (aD 7)))
    (aQ (DZ 3 (dC (.int 1)) (aU b8 (D0 3 (dC (.int 1))) (aU hG (aD 7) (aU bN (aD 4) (dC (.int 1))))))
    (aQ (DZ 3 (dC (.int 2)) (aU b8 (D0 3 (dC (.int 2))) (aU hG (aD 7) (aU bN (aD 4) (dC (.int 2))))))
    (DZ 3 (dC (.int 3)) (aU b8 (D0 3 (dC (.int 3))) (aU hG (aD 7) (aU b8 (aU bN (aD 4) (dC (.int 3))) (aU hG (aD 6) (aU bN (aD 4) (dC (.int 4))))))))))))))
  (cA (aD 3)))))
def mO:ZG->Res D:=bK 8 [] 0 rS
def CV:M Fl:=
  (cA (k9 (dC (.str " ")) (aU b8 (iK [(aD 0)]) (bX 1 (cH 0) (bR (aD 1)) bY (jY strA [(aD 0)])))))
def gE:ZG->Res D:=bK 2 [] 0 CV
def CW:M Fl:=
  (aQ (bT 2 (iK [(aM gE [.val (dC (.str "own")),.val (aU bN (aD 0) (dC (.int 0)))]),(aM gE [.val (dC (.str "bounds")),.val (aU bN (aD 0) (dC (.int 1)))])]))
  (aQ (c7 (kK 2 t9 [(bX 1 (cH 0) (bR (aU bN (aD 0) (dC (.int 2)))) bY (aM gE [.val (dC (.str "stack")),.val (aD 0)]))]))
  (aQ (c7 (kK 2 t9 [(bX 1 (cH 0) (bR (aU bN (aD 0) (dC (.int 3)))) bY (aM gE [.val (dC (.str "tank")),.val (aD 0)]))]))
  (aQ (c7 (kK 2 t9 [(bX 1 (cH 0) (bR (aU bN (aD 0) (dC (.int 4)))) bY (aM gE [.val (dC (.str "apart")),.val (aD 0)]))]))
  (aQ (c6 (cH 3) (pY [(jY dR [(aD 1)])])
   (c7 (kK 2 t9 [(bX 1 (cH 0) (bR (aU bN (aD 1) (aD 3))) bY (aM gE [.val (aU b8 (dC (.str "box ")) (aU bN (aU bN (aU bN (aD 1) (dC (.int 2))) (aD 4)) (dC (.int 0)))),.val (aD 0)]))])))
  (cA (k9 (dC (.str "\n")) (aD 2))))))))
def j4:ZG->Res D:=bK 4 [] 0 CW
def uS:M Fl:=
  (aQ (bT 2 (uC fV (aD 1) (dC (.str " "))))
  (aQ (bT 3 (aM rQ [.val (aU bN (aD 2) (dC (.int 0))),.val (KH zM (aD 2) (some (dC (.int 1))) none)]))
  (cA (FO [("weigh",[21,0],fF),("rules",[21,0],gJ),("load",[21,0,0],hV),("where",[21,0,0,0,0,0],gK),("show",[21,0],hW)] (aU bN (aD 2) (dC (.int 0))) [.own 0,.val (aD 3)]))))
def fM:ZG->Res D:=bK 4 [0] 0 uS
def CY:M Fl:=
  (aQ (bT 3 (yZ 0 "Desk" "say" fM [.val (aD 1)]))
  (cA (nY (t6 (A8 .str) (aD 3)) (aU yU (aD 3) (aD 2)))))
def j5:ZG->Res D:=bK 4 [0] 0 CY
def xX:M Fl:=
  (aQ (bT 2 (bX 1 (cH 0) (bR (aM j0 [.val (aD 0),.val (aD 1)])) bY (k9 (dC (.str " ")) (bX 1 (cH 0) (bR (aD 0)) bY (jY strA [(aD 0)])))))
  (aQ (dH (dB (aU yU (yT 2) (dC (.int 0))))
   (cA (dC (.str "none")))
   cK)
  (cA (k9 (dC (.str ", ")) (aD 2)))))
def xY:ZG->Res D:=bK 3 [] 0 xX
def xZ:M Fl:=
  (aQ (dH (eK (dB (aM j5 [.own 0,.val (dC (.str "weigh")),.val (k9 (dC (.str " ")) (bX 1 (cH 0) (bR (aM mO [.val (aD 1),.val (aD 2)])) bY (jY strA [(aD 0)])))])))
   (cA (dC (.bool false)))
   cK)
  (aQ (dH (eK (dB (aM j5 [.own 0,.val (dC (.str "rules")),.val (aM xY [.val (aD 1),.val (aD 2)])])))
   (cA (dC (.bool false)))
   cK)
  (aQ (c6 (cH 4) (pY [(jY dR [(aD 2)])])
   (c6 (cH 5) (pY [(jY dR [(aU bN (aD 2) (aD 4))])])
    (dH (eK (dB (aM j5 [.own 0,.val (aU b8 (dC (.str "where ")) (aU bN (aU bN (aU bN (aD 2) (aD 4)) (aD 5)) (dC (.int 0)))),.val (aU b8 (aU b8 (aU bN (aU bN (aU bN (aD 1) (dC (.int 2))) (aD 4)) (dC (.int 0))) (dC (.str " "))) (jY strA [(aD 5)]))])))
     (cA (dC (.bool false)))
     cK)))
  (aQ (dH (eK (dB (aM j5 [.own 0,.val (aU b8 (dC (.str "where ")) (aD 3)),.val (dC (.str "away"))])))
   (cA (dC (.bool false)))
   cK)
  (cA (aM j5 [.own 0,.val (dC (.str "show")),.val (k9 (dC (.str ", ")) (uC fV (aM j4 [.val (aD 1),.val (aD 2)]) (dC (.str "\n"))))]))))))
def hX:ZG->Res D:=bK 6 [0] 0 xZ
def kE:M Fl:=
  (aQ (bT 2 (aM rM [.val (aD 1)]))
  (aQ (iT 0 21 0 "Desk" "ship" (aU bN (aD 2) (dC (.int 0))))
  (aQ (iT 0 21 0 "Desk" "cargo" (aU bN (aD 2) (dC (.int 1))))
  (aQ (iT 0 21 0 "Desk" "loads" (iK []))
  (iT 0 21 0 "Desk" "ports" (iK []))))))
def fP:ZG->Res D:=bK 3 [0] 0 kE
def Ū:M Fl:=
  (aQ (bT 1 (aM vW [.val (aD 0)]))
  (aQ (bT 2 (aM eO [.val (aD 0),.val (dC (.int 19)),.val (dC (.int 8))]))
  (aQ (bT 3 (aM sH [.val (aD 0),.val (aD 1),.val (aD 2)]))
  (aQ (bT 4 (bX 1 (cH 0) (bR (aD 3)) bY (jY KG [(aD 0)])))
  (aQ (bT 5 (aU bN (aM vX [.val (aD 0),.val (aD 2)]) (dC (.int 0))))
  (aQ (bT 6 (aM dE [.val (aD 0),.val (dC (.int 37)),.val (jY dR [(aD 3)])]))
  (aQ (dH (vD (dB (aU ø (jY dR [(aU bN (aD 4) (aD 6))]) (dC (.int 0)))))
   (bT 5 (aU bN (LI 4 (aD 6) (aM cX [.val (aD 0),.val (dC (.int 37)),.val (jY dR [(aU bN (aD 4) (aD 6))])])) (dC (.int 0))))
   cK)
  (aQ (bT 7 (y0 11 "Desk" fP [.val (aM j4 [.val (aD 1),.val (aD 3)])]))
  (aQ (bT 8 (y0 11 "Desk" fP [.val (aM j4 [.val (aD 1),.val (aD 4)])]))
  (aQ (bT 9 (aM gD [.val (aD 0),.val (dC (.int 16)),.val (aD 2)]))
  (aQ (dH (A1 (eK (dB (aM hX [.own 7,.val (aD 1),.val (aD 3),.val (aD 9)]))) (eK (dB (aM hX [.own 8,.val (aD 1),.val (aD 4),.val (aD 5)]))))
   (cA (dC (.bool false)))
   cK)
  (aQ (bT 10 (k9 (dC (.str " ")) (bX 1 (cH 0) (bR (aM vX [.val (aD 0),.val (aD 2)])) bY (jY strA [(aD 0)]))))
  (aQ (dH (eK (dB (aM j5 [.own 7,.val (aU b8 (aU b8 (aU b8 (dC (.str "load ")) (aD 10)) (dC (.str " "))) (aU bN (aU bN (aU bN (aD 1) (dC (.int 2))) (dC (.int 0))) (dC (.int 0)))),.val (dC (.str "ok"))])))
   (cA (dC (.bool false)))
   cK)
  (cA (aM hX [.own 7,.val (aD 1),.val (aD 3),.val (aD 9)])))))))))))))))
def MF:ZG->Res D:=bK 11 [] 0 Ū
section
variable{P:Program}{w:World}{K:ZC}{mg:ZD}{base:Heap}
def MG(T:Txt P w K mg)(B:cM K mg base):T.x16.Ok P w mg base 1 [] [0,0,0] 0 vV:=T.x16.okD aAD λhcd hr=>(aH (bC (dW (aG (bE aI (aN aI (aA 0) aC) (aA 1)) (aG (bE aI (aN aI (aA 0) aC) (dI aI (aA 1) (aN aI (aA 2) aC))) (aG (bE aI (aN aI (aA 0) aC) (dI aI (aA 1) (aN aI (aA 2) aC))) (aG (bE aI (aN aI (aA 0) aC) (dI aI (aA 1) (aN aI (aA 2) aC))) aV)))))))
def O8(T:Txt P w K mg)(B:cM K mg base):T.x17.Ok P w mg base 2 [] [0,0,0,0,0,0,0,0,0] 0 sE:=T.x17.okD fK λhcd hr=>(aE (aX 2 aI (aN aI (aA 0) aC) fK.nd)
  (aE (aX 3 aI (aF T.x16 (MG T B) hr (aB (dW (aG aC (aG aC (aG aC (aG aC aV))))) (aB (aN aI (aA 2) aC) (aB (gB aI wI wO (aA 2) (iQ aC) iP) aK)))) fK.nd)
  (aE (cG PassesOwn.leaving rfl (HF rfl T.x123 (aN aI (aA 0) aC) (aA 1)) (eY rfl (bG (aP (i:=4) fK.nd rfl (by ac_nf0)) (bG (aP (i:=5) fK.nd rfl (by ac_nf0)) dM))) (f7 (is:=[4,5]) aI (by intro i hi;simp![Å,Í,or_false]at hi;rcases hi with rfl|rfl<;>exact⟨bQ rfl,⋯,rfl⟩) rfl)
   (aH (cG PassesOwn.leaving rfl (gX rfl T.x113 (aA 5)) (eY rfl (bG (aP (i:=6) fK.nd rfl (by ac_nf0)) (bG (aP (i:=7) fK.nd rfl (by ac_nf0)) dM))) (f7 (is:=[6,7]) aI (by intro i hi;simp![Å,Í,or_false]at hi;rcases hi with rfl|rfl<;>exact⟨bQ rfl,⋯,rfl⟩) rfl)
    (aE (aX 8 aI (dW (aG (aN aI (aA 4) aC) (aG (aN aI (aA 4) aC) (aG (bE aI (aN aI (aA 4) aC) (dI aI (aA 6) (aN aI (aA 4) aC))) aV)))) fK.nd)
    (aH (aX 3 aI (aF T.x16 (MG T B) hr (aB (aA 3) (aB (aN aI (aA 7) aC) (aB (aA 8) aK)))) fK.nd))))))
  (aH (bC (aA 3))))))
def jP(T:Txt P w K mg)(B:cM K mg base):T.x26.Ok P w mg base 1 [] [0] 0 fR:=T.x26.okD OO λhcd hr=>(aE (cN (eZ (d8 (WU .str rfl rfl T.x115 rfl T.x120 oI (aA 0))))
   (aH (bC jX))
   bL)
  (aH (bC (NP (u9 aI J5 KD J5 KD aC (eV aI rfl T.x116 (aA 0)) (QM rfl T.g_LONGEST_NAME)) (NO (nU aI (yX rfl) WY rfl T.x112 V5 (aG (cT aI (cP (xs:=["sign"]) aI aI rfl (WX (aA 0)) (λC fp s H=>(aP (i:=0) IC rfl (Or.inl rfl))) (cB aI ⋯ (bQ rfl) ⋯ rfl) (λC fp s H=>cV) (λC fp s H=>(u9 aI sA G7 sA G7 bD (aA 0) bD)))) aV)))))))
def lY(T:Txt P w K mg)(B:cM K mg base):T.x27.Ok P w mg base 1 [] [0,0,0] 0 gU:=T.x27.okD qK λhcd hr=>(aH (cG PassesOwn.leaving rfl (cS (aA 0)) (aP (i:=2) qK.nd rfl (by ac_nf0)) (fY aI (bQ rfl) ⋯ rfl)
   (aH (cN (c9 aI yK yV (aA 2) aC (cU _))
    (aH cW)
    bL))))
def JA(T:Txt P w K mg)(B:cM K mg base):T.x28.Ok P w mg base 1 [] [0] 0 mL:=T.x28.okD ID λhcd hr=>(aH (cN (c9 aI yK yV (aN aI (aA 0) aC) aC (cU _))
   (aH cW)
   bL))
def zW(T:Txt P w K mg)(B:cM K mg base):T.x29.Ok P w mg base 2 [] [0] 0 iY:=T.x29.okD zO λhcd hr=>(aE (cN (c9 aI yL yW (aN aI (aA 0) aC) (aN aI (aA 0) aC) (cU _))
   (aH cW)
   bL)
  (aE (cN (c9 aI yL yW (aN aI (aA 0) aC) (aN aI (aA 0) aC) (cU _))
   (aH cW)
   bL)
  (aH (cE (aF T.x27 (lY T B) hr (aB (cT aI (eS aI (aG (aN aI (aA 0) aC) aV))) (aB bD aK)))))))
def pV(T:Txt P w K mg)(B:cM K mg base):T.x30.Ok P w mg base 2 [] [0,0,0,0,0,0,0] 0 iZ:=T.x30.okE [0,0,30,0,0,0,0] eC λhcd hr=>(aE (aX 2 aI (AL aI) eC.nd)
  (aH (cG PassesOwn.leaving rfl (gX rfl T.x113 (aA 0)) (eY rfl (bG (aP (i:=3) eC.nd rfl (by ac_nf0)) (bG (aP (i:=4) eC.nd rfl (by ac_nf0)) dM))) (f7 (is:=[3,4]) aI (by intro i hi;simp![Å,Í,or_false]at hi;rcases hi with rfl|rfl<;>exact⟨bQ rfl,⋯,rfl⟩) rfl)
   (aE (aX 5 aI (K8 (vJ (OB (aA 1)) (vJ bD (vJ (OB (aA 3)) ZP)))) eC.nd)
   (aE (aX 6 aI (aN aI (aA 4) aC) eC.nd)
   (aE (cN (eZ (d8 (aF T.x26 (jP T B) hr (aB (aA 6) aK))))
    (aH cW)
    bL)
   (aE (cN (HC 7 (λF H σ=>(ZR hr.units (aA 6) (aA 2))))
    (aH cW)
    bL)
   (aE (vH 2 hr.units jX (aA 6))
   (aH (cE (aF T.x27 (lY T B) hr (aB (gB aI wI wO (aA 4) (iQ aC) iP) (aB (aA 5) aK)))))))))))))
def CZ(T:Txt P w K mg)(B:cM K mg base):T.x31.Ok P w mg base 2 [] [0,0,0,0] 0 nH:=T.x31.okD iU λhcd hr=>(aH (cG PassesOwn.leaving rfl (gX rfl T.x113 (aA 0)) (eY rfl (bG (aP (i:=1) iU.nd rfl (by ac_nf0)) (bG (aP (i:=2) iU.nd rfl (by ac_nf0)) dM))) (f7 (is:=[1,2]) aI (by intro i hi;simp![Å,Í,or_false]at hi;rcases hi with rfl|rfl<;>exact⟨bQ rfl,⋯,rfl⟩) rfl)
   (aE (aX 3 aI (K8 (vJ bD (vJ (OB (aA 1)) ZP))) iU.nd)
   (aE (cN (oO (KC (eZ (d8 (aF T.x26 (jP T B) hr (aB (aN aI (aA 2) aC) aK)))) (A7 (eZ (d8 (aF T.x26 (jP T B) hr (aB (aN aI (aA 2) aC) aK)))))))
    (aH cW)
    bL)
   (aH (cE (aF T.x27 (lY T B) hr (aB (cT aI (eS aI (aG (aN aI (aA 2) aC) aV))) (aB (aA 3) aK)))))))))
def EJ(T:Txt P w K mg)(B:cM K mg base):T.x32.Ok P w mg base 3 [] [0] 0 pB:=T.x32.okD EA λhcd hr=>(aE (cE (aF T.x28 (JA T B) hr (aB (aN aI (aA 0) aC) aK)))
  (aE (cE (aF T.x29 (zW T B) hr (aB (aN aI (aA 0) aC) aK)))
  (aE (cE (aF T.x30 (pV T B) hr (aB (aN aI (aA 0) aC) (aB bD aK))))
  (aE (cE (aF T.x30 (pV T B) hr (aB (aN aI (aA 0) aC) (aB bD aK))))
  (aE (cE (aF T.x31 (CZ T B) hr (aB (aN aI (aA 0) aC) aK)))
  (aH (bC jX)))))))
def MH(T:Txt P w K mg)(B:cM K mg base):T.x33.Ok P w mg base 1 [] [0,0,0,0,0] 0 uO:=T.x33.okD qO λhcd hr=>(aE (aX 3 aI (aN aI (aN aI (aA 0) aC) (aA 1)) qO.nd)
  (aE (aX 4 aI (aN aI (aN aI (aA 0) aC) (aA 2)) qO.nd)
  (aH (bC (bE aI (nU aI J6 WS rfl T.x111 V4 (aG (iN aI (aN aI (aA 3) aC) (aN aI (aA 4) aC)) aV)) (nU aI J6 WS rfl T.x111 V4 (aG (iN aI (aN aI (aA 3) aC) (aN aI (aA 4) aC)) aV)))))))
def vY(T:Txt P w K mg)(B:cM K mg base):T.x34.Ok P w mg base 2 [1] [0,30] 0 mM:=T.x34.okD IE λhcd hr=>(aE (cN (eZ (d8 (aF T.x26 (jP T B) hr (aB (aN aI (aA 0) aC) aK))))
   (aH cW)
   bL)
  (aE (cN (HC 2 (λF H σ=>(ZR hr.units (aN aI (aA 0) aC) (aA 1))))
   (aH cW)
   bL)
  (aE (cN (c9 aI yK yV (aN aI (aA 0) aC) aC (cU _))
   (aH cW)
   bL)
  (aE (cN (eZ (d8 (aF T.x26 (jP T B) hr (aB (aN aI (aA 0) aC) aK))))
   (aH cW)
   bL)
  (aE (cN (eZ (d8 (aF T.x26 (jP T B) hr (aB (aN aI (aA 0) aC) aK))))
   (aH cW)
   bL)
  (aH (cN (c9 aI yK yV (aN aI (aA 0) aC) aC (cU _))
   (aH cW)
   bL)))))))
def C0(T:Txt P w K mg)(B:cM K mg base):T.x35.Ok P w mg base 3 [] [0,0,0,0,0] 0 nJ:=T.x35.okD iV λhcd hr=>(aE (cN (c9 aI (V7 hr.units) Δ (eV aI rfl T.x116 (aA 1)) (eV aI rfl T.x116 (aN aI (aA 0) aC)) (cU _))
   (aH cW)
   bL)
  (aE (aX 2 aI (AL aI) iV.nd)
  (aE (cG PassesOwn.leaving rfl (cS (aA 1)) (aP (i:=3) iV.nd rfl (by ac_nf0)) (fY aI (bQ rfl) ⋯ rfl)
   (aH (cG PassesOwn.leaving rfl (cS (aA 3)) (aP (i:=4) iV.nd rfl (by ac_nf0)) (fY aI (bQ rfl) ⋯ rfl)
    (aE (cE (aF T.x34 (vY T B) hr (aB (aA 4) (jH 2 aK))))
    (aH (vH 2 hr.units jX (aN aI (aA 4) aC)))))))
  (aH (bC jX)))))
def uT(T:Txt P w K mg)(B:cM K mg base):T.x36.Ok P w mg base 1 [] [0,0,0,0,0,0,0] 0 i6:=T.x36.okD dA λhcd hr=>(aE (aX 3 aI (eS aI aV) dA.nd)
  (aE (aX 4 aI (nU aI (G8 rfl) aIQ rfl T.x121 aIW (aG (cT aI (cP (xs:=["box"]) aI aI rfl (cS (aA 2)) (λC fp s H=>(aP (i:=0) qQ rfl (Or.inl rfl))) (cB aI ⋯ (bQ rfl) ⋯ rfl) (λC fp s H=>cV) (λC fp s H=>(aN aI (aA 0) aC)))) aV)) dA.nd)
  (aE (cN (c9 aI yL yW (eV aI rfl T.x116 (aA 2)) (aN aI (aA 0) aC) (cU _))
   (aH (cE (kU 3 aI (dW (aG bD (aG (aA 1) aV))))))
   bL)
  (aE (cN (c9 aI yL yW (aA 4) (aN aI (aA 0) aC) (cU _))
   (aH (cE (kU 3 aI (dW (aG bD (aG (aA 1) aV))))))
   bL)
  (aE (cG PassesOwn.leaving rfl (gX rfl T.x113 (aA 2)) (eY rfl (bG (aP (i:=5) dA.nd rfl (by ac_nf0)) (bG (aP (i:=6) dA.nd rfl (by ac_nf0)) dM))) (f7 (is:=[5,6]) aI (by intro i hi;simp![Å,Í,or_false]at hi;rcases hi with rfl|rfl<;>exact⟨bQ rfl,⋯,rfl⟩) rfl)
   (aE (aX 4 aI (iN aI (aA 4) (aN aI (aA 6) aC)) dA.nd)
   (aH (cN (c9 aI yL yW (aA 4) (aN aI (aA 6) aC) (cU _))
    (aH (cE (kU 3 aI (dW (aG bD (aG (aA 1) (aG (aA 5) aV)))))))
    bL))))
  (iM 3 (aH (bC (aA 3)))))))))
def UM(T:Txt P w K mg)(B:cM K mg base):T.x37.Ok P w mg base 1 [] [0,0,0] 0 CL:=T.x37.okD UE λhcd hr=>(aH (bC (aD1 rfl rfl T.x118 (cT aI (cP (xs:=["row"]) aI aI rfl (cS (aN aI (aA 0) aC)) (λC fp s H=>(aP (i:=0) LQ rfl (Or.inl rfl))) (cB aI ⋯ (bQ rfl) ⋯ rfl) (λC fp s H=>(QL (c9 aI (aI7 hr.units) aI8 (gB aI wI wO (aA 0) iP (iQ aC)) (dW (aG (dW (aG (aA 2) (aG (aA 3) aV))) (aG (dW (aG (aA 3) (aG (aA 2) aV))) aV))) (by with_unfolding_all rfl)))) (λC fp s H=>(aN aI (aA 0) aC)))) aC)))
def zX(T:Txt P w K mg)(B:cM K mg base):T.x38.Ok P w mg base 1 [] [0,0,0,0,0,0] 0 lQ:=T.x38.okD eD λhcd hr=>(aE (aX 1 aI (eS aI aV) eD.nd)
  (aE (cG PassesOwn.leaving rfl (gX rfl T.x113 (aA 0)) (eY rfl (bG (aP (i:=2) eD.nd rfl (by ac_nf0)) (bG (aP (i:=3) eD.nd rfl (by ac_nf0)) dM))) (f7 (is:=[2,3]) aI (by intro i hi;simp![Å,Í,or_false]at hi;rcases hi with rfl|rfl<;>exact⟨bQ rfl,⋯,rfl⟩) rfl)
   (aH (cG PassesOwn.leaving rfl (gX rfl T.x113 (aA 3)) (eY rfl (bG (aP (i:=4) eD.nd rfl (by ac_nf0)) (bG (aP (i:=5) eD.nd rfl (by ac_nf0)) dM))) (f7 (is:=[4,5]) aI (by intro i hi;simp![Å,Í,or_false]at hi;rcases hi with rfl|rfl<;>exact⟨bQ rfl,⋯,rfl⟩) rfl)
    (aH (cE (kU 1 aI (dW (aG (aA 2) (aG (aA 4) (aG (aN aI (aA 5) aC) aV))))))))))
  (iM 1 (aH (bC (aA 1))))))
def zY(T:Txt P w K mg)(B:cM K mg base):T.x39.Ok P w mg base 2 [] [0,0,0,0,0,0,0] 0 lT:=T.x39.okD eE λhcd hr=>(aE (aX 2 aI (eS aI aV) eE.nd)
  (aE (aX 3 aI (aF T.x38 (zX T B) hr (aB (aA 1) aK)) eE.nd)
  (aE (cG PassesOwn.leaving rfl (gX rfl T.x113 (aA 3)) (eY rfl (bG (aP (i:=4) eE.nd rfl (by ac_nf0)) (bG (aP (i:=5) eE.nd rfl (by ac_nf0)) dM))) (f7 (is:=[4,5]) aI (by intro i hi;simp![Å,Í,or_false]at hi;rcases hi with rfl|rfl<;>exact⟨bQ rfl,⋯,rfl⟩) rfl)
   (aH (cG PassesOwn.leaving rfl (cS (cT aI (gB aI AD AF (aA 3) (iQ (bE aI (aA 4) aC)) iP))) (aP (i:=6) eE.nd rfl (by ac_nf0)) (fY aI (bQ rfl) ⋯ rfl)
    (aH (cN (c9 aI yL yW (aF T.x37 (UM T B) hr (aB (aA 0) (aB (aN aI (aA 5) aC) (aB (aN aI (aA 6) aC) aK)))) (aF T.x33 (MH T B) hr (aB (aA 0) (aB (aN aI (aA 5) aC) (aB (aN aI (aA 6) aC) aK)))) (cU _))
     (aH (cE (kU 2 aI (dW (aG bD (aG (aN aI (aA 5) aC) (aG (aN aI (aA 5) aC) (aG (aN aI (aA 6) aC) (aG (aN aI (aA 6) aC) aV)))))))))
     bL)))))
  (iM 2 (aH (bC (aA 2)))))))
def GA(T:Txt P w K mg)(B:cM K mg base):T.x40.Ok P w mg base 3 [] [0,0,0,0,0] 0 j0:=T.x40.okD sC λhcd hr=>(aE (aX 2 aI (eS aI aV) sC.nd)
  (aE (cG PassesOwn.leaving rfl (gX rfl T.x113 (aA 1)) (eY rfl (bG (aP (i:=3) sC.nd rfl (by ac_nf0)) (bG (aP (i:=4) sC.nd rfl (by ac_nf0)) dM))) (f7 (is:=[3,4]) aI (by intro i hi;simp![Å,Í,or_false]at hi;rcases hi with rfl|rfl<;>exact⟨bQ rfl,⋯,rfl⟩) rfl)
   (aH (cE (k7 2 aI PySem.F.slot_list_extend PySem.F.type_list_extend jU eW (aG (aF T.x36 (uT T B) hr (aB (aN aI (aN aI (aA 0) aC) (aA 3)) (aB (aA 3) (aB (aA 4) aK)))) aV)))))
  (aE (cE (k7 2 aI PySem.F.slot_list_extend PySem.F.type_list_extend jU eW (aG (aF T.x39 (zY T B) hr (aB (aA 0) (aB (aA 1) aK))) aV)))
  (iM 2 (aH (bC (aA 2)))))))
def MI(T:Txt P w K mg)(B:cM K mg base):T.x48.Ok P w mg base 1 [] [0,0,0,0] 30 pC:=T.x48.okD mJ λhcd hr=>(aE (aX 1 aI (AL aI) mJ.nd)
  (aE (cG PassesOwn.leaving rfl (cS (aA 0)) (aP (i:=2) mJ.nd rfl (by ac_nf0)) (fY aI (bQ rfl) ⋯ rfl)
   (aH (cG PassesOwn.leaving rfl (cS (aA 2)) (aP (i:=3) mJ.nd rfl (by ac_nf0)) (fY aI (bQ rfl) ⋯ rfl)
    (aH (vH 1 hr.units jX (aN aI (aA 3) aC))))))
  (aH (bC (Q2 1 aI)))))
def C1(T:Txt P w K mg)(B:cM K mg base):T.x49.Ok P w mg base 3 [] [0,0,0,0,0,0] 0 nL:=T.x49.okE [0,0,0,30,0,0] iX λhcd hr=>(aE (aX 3 aI (aF T.x48 (MI T B) hr (aB (aA 1) aK)) iX.nd)
  (aH (cG PassesOwn.leaving rfl (cS (aA 2)) (eY rfl (bG (aP (i:=4) iX.nd rfl (by ac_nf0)) (bG (aP (i:=5) iX.nd rfl (by ac_nf0)) dM))) (f7 (is:=[4,5]) aI (by intro i hi;simp![Å,Í,or_false]at hi;rcases hi with rfl|rfl<;>exact⟨bQ rfl,⋯,rfl⟩) rfl)
   (aE (cN (eZ (WN aI J5 KD yK yV aC (aA 5) (eV aI rfl T.x116 (aN aI (aA 0) aC))))
    (aH cW)
    bL)
   (aE (cE (aF T.x34 (vY T B) hr (aB (aA 4) (jH 3 aK))))
   (aH (vH 3 hr.units jX (aN aI (aA 4) aC))))))))
def gF(T:Txt P w K mg)(B:cM K mg base):T.x59.Ok P w mg base 1 [] [0,0] 0 dD:=T.x59.okD O0 λhcd hr=>(aH (bC (iR bD (bE aI (cT aI (eS aI (aG (aA 0) aV))) (cT aI (cP (xs:=["part"]) aI aI rfl (cS (aA 1)) (λC fp s H=>(aP (i:=0) IH rfl (Or.inl rfl))) (cB aI ⋯ (bQ rfl) ⋯ rfl) (λC fp s H=>cV) (λC fp s H=>(fQ aI fJ oS rfl T.x120 oI (aG (aA 0) aV)))))))))
def C2(T:Txt P w K mg)(B:cM K mg base):T.x60.Ok P w mg base 2 [] [0,0] 0 jW:=T.x60.okD B6 λhcd hr=>(aH (bC (cT aI (cP (xs:=["box"]) aI aI rfl (cS (aA 1)) (λC fp s H=>(aP (i:=0) xA rfl (Or.inl rfl))) (cB aI ⋯ (bQ rfl) ⋯ rfl) (λC fp s H=>cV) (λC fp s H=>(aF T.x59 (gF T B) hr (aB bD (aB (bE aI (dW (aG (aN aI (aA 1) aC) aV)) (aA 0)) aK))))))))
def EK(T:Txt P w K mg)(B:cM K mg base):T.x61.Ok P w mg base 3 [] [0,0,0,0,0] 0 kN:=T.x61.okD jV λhcd hr=>(aE (aX 2 aI (eS aI (aG (aF T.x59 (gF T B) hr (aB bD (aB (aN aI (aA 0) aC) aK))) (aG (aF T.x59 (gF T B) hr (aB bD (aB (aN aI (aA 0) aC) aK))) aV))) jV.nd)
  (aE (cE (k7 2 aI PySem.F.slot_list_extend PySem.F.type_list_extend jU eW (aG (cT aI (cP (xs:=["stack"]) aI aI rfl (cS (aN aI (aA 0) aC)) (λC fp s H=>(aP (i:=0) zP rfl (Or.inl rfl))) (cB aI ⋯ (bQ rfl) ⋯ rfl) (λC fp s H=>cV) (λC fp s H=>(aF T.x59 (gF T B) hr (aB bD (aB (aA 0) aK)))))) aV)))
  (aE (cE (k7 2 aI PySem.F.slot_list_extend PySem.F.type_list_extend jU eW (aG (cT aI (cP (xs:=["tank"]) aI aI rfl (cS (aN aI (aA 0) aC)) (λC fp s H=>(aP (i:=0) zQ rfl (Or.inl rfl))) (cB aI ⋯ (bQ rfl) ⋯ rfl) (λC fp s H=>cV) (λC fp s H=>(aF T.x59 (gF T B) hr (aB bD (aB (aA 0) aK)))))) aV)))
  (aE (cE (k7 2 aI PySem.F.slot_list_extend PySem.F.type_list_extend jU eW (aG (cT aI (cP (xs:=["row"]) aI aI rfl (cS (aN aI (aA 0) aC)) (λC fp s H=>(aP (i:=0) zR rfl (Or.inl rfl))) (cB aI ⋯ (bQ rfl) ⋯ rfl) (λC fp s H=>cV) (λC fp s H=>(aF T.x59 (gF T B) hr (aB bD (aB (aA 0) aK)))))) aV)))
  (aE (cG PassesOwn.leaving rfl (HF rfl T.x123 (aN aI (aA 0) aC) (aA 1)) (eY rfl (bG (aP (i:=3) jV.nd rfl (by ac_nf0)) (bG (aP (i:=4) jV.nd rfl (by ac_nf0)) dM))) (f7 (is:=[3,4]) aI (by intro i hi;simp![Å,Í,or_false]at hi;rcases hi with rfl|rfl<;>exact⟨bQ rfl,⋯,rfl⟩) rfl)
   (aH (cE (k7 2 aI PySem.F.slot_list_extend PySem.F.type_list_extend jU eW (aG (aF T.x60 (C2 T B) hr (aB (aA 3) (aB (aA 4) aK))) aV)))))
  (iM 2 (aH (bC (iR bD (aA 2))))))))))
def JB(T:Txt P w K mg)(B:cM K mg base):T.x62.Ok P w mg base 1 [] [0,0] 0 mN:=T.x62.okD vO λhcd hr=>(aE (aX 1 aI (WB (d8 (FK (aA 0) bD)) (gB aI aJA aJB (aA 0) (iQ aC) iP) (aA 0)) vO.nd)
  (aE (cN (eZ (d8 (nU aI (yX rfl) WY rfl T.x112 V5 (aG (cT aI (cP (xs:=["sign"]) aI aI rfl (WX (aA 1)) (λC fp s H=>(aP (i:=0) B7 rfl (Or.inl rfl))) (cB aI ⋯ (bQ rfl) ⋯ rfl) (λC fp s H=>cV) (λC fp s H=>(u9 aI sA G7 sA G7 bD (aA 0) bD)))) aV))))
   (aH (bC jX))
   bL)
  (aE (cN (d8 (FK (aA 1) bD))
   (aH (bC (GX aI (j8 hr.units) pR (aA 0) bD (cU _))))
   bL)
  (aH (bC (u9 aI J5 KD J5 KD aC (eV aI rfl T.x116 (aA 1)) (QM rfl T.g_MOST_FIGURES)))))))
def zZ(T:Txt P w K mg)(B:cM K mg base):T.x63.Ok P w mg base 1 [] [0,0] 0 fE:=T.x63.okD zS λhcd hr=>(aE (cN (c9 aI yK yV (aA 1) (eV aI rfl T.x116 (sB rfl T.p_FIRST_LINES)) (cU _))
   (aH (bC (GX aI (j8 hr.units) pR (aA 0) (aN aI (sB rfl T.p_FIRST_LINES) (aA 1)) (cU _))))
   bL)
  (aH (bC (NP (aJR false T.d_FORMS_shiptexts rfl (aA 0)) (NO (GX aI GS aIR (aA 0) (sB rfl T.p_FIRST_LINES) (by with_unfolding_all rfl)))))))
def RU(T:Txt P w K mg)(B:cM K mg base):T.x64.Ok P w mg base 2 [] [0,0,0,0] 0 I8:=T.x64.okD II λhcd hr=>(aE (cN (c9 aI (V7 hr.units) Δ (eV aI rfl T.x116 (aA 0)) (eV aI rfl T.x116 (aA 1)) (cU _))
   (aH (bC jX))
   bL)
  (aE (cG PassesOwn.leaving rfl (RL rfl T.x123 (aA 0) (aA 1)) (eY rfl (bG (aP (i:=2) II.nd rfl (by ac_nf0)) (bG (aP (i:=3) II.nd rfl (by ac_nf0)) dM))) (f7 (is:=[2,3]) aI (by intro i hi;simp![Å,Í,or_false]at hi;rcases hi with rfl|rfl<;>exact⟨bQ rfl,⋯,rfl⟩) rfl)
   (aH (cN (oO (KC (c9 aI (j8 hr.units) pR (aA 2) bD (cU _)) (A7 (oO (WA (c9 aI (j8 hr.units) pR (aA 3) bD (cU _)) (QJ (eZ (d8 (aF T.x62 (JB T B) hr (aB (aA 2) aK))))))))))
    (aH (bC jX))
    bL)))
  (aH (bC jX))))
def mP(T:Txt P w K mg)(B:cM K mg base):T.x65.Ok P w mg base 1 [] [0,0] 0 gI:=T.x65.okD vP λhcd hr=>(aH (bC (fQ aI DX WT rfl T.x122 V6 (aG (cT aI (cP (xs:=["word","sort"]) aI aI rfl (RL rfl T.x123 (aA 0) (aA 1)) (λC fp s H=>(eY rfl (bG (aP (i:=0) kJ rfl (Or.inl rfl)) (bG (aP (i:=1) kJ rfl (Or.inl rfl)) dM)))) (HA (is:=[0,1]) aI (by intro i hi;simp![Å,Í,or_false]at hi;rcases hi with rfl|rfl<;>exact⟨⋯,bQ rfl,⋯,rfl⟩) rfl) (λC fp s H=>cV) (λC fp s H=>(WB (c9 aI (j8 hr.units) pR (aA 1) bD (cU _)) (fQ aI TZ aEJ rfl T.x114 aIB (aG (aA 0) aV)) (aA 0))))) aV))))
def JC(T:Txt P w K mg)(B:cM K mg base):T.x66.Ok P w mg base 3 [] [0,0,0,0] 0 rK:=T.x66.okD oX λhcd hr=>(aE (aX 2 aI (cT aI (BV aI (aA 0) bD)) oX.nd)
  (aE (aX 3 aI (aN aI (aA 2) aC) oX.nd)
  (aE (cN (oO (KC (eZ (d8 (aF T.x63 (zZ T B) hr (aB (aA 3) (aB (aA 1) aK))))) (A7 (eZ (d8 (aF T.x64 (RU T B) hr (aB (cT aI (gB aI AD AF (aA 2) (iQ aC) iP)) (aB (HU T.d_FORMS_shiptexts rfl (aA 3)) aK))))))))
   (aH cW)
   bL)
  (aH (bC (dW (aG (aA 3) (aG (aF T.x65 (mP T B) hr (aB (cT aI (gB aI AD AF (aA 2) (iQ aC) iP)) (aB (HU T.d_FORMS_shiptexts rfl (aA 3)) aK))) aV))))))))
def EL(T:Txt P w K mg)(B:cM K mg base):T.x67.Ok P w mg base 4 [] [0,0] 0 kP:=T.x67.okD tP λhcd hr=>(aE (kL 1 (xs:=["number","line"]) aI aI rfl tP.nd (gX rfl T.x113 (cT aI (BV aI (aA 0) bD))) (λC fp s H=>(eY rfl (bG (aP (i:=0) pT rfl (Or.inl rfl)) (bG (aP (i:=1) pT rfl (Or.inl rfl)) dM)))) (HA (is:=[0,1]) aI (by intro i hi;simp![Å,Í,or_false]at hi;rcases hi with rfl|rfl<;>exact⟨⋯,bQ rfl,⋯,rfl⟩) rfl) (λC fp s H=>cV) (λC fp s H=>(aF T.x66 (JC T B) hr (aB (aA 1) (aB (aA 0) aK)))))
  (aE (cN (c9 aI yK yV (QH 1 rfl T.x116) (eV aI rfl T.x116 (sB rfl T.p_FIRST_LINES)) (cU _))
   (aH cW)
   bL)
  (iM 1 (aH (bC (aA 1))))))
def gY(T:Txt P w K mg)(B:cM K mg base):T.x68.Ok P w mg base 1 [] [0,0] 0 dJ:=T.x68.okD zT λhcd hr=>(aH (bC (cT aI (cP (xs:=["first","parts"]) aI aI rfl (cS (aA 0)) (λC fp s H=>(eY rfl (bG (aP (i:=0) mK rfl (Or.inl rfl)) (bG (aP (i:=1) mK rfl (Or.inl rfl)) dM)))) (HA (is:=[0,1]) aI (by intro i hi;simp![Å,Í,or_false]at hi;rcases hi with rfl|rfl<;>exact⟨⋯,bQ rfl,⋯,rfl⟩) rfl) (λC fp s H=>(QL (c9 aI (j8 hr.units) pR (aA 0) (aA 3) (cU _)))) (λC fp s H=>(aA 1))))))
def O9(T:Txt P w K mg)(B:cM K mg base):T.x69.Ok P w mg base 2 [] [0] 0 xP:=T.x69.okD O2 λhcd hr=>(aH (bC (dW (aG (aN aI (aN aI (aA 0) aC) aC) (aG (aN aI (aN aI (aA 0) aC) aC) (aG (aF T.x68 (gY T B) hr (aB (aA 0) (aB bD aK))) (aG (aF T.x68 (gY T B) hr (aB (aA 0) (aB bD aK))) (aG (aF T.x68 (gY T B) hr (aB (aA 0) (aB bD aK))) aV))))))))
def MJ(T:Txt P w K mg)(B:cM K mg base):T.x70.Ok P w mg base 2 [] [0,0,0,0,0,0,0] 2 uR:=T.x70.okD hU λhcd hr=>(aE (m9 2 (xs:=["stack"]) 8 aI aI rfl hU.nd (cS (aN aI (aA 0) aC)) (λC fp s H=>(aP (i:=0) EB rfl (Or.inl rfl))) (cB aI ⋯ (bQ rfl) ⋯ rfl) (λC fp s H F1 H1 σ1=>(eS aI aV)))
  (aE (aX 3 aI (AL aI) hU.nd)
  (aE (cG PassesOwn.leaving rfl (gX rfl T.x113 (aN aI (aA 0) aC)) (eY rfl (bG (aP (i:=4) hU.nd rfl (by ac_nf0)) (bG (aP (i:=5) hU.nd rfl (by ac_nf0)) dM))) (f7 (is:=[4,5]) aI (by intro i hi;simp![Å,Í,or_false]at hi;rcases hi with rfl|rfl<;>exact⟨bQ rfl,⋯,rfl⟩) rfl)
   (aH (vH 3 hr.units (aA 4) (aN aI (aA 5) aC))))
  (aE (cG PassesOwn.leaving rfl (cS (aF T.x68 (gY T B) hr (aB (aA 1) (aB bD aK)))) (aP (i:=6) hU.nd rfl (by ac_nf0)) (fY aI (bQ rfl) ⋯ rfl)
   (aE (cN (HC 7 (λF H σ=>(TX hr.units (aN aI (aA 6) aC) (aA 3))))
    (aH cW)
    bL)
   (aH (cE (Q5 2 7 PySem.F.slot_list_append PySem.F.type_list_append wJ t5 (λF H σ=>(aJN hr.units (aA 3) (aN aI (aA 6) aC))) (λF H σ=>(aG (gB aI wI wO (aA 6) (iQ aC) iP) aV)))))))
  (aH (bC (Q2 2 aI)))))))
def JD(T:Txt P w K mg)(B:cM K mg base):T.x71.Ok P w mg base 5 [] [0,0,0,0] 0 rM:=T.x71.okD kM λhcd hr=>(aE (aX 1 aI (aF T.x67 (EL T B) hr (aB (aA 0) aK)) kM.nd)
  (aE (aX 2 aI (aF T.x69 (O9 T B) hr (aB (aA 1) aK)) kM.nd)
  (aE (cE (aF T.x32 (EJ T B) hr (aB (aA 2) aK)))
  (aE (aX 3 aI (cT aI (aF T.x70 (MJ T B) hr (aB (aA 2) (aB (aA 1) aK)))) kM.nd)
  (aE (cE (aF T.x35 (C0 T B) hr (aB (aA 2) (aB (aA 3) aK))))
  (aH (bC (dW (aG (aA 2) (aG (aA 3) aV))))))))))
def UN(T:Txt P w K mg)(B:cM K mg base):T.x73.Ok P w mg base 1 [] [0] 0 CO:=T.x73.okD UH λhcd hr=>(aH (bC (WB (aJO (aA 0)) (iR bD (aA 0)) bD)))
def z9(T:Txt P w K mg)(B:cM K mg base):T.x77.Ok P w mg base 1 [0] [21,0,0,0] 0 lW:=T.x77.okD j9 λhcd hr=>(aE (cG PassesOwn.leaving rfl (gX rfl T.x113 (aN aI (gH 0 "Desk" T.x127) aC)) (eY rfl (bG (aP (i:=2) j9.nd rfl (by ac_nf0)) (bG (aP (i:=3) j9.nd rfl (by ac_nf0)) dM))) (f7 (is:=[2,3]) aI (by intro i hi;simp![Å,Í,or_false]at hi;rcases hi with rfl|rfl<;>exact⟨bQ rfl,⋯,rfl⟩) rfl)
   (aH (cN (c9 aI (j8 hr.units) pR (aN aI (aA 3) aC) (aA 1) (cU _))
    (aH (bC (aA 2)))
    bL)))
  (aH (bC (eV aI rfl T.x116 (aN aI (gH 0 "Desk" T.x127) aC)))))
def AA(T:Txt P w K mg)(B:cM K mg base):T.x78.Ok P w mg base 3 [0] [21,0] 0 fF:=T.x78.okD zU λhcd hr=>(aH (bC (iR bD (cT aI (cP (xs:=["number"]) aI aI rfl (cS (aF T.x17 (O8 T B) hr (aB (gH 0 "Desk" T.x127) (aB (gH 0 "Desk" T.x124) aK)))) (λC fp s H=>(aP (i:=0) vR rfl (Or.inl rfl))) (cB aI ⋯ (bQ rfl) ⋯ rfl) (λC fp s H=>cV) (λC fp s H=>(fQ aI fJ oS rfl T.x120 oI (aG (aA 0) aV))))))))
def EM(T:Txt P w K mg)(B:cM K mg base):T.x79.Ok P w mg base 4 [0] [21,0] 0 gJ:=T.x79.okD EE λhcd hr=>(aH (bC (aF T.x73 (UN T B) hr (aB (cT aI (cP (xs:=["rule"]) aI aI rfl (cS (aF T.x40 (GA T B) hr (aB (gH 0 "Desk" T.x127) (aB (gH 0 "Desk" T.x124) aK)))) (λC fp s H=>(aP (i:=0) zV rfl (Or.inl rfl))) (cB aI ⋯ (bQ rfl) ⋯ rfl) (λC fp s H=>cV) (λC fp s H=>(aF T.x59 (gF T B) hr (aB (aN aI (aA 0) aC) (aB (gB aI wI wO (aA 0) (iQ aC) iP) aK)))))) aK))))
def JE(T:Txt P w K mg)(B:cM K mg base):T.x83.Ok P w mg base 4 [0] [21,0,0] 0 hV:=T.x83.okD vT λhcd hr=>(aE (aX 2 aI (bE aI (gH 0 "Desk" T.x125) (cT aI (eS aI (aG (dW (aG (gB aI wI wO (aA 1) iP (iQ aC)) (aG (aF T.x77 (z9 T B) hr (jH 0 (aB (aN aI (aA 1) aC) aK))) aV))) aV)))) vT.nd)
  (aE (cE (aF T.x49 (C1 T B) hr (aB (gH 0 "Desk" T.x127) (aB (gH 0 "Desk" T.x124) (aB (aA 2) aK)))))
  (aE (BN 0 "Desk" aI T.x125 (aA 2))
  (aH (bC bD)))))
def EN(T:Txt P w K mg)(B:cM K mg base):T.x87.Ok P w mg base 2 [0] [21,0,0,0,0,0] 0 gK:=T.x87.okD gT λhcd hr=>(aE (cG PassesOwn.leaving rfl (HF rfl T.x123 (aN aI (gH 0 "Desk" T.x127) aC) (gH 0 "Desk" T.x124)) (eY rfl (bG (aP (i:=2) gT.nd rfl (by ac_nf0)) (bG (aP (i:=3) gT.nd rfl (by ac_nf0)) dM))) (f7 (is:=[2,3]) aI (by intro i hi;simp![Å,Í,or_false]at hi;rcases hi with rfl|rfl<;>exact⟨bQ rfl,⋯,rfl⟩) rfl)
   (aH (cG PassesOwn.leaving rfl (gX rfl T.x113 (aA 3)) (eY rfl (bG (aP (i:=4) gT.nd rfl (by ac_nf0)) (bG (aP (i:=5) gT.nd rfl (by ac_nf0)) dM))) (f7 (is:=[4,5]) aI (by intro i hi;simp![Å,Í,or_false]at hi;rcases hi with rfl|rfl<;>exact⟨bQ rfl,⋯,rfl⟩) rfl)
    (aH (cN (c9 aI (j8 hr.units) pR (aN aI (aA 5) aC) (aN aI (aA 1) aC) (cU _))
     (aH (bC (aF T.x59 (gF T B) hr (aB (aN aI (aA 2) aC) (aB (cT aI (eS aI (aG (aA 4) aV))) aK)))))
     bL)))))
  (aH (bC bD)))
def JF(T:Txt P w K mg)(B:cM K mg base):ę P w K mg base (E7 P w K) 4 T.x88.f T.x88.fd (rA.take 2) (NL K (rA.take 2) [0] [21,0] 0 hW):=T.x88.okT λhcd hr nd=>(LG (RQ (Z2 (aF T.x61 (EK T B) hr (aB (gH 0 "Desk" T.x127) (aB (gH 0 "Desk" T.x124) aK))))))
def C3(T:Txt P w K mg)(B:cM K mg base):T.x89.Ok P w mg base 1 [] [0,0] 0 sG:=T.x89.okD O3 λhcd hr=>(aE (cN (oO (WA (c9 aI (j8 hr.units) pR (aA 0) bD (cU _)) (QJ (d8 (aA 1)))))
   (aH (bC (HK aI bD (eV aI rfl T.x116 (aA 1)))))
   bL)
  (aH (bC (HU T.d_FORMS_desk rfl (aA 0)))))
def JG(T:Txt P w K mg)(B:cM K mg base):T.x90.Ok P w mg base 3 [] [0,0] 0 rQ:=T.x90.okD IS λhcd hr=>(aE (cN (oO (KC (aJS true T.d_FORMS_desk rfl (aA 0)) (A7 (eZ (d8 (aF T.x64 (RU T B) hr (aB (aA 1) (aB (aF T.x89 (C3 T B) hr (aB (aA 0) (aB (aA 1) aK))) aK))))))))
   (aH cW)
   bL)
  (aH (bC (aF T.x65 (mP T B) hr (aB (aA 1) (aB (aF T.x89 (C3 T B) hr (aB (aA 0) (aB (aA 1) aK))) aK))))))
def pI(T:Txt P w K mg)(B:cM K mg base):T.x91.Ok P w mg base 1 [] [0,0] 0 j3:=T.x91.okD IT λhcd hr=>(aE (cN (c9 aI yK yV (aA 1) (eV aI rfl T.x116 (aA 0)) (cU _))
   (aH (bC (aN aI (aA 0) (aA 1))))
   bL)
  (aH (bC aC)))
def eF(T:Txt P w K mg)(B:cM K mg base):T.x92.Ok P w mg base 2 [] [0,0,0] 0 eO:=T.x92.okD UK λhcd hr=>(aH (bC (mV aI (mV aI (dI aI (bE aI (mV aI (aF T.x91 (pI T B) hr (aB (aA 0) (aB (aA 1) aK))) aC) (dI aI (aA 1) (aA 1))) aC) aC) (aA 2))))
def dF(T:Txt P w K mg)(B:cM K mg base):T.x93.Ok P w mg base 2 [] [0,0,0] 0 dE:=T.x93.okD O4 λhcd hr=>(aH (bC (mV aI (mV aI (dI aI (bE aI (bE aI (mV aI (aF T.x91 (pI T B) hr (aB (aA 0) (aB (aA 1) aK))) aC) (dI aI aC (aA 1))) aC) aC) aC) (aA 2))))
def dG(T:Txt P w K mg)(B:cM K mg base):T.x94.Ok P w mg base 2 [] [0,0,0] 0 cX:=T.x94.okD O5 λhcd hr=>(aH (bC (mV aI (mV aI (dI aI (bE aI (bE aI (mV aI (aF T.x91 (pI T B) hr (aB (aA 0) (aB (aA 1) aK))) aC) (dI aI aC (aA 1))) aC) aC) aC) (aA 2))))
def iA(T:Txt P w K mg)(B:cM K mg base):T.x95.Ok P w mg base 3 [] [0,0,0,0,0,0,0,0] 0 gD:=T.x95.okD jM λhcd hr=>(aE (aX 3 aI bD jM.nd)
  (aE (cN (c9 aI (j8 hr.units) pR (aF T.x93 (dF T B) hr (aB (aA 0) (aB aC (aB aC aK)))) aC (cU _))
   (aH (aX 1 aI aC jM.nd))
   bL)
  (aE (aX 4 aI (bE aI aC (aF T.x94 (dG T B) hr (aB (aA 0) (aB (aA 1) (aB aC aK))))) jM.nd)
  (aE (aX 5 aI (aF T.x93 (dF T B) hr (aB (aA 0) (aB (aA 1) (aB (aA 4) aK)))) jM.nd)
  (aE (aX 6 aI (aN aI (aA 3) (aF T.x92 (eF T B) hr (aB (aA 0) (aB (aA 1) (aB aC aK))))) jM.nd)
  (aE (aX 7 aI (aN aI (aA 3) (mV aI (bE aI (dI aI aC (aA 2)) (aF T.x93 (dF T B) hr (aB (aA 0) (aB (bE aI (aA 1) aC) (aB aC aK))))) aC)) jM.nd)
  (aH (bC (bE aI (bE aI (HK aI (aA 6) (aA 5)) (aA 7)) (HK aI (aA 6) (iN aI (iN aI (aA 4) aC) (aA 5))))))))))))
def pJ(T:Txt P w K mg)(B:cM K mg base):T.x96.Ok P w mg base 3 [] [0] 0 kW:=T.x96.okD O6 λhcd hr=>(aH (bC (aN aI (cT aI (eS aI (aG aC (aG aC (aG aC (aG (aIK aI aC aC) aV)))))) (aF T.x92 (eF T B) hr (aB (aA 0) (aB aC (aB aC aK)))))))
def PB(T:Txt P w K mg)(B:cM K mg base):T.x97.Ok P w mg base 4 [] [0,0,0,0,0,0,0] 0 xV:=T.x97.okD jN λhcd hr=>(aE (aX 2 aI (iN aI (aF T.x92 (eF T B) hr (aB (aA 0) (aB (bE aI aC (aA 1)) (aB aC aK)))) aC) jN.nd)
  (aE (aX 3 aI (iN aI (aF T.x93 (dF T B) hr (aB (aA 0) (aB (bE aI aC (aA 1)) (aB aC aK)))) aC) jN.nd)
  (aE (aX 4 aI (bE aI aC (aF T.x94 (dG T B) hr (aB (aA 0) (aB (bE aI aC (aA 1)) (aB aC aK))))) jN.nd)
  (aE (aX 5 aI (dI aI (aF T.x96 (pJ T B) hr (aB (aA 0) aK)) (bE aI aC (aF T.x93 (dF T B) hr (aB (aA 0) (aB (bE aI aC (aA 1)) (aB aC aK)))))) jN.nd)
  (aE (aX 6 aI (aF T.x95 (iA T B) hr (aB (aA 0) (aB aC (aB (aA 1) aK)))) jN.nd)
  (aH (bC (dW (aG (aA 6) (aG (aA 2) (aG (aA 3) (aG (aF T.x94 (dG T B) hr (aB (aA 0) (aB (bE aI aC (aA 1)) (aB aC aK)))) (aG (bE aI aC (aF T.x92 (eF T B) hr (aB (aA 0) (aB (bE aI aC (aA 1)) (aB aC aK))))) (aG (aA 4) (aG (aA 5) aV)))))))))))))))
def UO(T:Txt P w K mg)(B:cM K mg base):T.x98.Ok P w mg base 4 [] [0,0,0,0,0] 0 CT:=T.x98.okD sD λhcd hr=>(aE (aX 2 aI (iN aI (aF T.x92 (eF T B) hr (aB (aA 0) (aB (bE aI aC (aA 1)) (aB aC aK)))) aC) sD.nd)
  (aE (aX 3 aI (iN aI (aF T.x93 (dF T B) hr (aB (aA 0) (aB (bE aI aC (aA 1)) (aB aC aK)))) aC) sD.nd)
  (aE (aX 4 aI (dI aI (aF T.x96 (pJ T B) hr (aB (aA 0) aK)) (bE aI aC (aF T.x92 (eF T B) hr (aB (aA 0) (aB (bE aI aC (aA 1)) (aB aC aK)))))) sD.nd)
  (aH (bC (dW (aG (aF T.x95 (iA T B) hr (aB (aA 0) (aB aC (aB (aA 1) aK)))) (aG (aA 2) (aG (aA 3) (aG (iN aI (aF T.x94 (dG T B) hr (aB (aA 0) (aB (bE aI aC (aA 1)) (aB aC aK)))) aC) (aG (aA 4) aV)))))))))))
def UP(T:Txt P w K mg)(B:cM K mg base):T.x99.Ok P w mg base 5 [] [0,0,0,0,0,0,0,0,0,0,0,0,0] 0 vW:=T.x99.okD dS λhcd hr=>(aE (aX 1 aI (aF T.x96 (pJ T B) hr (aB (aA 0) aK)) dS.nd)
  (aE (aX 2 aI (dW (aG (dI aI (aA 1) (bE aI aC (aF T.x92 (eF T B) hr (aB (aA 0) (aB aC (aB aC aK)))))) (aG (iN aI (aF T.x93 (dF T B) hr (aB (aA 0) (aB aC (aB aC aK)))) aC) (aG (iN aI (aF T.x94 (dG T B) hr (aB (aA 0) (aB aC (aB aC aK)))) aC) (aG aC aV))))) dS.nd)
  (aE (aX 3 aI (bE aI aC (aF T.x94 (dG T B) hr (aB (aA 0) (aB aC (aB aC aK))))) dS.nd)
  (aE (aX 4 aI (bE aI aC (aF T.x94 (dG T B) hr (aB (aA 0) (aB aC (aB aC aK))))) dS.nd)
  (aE (aX 5 aI (dI aI (aA 1) (bE aI aC (aF T.x93 (dF T B) hr (aB (aA 0) (aB aC (aB aC aK)))))) dS.nd)
  (aE (aX 6 aI (dW (aG (iN aI aC (aA 3)) (aG (aA 3) (aG (iN aI aC (aA 4)) (aG (bE aI (aA 4) (aF T.x92 (eF T B) hr (aB (aA 0) (aB aC (aB aC aK))))) (aG (bE aI aC (aF T.x94 (dG T B) hr (aB (aA 0) (aB aC (aB aC aK))))) (aG (aA 5) aV))))))) dS.nd)
  (aE (kL 7 (xs:=["_law_s"]) aI aI rfl dS.nd (hJ rfl T.x119 (bE aI aC (aF T.x92 (eF T B) hr (aB (aA 0) (aB aC (aB aC aK)))))) (λC fp s H=>(aP (i:=0) L5 rfl (Or.inl rfl))) (cB aI ⋯ (bQ rfl) ⋯ rfl) (λC fp s H=>cV) (λC fp s H=>(aF T.x97 (PB T B) hr (aB (aA 1) (aB (aA 0) aK)))))
  (aE (kL 8 (xs:=["_law_k"]) aI aI rfl dS.nd (hJ rfl T.x119 (aF T.x93 (dF T B) hr (aB (aA 0) (aB aC (aB aC aK))))) (λC fp s H=>(aP (i:=0) L6 rfl (Or.inl rfl))) (cB aI ⋯ (bQ rfl) ⋯ rfl) (λC fp s H=>cV) (λC fp s H=>(aF T.x98 (UO T B) hr (aB (aA 1) (aB (aA 0) aK)))))
  (aE (aX 9 aI (eS aI aV) dS.nd)
  (aE (cG PassesOwn.leaving rfl (hJ rfl T.x119 (aN aI (cT aI (eS aI (aG aC (aG aC (aG aC (aG aC (aG aC aV))))))) (aF T.x94 (dG T B) hr (aB (aA 0) (aB aC (aB aC aK)))))) (aP (i:=10) dS.nd rfl (by ac_nf0)) (fY aI (bQ rfl) ⋯ rfl)
   (aE (aX 11 aI (aF T.x95 (iA T B) hr (aB (aA 0) (aB aC (aB (aF T.x92 (eF T B) hr (aB (aA 0) (aB (bE aI aC (aA 10)) (aB aC aK)))) aK)))) dS.nd)
   (aE (aX 12 aI (aF T.x95 (iA T B) hr (aB (aA 0) (aB aC (aB (aF T.x93 (dF T B) hr (aB (aA 0) (aB (bE aI aC (aA 10)) (aB aC aK)))) aK)))) dS.nd)
   (aH (cE (kU 9 aI (dW (aG (aA 11) (aG (aA 12) (aG (bE aI aC (aF T.x94 (dG T B) hr (aB (aA 0) (aB (bE aI aC (aA 10)) (aB aC aK))))) aV))))))))))
  (iM 7 (iM 8 (iM 9 (aH (bC (dW (aG (aA 2) (aG (aA 6) (aG (aA 7) (aG (aA 8) (aG (aA 9) aV)))))))))))))))))))))
def C4(T:Txt P w K mg)(B:cM K mg base):T.x100.Ok P w mg base 4 [] [0,0,0,0,0,0] 0 vX:=T.x100.okD oA λhcd hr=>(aE (aX 2 aI (aF T.x96 (pJ T B) hr (aB (aA 0) aK)) oA.nd)
  (aE (aX 3 aI (aF T.x95 (iA T B) hr (aB (aA 0) (aB aC (aB (aF T.x93 (dF T B) hr (aB (aA 0) (aB (bE aI aC (aA 1)) (aB aC aK)))) aK)))) oA.nd)
  (aE (aX 4 aI (aF T.x95 (iA T B) hr (aB (aA 0) (aB aC (aB (aN aI (cT aI (eS aI (aG aC (aG aC (aG aC (aG aC (aG aC (aG aC aV)))))))) (aF T.x94 (dG T B) hr (aB (aA 0) (aB (bE aI aC (aA 1)) (aB aC aK))))) aK)))) oA.nd)
  (aE (aX 5 aI (dI aI (aA 2) (aF T.x93 (dF T B) hr (aB (aA 0) (aB (bE aI aC (aA 1)) (aB aC aK))))) oA.nd)
  (aE (cN (c9 aI yL yW (aA 5) (dI aI aC (aA 2)) (cU _))
   (aH (aX 5 aI (bE aI (aA 5) (dI aI aC (aA 2))) oA.nd))
   bL)
  (aH (bC (dW (aG (aF T.x95 (iA T B) hr (aB (aA 0) (aB aC (aB (aA 1) aK)))) (aG (dI aI (aA 2) (bE aI aC (aF T.x92 (eF T B) hr (aB (aA 0) (aB (bE aI aC (aA 1)) (aB aC aK)))))) (aG (aA 3) (aG (aA 4) (aG (aA 5) aV)))))))))))))
def PD(T:Txt P w K mg)(B:cM K mg base):T.x101.Ok P w mg base 5 [] [0,0,0,0,0] 0 sH:=T.x101.okD uK λhcd hr=>(aE (m9 3 (xs:=["_law_stack_here"]) 6 aI aI rfl uK.nd (cS (aN aI (aA 1) aC)) (λC fp s H=>(aP (i:=0) IV rfl (Or.inl rfl))) (cB aI ⋯ (bQ rfl) ⋯ rfl) (λC fp s H F1 H1 σ1=>(eS aI aV)))
  (aE (cG PassesOwn.leaving rfl (hJ rfl T.x119 (aA 2)) (aP (i:=4) uK.nd rfl (by ac_nf0)) (fY aI (bQ rfl) ⋯ rfl)
   (aH (cE (Q5 3 5 PySem.F.slot_list_append PySem.F.type_list_append wJ t5 (λF H σ=>(aF T.x94 (dG T B) hr (aB (aA 0) (aB (bE aI aC (aA 4)) (aB (eV aI rfl T.x116 (aA 3)) aK))))) (λF H σ=>(aG (aF T.x100 (C4 T B) hr (aB (aA 0) (aB (aA 4) aK))) aV))))))
  (iM 3 (aH (bC (aA 3))))))
def JH(T:Txt P w K mg)(B:cM K mg base):T.x102.Ok P w mg base 1 [] [0,0,0,0,0,0,0,0] 0 mO:=T.x102.okD fL λhcd hr=>(aE (aX 2 aI (aN aI (aA 0) aC) fL.nd)
  (aE (aX 3 aI (eS aI (aG (aN aI (aA 2) aC) (aG (dI aI (aN aI (aA 2) aC) (aN aI (aA 2) aC)) (aG (dI aI (aN aI (aA 2) aC) (aN aI (aA 2) aC)) (aG (dI aI (aN aI (aA 2) aC) (aN aI (aA 2) aC)) aV))))) fL.nd)
  (aE (cG PassesOwn.leaving rfl (HF rfl T.x123 (aN aI (aA 0) aC) (aA 1)) (eY rfl (bG (aP (i:=4) fL.nd rfl (by ac_nf0)) (bG (aP (i:=5) fL.nd rfl (by ac_nf0)) dM))) (f7 (is:=[4,5]) aI (by intro i hi;simp![Å,Í,or_false]at hi;rcases hi with rfl|rfl<;>exact⟨bQ rfl,⋯,rfl⟩) rfl)
   (aH (cG PassesOwn.leaving rfl (hJ rfl T.x119 (eV aI rfl T.x116 (aA 5))) (aP (i:=6) fL.nd rfl (by ac_nf0)) (fY aI (bQ rfl) ⋯ rfl)
    (aE (aX 7 aI (aN aI (aN aI (aA 5) (aA 6)) aC) fL.nd)
    (aE (G1 3 aI (bE aI (G3 3 aC) (aA 7)) aC)
    (aE (G1 3 aI (bE aI (G3 3 aC) (dI aI (aA 7) (aN aI (aA 4) aC))) aC)
    (aE (G1 3 aI (bE aI (G3 3 aC) (dI aI (aA 7) (aN aI (aA 4) aC))) aC)
    (aH (G1 3 aI (bE aI (G3 3 aC) (dI aI (aA 7) (bE aI (aN aI (aA 4) aC) (dI aI (aA 6) (aN aI (aA 4) aC))))) aC)))))))))
  (iM 3 (aH (bC (aA 3)))))))
def kX(T:Txt P w K mg)(B:cM K mg base):T.x103.Ok P w mg base 1 [] [0,0] 0 gE:=T.x103.okD UL λhcd hr=>(aH (bC (iR bD (bE aI (cT aI (eS aI (aG (aA 0) aV))) (cT aI (cP (xs:=["_law_part"]) aI aI rfl (cS (aA 1)) (λC fp s H=>(aP (i:=0) L8 rfl (Or.inl rfl))) (cB aI ⋯ (bQ rfl) ⋯ rfl) (λC fp s H=>cV) (λC fp s H=>(fQ aI fJ oS rfl T.x120 oI (aG (aA 0) aV)))))))))
def yF(T:Txt P w K mg)(B:cM K mg base):T.x104.Ok P w mg base 2 [] [0,0,0,0] 0 j4:=T.x104.okD xK λhcd hr=>(aE (aX 2 aI (eS aI (aG (aF T.x103 (kX T B) hr (aB bD (aB (aN aI (aA 0) aC) aK))) (aG (aF T.x103 (kX T B) hr (aB bD (aB (aN aI (aA 0) aC) aK))) aV))) xK.nd)
  (aE (cE (k7 2 aI PySem.F.slot_list_extend PySem.F.type_list_extend jU eW (aG (cT aI (cP (xs:=["_law_stack_here"]) aI aI rfl (cS (aN aI (aA 0) aC)) (λC fp s H=>(aP (i:=0) MA rfl (Or.inl rfl))) (cB aI ⋯ (bQ rfl) ⋯ rfl) (λC fp s H=>cV) (λC fp s H=>(aF T.x103 (kX T B) hr (aB bD (aB (aA 0) aK)))))) aV)))
  (aE (cE (k7 2 aI PySem.F.slot_list_extend PySem.F.type_list_extend jU eW (aG (cT aI (cP (xs:=["_law_tank_here"]) aI aI rfl (cS (aN aI (aA 0) aC)) (λC fp s H=>(aP (i:=0) MB rfl (Or.inl rfl))) (cB aI ⋯ (bQ rfl) ⋯ rfl) (λC fp s H=>cV) (λC fp s H=>(aF T.x103 (kX T B) hr (aB bD (aB (aA 0) aK)))))) aV)))
  (aE (cE (k7 2 aI PySem.F.slot_list_extend PySem.F.type_list_extend jU eW (aG (cT aI (cP (xs:=["_law_row"]) aI aI rfl (cS (aN aI (aA 0) aC)) (λC fp s H=>(aP (i:=0) MC rfl (Or.inl rfl))) (cB aI ⋯ (bQ rfl) ⋯ rfl) (λC fp s H=>cV) (λC fp s H=>(aF T.x103 (kX T B) hr (aB bD (aB (aA 0) aK)))))) aV)))
  (aE (cG PassesOwn.leaving rfl (hJ rfl T.x119 (eV aI rfl T.x116 (aA 1))) (aP (i:=3) xK.nd rfl (by ac_nf0)) (fY aI (bQ rfl) ⋯ rfl)
   (aH (cE (k7 2 aI PySem.F.slot_list_extend PySem.F.type_list_extend jU eW (aG (cT aI (cP (xs:=["_law_box_here"]) aI aI rfl (cS (aN aI (aA 1) (aA 3))) (λC fp s H=>(aP (i:=0) MD rfl (Or.inl rfl))) (cB aI ⋯ (bQ rfl) ⋯ rfl) (λC fp s H=>cV) (λC fp s H=>(aF T.x103 (kX T B) hr (aB (bE aI bD (aN aI (aN aI (aN aI (aA 1) aC) (aA 4)) aC)) (aB (aA 0) aK)))))) aV)))))
  (iM 2 (aH (bC (iR bD (aA 2))))))))))
def MK(T:Txt P w K mg)(B:cM K mg base):T.x105.Ok P w mg base 5 [0] [21,0,0,0] 0 fM:=T.x105.okD rE λhcd hr=>(aJY (FN (aEP 2 aI (aJZ aI (T5 aI (aA 1) aEQ)) rE.nd)
  (FN (aJX (aX 3 aI (aF T.x90 (JG T B) hr (aB (aN aI (aA 2) aC) (aB (cT aI (gB aI AD AF (aA 2) (iQ aC) iP)) aK))) rE.nd))
  (LG (RQ (Z6 (ents:=[("weigh",[21,0],fF),("rules",[21,0],gJ),("load",[21,0,0],hV),("where",[21,0,0,0,0,0],gK),("show",[21,0],hW)]) T.f_ANSWERS (aN aI (aA 2) aC) hr (qJ (AA T B).tk T.x78.F.kp T.x78.b (by with_unfolding_all rfl)
  (qJ (EM T B).tk T.x79.F.kp T.x79.b (by with_unfolding_all rfl)
  (qJ (JE T B).tk T.x83.F.kp T.x83.b (by with_unfolding_all rfl)
  (qJ (EN T B).tk T.x87.F.kp T.x87.b (by with_unfolding_all rfl)
  (qJ (JF T B) T.x88.F.kp T.x88.b (by with_unfolding_all rfl)
  aET))))) (jH 0 (aB (aA 3) aK))))))))
def kY(T:Txt P w K mg)(B:cM K mg base):T.x106.Ok P w mg base 6 [0] [21,0,0,0] 0 j5:=T.x106.okD FZ λhcd hr=>(aE (aX 3 aI (aD7 0 aI ⟨T.n_Desk,T.cl_Desk⟩ T.me_Desk_say (MK T B) (hr.mono ⋯) T.x105.b (aB (aA 1) aK)) FZ.nd)
  (aH (bC (NP (WU .str rfl rfl T.x115 rfl T.x120 oI (aA 3)) (NO (GX aI (j8 hr.units) pR (aA 3) (aA 2) (cU _)))))))
def PF(T:Txt P w K mg)(B:cM K mg base):T.x107.Ok P w mg base 4 [] [0,0,0] 0 xY:=T.x107.okD CJ λhcd hr=>(aE (kL 2 (xs:=["_law_rule"]) aI aI rfl CJ.nd (cS (aF T.x40 (GA T B) hr (aB (aA 0) (aB (aA 1) aK)))) (λC fp s H=>(aP (i:=0) IW rfl (Or.inl rfl))) (cB aI ⋯ (bQ rfl) ⋯ rfl) (λC fp s H=>cV) (λC fp s H=>(iR bD (cT aI (cP (xs:=["_law_part"]) aI aI rfl (cS (aA 0)) (λC fp s H=>(aP (i:=0) IX rfl (Or.inl rfl))) (cB aI ⋯ (bQ rfl) ⋯ rfl) (λC fp s H=>cV) (λC fp s H=>(fQ aI fJ oS rfl T.x120 oI (aG (aA 0) aV))))))))
  (aE (cN (c9 aI (j8 hr.units) pR (QH 2 rfl T.x116) aC (cU _))
   (aH (bC bD))
   bL)
  (iM 2 (aH (bC (iR bD (aA 2)))))))
def uU(T:Txt P w K mg)(B:cM K mg base):T.x108.Ok P w mg base 7 [0] [21,0,0,0,0,0] 0 hX:=T.x108.okD uM λhcd hr=>(aE (cN (eZ (d8 (aF T.x106 (kY T B) hr (jH 0 (aB bD (aB (iR bD (cT aI (cP (xs:=["_law_number"]) aI aI rfl (cS (aF T.x102 (JH T B) hr (aB (aA 1) (aB (aA 2) aK)))) (λC fp s H=>(aP (i:=0) IY rfl (Or.inl rfl))) (cB aI ⋯ (bQ rfl) ⋯ rfl) (λC fp s H=>cV) (λC fp s H=>(fQ aI fJ oS rfl T.x120 oI (aG (aA 0) aV)))))) aK))))))
   (aH (bC jX))
   bL)
  (aE (cN (eZ (d8 (aF T.x106 (kY T B) hr (jH 0 (aB bD (aB (aF T.x107 (PF T B) hr (aB (aA 1) (aB (aA 2) aK))) aK))))))
   (aH (bC jX))
   bL)
  (aE (cG PassesOwn.leaving rfl (hJ rfl T.x119 (eV aI rfl T.x116 (aA 2))) (aP (i:=4) uM.nd rfl (by ac_nf0)) (fY aI (bQ rfl) ⋯ rfl)
   (aH (cG PassesOwn.leaving rfl (hJ rfl T.x119 (eV aI rfl T.x116 (aN aI (aA 2) (aA 4)))) (aP (i:=5) uM.nd rfl (by ac_nf0)) (fY aI (bQ rfl) ⋯ rfl)
    (aH (cN (eZ (d8 (aF T.x106 (kY T B) hr (jH 0 (aB (bE aI bD (aN aI (aN aI (aN aI (aA 2) (aA 4)) (aA 5)) aC)) (aB (bE aI (bE aI (aN aI (aN aI (aN aI (aA 1) aC) (aA 4)) aC) bD) (fQ aI fJ oS rfl T.x120 oI (aG (aA 5) aV))) aK))))))
     (aH (bC jX))
     bL)))))
  (aE (cN (eZ (d8 (aF T.x106 (kY T B) hr (jH 0 (aB (bE aI bD (aA 3)) (aB bD aK))))))
   (aH (bC jX))
   bL)
  (aH (bC (aF T.x106 (kY T B) hr (jH 0 (aB bD (aB (iR bD (cT aI (BV aI (aF T.x104 (yF T B) hr (aB (aA 1) (aB (aA 2) aK))) bD))) aK))))))))))
def oE(T:Txt P w K mg)(B:cM K mg base):T.x109.Ok P w mg base 6 [0] [21,0,0] 0 fP:=T.x109.okD oB λhcd hr=>(aE (aX 2 aI (aF T.x71 (JD T B) hr (aB (aA 1) aK)) oB.nd)
  (aE (BN 0 "Desk" aI T.x127 (aN aI (aA 2) aC))
  (aE (BN 0 "Desk" aI T.x124 (aN aI (aA 2) aC))
  (aE (BN 0 "Desk" aI T.x125 (cT aI (eS aI aV)))
  (aH (BN 0 "Desk" aI T.x126 (cT aI (eS aI aV))))))))
def aJ4(T:Txt P w K mg)(B:cM K mg base):T.x110.Ok P w mg base 8 [] [0,0,0,0,0,0,0,0,0,0,0] 0 MF:=T.x110.okD kC λhcd hr=>(aE (aX 1 aI (aF T.x99 (UP T B) hr (aB (aA 0) aK)) kC.nd)
  (aE (aX 2 aI (aF T.x92 (eF T B) hr (aB (aA 0) (aB aC (aB aC aK)))) kC.nd)
  (aE (aX 3 aI (aF T.x101 (PD T B) hr (aB (aA 0) (aB (aA 1) (aB (aA 2) aK)))) kC.nd)
  (aE (m9 4 (xs:=["_law_boxes"]) 12 aI aI rfl kC.nd (cS (aA 3)) (λC fp s H=>(aP (i:=0) aAQ rfl (Or.inl rfl))) (cB aI ⋯ (bQ rfl) ⋯ rfl) (λC fp s H F1 H1 σ1=>(fQ aI GU aDG rfl T.x117 aC1 (aG (aA 0) aV))))
  (aE (aX 5 aI (aN aI (aF T.x100 (C4 T B) hr (aB (aA 0) (aB (aA 2) aK))) aC) kC.nd)
  (aE (aX 6 aI (aF T.x93 (dF T B) hr (aB (aA 0) (aB aC (aB (eV aI rfl T.x116 (aA 3)) aK)))) kC.nd)
  (aE (cN (HC 11 (λF H σ=>(c9 aI yL yW (eV aI rfl T.x116 (aN aI (aA 4) (aA 6))) aC (cU _))))
   (aH (aX 5 aI (aN aI (aEU 4 11 (λF H σ=>(aA 6)) (λF H σ=>(aF T.x94 (dG T B) hr (aB (aA 0) (aB aC (aB (eV aI rfl T.x116 (aN aI (aA 4) (aA 6))) aK)))))) aC) kC.nd))
   bL)
  (aE (aX 7 aI (RA 11 aI ⟨T.n_Desk,T.cl_Desk⟩ T.mk_Desk (oE T B) (hr.mono ⋯) (by rfl) T.q_Desk T.x109.b (aB (aF T.x104 (yF T B) hr (aB (aA 1) (aB (aA 3) aK))) aK) 21) kC.nd)
  (iM 4 (aE (aX 8 aI (RA 11 aI ⟨T.n_Desk,T.cl_Desk⟩ T.mk_Desk (oE T B) (hr.mono ⋯) (by rfl) T.q_Desk T.x109.b (aB (aF T.x104 (yF T B) hr (aB (aA 1) (aB (aA 4) aK))) aK) 21) kC.nd)
  (aE (aX 9 aI (aF T.x95 (iA T B) hr (aB (aA 0) (aB aC (aB (aA 2) aK)))) kC.nd)
  (aE (cN (oO (KC (eZ (d8 (aF T.x108 (uU T B) hr (jH 7 (aB (aA 1) (aB (aA 3) (aB (aA 9) aK))))))) (A7 (eZ (d8 (aF T.x108 (uU T B) hr (jH 8 (aB (aA 1) (aB (aA 4) (aB (aA 5) aK))))))))))
   (aH (bC jX))
   bL)
  (aE (aX 10 aI (iR bD (cT aI (cP (xs:=["_law_part"]) aI aI rfl (cS (aF T.x100 (C4 T B) hr (aB (aA 0) (aB (aA 2) aK)))) (λC fp s H=>(aP (i:=0) aAR rfl (Or.inl rfl))) (cB aI ⋯ (bQ rfl) ⋯ rfl) (λC fp s H=>cV) (λC fp s H=>(fQ aI fJ oS rfl T.x120 oI (aG (aA 0) aV)))))) kC.nd)
  (aE (cN (eZ (d8 (aF T.x106 (kY T B) hr (jH 7 (aB (bE aI (bE aI (bE aI bD (aA 10)) bD) (aN aI (aN aI (aN aI (aA 1) aC) aC) aC)) (aB bD aK))))))
   (aH (bC jX))
   bL)
  (aH (bC (aF T.x108 (uU T B) hr (jH 7 (aB (aA 1) (aB (aA 3) (aB (aA 9) aK)))))))))))))))))))))
end
end Toy
open L2 in
seal jY aU t6 aD dC bO cZ aM iJ iK dH aQ bT c6 bX pY bR HE gC kK DZ D0 yT dB eK A1 yR QI Ĵ nY ă ķ c7 cA aIF cQ bJ bK KH iO
open PySem L2
local macro_rules| `(tactic|dsimp? [$as,*])=>`(tactic|((try first|refine aM3 ?_|refine aM4 ?_);simp![aO7,aO8,WM.wp,WV.wp,XI,Ŝ,ϑ,χ,ψ,ϋ,τ,υ,ό,ύ,ώ,Ρ,Τ,Φ,Ψ,Χ,Ω,X8,X9,η,θ,ς,Θ,Ι,XE,k_set,k_fill,XF,XG,Κ,XH,XJ,XL,XM,XN,XO,XQ,XR,XS,XT,XU,QR,QS,fO,bP,eL,f8,Nat.reduceAdd,Nat.reduceLT,Nat.reduceLeDiff,↓reduceIte,$as,*]))
local macro_rules| `(tactic|dsimp?! [$as,*])=>`(tactic|simp![ϑ,χ,ψ,ϋ,τ,υ,ό,ύ,ώ,Ρ,Τ,Φ,Ψ,Χ,Ω,X8,X9,η,θ,ς,Θ,Ι,XE,k_set,k_fill,XF,XG,Κ,XH,XJ,XL,XM,XN,XO,XQ,XR,XS,XT,XU,QR,QS,fO,bP,eL,f8,Nat.reduceAdd,Nat.reduceLT,Nat.reduceLeDiff,↓reduceIte,$as,*])
local macro_rules| `(tactic|ac_nf)=>`(tactic|first|exact aLL ∅ ∅|exact aLM ∅ ∅)
namespace Toy
open PySem L2
def EO(zs:ZE):D:=.dict (zs.map λz=>(.str z,.bool true))
def aJ5(zs:ZE):((zs.map λz=>((.str z,.bool true):D×D)).all λkv=>(eX kv.1).isSome)=true:=by
 rw[ß];intro kv h;let⟨z,_,rfl⟩:=Æ.mp h;rfl
def Ϣ(z:Str):∀zs:ZE,kH (.inr z) (zs.map λz=>((.str z,.bool true):D×D))=if z∈zs then some (.bool true)else none
 |[]=>rfl
 |y::zs=>by
  have ih:=Ϣ z zs;unfold kH at ih⊢;rw[Ê,ï];by_cases e:y=z
  .subst e
   rw[Á Ì];simp[eX]
  .have:decide (eX (PyData.str y)=some (Sum.inr z))=false:=decide_eq_false λh=>e (by cases h;rfl)
   rw[this];rw[ih];by_cases h:z∈zs
   .rw[Á h,Á (É _ h)]
   .rw[Ã h,Ã λq=>(Å.mp q).elim (λq=>e q.symm) h]
def ϣ{z:Str}{zs:ZE}:qI false (.str z) (EO zs)=some (.bool (decide (z∈zs))):=by
 unfold qI K9 EO;dsimp only;rw[Á (aJ5 zs)];show (some (kH (.inr z) _)).map _=_;rw[Ϣ];by_cases h:z∈zs
 .rw[Á h,decide_eq_true h];rfl
 .rw[Ã h,decide_eq_false h];rfl
def JI{z:Str}{zs:ZE}(hz:z∉zs)(hl:zs.length<=1000):BS (.str z) (.bool true) (EO zs)=some (EO (zs++[z])):=by
 have hs:sizeLine=16777216:=by decide
 unfold BS EO;dsimp only;show (if _ then _ else _)=_;rw[Á (by rw[Â];omega)];unfold TU;have:((zs.map λz=>((.str z,.bool true):D×D)).any λkv=>decide (eX kv.1=some (Sum.inr z)))=false:=by
  rw[List.any_eq_false];intro kv h;let⟨y,hy,rfl⟩:=Æ.mp h;intro q;have q:=of_decide_eq_true q;cases q;exact hz hy
 rw[this,Ø];rfl
end Toy
namespace L2
open PySem PySem.Spec
def Ϥ{u:M Fl}{δ:DS}{I N C:ZM}{R:D->ZM}(h:∀(K M L:ZM)(S:D->ZM),(∀δ,I δ->K δ)->(∀d δ,R d δ->S d δ)->cQ u δ K M L S):cQ u δ I N C R:=h I N C R (λ_=>id) λ_ _=>id
def ϥ{m k:Nat}:mT (m+k+1) (k:Int)=some k:=by
 unfold mT;rw[Á ∅,Á ∅,Int.toNat_natCast]
def aM5{m:Nat}:mT (m+1+1) 1=some 1:=ϥ (k:=1)
def aM6{m:Nat}:mT (m+1) 0=some 0:=ϥ (k:=0)
def cY{f:M D}{δ δ2:DS}{d:D}(h:bJ f δ λa δ1=>a=d/\δ1=δ2):f δ=.ok d δ2:=by
 let⟨a,δ1,e,rfl,rfl⟩:=h.ex;exact e
section
variable{u:M Fl}{δ δ1:DS}{N B C:ZM}{R:D->ZM}{set:D->DS->Option DS}{i:Nat}{d:D}
end
def fG{i:Nat}{δ:DS}{as:ZG}(h1:δ[i]?=some (some (.list as))):bR (aD i) δ=.ok as δ:=by
 simp![bR,jT h1,bZ]
def AM{f g:M D}{δ:DS}{as bs:ZG}(h:bJ (bO [f,g]) δ λds δ1=>ds=[.list as,.list bs]/\δ1=δ):HE f g δ=.ok (jZ as bs) δ:=by
 let⟨ds,δ1,e,rfl,rfl⟩:=h.ex;unfold HE;rw[e,bZ]
def kQ{i:Nat}{δ:DS}{as:ZG}(h1:δ[i]?=some (some (.list as))):gC (aD i) δ=.ok (eN as) δ:=by
 simp![gC,bO,jT h1,bZ]
def AN{as bs:ZG}(h:as.length=bs.length):(jZ as bs).length=as.length:=by simp[jZ,h]
def i7{as:ZG}:(eN as).length=as.length:=by simp[eN]
def g9{δ:DS}{a b:D}:bR (iK [dC a,dC b]) δ=.ok [a,b] δ:=by
 simp![bR,iK,bO,KI,bZ];rw[Á (show [a,b].length<=sizeLine from Ñ (show 2<=1000 by decide) ⋯)];rfl
def uV{α:Type}{enc g:α->D}{e:M D}{δ:DS}:∀{xs:List α}{acc:ZG}{o:ZJ},(∀x∈xs,e (some (enc x)::δ)=.ok (g x) (some (enc x)::δ))->acc.length+xs.length<=sizeLine->∃o',cL (cH 0) bY e (xs.map enc) acc (o::δ)=.ok (acc++xs.map g) (o'::δ)
 |[]=>by rename_i acc o;intro _ _;exact⟨o,by simp[cL]⟩
 |x::xs=>by
  rename_i acc o;intro h hl;have hd:=h x Ì;rw[Ë]at hl;let⟨o',ih⟩:=uV (xs:=xs) (acc:=acc++[g x]) (o:=some (enc x)) (λy hy=>h y (É _ hy)) (by simp;lia);refine⟨o',?_⟩;rw[Ê];unfold cL;have e1:cH 0 (enc x) (o::δ)=some (some (enc x)::δ):=by simp[cH]
  rw[e1];show Res.bind (bY (some (enc x)::δ)) _=_;simp![bY,Res.bind,if_true,hd];rw[Á ∅,ih];simp
def eQ{α:Type}{enc g:α->D}{xs:List α}{f:M (ZG)}{e:M D}{δ:DS}(hf:f δ=.ok (xs.map enc) δ)(hl:xs.length<=1000)(he:∀x∈xs,bJ e (some (enc x)::δ) λa δ1=>a=g x/\δ1=some (enc x)::δ):bX 1 (cH 0) f bY e δ=.ok (.list (xs.map g)) δ:=by
 unfold bX;rw[hf];let⟨o',h⟩:=uV (acc:=[]) (o:=none) (λx hx=>gR (he x hx)) (Ñ (by simpa using hl) (show 1000<=sizeLine by decide));simp![Res.bind];rw[show List.replicate 1 (none:ZJ)++δ=none::δ from rfl,h];simp
def GB{α:Type}{enc A B g:α->D}{xs:List α}{f:M (ZG)}{e:M D}{δ:DS}(hE:∀x,enc x=.tuple [A x,B x])(hf:f δ=.ok (xs.map enc) δ)(hl:xs.length<=1000)(he:∀x∈xs,bJ e (some (A x)::some (B x)::δ) λv δ1=>v=g x/\δ1=some (A x)::some (B x)::δ):bX 2 (gQ [0,1]) f bY e δ=.ok (.list (xs.map g)) δ:=by
 have main:∀(xs:List α)(acc:ZG)(o1 o2:ZJ),(∀x∈xs,e (some (A x)::some (B x)::δ)=.ok (g x) (some (A x)::some (B x)::δ))->acc.length+xs.length<=sizeLine->∃o1' o2',cL (gQ [0,1]) bY e (xs.map enc) acc (o1::o2::δ)=.ok (acc++xs.map g) (o1'::o2'::δ):=by
  intro xs
  induction xs with
  |nil=>exact λacc o1 o2 _ _=>⟨o1,o2,by simp[cL]⟩
  |cons x xs ih=>
   intro acc o1 o2 h hl;have hd:=h x Ì;rw[Ë]at hl;let⟨o1',o2',ih⟩:=ih (acc++[g x]) (some (A x)) (some (B x)) (λy hy=>h y (É _ hy)) (by simp;lia);refine⟨o1',o2',?_⟩;rw[Ê];unfold cL;have e1:gQ [0,1] (enc x) (o1::o2::δ)=some (some (A x)::some (B x)::δ):=by rw[hE];simp[gQ,cH]
   rw[e1];show Res.bind (bY (some (A x)::some (B x)::δ)) _=_;simp![bY,Res.bind,if_true,hd];rw[Á ∅,ih];simp
 unfold bX;rw[hf];let⟨o1,o2,h⟩:=main xs [] none none (λx hx=>gR (he x hx)) (Ñ (by simpa using hl) (show 1000<=sizeLine by decide));simp![Res.bind];rw[show List.replicate 2 (none:ZJ)++δ=none::none::δ from rfl,h];simp
def dY{f:M D}{δ:DS}{ds:ZG}(h:bJ f δ λa δ1=>a=.list ds/\δ1=δ):bR f δ=.ok ds δ:=by
 unfold bR;rw[gR h];rfl
def JJ{α:Type}{h:α->Bool}:∀{xs:List α},sZ (xs.map λx=>.bool (h x))=some (xs.map h)
 |[]=>rfl
 |x::xs=>by
  show (sZ (xs.map λx=>PyData.bool (h x))).map (h x::·)=_;rw[JJ];rfl
def rT{u v:M Fl}{δ:DS}{N B C:ZM}{R:D->ZM}(P:ZM)(h1:cQ u δ P B C R)(h2:∀δ1,P δ1->cQ v δ1 N B C R):cQ (aQ u v) δ N B C R:=by
 rw[KL];let⟨fl,δ1,e,q⟩:=h1.ex;refine .of e ?_;cases fl with
 |next=>exact h2 _ q
 |_=>exact q
def seq_assoc{a b c:M Fl}:aQ a (aQ b c)=aQ (aQ a b) c:=by
 funext δ;unfold aQ;cases a δ with
 |stuck=>rfl
 |ok fl d=>cases fl<;>rfl
def aE1{a b c d e v:M Fl}{δ:DS}{N B C:ZM}{R:D->ZM}(P:ZM)(h1:cQ (aQ a (aQ b (aQ c (aQ d e)))) δ P B C R)(h2:∀δ1,P δ1->cQ v δ1 N B C R):cQ (aQ a (aQ b (aQ c (aQ d (aQ e v))))) δ N B C R:=by
 have:=rT P h1 h2;simp![<- seq_assoc]at this;exact this
end L2
namespace Toy
open PySem L2
def fU{x y:Str}(h:x.length+y.length<=1000):b8 (.str x) (.str y)=some (.str (x++y)):=by
 have hz:sizeLine=2^24:=rfl;have:G5 (.str x) (.str y)=some (.str (x++y)):=Á (by omega);unfold b8;rw[this];rfl
def Ϧ{z:Str}(h:PyData.strOk z=true):Sh 1 (.str z):=⟨by simp[PyData.canLay0,h],by simp[PyData.depth]⟩
def ù(c:Nat):Bool:=decide (97<=c/\c<=122)
def aM7:∀c<128,((!decide ((⟨#[c]⟩:Str).cps.toList<(Str.ofString "a").cps.toList)) && (!decide ((Str.ofString "z").cps.toList<(⟨#[c]⟩:Str).cps.toList)))=ù c:=by decide +kernel
def vZ(z:Str):Bool:=decide (1<=z.length/\z.length<=8) && z.cps.toList.all ù
def ū:D->D
 |.str z=>.bool (z.cps.toList.all ù)
 |_=>.none
def aE2{z:Str}(hz:z.length<=100)(hs:∀c∈z.cps.toList,c<128):fR [.str z]=.ok (.bool (vZ z)) []:=by
 have hl:dR [.str z]=some (.int z.length):=vC rfl (Ñ hz ⋯);have hc:∀δ:DS,bX 1 (cH 0) (mW (aD 0)) bY (eU M1 M1 (dC (.str "a")) (aD 0) (dC (.str "z"))) (some (.str z)::δ)=.ok (.list (z.cps.toList.map λc=>.bool (ù c))) (some (.str z)::δ):=λδ=>by
  have hg:∀d∈fB z,(eU M1 M1 (dC (.str "a")) (aD 0) (dC (.str "z"))) (some d::some (.str z)::δ)=.ok (ū d) (some d::some (.str z)::δ):=λd hd=>by
   unfold fB at hd;let⟨c,hc,rfl⟩:=Æ.mp hd;have:=aM7 c (hs c hc);simp![eU,dC,bZ,aD,List.getElem?_cons_zero,M1,ū,List.all_cons,List.all_nil,Bool.and_true];cases h1:(!decide ((⟨#[c]⟩:Str).cps.toList<(Str.ofString "a").cps.toList))with
   |true=>rw[h1,Bool.true_and]at this;rw[this]
   |false=>rw[h1,Bool.false_and]at this;rw[<- this]
  have:=wP (f:=mW (aD 0)) (δ:=some (.str z)::δ) (δ1:=some (.str z)::δ) (ds:=fB z) (by simp[mW,aD,Res.bind]) hg (by unfold fB;rw[Â];exact Ñ hz ⋯)
  rw[this];unfold fB;rw[Õ];congr 2;apply List.map_congr_left;intro c _;simp[ū]
 have ha:S8 [.list (z.cps.toList.map λc=>.bool (ù c))]=some (.bool (z.cps.toList.all ù)):=by
  show (sZ _).map _=_;rw[JJ];simp
 have hsi:A8 .str (.str z)=some (.bool true):=rfl;have hni:eK (dB (t6 (A8 .str) (aD 0))) [some (.str z)]=.ok false [some (.str z)]:=W4 (b:=true) (aLU (aIN (jT rfl) hsi));have e0:sF [some (.str z)]=.ok (.ret (.bool (vZ z))) [some (.str z)]:=by
  unfold sF;rw[QN (δ1:=[some (.str z)]) (by rw[W3 (δ1:=[some (.str z)]) hni];rfl)];refine aDM ?_;have hlen:jY dR [aD 0] [some (.str z)]=.ok (.int z.length) [some (.str z)]:=AG (jT rfl) hl;unfold vZ;by_cases h:1<=z.length/\z.length<=8
  .rw[aDN (δ1:=[some (.str z)]),decide_eq_true h,Bool.true_and]
   .exact AG (hc []) ha
   .simp![eU,KI,bZ,hlen,QK,WK]
    rw[decide_eq_true (show (1:Int)<=z.length by omega),decide_eq_true (show (z.length:Int)<=8 by omega)]
  .rw[aDO (δ1:=[some (.str z)]),decide_eq_false h,Bool.false_and]
   simp![eU,KI,bZ,hlen,QK,WK];by_cases h1:(1:Int)<=z.length
   .rw[decide_eq_true h1,decide_eq_false (show ¬(z.length:Int)<=8 by omega)]
   .rw[decide_eq_false h1]
 show (match sF [some (.str z)]with|_=>_)=_;unfold fR bK;simp[e0,f8]
def mQ{m0:Nat}{ps:ZF}{body:M Fl}{ds os:ZG}(h:cQ body (ds.map some++List.replicate (m0-ds.length) none) (λδ=>f8 δ ps=some os) (λ_=>False) (λ_=>False) λ_ _=>False):bK m0 ps 0 body ds=.ok .none (os.map some):=by
 let⟨fl,δ1,e,q⟩:=h.ex;cases fl with
 |next=>
  unfold bK;rw[e];have q:f8 δ1 ps=some os:=q;simp![q];rfl
 |_=>exact q.elim
def ĥ{x y:Str}(hx:PyData.strOk x=true)(hy:PyData.strOk y=true):yU (.str x) (.str y)=some (.bool (x == y)):=by
 unfold yU;rw[Á ⟨(Ϧ hx).shaped ⋯,(Ϧ hy).shaped ⋯⟩];rfl
def ú{x y:Str}{b:Bool}(hx:PyData.strOk x=true)(hy:PyData.strOk y=true)(h:(x == y)=b):yU (.str x) (.str y)=some (.bool b):=h▸ĥ hx hy
def ixN_of{n:Nat}{k:Nat}(h:k<n):mT n (k:Int)=some k:=by
 unfold mT;rw[Á (by omega),Á (by omega),Int.toNat_natCast]
end Toy
namespace L2
open PySem PySem.Spec
section
variable{f k:M D}{δ:DS}{Q:D->ZM}
def PH(d:D)(δ:DS)(Q:Str->ZM)(_w:Wt Q:=⟨⟩):Prop:=∃z,d=.str z/\Q z δ
def gW{z:Str}{Q:Str->ZM}:PH (.str z) δ Q=Q z δ:=by unfold PH;simp
def gZ:bJ (k9 f k) δ Q=bJ f δ λx δ1=>PH x δ1 λz δ1=>bJ k δ1 λy δ2=>mG (jE z y) δ2 Q:=by
 unfold bJ k9 PH mG;cases f δ with
 |stuck=>rfl
 |ok a d=>
  cases a with
  |str z=>
   simp![Res.bind,PyData.str.injEq,exists_eq_left'];cases k d with
   |stuck=>rfl
   |ok y d=>dsimp only;cases jE z y<;>simp[Ċ]
  |_=>simp[Res.bind]
def sI{i:Nat}{δ:DS}{as:ZG}(h1:δ[i]?=some (some (.tuple as))):bR (aD i) δ=.ok as δ:=by
 simp![bR,jT h1,bZ]
end
def PJ{g p q:Str}{ps:ZE}:Builtin.Str.glued g (p::(ps++[q]))=Builtin.Str.glued g (p::ps)++g++q:=by
 unfold Builtin.Str.glued;simp![List.drop_succ_cons,List.drop_zero,List.foldl_append,List.foldl_cons,List.foldl_nil];rfl
def GC{g:Str}{m:Nat}:∀(ps:ZE)(a:Array Nat),(∀q∈ps,q.length<=m)->(ps.foldl (λacc p=>acc++g.cps++p.cps) a).size<=a.size+ps.length*(g.length+m)
 |[]=>by intro a _;simp
 |q::ps=>by
  intro a h;have ih:=GC (g:=g) ps (a++g.cps++q.cps) λx hx=>h x (É _ hx);have hq:q.cps.size<=m:=h q Ì;have hg:g.cps.size=g.length:=rfl;rw[List.foldl_cons];have e:(a++g.cps++q.cps).size=a.size+g.cps.size+q.cps.size:=by simp;omega
  have e2:(q::ps).length*(g.length+m)=ps.length*(g.length+m)+(g.length+m):=by rw[Ë,Nat.succ_mul]
  omega
def RV{g:Str}(hg:PyData.strOk g=true):∀(ps:ZE)(a:Array Nat),(∀q∈ps,PyData.strOk q=true)->a.all (·<0x110000)=true->(ps.foldl (λacc p=>acc++g.cps++p.cps) a).all (·<0x110000)=true
 |[]=>by intro a _ ha;exact ha
 |q::ps=>by
  intro a h ha;rw[List.foldl_cons];refine RV hg ps _ (λx hx=>h x (É _ hx)) ?_;have hq:q.cps.all (·<0x110000)=true:=h q Ì;have hg':g.cps.all (·<0x110000)=true:=hg;rw[Array.all_append,Array.all_append,ha,hg',hq];rfl
def sJ{g p:Str}{ps:ZE}{m:Nat}(hp:p.length<=m)(h:∀q∈ps,q.length<=m):(Builtin.Str.glued g (p::ps)).length<=m+ps.length*(g.length+m):=by
 have:=GC (g:=g) ps p.cps h;have hp:p.cps.size<=m:=hp;show (ps.foldl (λacc p=>acc++g.cps++p.cps) p.cps).size<=_;omega
def oF{g p:Str}{ps:ZE}(hg:PyData.strOk g=true)(hp:PyData.strOk p=true)(h:∀q∈ps,PyData.strOk q=true):PyData.strOk (Builtin.Str.glued g (p::ps))=true:=RV hg ps p.cps h hp
def C5{g:Str}{m:Nat}:∀(zs:ZE)(n:Nat),(∀q∈zs,q.length<=m)->zs.foldl (λx1 x2=>x1+x2.length+g.length) n<=n+zs.length*(m+g.length)
 |[]=>by intro n _;simp
 |q::zs=>by
  intro n h;have ih:=C5 (g:=g) zs (n+q.length+g.length) λx hx=>h x (É _ hx);have hq:=h q Ì;have e2:(q::zs).length*(m+g.length)=zs.length*(m+g.length)+(m+g.length):=by rw[Ë,Nat.succ_mul]
  rw[List.foldl_cons];omega
def ML:∀zs:ZE,qF (zs.map PyData.str)=some zs
 |[]=>rfl
 |z::zs=>by
  show (qF (zs.map PyData.str)).map (z::·)=_;rw[ML zs];rfl
def pK{g p:Str}{ps:ZE}{m:Nat}(hp:p.length<=m)(h:∀q∈ps,q.length<=m)(hb:(ps.length+1)*(m+g.length)<=1000000)(hm:m<=1000000):jE g (.list (PyData.str p::ps.map PyData.str))=some (.str (Builtin.Str.glued g (p::ps))):=by
 have e:qF (PyData.str p::ps.map PyData.str)=some (p::ps):=ML (p::ps);have hz:sizeLine=2^24:=rfl;have h1:AH g (p::ps)<=1000000:=by
  unfold AH;rw[List.foldl_toArray];have:=C5 (g:=g) (m:=m) (p::ps) 0 λq hq=>by
   rcases Å.mp hq with rfl|z
   .exact hp
   .exact h q z
  rw[Ë]at this;omega
 have h2:=sJ (g:=g) hp h;have e2:(ps.length+1)*(m+g.length)=ps.length*(m+g.length)+(m+g.length):=Nat.succ_mul _ _;have e3:ps.length*(g.length+m)=ps.length*(m+g.length):=by rw[Nat.add_comm]
 unfold jE;dsimp only;rw[e];dsimp only;rw[Á ⟨by unfold Builtin.Str.tooLong;rw[decide_eq_false];omega,by omega⟩]
def bS{x y:Str}:(x++y).length=x.length+y.length:=by
 show (x.cps++y.cps).size=_;rw[Array.size_append];rfl
def C6{x y:Str}(hx:PyData.strOk x=true)(hy:PyData.strOk y=true):PyData.strOk (x++y)=true:=by
 show (x.cps++y.cps).all (·<0x110000)=true;rw[Array.all_append,show x.cps.all (·<0x110000)=true from hx,show y.cps.all (·<0x110000)=true from hy];rfl
def JK{i:Int}(h1:-10000000000<i)(h2:i<10000000000):(Str.ofString (toString i)).length<=12:=by
 rw[PyProof.Rows.ofString_len];cases i with
 |ofNat m=>
  have:=PySem.toDigits_len_pow (b:=10) (k:=11) (n:=m) ⋯ ⋯ (by have:(Int.ofNat m)=(m:Int):=rfl;omega);show (Nat.repr m).length<=12;simp[Nat.repr]at this⊢;omega
 |negSucc m=>
  have:=PySem.toDigits_len_pow (b:=10) (k:=11) (n:=m+1) ⋯ ⋯ (by omega);show ("-"++Nat.repr (m+1)).length<=12;have e1:("-":String).length=1:=by decide
  rw[String.length_append,e1];simp[Nat.repr]at this⊢;omega
def aO(s:String):PyData.strOk (Str.ofString s)=true:=by
 rw[Str.ofString_eq_toList];show ((s.toList.map Char.toNat).toArray).all (·<0x110000)=true;rw[List.all_toArray,ß];intro x hx;let⟨c,_,rfl⟩:=Æ.mp hx;have:=c.valid;rw[decide_eq_true_eq];rcases this with h|h
 .exact Nat.lt_trans h ⋯
 .exact h.2
def aAW{α:Type}{enc A B g:α->D}{h:α->Bool}{xs:List α}{f:M (ZG)}{t:M Bool}{e:M D}{δ:DS}(hE:∀x,enc x=.tuple [A x,B x])(hf:f δ=.ok (xs.map enc) δ)(hl:xs.length<=1000)(ht:∀x∈xs,bJ t (some (A x)::some (B x)::δ) λb δ1=>b=h x/\δ1=some (A x)::some (B x)::δ)(he:∀x∈xs,bJ e (some (A x)::some (B x)::δ) λv δ1=>v=g x/\δ1=some (A x)::some (B x)::δ):bX 2 (gQ [0,1]) f t e δ=.ok (.list ((xs.filter h).map g)) δ:=by
 have main:∀(xs:List α)(acc:ZG)(o1 o2:ZJ),(∀x∈xs,t (some (A x)::some (B x)::δ)=.ok (h x) (some (A x)::some (B x)::δ))->(∀x∈xs,e (some (A x)::some (B x)::δ)=.ok (g x) (some (A x)::some (B x)::δ))->acc.length+xs.length<=sizeLine->∃o1' o2',cL (gQ [0,1]) t e (xs.map enc) acc (o1::o2::δ)=.ok (acc++(xs.filter h).map g) (o1'::o2'::δ):=by
  intro xs
  induction xs with
  |nil=>exact λacc o1 o2 _ _ _=>⟨o1,o2,by simp[cL]⟩
  |cons x xs ih=>
   intro acc o1 o2 ht he hl;have hd:=ht x Ì;have hv:=he x Ì;rw[Ë]at hl;have e1:gQ [0,1] (enc x) (o1::o2::δ)=some (some (A x)::some (B x)::δ):=by rw[hE];simp[gQ,cH]
   cases hk:h x with
   |true=>
    let⟨o1',o2',ih⟩:=ih (acc++[g x]) (some (A x)) (some (B x)) (λy hy=>ht y (É _ hy)) (λy hy=>he y (É _ hy)) (by simp;lia);refine⟨o1',o2',?_⟩;rw[Ê];unfold cL;rw[e1];simp![hd,hk,Res.bind,if_true,hv];rw[Á ∅,ih];simp[hk]
   |false=>
    let⟨o1',o2',ih⟩:=ih acc (some (A x)) (some (B x)) (λy hy=>ht y (É _ hy)) (λy hy=>he y (É _ hy)) (by exact Nat.le_of_lt ‹_›);refine⟨o1',o2',?_⟩;rw[Ê];unfold cL;rw[e1];simp![hd,hk,Res.bind,Bool.false_eq_true,if_false];rw[Á ∅,ih];simp[hk]
 unfold bX;rw[hf];let⟨o1,o2,q⟩:=main xs [] none none (λx hx=>by
  let⟨b,δ1,e,rfl,rfl⟩:=(ht x hx).ex;exact e) (λx hx=>gR (he x hx)) (Ñ (by simpa using hl) (show 1000<=sizeLine by decide))
 simp![Res.bind];rw[show List.replicate 2 (none:ZJ)++δ=none::none::δ from rfl,q];simp
section
variable{f k:M D}{δ:DS}{Q:D->ZM}{op:Str->Str->ZJ}
def tQ:bJ (uC op f k) δ Q=bJ f δ λx δ1=>PH x δ1 λy δ1=>bJ k δ1 λw δ2=>PH w δ2 λz δ2=>mG (op y z) δ2 Q:=by
 unfold bJ uC PH mG;cases f δ with
 |stuck=>rfl
 |ok a d=>
  cases a with
  |str z=>
   simp![Res.bind,PyData.str.injEq,exists_eq_left'];cases k d with
   |stuck=>rfl
   |ok y d=>
    cases y with
    |str w=>
     simp![PyData.str.injEq,exists_eq_left'];cases op z w<;>simp[Ċ]
    |_=>simp
  |_=>simp[Res.bind]
end
end L2
namespace Toy
open PySem L2 PySem.NumText
def v2{x:Str}{c:Nat}:PySem.Txt.startswith x ⟨#[c]⟩=decide (x.cps.toList.head?=some c):=by
 let⟨a⟩:=x;let⟨l⟩:=a;unfold PySem.Txt.startswith Builtin.Str.subAt;cases l with
 |nil=>simp[Str.length]
 |cons b l=>simp[Str.length];exact Bool.eq_iff_iff.mpr (by simp)
def i8(m:Nat):ZF:=(Nat.toDigits 10 m).map Char.toNat
def v3{m:Nat}:AllDigits (i8 m):=λc hc=>by
 let⟨ch,hch,e⟩:=Æ.mp hc;rw[<- e];exact PyProof.Rows.digit_range (Nat.isDigit_of_mem_toDigits ⋯ ⋯ hch)
def pL{m:Nat}:i8 m≠[]:=λe=>by
 have h:=PySem.toDigits_len_ge 10 m;rw[List.map_eq_nil_iff.mp e]at h;exact absurd h ⋯
def MM{m:Nat}(h:m<10^10):(i8 m).length<=10:=by
 unfold i8;rw[Â];exact PySem.toDigits_len_pow ⋯ ⋯ h
def GD:∀(m:Nat)(r:ZF),0<m->i8 m≠48::r:=by
 intro m
 induction m using Nat.strongRecOn with
 |_ m ih=>
  intro r h0 e;unfold i8 at e;by_cases h:m<10
  .rw[Nat.toDigits_of_lt_base h]at e
   have hd:∀d:Nat,d<10->0<d->(Nat.digitChar d).toNat≠48:=by decide
   injection e with e1 _;exact hd m h h0 e1
  .have hm:m % 10<10:=Nat.mod_lt m ⋯
   have t:Nat.toDigits 10 (m/10)++Nat.toDigits 10 (m % 10)=Nat.toDigits 10 (10*(m/10)+m % 10):=Nat.toDigits_append_toDigits ⋯ (by omega) hm;rw[Nat.div_add_mod]at t;rw[<- t,Ø]at e;cases e2:(Nat.toDigits 10 (m/10)).map Char.toNat with
   |nil=>exact pL e2
   |cons a s=>
    rw[e2]at e;injection e with e1 _;subst e1;exact ih (m/10) (by omega) s (by omega) e2
def sK{i:Int}:(Str.ofString (toString i)).cps.toList=if i<0 then 45::i8 i.natAbs else i8 i.natAbs:=by
 cases i with
 |ofNat m=>
  rw[Ã (by have:(Int.ofNat m)=(m:Int):=rfl;omega)];exact W.KIN.signs_num m
 |negSucc m=>
  rw[Á (by omega),PyProof.Rows.signs_ofString];show ("-"++Nat.repr (m+1)).toList.map Char.toNat=_;rw[String.toList_append,Ø,Nat.toList_repr];rfl
def JL{i:Int}(h1:-1000000000<=i)(h2:i<=1000000000):(Str.ofString (toString i)).length<=11:=by
 have:=MM (m:=i.natAbs) (by omega);have e:=congrArg List.length (sK (i:=i));rw[show (Str.ofString (toString i)).cps.toList.length=(Str.ofString (toString i)).length from Array.length_toList]at e;rw[e];split
 .rw[Ë];omega
 .omega
def aE3{i:Int}(h1:-1000000000<=i)(h2:i<=1000000000):intText? (Str.ofString (toString i))=some i:=by
 have hl:=JL h1 h2;by_cases h:i<0
 .have e:=sK (i:=i)
  rw[Á h]at e;rw[intText_neg e v3 pL (by omega)];unfold i8;rw[W.KIN.val_back];congr 1;omega
 .exact W.KIN.num_reads (by omega) (by omega)
def aJ6{x:Str}{c:Nat}{cs:ZF}(h:x.cps.toList=c::cs):PySem.Txt.slice x (some 1) none=⟨cs.toArray⟩:=by
 have hl:x.length=cs.length+1:=by
  rw[show x.length=x.cps.toList.length from rfl,h];rfl
 have e:PySem.Txt.slice x (some 1) none=StrLaws.sliceText x (some ((1:Nat):Int)) (some ((x.length:Nat):Int)):=by
  unfold PySem.Txt.slice StrLaws.sliceText;rw[StrLaws.sliceIdx_none_hi];rfl
 rw[e,StrLaws.sliceText_nat x (by omega) (È _),h];congr 2;show cs.take (x.length-1)=cs;exact List.take_of_length_le (by omega)
def aJ7:∀c<58,48<=c->((!decide ((⟨#[c]⟩:Str).cps.toList<(Str.ofString "0").cps.toList)) && (!decide ((Str.ofString "9").cps.toList<(⟨#[c]⟩:Str).cps.toList)))=true:=by decide +kernel
def yG{i:Nat}{z:Str}{δ:DS}(hi:δ[i]?=some (some (.str z)))(hz:z.length<=100)(h:AllDigits z.cps.toList):bX 1 (cH 0) (mW (aD i)) bY (eU M1 M1 (dC (.str "0")) (aD 0) (dC (.str "9"))) δ=.ok (.list ((fB z).map λ_=>PyData.bool true)) δ:=wP (f:=mW (aD i)) (e:=eU M1 M1 (dC (.str "0")) (aD 0) (dC (.str "9"))) (δ:=δ) (δ1:=δ) (ds:=fB z) (g:=λ_=>.bool true) (by simp[mW,jT hi,Res.bind]) (λd hd=>by
  unfold fB at hd;let⟨c,hc,rfl⟩:=Æ.mp hd;have h1:=h c hc;have:=aJ7 c (by omega) h1.1;rw[á]at this;simp![eU,dC,bZ,aD,List.getElem?_cons_zero,M1];rw[this.1];dsimp only;rw[this.2]) (by unfold fB;rw[Â];exact Ñ hz ⋯)
def Ŭ{l:ZG}:S8 [.list (l.map λ_=>PyData.bool true)]=some (.bool true):=by
 show (sZ _).map _=_;rw[JJ];simp
def GE{n:Nat}{f:M D}{δ:DS}(hf:f δ=.ok (.int n) δ)(h1:1<=n)(h2:n<=10):eU QK QK (dC (.int 1)) f (dC (.int 10)) δ=.ok (.bool true) δ:=by
 simp![eU,KI,bZ,hf,QK,WK];rw[decide_eq_true (show (1:Int)<=n by omega),decide_eq_true (show (n:Int)<=10 by omega)]
def ϧ:("-":Str)=⟨#[45]⟩:=by decide +kernel
def ŭ:("0":Str)=⟨#[48]⟩:=by decide +kernel
def aAY{i:Int}(h1:-1000000000<=i)(h2:i<=1000000000):mN [.str (Str.ofString (toString i))]=.ok (.bool true) []:=by
 have hl:=JL h1 h2;have hx:=sK (i:=i);have fl:=MM (m:=i.natAbs) (by omega);have f1:1<=(i8 i.natAbs).length:=by
  cases e:i8 i.natAbs with
  |nil=>exact absurd e pL
  |cons a r=>rw[Ë];omega
 generalize Str.ofString (toString i)=x at *;have fd:=v3 (m:=i.natAbs);have hz:(⟨(i8 i.natAbs).toArray⟩:Str).length=(i8 i.natAbs).length:=rfl;refine aY (os:=[]) ?_;show cQ rH [some (.str x),none] _ _ _ _;unfold rH;by_cases h:i<0
 .rw[Á h]at hx
  have s1:jJ x "-"=some (.bool true):=by unfold jJ;rw[ϧ,v2,hx];rfl
  have s2:ĺ (.str x) (some 1) none=some (.str ⟨(i8 i.natAbs).toArray⟩):=by
   rw[<- aJ6 hx];exact Á (Ñ hl ⋯)
  have s3:jJ ⟨(i8 i.natAbs).toArray⟩ "0"=some (.bool false):=by
   unfold jJ;rw[ŭ,v2];congr 2;refine decide_eq_false λz=>?_;cases e:i8 i.natAbs with
   |nil=>exact pL e
   |cons a r=>
    rw[show (⟨(i8 i.natAbs).toArray⟩:Str).cps.toList=i8 i.natAbs from rfl,e]at z;cases z;exact GD _ r (by omega) e
  have ln:dR [.str ⟨(i8 i.natAbs).toArray⟩]=some (.int ((i8 i.natAbs).length:Nat)):=vC rfl (Ñ fl ⋯);dsimp? [tQ,gW,s1,BF,mZ,lB,s9,s2];refine bJ.of (yG (i:=1) (z:=⟨(i8 i.natAbs).toArray⟩) rfl (by omega) fd) ?_;dsimp? [tQ,gW,Ŭ,s3,ln];exact bJ.of (GE (AG (jT rfl) ln) f1 fl) ⟨rfl,rfl⟩
 .rw[Ã h]at hx
  have s1:jJ x "-"=some (.bool false):=by
   unfold jJ;rw[ϧ,v2,hx];congr 2;refine decide_eq_false λz=>?_;cases e:i8 i.natAbs with
   |nil=>exact pL e
   |cons a r=>
    rw[e]at z;cases z;have:=fd 45 (by rw[e];exact Ì);omega
  have xl:x.length=(i8 i.natAbs).length:=by rw[<- hx];rfl
  have ln:dR [.str x]=some (.int ((i8 i.natAbs).length:Nat)):=by rw[<- xl];exact vC rfl (Ñ hl ⋯)
  by_cases h0:i=0
  .subst h0
   have e0:x="0":=HV hx;subst e0;have s3:jJ "0" "0"=some (.bool true):=by unfold jJ;rw[ŭ,v2];rfl
   have eq:yU (.str "0") (.str "0")=some (.bool true):=ú (aO _) (aO _) (by decide +kernel);dsimp? [tQ,gW,s1];refine bJ.of (yG (i:=1) rfl (by omega) (by rw[hx];exact fd)) ?_;dsimp? [tQ,gW,Ŭ,s3,eq]
  .have s3:jJ x "0"=some (.bool false):=by
    unfold jJ;rw[ŭ,v2,hx];congr 2;refine decide_eq_false λz=>?_;cases e:i8 i.natAbs with
    |nil=>exact pL e
    |cons a r=>
     rw[e]at z;cases z;exact GD _ r (by omega) e
   dsimp? [tQ,gW,s1];refine bJ.of (yG (i:=1) rfl (by omega) (by rw[hx];exact fd)) ?_;dsimp? [tQ,gW,Ŭ,s3,ln];exact bJ.of (GE (AG (jT rfl) ln) f1 fl) ⟨rfl,rfl⟩
end Toy
namespace Toy
open PySem L2
def wS:D->Str
 |.int i=>(toString i:String)
 |.str z=>z
 |_=>Str.empty
def Wd(d:D):Prop:=(∃i:Int,d=.int i/\-10000000000<i/\i<10000000000)\/∃z:Str,d=.str z/\z.length<=30/\PyData.strOk z=true
def Wd.len{d:D}(h:Wd d):(wS d).length<=30:=by
 rcases h with ⟨i,rfl,h1,h2⟩|⟨z,rfl,h1,_⟩
 .have:=JK h1 h2
  show (Str.ofString (toString i)).length<=30;omega
 .exact h1
def Wd.ok{d:D}(h:Wd d):PyData.strOk (wS d)=true:=by
 rcases h with ⟨i,rfl,h1,h2⟩|⟨z,rfl,_,h1⟩
 .exact aO _
 .exact h1
def Wd.strA{d:D}(h:Wd d):L2.strA [d]=some (.str (wS d)):=by
 rcases h with ⟨i,rfl,h1,h2⟩|⟨z,rfl,_,h1⟩
 .have hl:i.natAbs.log2<1920:=by
   have:aP0 40 i:=by show i.natAbs<2^40;omega
   by_cases hz:i.natAbs=0
   .rw[hz];decide
   .exact(Nat.log2_lt hz).mpr (Ô this (Nat.pow_le_pow_right ⋯ ⋯))
  show (if i.natAbs.log2<1920 then some (PyData.str (toString i))else none)=_;rw[Á hl];rfl
 .rfl
def ln(f:Str)(ds:ZG):Str:=Builtin.Str.glued " " (f::ds.map wS)
def JU(ds:ZG):Prop:=ds.length<=10/\∀d∈ds,Wd d
def jQ{f:Str}{ds:ZG}(hf:f.length<=30)(h:JU ds):(ln f ds).length<=400:=by
 have:=sJ (g:=" ") (p:=f) (ps:=ds.map wS) (m:=30) hf λq hq=>by
  let⟨d,hd,rfl⟩:=Æ.mp hq;exact(h.2 d hd).len
 have h1:=h.1;have e:(" ":Str).length=1:=rfl;rw[Â,e]at this;unfold ln;have:ds.length*(1+30)<=310:=by omega
 omega
def zI{f:Str}{ds:ZG}(hf:PyData.strOk f=true)(h:JU ds):PyData.strOk (ln f ds)=true:=oF (aO _) hf λq hq=>by
 let⟨d,hd,rfl⟩:=Æ.mp hq;exact(h.2 d hd).ok
def lZ{f:Str}{ds:ZG}(hf:f.length<=30)(h:JU ds):dD [.str f,.tuple ds]=.ok (.str (ln f ds)) []:=by
 have h1:=h.1;have e24:sizeLine=2^24:=rfl;refine aY (os:=[]) ?_;show cQ oC [some (.str f),some (.tuple ds)] _ _ _ _;unfold oC;dsimp? [gZ,gW];refine bJ.of (eQ (enc:=λd=>d) (xs:=ds) (g:=λd=>.str (wS d)) (by rw[List.map_id'];exact sI rfl) (by omega) λd hd=>?_) ?_
 .dsimp? [(h.2 d hd).strA]
 .have e:(" ":Str).length=1:=rfl
  have j:=pK (g:=" ") (p:=f) (ps:=ds.map wS) (m:=30) hf (λq hq=>by
   let⟨d,hd,rfl⟩:=Æ.mp hq;exact(h.2 d hd).len) (by rw[Â,e];omega) ⋯
  rw[Õ]at j;have j':jE " " (.list ([.str f]++ds.map λd=>PyData.str (wS d)))=some (.str (ln f ds)):=j;dsimp? [Â,j'];omega
structure ñ where
 own:ZG
 bd:ZG
 ss:List (ZG)
 ts:List (ZG)
 ap:List (ZG)
 cs:List (List (ZG))
structure pM(S:ñ):Prop where
 own:JU S.own
 bd:JU S.bd
 ss:∀s∈S.ss,JU s/\s.length=7
 ts:∀s∈S.ts,JU s
 ap:∀s∈S.ap,JU s
 cs:∀c∈S.cs,c.length<=8/\∀b∈c,JU b/\b.length=5
 ls:S.ss.length<=5
 lt:S.ts.length<=4
 la:S.ap.length<=4
 lc:S.cs.length=S.ss.length
def j6(l:ZG):D:=.tuple l
def Č(bs:List (ZG)):D:=.list (bs.map j6)
def zJ(S:ñ):D:=.tuple [.tuple S.own,.tuple S.bd,.list (S.ss.map j6),.list (S.ts.map j6),.list (S.ap.map j6)]
def l0(S:ñ):D:=.list (S.cs.map Č)
def i9{α:Type}{l:List α}{k:Nat}{d:α}(h:k<l.length):l[k]?=some (l.getD k d):=by
 rw[Ð,Ç h];rfl
def bI{α:Type}{l:List α}{k:Nat}{d:α}(h:k<l.length):l.getD k d∈l:=ä (i9 h)
def nN{α:Type}{enc:α->D}{l:List α}{k:Nat}{d:α}(h:k<l.length):atI (l.map enc) (k:Int)=some (enc (l.getD k d)):=by
 refine jR ?_;rw[Ò,i9 (d:=d) h];rfl
def v4{α β:Type}{f:α->D}{g:β->D}{as:List α}{bs:List β}{a0:α}{b0:β}{k:Nat}{d:D}(h:(jZ (as.map f) (bs.map g))[k]?=some d):k<as.length/\k<bs.length/\d=.tuple [f (as.getD k a0),g (bs.getD k b0)]:=by
 have hi:=(Ó.mp h).1;simp![jZ,List.length_zipWith,Â]at hi;have h1:k<as.length:=by omega
 have h2:k<bs.length:=by omega
 refine⟨h1,h2,?_⟩;rw[jZ,List.getElem?_zipWith,Ò,Ò,i9 (d:=a0) h1,i9 (d:=b0) h2]at h;simp![Option.map_some,Option.some.injEq]at h;rw[<- h]
def tR(S:ñ)(k:Nat):ZE:=((List.range k).map λj=>(S.cs.getD j []).map λb=>ln "box" ((S.ss.getD j []).headD .none::b)).flatten
def v5{S:ñ}{k:Nat}:tR S (k+1)=tR S k++(S.cs.getD k []).map λb=>ln "box" ((S.ss.getD k []).headD .none::b):=by
 unfold tR;rw[List.range_succ,Ø,List.flatten_append];simp
def hd(S:ñ):ZE:=[ln "own" S.own,ln "bounds" S.bd]++S.ss.map (ln "stack")++S.ts.map (ln "tank")++S.ap.map (ln "apart")
def sL(zs:ZE):D:=.list (zs.map PyData.str)
def wV(S:ñ):Str:=Builtin.Str.glued "\n" (hd S++tR S S.ss.length)
section
variable{S:ñ}
def PK(G:pM S){k:Nat}(hk:k<S.ss.length):∀b∈S.cs.getD k [],JU ((S.ss.getD k []).headD .none::b):=λb hb=>by
 have h1:=(G.cs _ (bI (d:=[]) (show k<S.cs.length by have:=G.lc;omega))).2 b hb;have h2:=G.ss _ (bI (d:=[]) hk);refine⟨by rw[Ë];omega,λd hd=>?_⟩;rcases Å.mp hd with rfl|h
 .cases e:S.ss.getD k []with
  |nil=>rw[e]at h2;cases h2.2
  |cons x xs=>rw[e]at h2;exact h2.1.2 x Ì
 .exact h1.1.2 d h
def v6(G:pM S):∀k,k<=S.ss.length->(∀z∈tR S k,z.length<=400/\PyData.strOk z=true)/\(tR S k).length<=8*k
 |0=>by intro _;exact⟨λz hz=>by simp[tR]at hz,by simp[tR]⟩
 |k+1=>by
  intro h;let⟨h1,h2⟩:=v6 G k (by omega);rw[v5];have hc:=G.cs _ (bI (d:=[]) (show k<S.cs.length by have:=G.lc;omega));refine⟨λz hz=>?_,by rw[Î,Â];omega⟩;rcases ë.mp hz with h'|h'
  .exact h1 z h'
  .obtain⟨b,hb,rfl⟩:=Æ.mp h'
   have:=PK G (show k<S.ss.length by omega) b hb;exact⟨jQ (by show 3<=30;decide) this,zI (aO _) this⟩
def JM(G:pM S):(∀z∈hd S,z.length<=400/\PyData.strOk z=true)/\(hd S).length<=15:=by
 refine⟨λz hz=>?_,by unfold hd;simp;have:=G.ls;have:=G.lt;have:=G.la;omega⟩;unfold hd at hz;simp![ë,Å,Í,or_false,Æ]at hz;rcases hz with (((rfl|rfl)|⟨s,hs,rfl⟩)|⟨s,hs,rfl⟩)|⟨s,hs,rfl⟩
 .exact⟨jQ (by show 3<=30;decide) G.own,zI (aO _) G.own⟩
 .exact⟨jQ (by show 6<=30;decide) G.bd,zI (aO _) G.bd⟩
 .exact⟨jQ (by show 5<=30;decide) (G.ss s hs).1,zI (aO _) (G.ss s hs).1⟩
 .exact⟨jQ (by show 4<=30;decide) (G.ts s hs),zI (aO _) (G.ts s hs)⟩
 .exact⟨jQ (by show 5<=30;decide) (G.ap s hs),zI (aO _) (G.ap s hs)⟩
def C7(G:pM S):(∀z∈hd S++tR S S.ss.length,z.length<=400/\PyData.strOk z=true)/\(hd S++tR S S.ss.length).length<=60:=by
 let⟨h1,h2⟩:=JM G;let⟨h3,h4⟩:=v6 G S.ss.length (È _);have:=G.ls;refine⟨λz hz=>?_,by rw[Î];omega⟩;rcases ë.mp hz with h|h
 .exact h1 z h
 .exact h3 z h
def MN(G:pM S):jE "\n" (sL (hd S++tR S S.ss.length))=some (.str (wV S)):=by
 let⟨h1,h2⟩:=C7 G;have e:hd S++tR S S.ss.length=ln "own" S.own::(ln "bounds" S.bd::(S.ss.map (ln "stack")++S.ts.map (ln "tank")++S.ap.map (ln "apart")++tR S S.ss.length)):=by simp[hd]
 unfold wV;rw[e]at h1 h2⊢;generalize (ln "bounds" S.bd::(S.ss.map (ln "stack")++S.ts.map (ln "tank")++S.ap.map (ln "apart")++tR S S.ss.length))=ps at *;rw[Ë]at h2;have e1:("\n":Str).length=1:=rfl;exact pK (m:=400) (h1 _ Ì).1 (λq hq=>(h1 q (É _ hq)).1) (by rw[e1];omega) ⋯
def aE4(G:pM S):PyData.strOk (wV S)=true:=by
 let⟨h1,_⟩:=C7 G;have e:hd S++tR S S.ss.length=ln "own" S.own::(ln "bounds" S.bd::(S.ss.map (ln "stack")++S.ts.map (ln "tank")++S.ap.map (ln "apart")++tR S S.ss.length)):=by simp[hd]
 unfold wV;rw[e]at h1⊢;exact oF (aO _) (h1 _ Ì).2 λq hq=>(h1 q (É _ hq)).2
def PL{f:Str}{rows:List (ZG)}{δ:DS}{g:M (ZG)}(hf:f.length<=30)(hg:g δ=.ok (rows.map j6) δ)(hl:rows.length<=1000)(h:∀r∈rows,JU r):bX 1 (cH 0) g bY (aM dD [.val (dC (.str f)),.val (aD 0)]) δ=.ok (sL (rows.map (ln f))) δ:=by
 have:=eQ (enc:=j6) (xs:=rows) (g:=λr=>.str (ln f r)) (f:=g) (e:=aM dD [.val (dC (.str f)),.val (aD 0)]) (δ:=δ) hg hl λr hr=>by
  dsimp? [j6,lZ hf (h r hr)]
 rw[this];unfold sL;rw[Õ];rfl
def aA0{s:ZG}{bs:List (ZG)}(h0:s≠[])(hl:bs.length<=8)(h:∀b∈bs,JU (s.headD .none::b)):jW [.tuple s,.list (bs.map j6)]=.ok (sL (bs.map λb=>ln "box" (s.headD .none::b))) []:=by
 obtain⟨x,xs,rfl⟩:∃x xs,s=x::xs:=by
  cases s with
  |nil=>exact absurd rfl h0
  |cons x xs=>exact⟨x,xs,rfl⟩
 refine aY (os:=[]) ?_;show cQ nM [some (.tuple (x::xs)),some (.list (bs.map j6))] _ _ _ _;unfold nM;dsimp? [];refine bJ.of (eQ (enc:=j6) (xs:=bs) (g:=λb=>.str (ln "box" (x::b))) (fG rfl) (by omega) λb hb=>?_) ?_
 .have hw:=h b hb
  have h10:=hw.1;rw[Ë]at h10;have ta:b8 (.tuple [x]) (.tuple b)=some (.tuple (x::b)):=by
   show ((none:ZJ).or ((none:ZJ).or ((if ([x]:ZG)≠[]/\([x]:ZG).length+b.length<=sizeLine then some (PyData.tuple ([x]++b))else none).or _)))=_;rw[Á ⟨by simp,Ñ (show ([x]:ZG).length+b.length<=100 by simp;omega) ⋯⟩];rfl
  have we:=lZ (f:="box") (by show 3<=30;decide) hw;have we':dD [.str "box",.tuple (x::b)]=.ok (.str (ln "box" (x::b))) []:=we;dsimp? [j6,ta,we']
 .refine⟨?_,rfl⟩
  unfold sL;rw[Õ];rfl
end
section
variable{S:ñ}
def aA1(G:pM S):kN [zJ S,l0 S]=.ok (.str (wV S)) []:=by
 have ls:=G.ls;have lt:=G.lt;have la:=G.la;have lc:=G.lc;have e24:sizeLine=2^24:=rfl;refine aY (os:=[]) ?_;show cQ pE [some (zJ S),some (l0 S),none,none,none] _ _ _ _;unfold pE;have w1:=lZ (f:="own") (by show 3<=30;decide) G.own;have w2:=lZ (f:="bounds") (by show 6<=30;decide) G.bd;simp![zJ];dsimp? [w1,w2];generalize hA:(PyData.tuple [.tuple S.own,.tuple S.bd,.list (S.ss.map j6),.list (S.ts.map j6),.list (S.ap.map j6)])=A;refine bJ.of (PL (rows:=S.ss) (by show 5<=30;decide) (dY (by subst hA;dsimp? [])) (by omega) λr hr=>(G.ss r hr).1) ?_
 simp![sL];dsimp? [m6,Â];refine⟨by omega,?_⟩;refine bJ.of (PL (rows:=S.ts) (by show 4<=30;decide) (dY (by subst hA;dsimp? [])) (by omega) G.ts) ?_
 simp![sL];dsimp? [m6,Â,Î];refine⟨by omega,?_⟩;refine bJ.of (PL (rows:=S.ap) (by show 5<=30;decide) (dY (by subst hA;dsimp? [])) (by omega) G.ap) ?_
 simp![sL];dsimp? [m6,Â,Î];refine⟨by omega,?_⟩;have e0:[PyData.str (ln "own" S.own),.str (ln "bounds" S.bd)]++(S.ss.map (ln "stack")).map PyData.str++(S.ts.map (ln "tank")).map PyData.str++(S.ap.map (ln "apart")).map PyData.str=(hd S).map PyData.str:=by
  unfold hd;simp
 rw[e0];let⟨_,hl⟩:=JM G;refine dO (ds:=jZ (S.ss.map j6) (S.cs.map Č)) (δ1:=_) (λk δ=>∃o3 o4,δ=[some A,some (l0 S),some (.list ((hd S++tR S k).map PyData.str)),o3,o4]) (AM (by subst hA;dsimp? [l0])) ⟨_,_,by simp[tR];exact⟨rfl,rfl⟩⟩ ?_ ?_
 .rintro k d δ hk ⟨o3,o4,rfl⟩
  let⟨k1,k2,rfl⟩:=v4 (a0:=[]) (b0:=[]) hk;have hc:=G.cs _ (bI (d:=[]) k2);have hs:=G.ss _ (bI (d:=[]) k1);let⟨_,bl⟩:=v6 G k (by omega);have be:=aA0 (s:=S.ss.getD k []) (bs:=S.cs.getD k []) (by intro z;rw[z]at hs;cases hs.2) hc.1 (PK G k1)
  have eT:(hd S++tR S (k+1)).map PyData.str=(hd S++tR S k).map PyData.str++((S.cs.getD k []).map λb=>ln "box" ((S.ss.getD k []).headD .none::b)).map PyData.str:=by
   rw[v5,<- List.append_assoc,Ø]
  refine⟨_,rfl,?_⟩;rw[eT];have be':jW [j6 (S.ss.getD k []),Č (S.cs.getD k [])]=.ok (.list (((S.cs.getD k []).map λb=>ln "box" ((S.ss.getD k []).headD .none::b)).map PyData.str)) []:=be;dsimp? [be',m6,Â,Î];exact⟨by have:=hc.1;omega,_,_,rfl⟩
 .rintro δ ⟨o3,o4,rfl⟩
  rw[AN (by simp[lc]),Â];have j:jE "\n" (.list ((hd S++tR S S.ss.length).map PyData.str))=some (.str (wV S)):=MN G;dsimp? [gZ,gW,j]
end
end Toy
namespace Toy
open PySem L2 PySem.NumText
def Wk:Bool->D->Prop
 |true,d=>∃i:Int,d=.int i/\-1000000000<=i/\i<=1000000000
 |false,d=>∃z:Str,d=.str z/\vZ z=true
abbrev Pr:=Bool×D
def JN(b:Bool):Nat:=if b then 110 else 119
def fS(ps:List Pr):Str:=⟨(ps.map λp=>JN p.1).toArray⟩
def mR(ps:List Pr):ZG:=ps.map λp=>p.2
def JV(ps:List Pr):Prop:=ps.length<=10/\∀p∈ps,Wk p.1 p.2
def l7{z:Str}(h:vZ z=true):1<=z.length/\z.length<=8/\∀c∈z.cps.toList,97<=c/\c<=122:=by
 unfold vZ at h;rw[á,decide_eq_true_eq]at h;exact⟨h.1.1,h.1.2,λc hc=>of_decide_eq_true (ß.mp h.2 c hc)⟩
def uW{z:Str}(h:vZ z=true):PyData.strOk z=true:=by
 let⟨_,_,h⟩:=l7 h;show z.cps.all (·<0x110000)=true;rw[<- Array.all_toList];exact ß.mpr λc hc=>decide_eq_true (by have:=h c hc;omega)
def Wk.wd{b:Bool}{d:D}(h:Wk b d):Wd d:=by
 cases b with
 |true=>let⟨i,rfl,h1,h2⟩:=h;exact .inl ⟨i,rfl,by omega,by omega⟩
 |false=>let⟨z,rfl,h⟩:=h;exact .inr ⟨z,rfl,by have:=(l7 h).2.1;omega,uW h⟩
def Wk.free{b:Bool}{d:D}(h:Wk b d):∀c∈(wS d).cps.toList,45<=c:=by
 cases b with
 |true=>
  let⟨i,rfl,h1,h2⟩:=h;intro c hc;have hc:c∈(Str.ofString (toString i)).cps.toList:=hc;rw[sK]at hc;split at hc
  .rcases Å.mp hc with rfl|hc
   .omega
   .have:=v3 c hc;omega
  .have:=v3 c hc;omega
 |false=>
  let⟨z,rfl,h⟩:=h;intro c hc;have:=(l7 h).2.2 c hc;omega
def Wk.ne{b:Bool}{d:D}(h:Wk b d):1<=(wS d).length:=by
 cases b with
 |true=>
  let⟨i,rfl,h1,h2⟩:=h;have e:=congrArg List.length (sK (i:=i));have:(wS (.int i)).length=(Str.ofString (toString i)).cps.toList.length:=rfl;rw[this,e];have f1:1<=(i8 i.natAbs).length:=by
   cases e:i8 i.natAbs with
   |nil=>exact absurd e pL
   |cons a r=>rw[Ë];omega
  split
  .rw[Ë];omega
  .exact f1
 |false=>
  let⟨z,rfl,h⟩:=h;exact(l7 h).1
def jC(ps:List Pr):ZG:=ps.map λp=>.str (wS p.2)
def aJ8{ps:List Pr}:jZ (jC ps) (fB (fS ps))=ps.map λp=>.tuple [.str (wS p.2),.str ⟨#[JN p.1]⟩]:=by
 unfold jZ jC fB fS;rw[show (⟨(ps.map λp=>JN p.1).toArray⟩:Str).cps.toList=ps.map λp=>JN p.1 from rfl,Õ,List.zipWith_map,List.zipWith_self];rfl
def PM{ps:List Pr}:(fS ps).length=ps.length:=by
 show (ps.map λp=>JN p.1).toArray.size=_;rw[â,Â]
def aJ9{ps:List Pr}:(fS ps).cps.all (·<128)=true:=by
 unfold fS;rw[List.all_toArray];refine ß.mpr λc hc=>?_;let⟨p,_,rfl⟩:=Æ.mp hc;unfold JN;split<;>decide
def RW{ps:List Pr}{δ:DS}{i j:Nat}(h1:δ[i]?=some (some (.list (jC ps))))(h2:δ[j]?=some (some (.str (fS ps)))):FM (aD i) (aD j) δ=.ok (ps.map λp=>.tuple [.str (wS p.2),.str ⟨#[JN p.1]⟩]) δ:=by
 unfold FM;simp![bO,jT h1,jT h2,bZ];rw[Á ⟨by unfold jC;rw[Â,PM];exact È _,aJ9⟩,aJ8]
def Ϩ{b:Bool}:yU (.str ⟨#[JN b]⟩) (.str "n")=some (.bool b):=by
 refine ú ?_ (aO _) ?_
 .cases b<;>decide +kernel
 .cases b<;>decide +kernel
def aKA{x:Str}(ho:PyData.strOk x=true)(h:1<=x.length):yU (.str x) (.str "")=some (.bool false):=ú ho (aO _) (by
 rw[beq_eq_false_iff_ne];intro z;rw[z]at h;exact absurd h (by decide +kernel))
def RY{ps:List Pr}(h:JV ps):I8 [.list (jC ps),.str (fS ps)]=.ok (.bool true) []:=by
 have hl:=h.1;have e24:sizeLine=2^24:=rfl;refine aY (os:=[]) ?_;show cQ O7 [some (.list (jC ps)),some (.str (fS ps)),none,none] _ _ _ _;unfold O7;have l1:dR [.list (jC ps)]=some (.int (ps.length:Nat)):=by
  have:(jC ps).length=ps.length:=by unfold jC;rw[Â]
  rw[<- this];rfl
 have l2:dR [.str (fS ps)]=some (.int (ps.length:Nat)):=by
  rw[<- PM (ps:=ps)];exact vC rfl (by rw[PM];omega)
 dsimp? [l1,l2];rw[Ã (by simp)];refine dO (λk δ=>∃o2 o3,δ=[some (.list (jC ps)),some (.str (fS ps)),o2,o3]) (RW (i:=0) (j:=1) rfl rfl) ⟨_,_,rfl⟩ ?_ ?_
 .rintro k d δ hk ⟨o2,o3,rfl⟩
  let⟨p,hp,rfl⟩:=Æ.mp (ä hk);refine⟨_,rfl,?_⟩;have hw:=h.2 p hp;have e1:=aKA hw.wd.ok hw.ne;have e2:=Ϩ (b:=p.1);let⟨b,d⟩:=p;cases b with
  |true=>
   let⟨i,rfl,h1,h2⟩:=hw;have e3:mN [.str (wS (.int i))]=.ok (.bool true) []:=aAY h1 h2;dsimp? [e1,e2,e3];exact⟨_,_,rfl⟩
  |false=>
   dsimp? [e1,e2];exact⟨_,_,rfl⟩
 .rintro δ ⟨o2,o3,rfl⟩
  dsimp? []
def MO{ps:List Pr}(h:JV ps):gI [.list (jC ps),.str (fS ps)]=.ok (.tuple (mR ps)) []:=by
 have hl:=h.1;refine aY (os:=[]) ?_;show cQ jO [some (.list (jC ps)),some (.str (fS ps))] _ _ _ _;unfold jO;dsimp? [];refine bJ.of (GB (A:=λp:Pr=>.str (wS p.2)) (B:=λp:Pr=>.str ⟨#[JN p.1]⟩) (g:=λp:Pr=>p.2) (λ_=>rfl) (RW (i:=0) (j:=1) rfl rfl) (by omega) λp hp=>?_) ?_
 .have hw:=h.2 p hp
  have e2:=Ϩ (b:=p.1);let⟨b,d⟩:=p;cases b with
  |true=>
   let⟨i,rfl,h1,h2⟩:=hw;have e3:ľ [.str (wS (.int i))]=some (.int i):=by
    show (if (Str.ofString (toString i)).length<=640 then (intText? (Str.ofString (toString i))).map PyData.int else none)=_;rw[Á (by have:=JL h1 h2;omega),aE3 h1 h2];rfl
   dsimp? [e2,e3]
  |false=>
   let⟨z,rfl,h⟩:=hw;dsimp? [e2,wS]
 .have tl:∀l:ZG,G6 [.list l]=some (.tuple l):=λ_=>rfl
  dsimp? [tl];rfl
structure rU(n:Nat)(r:Str×List Pr):Prop where
 f:bA.lookup r.1=some (fS r.2)
 w:JV r.2
 m:fE [.str r.1,.int n]=.ok (.bool true) []
 c:∀c∈r.1.cps.toList,45<=c
 l:r.1.length<=30
 o:PyData.strOk r.1=true
def iB(r:Str×List Pr):Str:=ln r.1 (mR r.2)
def ŀ:(" ":Str)=⟨#[32]⟩:=by decide +kernel
def ϩ:("\n":Str)=⟨#[10]⟩:=by decide +kernel
def rU.wdl{n:Nat}{r:Str×List Pr}(R:rU n r):JU (mR r.2):=⟨by unfold mR;rw[Â];exact R.w.1,λd hd=>by
 let⟨p,hp,rfl⟩:=Æ.mp hd;exact(R.w.2 p hp).wd⟩
def rU.split{n:Nat}{r:Str×List Pr}(R:rU n r):fV (iB r) " "=some (.list (.str r.1::jC r.2)):=by
 have hl:=jQ R.l R.wdl;unfold fV iB;rw[Á ⟨by decide +kernel,Ñ (Nat.add_le_add_right hl 2) ⋯⟩];unfold ln;rw[ŀ,mH λq hq=>?_]
 .unfold mR jC
  simp
 .rcases Å.mp hq with rfl|hq
  .intro z
   have:=R.c 32 z;omega
  .obtain⟨d,hd,rfl⟩:=Æ.mp hq
   let⟨p,hp,rfl⟩:=Æ.mp hd;intro z;have:=(R.w.2 p hp).free 32 z;omega
def rU.nl{n:Nat}{r:Str×List Pr}(R:rU n r):10∉(iB r).cps.toList:=by
 have key:∀(ps:List (ZF)),(∀p∈ps,∀c∈p,45<=c)->10∉jl 32 ps:=by
  intro ps
  induction ps with
  |nil=>intro _ z;cases z
  |cons p ps ih=>
   intro h;cases ps with
   |nil=>intro z;have:=h p Ì 10 z;omega
   |cons q r=>
    show 10∉p++32::jl 32 (q::r);intro z;rcases ë.mp z with z|z
    .have:=h p Ì 10 z;omega
    .rcases Å.mp z with z|z
     .cases z
     .exact ih (λx hx=>h x (É _ hx)) z
 unfold iB ln;rw[ŀ,vL];refine key _ λq hq=>?_;let⟨z,hz,rfl⟩:=Æ.mp hq;rcases Å.mp hz with rfl|hz
 .exact R.c
 .obtain⟨d,hd,rfl⟩:=Æ.mp hz
  let⟨p,hp,rfl⟩:=Æ.mp hd;exact(R.w.2 p hp).free
def pN(r:Str×List Pr):D:=.tuple [.str r.1,.tuple (mR r.2)]
def Ϫ{a:D}{l:ZG}:zM (.list (a::l)) (some 1) none=some (.list l):=by
 show some (PyData.list (D1 (a::l) (some ((1:Nat):Int)) none))=_;unfold D1;rw[HT.sIx_nat,HT.sIx_none,Ë,Nat.min_eq_left (by omega),List.drop_one,List.tail_cons,List.take_of_length_le (by omega)]
def aE5{n:Nat}{r:Str×List Pr}(R:rU n r):rK [.str (iB r),.int n]=.ok (pN r) []:=by
 refine aY (os:=[]) ?_;show cQ rJ [some (.str (iB r)),some (.int n),none,none] _ _ _ _;unfold rJ;have e1:=R.split;have e2:=R.m;have e3:FL bA (.str r.1)=some (.str (fS r.2)):=by
  show (bA.lookup r.1).map PyData.str=_;rw[R.f];rfl
 have e4:=RY R.w;have e5:=MO R.w;have e6:=Ϫ (a:=.str r.1) (l:=jC r.2);dsimp? [tQ,gW,e1,e2,BF,mZ,lB,s9,e6,e3,e4,e5];rfl
abbrev Rw:=Str×List Pr
def eR(rs:List Rw):Str:=Builtin.Str.glued "\n" (rs.map iB)
def aA3{α:Type}{f:α->D}{as:List α}:eN (as.map f)=as.zipIdx.map λp=>.tuple [.int (p.2:Int),f p.1]:=by
 apply List.ext_getElem?;intro k;unfold eN;rw[List.getElem?_mapIdx,Ò,Ò,List.getElem?_zipIdx];cases as[k]? with
 |none=>rfl
 |some a=>simp
def aA4{r:Rw}{rs:List Rw}(h:∀(k:Nat)(x:Rw),(r::rs)[k]?=some x->rU k x)(h1:1<=rs.length)(h2:rs.length<=60):kP [.str (eR (r::rs))]=.ok (.list ((r::rs).map pN)) []:=by
 have hmem:∀x∈r::rs,∃k,rU k x:=λx hx=>by
  let⟨k,hk⟩:=List.getElem?_of_mem hx;exact⟨k,h k x hk⟩
 have e24:sizeLine=2^24:=rfl;have hs:fV (eR (r::rs)) "\n"=some (.list ((r::rs).map λx=>.str (iB x))):=by
  unfold fV eR;have hl:=sJ (g:="\n") (p:=iB r) (ps:=rs.map iB) (m:=400) (by
   let⟨k,R⟩:=hmem r Ì;exact jQ R.l R.wdl) λq hq=>by
   let⟨x,hx,rfl⟩:=Æ.mp hq;let⟨k,R⟩:=hmem x (É _ hx);exact jQ R.l R.wdl
  have e1:("\n":Str).length=1:=rfl;rw[Â,e1]at hl;rw[Ê,Á ⟨by decide +kernel,by omega⟩,ϩ,mH λq hq=>?_]
  .simp
  .rw[<- Ê]at hq
   let⟨x,hx,rfl⟩:=Æ.mp hq;let⟨k,R⟩:=hmem x hx;exact R.nl
 refine aY (os:=[]) ?_;show cQ pF [some (.str (eR (r::rs))),none] _ _ _ _;unfold pF;have hE:gC (uC fV (aD 0) (dC (.str "\n"))) [some (.str (eR (r::rs))),none]=.ok ((r::rs).zipIdx.map λp=>.tuple [.int (p.2:Int),.str (iB p.1)]) [some (.str (eR (r::rs))),none]:=by
  have hd:uC fV (aD 0) (dC (.str "\n")) [some (.str (eR (r::rs))),none]=.ok (.list ((r::rs).map λx=>.str (iB x))) [some (.str (eR (r::rs))),none]:=cY (by dsimp? [tQ,gW,hs]);simp![gC,bO,hd,bZ];rw[aA3]
 dsimp? [];refine bJ.of (GB (A:=λp:Rw×Nat=>.int (p.2:Int)) (B:=λp:Rw×Nat=>.str (iB p.1)) (g:=λp:Rw×Nat=>pN p.1) (λ_=>rfl) hE (by simp;omega) λp hp=>?_) ?_
 .obtain⟨x,k⟩:=p
  have hk:(r::rs)[k]?=some x:=by
   rw[List.mem_zipIdx_iff_getElem?]at hp;exact hp
  dsimp? [aE5 (h k x hk)]
 .have em:(r::rs).zipIdx.map (λp=>pN p.1)=(r::rs).map pN:=by
   rw[show (λp:Rw×Nat=>pN p.1)=pN∘Prod.fst from rfl,<- Õ,List.zipIdx_map_fst]
  rw[em];have l2:dR [.tuple [PyData.str "own",.str "bounds"]]=some (.int 2):=rfl;dsimp? [l2,Â,Ë];rw[Ã (by simp;omega)]
  trivial
def UQ{rs:List Rw}{w:Str}(ho:PyData.strOk w=true)(h:∀x∈rs,PyData.strOk x.1=true)(hl:rs.length<=1000):dJ [.list (rs.map pN),.str w]=.ok (.list ((rs.filter λx=>x.1 == w).map λx=>.tuple (mR x.2))) []:=by
 refine aY (os:=[]) ?_;show cQ lU [some (.list (rs.map pN)),some (.str w)] _ _ _ _;unfold lU;dsimp? [];refine bJ.of (aAW (enc:=pN) (A:=λx:Rw=>.str x.1) (B:=λx:Rw=>.tuple (mR x.2)) (g:=λx:Rw=>.tuple (mR x.2)) (h:=λx:Rw=>x.1 == w) (λ_=>rfl) (fG rfl) hl (λx hx=>?_) λx hx=>?_) ?_
 .dsimp? [ĥ (h x hx) ho]
 .dsimp? []
 .exact⟨rfl,rfl⟩
def Nm(i:Int):Prop:=-1000000000<=i/\i<=1000000000
structure tU where
 nm:Str
 a:Int
 b:Int
 c:Int
 x:Int
 y:Int
 z:Int
structure UR where
 nm:Str
 a:Int
 b:Int
 c:Int
 x:Int
structure VD where
 p:Str
 q:Str
 n:Int
structure fW where
 nm:Str
 w:Int
 p:Str
 q:Str
 e:Int
def tU.r(s:tU):(List Pr):=[(false,.str s.nm),(true,.int s.a),(true,.int s.b),(true,.int s.c),(true,.int s.x),(true,.int s.y),(true,.int s.z)]
def UR.r(s:UR):(List Pr):=[(false,.str s.nm),(true,.int s.a),(true,.int s.b),(true,.int s.c),(true,.int s.x)]
def VD.r(s:VD):(List Pr):=[(false,.str s.p),(false,.str s.q),(true,.int s.n)]
def fW.r(s:fW):(List Pr):=[(false,.str s.nm),(true,.int s.w),(false,.str s.p),(false,.str s.q),(true,.int s.e)]
structure dZ where
 own:ZI
 bd:ZI
 ss:List tU
 ts:List UR
 ap:List VD
 cs:List (List fW)
def tU.Ok(s:tU):Prop:=vZ s.nm=true/\Nm s.a/\Nm s.b/\Nm s.c/\(1<=s.x/\Nm s.x)/\(1<=s.y/\Nm s.y)/\(1<=s.z/\Nm s.z)
def UR.Ok(s:UR):Prop:=vZ s.nm=true/\Nm s.a/\Nm s.b/\Nm s.c/\(1<=s.x/\Nm s.x)
def VD.Ok(s:VD):Prop:=vZ s.p=true/\vZ s.q=true/\(1<=s.n/\Nm s.n)
def fW.Ok(s:fW):Prop:=vZ s.nm=true/\(1<=s.w/\Nm s.w)/\vZ s.p=true/\vZ s.q=true/\(0<=s.e/\Nm s.e)
structure dZ.Ok(S:dZ):Prop where
 own:∃a b c d,S.own=[a,b,c,d]/\1<=a/\Nm a/\Nm b/\Nm c/\Nm d
 bd:∃a b c d e f,S.bd=[a,b,c,d,e,f]/\Nm a/\Nm b/\Nm c/\Nm d/\Nm e/\Nm f/\a<=b/\c<=d/\1<=f
 ss:∀s∈S.ss,s.Ok
 ts:∀s∈S.ts,s.Ok
 ap:∀s∈S.ap,s.Ok
 cs:∀c∈S.cs,c.length<=8/\∀b∈c,b.Ok
 ls:S.ss.length<=5
 lt:S.ts.length<=4
 la:S.ap.length<=4
 lc:S.cs.length=S.ss.length
 ns:(S.ss.map tU.nm).Nodup
 nt:(S.ts.map UR.nm).Nodup
 nb:(S.cs.flatten.map fW.nm).Nodup
def yH(l:ZI):(List Pr):=l.map λi=>(true,.int i)
def ϫ(s:tU)(b:fW):Rw:=("box",(false,.str s.nm)::b.r)
def C8(cs:List (List fW)):Nat->List (Nat×fW)
 |0=>[]
 |k+1=>C8 cs k++(cs.getD k []).map λb=>(k,b)
def mD:tU:=⟨"",0,0,0,0,0,0⟩
def dZ.pr(S:dZ)(p:Nat×fW):Rw:=ϫ (S.ss.getD p.1 mD) p.2
def dZ.bx(S:dZ):(List Rw):=(C8 S.cs S.ss.length).map S.pr
def JO{cs:List (List fW)}{p:Nat×fW}:∀{n:Nat},p∈C8 cs n->p.1<n/\p.2∈cs.getD p.1 []
 |k+1,h=>by
  unfold C8 at h;rcases ë.mp h with h|h
  .have:=JO h
   exact⟨by omega,this.2⟩
  .obtain⟨b,hb,rfl⟩:=Æ.mp h
   exact⟨by show k<k+1;omega,hb⟩
def C9{cs:List (List fW)}{k:Nat}:∀n:Nat,((C8 cs n).filter λp=>p.1 == k)=if k<n then (cs.getD k []).map λb=>(k,b)else []
 |0=>by simp[C8]
 |n+1=>by
  unfold C8;rw[List.filter_append,C9 n];by_cases h:k<n
  .rw[Á h,Á (by omega),List.filter_eq_nil_iff.mpr,Û]
   intro p hp;let⟨b,_,rfl⟩:=Æ.mp hp;simp;omega
  .rw[Ã h,List.nil_append]
   by_cases h2:k=n
   .subst h2
    rw[Á (by omega),List.filter_eq_self.mpr];intro p hp;let⟨b,_,rfl⟩:=Æ.mp hp;simp
   .rw[Ã (by omega),List.filter_eq_nil_iff.mpr]
    intro p hp;let⟨b,_,rfl⟩:=Æ.mp hp;simp;omega
def dZ.rows(S:dZ):(List Rw):=("own",yH S.own)::("bounds",yH S.bd)::(S.ss.map (λs=>(("stack",s.r):Rw))++S.ts.map (λs=>(("tank",s.r):Rw))++S.ap.map (λs=>(("apart",s.r):Rw))++S.bx)
def dZ.shp(S:dZ):ñ:=⟨mR (yH S.own),mR (yH S.bd),S.ss.map λs=>mR s.r,S.ts.map λs=>mR s.r,S.ap.map λs=>mR s.r,S.cs.map λc=>c.map λb=>mR b.r⟩
def v7{i:Int}(h:Nm i):Wk true (.int i):=⟨i,rfl,h.1,h.2⟩
def EQ{z:Str}(h:vZ z=true):Wk false (.str z):=⟨z,rfl,h⟩
def tU.Ok.wk{s:tU}(h:s.Ok):JV s.r:=⟨by show 7<=10;decide,λp hp=>by
 let⟨h1,h2,h3,h4,h5,h6,h7⟩:=h;simp![tU.r,Å,Í,or_false]at hp;rcases hp with rfl|rfl|rfl|rfl|rfl|rfl|rfl
 .exact EQ h1
 .exact v7 h2
 .exact v7 h3
 .exact v7 h4
 .exact v7 h5.2
 .exact v7 h6.2
 .exact v7 h7.2⟩
def UR.Ok.wk{s:UR}(h:s.Ok):JV s.r:=⟨by show 5<=10;decide,λp hp=>by
 let⟨h1,h2,h3,h4,h5⟩:=h;simp![UR.r,Å,Í,or_false]at hp;rcases hp with rfl|rfl|rfl|rfl|rfl
 .exact EQ h1
 .exact v7 h2
 .exact v7 h3
 .exact v7 h4
 .exact v7 h5.2⟩
def VD.Ok.wk{s:VD}(h:s.Ok):JV s.r:=⟨by show 3<=10;decide,λp hp=>by
 let⟨h1,h2,h3⟩:=h;simp![VD.r,Å,Í,or_false]at hp;rcases hp with rfl|rfl|rfl
 .exact EQ h1
 .exact EQ h2
 .exact v7 h3.2⟩
def fW.Ok.wk{s:fW}(h:s.Ok):JV s.r:=⟨by show 5<=10;decide,λp hp=>by
 let⟨h1,h2,h3,h4,h5⟩:=h;simp![fW.r,Å,Í,or_false]at hp;rcases hp with rfl|rfl|rfl|rfl|rfl
 .exact EQ h1
 .exact v7 h2.2
 .exact EQ h3
 .exact EQ h4
 .exact v7 h5.2⟩
def Ϭ{l:ZI}(h:∀i∈l,Nm i)(hl:l.length<=10):JV (yH l):=⟨by unfold yH;rw[Â];exact hl,λp hp=>by
 let⟨i,hi,rfl⟩:=Æ.mp hp;exact v7 (h i hi)⟩
def dZ.Ok.ownW{S:dZ}(G:S.Ok):JV (yH S.own):=by
 let⟨a,b,c,d,e,h1,h2,h3,h4,h5⟩:=G.own;rw[e];exact Ϭ (by simp[h2,h3,h4,h5]) (by show 4<=10;decide)
def dZ.Ok.bdW{S:dZ}(G:S.Ok):JV (yH S.bd):=by
 let⟨a,b,c,d,e,f,e0,h1,h2,h3,h4,h5,h6,_⟩:=G.bd;rw[e0];exact Ϭ (by simp[h1,h2,h3,h4,h5,h6]) (by show 6<=10;decide)
def JV.wd{ps:List Pr}(h:JV ps):JU (mR ps):=⟨by unfold mR;rw[Â];exact h.1,λd hd=>by
 let⟨p,hp,rfl⟩:=Æ.mp hd;exact(h.2 p hp).wd⟩
def dZ.Ok.good{S:dZ}(G:S.Ok):pM S.shp:=by
 refine⟨G.ownW.wd,G.bdW.wd,?_,?_,?_,?_,by show (S.ss.map _).length<=5;rw[Â];exact G.ls,by show (S.ts.map _).length<=4;rw[Â];exact G.lt,by show (S.ap.map _).length<=4;rw[Â];exact G.la,by show (S.cs.map _).length=(S.ss.map _).length;rw[Â,Â];exact G.lc⟩
 .intro s hs
  let⟨t,ht,rfl⟩:=Æ.mp hs;exact⟨(G.ss t ht).wk.wd,rfl⟩
 .intro s hs
  let⟨t,ht,rfl⟩:=Æ.mp hs;exact(G.ts t ht).wk.wd
 .intro s hs
  let⟨t,ht,rfl⟩:=Æ.mp hs;exact(G.ap t ht).wk.wd
 .intro c hc
  let⟨d,hd,rfl⟩:=Æ.mp hc;refine⟨by rw[Â];exact(G.cs d hd).1,λb hb=>?_⟩
  let⟨e,he,rfl⟩:=Æ.mp hb;exact⟨((G.cs d hd).2 e he).wk.wd,rfl⟩
def aPC:fE [.str "own",.int (0:Nat)]=.ok (.bool true) []:=by
 refine aY (os:=[]) ?_;show cQ dX [some (.str "own"),some (.int 0)] _ _ _ _;unfold dX;have l2:dR [.tuple [PyData.str "own",.str "bounds"]]=some (.int 2):=rfl;have q:yU (.str "own") (.str "own")=some (.bool true):=ú (aO _) (aO _) (by decide +kernel);dsimp? [l2,q];rw[Á ⋯]
 trivial
def aPD:fE [.str "bounds",.int (1:Nat)]=.ok (.bool true) []:=by
 refine aY (os:=[]) ?_;show cQ dX [some (.str "bounds"),some (.int 1)] _ _ _ _;unfold dX;have l2:dR [.tuple [PyData.str "own",.str "bounds"]]=some (.int 2):=rfl;have q:yU (.str "bounds") (.str "bounds")=some (.bool true):=ú (aO _) (aO _) (by decide +kernel);dsimp? [l2,q];rw[Á ⋯]
 trivial
def aPE{n:Nat}{f:Str}(hn:2<=n)(h1:(bA.lookup f).isSome=true)(h2:Ą true (.str f) (.tuple [.str "own",.str "bounds"])=some (.bool true)):fE [.str f,.int n]=.ok (.bool true) []:=by
 refine aY (os:=[]) ?_;show cQ dX [some (.str f),some (.int n)] _ _ _ _;unfold dX;have l2:dR [.tuple [PyData.str "own",.str "bounds"]]=some (.int 2):=rfl;have g:OE false bA (.str f)=some (.bool true):=by
  show some (PyData.bool ((bA.lookup f).isSome != false))=_;rw[h1];rfl
 dsimp? [l2];rw[Ã (by simp;omega)];dsimp? [g,h2]
def Ł{n:Nat}{f:Str}{ps:List Pr}(hn:2<=n)(hf:bA.lookup f=some (fS ps))(h2:Ą true (.str f) (.tuple [.str "own",.str "bounds"])=some (.bool true))(hc:f.cps.toList.all (λc=>decide (45<=c))=true)(hl:f.length<=30)(ho:PyData.strOk f=true)(w:JV ps):rU n (f,ps):=
 ⟨hf,w,aPE hn (by rw[hf];rfl) h2,λc hc'=>of_decide_eq_true (ß.mp hc c hc'),hl,ho⟩
def aKB{S:dZ}(hl:S.cs.length=S.ss.length){x:Rw}(h:x∈S.bx):∃s∈S.ss,∃c∈S.cs,∃b∈c,x=ϫ s b:=by
 let⟨p,hp,rfl⟩:=Æ.mp h;let⟨h1,h2⟩:=JO hp;exact⟨_,bI h1,_,bI (d:=[]) (by omega),p.2,h2,rfl⟩
def dZ.Ok.rowsOk{S:dZ}(G:S.Ok)(k:Nat)(x:Rw)(h:S.rows[k]?=some x):rU k x:=by
 unfold dZ.rows at h
 match k,h with
 |0,h=>
  cases h;refine⟨?_,G.ownW,aPC,λc hc=>of_decide_eq_true (ß.mp (show (Str.ofString "own").cps.toList.all (λc=>decide (45<=c))=true by decide +kernel) c hc),by show 3<=30;decide,aO _⟩;let⟨a,b,c,d,e,_⟩:=G.own;rw[e];show bA.lookup (Str.ofString "own")=some ⟨#[110,110,110,110]⟩;decide +kernel
 |1,h=>
  cases h;refine⟨?_,G.bdW,aPD,λc hc=>of_decide_eq_true (ß.mp (show (Str.ofString "bounds").cps.toList.all (λc=>decide (45<=c))=true by decide +kernel) c hc),by show 6<=30;decide,aO _⟩;let⟨a,b,c,d,e,f,e0,_⟩:=G.bd;rw[e0];show bA.lookup (Str.ofString "bounds")=some ⟨#[110,110,110,110,110,110]⟩;decide +kernel
 |k+2,h=>
  have hm:=ä (show (S.ss.map (λs=>(("stack",s.r):Rw))++S.ts.map (λs=>(("tank",s.r):Rw))++S.ap.map (λs=>(("apart",s.r):Rw))++S.bx)[k]?=some x from h);simp![ë,Æ]at hm;rcases hm with ((⟨s,hs,rfl⟩|⟨s,hs,rfl⟩)|⟨s,hs,rfl⟩)|hb
  .exact Ł (by omega) (show bA.lookup (Str.ofString "stack")=some ⟨#[119,110,110,110,110,110,110]⟩ by decide +kernel) (by unfold Ą;rfl) (by decide +kernel) (by show 5<=30;decide) (aO _) (G.ss s hs).wk
  .exact Ł (by omega) (show bA.lookup (Str.ofString "tank")=some ⟨#[119,110,110,110,110]⟩ by decide +kernel) (by unfold Ą;rfl) (by decide +kernel) (by show 4<=30;decide) (aO _) (G.ts s hs).wk
  .exact Ł (by omega) (show bA.lookup (Str.ofString "apart")=some ⟨#[119,119,110]⟩ by decide +kernel) (by unfold Ą;rfl) (by decide +kernel) (by show 5<=30;decide) (aO _) (G.ap s hs).wk
  .obtain⟨s,hs,c,hc,b,hb2,rfl⟩:=aKB G.lc hb
   refine Ł (by omega) (show bA.lookup (Str.ofString "box")=some ⟨#[119,119,110,119,119,110]⟩ by decide +kernel) (by unfold Ą;rfl) (by decide +kernel) (by show 3<=30;decide) (aO _) ⟨by show 6<=10;decide,λp hp=>?_⟩;rcases Å.mp hp with rfl|hp
   .exact EQ (G.ss s hs).1
   .exact((G.cs c hc).2 b hb2).wk.2 p hp
def MP(S:dZ)(hl:S.cs.length=S.ss.length):∀k,k<=S.ss.length->tR S.shp k=((C8 S.cs k).map S.pr).map iB
 |0=>by intro _;simp[tR,C8]
 |k+1=>by
  intro hk;rw[v5,MP S hl k (by omega)];have h1:k<S.ss.length:=by omega
  have h2:k<S.cs.length:=by omega
  have e1:S.shp.cs.getD k []=(S.cs.getD k []).map λb=>mR b.r:=by
   show (S.cs.map _).getD k []=_;rw[Ð,Ò,Ç h2,Ð,Ç h2];rfl
  have e2:S.shp.ss.getD k []=mR (S.ss.getD k mD).r:=by
   show (S.ss.map _).getD k []=_;rw[Ð,Ò,Ç h1,Ð,Ç h1];rfl
  rw[e1,e2];rw[show C8 S.cs (k+1)=C8 S.cs k++(S.cs.getD k []).map λb=>(k,b)from rfl,Ø,Ø];congr 1;rw[Õ,Õ,Õ];rfl
def yI{S:dZ}(G:S.Ok):wV S.shp=eR S.rows:=by
 unfold wV eR;congr 1;have hl:S.shp.ss.length=S.ss.length:=by show (S.ss.map _).length=_;rw[Â]
 rw[hl,MP S G.lc _ (È _)];unfold hd dZ.rows;simp![dZ.shp,dZ.bx,Ê,Ø,Õ,List.cons_append,List.nil_append];rfl
def aE7{s:Str}(h:s.length<=sizeLine):D4 (.str s)=some (.str s):=Á h
def US{k:Nat}(hk:k<8){s:Str}(hs:s.length<=10):∃o:Str,o.length<=30/\∀(δ:DS)(Q:D->ZM),δ[1]?=some (some (.str s))->δ[3]?=some (some (.int k))->Q (.str o) δ->bJ (jI Str.empty [t6 D4 (aD 1),dC (.str " "),t6 D4 (aD 3)]) δ Q:=by
 have hz:sizeLine=16777216:=by decide
 have h0:Str.empty.length=0:=rfl;have h1:(Str.ofString " ").length=1:=by decide
 have h2:=JK (i:=(k:Int)) (by omega) (by omega);have h3:D4 (.int (k:Int))=some (.str (Str.ofString (toString (k:Int)))):=Á (by
  have:((k:Int).natAbs)=k:=Int.natAbs_natCast k;rw[this];have:∀k,k<8->Nat.log2 k<1920:=by decide
  exact this k hk)
 refine⟨Str.empty++s++Str.ofString " "++Str.ofString (toString (k:Int)),by rw[bS,bS,bS];omega,λδ Q e1 e3 q=>?_⟩;dsimp? [Z9,RR,Ϟ,e1,e3,aE7 (show s.length<=sizeLine by omega),h3];rw[bS,bS,bS,bS,bS,bS];exact⟨by omega,by omega,by omega,q⟩
def UT{xs:D}{l:ZG}{δ:DS}{i:Nat}(h:δ[i]?=some (some xs))(hx:xs=.list l\/xs=.tuple l):bR (aD i) δ=.ok l δ:=by
 rcases hx with rfl|rfl
 .exact fG h
 .exact sI h
def DB{xs o:D}{l:ZI}(hx:xs=.list (l.map .int)\/xs=.tuple (l.map .int))(h:∀i∈l,1<=i):gU [xs,o]=.ok .none []:=by
 refine mQ (os:=[]) ?_;show cQ nF [some xs,some o,none] _ _ _ _;unfold nF;refine dO (λk δ=>∃o2,δ=[some xs,some o,o2]) (UT rfl hx) ⟨_,rfl⟩ ?_ ?_
 .rintro k d δ hk ⟨o2,rfl⟩
  let⟨i,hi,rfl⟩:=Æ.mp (ä hk);refine⟨_,rfl,?_⟩;have:=h i hi;dsimp? [];rw[Ã (by simp;omega)];exact⟨_,rfl⟩
 .rintro δ ⟨o2,rfl⟩
  rfl
def ě{z:Str}(h:vZ z=true):fR [.str z]=.ok (.bool true) []:=by
 let⟨h1,h2,h3⟩:=l7 h;rw[<- h];exact aE2 (by omega) λc hc=>by have:=h3 c hc;omega
def GF{α:Type}{nm:α->Str}{T:α->D}{sz:α->ZI}{xs:List α}{s:Str}(hs:s.length<=10)(hl:xs.length<8)(h0:∀a∈xs,bN (T a) (.int 0)=some (.str (nm a)))(h4:∀a∈xs,vB (T a) (some 4) none=some (.tuple ((sz a).map .int)))(hn:∀a∈xs,vZ (nm a)=true)(hz:∀a∈xs,∀i∈sz a,1<=i)(nd:(xs.map nm).Nodup):iZ [.list (xs.map T),.str s]=.ok .none []:=by
 refine mQ (os:=[]) ?_;show cQ lN [some (.list (xs.map T)),some (.str s),none,none,none,none,none] _ _ _ _;unfold lN;dsimp? [];refine dO (λk δ=>∃o3 o4 o5 o6,δ=[some (.list (xs.map T)),some (.str s),some (EO ((xs.take k).map nm)),o3,o4,o5,o6]) (kQ (i:=0) rfl) ⟨_,_,_,_,rfl⟩ ?_ ?_
 .rintro k d δ hk ⟨o3,o4,o5,o6,rfl⟩
  unfold eN at hk;rw[List.getElem?_mapIdx,Ò]at hk;cases hp:xs[k]? with
  |none=>rw[hp]at hk;cases hk
  |some a=>
   rw[hp]at hk;cases hk;have hkl:=(Ó.mp hp).1;have ha:=ä hp;refine⟨_,rfl,?_⟩;let⟨o,ho,hm⟩:=US (k:=k) (by omega) hs;have i0:=h0 a ha;have ic:=h4 a ha;have e1:=ě (hn a ha);have ni:nm a∉(xs.take k).map nm:=by
    have e:xs.map nm=(xs.take k).map nm++(xs.drop k).map nm:=by rw[<- Ø,List.take_append_drop]
    rw[e]at nd;have hd:nm a∈(xs.drop k).map nm:=by
     rw[ð hkl];rw[Ç hkl]at hp;cases hp;exact Ì
    intro z;exact(List.nodup_append.mp nd).2.2 _ z _ hd rfl
   have e2:(xs.take (k+1)).map nm=(xs.take k).map nm++[nm a]:=by
    rw[List.take_succ,hp];simp
   rw[e2];have sz1:=DB (xs:=.tuple ((sz a).map .int)) (o:=.str o) (.inr rfl) (hz a ha);generalize T a=Ta at *;rw[KL,QX];refine hm _ _ rfl rfl ?_;dsimp? [i0,e1,wQ,ϣ,ni,decide_false,wW,JI ni (by rw[Â,ì];omega),BF,mZ,lB,s9,ic,sz1];exact⟨_,_,_,_,rfl⟩
 .rintro δ ⟨o3,o4,o5,o6,rfl⟩
  rfl
def aKC{a b c d:Int}(h:1<=a):mL [.tuple [.int a,.int b,.int c,.int d]]=.ok .none []:=by
 refine mQ (os:=[]) ?_;show cQ rF [some (.tuple [.int a,.int b,.int c,.int d])] _ _ _ _;unfold rF;dsimp? [];rw[Ã (by simp;omega)]
 trivial
def UU{a b c d e f:Int}(h1:a<=b)(h2:c<=d)(h3:1<=f):iY [.tuple [.int a,.int b,.int c,.int d,.int e,.int f]]=.ok .none []:=by
 refine mQ (os:=[]) ?_;show cQ lM [some (.tuple [.int a,.int b,.int c,.int d,.int e,.int f])] _ _ _ _;unfold lM;have s1:=DB (xs:=.list [.int f]) (o:=.str "bounds") (l:=[f]) (.inl rfl) (by simpa using h3);dsimp? [];rw[Ã (by simp;omega),Ã (by simp;omega)];dsimp? [s1]
def aE8{k:Nat}(hk:k<8):D4 (.int (k:Int))=some (.str (Str.ofString (toString (k:Int)))):=Á (by
 have:((k:Int).natAbs)=k:=Int.natAbs_natCast k;rw[this];have:∀k,k<8->Nat.log2 k<1920:=by decide
 exact this k hk)
def bB(r:List Pr):D:=.tuple (mR r)
def aA6{xs:List VD}(hl:xs.length<8)(h:∀a∈xs,a.Ok):nH [.list (xs.map λa=>bB a.r)]=.ok .none []:=by
 have hz:sizeLine=16777216:=by decide
 refine mQ (os:=[]) ?_;show cQ nG [some (.list (xs.map λa=>bB a.r)),none,none,none] _ _ _ _;unfold nG;refine dO (λk δ=>∃o1 o2 o3,δ=[some (.list (xs.map λa=>bB a.r)),o1,o2,o3]) (kQ (i:=0) rfl) ⟨_,_,_,rfl⟩ ?_ ?_
 .rintro k d δ hk ⟨o1,o2,o3,rfl⟩
  unfold eN at hk;rw[List.getElem?_mapIdx,Ò]at hk;cases hp:xs[k]? with
  |none=>rw[hp]at hk;cases hk
  |some a=>
   rw[hp]at hk;cases hk;have hkl:=(Ó.mp hp).1;let⟨h1,h2,h3,_⟩:=h a (ä hp);refine⟨[some (.list (xs.map λa=>bB a.r)),some (.int (k:Int)),some (bB a.r),o3],rfl,?_⟩;have e0:bN (bB a.r) (.int 0)=some (.str a.p):=rfl;have e1:bN (bB a.r) (.int 1)=some (.str a.q):=rfl;have e2:bN (bB a.r) (.int 2)=some (.int a.n):=rfl;have n1:=ě h1;have n2:=ě h2;have s1:=λo=>DB (xs:=.list [.int a.n]) (o:=o) (l:=[a.n]) (.inl rfl) (by simpa using h3);have fi:=aE8 (k:=k) (by omega);have il:=JK (i:=(k:Int)) (by omega) (by omega);have rl:(Str.ofString "row of kinds apart ").length=19:=by decide
   generalize bB a.r=Ta at *;have m0:Str.empty.length=0:=rfl;dsimp? [Z9,RR,Ϟ,fi,e0,e1,e2,n1,n2,s1];rw[bS,bS,bS];exact⟨by omega,by omega,_,_,_,rfl⟩
 .rintro δ ⟨o1,o2,o3,rfl⟩
  rfl
def aT(S:dZ):D:=.tuple [bB (yH S.own),bB (yH S.bd),.list (S.ss.map λs=>bB s.r),.list (S.ts.map λs=>bB s.r),.list (S.ap.map λs=>bB s.r)]
def aA7{S:dZ}(G:S.Ok):pB [aT S]=.ok (.bool true) []:=by
 let⟨a,b,c,d,e,h1,_⟩:=G.own;let⟨a',b',c',d',e',f',e0,_,_,_,_,_,_,g1,g2,g3⟩:=G.bd;have w1:mL [bB (yH S.own)]=.ok .none []:=by rw[e];exact aKC h1
 have w2:iY [bB (yH S.bd)]=.ok .none []:=by rw[e0];exact UU g1 g2 g3
 have w3:=GF (xs:=S.ss) (nm:=tU.nm) (T:=λs=>bB s.r) (sz:=λs=>[s.x,s.y,s.z]) (s:="stack") ⋯ (by have:=G.ls;omega) (λ_ _=>rfl) (λ_ _=>rfl) (λs hs=>(G.ss s hs).1) (λs hs i hi=>by
  let⟨_,_,_,_,h5,h6,h7⟩:=G.ss s hs;simp![Å,Í,or_false]at hi;rcases hi with rfl|rfl|rfl
  .exact h5.1
  .exact h6.1
  .exact h7.1) G.ns
 have w4:=GF (xs:=S.ts) (nm:=UR.nm) (T:=λs=>bB s.r) (sz:=λs=>[s.x]) (s:="tank") ⋯ (by have:=G.lt;omega) (λ_ _=>rfl) (λ_ _=>rfl) (λs hs=>(G.ts s hs).1) (λs hs i hi=>by
  let⟨_,_,_,_,h5⟩:=G.ts s hs;simp![Å,Í,or_false]at hi;rcases hi with rfl;exact h5.1) G.nt
 have w5:=aA6 (xs:=S.ap) (by have:=G.la;omega) G.ap;refine aY (os:=[]) ?_;show cQ pA [some (aT S)] _ _ _ _;unfold pA aT;dsimp? [w1,w2,w3,w4,w5]
def aR(S:dZ):D:=.list (S.cs.map λc=>.list (c.map λb=>bB b.r))
def ϭ{b:fW}{zs:ZE}(h:b.Ok)(hn:b.nm∉zs):mM [bB b.r,EO zs]=.ok .none [some (EO zs)]:=by
 let⟨h1,h2,h3,h4,h5⟩:=h;refine mQ (os:=[EO zs]) ?_;show cQ rG [some (bB b.r),some (EO zs)] _ _ _ _;unfold rG;have e0:bN (bB b.r) (.int 0)=some (.str b.nm):=rfl;have e1:bN (bB b.r) (.int 1)=some (.int b.w):=rfl;have e2:bN (bB b.r) (.int 2)=some (.str b.p):=rfl;have e3:bN (bB b.r) (.int 3)=some (.str b.q):=rfl;have e4:bN (bB b.r) (.int 4)=some (.int b.e):=rfl;generalize bB b.r=T at *;dsimp? [e0,ě h1,wQ,ϣ,hn,decide_false,e1];rw[Ã (by simp;omega)];dsimp? [e2,ě h3,e3,ě h4,e4];rw[Ã (by simp;omega)]
 trivial
def MQ{S:dZ}(G:S.Ok):nJ [aT S,aR S]=.ok (.bool true) []:=by
 have lc:=G.lc;have ls:=G.ls;have e24:sizeLine=2^24:=rfl;refine aY (os:=[]) ?_;show cQ nI [some (aT S),some (aR S),none,none,none] _ _ _ _;unfold nI;have e2:bN (aT S) (.int 2)=some (.list (S.ss.map λs=>bB s.r)):=rfl;have hc:aR S=.list (S.cs.map λc=>.list (c.map λb=>bB b.r)):=rfl;have l1:dR [aR S]=some (.int (S.ss.length:Nat)):=by
  rw[<- lc,<- Â (f:=λc:List fW=>PyData.list (c.map λb=>bB b.r))];rfl
 have l2:dR [.list (S.ss.map λs=>bB s.r)]=some (.int (S.ss.length:Nat)):=by
  rw[<- Â (f:=λs:tU=>bB s.r)];rfl
 generalize aT S=A at *;dsimp? [l1,e2,l2];rw[Ã (by simp)];have hfl:S.cs.flatten.length<=100:=by
  have:∀cs:List (List fW),(∀c∈cs,c.length<=8)->cs.flatten.length<=8*cs.length:=by
   intro cs
   induction cs with
   |nil=>intro _;simp
   |cons c cs ih=>
    intro h;have h1:=ih λx hx=>h x (É _ hx);have h2:=h c Ì;rw[List.flatten_cons,Î,Ë];omega
  have:=this S.cs λc hc=>(G.cs c hc).1;omega
 refine dO (ds:=S.cs.map λc=>.list (c.map λb=>bB b.r)) (λi δ=>∃o3 o4,δ=[some A,some (aR S),some (EO ((S.cs.take i).flatten.map fW.nm)),o3,o4]) (fG (i:=1) (by rw[hc];rfl)) ⟨_,_,rfl⟩ ?_ ?_
 .rintro i d δ hk ⟨o3,o4,rfl⟩
  rw[Ò]at hk;let⟨l,hil,rfl⟩:=Option.map_eq_some_iff.mp hk;refine⟨[some A,some (aR S),some (EO ((S.cs.take i).flatten.map fW.nm)),some (.list (l.map λb=>bB b.r)),o4],rfl,?_⟩;have et:(S.cs.take (i+1)).flatten=(S.cs.take i).flatten++l:=by
   rw[List.take_succ,hil];simp
  have hsplit:S.cs.flatten=(S.cs.take i).flatten++l++(S.cs.drop (i+1)).flatten:=by
   rw[<- et,<- List.flatten_append,List.take_append_drop]
  have nb:=G.nb;rw[hsplit]at nb hfl;have lo:=(G.cs l (ä hil)).2;rw[et];generalize (S.cs.take i).flatten=P at *;refine dO (ds:=l.map λb=>bB b.r) (λj δ=>∃o4,δ=[some A,some (aR S),some (EO ((P++l.take j).map fW.nm)),some (.list (l.map λb=>bB b.r)),o4]) (fG (i:=3) rfl) ⟨_,by rw[List.take_zero,Û]⟩ ?_ ?_
  .rintro j d δ hk ⟨o4,rfl⟩
   rw[Ò]at hk;let⟨b,hjb,rfl⟩:=Option.map_eq_some_iff.mp hk;refine⟨[some A,some (aR S),some (EO ((P++l.take j).map fW.nm)),some (.list (l.map λb=>bB b.r)),some (bB b.r)],rfl,?_⟩;have et2:P++l.take (j+1)=P++l.take j++[b]:=by
    rw[List.take_succ,hjb];simp
   have hjl:=(Ó.mp hjb).1;have hni:b.nm∉(P++l.take j).map fW.nm:=by
    have e:P++l++(S.cs.drop (i+1)).flatten=(P++l.take j)++(l.drop j++(S.cs.drop (i+1)).flatten):=by
     rw[List.append_assoc,List.append_assoc,<- List.append_assoc (l.take j),List.take_append_drop]
    rw[e,Ø]at nb;intro z;refine(List.nodup_append.mp nb).2.2 _ z b.nm ?_ rfl;rw[ð hjl];rw[Ç hjl]at hjb;cases hjb;exact Ì
   have hlen:((P++l.take j).map fW.nm).length<=1000:=by
    rw[Â];rw[Î,Î]at hfl;rw[Î,ì];omega
   have e1:=ϭ (lo b (ä hjb)) hni;have e0:bN (bB b.r) (.int 0)=some (.str b.nm):=rfl;have em:(P++l.take j++[b]).map fW.nm=(P++l.take j).map fW.nm++[b.nm]:=by rw[Ø];rfl
   rw[et2,em];generalize (P++l.take j).map fW.nm=zs at *;generalize bB b.r=T at *;dsimp? [e1,e0,wW,JI hni hlen];exact⟨_,rfl⟩
  .rintro δ ⟨o4,rfl⟩
   rw[Â,List.take_length];exact⟨_,_,rfl⟩
 .rintro δ ⟨o3,o4,rfl⟩
  dsimp? []
def JP{α:Type}{f:α->Rw}{l:List α}{t w:Str}(ht:∀a,(f a).1=t):((l.map f).filter λx=>x.1 == w)=if t == w then l.map f else []:=by
 split
 .rename_i h
  rw[List.filter_eq_self];intro x hx;let⟨a,_,rfl⟩:=Æ.mp hx;rw[ht a];exact h
 .rename_i h
  rw[List.filter_eq_nil_iff];intro x hx;let⟨a,_,rfl⟩:=Æ.mp hx;rw[ht a];exact h
def AO{S:dZ}{w:Str}(h1:(Str.ofString "own" == w)=false)(h2:(Str.ofString "bounds" == w)=false):(S.rows.filter λx=>x.1 == w)=(if Str.ofString "stack" == w then S.ss.map (λs=>(("stack",s.r):Rw))else [])++(if Str.ofString "tank" == w then S.ts.map (λs=>(("tank",s.r):Rw))else [])++(if Str.ofString "apart" == w then S.ap.map (λs=>(("apart",s.r):Rw))else [])++(if Str.ofString "box" == w then S.bx else []):=by
 unfold dZ.rows dZ.bx;rw[List.filter_cons,Ã (by rw[h1];decide),List.filter_cons,Ã (by rw[h2];decide),List.filter_append,List.filter_append,List.filter_append,JP (f:=λs:tU=>(("stack",s.r):Rw)) (t:="stack") λ_=>rfl,JP (f:=λs:UR=>(("tank",s.r):Rw)) (t:="tank") λ_=>rfl,JP (f:=λs:VD=>(("apart",s.r):Rw)) (t:="apart") λ_=>rfl,JP (f:=S.pr) (t:="box") λ_=>rfl]
def aE9{S:dZ}:(S.rows.filter λx=>x.1 == Str.ofString "stack")=S.ss.map λs=>(("stack",s.r):Rw):=by
 rw[AO (by decide +kernel) (by decide +kernel),Á (by decide +kernel),Ã (by decide +kernel),Ã (by decide +kernel),Ã (by decide +kernel),Û,Û,Û]
def aFA{S:dZ}:(S.rows.filter λx=>x.1 == Str.ofString "tank")=S.ts.map λs=>(("tank",s.r):Rw):=by
 rw[AO (by decide +kernel) (by decide +kernel),Ã (by decide +kernel),Á (by decide +kernel),Ã (by decide +kernel),Ã (by decide +kernel),Û,Û,List.nil_append]
def aFB{S:dZ}:(S.rows.filter λx=>x.1 == Str.ofString "apart")=S.ap.map λs=>(("apart",s.r):Rw):=by
 rw[AO (by decide +kernel) (by decide +kernel),Ã (by decide +kernel),Ã (by decide +kernel),Á (by decide +kernel),Ã (by decide +kernel),Û,List.nil_append,List.nil_append]
def aFC{S:dZ}:(S.rows.filter λx=>x.1 == Str.ofString "box")=S.bx:=by
 rw[AO (by decide +kernel) (by decide +kernel),Ã (by decide +kernel),Ã (by decide +kernel),Ã (by decide +kernel),Á (by decide +kernel),List.nil_append,List.nil_append,List.nil_append]
def JQ{cs:List (List fW)}(h:∀c∈cs,c.length<=8):∀n,(C8 cs n).length<=8*n
 |0=>by simp[C8]
 |n+1=>by
  unfold C8;rw[Î,Â];have:=JQ h n;have:(cs.getD n []).length<=8:=by
   by_cases hn:n<cs.length
   .exact h _ (bI hn)
   .rw[Ð,Ú (by omega)]
    exact î _
  omega
def dZ.Ok.len{S:dZ}(G:S.Ok):S.rows.length<=60/\2<=S.rows.length:=by
 have h1:=JQ (cs:=S.cs) (λc hc=>(G.cs c hc).1) S.ss.length;have:=G.ls;have:=G.lt;have:=G.la;unfold dZ.rows dZ.bx;simp![Ë,Î,Â];omega
def dZ.Ok.so{S:dZ}(G:S.Ok):∀x∈S.rows,PyData.strOk x.1=true:=λx hx=>by
 let⟨k,hk⟩:=List.getElem?_of_mem hx;exact(G.rowsOk k x hk).o
def v8{S:dZ}(G:S.Ok){w:String}{l:List Rw}(hf:(S.rows.filter λx=>x.1 == Str.ofString w)=l):dJ [.list (S.rows.map pN),.str w]=.ok (.list (l.map λx=>bB x.2)) []:=by
 rw[<- hf];exact UQ (aO _) G.so (by have:=G.len;omega)
def aP8{a:D}{l:ZG}:bN (.list (a::l)) (.int 0)=some a:=by
 show (mT (l.length+1) 0).bind _=_;rw[aM6];rfl
def aP9{a b:D}{l:ZG}:bN (.list (a::b::l)) (.int 1)=some b:=by
 show (mT (l.length+1+1) 1).bind _=_;rw[aM5];rfl
def UV{S:dZ}(G:S.Ok):xP [.list (S.rows.map pN)]=.ok (aT S) []:=by
 have e1:=v8 G aE9;have e2:=v8 G aFA;have e3:=v8 G aFB;rw[Õ]at e1 e2 e3;have e4:bN (.list (S.rows.map pN)) (.int 0)=some (.tuple [.str "own",bB (yH S.own)]):=aP8;have e5:bN (.list (S.rows.map pN)) (.int 1)=some (.tuple [.str "bounds",bB (yH S.bd)]):=aP9;generalize PyData.list (S.rows.map pN)=L at *;refine aY (os:=[]) ?_;show cQ xO [some L] _ _ _ _;unfold xO;dsimp? [aJI,e4,e5,e1,e2,e3];rfl
def PN(k:Nat):ZE->List (D×D)
 |[]=>[]
 |z::zs=>(.str z,.int (k:Int))::PN (k+1) zs
def UW(zs:ZE):D:=.dict (PN 0 zs)
def Ϯ:∀(zs:ZE)(k:Nat),((PN k zs).all λkv=>(eX kv.1).isSome)=true
 |[]=>by intro _;exact rfl
 |z::zs=>by
  intro k;unfold PN;rw[List.all_cons,Ϯ zs (k+1)];rfl
def ϯ:∀(zs:ZE)(k:Nat),(PN k zs).length=zs.length
 |[]=>by intro _;exact rfl
 |z::zs=>by intro k;unfold PN;rw[Ë,Ë,ϯ zs]
def RZ:∀(zs:ZE)(k:Nat)(z:Str),PN k (zs++[z])=PN k zs++[(.str z,.int ((k+zs.length:Nat):Int))]
 |[]=>by intro k z;exact rfl
 |y::zs=>by
  intro k z;rw[List.cons_append];unfold PN;rw[RZ zs (k+1) z,List.cons_append,Ë,show k+1+zs.length=k+(zs.length+1) by omega]
def ϰ{z:Str}:∀(zs:ZE)(k j:Nat),zs.Nodup->zs[j]?=some z->kH (.inr z) (PN k zs)=some (.int ((k+j:Nat):Int))
 |y::zs,k,0,nd,h=>by
  cases h;unfold kH PN;rw[ï];simp[eX]
 |y::zs,k,j+1,nd,h=>by
  have h:zs[j]?=some z:=h;have nd:=Ā.mp nd;have ne:y≠z:=λe=>nd.1 (by rw[e];exact ä h);have ih:=ϰ zs (k+1) j nd.2 h;unfold kH at ih⊢;unfold PN;rw[ï,show decide (eX (PyData.str y)=some (Sum.inr z))=false from decide_eq_false λe=>ne (by cases e;rfl)];rw[show k+(j+1)=k+1+j by omega];exact ih
def ϱ{z:Str}{zs:ZE}{j:Nat}(nd:zs.Nodup)(h:zs[j]?=some z):K9 (.str z) (UW zs)=some (some (.int (j:Int))):=by
 unfold K9 UW;dsimp only;rw[Á (Ϯ zs 0)];show some (kH (.inr z) _)=_;rw[ϰ zs 0 j nd h,Nat.zero_add]
def aNA{z:Str}{zs:ZE}{j:Nat}(nd:zs.Nodup)(h:zs[j]?=some z):qI true (.str z) (UW zs)=some (.bool false):=by
 unfold qI;rw[ϱ nd h];rfl
def aNB{z:Str}{zs:ZE}{j:Nat}(nd:zs.Nodup)(h:zs[j]?=some z):FJ (UW zs) (.str z)=some (.int (j:Int)):=by
 unfold FJ;rw[ϱ nd h]
def aKD{z:Str}{zs:ZE}(hz:z∉zs)(hl:zs.length<=1000):BS (.str z) (.int (zs.length:Int)) (UW zs)=some (UW (zs++[z])):=by
 have hs:sizeLine=16777216:=by decide
 unfold BS UW;dsimp only;show (if _ then _ else _)=_;rw[Á (by rw[ϯ];omega)];unfold TU;have:((PN 0 zs).any λkv=>decide (eX kv.1=some (Sum.inr z)))=false:=by
  have key:∀(zs:ZE)(k:Nat),z∉zs->((PN k zs).any λkv=>decide (eX kv.1=some (Sum.inr z)))=false:=by
   intro zs
   induction zs with
   |nil=>intro _ _;rfl
   |cons y zs ih=>
    intro k h;unfold PN;rw[ó,ih (k+1) λq=>h (É _ q),Bool.or_false];exact decide_eq_false λe=>h (by cases e;exact Ì)
  exact key zs 0 hz
 rw[this,RZ,Nat.zero_add];rfl
def R8(n:Nat)(l:List (Nat×fW)):ZG:=(List.range n).map λk=>.list ((l.filter λp=>p.1 == k).map λp=>bB p.2.r)
def sM{n:Nat}{l:List (Nat×fW)}:(R8 n l).length=n:=by unfold R8;rw[Â,List.length_range]
def DC{n k:Nat}{l:List (Nat×fW)}(h:k<n):(R8 n l)[k]?=some (.list ((l.filter λp=>p.1 == k).map λp=>bB p.2.r)):=by
 unfold R8;rw[Ò,List.getElem?_range h];rfl
def aBD{n:Nat}{l:List (Nat×fW)}{p:Nat×fW}(h:p.1<n):R8 n (l++[p])=(R8 n l).set p.1 (.list ((l.filter λq=>q.1 == p.1).map (λp=>bB p.2.r)++[bB p.2.r])):=by
 apply List.ext_getElem?;intro k;by_cases hk:k<n
 .rw[DC hk]
  by_cases e:p.1=k
  .subst e
   rw[è (by rw[sM];exact h),List.filter_append,Ø];simp
  .rw[Ü e,DC hk,List.filter_append,List.filter_cons,Ã (by simpa using e)]
   simp
 .rw[Ú (by rw[sM];omega),Ú (by rw[à,sM];omega)]
def aFD{S:dZ}(hl:S.cs.length=S.ss.length):R8 S.ss.length (C8 S.cs S.ss.length)=S.cs.map λc=>.list (c.map λb=>bB b.r):=by
 apply List.ext_getElem?;intro k;by_cases hk:k<S.ss.length
 .rw[DC hk,C9,Á hk,Ò,i9 (d:=[]) (by omega),Õ]
  rfl
 .rw[Ú (by rw[sM];omega),Ú (by rw[Â];omega)]
def aKE{S:dZ}(G:S.Ok):uR [aT S,.list (S.rows.map pN)]=.ok (aR S) []:=by
 have lc:=G.lc;have ls:=G.ls;have e24:sizeLine=2^24:=rfl;have eb:=v8 G aFC;refine aY (os:=[]) ?_;show cQ uQ [some (aT S),some (.list (S.rows.map pN)),none,none,none,none,none] _ _ _ _;unfold uQ;have e2:bN (aT S) (.int 2)=some (.list (S.ss.map λs=>bB s.r)):=rfl;generalize aT S=A at *;generalize PyData.list (S.rows.map pN)=L at *;have hI:∀δ:DS,bR (aU bN (aD 0) (dC (.int 2))) (some A::δ)=.ok (S.ss.map λs=>bB s.r) (some A::δ):=λδ=>dY (by dsimp? [e2]);have hE:∀δ:DS,gC (aU bN (aD 0) (dC (.int 2))) (some A::δ)=.ok (eN (S.ss.map λs=>bB s.r)) (some A::δ):=λδ=>by
  have:aU bN (aD 0) (dC (.int 2)) (some A::δ)=.ok (.list (S.ss.map λs=>bB s.r)) (some A::δ):=cY (by dsimp? [e2]);simp![gC,bO,this,bZ]
 dsimp? [];refine bJ.of (eQ (enc:=λs:tU=>bB s.r) (xs:=S.ss) (g:=λ_=>.list []) (hI _) (by omega) λs _=>by dsimp? []) ?_;have ec:(S.ss.map λ_=>PyData.list [])=R8 S.ss.length []:=by
  apply List.ext_getElem?;intro k;by_cases hk:k<S.ss.length
  .rw[DC hk,Ò,Ç hk]
   rfl
  .rw[Ú (by rw[Â];omega),Ú (by rw[sM];omega)]
 rw[ec];dsimp? [];have e0:qA [] []=UW []:=rfl;rw[e0];refine dO (λk δ=>∃o4 o5,δ=[some A,some L,some (.list (R8 S.ss.length [])),some (UW ((S.ss.take k).map tU.nm)),o4,o5,none]) (hE _) ⟨_,_,rfl⟩ ?_ ?_
 .rintro k d δ hk ⟨o4,o5,rfl⟩
  unfold eN at hk;rw[List.getElem?_mapIdx,Ò]at hk;cases hp:S.ss[k]? with
  |none=>rw[hp]at hk;cases hk
  |some s=>
   rw[hp]at hk;cases hk;have hkl:=(Ó.mp hp).1;refine⟨[some A,some L,some (.list (R8 S.ss.length [])),some (UW ((S.ss.take k).map tU.nm)),some (.int (k:Int)),some (bB s.r),none],rfl,?_⟩;have ni:s.nm∉(S.ss.take k).map tU.nm:=by
    have nd:=G.ns;have e:S.ss.map tU.nm=(S.ss.take k).map tU.nm++(S.ss.drop k).map tU.nm:=by rw[<- Ø,List.take_append_drop]
    rw[e]at nd;intro z;refine(List.nodup_append.mp nd).2.2 _ z s.nm ?_ rfl;rw[ð hkl];rw[Ç hkl]at hp;cases hp;exact Ì
   have e3:(S.ss.take (k+1)).map tU.nm=(S.ss.take k).map tU.nm++[s.nm]:=by
    rw[List.take_succ,hp];simp
   have hlen:((S.ss.take k).map tU.nm).length=k:=by
    rw[Â,ì];omega
   have pn:=aKD ni (by rw[hlen];omega);rw[hlen]at pn;rw[e3];have i0:bN (bB s.r) (.int 0)=some (.str s.nm):=rfl;generalize bB s.r=T at *;dsimp? [i0,wW,pn];exact⟨_,_,rfl⟩
 .rintro δ ⟨o4,o5,rfl⟩
  have el:(eN (S.ss.map λs=>bB s.r)).length=S.ss.length:=by rw[i7,Â]
  rw[el,List.take_length];generalize hZ:S.ss.map tU.nm=zs at *;dsimp? [];have hB:∀δ:DS,bR (aM dJ [.val (aD 1),.val (dC (.str "box"))]) (some A::some L::δ)=.ok (S.bx.map λx=>bB x.2) (some A::some L::δ):=λδ=>dY (by dsimp? [eb]);refine dO (λm δ=>∃o6,δ=[some A,some L,some (.list (R8 S.ss.length ((C8 S.cs S.ss.length).take m))),some (UW zs),o4,o5,o6]) (hB _) ⟨_,rfl⟩ ?_ ?_
  .rintro m d δ hk ⟨o6,rfl⟩
   unfold dZ.bx at hk;rw[Ò,Ò]at hk;cases hp:(C8 S.cs S.ss.length)[m]? with
   |none=>rw[hp]at hk;cases hk
   |some p=>
    rw[hp]at hk;cases hk;refine⟨[some A,some L,some (.list (R8 S.ss.length ((C8 S.cs S.ss.length).take m))),some (UW zs),o4,o5,some (bB (S.pr p).2)],rfl,?_⟩;let⟨h1,h2⟩:=JO (ä hp);have hz:zs[p.1]?=some (S.ss.getD p.1 mD).nm:=by
     rw[<- hZ,Ò,i9 (d:=mD) h1];rfl
    have nd:=G.ns;rw[hZ]at nd;have et:(C8 S.cs S.ss.length).take (m+1)=(C8 S.cs S.ss.length).take m++[p]:=by
     rw[List.take_succ,hp];rfl
    have hpl:((C8 S.cs S.ss.length).take m).length<=100:=by
     have:=JQ (cs:=S.cs) (λc hc=>(G.cs c hc).1) S.ss.length;rw[ì];omega
    have i0:bN (bB (S.pr p).2) (.int 0)=some (.str (S.ss.getD p.1 mD).nm):=rfl;have i1:vB (bB (S.pr p).2) (some 1) none=some (bB p.2.r):=rfl;rw[et,aBD h1];generalize (C8 S.cs S.ss.length).take m=l at *;have c1:=DC (l:=l) h1;have c2:mT (R8 S.ss.length l).length (p.1:Int)=some p.1:=ixN_of (by rw[sM];exact h1);have fl:((l.filter λq=>q.1 == p.1).map λp=>bB p.2.r).length<sizeLine:=by
     rw[Â];have:=List.length_filter_le (λq:Nat×fW=>q.1 == p.1) l;omega
    generalize bB (S.pr p).2=T at *;generalize R8 S.ss.length l=C at *;have eh:N1 [0,0,2,30,0,0,0] [some A,some L,some (.list C),some (UW zs),o4,o5,some T]=[some A,some L,none,none,o4,o5,some T]:=rfl;dsimp? [i0,wQ,aNA nd hz,N4,aNB nd hz,YJ c2 c1,eh,BF,mZ,lB,s9,i1,YK];exact⟨fl,_,rfl⟩
  .rintro δ ⟨o6,rfl⟩
   have el:(S.bx.map λx=>bB x.2).length=(C8 S.cs S.ss.length).length:=by unfold dZ.bx;rw[Â,Â]
   rw[el,List.take_length,aFD lc];dsimp? [N0];rfl
def aFE{S:dZ}(G:S.Ok):rM [.str (eR S.rows)]=.ok (.tuple [aT S,aR S]) []:=by
 have e1:kP [.str (eR S.rows)]=.ok (.list (S.rows.map pN)) []:=by
  have hl:=G.len;have hr:S.rows=(Str.ofString "own",yH S.own)::S.rows.tail:=rfl;have ht:S.rows.length=S.rows.tail.length+1:=rfl;rw[hr];exact aA4 (λk x h=>G.rowsOk k x h) (by omega) (by omega)
 have e2:=UV G;have e3:=aA7 G;have e4:=aKE G;have e5:=MQ G;refine aY (os:=[]) ?_;show cQ rL [some (.str (eR S.rows)),none,none,none] _ _ _ _;unfold rL;dsimp? [e1,e2,e3,e4,e5]
end Toy
namespace L2
open PySem PySem.Spec
def aNC{n:Nat}{k:Int}(h0:0<=k)(h1:k<n):mT n k=some k.toNat:=by
 unfold mT;rw[Á ∅,Á ∅]
def aFF{c:Nat}(h:c<1000):PyData.strOk ⟨#[c]⟩=true:=by
 show (#[c]:Array Nat).all (·<0x110000)=true;simp;lia
end L2
namespace Toy
open PySem L2
abbrev iL(ns:ZI):D:=.list (ns.map PyData.int)
def aFG{ns:ZI}{k:Nat}(h:k<ns.length):atI (ns.map PyData.int) (k:Int)=some (.int (ns.getD k 0)):=by
 refine jR ?_;rw[Ò,Ç h,Ð,Ç h];rfl
section
variable{ns:ZI}{k m n:Int}
def cell(ns:ZI)(k:Int):Int:=ns.getD k.toNat 0
def JR(h0:0<=k):j3 [iL ns,.int k]=.ok (.int (cell ns k)) []:=by
 refine aY (os:=[]) ?_;show cQ rR [some (iL ns),some (.int k)] _ _ _ _;unfold rR;by_cases h:k<(ns.length:Int)
 .have e:k=(k.toNat:Int):=by lia
  have e2:=aFG (ns:=ns) (k:=k.toNat) ∅;rw[<- e]at e2;dsimp? [Â,h,decide_true,e2,cell]
 .have e:cell ns k=0:=by unfold cell;rw[Ð,Ú ∅];rfl
  dsimp? [Â,h,decide_false,Bool.false_eq_true,e]
def dr(ns:ZI)(k m:Int):Int:=(cell ns k % 1000003+k*k)*48271 % 999983 % m
def ot(ns:ZI)(k m:Int):Int:=(cell ns k % 1000033+7*k+1)*69621 % 1000003 % m
def th(ns:ZI)(k m:Int):Int:=(cell ns k % 1000037+11*k+5)*16807 % 999979 % m
def jA(h:0<m):0<=dr ns k m/\dr ns k m<m:=⟨Int.emod_nonneg _ ∅,Int.emod_lt_of_pos _ h⟩
def l9(h:0<m):0<=ot ns k m/\ot ns k m<m:=⟨Int.emod_nonneg _ ∅,Int.emod_lt_of_pos _ h⟩
def mS(h:0<m):0<=th ns k m/\th ns k m<m:=⟨Int.emod_nonneg _ ∅,Int.emod_lt_of_pos _ h⟩
def rV(h0:0<=k)(h1:k<=1000)(h:0<m):eO [iL ns,.int k,.int m]=.ok (.int (dr ns k m)) []:=by
 refine aY (os:=[]) ?_;show cQ CP [some (iL ns),some (.int k),some (.int m)] _ _ _ _;unfold CP;dsimp? [JR h0,KM,Int.reduceLT,h,dr];exact⟨by ac_nf,by ac_nf⟩
def pW(h0:0<=k)(h1:k<=1000)(h:0<m):dE [iL ns,.int k,.int m]=.ok (.int (ot ns k m)) []:=by
 refine aY (os:=[]) ?_;show cQ xR [some (iL ns),some (.int k),some (.int m)] _ _ _ _;unfold xR;dsimp? [JR h0,KM,Int.reduceLT,h,ot];exact⟨by ac_nf,by ac_nf⟩
def tW(h0:0<=k)(h1:k<=1000)(h:0<m):cX [iL ns,.int k,.int m]=.ok (.int (th ns k m)) []:=by
 refine aY (os:=[]) ?_;show cQ xS [some (iL ns),some (.int k),some (.int m)] _ _ _ _;unfold xS;dsimp? [JR h0,KM,Int.reduceLT,h,th];exact⟨by ac_nf,by ac_nf⟩
def mE(i:Int):Str:=⟨#[97+i.toNat]⟩
def aBE:∀n<26,(match bN (.str "abcdefghijklmnopqrstuvwxyz") (.int (n:Nat))with|some (.str z)=>z.cps == #[97+n]|_=>false)=true:=by decide +kernel
def AQ{i:Int}(h0:0<=i)(h1:i<26):bN (.str "abcdefghijklmnopqrstuvwxyz") (.int i)=some (.str (mE i))/\(mE i).length=1/\PyData.strOk (mE i)=true:=by
 refine⟨?_,rfl,aFF ∅⟩;have h:=aBE i.toNat ∅;rw[Int.toNat_of_nonneg h0]at h;split at h
 .rename_i z e
  rw[e];unfold mE;congr 2;cases z;exact congrArg Str.mk (beq_iff_eq.mp h)
 .cases h
def nm(ns:ZI)(k n:Int):Str:=
 lC (mE (dr ns k 26)) (ot ns k (1+th ns k 8))++mE ((7*n+ot ns (k+1) 26) % 26)++lC (mE (dr ns k 26)) (1+th ns k 8-1-ot ns k (1+th ns k 8))
def aBF:(mE (dr ns k 26)).length=1/\PyData.strOk (mE (dr ns k 26))=true/\(mE ((7*n+ot ns (k+1) 26) % 26)).length=1/\PyData.strOk (mE ((7*n+ot ns (k+1) 26) % 26))=true:=by
 have h1:=jA (ns:=ns) (k:=k) (m:=26) ⋯;have a:=AQ h1.1 h1.2;have b:=AQ (i:=(7*n+ot ns (k+1) 26) % 26) ∅ ∅;exact⟨a.2.1,a.2.2,b.2.1,b.2.2⟩
def R9(h0:0<=k)(h1:k<=900)(n0:0<=n)(n1:n<=1000){j:Int}(hj:ot ns 12 3=1/\k=14\/ot ns 12 3≠1/\k=j):gD [iL ns,.int j,.int n]=.ok (.str (nm ns k n)) []:=by
 refine aY (os:=[]) ?_;show cQ CQ [some (iL ns),some (.int j),some (.int n),none,none,none,none,none] _ _ _ _;unfold CQ;have e0:=pW (ns:=ns) (k:=12) (m:=3) ⋯ ⋯ ⋯;have t1:=mS (ns:=ns) (k:=k) (m:=8) ⋯;have t2:=l9 (ns:=ns) (k:=k) (m:=1+th ns k 8) ∅;have t3:=jA (ns:=ns) (k:=k) (m:=26) ⋯;have p1:=AQ t3.1 t3.2;have p2:=AQ (i:=(7*n+ot ns (k+1) 26) % 26) ∅ ∅;have e1:=tW (ns:=ns) (k:=k) (m:=8) h0 ∅ ⋯;have e2:=pW (ns:=ns) (k:=k) (m:=1+th ns k 8) h0 ∅ ∅;have e3:=rV (ns:=ns) (k:=k) (m:=26) h0 ∅ ⋯;have e4:=pW (ns:=ns) (k:=k+1) (m:=26) ∅ ∅ ⋯;have en:nm ns k n=lC (mE (dr ns k 26)) (ot ns k (1+th ns k 8))++mE ((7*n+ot ns (k+1) 26) % 26)++lC (mE (dr ns k 26)) (1+th ns k 8-1-ot ns k (1+th ns k 8)):=rfl;rw[en];clear en;generalize mE (dr ns k 26)=x at *;generalize mE ((7*n+ot ns (k+1) 26) % 26)=y at *;have l1:=qG (x:=x) (n:=ot ns k (1+th ns k 8));have l2:=qG (x:=x) (n:=1+th ns k 8-1-ot ns k (1+th ns k 8));have r1:=ϔ (i:=x) (n:=ot ns k (1+th ns k 8)) ∅ ∅ ∅;have r2:=ϔ (i:=x) (n:=1+th ns k 8-1-ot ns k (1+th ns k 8)) ∅ ∅ ∅;rw[p1.2.1,Nat.mul_one]at l1 l2;have s1:=fU (x:=lC x (ot ns k (1+th ns k 8))) (y:=y) ∅;have l3:(lC x (ot ns k (1+th ns k 8))++y).length=_:=bS;have s2:=fU (x:=lC x (ot ns k (1+th ns k 8))++y) (y:=lC x (1+th ns k 8-1-ot ns k (1+th ns k 8))) ∅;rcases hj with ⟨c,rfl⟩|⟨c,rfl⟩
 .dsimp? [e0,e1,e2,e3,e4,p1.1,p2.1,KM,Int.reduceLT,r1,r2,s1,s2,TF,c,decide_true]
  exact(by ac_nf)
 .dsimp? [e0,e1,e2,e3,e4,p1.1,p2.1,KM,Int.reduceLT,r1,r2,s1,s2,TF,c,decide_false,Bool.false_eq_true]
  exact(by ac_nf)
def nx(ns:ZI)(k:Int):Int:=if ot ns 12 3=1 then 14 else k
def j7(h0:0<=k)(h1:k<=900)(n0:0<=n)(n1:n<=1000):gD [iL ns,.int k,.int n]=.ok (.str (nm ns (nx ns k) n)) []:=by
 unfold nx;split
 .rename_i c
  exact R9 ⋯ ⋯ n0 n1 (.inl ⟨c,rfl⟩)
 .rename_i c
  exact R9 h0 h1 n0 n1 (.inr ⟨c,rfl⟩)
def p6(ns:ZI):Int:=if dr ns 0 4=2 then 997 else if dr ns 0 4=3 then 1000000 else 1
def rW:1<=p6 ns/\p6 ns<=1000000:=by
 unfold p6;split
 .decide
 .split<;>decide
def aQA:WL (.int 10) (.int 6)=some (.int 1000000):=by
 rw[aDJ (aP1 ∅ ∅ ⋯)];rfl
def rX:kW [iL ns]=.ok (.int (p6 ns)) []:=by
 refine aY (os:=[]) ?_;show cQ xT [some (iL ns)] _ _ _ _;unfold xT;have t:=jA (ns:=ns) (k:=0) (m:=4) ⋯;have e:atI [PyData.int 1,.int 1,.int 997,.int 1000000] (dr ns 0 4)=some (.int (p6 ns)):=by
  unfold p6;have:dr ns 0 4=0\/dr ns 0 4=1\/dr ns 0 4=2\/dr ns 0 4=3:=by lia
  rcases this with z|z|z|z<;>rw[z]<;>rfl
 dsimp? [aQA,rV,Int.reduceLE,Int.reduceLT,e]
def kd(ns:ZI)(n:Int):Int:=if th ns (20+n) 6=4 then 1 else if th ns (20+n) 6=5 then 2 else 0
def ĕ(ns:ZI)(n:Int):Int:=if p6 ns*ot ns (21+n) 90>9*p6 ns then p6 ns*ot ns (21+n) 90+40*p6 ns else p6 ns*ot ns (21+n) 90
end
def DD{i:Int}(_:0<=i)(_:i<26):mE i=⟨#[97+i.toNat]⟩:=rfl
def SA{p:Nat->Bool}{x y:Str}(hx:x.cps.toList.all p=true)(hy:y.cps.toList.all p=true):(x++y).cps.toList.all p=true:=by
 show ((x.cps++y.cps).toList).all p=true;rw[Array.toList_append,List.all_append,hx,hy];rfl
def SB{p:Nat->Bool}{x:Array Nat}(hx:x.toList.all p=true):∀(n:Nat)(a:Array Nat),a.toList.all p=true->((List.replicate n x).foldl (·++·) a).toList.all p=true
 |0=>by intro _ h;exact h
 |n+1=>by
  intro a h;rw[List.replicate_succ,List.foldl_cons];exact SB hx n _ (by rw[Array.toList_append,List.all_append,h,hx];rfl)
def ϲ{i:Int}(h0:0<=i)(h1:i<26):(mE i).cps.toList.all ù=true:=by
 rw[DD h0 h1];simp![List.all_cons,List.all_nil,Bool.and_true,ù];exact decide_eq_true ∅
section
variable{ns:ZI}{k n m:Int}
def nO:vZ (nm ns k n)=true:=by
 let⟨a1,a2,b1,b2⟩:=aBF (ns:=ns) (k:=k) (n:=n);have h1:=mS (ns:=ns) (k:=k) (m:=8) ⋯;have h2:=l9 (ns:=ns) (k:=k) (m:=1+th ns k 8) ∅;have h3:=jA (ns:=ns) (k:=k) (m:=26) ⋯;have e1:=ϲ h3.1 h3.2;have e2:=ϲ (i:=(7*n+ot ns (k+1) 26) % 26) ∅ ∅;have r:∀j,(lC (mE (dr ns k 26)) j).cps.toList.all ù=true:=λj=>SB e1 _ _ rfl;have l:(nm ns k n).length=_:=bS;rw[bS,qG,qG,a1,b1]at l;unfold vZ;rw[decide_eq_true ∅,show (nm ns k n).cps.toList.all ù=true from SA (SA (r _) e2) (r _)];rfl
def ϳ(n0:0<=n)(n1:n<26)(m0:0<=m)(m1:m<26)(h:nm ns k n=nm ns k m):n=m:=by
 have cv:(nm ns k n).cps.toList=(nm ns k m).cps.toList:=by rw[h]
 have e:∀j,(nm ns k j).cps.toList=(lC (mE (dr ns k 26)) (ot ns k (1+th ns k 8))).cps.toList++(mE ((7*j+ot ns (k+1) 26) % 26)).cps.toList++(lC (mE (dr ns k 26)) (1+th ns k 8-1-ot ns k (1+th ns k 8))).cps.toList:=λj=>by
  show ((_++_:Array Nat)++_).toList=_;rw[Array.toList_append,Array.toList_append]
 rw[e,e]at cv;have cv:=List.append_cancel_left (List.append_cancel_right cv);rw[DD ∅ ∅,DD ∅ ∅]at cv;have cv:97+((7*n+ot ns (k+1) 26) % 26).toNat=97+((7*m+ot ns (k+1) 26) % 26).toNat:=(List.cons.inj cv).1;clear e h;generalize ot ns (k+1) 26=c at *;have q:(7*n+c) % 26=(7*m+c) % 26:=by lia
 have h1:7*(n-m)=26*((7*n+c)/26-(7*m+c)/26):=by lia
 generalize (7*n+c)/26-(7*m+c)/26=t at *;have h2:n-m=26*(15*t-4*(n-m)):=by lia
 generalize 15*t-4*(n-m)=u at *;lia
def uX{x m:Int}(h0:0<=x)(h1:x<=m)(hm:m<=1000):0<=p6 ns*x/\p6 ns*x<=1000000000:=by
 have s:=rW (ns:=ns);have a:=Int.mul_nonneg (show 0<=p6 ns by lia) h0;have b:=Int.mul_le_mul s.2 (show x<=1000 by lia) h0 ⋯;exact⟨a,∅⟩
def v9{x:Int}(h:1<=x):1<=p6 ns*x:=Int.mul_pos (a:=p6 ns) (b:=x) (by have:=rW (ns:=ns);lia) h
end
section
variable{ns:ZI}{n m:Int}
def ł(ns:ZI)(s:Int):tU:=⟨nm ns (nx ns 14) s,dr ns (2+s) 21-10,ot ns (2+s) 21-10,th ns (2+s) 5,1+dr ns (6+s) 3,2+th ns (6+s) 5,p6 ns*(30+ot ns (6+s) 60)⟩
def Ń(ns:ZI)(s:Int):UR:=⟨nm ns (nx ns 15) s,dr ns (10+s) 81-40,ot ns (10+s) 81-40,th ns (10+s) 5-2,p6 ns*(1+dr ns (13+s) 60)⟩
def ϴ(ns:ZI)(s:Int):VD:=⟨nm ns (nx ns 18) (dr ns (17+s) 3),nm ns (nx ns 18) (ot ns (17+s) 3),1+th ns (17+s) 9⟩
def SD(ns:ZI)(n:Int):fW:=⟨nm ns (nx ns 16) n,p6 ns*(1+dr ns (20+n) 20),nm ns (nx ns 17) (ot ns (20+n) 4),nm ns (nx ns 18) (kd ns n),ĕ ns n⟩
def Ů(ns:ZI):ZI:=[p6 ns*(40+dr ns 13 80),ot ns 13 7-3,th ns 13 5-2,2]
def ů(ns:ZI):ZI:=[0-(1+th ns 14 6),1+th ns 14 6,0-(1+th ns 15 6),1+th ns 15 6+dr ns 15 2,4+th ns 0 9,p6 ns*(120+ot ns 0 200)]
def č(ns:ZI):Nat:=if th ns 1 5=3 then 1 else if th ns 1 5=4 then 2 else 0
def nP(ns:ZI)(cs:List (List fW)):dZ:=⟨Ů ns,ů ns,(List.range (1+dr ns 1 4).toNat).map λk:Nat=>ł ns (k:Int),(List.range (ot ns 1 4).toNat).map λk:Nat=>Ń ns (k:Int),(List.range (č ns)).map λk:Nat=>ϴ ns (k:Int),cs⟩
def aND(n0:0<=n)(n1:n<=100):xV [iL ns,.int n]=.ok (bB (ł ns n).r) []:=by
 refine aY (os:=[]) ?_;show cQ xU [some (iL ns),some (.int n),none,none,none,none,none] _ _ _ _;unfold xU;have s:=rW (ns:=ns);have e1:=λm(h:0<m)=>rV (ns:=ns) (k:=2+n) (m:=m) ∅ ∅ h;have e2:=λm(h:0<m)=>pW (ns:=ns) (k:=2+n) (m:=m) ∅ ∅ h;have e3:=λm(h:0<m)=>tW (ns:=ns) (k:=6+n) (m:=m) ∅ ∅ h;have e4:=λm(h:0<m)=>pW (ns:=ns) (k:=6+n) (m:=m) ∅ ∅ h;have e5:=λm(h:0<m)=>tW (ns:=ns) (k:=2+n) (m:=m) ∅ ∅ h;have e6:=λm(h:0<m)=>rV (ns:=ns) (k:=6+n) (m:=m) ∅ ∅ h;have n3:=j7 (ns:=ns) (k:=14) (n:=n) ⋯ ⋯ ∅ ∅;dsimp? [rX,e1,e2,e3,e4,e5,e6,n3,Int.reduceLT];exact⟨by ac_nf,rfl⟩
def aNE(n0:0<=n)(n1:n<=100):CT [iL ns,.int n]=.ok (bB (Ń ns n).r) []:=by
 refine aY (os:=[]) ?_;show cQ CS [some (iL ns),some (.int n),none,none,none] _ _ _ _;unfold CS;have s:=rW (ns:=ns);have e1:=λm(h:0<m)=>rV (ns:=ns) (k:=10+n) (m:=m) ∅ ∅ h;have e2:=λm(h:0<m)=>pW (ns:=ns) (k:=10+n) (m:=m) ∅ ∅ h;have e5:=λm(h:0<m)=>tW (ns:=ns) (k:=10+n) (m:=m) ∅ ∅ h;have e6:=λm(h:0<m)=>rV (ns:=ns) (k:=13+n) (m:=m) ∅ ∅ h;have n3:=j7 (ns:=ns) (k:=15) (n:=n) ⋯ ⋯ ∅ ∅;dsimp? [rX,e1,e2,e5,e6,n3,Int.reduceLT];exact⟨by ac_nf,rfl⟩
def SE(n0:0<=n)(n1:n<=100):vX [iL ns,.int n]=.ok (bB (SD ns n).r) []:=by
 refine aY (os:=[]) ?_;show cQ I9 [some (iL ns),some (.int n),none,none,none,none] _ _ _ _;unfold I9;have s:=rW (ns:=ns);have t1:=l9 (ns:=ns) (k:=20+n) (m:=4) ⋯;have t2:=mS (ns:=ns) (k:=20+n) (m:=6) ⋯;have t3:=l9 (ns:=ns) (k:=21+n) (m:=90) ⋯;have t4:=jA (ns:=ns) (k:=20+n) (m:=20) ⋯;have e1:=pW (ns:=ns) (k:=20+n) (m:=4) ∅ ∅ ⋯;have e2:=tW (ns:=ns) (k:=20+n) (m:=6) ∅ ∅ ⋯;have e3:=pW (ns:=ns) (k:=21+n) (m:=90) ∅ ∅ ⋯;have e4:=rV (ns:=ns) (k:=20+n) (m:=20) ∅ ∅ ⋯;have ek:atI [PyData.int 0,.int 0,.int 0,.int 0,.int 1,.int 2] (th ns (20+n) 6)=some (.int (kd ns n)):=by
  unfold kd;have:th ns (20+n) 6=0\/th ns (20+n) 6=1\/th ns (20+n) 6=2\/th ns (20+n) 6=3\/th ns (20+n) 6=4\/th ns (20+n) 6=5:=by lia
  rcases this with z|z|z|z|z|z<;>rw[z]<;>rfl
 have k0:0<=kd ns n/\kd ns n<=2:=by unfold kd;split<;>(try split)<;>lia
 have n1:=j7 (ns:=ns) (k:=17) (n:=ot ns (20+n) 4) ⋯ ⋯ ∅ ∅;have n2:=j7 (ns:=ns) (k:=18) (n:=kd ns n) ⋯ ⋯ ∅ ∅;have n3:=j7 (ns:=ns) (k:=16) (n:=n) ⋯ ⋯ ∅ ∅;have er:bB (SD ns n).r=.tuple [.str (nm ns (nx ns 16) n),.int (p6 ns*(1+dr ns (20+n) 20)),.str (nm ns (nx ns 17) (ot ns (20+n) 4)),.str (nm ns (nx ns 18) (kd ns n)),.int (ĕ ns n)]:=rfl;rw[er];by_cases c:p6 ns*ot ns (21+n) 90>9*p6 ns
 .have eb:ĕ ns n=p6 ns*ot ns (21+n) 90+40*p6 ns:=Á c
  have c':9*p6 ns<p6 ns*ot ns (21+n) 90:=c;dsimp? [rX,e1,e2,e3,e4,ek,n1,n2,n3,c',decide_true,eb];exact⟨by ac_nf,by ac_nf,by ac_nf,by ac_nf⟩
 .have eb:ĕ ns n=p6 ns*ot ns (21+n) 90:=Ã c
  have c':¬9*p6 ns<p6 ns*ot ns (21+n) 90:=c;dsimp? [rX,e1,e2,e3,e4,ek,n1,n2,n3,c',decide_false,Bool.false_eq_true,eb];exact⟨by ac_nf,by ac_nf,by ac_nf⟩
def aFH{cs:List (List fW)}:vW [iL ns]=.ok (aT (nP ns cs)) []:=by
 refine aY (os:=[]) ?_;show cQ CU [some (iL ns),none,none,none,none,none,none,none,none,none,none,none,none] _ _ _ _;unfold CU;have hz:sizeLine=2^24:=rfl;have s:=rW (ns:=ns);have q1:=jA (ns:=ns) (k:=1) (m:=4) ⋯;have q2:=l9 (ns:=ns) (k:=1) (m:=4) ⋯;have q3:=mS (ns:=ns) (k:=1) (m:=5) ⋯;have d0:=jA (ns:=ns) (k:=13) (m:=80) ⋯;have d7:=l9 (ns:=ns) (k:=0) (m:=200) ⋯;rw[L2.seq_assoc,L2.seq_assoc,L2.seq_assoc,L2.seq_assoc,L2.seq_assoc];refine rT (λδ=>∃(o1 o3 o4 o5:ZJ),δ=[some (iL ns),o1,some (bB (yH (Ů ns))),o3,o4,o5,some (bB (yH (ů ns))),none,none,none,none,none,none]) ?_ ?_
 .refine Ϥ λK _ _ _ hK _=>?_
  dsimp? [rX,rV,pW,tW,Int.reduceLE,Int.reduceLT];exact⟨by ac_nf,by ac_nf,hK _ ⟨_,_,_,_,rfl⟩⟩
 rintro δ ⟨o1,o3,o4,o5,rfl⟩;dsimp? [];refine bJ.of (KN (n:=1+dr ns 1 4) (g:=λk=>bB (ł ns (k:Int)).r) (gR (by dsimp? [rV,Int.reduceLE,Int.reduceLT])) ∅ ∅ λk hk=>by dsimp? [aND (ns:=ns) (n:=(k:Int)) ∅ ∅]) ?_;dsimp? [];refine bJ.of (KN (n:=ot ns 1 4) (g:=λk=>bB (Ń ns (k:Int)).r) (gR (by dsimp? [pW,Int.reduceLE,Int.reduceLT])) ∅ ∅ λk hk=>by dsimp? [aNE (ns:=ns) (n:=(k:Int)) ∅ ∅]) ?_;dsimp? [];have er:atI [PyData.int 0,.int 0,.int 0,.int 1,.int 2] (th ns 1 5)=some (.int (č ns:Int)):=by
  unfold č;have:th ns 1 5=0\/th ns 1 5=1\/th ns 1 5=2\/th ns 1 5=3\/th ns 1 5=4:=by lia
  rcases this with z|z|z|z|z<;>rw[z]<;>rfl
 have a2:č ns<=2:=by unfold č;split<;>(try split)<;>lia
 refine BE (j:=č ns) (δ1:=_) (λk δ=>∃(p1 p2 p3:ZJ),δ=[some (iL ns),o1,some (bB (yH (Ů ns))),o3,o4,o5,some (bB (yH (ů ns))),some (.list ((List.range (1+dr ns 1 4).toNat).map λk:Nat=>bB (ł ns (k:Int)).r)),some (.list ((List.range (ot ns 1 4).toNat).map λk:Nat=>bB (Ń ns (k:Int)).r)),some (.list ((List.range k).map λk:Nat=>bB (ϴ ns (k:Int)).r)),p1,p2,p3]) (cY (by dsimp? [tW,Int.reduceLE,Int.reduceLT,er];rfl)) ∅ ⟨none,none,none,rfl⟩ ?_ ?_
 .rintro k δ hk ⟨p1,p2,p3,rfl⟩
  refine⟨_,rfl,?_⟩;refine Ϥ λK _ _ _ hK _=>?_;have d1:=jA (ns:=ns) (k:=17+(k:Int)) (m:=3) ⋯;have d2:=l9 (ns:=ns) (k:=17+(k:Int)) (m:=3) ⋯;have e1:=rV (ns:=ns) (k:=17+(k:Int)) (m:=3) ∅ ∅ ⋯;have e2:=pW (ns:=ns) (k:=17+(k:Int)) (m:=3) ∅ ∅ ⋯;have e3:=tW (ns:=ns) (k:=17+(k:Int)) (m:=9) ∅ ∅ ⋯;have n1:=j7 (ns:=ns) (k:=18) (n:=dr ns (17+(k:Int)) 3) ⋯ ⋯ ∅ ∅;have n2:=j7 (ns:=ns) (k:=18) (n:=ot ns (17+(k:Int)) 3) ⋯ ⋯ ∅ ∅;dsimp?! [e1,e2,e3,n1,n2,Â,List.length_range];exact⟨∅,hK _ ⟨_,_,_,by rw[List.range_succ,Ø];rfl⟩⟩
 .rintro δ ⟨p1,p2,p3,rfl⟩
  dsimp? [];unfold aT nP;simp![Õ];rfl
end
abbrev c8(c:List fW):D:=.list (c.map λb=>bB b.r)
def GG{x:fW}:∀{cs:List (List fW)}{j:Nat}(h:j<cs.length),((cs.set j (cs[j]++[x])).flatten).Perm (cs.flatten++[x])
 |c::cs,0,h=>by
  rw[List.set_cons_zero,List.flatten_cons,List.flatten_cons,List.getElem_cons_zero,List.append_assoc,List.append_assoc];exact List.Perm.append_left c List.perm_append_comm
 |c::cs,j+1,h=>by
  rw[List.set_cons_succ,List.flatten_cons,List.flatten_cons,List.getElem_cons_succ,List.append_assoc];exact List.Perm.append_left c (GG (Nat.lt_of_succ_lt_succ h))
section
variable{ns:ZI}{n m:Int}
def ϵ(n0:0<=n):(SD ns n).Ok:=by
 have s:=rW (ns:=ns);have t:=jA (ns:=ns) (k:=20+n) (m:=20) ⋯;have o:=l9 (ns:=ns) (k:=21+n) (m:=90) ⋯;have a:=uX (ns:=ns) (m:=20) (x:=1+dr ns (20+n) 20) ∅ ∅ ⋯;have b:=uX (ns:=ns) (m:=90) o.1 ∅ ⋯;refine⟨nO,⟨v9 ∅,by show _<=p6 ns*(1+dr ns (20+n) 20);lia,a.2⟩,nO,nO,?_⟩;show 0<=ĕ ns n/\Nm (ĕ ns n);have c:=uX (ns:=ns) (m:=130) (x:=ot ns (21+n) 90+40) ∅ ∅ ⋯;have e:p6 ns*(ot ns (21+n) 90+40)=p6 ns*ot ns (21+n) 90+40*p6 ns:=by rw[Int.mul_add,Int.mul_comm 40]
 rw[e]at c;unfold ĕ Nm;split<;>lia
def UX{cs0:List (List fW)}(m0:0<=m)(m1:m<=8):∃r,sH [iL ns,aT (nP ns cs0),.int m]=.ok r []/\∃cs:List (List fW),r=.list (cs.map c8)/\cs.length=(1+dr ns 1 4).toNat/\(∀c∈cs,c.length<=8)/\cs.flatten.Perm ((List.range m.toNat).map λi:Nat=>SD ns (i:Int)):=by
 refine FC ?_;have hz:sizeLine=2^24:=rfl;have q1:=jA (ns:=ns) (k:=1) (m:=4) ⋯;have i2:bN (aT (nP ns cs0)) (.int 2)=some (.list ((nP ns cs0).ss.map λs=>bB s.r)):=rfl;have ls:((nP ns cs0).ss.map λs=>bB s.r).length=(1+dr ns 1 4).toNat:=by rw[Â];show (List.map _ _).length=_;rw[Â,List.length_range]
 generalize aT (nP ns cs0)=sh at *;generalize (nP ns cs0).ss.map (λs=>bB s.r)=ss at *;show cQ xW [some (iL ns),some sh,some (.int m),none,none] _ _ _ _;unfold xW;dsimp? [];refine bJ.of (eQ (enc:=id) (xs:=ss) (g:=λ_=>.list []) (dY (by dsimp? [List.map_id,i2])) ∅ λx _=>by dsimp? []) ?_;dsimp? [];refine Q1 (j:=m) (δ1:=_) (λk δ=>∃(cs:List (List fW))(o4:ZJ),δ=[some (iL ns),some sh,some (.int m),some (.list (cs.map c8)),o4]/\cs.length=ss.length/\(∀c∈cs,c.length<=k)/\cs.flatten.Perm ((List.range k).map λi:Nat=>SD ns (i:Int))) (cY (by dsimp? [];rfl)) ∅ ∅ ⟨ss.map λ_=>[],none,?_,by simp,λc hc=>?_,?_⟩ ?_ ?_
 .simp
 .obtain⟨_,_,rfl⟩:=Æ.mp hc
  simp
 .simp
 .rintro k δ hk ⟨cs,o4,rfl,lc,gc,pc⟩
  refine⟨_,rfl,?_⟩;have t1:=mS (ns:=ns) (k:=21+(k:Int)) (m:=(cs.length:Int)) ∅;have e1:=tW (ns:=ns) (k:=21+(k:Int)) (m:=(cs.length:Int)) ∅ ∅ ∅;have e2:=SE (ns:=ns) (n:=(k:Int)) ∅ ∅;generalize th ns (21+(k:Int)) (cs.length:Int)=j at *;have hj:j.toNat<cs.length:=by lia
  have eh:N1 [0,0,0,2,0] [some (iL ns),some sh,some (.int m),some (.list (cs.map c8)),some (.int (k:Int))]=[some (iL ns),some sh,some (.int m),none,some (.int (k:Int))]:=rfl;have ea:(cs.map c8)[j.toNat]?=some (.list ((cs[j.toNat]).map λb=>bB b.r)):=by rw[Ò,Ç hj];rfl
  have gj:=gc _ (List.getElem_mem hj);dsimp? [N4,Â,e1,YJ (aNC (n:=(cs.map c8).length) (k:=j) t1.1 (by rw[Â];exact t1.2)) ea,eh,e2,YK];refine⟨∅,?_⟩;refine⟨cs.set j.toNat (cs[j.toNat]++[SD ns (k:Int)]),some (.int (k:Int)),?_,by rw[à];exact lc,λc hc=>?_,?_⟩
  .rw[List.map_set,show c8 (cs[j.toNat]++[SD ns (k:Int)])=.list ((cs[j.toNat]).map (λb=>bB b.r)++[bB (SD ns (k:Int)).r]) by show PyData.list (List.map _ _)=_;rw[Ø];rfl]
  .rcases List.mem_or_eq_of_mem_set hc with h|rfl
   .have:=gc c h;lia
   .rw[Î,í];lia
  .rw[List.range_succ,Ø]
   exact(GG hj).trans (pc.append_right _)
 .rintro δ ⟨cs,o4,rfl,lc,gc,pc⟩
  dsimp? [];exact⟨cs,rfl,∅,λc hc=>by have:=gc c hc;lia,pc⟩
def Ű{k:Int}{N:Nat}(h:N<=26):((List.range N).map λi:Nat=>nm ns k (i:Int)).Nodup:=List.pairwise_map.mpr (List.Pairwise.imp_of_mem (λ{x y}hx hy hxy e=>hxy (by
 have:=List.mem_range.mp hx;have:=List.mem_range.mp hy;have:=ϳ ∅ ∅ ∅ ∅ e;lia)) List.nodup_range)
structure Ď(ns:ZI)(M:Nat)(cs:List (List fW)):Prop where
 lc:cs.length=(1+dr ns 1 4).toNat
 l8:∀c∈cs,c.length<=8
 mem:∀b∈cs.flatten,∃i:Nat,i<M/\b=SD ns (i:Int)
 nb:(cs.flatten.map fW.nm).Nodup
def DF{M:Nat}{cs:List (List fW)}(C:Ď ns M cs):(nP ns cs).Ok:=by
 have s:=rW (ns:=ns);have q1:=jA (ns:=ns) (k:=1) (m:=4) ⋯;have q2:=l9 (ns:=ns) (k:=1) (m:=4) ⋯;have a2:č ns<=2:=by unfold č;split<;>(try split)<;>lia
 have d0:=jA (ns:=ns) (k:=13) (m:=80) ⋯;have d1:=l9 (ns:=ns) (k:=13) (m:=7) ⋯;have d2:=mS (ns:=ns) (k:=13) (m:=5) ⋯;have d3:=mS (ns:=ns) (k:=14) (m:=6) ⋯;have d4:=mS (ns:=ns) (k:=15) (m:=6) ⋯;have d5:=jA (ns:=ns) (k:=15) (m:=2) ⋯;have d6:=mS (ns:=ns) (k:=0) (m:=9) ⋯;have d7:=l9 (ns:=ns) (k:=0) (m:=200) ⋯;have o1:=uX (ns:=ns) (m:=119) (x:=40+dr ns 13 80) ∅ ∅ ⋯;have o2:=v9 (ns:=ns) (x:=40+dr ns 13 80) ∅;have b1:=uX (ns:=ns) (m:=319) (x:=120+ot ns 0 200) ∅ ∅ ⋯;have b2:=v9 (ns:=ns) (x:=120+ot ns 0 200) ∅;refine⟨⟨_,_,_,_,rfl,o2,⟨∅,o1.2⟩,⟨∅,∅⟩,⟨∅,∅⟩,⟨∅,∅⟩⟩,⟨_,_,_,_,_,_,rfl,⟨∅,∅⟩,⟨∅,∅⟩,⟨∅,∅⟩,⟨∅,∅⟩,⟨∅,∅⟩,⟨∅,b1.2⟩,∅,∅,b2⟩,λx hx=>?_,λx hx=>?_,λx hx=>?_,λc hc=>⟨C.l8 c hc,λb hb=>?_⟩,?_,?_,?_,?_,?_,?_,C.nb⟩
 .obtain⟨k,hk,rfl⟩:=Æ.mp hx
  have l1:=jA (ns:=ns) (k:=2+(k:Int)) (m:=21) ⋯;have l2:=l9 (ns:=ns) (k:=2+(k:Int)) (m:=21) ⋯;have l3:=mS (ns:=ns) (k:=2+(k:Int)) (m:=5) ⋯;have l4:=jA (ns:=ns) (k:=6+(k:Int)) (m:=3) ⋯;have l5:=mS (ns:=ns) (k:=6+(k:Int)) (m:=5) ⋯;have l6:=l9 (ns:=ns) (k:=6+(k:Int)) (m:=60) ⋯;have p1:=uX (ns:=ns) (m:=89) (x:=30+ot ns (6+(k:Int)) 60) ∅ ∅ ⋯;have p2:=v9 (ns:=ns) (x:=30+ot ns (6+(k:Int)) 60) ∅;exact⟨nO,⟨by show _<=dr ns (2+(k:Int)) 21-10;lia,by show dr ns (2+(k:Int)) 21-10<=_;lia⟩,⟨by show _<=ot ns (2+(k:Int)) 21-10;lia,by show ot ns (2+(k:Int)) 21-10<=_;lia⟩,⟨by show _<=th ns (2+(k:Int)) 5;lia,by show th ns (2+(k:Int)) 5<=_;lia⟩,⟨by show 1<=1+dr ns (6+(k:Int)) 3;lia,by show _<=1+dr ns (6+(k:Int)) 3;lia,by show 1+dr ns (6+(k:Int)) 3<=_;lia⟩,⟨by show 1<=2+th ns (6+(k:Int)) 5;lia,by show _<=2+th ns (6+(k:Int)) 5;lia,by show 2+th ns (6+(k:Int)) 5<=_;lia⟩,⟨p2,by show _<=p6 ns*(30+ot ns (6+(k:Int)) 60);lia,p1.2⟩⟩
 .obtain⟨k,hk,rfl⟩:=Æ.mp hx
  have l1:=jA (ns:=ns) (k:=10+(k:Int)) (m:=81) ⋯;have l2:=l9 (ns:=ns) (k:=10+(k:Int)) (m:=81) ⋯;have l3:=mS (ns:=ns) (k:=10+(k:Int)) (m:=5) ⋯;have l4:=jA (ns:=ns) (k:=13+(k:Int)) (m:=60) ⋯;have p1:=uX (ns:=ns) (m:=60) (x:=1+dr ns (13+(k:Int)) 60) ∅ ∅ ⋯;have p2:=v9 (ns:=ns) (x:=1+dr ns (13+(k:Int)) 60) ∅;exact⟨nO,⟨by show _<=dr ns (10+(k:Int)) 81-40;lia,by show dr ns (10+(k:Int)) 81-40<=_;lia⟩,⟨by show _<=ot ns (10+(k:Int)) 81-40;lia,by show ot ns (10+(k:Int)) 81-40<=_;lia⟩,⟨by show _<=th ns (10+(k:Int)) 5-2;lia,by show th ns (10+(k:Int)) 5-2<=_;lia⟩,⟨p2,by show _<=p6 ns*(1+dr ns (13+(k:Int)) 60);lia,p1.2⟩⟩
 .obtain⟨k,hk,rfl⟩:=Æ.mp hx
  have l3:=mS (ns:=ns) (k:=17+(k:Int)) (m:=9) ⋯;exact⟨nO,nO,by show 1<=1+th ns (17+(k:Int)) 9;lia,by show _<=1+th ns (17+(k:Int)) 9;lia,by show 1+th ns (17+(k:Int)) 9<=_;lia⟩
 .obtain⟨i,hi,rfl⟩:=C.mem b (List.mem_flatten.mpr ⟨c,hc,hb⟩)
  exact ϵ ∅
 .show (List.map _ _).length<=5
  rw[Â,List.length_range];lia
 .show (List.map _ _).length<=4
  rw[Â,List.length_range];lia
 .show (List.map _ _).length<=4
  rw[Â,List.length_range];lia
 .show cs.length=(List.map _ _).length
  rw[Â,List.length_range];exact C.lc
 .show ((List.map _ _).map tU.nm).Nodup
  rw[Õ];exact Ű ∅
 .show ((List.map _ _).map UR.nm).Nodup
  rw[Õ];exact Ű ∅
end
end Toy
namespace Toy
open PySem L2 PySem.NumText
def aKH{z:Str}{ds:ZG}:ln ("box "++z) ds=ln "box" (.str z::ds):=by
 unfold ln;rw[Ê];have e:("box ":Str).cps=("box":Str).cps++(" ":Str).cps:=by decide +kernel
 show (⟨(ds.map wS).foldl (λacc p=>acc++(" ":Str).cps++p.cps) (("box ":Str).cps++z.cps)⟩:Str)=⟨(ds.map wS).foldl (λacc p=>acc++(" ":Str).cps++p.cps) (("box":Str).cps++(" ":Str).cps++z.cps)⟩;rw[e]
def wA{f:Str}{ds:ZG}(hf:f.length<=30)(h:JU ds):gE [.str f,.tuple ds]=.ok (.str (ln f ds)) []:=by
 have h1:=h.1;have e24:sizeLine=2^24:=rfl;refine aY (os:=[]) ?_;show cQ CV [some (.str f),some (.tuple ds)] _ _ _ _;unfold CV;dsimp? [gZ,gW];refine bJ.of (eQ (enc:=λd=>d) (xs:=ds) (g:=λd=>.str (wS d)) (by rw[List.map_id'];exact sI rfl) (by omega) λd hd=>?_) ?_
 .dsimp? [(h.2 d hd).strA]
 .have e:(" ":Str).length=1:=rfl
  have j:=pK (g:=" ") (p:=f) (ps:=ds.map wS) (m:=30) hf (λq hq=>by
   let⟨d,hd,rfl⟩:=Æ.mp hq;exact(h.2 d hd).len) (by rw[Â,e];omega) ⋯
  rw[Õ]at j;have j':jE " " (.list ([.str f]++ds.map λd=>PyData.str (wS d)))=some (.str (ln f ds)):=j;dsimp? [Â,j'];omega
section
variable{S:ñ}
def PP{f:Str}{rows:List (ZG)}{δ:DS}{g:M (ZG)}(hf:f.length<=30)(hg:g δ=.ok (rows.map j6) δ)(hl:rows.length<=1000)(h:∀r∈rows,JU r):bX 1 (cH 0) g bY (aM gE [.val (dC (.str f)),.val (aD 0)]) δ=.ok (sL (rows.map (ln f))) δ:=by
 have:=eQ (enc:=j6) (xs:=rows) (g:=λr=>.str (ln f r)) (f:=g) (e:=aM gE [.val (dC (.str f)),.val (aD 0)]) (δ:=δ) hg hl λr hr=>by
  dsimp? [j6,wA hf (h r hr)]
 rw[this];unfold sL;rw[Õ];rfl
def aFI(G:pM S)(hN:∀k,k<S.ss.length->∃z xs,S.ss.getD k []=.str z::xs/\z.length<=20):j4 [zJ S,l0 S]=.ok (.str (wV S)) []:=by
 have ls:=G.ls;have lt:=G.lt;have la:=G.la;have lc:=G.lc;have e24:sizeLine=2^24:=rfl;refine aY (os:=[]) ?_;show cQ CW [some (zJ S),some (l0 S),none,none] _ _ _ _;unfold CW;have w1:=wA (f:="own") (by show 3<=30;decide) G.own;have w2:=wA (f:="bounds") (by show 6<=30;decide) G.bd;simp![zJ];dsimp? [w1,w2];generalize hA:(PyData.tuple [.tuple S.own,.tuple S.bd,.list (S.ss.map j6),.list (S.ts.map j6),.list (S.ap.map j6)])=A;refine bJ.of (PP (rows:=S.ss) (by show 5<=30;decide) (dY (by subst hA;dsimp? [])) (by omega) λr hr=>(G.ss r hr).1) ?_
 simp![sL];dsimp? [m6,Â];refine⟨by omega,?_⟩;refine bJ.of (PP (rows:=S.ts) (by show 4<=30;decide) (dY (by subst hA;dsimp? [])) (by omega) G.ts) ?_
 simp![sL];dsimp? [m6,Â,Î];refine⟨by omega,?_⟩;refine bJ.of (PP (rows:=S.ap) (by show 5<=30;decide) (dY (by subst hA;dsimp? [])) (by omega) G.ap) ?_
 simp![sL];dsimp? [m6,Â,Î];refine⟨by omega,?_⟩;have e0:[PyData.str (ln "own" S.own),.str (ln "bounds" S.bd)]++(S.ss.map (ln "stack")).map PyData.str++(S.ts.map (ln "tank")).map PyData.str++(S.ap.map (ln "apart")).map PyData.str=(hd S).map PyData.str:=by
  unfold hd;simp
 rw[e0];let⟨_,hl⟩:=JM G;have hsz:(S.cs.length:Int)=(S.ss.length:Int):=by rw[lc]
 refine BE (j:=S.ss.length) (δ1:=_) (λk δ=>∃o3,δ=[some A,some (l0 S),some (.list ((hd S++tR S k).map PyData.str)),o3]) (cY (by dsimp? [l0,Â];exact⟨hsz,rfl⟩)) (by omega) ⟨none,by rw[show tR S 0=[] by simp[tR],Û];rfl⟩ ?_ ?_
 .rintro k δ hk ⟨o3,rfl⟩
  have k2:k<S.cs.length:=by omega
  have hc:=G.cs _ (bI (d:=[]) k2);let⟨_,bl⟩:=v6 G k (by omega);let⟨z,xs,ez,lz⟩:=hN k hk;have bw:=PK G hk;rw[ez]at bw;have eT:(hd S++tR S (k+1)).map PyData.str=(hd S++tR S k).map PyData.str++((S.cs.getD k []).map λb=>ln "box" (.str z::b)).map PyData.str:=by
   rw[v5,<- List.append_assoc,Ø,ez];rfl
  refine⟨_,rfl,?_⟩;rw[eT];have i1:bN A (.int 2)=some (.list (S.ss.map j6)):=by subst hA;rfl
  have a1:atI (S.ss.map j6) (k:Int)=some (.tuple (.str z::xs)):=by rw[nN (d:=[]) hk,ez];rfl
  have a2:atI (S.cs.map Č) (k:Int)=some (Č (S.cs.getD k [])):=nN (d:=[]) k2;have ad:b8 (.str "box ") (.str z)=some (.str ("box "++z)):=fU (by show 4+z.length<=1000;omega);dsimp? [];refine bJ.of (eQ (enc:=j6) (xs:=S.cs.getD k []) (g:=λb=>.str (ln "box" (.str z::b))) (dY (by dsimp? [l0,a2,Č])) (by have:=hc.1;omega) λb hb=>?_) ?_
  .have hw:=bw b hb
   have le:=wA (f:="box "++z) (ds:=b) (by rw[bS];show 4+z.length<=30;omega) ⟨by have:=hw.1;rw[Ë]at this;omega,λd hd=>hw.2 d (É _ hd)⟩
   rw[aKH]at le;have le':gE [.str ("box "++z),j6 b]=.ok (.str (ln "box" (.str z::b))) []:=le;have h0:bN (.tuple (.str z::xs)) (.int 0)=some (.str z):=jG (j:=0) rfl rfl;dsimp? [i1,a1,h0,ad,le']
  .dsimp? [m6,Â,Î]
   exact⟨by have:=hc.1;omega,_,by rw[Õ];rfl⟩
 .rintro δ ⟨o3,rfl⟩
  have j:jE "\n" (.list ((hd S++tR S S.ss.length).map PyData.str))=some (.str (wV S)):=MN G;dsimp? [gZ,gW,j]
end
def Ϸ{S:dZ}:zJ S.shp=aT S:=by
 unfold zJ aT dZ.shp;simp![Õ];rfl
def ϸ{S:dZ}:l0 S.shp=aR S:=by
 unfold l0 aR dZ.shp;simp![Õ];congr 1;apply List.map_congr_left;intro c _;show Č (c.map λb=>mR b.r)=_;unfold Č;rw[Õ];rfl
def DG{S:dZ}(G:S.Ok):j4 [aT S,aR S]=.ok (.str (eR S.rows)) []:=by
 rw[<- Ϸ,<- ϸ,<- yI G];refine aFI G.good λk hk=>?_;have hl:S.shp.ss.length=S.ss.length:=by show (S.ss.map _).length=_;rw[Â]
 rw[hl]at hk;have e2:S.shp.ss.getD k []=mR (S.ss.getD k mD).r:=by
  show (S.ss.map _).getD k []=_;rw[Ð,Ò,Ç hk,Ð,Ç hk];rfl
 rw[e2];refine⟨_,_,rfl,?_⟩;have:=(l7 (G.ss _ (bI (d:=mD) hk)).1).2.1;omega
def UY{S:dZ}(G:S.Ok):kN [aT S,aR S]=.ok (.str (eR S.rows)) []:=by
 rw[<- Ϸ,<- ϸ,<- yI G];exact aA1 G.good
end Toy
namespace L2
open PySem PySem.Spec
def aBM{ents:Z5}{f:M D}{as:List Arg}{δ δ1:DS}{z:Str}{en:ZF×(ZG->Res D)}{r:D}(h1:f δ=.ok (.str z) δ)(h2:ents.lookup z=some en)(h3:aM en.2 as δ=.ok r δ1):FO ents f as δ=.ok r δ1:=by
 unfold FO;rw[h1];simp![Res.bind,h2,h3]
end L2
namespace Toy
open PySem L2 PySem.NumText
def kR(sh cg ld pt:D):D:=eI "Desk" ["ship","cargo","loads","ports"] [sh,cg,ld,pt]
def SF{S:dZ}(G:S.Ok):fP [eI "Desk" [] [],.str (eR S.rows)]=.ok .none [some (kR (aT S) (aR S) (.list []) (.list []))]:=by
 have er:=aFE G;have i0:bN (.tuple [aT S,aR S]) (.int 0)=some (aT S):=rfl;have i1:bN (.tuple [aT S,aR S]) (.int 1)=some (aR S):=rfl;generalize aT S=sh at *;generalize aR S=cg at *;generalize PyData.tuple [sh,cg]=T at *;generalize eR S.rows=tx at *;have f1:∀y,vI 21 0 "Desk" "ship" y (eI "Desk" [] [])=some (eI "Desk" ["ship"] [y]):=λy=>by with_unfolding_all rfl
 have f2:∀x y,vI 21 0 "Desk" "cargo" y (eI "Desk" ["ship"] [x])=some (eI "Desk" ["ship","cargo"] [x,y]):=λx y=>by with_unfolding_all rfl
 have f3:∀x y z,vI 21 0 "Desk" "loads" z (eI "Desk" ["ship","cargo"] [x,y])=some (eI "Desk" ["ship","cargo","loads"] [x,y,z]):=λx y z=>by with_unfolding_all rfl
 have f4:∀x y z w,vI 21 0 "Desk" "ports" w (eI "Desk" ["ship","cargo","loads"] [x,y,z])=some (kR x y z w):=λx y z w=>by with_unfolding_all rfl
 refine mQ (os:=[kR sh cg (.list []) (.list [])]) ?_;show cQ kE [some (eI "Desk" [] []),some (.str tx),none] _ _ _ _;unfold kE;dsimp?! [er,BT,i0,i1,f1,f2,f3,f4]
def aBN{w:Str}{ps:List Pr}(hw:∀c∈w.cps.toList,45<=c)(hl:w.length<=30)(h:JV ps):fV (ln w (mR ps)) " "=some (.list (.str w::jC ps)):=by
 have hl:=jQ hl h.wd;unfold fV;rw[Á ⟨by decide +kernel,Ñ (Nat.add_le_add_right hl 2) ⋯⟩];unfold ln;rw[ŀ,mH λq hq=>?_]
 .unfold mR jC
  simp
 .rcases Å.mp hq with rfl|hq
  .intro z
   have:=hw 32 z;omega
  .obtain⟨d,hd,rfl⟩:=Æ.mp hq
   let⟨p,hp,rfl⟩:=Æ.mp hd;intro z;have:=(h.2 p hp).free 32 z;omega
def aFJ{w:Str}{ps:List Pr}(hw:bV.lookup w=some (fS ps))(hp:yU (.str w) (.str "ports")=some (.bool false))(h:JV ps):rQ [.str w,.list (jC ps)]=.ok (.tuple (mR ps)) []:=by
 have ef:sG [.str w,.list (jC ps)]=.ok (.str (fS ps)) []:=by
  refine aY (os:=[]) ?_;show cQ xQ [some (.str w),some (.list (jC ps))] _ _ _ _;unfold xQ;have g:FL bV (.str w)=some (.str (fS ps)):=by
   show (bV.lookup w).map PyData.str=_;rw[hw];rfl
  generalize PyData.list (jC ps)=L at *;dsimp? [hp,Bool.false_eq_true,g]
 have e1:=RY h;have e2:=MO h;refine aY (os:=[]) ?_;show cQ rP [some (.str w),some (.list (jC ps))] _ _ _ _;unfold rP;have g:OE true bV (.str w)=some (.bool false):=by
  show some (PyData.bool ((bV.lookup w).isSome != true))=_;rw[hw];rfl
 generalize PyData.list (jC ps)=L at *;dsimp? [g,ef,e1,e2,Bool.not_true,Bool.false_eq_true]
abbrev Ϲ:Z5:=[("weigh",[21,0],fF),("rules",[21,0],gJ),("load",[21,0,0],hV),("where",[21,0,0,0,0,0],gK),("show",[21,0],hW)]
def DH{dk dk' r:D}{w:Str}{ps:List Pr}{en:ZF×(ZG->Res D)}(hf:bV.lookup w=some (fS ps))(hp:yU (.str w) (.str "ports")=some (.bool false))(h:JV ps)(hc:∀c∈w.cps.toList,45<=c)(hl:w.length<=30)(he:Ϲ.lookup w=some en)(hr:en.2 [dk,.tuple (mR ps)]=.ok r [some dk']):
  fM [dk,.str (ln w (mR ps))]=.ok r [some dk']:=by
 have e1:=aBN hc hl h;have e2:=aFJ hf hp h;have i0:bN (.list (.str w::jC ps)) (.int 0)=some (.str w):=jG (j:=0) rfl rfl;have c1:zM (.list (.str w::jC ps)) (some 1) none=some (.list (jC ps)):=Ϫ;generalize ln w (mR ps)=x at *;generalize PyData.list (.str w::jC ps)=L at *;generalize PyData.list (jC ps)=L2 at *;generalize PyData.tuple (mR ps)=T at *;have hd:FO Ϲ (aU bN (aD 2) (dC (.int 0))) [.own 0,.val (aD 3)] [some dk,some (.str x),some L,some T]=.ok r [some dk',some (.str x),some L,some T]:=aBM (z:=w) (en:=en) (cY (by dsimp? [i0])) he (cY (by dsimp? [hr]));refine aY (os:=[dk']) ?_;show cQ uS [some dk,some (.str x),none,none] _ _ _ _;unfold uS;dsimp? [tQ,gW,e1,i0,BF,mZ,lB,s9,c1,e2];refine bJ.of hd ?_;exact⟨rfl,rfl⟩
end Toy
namespace L2
open PySem PySem.Spec
def yJ{α:Type}{enc g:α->D}{h:α->Bool}{t:M Bool}{e:M D}{δ:DS}:∀{xs:List α}{acc:ZG}{o:ZJ},(∀x∈xs,t (some (enc x)::δ)=.ok (h x) (some (enc x)::δ))->(∀x∈xs,e (some (enc x)::δ)=.ok (g x) (some (enc x)::δ))->acc.length+xs.length<=sizeLine->∃o',cL (cH 0) t e (xs.map enc) acc (o::δ)=.ok (acc++(xs.filter h).map g) (o'::δ)
 |[]=>by rename_i acc o;intro _ _ _;exact⟨o,by simp[cL]⟩
 |x::xs=>by
  rename_i acc o;intro ht he hl;have hd:=ht x Ì;have hv:=he x Ì;rw[Ë]at hl;have e1:cH 0 (enc x) (o::δ)=some (some (enc x)::δ):=by simp[cH]
  cases hk:h x with
  |true=>
   let⟨o',ih⟩:=yJ (xs:=xs) (acc:=acc++[g x]) (o:=some (enc x)) (λy hy=>ht y (É _ hy)) (λy hy=>he y (É _ hy)) (by simp;lia);refine⟨o',?_⟩;rw[Ê];unfold cL;rw[e1];simp![hd,hk,Res.bind,if_true,hv];rw[Á ∅,ih];simp[hk]
  |false=>
   let⟨o',ih⟩:=yJ (xs:=xs) (acc:=acc) (o:=some (enc x)) (λy hy=>ht y (É _ hy)) (λy hy=>he y (É _ hy)) ∅;refine⟨o',?_⟩;rw[Ê];unfold cL;rw[e1];simp![hd,hk,Res.bind,Bool.false_eq_true,if_false];rw[Á ∅,ih];simp[hk]
def aFK{α:Type}{enc g:α->D}{h:α->Bool}{f:M (ZG)}{t:M Bool}{e:M D}{δ:DS}{xs:List α}(hf:f δ=.ok (xs.map enc) δ)(hl:xs.length<=1000)(ht:∀x∈xs,bJ t (some (enc x)::δ) λb δ1=>b=h x/\δ1=some (enc x)::δ)(he:∀x∈xs,bJ e (some (enc x)::δ) λa δ1=>a=g x/\δ1=some (enc x)::δ):bX 1 (cH 0) f t e δ=.ok (.list ((xs.filter h).map g)) δ:=by
 unfold bX;rw[hf];let⟨o',q⟩:=yJ (h:=h) (t:=t) (acc:=[]) (o:=none) (λx hx=>by
  let⟨b,δ1,e,rfl,rfl⟩:=(ht x hx).ex;exact e) (λx hx=>gR (he x hx)) (by rw[List.length_nil,Nat.zero_add];exact Ñ hl (show 1000<=sizeLine by decide))
 simp![Res.bind];rw[show List.replicate 1 (none:ZJ)++δ=none::δ from rfl,q];simp
structure iC(z:Str):Prop where
 len:z.length<=8
 ok:PyData.strOk z=true
def iC.sh{z:Str}(h:iC z):Sh 1 (.str z):=by
 have hz:sizeLine=2^24:=rfl;have:=h.len;exact⟨by simp[PyData.canLay0,h.ok],by simp[PyData.depth]⟩
end L2
namespace Toy
open PySem L2
structure St where
 nm:Str
 x:Int
 y:Int
 z:Int
 t:Int
 h:Int
 m:Int
structure Bx where
 nm:Str
 w:Int
 p:Str
 k:Str
 b:Int
structure Tk where
 nm:Str
 x:Int
 y:Int
 z:Int
 r:Int
def sV(s:St):D:=.tuple [.str s.nm,.int s.x,.int s.y,.int s.z,.int s.t,.int s.h,.int s.m]
def PQ(b:Bx):D:=.tuple [.str b.nm,.int b.w,.str b.p,.str b.k,.int b.b]
def gG(bs:List Bx):D:=.list (bs.map PQ)
def SG(x:Int):Prop:=-1000000000<=x/\x<=1000000000
structure aKI(s:St):Prop where
 nm:iC s.nm
 x:SG s.x
 y:SG s.y
 z:SG s.z
 t:SG s.t
structure aKJ(s:Tk):Prop where
 nm:iC s.nm
 x:SG s.x
 y:SG s.y
 z:SG s.z
 r:0<=s.r/\s.r<=1000000000
structure aKK(b:Bx):Prop where
 nm:iC b.nm
 p:iC b.p
 k:iC b.k
 w:1<=b.w/\b.w<=1000000000
structure ļ(own:Int×Int×Int×Int)(ss:List St)(cs:List (List Bx))(ts:List Tk):Prop where
 o0:1<=own.1/\own.1<=1000000000
 o1:SG own.2.1/\SG own.2.2.1/\SG own.2.2.2
 ls:ss.length<=10
 lc:cs.length=ss.length
 lb:∀c∈cs,c.length<=30
 lt:ts.length<=4
 gs:∀s∈ss,aKI s
 gb:∀c∈cs,∀b∈c,aKK b
 gt:∀t∈ts,aKJ t
def ER(o:Int×Int×Int×Int):D:=.tuple [.int o.1,.int o.2.1,.int o.2.2.1,.int o.2.2.2]
abbrev Q4:=Int×Int×Int×Int
def T4:List Q4->Q4
 |[]=>(0,0,0,0)
 |p::l=>(p.1+(T4 l).1,p.1*p.2.1+(T4 l).2.1,p.1*p.2.2.1+(T4 l).2.2.1,p.1*p.2.2.2+(T4 l).2.2.2)
def Ϻ:∀(l m:List Q4),T4 (l++m)=((T4 l).1+(T4 m).1,(T4 l).2.1+(T4 m).2.1,(T4 l).2.2.1+(T4 m).2.2.1,(T4 l).2.2.2+(T4 m).2.2.2)
 |[]=>by intro m;simp[T4]
 |p::l=>by
  intro m;rw[List.cons_append,T4,Ϻ l m,T4];simp![Int.add_assoc]
def SH(l:List Q4)(p:Q4):T4 (l++[p])=((T4 l).1+p.1,(T4 l).2.1+p.1*p.2.1,(T4 l).2.2.1+p.1*p.2.2.1,(T4 l).2.2.2+p.1*p.2.2.2):=by
 rw[Ϻ];simp[T4]
def DK:St:=⟨"",0,0,0,0,0,0⟩
def PR:Bx:=⟨"",0,"","",0⟩
def JW(s:St)(bs:List Bx)(t:Nat):(List Q4):=(List.range t).map λ(j:Nat)=>((bs.getD j PR).w,s.x,s.y,s.z+(j:Int)*s.t)
def AB(ss:List St)(cs:List (List Bx))(k:Nat):(List Q4):=((List.range k).map λj=>JW (ss.getD j DK) (cs.getD j []) (cs.getD j []).length).flatten
def MR{s:St}{bs:List Bx}{t:Nat}:JW s bs (t+1)=JW s bs t++[((bs.getD t PR).w,s.x,s.y,s.z+(t:Int)*s.t)]:=by
 unfold JW;rw[List.range_succ,Ø];rfl
def DL{ss:List St}{cs:List (List Bx)}{k:Nat}:AB ss cs (k+1)=AB ss cs k++JW (ss.getD k DK) (cs.getD k []) (cs.getD k []).length:=by
 unfold AB;rw[List.range_succ,Ø,List.flatten_append];simp
def û(q:Q4):D:=.tuple [.int q.1,.int q.2.1,.int q.2.2.1,.int q.2.2.2]
def Sm(x:Int):Prop:=-18446744073709551616<x/\x<18446744073709551616
def MS{q:Q4}{w x y z:Int}(hw:Sm w):vV [û q,.int w,.tuple [.int x,.int y,.int z]]=.ok (û (q.1+w,q.2.1+w*x,q.2.2.1+w*y,q.2.2.2+w*z)) []:=by
 let⟨h1,h2⟩:=hw;refine aY (os:=[]) ?_;show cQ IZ [some (û q),some (.int w),some (.tuple [.int x,.int y,.int z])] _ _ _ _;unfold IZ;dsimp? [û];exact⟨by ac_nf,by ac_nf,by ac_nf⟩
def iE{α:Type}{f:α->D}{as:List α}{a0:α}{k:Nat}{d:D}(h:(eN (as.map f))[k]?=some d):k<as.length/\d=.tuple [.int (k:Int),f (as.getD k a0)]:=by
 have hi:=(Ó.mp h).1;simp![eN,List.length_mapIdx,Â]at hi;refine⟨hi,?_⟩;rw[eN,List.getElem?_mapIdx,Ò,i9 (d:=a0) hi]at h;simp![Option.map_some,Option.some.injEq]at h;rw[<- h]
def ϻ{a:D}{l:ZG}:vB (.tuple (a::l)) (some 1) none=some (.tuple l):=by
 show (if HT.sIx (l.length+1) 0 (some ((1:Nat):Int))=0/\HT.sIx (l.length+1) (l.length+1) none=l.length+1 then none else some (PyData.tuple (D1 (a::l) (some ((1:Nat):Int)) none)))=_;rw[HT.sIx_nat,Ã ∅];have:=KO (ds:=a::l) (k:=1) (by simp);have:=PyData.list.inj (Option.some.inj this);rw[this];rfl
section
variable{own:Q4}{ss:List St}{cs:List (List Bx)}{ts:List Tk}{bd ap tk:D}
def PU(M:ļ own ss cs ts):sE [.tuple [ER own,bd,.list (ss.map sV),tk,ap],.list (cs.map gG)]=.ok (û (T4 (own::AB ss cs ss.length))) []:=by
 have lc:=M.lc;have ls:=M.ls;have o0:=M.o0;refine aY (os:=[]) ?_;show cQ xN [some (.tuple [ER own,bd,.list (ss.map sV),tk,ap]),some (.list (cs.map gG)),none,none,none,none,none,none,none] _ _ _ _;unfold xN;have e0:=MS (q:=(0,0,0,0)) (w:=own.1) (x:=own.2.1) (y:=own.2.2.1) (z:=own.2.2.2) (by unfold Sm;lia);have z0:((0+own.1,0+own.1*own.2.1,0+own.1*own.2.2.1,0+own.1*own.2.2.2):Q4)=T4 [own]:=by simp[T4]
 rw[z0]at e0;have e0':vV [.tuple [.int 0,.int 0,.int 0,.int 0],.int own.1,.tuple [.int own.2.1,.int own.2.2.1,.int own.2.2.2]]=.ok (û (T4 [own])) []:=e0;dsimp? [ER,BF,mZ,lB,s9,ϻ,e0'];refine dO (ds:=jZ (ss.map sV) (cs.map gG)) (δ1:=_) (λk δ=>∃o4 o5 o6 o7 o8,δ=[some (.tuple [.tuple [.int own.1,.int own.2.1,.int own.2.2.1,.int own.2.2.2],bd,.list (ss.map sV),tk,ap]),some (.list (cs.map gG)),some (.tuple [.int own.1,.int own.2.1,.int own.2.2.1,.int own.2.2.2]),some (û (T4 (own::AB ss cs k))),o4,o5,o6,o7,o8]) (AM (by dsimp? [])) ⟨_,_,_,_,_,by simp[AB];exact⟨rfl,rfl,rfl,rfl,rfl⟩⟩ ?_ ?_
 .rintro k d δ hk ⟨o4,o5,o6,o7,o8,rfl⟩
  let⟨k1,k2,rfl⟩:=v4 (a0:=DK) (b0:=[]) hk;have gb:=M.gb _ (bI (d:=[]) k2);refine⟨_,rfl,?_⟩;refine dO (ds:=eN ((cs.getD k []).map PQ)) (λt δ=>∃o6 o7 o8,δ=[some (.tuple [.tuple [.int own.1,.int own.2.1,.int own.2.2.1,.int own.2.2.2],bd,.list (ss.map sV),tk,ap]),some (.list (cs.map gG)),some (.tuple [.int own.1,.int own.2.1,.int own.2.2.1,.int own.2.2.2]),some (û (T4 (own::AB ss cs k++JW (ss.getD k DK) (cs.getD k []) t))),some (sV (ss.getD k DK)),some (gG (cs.getD k [])),o6,o7,o8]) (kQ rfl) ⟨_,_,_,by simp[JW];exact⟨rfl,rfl,rfl⟩⟩ ?_ ?_
  .rintro t d δ ht ⟨o6,o7,o8,rfl⟩
   let⟨t1,rfl⟩:=iE (a0:=PR) ht;have gw:=gb _ (bI (d:=PR) t1);generalize hs:ss.getD k DK=s at *;generalize hb:(cs.getD k []).getD t PR=b at *;have e1:=MS (q:=T4 (own::AB ss cs k++JW s (cs.getD k []) t)) (w:=b.w) (x:=s.x) (y:=s.y) (z:=s.z+(t:Int)*s.t) (by unfold Sm;have:=gw.w;lia);have lb:=M.lb _ (bI (d:=[]) k2);refine⟨_,rfl,?_⟩;dsimp? [sV,PQ,e1];have eT:T4 (own::AB ss cs k++JW s (cs.getD k []) (t+1))=((T4 (own::AB ss cs k++JW s (cs.getD k []) t)).1+b.w,(T4 (own::AB ss cs k++JW s (cs.getD k []) t)).2.1+b.w*s.x,(T4 (own::AB ss cs k++JW s (cs.getD k []) t)).2.2.1+b.w*s.y,(T4 (own::AB ss cs k++JW s (cs.getD k []) t)).2.2.2+b.w*(s.z+(t:Int)*s.t)):=by
    rw[MR,<- List.append_assoc,SH,hb]
   rw[eT];exact⟨by ac_nf,_,_,_,rfl⟩
  .rintro δ ⟨o6,o7,o8,rfl⟩
   rw[i7,Â,DL];exact⟨_,_,_,_,_,rfl⟩
 .rintro δ ⟨o4,o5,o6,o7,o8,rfl⟩
  rw[AN (by simp[lc]),Â];dsimp? []
abbrev Ħ(q:Q4):D:=.list [.int q.1,.int q.2.1,.int q.2.2.1,.int q.2.2.2]
def MT(M:ļ own ss cs ts):mO [.tuple [ER own,bd,.list (ss.map sV),tk,ap],.list (cs.map gG)]=.ok (Ħ (T4 (own::AB ss cs ss.length))) []:=by
 have lc:=M.lc;have ls:=M.ls;have o0:=M.o0;have o1:=M.o1;unfold SG at o1;have i0:bN (.tuple [ER own,bd,.list (ss.map sV),tk,ap]) (.int 0)=some (ER own):=rfl;have i2:bN (.tuple [ER own,bd,.list (ss.map sV),tk,ap]) (.int 2)=some (.list (ss.map sV)):=rfl;generalize PyData.tuple [ER own,bd,.list (ss.map sV),tk,ap]=sh at *;refine aY (os:=[]) ?_;show cQ rS [some sh,some (.list (cs.map gG)),none,none,none,none,none,none] _ _ _ _;unfold rS;dsimp? [i0,ER];refine⟨by ac_nf,by ac_nf,by ac_nf,?_⟩;have z0:T4 [own]=(own.1,own.1*own.2.1,own.1*own.2.2.1,own.1*own.2.2.2):=by simp[T4]
 refine dO (ds:=jZ (ss.map sV) (cs.map gG)) (δ1:=_) (λk δ=>∃o4 o5 o6 o7,δ=[some sh,some (.list (cs.map gG)),some (.tuple [.int own.1,.int own.2.1,.int own.2.2.1,.int own.2.2.2]),some (Ħ (T4 (own::AB ss cs k))),o4,o5,o6,o7]) (AM (by dsimp? [i2])) ⟨none,none,none,none,by rw[show AB ss cs 0=[]from rfl,z0]⟩ ?_ ?_
 .rintro k d δ hk ⟨o4,o5,o6,o7,rfl⟩
  let⟨k1,k2,rfl⟩:=v4 (a0:=DK) (b0:=[]) hk;have gb:=M.gb _ (bI (d:=[]) k2);have gs:=M.gs _ (bI (d:=DK) k1);have lb:=M.lb _ (bI (d:=[]) k2);refine⟨_,rfl,?_⟩;refine BE (j:=(cs.getD k []).length) (δ1:=_) (λt δ=>∃o6 o7,δ=[some sh,some (.list (cs.map gG)),some (.tuple [.int own.1,.int own.2.1,.int own.2.2.1,.int own.2.2.2]),some (Ħ (T4 (own::AB ss cs k++JW (ss.getD k DK) (cs.getD k []) t))),some (sV (ss.getD k DK)),some (gG (cs.getD k [])),o6,o7]) (cY (by dsimp? [gG,Â];rfl)) ∅ ⟨o6,o7,by rw[show JW (ss.getD k DK) (cs.getD k []) 0=[]from rfl,Û];rfl⟩ ?_ ?_
  .rintro t δ ht ⟨o6,o7,rfl⟩
   have gw:=gb _ (bI (d:=PR) ht);have eb:atI ((cs.getD k []).map PQ) (t:Int)=some (PQ ((cs.getD k []).getD t PR)):=nN ht;refine⟨_,rfl,?_⟩;rw[MR,<- List.append_assoc,SH];generalize hT:T4 (own::AB ss cs k++JW (ss.getD k DK) (cs.getD k []) t)=q at *;generalize ss.getD k DK=s at *;generalize (cs.getD k []).getD t PR=b at *;have w:=gw.w;have gx:=gs.x;have gy:=gs.y;have gz:=gs.z;have gt:=gs.t;unfold SG at gx gy gz gt;generalize hB:(cs.getD k []).map PQ=B at *;have s1:bN (sV s) (.int 1)=some (.int s.x):=rfl;have s2:bN (sV s) (.int 2)=some (.int s.y):=rfl;have s3:bN (sV s) (.int 3)=some (.int s.z):=rfl;have s4:bN (sV s) (.int 4)=some (.int s.t):=rfl;have b1:bN (PQ b) (.int 1)=some (.int b.w):=rfl;have n0:mT 4 0=some 0:=rfl;have n1:mT 4 1=some 1:=rfl;have n2:mT 4 2=some 2:=rfl;have n3:mT 4 3=some 3:=rfl;dsimp? [gG,hB,eb,b1,s1,s2,s3,s4,Ħ,n0,n1,n2,n3];exact⟨by ac_nf,by ac_nf,by ac_nf,by ac_nf,_,_,rfl⟩
  .rintro δ ⟨o6,o7,rfl⟩
   rw[DL];exact⟨_,_,_,_,rfl⟩
 .rintro δ ⟨o4,o5,o6,o7,rfl⟩
  rw[AN (by simp[lc]),Â];dsimp? []
end
def aPT{a b p q:Str}(ha:Sh 1 (.str a))(hb:Sh 1 (.str b))(hp:Sh 1 (.str p))(hq:Sh 1 (.str q)):∃r:Bool,Ę (.tuple [.str p,.str q]) (.tuple [.tuple [.str a,.str b],.tuple [.str b,.str a]])=some (.bool r):=by
 have s:∀{x y:Str},Sh 1 (.str x)->Sh 1 (.str y)->Sh 2 (.tuple [.str x,.str y]):=λhx hy=>YB λd hd=>by
  simp![Å,Í,or_false]at hd;rcases hd with rfl|rfl<;>assumption
 have h1:=(s hp hq).shaped ⋯;have h2:SeqAt.shaped (.tuple [.tuple [.str a,.str b],.tuple [.str b,.str a]])=true:=Sh.shaped (k:=3) (YB λx hx=>by
  simp![Å,Í,or_false]at hx;rcases hx with rfl|rfl
  .exact s ha hb
  .exact s hb ha) ⋯
 unfold Ę;simp![AI];rw[Á ⟨h1,h2⟩];exact⟨_,rfl⟩
def SI{α:Type}{P:α->Prop}{l m:List α}(h:∀y∈l,P y)(g:∀y∈m,P y):∀y∈l++m,P y:=λy hy=>(ë.mp hy).elim (h y) (g y)
def Rl(d:D):Prop:=∃(w:Str)(is:ZI),d=.tuple (.str w::is.map PyData.int)/\(w.length<=8/\PyData.strOk w=true)/\is.length<=4/\∀i∈is,0<=i/\i<=1000
def ń{w:Str}{a:Int}(hw:w.length<=8/\PyData.strOk w=true)(ha:0<=a/\a<=1000):Rl (.tuple [.str w,.int a]):=⟨w,[a],rfl,hw,by simp,by simp;exact ha⟩
def aQB{a b:Int}(ha:0<=a/\a<=1000)(hb:0<=b/\b<=1000):Rl (.tuple [.str "bears",.int a,.int b]):=⟨_,[a,b],rfl,⟨⋯,aO _⟩,by simp,by simp;exact⟨ha,hb⟩⟩
def aQC{a b c d:Int}(ha:0<=a/\a<=1000)(hb:0<=b/\b<=1000)(hc:0<=c/\c<=1000)(hd:0<=d/\d<=1000):Rl (.tuple [.str "apart",.int a,.int b,.int c,.int d]):=⟨_,[a,b,c,d],rfl,⟨⋯,aO _⟩,by simp,by simp;exact⟨ha,hb,hc,hd⟩⟩
def kh:("high":Str).length<=8/\PyData.strOk "high"=true:=⟨⋯,aO _⟩
def km:("most":Str).length<=8/\PyData.strOk "most"=true:=⟨⋯,aO _⟩
def mB{α:Type}{P:α->Prop}{l:List α}{x:α}(h:∀y∈l,P y)(hx:P x):∀y∈l++[x],P y:=λy hy=>by
 rcases ë.mp hy with z|z
 .exact h y z
 .rw[ç.mp z]
  exact hx
structure Ap where
 x:Str
 y:Str
 n:Int
def ħ(a:Ap):D:=.tuple [.str a.x,.str a.y,.int a.n]
abbrev UZ(o b:D)(ss:List St)(ts:D)(as:List Ap):D:=.tuple [o,b,.list (ss.map sV),ts,.list (as.map ħ)]
def PV{st:St}{s:Int}{bs:List Bx}(hl:bs.length<=100)(hs:0<=s/\s<=1000):∃r,i6 [sV st,.int s,gG bs]=.ok r []/\∃L,r=.list L/\L.length<=bs.length+2/\∀d∈L,Rl d:=by
 have e24:sizeLine=2^24:=rfl;refine FC ?_;show cQ i5 [some (sV st),some (.int s),some (gG bs),none,none,none,none] _ _ _ _;unfold i5;rw[L2.seq_assoc,L2.seq_assoc,L2.seq_assoc];refine rT (λδ=>∃(L:ZG)(w:Int),L.length<=2/\(∀d∈L,Rl d)/\δ=[some (sV st),some (.int s),some (gG bs),some (.list L),some (.int w),none,none]) ?_ ?_
 .dsimp? []
  refine bJ.of (eQ (enc:=PQ) (xs:=bs) (g:=λb=>.int b.w) (fG rfl) ∅ λb _=>by dsimp? [PQ]) ?_;have es:W6 [.list (bs.map λb=>PyData.int b.w)]=some (.int (bs.map λb=>b.w).sum):=by
   rw[show (bs.map λb=>PyData.int b.w)=(bs.map λb=>b.w).map PyData.int by simp,aMH]
  have eb:gG bs=.list (bs.map PQ):=rfl;generalize (bs.map λb=>b.w).sum=W at *;by_cases c1:st.h<(bs.length:Int)<;>by_cases c2:st.m<W
  .dsimp? [es,sV,eb,Â,c1,c2,decide_true,List.nil_append]
   exact⟨∅,∅,_,_,by simp,mB (mB (l:=[]) (by simp) (ń kh hs)) (ń km hs),rfl⟩
  .dsimp? [es,sV,eb,Â,c1,c2,decide_true,decide_false,Bool.false_eq_true,List.nil_append]
   exact⟨∅,_,_,by simp,mB (l:=[]) (by simp) (ń kh hs),rfl⟩
  .dsimp? [es,sV,eb,Â,c1,c2,decide_true,decide_false,Bool.false_eq_true,List.nil_append]
   exact⟨∅,_,_,by simp,mB (l:=[]) (by simp) (ń km hs),rfl⟩
  .dsimp? [es,sV,eb,Â,c1,c2,decide_false,Bool.false_eq_true]
   exact⟨_,_,by simp,by simp,rfl⟩
 rintro _ ⟨L,w,lL,gL,rfl⟩;refine rT (λδ=>∃(L:ZG)(o4 o5 o6:ZJ),L.length<=bs.length+2/\(∀d∈L,Rl d)/\δ=[some (sV st),some (.int s),some (gG bs),some (.list L),o4,o5,o6]) ?_ ?_
 .refine dO (ds:=eN (bs.map PQ)) (δ1:=_) (λt δ=>∃(L:ZG)(w:Int)(o5 o6:ZJ),L.length<=t+2/\(∀d∈L,Rl d)/\δ=[some (sV st),some (.int s),some (gG bs),some (.list L),some (.int w),o5,o6]) (kQ rfl) ⟨L,w,none,none,∅,gL,rfl⟩ ?_ ?_
  .rintro t d δ ht ⟨L,w,o5,o6,lL,gL,rfl⟩
   let⟨t1,rfl⟩:=iE (a0:=PR) ht;refine⟨_,rfl,?_⟩;generalize bs.getD t PR=bt at *;by_cases c:bt.b<w-bt.w
   .dsimp? [PQ,c,decide_true]
    exact⟨∅,_,_,_,_,by rw[Î,í];lia,mB gL (aQB hs ⟨∅,∅⟩),rfl⟩
   .dsimp? [PQ,c,decide_false,Bool.false_eq_true]
    exact⟨_,_,_,_,∅,gL,rfl⟩
  .rintro δ ⟨L,w,o5,o6,lL,gL,rfl⟩
   rw[i7,Â]at lL;exact⟨L,_,_,_,lL,gL,rfl⟩
 rintro _ ⟨L,o4,o5,o6,lL,gL,rfl⟩;dsimp? [];exact⟨lL,gL⟩
section
variable{own b ts:D}{ss:List St}{cs:List (List Bx)}{as:List Ap}
def aBP{x y:Str}(la:as.length<=10)(ga:∀a∈as,iC a.x/\iC a.y)(hx:iC x)(hy:iC y):∃r,CL [UZ own b ss ts as,.str x,.str y]=.ok r []/\∃n:Int,r=.int n:=by
 refine FC ?_;show cQ CK [some (UZ own b ss ts as),some (.str x),some (.str y)] _ _ _ _;unfold CK;have i4:bN (UZ own b ss ts as) (.int 4)=some (.list (as.map ħ)):=rfl;have ct:∀x y z:D,vB (.tuple [x,y,z]) none (some 2)=some (.tuple [x,y]):=λ_ _ _=>rfl;obtain⟨h,hh⟩:∃h:Ap->Bool,∀a∈as,Ę (.tuple [.str a.x,.str a.y]) (.tuple [.tuple [.str x,.str y],.tuple [.str y,.str x]])=some (.bool (h a)):=by
  refine⟨λa=>open Classical in if q:a∈as then (aPT hx.sh hy.sh (ga a q).1.sh (ga a q).2.sh).choose else false,λa q=>?_⟩;dsimp only;rw[dif_pos q];exact(aPT hx.sh hy.sh (ga a q).1.sh (ga a q).2.sh).choose_spec
 have em:∃n:Int,FD (.list ((as.filter h).map λr=>PyData.int r.n)) (.int 0)=some (.int n):=by
  rw[show ((as.filter h).map λr=>PyData.int r.n)=((as.filter h).map λr=>r.n).map PyData.int by simp];refine⟨(iS none ((as.filter h).map λr=>r.n)).getD 0,?_⟩;show (fD _).map _=_;rw[BA];rfl
 let⟨n,em⟩:=em;generalize UZ own b ss ts as=sh at *;dsimp? [YE];refine bJ.of (aFK (enc:=ħ) (xs:=as) (h:=h) (g:=λr=>.int r.n) (dY (by dsimp? [i4])) ∅ (λr hr=>?_) λr hr=>by dsimp? [ħ]) ?_
 .dsimp? [ħ,BF,mZ,lB,s9,ct,hh r hr]
 .dsimp? [em]
  exact⟨n,rfl⟩
def aBQ{i j:Nat}(hi:i<ss.length)(hj:j<ss.length):∃n:Int,uO [UZ own b ss ts as,.int i,.int j]=.ok (.int n) []:=by
 refine⟨(((ss.getD i DK).x-(ss.getD j DK).x).natAbs:Int)+(((ss.getD i DK).y-(ss.getD j DK).y).natAbs:Int),aY (os:=[]) ?_⟩;show cQ uN [some (UZ own b ss ts as),some (.int i),some (.int j),none,none] _ _ _ _;unfold uN;dsimp? [nN (enc:=sV) (l:=ss) (d:=DK) hi,nN (enc:=sV) (l:=ss) (d:=DK) hj,sV]
def ű(n:Nat)(d:D):Prop:=∃(i j:Nat)(z:Str),i<n/\j<=30/\iC z/\d=.tuple [.int i,.int j,.str z]
def U0(lc:cs.length<=5)(gc:∀c∈cs,c.length<=8/\∀b∈c,iC b.k):∃r,lQ [.list (cs.map gG)]=.ok r []/\∃P,r=.list P/\P.length<=40/\∀d∈P,ű cs.length d:=by
 have e24:sizeLine=2^24:=rfl;refine FC ?_;show cQ lO [some (.list (cs.map gG)),none,none,none,none,none] _ _ _ _;unfold lO;dsimp? [];refine dO (ds:=eN (cs.map gG)) (δ1:=_) (λk δ=>∃P o2 o3 o4 o5,δ=[some (.list (cs.map gG)),some (.list P),o2,o3,o4,o5]/\P.length<=8*k/\∀d∈P,ű cs.length d) (kQ rfl) ⟨[],_,_,_,_,rfl,by simp,by simp⟩ ?_ ?_
 .rintro k d δ hk ⟨P,o2,o3,o4,o5,rfl,lP,gP⟩
  let⟨k1,rfl⟩:=iE (a0:=[]) hk;let⟨lb1,gb1⟩:=gc _ (bI (d:=[]) k1);refine⟨_,rfl,?_⟩;generalize cs.getD k []=bs at *;refine dO (ds:=eN (bs.map PQ)) (δ1:=_) (λt δ=>∃P o4 o5,δ=[some (.list (cs.map gG)),some (.list P),some (.int k),some (gG bs),o4,o5]/\P.length<=8*k+t/\∀d∈P,ű cs.length d) (kQ rfl) ⟨P,_,_,rfl,∅,gP⟩ ?_ ?_
  .rintro t d δ ht ⟨P,o4,o5,rfl,lP,gP⟩
   let⟨t1,rfl⟩:=iE (a0:=PR) ht;have gk:=gb1 _ (bI (d:=PR) t1);refine⟨_,rfl,?_⟩;generalize bs.getD t PR=bt at *;dsimp? [PQ];refine⟨∅,_,_,_,rfl,by rw[Î,í];lia,mB gP ⟨k,t,_,k1,∅,gk,rfl⟩⟩
  .rintro δ ⟨P,o4,o5,rfl,lP,gP⟩
   rw[i7,Â]at lP;exact⟨P,_,_,_,_,rfl,∅,gP⟩
 .rintro δ ⟨P,o2,o3,o4,o5,rfl,lP,gP⟩
  rw[i7,Â]at lP;dsimp? [];exact⟨∅,gP⟩
def MU(la:as.length<=10)(ga:∀a∈as,iC a.x/\iC a.y)(ls:cs.length=ss.length)(lc:cs.length<=5)(gc:∀c∈cs,c.length<=8/\∀b∈c,iC b.k):∃r,lT [UZ own b ss ts as,.list (cs.map gG)]=.ok r []/\∃L,r=.list L/\L.length<=1600/\∀d∈L,Rl d:=by
 have e24:sizeLine=2^24:=rfl;let⟨r,eP,P,rfl,lP,gP⟩:=U0 lc gc;have fs:=λ(x y:Str)hx hy=>aBP (own:=own) (b:=b) (ss:=ss) (ts:=ts) (as:=as) (x:=x) (y:=y) la ga hx hy;have ap:=λ(i j:Nat)hi hj=>aBQ (own:=own) (b:=b) (ss:=ss) (ts:=ts) (as:=as) (i:=i) (j:=j) hi hj;generalize UZ own b ss ts as=sh at *;refine FC ?_;show cQ lR [some sh,some (.list (cs.map gG)),none,none,none,none,none] _ _ _ _;unfold lR;dsimp? [eP];refine dO (ds:=eN P) (δ1:=_) (λk δ=>∃L o4 o5 o6,L.length<=40*k/\(∀d∈L,Rl d)/\δ=[some sh,some (.list (cs.map gG)),some (.list L),some (.list P),o4,o5,o6]) (kQ rfl) ⟨[],_,_,_,by simp,by simp,rfl⟩ ?_ ?_
 .rintro k d δ hk ⟨L,o4,o5,o6,lL,gL,rfl⟩
  have eid:P=P.map id:=by simp
  rw[eid]at hk;let⟨k1,rfl⟩:=iE (a0:=.none) hk;refine⟨_,rfl,?_⟩;let⟨i,j,z,hi,hj,gz,e1⟩:=gP _ (bI (d:=.none) k1);simp![id,e1];have ct:zM (.list P) (some ((k:Int)+1)) none=some (.list (P.drop (k+1))):=KO (k:=k+1) ∅;refine dO (ds:=P.drop (k+1)) (δ1:=_) (λt δ=>∃L o6,L.length<=40*k+t/\(∀d∈L,Rl d)/\δ=[some sh,some (.list (cs.map gG)),some (.list L),some (.list P),some (.int k),some (.tuple [.int i,.int j,.str z]),o6]) (dY (by dsimp? [BF,mZ,lB,s9,ct])) ⟨L,_,∅,gL,rfl⟩ ?_ ?_
  .rintro t d δ ht ⟨L,o6,lL,gL,rfl⟩
   have ht1:=(Ó.mp ht).1;rw[List.length_drop]at ht1;let⟨i2,j2,z2,hi2,hj2,gz2,rfl⟩:=gP d (List.mem_of_mem_drop (ä ht));refine⟨_,rfl,?_⟩;let⟨n,en⟩:=ap i i2 ∅ ∅;let⟨_,ef,m,rfl⟩:=fs z z2 gz gz2;by_cases c:n<m
   .dsimp? [ef,en,c,decide_true]
    exact⟨∅,_,_,by rw[Î,í];lia,mB gL (aQC ⟨∅,∅⟩ ⟨∅,∅⟩ ⟨∅,∅⟩ ⟨∅,∅⟩),rfl⟩
   .dsimp? [ef,en,c,decide_false,Bool.false_eq_true]
    exact⟨_,_,∅,gL,rfl⟩
  .rintro δ ⟨L,o6,lL,gL,rfl⟩
   rw[List.length_drop]at lL;exact⟨L,_,_,_,∅,gL,rfl⟩
 .rintro δ ⟨L,o4,o5,o6,lL,gL,rfl⟩
  rw[i7]at lL;dsimp? [];exact⟨∅,gL⟩
def MV(la:as.length<=10)(ga:∀a∈as,iC a.x/\iC a.y)(ls:cs.length=ss.length)(lc:cs.length<=5)(gc:∀c∈cs,c.length<=8/\∀b∈c,iC b.k):∃r,j0 [UZ own b ss ts as,.list (cs.map gG)]=.ok r []/\∃L,r=.list L/\L.length<=2000/\∀d∈L,Rl d:=by
 have e24:sizeLine=2^24:=rfl;let⟨r,ea,A,rfl,lA,gA⟩:=MU (own:=own) (b:=b) (ts:=ts) la ga ls lc gc;have i2:bN (UZ own b ss ts as) (.int 2)=some (.list (ss.map sV)):=rfl;generalize UZ own b ss ts as=sh at *;refine FC ?_;show cQ CM [some sh,some (.list (cs.map gG)),none,none,none] _ _ _ _;unfold CM;dsimp? [];refine dO (ds:=eN (cs.map gG)) (δ1:=_) (λk δ=>∃L o3 o4,L.length<=10*k/\(∀d∈L,Rl d)/\δ=[some sh,some (.list (cs.map gG)),some (.list L),o3,o4]) (kQ rfl) ⟨[],_,_,by simp,by simp,rfl⟩ ?_ ?_
 .rintro k d δ hk ⟨L,o3,o4,lL,gL,rfl⟩
  let⟨k1,rfl⟩:=iE (a0:=[]) hk;have lb1:=(gc _ (bI (d:=[]) k1)).1;refine⟨_,rfl,?_⟩;let⟨_,e1,L1,rfl,l1,g1⟩:=PV (st:=ss.getD k DK) (s:=(k:Int)) (bs:=cs.getD k []) ∅ ⟨∅,∅⟩;dsimp? [i2,nN (enc:=sV) (l:=ss) (d:=DK) (show k<ss.length by lia),e1,m6];exact⟨∅,_,_,_,by rw[Î];lia,SI gL g1,rfl⟩
 .rintro δ ⟨L,o3,o4,lL,gL,rfl⟩
  rw[i7,Â]at lL;dsimp? [ea,m6];exact⟨∅,by rw[Î];lia,SI gL gA⟩
end
end Toy
namespace L2
open PySem PySem.Spec
def GH{f:M D}{δ:DS}{ds:ZG}(h:bJ f δ λa δ1=>a=.tuple ds/\δ1=δ):bR f δ=.ok ds δ:=by
 unfold bR;rw[gR h];rfl
end L2
namespace Toy
open PySem L2 PySem.NumText
def SJ(s:tU):St:=⟨s.nm,s.a,s.b,s.c,s.x,s.y,s.z⟩
def aQD(b:fW):Bx:=⟨b.nm,b.w,b.p,b.q,b.e⟩
def aPU(a:VD):Ap:=⟨a.p,a.q,a.n⟩
def dZ.cO(S:dZ):(List (List Bx)):=S.cs.map λc=>c.map aQD
def dZ.oQ(S:dZ):Q4:=(S.own.getD 0 0,S.own.getD 1 0,S.own.getD 2 0,S.own.getD 3 0)
def dZ.wt(S:dZ):Q4:=T4 (S.oQ::AB (S.ss.map SJ) S.cO (S.ss.map SJ).length)
def aG2{S:dZ}:aR S=.list (S.cO.map gG):=by
 unfold aR dZ.cO;rw[Õ];congr 1;apply List.map_congr_left;intro c _;show PyData.list _=PyData.list _;rw[Õ];rfl
def aG3{S:dZ}:aT S=UZ (bB (yH S.own)) (bB (yH S.bd)) (S.ss.map SJ) (.list (S.ts.map λs=>bB s.r)) (S.ap.map aPU):=by
 unfold aT UZ;rw[Õ,Õ];rfl
def aKM{S:dZ}(G:S.Ok):bB (yH S.own)=ER S.oQ:=by
 let⟨a,b,c,d,e,_⟩:=G.own;unfold dZ.oQ;rw[e];rfl
def mC{z:Str}(h:vZ z=true):iC z:=⟨(l7 h).2.1,uW h⟩
def JS{S:dZ}(G:S.Ok):ļ S.oQ (S.ss.map SJ) S.cO []:=by
 let⟨a,b,c,d,e,h1,h2,h3,h4,h5⟩:=G.own;have ls:=G.ls;refine⟨?_,?_,by rw[Â];omega,by unfold dZ.cO;rw[Â,Â];exact G.lc,λc hc=>?_,by simp,λs hs=>?_,λc hc b hb=>?_,λt ht=>by cases ht⟩
 .unfold dZ.oQ;rw[e];exact⟨h1,h2.2⟩
 .unfold dZ.oQ;rw[e];exact⟨h3,h4,h5⟩
 .obtain⟨c',hc',rfl⟩:=Æ.mp hc
  rw[Â];have:=(G.cs c' hc').1;omega
 .obtain⟨s',hs',rfl⟩:=Æ.mp hs
  have g:=G.ss s' hs';exact⟨mC g.1,g.2.1,g.2.2.1,g.2.2.2.1,g.2.2.2.2.1.2⟩
 .obtain⟨c',hc',rfl⟩:=Æ.mp hc
  let⟨b',hb',rfl⟩:=Æ.mp hb;have g:=(G.cs c' hc').2 b' hb';exact⟨mC g.1,mC g.2.2.1,mC g.2.2.2.1,g.2.1.1,g.2.1.2.2⟩
def aPV{S:dZ}(G:S.Ok):sE [aT S,aR S]=.ok (û S.wt) []/\mO [aT S,aR S]=.ok (Ħ S.wt) []:=by
 rw[aG3,aG2,aKM G];exact⟨PU (JS G),MT (JS G)⟩
def Sq(B:Nat)(p:Q4):Prop:=p.1.natAbs<=B/\p.2.1.natAbs<=B/\p.2.2.1.natAbs<=B/\p.2.2.2.natAbs<=B
def wB{a x y s:Int}{B n:Nat}(h1:x.natAbs<=B)(h2:y.natAbs<=B)(h3:s.natAbs<=n*(B*B)):(x*y+s).natAbs<=(n+1)*(B*B):=by
 have:=Int.natAbs_add_le (x*y) s;rw[Int.natAbs_mul]at this;have:=Nat.mul_le_mul h1 h2;rw[Nat.succ_mul];omega
def aG4{B:Nat}(hB:1<=B):∀{l:List Q4},(∀p∈l,Sq B p)->Sq (l.length*(B*B)) (T4 l)
 |[]=>by intro _;exact⟨by simp[T4],by simp[T4],by simp[T4],by simp[T4]⟩
 |p::l=>by
  intro h;let⟨a,b,c,d⟩:=aG4 hB (l:=l) λq hq=>h q (É _ hq);let⟨p1,p2,p3,p4⟩:=h p Ì;refine⟨?_,wB (a:=0) p1 p2 b,wB (a:=0) p1 p3 c,wB (a:=0) p1 p4 d⟩;have:=wB (a:=0) (x:=p.1) (y:=1) (B:=B) p1 hB a;rw[Int.mul_one]at this;exact this
def aG5{S:dZ}(G:S.Ok):Sq (10^25) S.wt:=by
 have M:=JS G;have ls:=M.ls;have o0:=M.o0;have o1:=M.o1;unfold SG at o1;have pl:∀k,k<=(S.ss.map SJ).length->(AB (S.ss.map SJ) S.cO k).length<=30*k/\∀p∈AB (S.ss.map SJ) S.cO k,Sq 100000000000 p:=by
  intro k
  induction k with
  |zero=>exact λ_=>⟨by simp[AB],λp hp=>by simp[AB]at hp⟩
  |succ k ih=>
   intro hk;let⟨i1,i2⟩:=ih (by omega);have kc:k<S.cO.length:=by rw[M.lc];omega
   have lb:=M.lb _ (bI (d:=[]) kc);have gs:=M.gs _ (bI (d:=DK) (show k<(S.ss.map SJ).length by omega));have gb:=M.gb _ (bI (d:=[]) kc);rw[DL];refine⟨by rw[Î];unfold JW;rw[Â,List.length_range];omega,λp hp=>?_⟩
   rcases ë.mp hp with hp|hp
   .exact i2 p hp
   .unfold JW at hp
    let⟨j,hj,rfl⟩:=Æ.mp hp;have hj:=List.mem_range.mp hj;have w:=(gb _ (bI (d:=PR) hj)).w;have x:=gs.x;have y:=gs.y;have z:=gs.z;have t:=gs.t;unfold SG at x y z t;generalize S.cO.getD k []=c at *;generalize (S.ss.map SJ).getD k DK=s at *;have hz:(s.z+(j:Int)*s.t).natAbs<=100000000000:=by
     have h1:=Int.natAbs_add_le s.z ((j:Int)*s.t);rw[Int.natAbs_mul,Int.natAbs_natCast]at h1;have h2:j*s.t.natAbs<=30*1000000000:=Nat.mul_le_mul (by omega) (by omega);omega
    exact⟨by show (c.getD j PR).w.natAbs<=_;omega,by show s.x.natAbs<=_;omega,by show s.y.natAbs<=_;omega,hz⟩
 let⟨l1,l2⟩:=pl _ (È _);have h:=aG4 (B:=100000000000) ⋯ (l:=S.oQ::AB (S.ss.map SJ) S.cO (S.ss.map SJ).length) λp hp=>by
  rcases Å.mp hp with rfl|hp
  .exact⟨by omega,by omega,by omega,by omega⟩
  .exact l2 p hp
 rw[Ë]at h;let⟨a,b,c,d⟩:=h;have key:((AB (S.ss.map SJ) S.cO (S.ss.map SJ).length).length+1)*(100000000000*100000000000)<=301*(100000000000*100000000000):=Nat.mul_le_mul (by omega) (È _);have k2:301*(100000000000*100000000000)<=10^25:=by decide
 have k3:=Ñ key k2;exact⟨Ñ a k3,Ñ b k3,Ñ c k3,Ñ d k3⟩
def nS(i:Int):Str:=Str.ofString (toString i)
def aG6{i:Int}(h:i.natAbs<=10^25):strA [.int i]=some (.str (nS i)):=by
 show (if i.natAbs.log2<1920 then _ else _)=_;rw[Á]
 .rfl
 .have:i.natAbs.log2<=100:=by
   by_cases h0:i.natAbs=0
   .rw[h0];decide
   .have:=(Nat.log2_lt h0 (k:=100)).mpr (Nat.lt_of_le_of_lt h ⋯)
    omega
  omega
def DM{i:Int}(h:i.natAbs<=10^25):(nS i).length<=30:=by
 have e:=sK (i:=i);have l:(nS i).length=(nS i).cps.toList.length:=rfl;rw[l];unfold nS;rw[e];have f:(i8 i.natAbs).length<=26:=by
  unfold i8;rw[Â];exact(Nat.length_toDigits_le_iff ⋯ ⋯).mpr (Nat.lt_of_le_of_lt h ⋯)
 split
 .rw[Ë];omega
 .omega
def Ų{i:Int}:PyData.strOk (nS i)=true:=aO _
def Ņ(q:Q4):Str:=Builtin.Str.glued " " [nS q.1,nS q.2.1,nS q.2.2.1,nS q.2.2.2]
def MW{q:Q4}(h:Sq (10^25) q):jE " " (.list [.str (nS q.1),.str (nS q.2.1),.str (nS q.2.2.1),.str (nS q.2.2.2)])=some (.str (Ņ q)):=by
 have e:(" ":Str).length=1:=rfl;exact pK (g:=" ") (p:=nS q.1) (ps:=[nS q.2.1,nS q.2.2.1,nS q.2.2.2]) (m:=30) (DM h.1) (λz hz=>by
  simp![Å,Í,or_false]at hz;rcases hz with rfl|rfl|rfl
  .exact DM h.2.1
  .exact DM h.2.2.1
  .exact DM h.2.2.2) (by rw[e];exact Nat.le_of_ble_eq_true rfl) ⋯
def SK{q:Q4}(h:Sq (10^25) q){f:M (ZG)}{δ:DS}(hf:f δ=.ok [.int q.1,.int q.2.1,.int q.2.2.1,.int q.2.2.2] δ):bX 1 (cH 0) f bY (jY strA [(aD 0)]) δ=.ok (.list [.str (nS q.1),.str (nS q.2.1),.str (nS q.2.2.1),.str (nS q.2.2.2)]) δ:=
 eQ (enc:=PyData.int) (xs:=[q.1,q.2.1,q.2.2.1,q.2.2.2]) (g:=λi=>.str (nS i)) hf (Nat.le_of_ble_eq_true rfl) λi hi=>by
  have hb:i.natAbs<=10^25:=by
   simp![Å,Í,or_false]at hi;rcases hi with rfl|rfl|rfl|rfl
   .exact h.1
   .exact h.2.1
   .exact h.2.2.1
   .exact h.2.2.2
  dsimp? [aG6 hb]
def sN{sh cg ld pt:D}:BR 21 "Desk" "ship" (kR sh cg ld pt)=some sh:=by with_unfolding_all rfl
def rY{sh cg ld pt:D}:BR 21 "Desk" "cargo" (kR sh cg ld pt)=some cg:=by with_unfolding_all rfl
def aBS{sh cg ld pt:D}:BR 21 "Desk" "loads" (kR sh cg ld pt)=some ld:=by with_unfolding_all rfl
def aNH{S:dZ}(G:S.Ok){ld pt T:D}:fF [kR (aT S) (aR S) ld pt,T]=.ok (.str (Ņ S.wt)) [some (kR (aT S) (aR S) ld pt)]:=by
 have e1:=(aPV G).1;have b:=aG5 G;have j:=MW b;have f1:=sN (sh:=aT S) (cg:=aR S) (ld:=ld) (pt:=pt);have f2:=rY (sh:=aT S) (cg:=aR S) (ld:=ld) (pt:=pt);generalize kR (aT S) (aR S) ld pt=dk at *;generalize aT S=sh at *;generalize aR S=cg at *;refine aY (os:=[dk]) ?_;show cQ lX [some dk,some T] _ _ _ _;unfold lX;dsimp? [gZ,gW];refine bJ.of (SK b (GH (by dsimp? [uB,f1,f2,e1,û]))) ?_;dsimp? [j]
end Toy
namespace L2
open PySem PySem.Spec
def GI{α:Type}{enc g:α->D}{xs:List α}{f:M (ZG)}{e:M D}{δ:DS}(hf:f δ=.ok (xs.map enc) δ)(hl:xs.length<=100000)(he:∀x∈xs,bJ e (some (enc x)::δ) λa δ1=>a=g x/\δ1=some (enc x)::δ):bX 1 (cH 0) f bY e δ=.ok (.list (xs.map g)) δ:=by
 unfold bX;rw[hf];let⟨o',h⟩:=uV (acc:=[]) (o:=none) (λx hx=>gR (he x hx)) (Ñ (by simpa using hl) (show 100000<=sizeLine by decide));simp![Res.bind];rw[show List.replicate 1 (none:ZJ)++δ=none::δ from rfl,h];simp
end L2
namespace Toy
open PySem L2 PySem.NumText
abbrev M2:=Str×ZI
def ü(r:M2):D:=.tuple (.str r.1::r.2.map PyData.int)
structure wC(r:M2):Prop where
 w:r.1.length<=8/\PyData.strOk r.1=true
 l:r.2.length<=4
 i:∀i∈r.2,0<=i/\i<=1000
def aBT:∀{L:ZG},(∀d∈L,Rl d)->∃rs:List M2,L=rs.map ü/\∀r∈rs,wC r
 |[]=>by intro _;exact⟨[],rfl,λr h=>by cases h⟩
 |d::L=>by
  intro h;let⟨w,is,rfl,h1,h2,h3⟩:=h d Ì;let⟨rs,rfl,g⟩:=aBT (L:=L) λe he=>h e (É _ he);refine⟨(w,is)::rs,rfl,λr hr=>?_⟩;rcases Å.mp hr with rfl|hr
  .exact⟨h1,h2,h3⟩
  .exact g r hr
def U1{S:dZ}(G:S.Ok):∃rs:List M2,j0 [aT S,aR S]=.ok (.list (rs.map ü)) []/\rs.length<=2000/\∀r∈rs,wC r:=by
 have ls:=G.ls;have la:=G.la;rw[aG3,aG2];let⟨r,e,L,rfl,lL,gL⟩:=MV (own:=bB (yH S.own)) (b:=bB (yH S.bd)) (ts:=.list (S.ts.map λs=>bB s.r)) (ss:=S.ss.map SJ) (cs:=S.cO) (as:=S.ap.map aPU) (by rw[Â];omega) (λa ha=>by
  let⟨a',ha',rfl⟩:=Æ.mp ha;have g:=G.ap a' ha';exact⟨mC g.1,mC g.2.1⟩) (by unfold dZ.cO;rw[Â,Â];exact G.lc) (by unfold dZ.cO;rw[Â,G.lc];omega) (λc hc=>by
  let⟨c',hc',rfl⟩:=Æ.mp hc;refine⟨by rw[Â];exact(G.cs c' hc').1,λb hb=>?_⟩
  let⟨b',hb',rfl⟩:=Æ.mp hb;exact mC ((G.cs c' hc').2 b' hb').2.2.2.1)
 let⟨rs,rfl,g⟩:=aBT gL;exact⟨rs,e,by rw[Â]at lL;exact lL,g⟩
def wC.wd{r:M2}(h:wC r):JU (r.2.map PyData.int):=⟨by rw[Â];have:=h.l;omega,λd hd=>by
 let⟨i,hi,rfl⟩:=Æ.mp hd;have:=h.i i hi;exact .inl ⟨i,rfl,by omega,by omega⟩⟩
def SL(r:M2):Str:=ln r.1 (r.2.map PyData.int)
def wC.len{r:M2}(h:wC r):(SL r).length<=400:=jQ (by have:=h.w.1;omega) h.wd
def wC.ok{r:M2}(h:wC r):PyData.strOk (SL r)=true:=zI h.w.2 h.wd
def U2:List M2->Str
 |[]=>"none"
 |r::rs=>Builtin.Str.glued ", " ((r::rs).map SL)
def MX{r:M2}{rs:List M2}(hl:(r::rs).length<=2000)(h:∀q∈r::rs,wC q):jE ", " (.list ((r::rs).map λq=>.str (SL q)))=some (.str (U2 (r::rs))):=by
 have e:(", ":Str).length=2:=rfl;have:=pK (g:=", ") (p:=SL r) (ps:=rs.map SL) (m:=400) (h r Ì).len (λz hz=>by
  let⟨q,hq,rfl⟩:=Æ.mp hz;exact(h q (É _ hq)).len) (by rw[Â,e];rw[Ë]at hl;omega) ⋯
 rw[Õ]at this;exact this
def U3{rs:List M2}(hl:rs.length<=2000)(h:∀q∈rs,wC q):CO [.list (rs.map λq=>.str (SL q))]=.ok (.str (U2 rs)) []:=by
 refine aY (os:=[]) ?_;show cQ CN [some (.list (rs.map λq=>.str (SL q)))] _ _ _ _;unfold CN;cases rs with
 |nil=>
  dsimp? [List.map_nil];refine ZS (ds:=[]) (δ1:=[some (.list [])]) (cY (by dsimp? [])) ?_;dsimp? [List.isEmpty_nil,Bool.not_true,Bool.false_eq_true];rfl
 |cons r rs=>
  have j:=MX hl h;dsimp? [];refine ZS (ds:=(r::rs).map λq=>.str (SL q)) (δ1:=[some (.list ((r::rs).map λq=>.str (SL q)))]) (cY (by dsimp? [])) ?_;dsimp? [Ê,List.isEmpty_cons,Bool.not_false,gZ,gW];rw[Ê]at j;dsimp? [j]
def aNI{S:dZ}(G:S.Ok){ld pt T:D}:∃rs:List M2,(j0 [aT S,aR S]=.ok (.list (rs.map ü)) []/\rs.length<=2000/\∀r∈rs,wC r)/\gJ [kR (aT S) (aR S) ld pt,T]=.ok (.str (U2 rs)) [some (kR (aT S) (aR S) ld pt)]:=by
 let⟨rs,eb,lr,gr⟩:=U1 G;refine⟨rs,⟨eb,lr,gr⟩,?_⟩;have f1:=sN (sh:=aT S) (cg:=aR S) (ld:=ld) (pt:=pt);have f2:=rY (sh:=aT S) (cg:=aR S) (ld:=ld) (pt:=pt);have el:=U3 lr gr;generalize kR (aT S) (aR S) ld pt=dk at *;generalize aT S=sh at *;generalize aR S=cg at *;refine aY (os:=[dk]) ?_;show cQ pG [some dk,some T] _ _ _ _;unfold pG;dsimp? [];refine bJ.of (GI (enc:=ü) (xs:=rs) (g:=λq=>.str (SL q)) (dY (by dsimp? [uB,f1,f2,eb])) (by omega) λr hr=>?_) ?_
 .have w:=lZ (f:=r.1) (by have:=(gr r hr).w.1;omega) (gr r hr).wd
  have w':dD [.str r.1,.tuple (r.2.map PyData.int)]=.ok (.str (SL r)) []:=w;have i0:bN (ü r) (.int 0)=some (.str r.1):=jG (j:=0) rfl rfl;have c1:vB (ü r) (some 1) none=some (.tuple (r.2.map PyData.int)):=ϻ;generalize ü r=R at *;dsimp? [i0,BF,mZ,lB,s9,c1,w']
 .dsimp? [el]
def aNJ{S:dZ}{rs:List M2}(eb:j0 [aT S,aR S]=.ok (.list (rs.map ü)) [])(lr:rs.length<=2000)(gr:∀r∈rs,wC r):xY [aT S,aR S]=.ok (.str (U2 rs)) []:=by
 generalize aT S=sh at *;generalize aR S=cg at *;refine aY (os:=[]) ?_;show cQ xX [some sh,some cg,none] _ _ _ _;unfold xX;dsimp? [];refine bJ.of (GI (enc:=ü) (xs:=rs) (g:=λq=>.str (SL q)) (dY (by dsimp? [eb])) (by omega) λr hr=>?_) ?_
 .have hg:=gr r hr
  have hl:=hg.l;dsimp? [gZ,gW];refine bJ.of (eQ (enc:=id) (xs:=.str r.1::r.2.map PyData.int) (g:=λd=>.str (wS d)) (by rw[List.map_id];exact sI rfl) (by rw[Ë,Â];omega) λd hd=>?_) ?_
  .rcases Å.mp hd with rfl|hd
   .have q:strA [.str r.1]=some (.str (wS (.str r.1))):=rfl
    dsimp? [id,q]
   .dsimp? [id,(hg.wd.2 d hd).strA]
  .have e:(" ":Str).length=1:=rfl
   have j:=pK (g:=" ") (p:=r.1) (ps:=(r.2.map PyData.int).map wS) (m:=30) (by have:=hg.w.1;omega) (λz hz=>by
    let⟨d,hd,rfl⟩:=Æ.mp hz;exact(hg.wd.2 d hd).len) (by rw[Â,Â,e];omega) ⋯
   rw[Õ]at j;have j':jE " " (.list ((.str r.1::r.2.map PyData.int).map λd=>.str (wS d)))=some (.str (SL r)):=j;dsimp? [j']
 .cases rs with
  |nil=>
   dsimp? [List.map_nil,List.length_nil,TF];rfl
  |cons r rs=>
   have j:=MX lr gr;have c:decide (((r::rs).length:Int)=0)=false:=decide_eq_false (by rw[Ë];omega);dsimp? [Â,TF,c,Bool.false_eq_true,gZ,gW,j]
def PX{x y z:Str}{ls:ZE}(h:Txt.split x y=ls)(h2:2<=ls.length)(hy:(y.length == 0)=false):Txt.replace x y z=Builtin.Str.glued z ls:=by
 unfold Txt.split at h;split at h
 .rw[<- h,í]at h2;omega
 .split at h
  .rw[<- h,í]at h2;omega
  .rename_i c
   unfold Txt.replace;rw[Ã (by rw[hy,Bool.false_and,Bool.or_false];exact c),h]
def DN{S:dZ}(G:S.Ok):Txt.split (eR S.rows) "\n"=S.rows.map iB:=by
 unfold eR;have hr:S.rows=(Str.ofString "own",yH S.own)::S.rows.tail:=rfl;rw[hr,Ê,ϩ];refine mH λq hq=>?_;rw[<- Ê,<- hr]at hq;let⟨r,hr',rfl⟩:=Æ.mp hq;let⟨k,hk,e⟩:=List.mem_iff_getElem.mp hr';exact(G.rowsOk k r (by rw[Ç hk,e])).nl
def MY{S:dZ}(G:S.Ok):(eR S.rows).length<=100000/\PyData.strOk (eR S.rows)=true:=by
 rw[<- yI G];refine⟨?_,aE4 G.good⟩;let⟨h1,h2⟩:=C7 G.good;have e:hd S.shp++tR S.shp S.shp.ss.length=ln "own" S.shp.own::(ln "bounds" S.shp.bd::(S.shp.ss.map (ln "stack")++S.shp.ts.map (ln "tank")++S.shp.ap.map (ln "apart")++tR S.shp S.shp.ss.length)):=by simp[hd]
 unfold wV;rw[e]at h1 h2⊢;generalize (ln "bounds" S.shp.bd::(S.shp.ss.map (ln "stack")++S.shp.ts.map (ln "tank")++S.shp.ap.map (ln "apart")++tR S.shp S.shp.ss.length))=ps at *;have e1:("\n":Str).length=1:=rfl;have:=sJ (g:="\n") (m:=400) (h1 _ Ì).1 λq hq=>(h1 q (É _ hq)).1;rw[Ë]at h2;rw[e1]at this;omega
def PY(S:dZ):Str:=Builtin.Str.glued ", " (S.rows.map iB)
def aNK{S:dZ}(G:S.Ok){ld pt T:D}:hW [kR (aT S) (aR S) ld pt,T]=.ok (.str (PY S)) [some (kR (aT S) (aR S) ld pt)]:=by
 have e1:=UY G;have ll:=G.len;have er:=PX (z:=", ") (DN G) (by rw[Â];exact ll.2) (by decide +kernel);have r:LH "\n" ", " (.str (eR S.rows))=some (.str (PY S)):=by
  show (if _ then _ else _)=_;rw[Á (by have:=(MY G).1;omega),er];rfl
 have f1:=sN (sh:=aT S) (cg:=aR S) (ld:=ld) (pt:=pt);have f2:=rY (sh:=aT S) (cg:=aR S) (ld:=ld) (pt:=pt);generalize kR (aT S) (aR S) ld pt=dk at *;generalize aT S=sh at *;generalize aR S=cg at *;generalize eR S.rows=tx at *;refine aY (os:=[dk]) ?_;show cQ rO [some dk,some T] _ _ _ _;unfold rO;dsimp? [uB,f1,f2,e1,r]
def U4{S:dZ}(G:S.Ok):fV (eR S.rows) "\n"=some (.list ((S.rows.map iB).map .str)):=by
 unfold fV;rw[Á ⟨by decide +kernel,Ñ (Nat.add_le_add_right (MY G).1 2) ⋯⟩,DN G]
def aBU{S:dZ}(G:S.Ok):jE ", " (.list ((S.rows.map iB).map .str))=some (.str (PY S)):=by
 have e:(", ":Str).length=2:=rfl;have ll:=G.len;have hl:∀r∈S.rows,(iB r).length<=400:=λr hr=>by
  let⟨k,hk,e⟩:=List.mem_iff_getElem.mp hr;have R:=G.rowsOk k r (by rw[Ç hk,e]);exact jQ R.l R.wdl
 unfold PY;have hr:S.rows=(Str.ofString "own",yH S.own)::S.rows.tail:=rfl;rw[hr]at hl ll⊢;rw[Ê];exact pK (g:=", ") (m:=400) (hl _ Ì) (λz hz=>by
  let⟨q,hq,rfl⟩:=Æ.mp hz;exact hl q (É _ hq)) (by rw[Â,e];rw[Ë]at ll;omega) ⋯
def DQ:fW:=⟨"",0,"","",0⟩
def MZ(z:Str):List fW->Option Nat
 |[]=>none
 |b::r=>if b.nm=z then some 0 else (MZ z r).map (·+1)
def VE(z:Str):List (tU×List fW)->Str
 |[]=>"away"
 |p::r=>match MZ z p.2 with
  |some t=>ln p.1.nm [.int (t:Int)]
  |none=>VE z r
def M0{f:Str}{ds:ZG}(hf:f.length<=30)(h:JU ds):dD [.str f,.list ds]=.ok (.str (ln f ds)) []:=by
 have h1:=h.1;have e24:sizeLine=2^24:=rfl;refine aY (os:=[]) ?_;show cQ oC [some (.str f),some (.list ds)] _ _ _ _;unfold oC;dsimp? [gZ,gW];refine bJ.of (eQ (enc:=λd=>d) (xs:=ds) (g:=λd=>.str (wS d)) (by rw[List.map_id'];exact fG rfl) (by omega) λd hd=>?_) ?_
 .dsimp? [(h.2 d hd).strA]
 .have e:(" ":Str).length=1:=rfl
  have j:=pK (g:=" ") (p:=f) (ps:=ds.map wS) (m:=30) hf (λq hq=>by
   let⟨d,hd,rfl⟩:=Æ.mp hq;exact(h.2 d hd).len) (by rw[Â,e];omega) ⋯
  rw[Õ]at j;have j':jE " " (.list ([.str f]++ds.map λd=>PyData.str (wS d)))=some (.str (ln f ds)):=j;dsimp? [Â,j'];omega
def aBV{z:Str}{c:List fW}{t:Nat}(h:t<c.length):MZ z (c.drop t)=if (c.getD t DQ).nm=z then some 0 else (MZ z (c.drop (t+1))).map (·+1):=by
 rw[ð h,Ð,Ç h];rfl
def aKN{S:dZ}(G:S.Ok){z:Str}(hz:vZ z=true){ld pt:D}:gK [kR (aT S) (aR S) ld pt,.tuple [.str z]]=.ok (.str (VE z (S.ss.zip S.cs))) [some (kR (aT S) (aR S) ld pt)]:=by
 have f1:=sN (sh:=aT S) (cg:=aR S) (ld:=ld) (pt:=pt);have f2:=rY (sh:=aT S) (cg:=aR S) (ld:=ld) (pt:=pt);have lc:=G.lc;have i2:bN (aT S) (.int 2)=some (.list (S.ss.map λs=>bB s.r)):=rfl;have ec:aR S=.list (S.cs.map c8):=rfl;have p0:bN (.tuple [.str z]) (.int 0)=some (.str z):=rfl;generalize kR (aT S) (aR S) ld pt=dk at *;rw[ec]at f2;generalize aT S=sh at *;generalize PyData.tuple [.str z]=T at *;refine aY (os:=[dk]) ?_;show cQ pH [some dk,some T,none,none,none,none] _ _ _ _;unfold pH;dsimp? [];refine dO (ds:=jZ (S.ss.map λs=>bB s.r) (S.cs.map c8)) (δ1:=_) (λk δ=>∃o2 o3 o4 o5,VE z ((S.ss.zip S.cs).drop k)=VE z (S.ss.zip S.cs)/\δ=[some dk,some T,o2,o3,o4,o5]) (AM (by dsimp? [uB,f1,f2,i2])) ⟨none,none,none,none,by rw[List.drop_zero],rfl⟩ ?_ ?_
 .rintro k d δ hk ⟨o2,o3,o4,o5,ew,rfl⟩
  let⟨k1,k2,rfl⟩:=v4 (a0:=mD) (b0:=[]) hk;have gs:=G.ss _ (bI (d:=mD) k1);have gc:=G.cs _ (bI (d:=[]) k2);have ez:(S.ss.zip S.cs).drop k=(S.ss.getD k mD,S.cs.getD k [])::(S.ss.zip S.cs).drop (k+1):=by
   rw[ð (by rw[List.length_zip];omega),List.getElem_zip,Ð,Ç k1,Ð,Ç k2];rfl
  rw[ez]at ew;refine⟨_,rfl,?_⟩;generalize hs:S.ss.getD k mD=s at *;generalize hc:S.cs.getD k []=c at *;have lc8:=gc.1;refine dO (ds:=eN (c.map λb=>bB b.r)) (δ1:=_) (λt δ=>∃o4 o5,MZ z c=(MZ z (c.drop t)).map (·+t)/\δ=[some dk,some T,some (bB s.r),some (c8 c),o4,o5]) (kQ rfl) ⟨o4,o5,by rw[List.drop_zero];cases MZ z c<;>rfl,rfl⟩ ?_ ?_
  .rintro t d δ ht ⟨o4,o5,ef,rfl⟩
   let⟨t1,rfl⟩:=iE (a0:=DQ) ht;have gb:=gc.2 _ (bI (d:=DQ) t1);rw[aBV t1]at ef;refine⟨_,rfl,?_⟩;generalize c.getD t DQ=b at *;have i0:bN (bB b.r) (.int 0)=some (.str b.nm):=jG (j:=0) rfl rfl;have s0:bN (bB s.r) (.int 0)=some (.str s.nm):=jG (j:=0) rfl rfl;have eq:=ĥ (x:=b.nm) (y:=z) (uW gb.1) (uW hz);have wr:=M0 (f:=s.nm) (ds:=[.int (t:Int)]) (by have:=(l7 gs.1).2.1;omega) ⟨by simp,λd hd=>by
    rw[ç.mp hd];exact .inl ⟨_,rfl,by omega,by omega⟩⟩
   generalize bB b.r=B at *;by_cases hb:b.nm=z
   .have q:(b.nm == z)=true:=by simpa using hb
    rw[q]at eq;rw[Á hb]at ef;have e1:VE z (S.ss.zip S.cs)=ln s.nm [.int (t:Int)]:=by
     rw[<- ew];show (match MZ z c with|some t=>_|none=>_)=_;rw[ef];simp
    rw[e1];generalize bB s.r=B2 at *;dsimp? [i0,p0,eq,s0,wr,Ë,List.length_nil]
   .have q:(b.nm == z)=false:=by simpa using hb
    rw[q]at eq;rw[Ã hb]at ef;generalize bB s.r=B2 at *;dsimp? [i0,p0,eq,Bool.false_eq_true];exact⟨_,_,by rw[ef];cases MZ z (c.drop (t+1))<;>simp;omega,rfl⟩
  .rintro δ ⟨o4,o5,ef,rfl⟩
   rw[i7,Â,List.drop_length]at ef;have ef:MZ z c=none:=ef;refine⟨_,_,_,_,?_,rfl⟩;rw[<- ew];show _=(match MZ z c with|some t=>_|none=>_);rw[ef]
 .rintro δ ⟨o2,o3,o4,o5,ew,rfl⟩
  rw[AN (by simp[lc]),Â]at ew;rw[List.drop_of_length_le (by rw[List.length_zip];omega)]at ew;dsimp? [];rw[<- ew];rfl
abbrev nQ(bs:List fW):ZE:=bs.map fW.nm
def PZ{cs:List (List fW)}(nd:(nQ cs.flatten).Nodup)(hl:cs.flatten.length<=300):pC [.list (cs.map c8)]=.ok (EO (nQ cs.flatten)) []:=by
 refine aY (os:=[]) ?_;show cQ uP [some (.list (cs.map c8)),none,none,none] _ _ _ _;unfold uP;dsimp? [];have e0:qA [] []=EO (nQ ([]:List (List fW)).flatten):=rfl;rw[e0];have sub:∀k,∃rest,cs.flatten=(cs.take k).flatten++rest:=λk=>⟨(cs.drop k).flatten,by rw[<- List.flatten_append,List.take_append_drop]⟩;refine dO (ds:=cs.map c8) (δ1:=_) (λk δ=>∃o2 o3,δ=[some (.list (cs.map c8)),some (EO (nQ (cs.take k).flatten)),o2,o3]) (fG rfl) ⟨none,none,rfl⟩ ?_ ?_
 .rintro k d δ hk ⟨o2,o3,rfl⟩
  have k1:k<cs.length:=by have:=(Ó.mp hk).1;rwa [Â]at this
  rw[Ò,i9 (d:=[]) k1]at hk;cases hk;refine⟨_,rfl,?_⟩;have ek:(cs.take (k+1)).flatten=(cs.take k).flatten++cs.getD k []:=by
   rw[List.take_add_one,i9 (d:=[]) k1,List.flatten_append];simp
  let⟨rest,er⟩:=sub (k+1);rw[ek]at er;rw[er]at nd hl;rw[ek];generalize (cs.take k).flatten=P at *;generalize cs.getD k []=bs at *;refine dO (ds:=bs.map λb=>bB b.r) (δ1:=_) (λt δ=>∃o3,δ=[some (.list (cs.map c8)),some (EO (nQ (P++bs.take t))),some (c8 bs),o3]) (fG rfl) ⟨o3,by rw[List.take_zero,Û];rfl⟩ ?_ ?_
  .rintro t d δ ht ⟨o3,rfl⟩
   have t1:t<bs.length:=by have:=(Ó.mp ht).1;rwa [Â]at this
   rw[Ò,i9 (d:=DQ) t1]at ht;cases ht;have et:P++bs.take (t+1)=P++bs.take t++[bs.getD t DQ]:=by rw[List.take_add_one,i9 (d:=DQ) t1,List.append_assoc];rfl
   have eb:bs=bs.take t++(bs.getD t DQ::bs.drop (t+1)):=by
    have:=List.take_append_drop t bs;rw[ð t1]at this;rw[Ð,Ç t1];exact this.symm
   have ni:(bs.getD t DQ).nm∉nQ (P++bs.take t):=by
    rw[eb,<- List.append_assoc,List.append_assoc]at nd;have nd:((P++bs.take t).map (λb=>b.nm)++(bs.getD t DQ::bs.drop (t+1)++rest).map λb=>b.nm).Nodup:=by rw[<- Ø];exact nd
    have:=(List.nodup_append.mp nd).2.2;intro hm;exact this _ hm _ (by simp) rfl
   have ln:(nQ (P++bs.take t)).length<=1000:=by
    rw[Î,Î]at hl;rw[Â,Î,ì];omega
   refine⟨_,rfl,?_⟩;rw[et,show nQ (P++bs.take t++[bs.getD t DQ])=nQ (P++bs.take t)++[(bs.getD t DQ).nm]from Ø];generalize bs.getD t DQ=x at *;have i0:bN (bB x.r) (.int 0)=some (.str x.nm):=jG (j:=0) rfl rfl;dsimp? [wW,i0,JI ni ln];exact⟨_,rfl⟩
  .rintro δ ⟨o3,rfl⟩
   rw[Â,List.take_length];exact⟨_,_,rfl⟩
 .rintro δ ⟨o2,o3,rfl⟩
  rw[Â,List.take_length];dsimp? [N0]
def aNL{S:dZ}(G:S.Ok)(h1:1<=S.ss.length){ld pt:D}:lW [kR (aT S) (aR S) ld pt,.str (S.ss.getD 0 mD).nm]=.ok (.int 0) [some (kR (aT S) (aR S) ld pt)]:=by
 have f1:=sN (sh:=aT S) (cg:=aR S) (ld:=ld) (pt:=pt);have i2:bN (aT S) (.int 2)=some (.list (S.ss.map λs=>bB s.r)):=rfl;have gs:=G.ss _ (bI (d:=mD) (show 0<S.ss.length by omega));generalize kR (aT S) (aR S) ld pt=dk at *;generalize aT S=sh at *;refine aY (os:=[dk]) ?_;show cQ lV [some dk,some (.str (S.ss.getD 0 mD).nm),none,none] _ _ _ _;unfold lV;dsimp? [];have en:gC (aU bN (gS 0 21 "Desk" "ship") (dC (.int 2))) [some dk,some (.str (S.ss.getD 0 mD).nm),none,none]=.ok (eN (S.ss.map λs=>bB s.r)) [some dk,some (.str (S.ss.getD 0 mD).nm),none,none]:=by
  have hd:aU bN (gS 0 21 "Desk" "ship") (dC (.int 2)) [some dk,some (.str (S.ss.getD 0 mD).nm),none,none]=.ok (.list (S.ss.map λs=>bB s.r)) [some dk,some (.str (S.ss.getD 0 mD).nm),none,none]:=cY (by dsimp? [uB,f1,i2]);simp![gC,bO,hd,bZ]
 refine dO (ds:=eN (S.ss.map λs=>bB s.r)) (δ1:=_) (λk δ=>k=0/\δ=[some dk,some (.str (S.ss.getD 0 mD).nm),none,none]) en ⟨rfl,rfl⟩ ?_ ?_
 .rintro k d δ hk ⟨rfl,rfl⟩
  let⟨k1,rfl⟩:=iE (a0:=mD) hk;refine⟨_,rfl,?_⟩;generalize S.ss.getD 0 mD=s at *;have s0:bN (bB s.r) (.int 0)=some (.str s.nm):=jG (j:=0) rfl rfl;have eq:=ĥ (x:=s.nm) (y:=s.nm) (uW gs.1) (uW gs.1);rw[beq_self_eq_true]at eq;generalize bB s.r=B2 at *;dsimp? [s0,eq];rfl
 .rintro δ ⟨h,_⟩
  rw[i7,Â]at h;omega
def aNM{S:dZ}(G:S.Ok)(h1:1<=S.ss.length){b:fW}(hb:b.Ok)(hn:b.nm∉nQ S.cs.flatten):nL [aT S,aR S,.list [.tuple [bB b.r,.int 0]]]=.ok .none []:=by
 have ls:=G.ls;have hl:S.cs.flatten.length<=40:=by
  have:∀cs:List (List fW),(∀c∈cs,c.length<=8)->cs.flatten.length<=8*cs.length:=by
   intro cs
   induction cs with
   |nil=>intro _;simp
   |cons c cs ih=>
    intro h;have:=ih λx hx=>h x (É _ hx);have:=h c Ì;rw[List.flatten_cons,Î,Ë];omega
  have:=this S.cs λc hc=>(G.cs c hc).1;rw[G.lc]at this;omega
 have en:pC [aR S]=.ok (EO (nQ S.cs.flatten)) []:=PZ G.nb (by omega);have eb:=ϭ hb hn;have i2:bN (aT S) (.int 2)=some (.list (S.ss.map λs=>bB s.r)):=rfl;have i0:bN (bB b.r) (.int 0)=some (.str b.nm):=rfl;have pn:=JI (z:=b.nm) (zs:=nQ S.cs.flatten) hn (by rw[Â];omega);generalize EO (nQ S.cs.flatten)=N at *;generalize EO (nQ S.cs.flatten++[b.nm])=N2 at *;generalize aT S=sh at *;generalize aR S=cg at *;generalize bB b.r=B at *;have lz:dR [.list (S.ss.map λs=>bB s.r)]=some (.int (S.ss.length:Int)):=by
  show some (PyData.int (((S.ss.map λs=>bB s.r).length:Nat):Int))=_;rw[Â]
 have ch:∀o,eU QK VB (dC (.int 0)) (aD 5) (jY dR [(aU bN (aD 0) (dC (.int 2)))]) [some sh,some cg,o,some N,some B,some (.int 0)]=.ok (.bool true) [some sh,some cg,o,some N,some B,some (.int 0)]:=λo=>by
  have h3:jY dR [(aU bN (aD 0) (dC (.int 2)))] [some sh,some cg,o,some N,some B,some (.int 0)]=.ok (.int (S.ss.length:Int)) [some sh,some cg,o,some N,some B,some (.int 0)]:=cY (by dsimp? [i2,Â]);have l1:QK (.int 0) (.int 0)=some (.bool true):=rfl;have l2:VB (.int 0) (.int (S.ss.length:Int))=some (.bool true):=by
   show some (PyData.bool (decide ((0:Int)<(S.ss.length:Int))))=_;rw[decide_eq_true (by omega)]
  unfold eU;simp![KI,bZ,aD,List.getElem?_cons_succ,List.getElem?_cons_zero,l1,h3,l2]
 refine mQ (os:=[]) ?_;show cQ nK [some sh,some cg,some (.list [.tuple [B,.int 0]]),none,none,none] _ _ _ _;unfold nK;dsimp? [en];refine dO (ds:=[.tuple [B,.int 0]]) (δ1:=_) (λk δ=>(k=0/\δ=[some sh,some cg,some (.list [.tuple [B,.int 0]]),some N,none,none])\/k=1/\∃o3 o4 o5,δ=[some sh,some cg,some (.list [.tuple [B,.int 0]]),o3,o4,o5]) (fG rfl) (.inl ⟨rfl,rfl⟩) ?_ ?_
 .rintro k d δ hk h
  rcases h with ⟨rfl,rfl⟩|⟨rfl,_⟩
  .cases hk
   refine⟨_,rfl,?_⟩;dsimp? [];refine bJ.of (ch _) ?_;dsimp? [Bool.not_true,Bool.false_eq_true,eb,wW,i0,pn];exact .inr ⟨_,_,_,rfl⟩
  .cases hk
 .rintro δ h
  trivial
def aNN{S:dZ}(G:S.Ok)(h1:1<=S.ss.length){b:fW}(hb:b.Ok)(hn:b.nm∉nQ S.cs.flatten){pt:D}:∃ld,hV [kR (aT S) (aR S) (.list []) pt,.tuple (mR (b.r++[(false,.str (S.ss.getD 0 mD).nm)]))]=.ok (.str "ok") [some (kR (aT S) (aR S) ld pt)]:=by
 refine⟨.list [.tuple [bB b.r,.int 0]],?_⟩;have f1:=sN (sh:=aT S) (cg:=aR S) (ld:=.list []) (pt:=pt);have f2:=rY (sh:=aT S) (cg:=aR S) (ld:=.list []) (pt:=pt);have f3:=aBS (sh:=aT S) (cg:=aR S) (ld:=.list []) (pt:=pt);have f4:∀y,vI 21 0 "Desk" "loads" y (kR (aT S) (aR S) (.list []) pt)=some (kR (aT S) (aR S) y pt):=λy=>by with_unfolding_all rfl
 have e1:=aNL G h1 (ld:=.list []) (pt:=pt);have e2:=aNM G h1 hb hn;have c5:vB (.tuple (mR (b.r++[(false,.str (S.ss.getD 0 mD).nm)]))) none (some 5)=some (bB b.r):=rfl;have p5:bN (.tuple (mR (b.r++[(false,.str (S.ss.getD 0 mD).nm)]))) (.int 5)=some (.str (S.ss.getD 0 mD).nm):=rfl;have f4:=f4 (.list [.tuple [bB b.r,.int 0]]);generalize PyData.tuple (mR (b.r++[(false,.str (S.ss.getD 0 mD).nm)]))=T at *;generalize kR (aT S) (aR S) (.list [.tuple [bB b.r,.int 0]]) pt=dk2 at *;generalize kR (aT S) (aR S) (.list []) pt=dk at *;generalize aT S=sh at *;generalize aR S=cg at *;generalize bB b.r=B at *;refine aY (os:=[dk2]) ?_;show cQ rN [some dk,some T,none] _ _ _ _;unfold rN;dsimp?! [uB,f3,BF,mZ,lB,s9,c5,p5,e1,f1,f2,e2,BT,f4,List.nil_append,List.length_nil,Ë]
def P0{p q:Str}{r:ZE}:Builtin.Str.glued " " (p::q::r)=p++" "++Builtin.Str.glued " " (q::r):=by
 refine HV ?_;show _=((p.cps++(" ":Str).cps)++(Builtin.Str.glued " " (q::r)).cps).toList;rw[Array.toList_append,Array.toList_append,ŀ,vL,vL];show _++32::_=(_++[32])++_;rw[List.append_assoc];rfl
def wD{dk dk':D}{line x:Str}(hm:y6 "Desk" "say" dk)(he:fM [dk,.str line]=.ok (.str x) [some dk'])(ho:PyData.strOk x=true):j5 [dk,.str line,.str x]=.ok (.bool true) [some dk']:=by
 have is:A8 .str (.str x)=some (.bool true):=rfl;have eq:=ĥ (x:=x) (y:=x) ho ho;rw[beq_self_eq_true]at eq;refine aY (os:=[dk']) ?_;show cQ CY [some dk,some (.str line),some (.str x),none] _ _ _ _;unfold CY;dsimp? [Y9,hm,he,true_and,is,eq]
def SM{sh cg ld pt:D}:y6 "Desk" "say" (kR sh cg ld pt):=by with_unfolding_all exact⟨rfl,rfl⟩
def ų:JV []:=⟨⋯,λp hp=>by cases hp⟩
def aQE{z:Str}(h:vZ z=true):JV [(false,.str z)]:=⟨Nat.le_of_ble_eq_true rfl,λp hp=>by rw[ç.mp hp];exact EQ h⟩
def Ĩ{w:Str}(h:w.cps.toList.all (λc=>decide (45<=c))=true):∀c∈w.cps.toList,45<=c:=λc hc=>of_decide_eq_true (ß.mp h c hc)
section
variable{S:dZ}{ld pt:D}{z:Str}
def U5(G:S.Ok):fM [kR (aT S) (aR S) ld pt,.str "weigh"]=.ok (.str (Ņ S.wt)) [some (kR (aT S) (aR S) ld pt)]:=
 DH (w:="weigh") (ps:=[]) (en:=([21,0],fF)) (show bV.lookup (Str.ofString "weigh")=some ⟨#[]⟩ by decide +kernel) (ú (aO _) (aO _) (by decide +kernel)) ų (Ĩ (by decide +kernel)) (by show 5<=30;decide) (by with_unfolding_all rfl) (aNH G)
def U6(G:S.Ok):∃rs:List M2,(j0 [aT S,aR S]=.ok (.list (rs.map ü)) []/\rs.length<=2000/\∀r∈rs,wC r)/\fM [kR (aT S) (aR S) ld pt,.str "rules"]=.ok (.str (U2 rs)) [some (kR (aT S) (aR S) ld pt)]:=by
 let⟨rs,h1,h2⟩:=aNI G (ld:=ld) (pt:=pt) (T:=.tuple (mR []));exact⟨rs,h1,DH (w:="rules") (ps:=[]) (en:=([21,0],gJ)) (show bV.lookup (Str.ofString "rules")=some ⟨#[]⟩ by decide +kernel) (ú (aO _) (aO _) (by decide +kernel)) ų (Ĩ (by decide +kernel)) (by show 5<=30;decide) (by with_unfolding_all rfl) h2⟩
def aBX(G:S.Ok):fM [kR (aT S) (aR S) ld pt,.str "show"]=.ok (.str (PY S)) [some (kR (aT S) (aR S) ld pt)]:=
 DH (w:="show") (ps:=[]) (en:=([21,0],hW)) (show bV.lookup (Str.ofString "show")=some ⟨#[]⟩ by decide +kernel) (ú (aO _) (aO _) (by decide +kernel)) ų (Ĩ (by decide +kernel)) (by show 4<=30;decide) (by with_unfolding_all rfl) (aNK G)
def aBY:ln "where" (mR [(false,.str z)])="where "++z:=by
 have e:("where ":Str)="where"++" ":=by decide +kernel
 rw[e];rfl
def U7(G:S.Ok)(hz:vZ z=true):fM [kR (aT S) (aR S) ld pt,.str ("where "++z)]=.ok (.str (VE z (S.ss.zip S.cs))) [some (kR (aT S) (aR S) ld pt)]:=by
 rw[<- aBY];exact DH (w:="where") (ps:=[(false,.str z)]) (en:=([21,0,0,0,0,0],gK)) (show bV.lookup (Str.ofString "where")=some ⟨#[119]⟩ by decide +kernel) (ú (aO _) (aO _) (by decide +kernel)) (aQE hz) (Ĩ (by decide +kernel)) (by show 5<=30;decide) (by with_unfolding_all rfl) (aKN G hz)
def aBZ(G:S.Ok)(h1:1<=S.ss.length){b:fW}(hb:b.Ok)(hn:b.nm∉nQ S.cs.flatten):∃ld,fM [kR (aT S) (aR S) (.list []) pt,.str (ln "load" (mR (b.r++[(false,.str (S.ss.getD 0 mD).nm)])))]=.ok (.str "ok") [some (kR (aT S) (aR S) ld pt)]:=by
 let⟨ld,e⟩:=aNN G h1 hb hn (pt:=pt);have gs:=G.ss _ (bI (d:=mD) (show 0<S.ss.length by omega));have hf0:bV.lookup (Str.ofString "load")=some ⟨#[119,110,119,119,110,119]⟩:=by decide +kernel
 have hf:bV.lookup (Str.ofString "load")=some (fS (b.r++[(false,.str (S.ss.getD 0 mD).nm)])):=hf0;refine⟨ld,DH (w:="load") (ps:=b.r++[(false,.str (S.ss.getD 0 mD).nm)]) (en:=([21,0,0],hV)) hf (ú (aO _) (aO _) (by decide +kernel)) ⟨by show 6<=10;decide,λp hp=>?_⟩ (Ĩ (by decide +kernel)) (by show 4<=30;decide) (by with_unfolding_all rfl) e⟩;rcases ë.mp hp with hp|hp
 .exact hb.wk.2 p hp
 .rw[ç.mp hp]
  exact EQ gs.1
def aB0{c:List fW}(h:∀b∈c,b.nm≠z):MZ z c=none:=by
 induction c with
 |nil=>rfl
 |cons b c ih=>
  unfold MZ;rw[Ã (h b Ì),ih λx hx=>h x (É _ hx)];rfl
def aB1:∀{c:List fW}{t:Nat},(c.map fW.nm).Nodup->t<c.length->(c.getD t DQ).nm=z->MZ z c=some t
 |b::c,0,_,_,e=>by
  unfold MZ;rw[Á (show b.nm=z from e)]
 |b::c,t+1,nd,h,e=>by
  rw[Ê,Ā]at nd;have h:t<c.length:=by rw[Ë]at h;omega
  have e:(c.getD t DQ).nm=z:=e;unfold MZ;rw[Ã λq=>nd.1 (by rw[q,<- e];exact List.mem_map_of_mem (bI h)),aB1 nd.2 h e]
  rfl
def aB2:∀{l:List (tU×List fW)},(∀p∈l,∀b∈p.2,b.nm≠z)->VE z l="away"
 |[]=>by intro _;exact rfl
 |p::l=>by
  intro h;unfold VE;rw[aB0 (h p Ì)];exact aB2 λq hq=>h q (É _ hq)
def aB3:∀{ss:List tU}{cs:List (List fW)}{i t:Nat},(cs.flatten.map fW.nm).Nodup->i<ss.length->i<cs.length->t<(cs.getD i []).length->((cs.getD i []).getD t DQ).nm=z->VE z (ss.zip cs)=ln (ss.getD i mD).nm [.int (t:Int)]
 |s::ss,c::cs,0,t,nd,_,_,ht,e=>by
  rw[List.flatten_cons,Ø]at nd;rw[Ù];unfold VE;rw[aB1 (List.nodup_append.mp nd).1 ht e];rfl
 |s::ss,c::cs,i+1,t,nd,h1,h2,ht,e=>by
  rw[List.flatten_cons,Ø]at nd;have nd:=List.nodup_append.mp nd;have h2:i<cs.length:=by rw[Ë]at h2;omega
  have h1:i<ss.length:=by rw[Ë]at h1;omega
  have ht:t<(cs.getD i []).length:=ht;have e:((cs.getD i []).getD t DQ).nm=z:=e;rw[Ù];unfold VE;have nb:MZ z c=none:=aB0 λb hb q=>nd.2.2 b.nm (List.mem_map_of_mem hb) z (by
   rw[<- e];exact List.mem_map_of_mem (List.mem_flatten.mpr ⟨_,bI h2,bI ht⟩)) q
  rw[nb];exact aB3 nd.2.1 h1 h2 ht e
end
section
variable{S:dZ}{ld pt:D}{z:Str}
def aKO{q:Q4}:PyData.strOk (Ņ q)=true:=oF (aO _) Ų λx hx=>by
 simp![Å,Í,or_false]at hx;rcases hx with rfl|rfl|rfl<;>exact Ų
def aFL{rs:List M2}(h:∀r∈rs,wC r):PyData.strOk (U2 rs)=true:=by
 cases rs with
 |nil=>exact aO _
 |cons r rs=>
  refine oF (aO _) (h r Ì).ok λx hx=>?_;let⟨q,hq,rfl⟩:=Æ.mp hx;exact(h q (É _ hq)).ok
def aFM(G:S.Ok):PyData.strOk (PY S)=true:=by
 have hl:∀r∈S.rows,PyData.strOk (iB r)=true:=λr hr=>by
  let⟨k,hk,e⟩:=List.mem_iff_getElem.mp hr;have R:=G.rowsOk k r (by rw[Ç hk,e]);exact zI R.o R.wdl
 have hr:S.rows=(Str.ofString "own",yH S.own)::S.rows.tail:=rfl;unfold PY;rw[hr]at hl⊢;rw[Ê];exact oF (aO _) (hl _ Ì) λx hx=>by
  let⟨q,hq,rfl⟩:=Æ.mp hx;exact hl q (É _ hq)
def DP(G:S.Ok)(hz:vZ z=true)(hn:z∉nQ S.cs.flatten):hX [kR (aT S) (aR S) ld pt,aT S,aR S,.str z]=.ok (.bool true) [some (kR (aT S) (aR S) ld pt)]:=by
 have e24:sizeLine=2^24:=rfl;have ls:=G.ls;have lc:=G.lc;have m:=SM (sh:=aT S) (cg:=aR S) (ld:=ld) (pt:=pt);have s1:=wD m (U5 G (ld:=ld) (pt:=pt)) aKO;let⟨rs,⟨eb,lr,gr⟩,sr⟩:=U6 G (ld:=ld) (pt:=pt);have s2:=wD m sr (aFL gr);have el:=aNJ eb lr gr;have s3:=λ(y:Str)(hy:vZ y=true)(x:Str)(ho:PyData.strOk x=true)(e:VE y (S.ss.zip S.cs)=x)=>wD (x:=x) m (by have:=U7 G hy (ld:=ld) (pt:=pt);rw[e]at this;exact this) ho
 have s4:=s3 z hz "away" (aO _) (aB2 λp hp b hb q=>hn (by
  rw[<- q];exact List.mem_map_of_mem (List.mem_flatten.mpr ⟨p.2,(List.of_mem_zip hp).2,hb⟩)))
 have s5:=wD m (aBX G (ld:=ld) (pt:=pt)) (aFM G);have ew:=(aPV G).2;have bw:=aG5 G;have jw:=MW bw;have et:=DG G;have sp:=U4 G;have js:=aBU G;have i2:bN (aT S) (.int 2)=some (.list (S.ss.map λs=>bB s.r)):=rfl;have ec:aR S=.list (S.cs.map c8):=rfl;have ad:b8 (.str "where ") (.str z)=some (.str ("where "++z)):=fU (by have:=(l7 hz).2.1;show 6+z.length<=1000;omega);have gi:∀k,k<S.ss.length->(S.ss.getD k mD).Ok:=λk hk=>G.ss _ (bI hk);have gb:∀k,k<S.cs.length->(S.cs.getD k []).length<=8/\∀t,t<(S.cs.getD k []).length->((S.cs.getD k []).getD t DQ).Ok:=λk hk=>⟨(G.cs _ (bI hk)).1,λt ht=>(G.cs _ (bI hk)).2 _ (bI ht)⟩;have nb:=G.nb;generalize kR (aT S) (aR S) ld pt=dk at *;generalize aT S=sh at *;generalize eR S.rows=tx at *;rw[ec]at ew el et⊢;refine aY (os:=[dk]) ?_;show cQ xZ [some dk,some sh,some (.list (S.cs.map c8)),some (.str z),none,none] _ _ _ _;unfold xZ;rw[L2.seq_assoc];refine rT (λδ=>δ=[some dk,some sh,some (.list (S.cs.map c8)),some (.str z),none,none]) ?_ ?_
 .dsimp? [gZ,gW]
  refine bJ.of (SK bw (dY (by dsimp? [ew]))) ?_;dsimp? [jw,s1,Bool.not_true,Bool.false_eq_true,el,s2]
 rintro δ rfl;refine rT (λδ=>∃o4 o5,δ=[some dk,some sh,some (.list (S.cs.map c8)),some (.str z),o4,o5]) ?_ ?_
 .refine BE (j:=S.cs.length) (δ1:=_) (λk δ=>∃o4 o5,δ=[some dk,some sh,some (.list (S.cs.map c8)),some (.str z),o4,o5]) (cY (by dsimp? [Â])) (by omega) ⟨none,none,rfl⟩ ?_ ?_
  .rintro k δ hk ⟨o4,o5,rfl⟩
   refine⟨_,rfl,?_⟩;have gk:=gi k (by omega);have gc:=gb k hk;have ac:atI (S.cs.map c8) (k:Int)=some (c8 (S.cs.getD k [])):=nN (d:=[]) hk;have as:atI (S.ss.map λs=>bB s.r) (k:Int)=some (bB (S.ss.getD k mD).r):=nN (enc:=λs=>bB s.r) (d:=mD) (show k<S.ss.length by omega);have wa:=λt(ht:t<(S.cs.getD k []).length)=>aB3 (z:=((S.cs.getD k []).getD t DQ).nm) (i:=k) (t:=t) nb (show k<S.ss.length by omega) hk ht rfl;generalize hs:S.ss.getD k mD=s at *;generalize hc:S.cs.getD k []=c at *;have lc8:=gc.1;refine BE (j:=c.length) (δ1:=_) (λt δ=>∃o5,δ=[some dk,some sh,some (.list (S.cs.map c8)),some (.str z),some (.int (k:Int)),o5]) (cY (by dsimp? [ac,c8,Â])) (by omega) ⟨o5,rfl⟩ ?_ ?_
   .rintro t δ ht ⟨o5,rfl⟩
    refine⟨_,rfl,?_⟩;have wa:=wa t ht;have gt:=gc.2 t ht;have ab:atI (c.map λb=>bB b.r) (t:Int)=some (bB (c.getD t DQ).r):=nN (enc:=λb=>bB b.r) (d:=DQ) ht;generalize c.getD t DQ=b at *;have b0:bN (bB b.r) (.int 0)=some (.str b.nm):=jG (j:=0) rfl rfl;have s0:bN (bB s.r) (.int 0)=some (.str s.nm):=jG (j:=0) rfl rfl;have a1:b8 (.str "where ") (.str b.nm)=some (.str ("where "++b.nm)):=fU (by have:=(l7 gt.1).2.1;show 6+b.nm.length<=1000;omega);have a2:b8 (.str s.nm) (.str " ")=some (.str (s.nm++" ")):=fU (by have:=(l7 gk.1).2.1;show s.nm.length+1<=1000;omega);have nt:strA [.int (t:Int)]=some (.str (nS (t:Int))):=aG6 (by omega);have lt:=DM (i:=(t:Int)) (by omega);have a3:b8 (.str (s.nm++" ")) (.str (nS (t:Int)))=some (.str (s.nm++" "++nS (t:Int))):=fU (by rw[bS];have:=(l7 gk.1).2.1;show s.nm.length+1+_<=1000;omega)
    have sy:=s3 b.nm gt.1 (s.nm++" "++nS (t:Int)) (C6 (C6 (uW gk.1) (aO _)) Ų) wa;generalize bB b.r=B at *;generalize bB s.r=B2 at *;dsimp? [ac,c8,ab,b0,a1,i2,as,s0,a2,nt,a3,sy,Bool.not_true,Bool.false_eq_true];exact⟨_,rfl⟩
   .rintro δ ⟨o5,rfl⟩
    exact⟨_,_,rfl⟩
  .rintro δ ⟨o4,o5,rfl⟩
   exact⟨_,_,rfl⟩
 rintro δ ⟨o4,o5,rfl⟩;dsimp? [ad,s4,Bool.not_true,Bool.false_eq_true,gZ,gW,tQ,et,sp,js,s5]
end
section
variable{ns:ZI}
def SN{α:Type}:∀{l:List α}{j:Nat}(h:j<l.length),(l[j]::l.eraseIdx j).Perm l
 |a::l,0,h=>List.Perm.refl _
 |a::l,j+1,h=>by
  have h':j<l.length:=by simpa using h
  show (l[j]::a::l.eraseIdx j).Perm (a::l);exact(List.Perm.swap ..).trans ((SN h').cons a)
def aB4{α β:Type}{f:α->β}:∀{l:List α}{j:Nat},(l.map f).eraseIdx j=(l.eraseIdx j).map f
 |[],_=>rfl
 |a::l,0=>rfl
 |a::l,j+1=>by
  show f a::(l.map f).eraseIdx j=f a::(l.eraseIdx j).map f;rw[aB4]
def GJ:∀{cs:List (List fW)}{i j:Nat}(hi:i<cs.length)(hj:j<cs[i].length),(cs[i][j]::(cs.set i (cs[i].eraseIdx j)).flatten).Perm cs.flatten
 |c::cs,0,j,_,hj=>by
  show (c[j]::(c.eraseIdx j++cs.flatten)).Perm (c++cs.flatten);exact(SN (l:=c) hj).append_right _
 |c::cs,i+1,j,hi,hj=>by
  have hi':i<cs.length:=by simpa using hi
  have h:=GJ (cs:=cs) (i:=i) (j:=j) hi' hj;show (cs[i][j]::(c++(cs.set i (cs[i].eraseIdx j)).flatten)).Perm (c++cs.flatten);exact List.perm_middle.symm.trans (h.append_left c)
def Ď.pop{M:Nat}{cs:List (List fW)}(C:Ď ns M cs){i j:Nat}(hi:i<cs.length)(hj:j<cs[i].length):Ď ns M (cs.set i (cs[i].eraseIdx j))/\cs[i][j].nm∉nQ (cs.set i (cs[i].eraseIdx j)).flatten:=by
 have p:=GJ hi hj;have pn:=p.map fW.nm;have nd:=pn.nodup_iff.mpr C.nb;rw[Ê,Ā]at nd;refine⟨⟨by rw[à];exact C.lc,λc hc=>?_,λb hb=>C.mem b (p.mem_iff.mp (É _ hb)),nd.2⟩,nd.1⟩
 rcases List.mem_or_eq_of_mem_set hc with h|rfl
 .exact C.l8 c h
 .have:=C.l8 _ (List.getElem_mem hi)
  have:(cs[i].eraseIdx j).length<=cs[i].length:=List.length_eraseIdx_le ..;lia
def VF(b:fW):Str:=Builtin.Str.glued " " ((mR b.r).map wS)
def aFN{b:fW}{z:Str}:ln "load" (mR (b.r++[(false,.str z)]))="load "++VF b++" "++z:=by
 have e:("load ":Str)="load"++" ":=by decide +kernel
 have h1:ln "load" (mR (b.r++[(false,.str z)]))=Builtin.Str.glued " " ("load"::((mR b.r).map wS++[z])):=rfl;rw[h1,PJ,e];have h2:Builtin.Str.glued " " ("load"::(mR b.r).map wS)="load"++" "++VF b:=P0 (p:="load") (q:=b.nm) (r:=[wS (.int b.w),wS (.str b.p),wS (.str b.q),wS (.int b.e)]);rw[h2]
def aFO{b:fW}(h:b.Ok):(VF b).length<=400:=by
 have w:=h.wk.wd;have e:VF b=ln b.nm [.int b.w,.str b.p,.str b.q,.int b.e]:=rfl;rw[e];exact jQ (by have:=(l7 h.1).2.1;omega) ⟨by show 4<=10;decide,λd hd=>w.2 d (É _ hd)⟩
def aB5{b:fW}(h:b.Ok):jE " " (.list ((mR b.r).map λd=>PyData.str (wS d)))=some (.str (VF b)):=by
 have w:=h.wk.wd;have e:(" ":Str).length=1:=rfl;have j:=pK (g:=" ") (p:=b.nm) (ps:=[wS (.int b.w),wS (.str b.p),wS (.str b.q),wS (.int b.e)]) (m:=30) (by have:=(l7 h.1).2.1;omega) (λq hq=>by
  let⟨d,hd,rfl⟩:=Æ.mp (show q∈[PyData.int b.w,.str b.p,.str b.q,.int b.e].map wS from hq);exact(w.2 d (É _ hd)).len) (by rw[e];show 5*31<=1000000;decide) ⋯
 exact j
def aB6(ns:ZI)(_:ns.length<=63):MF [iL ns]=.ok (.bool true) []:=by
 have e24:sizeLine=2^24:=rfl;have q1:=jA (ns:=ns) (k:=1) (m:=4) ⋯;have tM:=jA (ns:=ns) (k:=19) (m:=8) ⋯;have eM:=rV (ns:=ns) (k:=19) (m:=8) ⋯ ⋯ ⋯;obtain⟨M,hM⟩:∃M:Nat,dr ns 19 8=(M:Int):=⟨(dr ns 19 8).toNat,∅⟩;rw[hM]at eM tM;let⟨r,e2,cs,rfl,lc,g8,pc⟩:=UX (ns:=ns) (m:=(M:Int)) (cs0:=[]) ∅ ∅;rw[Int.toNat_natCast]at pc;have C:Ď ns M cs:=⟨lc,g8,λb hb=>by
  let⟨i,hi,rfl⟩:=Æ.mp (pc.mem_iff.mp hb);exact⟨i,List.mem_range.mp hi,rfl⟩,by
  have:=pc.map fW.nm;rw[Õ]at this;exact this.nodup_iff.mpr (Ű (k:=nx ns 16) ∅)⟩
 have aw:∀cs',Ď ns M cs'->nm ns (nx ns 16) (M:Int)∉nQ cs'.flatten:=λcs' C' h=>by
  let⟨b,hb,e⟩:=Æ.mp h;let⟨i,hi,rfl⟩:=C'.mem b hb;have:=ϳ ∅ ∅ ∅ ∅ (show nm ns (nx ns 16) (i:Int)=nm ns (nx ns 16) (M:Int)from e);lia
 have e1:vW [iL ns]=.ok (aT (nP ns cs)) []:=aFH;have e2:sH [iL ns,aT (nP ns cs),.int (M:Int)]=.ok (.list (cs.map c8)) []:=e2;have eb:=SE (ns:=ns) (n:=(M:Int)) ∅ ∅;have ob:(SD ns (M:Int)).Ok:=ϵ ∅;have en:=j7 (ns:=ns) (k:=16) (n:=(M:Int)) ⋯ ⋯ ∅ ∅;have eo:=pW (ns:=ns) (k:=37) (m:=(cs.length:Int)) ⋯ ⋯ ∅;have to:=l9 (ns:=ns) (k:=37) (m:=(cs.length:Int)) ∅;have G:=DF C;have lss:(nP ns cs).ss.length=(1+dr ns 1 4).toNat:=by show (List.map _ _).length=_;rw[Â,List.length_range]
 have h1:1<=(nP ns cs).ss.length:=by lia
 have eT:j4 [aT (nP ns cs),.list (cs.map c8)]=_:=DG G;have mk:=SF G;have sw1:hX [kR (aT (nP ns cs)) (aR (nP ns cs)) (.list []) (.list []),aT (nP ns cs),.list (cs.map c8),_]=_:=DP G (ld:=.list []) (pt:=.list []) (z:=nm ns (nx ns 16) (M:Int)) nO (aw cs C);let⟨ld,sl⟩:=aBZ G h1 (pt:=.list []) ob (aw cs C);have sy:=wD SM sl (aO _);rw[aFN]at sy;have sw3:hX [kR (aT (nP ns cs)) (aR (nP ns cs)) ld (.list []),aT (nP ns cs),.list (cs.map c8),_]=_:=DP G (ld:=ld) (pt:=.list []) (z:=nm ns (nx ns 16) (M:Int)) nO (aw cs C);have rest:∀cs',Ď ns M cs'->j4 [aT (nP ns cs),.list (cs'.map c8)]=.ok (.str (eR (nP ns cs').rows)) []/\fP [eI "Desk" [] [],.str (eR (nP ns cs').rows)]=.ok .none [some (kR (aT (nP ns cs)) (.list (cs'.map c8)) (.list []) (.list []))] /\
   ∀z,vZ z=true->z∉nQ cs'.flatten->hX [kR (aT (nP ns cs)) (.list (cs'.map c8)) (.list []) (.list []),aT (nP ns cs),.list (cs'.map c8),.str z]=.ok (.bool true) [some (kR (aT (nP ns cs)) (.list (cs'.map c8)) (.list []) (.list []))]:=λcs' C'=>
  ⟨DG (DF C'),SF (DF C'),λz hz hn=>DP (DF C') hz hn⟩
 have i2:bN (aT (nP ns cs)) (.int 2)=some (.list ((nP ns cs).ss.map λs=>bB s.r)):=rfl;have i20:bN (.list ((nP ns cs).ss.map λs=>bB s.r)) (.int 0)=some (bB ((nP ns cs).ss.getD 0 mD).r):=nN (k:=0) (enc:=λs:tU=>bB s.r) (d:=mD) ∅;have i200:bN (bB ((nP ns cs).ss.getD 0 mD).r) (.int 0)=some (.str ((nP ns cs).ss.getD 0 mD).nm):=jG (j:=0) rfl rfl;have zs:=(l7 (G.ss _ (bI (d:=mD) (show 0<(nP ns cs).ss.length by lia))).1).2.1;have ib:bN (bB (SD ns (M:Int)).r) (.int 0)=some (.str (nm ns (nx ns 16) (M:Int))):=jG (j:=0) rfl rfl;have lL:=aFO ob;have jL:=aB5 ob;have wb:=ob.wk.wd;have tb:bB (SD ns (M:Int)).r=.tuple (mR (SD ns (M:Int)).r):=rfl;have ok0:vZ (nm ns (nx ns 16) (M:Int))=true:=nO;have a0:=aw cs C;generalize nm ns (nx ns 16) (M:Int)=away at *;generalize SD ns (M:Int)=b at *;generalize (nP ns cs).ss.getD 0 mD=s0 at *;generalize kR (aT (nP ns cs)) (aR (nP ns cs)) (.list []) (.list [])=dk1 at *;generalize kR (aT (nP ns cs)) (aR (nP ns cs)) ld (.list [])=dk3 at *;generalize (nP ns cs).ss.map (λs=>bB s.r)=sss at *;generalize eR (nP ns cs).rows=tx at *;have cp:∀(δ:DS)(h:δ[3]?=some (some (.list (cs.map c8)))),bX 1 (cH 0) (bR (aD 3)) bY (jY KG [(aD 0)]) δ=.ok (.list (cs.map c8)) δ:=λδ h=>eQ (enc:=c8) (xs:=cs) (g:=c8) (fG h) ∅ λx _=>by dsimp? [c8,KG]
 have a1:b8 (.str "load ") (.str (VF b))=some (.str ("load "++VF b)):=fU (by show 5+_<=1000;lia);have a2:b8 (.str ("load "++VF b)) (.str " ")=some (.str ("load "++VF b++" ")):=fU (by rw[bS];show 5+_+1<=1000;lia);have a3:b8 (.str ("load "++VF b++" ")) (.str s0.nm)=some (.str ("load "++VF b++" "++s0.nm)):=fU (by rw[bS,bS];show 5+_+1+_<=1000;lia);generalize hL:VF b=L at *;refine aY (os:=[]) ?_;show cQ Ū [some (iL ns),none,none,none,none,none,none,none,none,none,none] _ _ _ _;unfold Ū;generalize aT (nP ns cs)=sh at *;refine aE1 (λδ=>δ=[some (iL ns),some sh,some (.int (M:Int)),some (.list (cs.map c8)),some (.list (cs.map c8)),some (.str away),none,none,none,none,none]) ?_ ?_
 .dsimp? [e1,eM,e2]
  refine bJ.of (cp _ rfl) ?_;dsimp? [eb,ib]
 rintro δ rfl;generalize ot ns 37 (cs.length:Int)=t at *;obtain⟨i,rfl⟩:∃i:Nat,t=(i:Int):=⟨t.toNat,∅⟩;have hi:i<cs.length:=by lia
 have ai:atI (cs.map c8) (i:Int)=some (c8 cs[i]):=jG (j:=i) rfl (by rw[Ò,Ç hi];rfl);have a8:=g8 _ (List.getElem_mem hi);refine rT (λδ=>δ=[some (iL ns),some sh,some (.int (M:Int)),some (.list (cs.map c8)),some (.list (cs.map c8)),some (.str away),some (.int (i:Int)),none,none,none,none]) ?_ ?_
 .dsimp? [Â,eo]
 rintro δ rfl;refine rT (λδ=>∃(cs':List (List fW))(g:Str),δ=[some (iL ns),some sh,some (.int (M:Int)),some (.list (cs.map c8)),some (.list (cs'.map c8)),some (.str g),some (.int (i:Int)),none,none,none,none]/\Ď ns M cs'/\vZ g=true/\g∉nQ cs'.flatten) ?_ ?_
 .by_cases c0:(0:Int)<(cs[i].length:Int)
  .have te:=tW (ns:=ns) (k:=37) (m:=(cs[i].length:Int)) ⋯ ⋯ c0
   have tl:=mS (ns:=ns) (k:=37) (m:=(cs[i].length:Int)) c0;generalize th ns 37 (cs[i].length:Int)=u at *;obtain⟨j,rfl⟩:∃j:Nat,u=(j:Int):=⟨u.toNat,∅⟩;have hj:j<cs[i].length:=by lia
   have pb:=aJ1 (Q:=λ_ _=>True) (i:=4) (fk:=aD 6) (fe:=aM cX [.val (aD 0),.val (dC (.int 37)),.val (jY dR [(aU bN (aD 4) (aD 6))])]) (δ:=[some (iL ns),some sh,some (.int (M:Int)),some (.list (cs.map c8)),some (.list (cs.map c8)),some (.str away),some (.int (i:Int)),none,none,none,none]) (ds:=cs.map c8) (k:=(i:Int)) (j:=i) (inner:=cs[i].map λb=>bB b.r) (e:=(j:Int)) (n:=j) (d:=bB cs[i][j].r) (δ2:=_) (δ3:=_) rfl (cY (by dsimp? [];rfl)) (cY (by dsimp? [ai,c8,Â,te];rfl)) (L2.ixN_of rfl (by rw[Â];exact hi)) (by rw[Ò,Ç hi];rfl) (L2.ixN_of rfl (by rw[Â];exact hj)) (by rw[Ò,Ç hj];rfl) (by rw[Â];lia);have P:=C.pop hi hj;have ec:(cs.map c8).set i (.list ((cs[i].map λb=>bB b.r).eraseIdx j))=(cs.set i (cs[i].eraseIdx j)).map c8:=by
    rw[List.map_set,aB4]
   have ij:bN (bB cs[i][j].r) (.int 0)=some (.str cs[i][j].nm):=jG (j:=0) rfl rfl;have oj:vZ cs[i][j].nm=true:=(((DF C).cs _ (List.getElem_mem hi)).2 _ (List.getElem_mem hj)).1;dsimp? [wQ,ai,c8,Â,c0,decide_true];refine bJ.of pb ?_;dsimp? [ij];exact⟨_,_,by rw[ec],P.1,oj,P.2⟩
  .dsimp? [wQ,ai,c8,Â,c0,decide_false,Bool.false_eq_true]
   exact⟨cs,away,rfl,C,ok0,a0⟩
 rintro δ ⟨cs',g,rfl,C',og,ng⟩;let⟨t2,mk2,sw2⟩:=rest cs' C';have sw2:=sw2 g og ng;generalize kR sh (.list (cs'.map c8)) (.list []) (.list [])=dk2 at *;generalize eR (nP ns cs').rows=tx2 at *;dsimp? [OA,eT];unfold K7;refine⟨_,_,rfl,mk,?_⟩;dsimp? [OA,t2];unfold K7;refine⟨_,_,rfl,mk2,?_⟩;dsimp? [en,sw1,sw2,Bool.not_true,Bool.false_eq_true];dsimp? [gZ,gW];refine bJ.of (eQ (enc:=λd=>d) (xs:=mR b.r) (g:=λd=>.str (wS d)) (by rw[List.map_id'];exact GH (by dsimp? [eb,tb])) (by have:=wb.1;omega) λd hd=>by dsimp? [(wb.2 d hd).strA]) ?_
 dsimp? [jL,a1,a2,i2,i20,i200,a3,sy,sw3,Bool.not_true,Bool.false_eq_true]
end
end Toy
namespace Toy
open PySem L2
theorem all_mk{l:W.OpenLaw}{w:World}{fa:Addr}{K:ZC}{mg:ZD}(T:Txt l.prog w K mg)(lnt:W.noTabs K=true)(hfa:mg "law"=some (.ref fa)):
  (W.noTabs K=true/\∃c P pos,pQ K=some (c,P,pos))/\∃fd:FuncData,(∀(s:Shared)(v:Value),BindsTo s fd ⟨[v],[]⟩ [("_law_script",v)])/\∀base:Heap,K.In base->base.Ns mainGlobals mg->cM K mg base->sP l.prog w K mg base (E7 l.prog w K) 8 fa fd ["_law_script"] (NL K ["_law_script"] [] [0,0,0,0,0,0,0,0,0,0,0] 0 MF):=by
 have e:=hfa.symm.trans T.x110.m;cases e;exact⟨⟨lnt,_,_,_,T.lamE⟩,T.x110.fd,λs v=>by
  let⟨_,_,_,_,_,_,_,_,_,e,_⟩:=T.x110.F.ex;rw[e];exact .of_eq rfl,λbase _ _ B=>aJ4 T B⟩
def walk{l:W.OpenLaw}{q:Program}{loose:ZE}{XP:(ZD)->Heap->Prop}{YP:World->Heap->Prop}{d:DefRec}{K:Params->ZC}(hn:l.most=some 63)(hdf:d.params.defaults=[])(hY:∀(w:World)(h:Heap),YP w h->(K w.params).In h)(hrec:∃dl,(PyProof.Rows.recsOf q).find? (λe=>e.name == qB)=some dl)(F:∀(w:World)(mg:ZD)(fa:Addr)(h:Heap),(K w.params).In h->h.Ns mainGlobals mg->mg d.name=some (.ref fa) ->
   (W.noTabs (K w.params)=true/\∃c P pos,pQ (K w.params)=some (c,P,pos))/\∃fd:FuncData,(∀(s:Shared)(u:Value),BindsTo s fd ⟨[u],[]⟩ [("_law_script",u)])/\∀base:Heap,(K w.params).In base->base.Ns mainGlobals mg->cM (K w.params) mg base->sP l.prog w (K w.params) mg base (E7 l.prog w (K w.params)) 8 fa fd ["_law_script"] (NL (K w.params) ["_law_script"] [] [0,0,0,0,0,0,0,0,0,0,0] 0 MF)):
  W.WalkO q loose XP YP l.row.toRowW d [] (λf vs=>PySem.call f vs):=
 let ⟨_,hrec⟩:=hrec
 L2.walk_ofL (n:=63) (k:=8) (x:="_law_script") (CX:=λw=>E7 l.prog w (K w.params)) (sp:=λw=>NL (K w.params) ["_law_script"] [] [0,0,0,0,0,0,0,0,0,0,0] 0 MF) hn ⋯ hdf ⟨rfl,⋯,⋯⟩ hY hrec F (λ_ _ a ns hl hL hS=>N9 hS (aB6 ns hl) hL) λ_ _ _ _ _ z=>S9 z
@[inline]def aPW{α:Type _}{β:Type _}(a:α)(_:β):α:=a
@[inline]def pv:Program:={PySem.Challenge.pw_keel_k75_what_a_desk_shows with main:={PySem.Challenge.pw_keel_k75_what_a_desk_shows.main with body:=[bF 0,bF 1,bF 2,bF 3,bF 4,bF 5,bF 6,bF 7,bF 8,bF 9,bF 10,bF 11,bF 12,bF 13,bF 14,bF 15,bF 16,bF 17,bF 18,bF 19,bF 20,aPW (bF 21) (PySem.Stmt.FunctionDef (aPW ("":Str) PySem.Expr.Lambda)),bF 22,bF 23,bF 24,bF 25,bF 26,bF 27,bF 28,bF 29,bF 30,bF 31,bF 32,bF 33,bF 34,bF 35,bF 36,bF 37,bF 38,bF 39,bF 40,bF 41,bF 42,bF 43,bF 44,bF 45,bF 46,bF 47,bF 48,bF 49,bF 50,bF 51,bF 52,bF 53,bF 54,bF 55,bF 56,bF 57,bF 58,bF 59,bF 60,bF 61,bF 62,bF 63,bF 64,bF 65,bF 66,bF 67,bF 68,bF 69,bF 70,bF 71,bF 72,bF 73,bF 74,bF 75,bF 76,bF 77,bF 78,bF 79,bF 80,bF 81,bF 82,bF 83,bF 84,bF 85,bF 86,bF 87,bF 88,bF 89,bF 90,bF 91,bF 92,bF 93,bF 94,bF 95,bF 96,bF 97,bF 98,bF 99,bF 100,bF 101,bF 102,bF 103,bF 104,bF 105,bF 106,bF 107,bF 108,bF 109,bF 110,bF 111,bF 112,bF 113,bF 114,bF 115,bF 116,bF 117,bF 118,bF 119,bF 120,bF 121,bF 122,bF 123,bF 124,bF 125,bF 126,bF 127,bF 128,bF 129,bF 130,bF 131,bF 132,bF 133,bF 134,bF 135,bF 136,bF 137,bF 138,bF 139,bF 140,bF 141,bF 142]}}
@[inline]def rv:W.OpenLaw:={PySem.Challenge.rw_keel_k75_what_a_desk_shows with prog:=pv}
def aQF:PySem.Challenge.rw_keel_k75_what_a_desk_shows=rv:=by kernel_rfl
theorem tv(h:rv.Holds):PySem.Challenge.rw_keel_k75_what_a_desk_shows.Holds:=by rw[aQF];exact h
end Toy
namespace PySem.W.Fast
local macro_rules|`(seal $xs*)=>do return Lean.mkNullNode (<- xs.mapM λx=>`(command|theorem $(Lean.mkIdent (.mkSimple s!"tw{x.getId.toString.foldl (λa c=>let n:=c.toNat;a*62+(if n<58 then n+4 else if n<91 then n-65 else n-71)) 0}")):ident:True:=trivial))
seal NIy1QfnUzFJ Tez0WaiMlXZ QrVlYyxHL2S L8DlIgdkkSS MK5ycILHvil ACDDktn4kLh H0gDKFhyUgJ KoYCkQgYYaR S5HYaiEj17I Jx0xsVm9WRD FFcH3tnrO5i BxLg4u8T2GG JR0Eme4tfQy HwvYT4bm9qp IMAXkyKMSRE NtSKhWjDR8x V0mi3TC7dRP E8rSDktHkl7 Ohpz0cTWUHp ArxluwrVUij HiSNJDMbii4 PqWtqDVZMDs Tv2DP42jw1i P5Q0EQIx9rh QcbY1GJv91T J2fHUuwMhuB MDzD8guuJ3Q F7hy3eedFZk VGtXr7JdoKR TMSzXnderHf HKbTR6WNofH H4CoyFuPoga BsoTJMtUeIE F0wY0yMm7Rh G1clIvPFLHV GCpDsLoB3Sp FxZ5K8YABbn Pb151edHFCq Fu6xTDx741r CoPr2JY4f1K Ta8oxNhBHrn GRwHbOtIKO9 DxszQ1wLjCf AOuvmsMG2x1 KsLbaMFg6ZY NF531Ckbnn8 VK4FJiBV214 NgV46erdyql N9OV3TNMD6w PS7PcPwXvvK LicGddHeiOX LYwvt7D0rEW Jrl4H6e1YqP LI4Dj4GV5e0 B2VzWDY4AR1 QduZAdg6v8x K1hqo0WnZay NBseehIQQYz SOnodGgdJ3q SgcGUCXXdC1 QGTbuChTlgy JJZbbu3jsPk U15u1WAvYjH Ik4l01zysTd DGvlKLq575D NV3sUwJmcAM TdeZLog11r1 TVsSeZBNaKB BHfBivQhyrC S7vPh4wNSzU VQjIOZXUo4K NrFXGowJ1dl PIAqI9GDk4v N2bNolWwsO9 PJkeE7AvlLt PjJ3YZ53dE2 OXcakwrCMMh LYHCszS5YJ5 EpB4SfZJ9D9 I2khdPC91TZ DxaNxRDn56H HsFQfZOpNOo AINyWQ8C2Eo DPCSAXFffND MrH4EgIBUiE S5bqjgsvKv4 H3k9N1yYVdv KszHlWRSVMW BYabtI2ZCPe EV0Mw8VPJ4M VEF09JebSfG HFHnuo3jC8Z MBZzavMqORd U7MgEpzrq6o CIWbgMuaa2d B9lgCdjd3ob OaJwpgJan3v RuTljjRU1UT IalwwdD91U2 VHYdCNtBofr UUTIBKn6eBG GZrnubhlPOC FtA4CZYg5iP PlMOcqXnJC1 H4BHQmC5xx3 JRLvi7SeQTX IB5wcMMeZHP FMULydJFnCl GdrjKtFD1FW VU60K6UozhB S3lOY5aGy18 RMczQ1xm8Vw Hg37b0EAy15 Pzj2o7mlmi3 GlZXdrPcfOP AvxFMeqOX07 S5CWbUKFGB7 DqqAmFUAGfc DCHXWBBhdht Jk8gmVTSeuw QDY9dR4dhIc M4x6wnpaxpV Qu2RgYSD3ZS PaHyQ6QAl8h GqY3w7tL1P9 BHzgmLCtxST E5bGDfsbNF4 AYubirS4usk PEvYB5rWAax H4vHuI1VIxV DDNjxvmyIMh Ia5soMXJmZG M8KGleQyiuB VegYbltOqV6 RyKdWtpzDig A6dqQZEGc8W SFGxnA7Eju3 Mwhtx7EqEkO Cvkb7Qcc1Gf F76aZCe26PC CukTm7rJHpY A9UMcBMQdVQ Tf58WbMPcLg LANbIGuVBvC UIqcvdLKqhd PddCmISCppI CvEJRdrDyGa ALsH4nORcLW OCpKZDSBGKO A0tIFNl9gTS Gw7LOdATnrl KcvJBTy8aq2 QWTali9oUqB DzckEYQxrqo Fm9waPcWSgo KwtWp03zu9a Q75nMkKd57e IEqszwLnvo7 NpLsch7ncSN LpaVwjEBEvO HiZ7KbPlDhk H76tjTlgsUu HreY7G4pwt0 DNic1lVbxYm DM7Jmd77wDI BrpXPn5XZST CGWq0KkXbn4 Tv7pcLInQ3m FO1mF2n3fms OOxgXoxRb2Q BKWFSvx8hv0 OX77JHg7VMn Nmu81ZyBZPA EECzc2pQCZU VoakYTwqeEU EONblRuVNxT LoLwJRNClrU MyZ0QNWFo47 EdP1iVb3PiS E4tSMPRiQZM FlFvZ7t2FgQ SLw1h4nVwNX Oq1D8SUGPHT FjhA40u1QLh IcxmYOD6cEa KaXL4Cd5Usg S8c3B6F5ox5 NHTVI7XOZqN HIiWsrEvi7h Rd8saQ6WNCk Dw8A3reNGpH JezxqVSj1D3 ESXd8I1JQoV CF8g07OPYnK Bu79v7Db7yr SMcczzCpUt6 DXniqJFMPox DFauPkbxD3o LC4bnW7nGOq GlYjkndLreJ Rvay6VSHime FUZhAibGwfb TB8zkFBGhWN Vos1ba5W4DS Cs4rBKqg8Fh EJuBrG7f3l1 C5GZYcdkLkK H5hIsJh6QLe Omku4lxeWlP VJka5bpxr68 B0ywMjxjRgE Hvl5KeXPmaD SlLy13w6fNx H8UDAmsiW88 Nc0jioGLV9y QZr2nQe6nas UtGcVBvMUIZ O3rrZs8BX2G KFwo47kdHZy VNA715KmB2O Dp1z0WDB4AG J8iYo37nylo CrboMjd2bk0 SMMYQyiAcAY JoHGkhTgD6K O1gYLzE7jt1 BHGtqiZudHb TuswvaV7RUx FZTXf0z7adG CBRCUHA9MHM R1W2Bij674r DFIiTRbDp3G D6DodEcAhor CH8lTMxKsCq LEp1Gi9bG5Z FqttDnvBugU VgIrsgcv7Ni ROyLJS6XG6o JmPmrikbcwo CZB3XdLl4jY IEWFk2aIwIz B3Ig85PBryv HQTeIIA6ML1 RqpYUIUYoPf DAfLyIoN30r B7D0fWyiFS2 Oaoya2OCU6M Q1VSRthaP70 BiNxoIj6t5f MqdG6TdKaqm RaodpS4IxbH DK9wpV0b5lJ EvnHNzmLQ6g OnGj11WLQcu LVHDZ4caHsn U3pFxpdOCDI TWPTqEj1Ubf It6elZty2ck CUKymC0bhH8 EyBdj0oYGDR GO80OtuUZ5m R4E2wABt7J3 MikGZGb6nTV A2tdby4sno3 PD2JC6hGQHa IvDm5H0xK2Z PIrbsoIoyUw FA9Ahnkp4p7 FRcuk1Zdzkj QTyLizDjxNF FfDcYUNT50H Q6waLmPrFFO NoExukrwbQs UozstOyDbeP VwSXG0956q5 MT2dBn4OXU8 NCpBD9dBERo Kix7irat3Ak UOirWaxvIHY GEjetCzKqpa JPVJ7oMWo2V V2s9cwn0DdU RXCk1pUXO23 BTX060b4Cmr PdReaCplhTn Sp89cTgGUka GjtoyMaTXuf JvrDiG1lL3t Tjxvhu6W20j PsAINt6WepU Jp0d8GiY7h0 NgoBKCw3ooX JeeOznYiKow D2ftug4l9qp T60Zg66XpgV GBh35nD5v94 Q6EScbGcqEz EoC09idsZFf LeV0o2hzC3j NsAwGzxsadC HLiLvRW3W95 SZUF9oqnFlm C1rtVSRB9TO EPFmAcb1yc8 GWLxwCTSSjC EEadzBCgvSM KtYcU30RWKf N3XwHMgKMhR B19U234ZVur QvYyKl7uvG6 F6PO83xDaa5 FwCo71TZu1s Pkfq9XUUSKc JXbECos3H0o SQoFb4PpfI1 EJLSU5j189I N1WXaw1GhR5 U8M0s11TVvg DQJg2PTSvZs P2qFAwePvwK FFJyDB0Paub TrG77n8z9pw IjmrRSf8k1E GF5lmpWnSlE JdMQDJpuhXF JQMPuVHxgHQ MjBdmdionay HiMd6wUtgDC ALe4If2pRwJ SVghrso5MXa CRoxPNZoreo Gd7Uf6uoHNq DzxW7jdHdo8 U0DSwdbgyNR OipAu6QbR1I VMH8YbCmY38 Bb6WSyRkKJH UnSq6sSgZMV VTVqrniRmco O4xtMdvG0WH KaOF9IK5tL1 Nsh8howIvGT UToxM7j1nXK Hd8Tefg635w RbeaIZYZ1eP D3T5kcnHjoA Q25gn4YJGS8 GV0UWa5g1GA L8VJhVc7UM2 P8eXH2tlPDs NLKS5SezNeU FPiGvkeVgHF OeoL2gWEqL3 PemVubHI03B OYAPUIOqRj2 McnQaKzq6nT A05JQTbHj9v ArzHn2sVRPI KNVyYoZCsrC IRUhICE9Y3L LuOvI29PSGV Gf4eaBCTmfk TR16YxhuW3a O3yibpq3pAu ORu2dSffToa HmbFJv8Zo3b HTgEAJliatX QTiXir6HKA9 BcmyoHmHNnZ P0sz17y3zzr CVlszFFowNc Lg7aNcyU1EW Fhu0bgVS2W3 LX3n2l7AIv8 HS290acN7f2 OkiEEY3h6AR Vw6ijNFeYeE RGX7zP7UEHd Uu04nhCnyEF BLxILmcIxSh GEIyQhTgLKH SetkzBYl4dB KJxoFs61RbC BMBnqdRrYZa TaiWgqEKS8K IQNRq7JUKpC I3ydEzHfUkF ODsTix7tiUU GCP06WFMsG9 RwYtDt2rk1S LNbD96dJBhQ QmnYSYwMQts Uq54wiWXAB9 NL2VyK7Qerl E0mD0DfWLRm OIWGI05Rzci L2yvA0Vats6 Kg0dWCfAlLc OI6elhFlXhD LkuNpOCXNEn LzkKF7miQUV LiePVTA4J78 TheCliJqVXZ BkpgTfZAp5C I4sVCv23TiQ DnEQqltN0Jz PCpF8ktr1ej MdHDn2cm9mu Gq23ySsvI1f P3qHFjOev2L IeeyJ18gXBz RVRKMwjr2po HJkXqMEi2Kl IxkEWrNLuvm PX0OzttUq0T IAjLVfMStfZ SyOy8RzjYUA SMIIUmRw8XC Jbw9nu8pKyH St8YafRrcey DEJlYIsruIo PXReGOTsr6E E737OTvyYgy OmIFE3E2SXY VJ09p4Y1BU8 FdDp4immsEC ThVS2KCvpbF H4o0RCzvM1D NFFj7N9I9Me GOO63tb4mmN SuzRBqwOc8V EJghHwLwwKP KJyAGlqWYW3 JDiIPh11MrO Gtbt4R6SP1I P0xZtIMeeoR M9Y7hTbaJuk RnVRYO53dPk Nt6nQZOZf57 K815nqf6LVl MVjSXgyuvxC Kq79H89j3fQ PpF7elZJ95S RfOZzR7UTVR VjLSHNvWeI3 GwICplBZZdr LUDQtrYlJzA SnnV8PkvlRm N0T3qI75MCL JKdAjrlbQOu QSD6XAtVrIl CINzbL5xoIV MsI95dNSJJ9 FNtzC1pykdu NcxopfFpyhg B45Ia2ay97k RJEKu0ATRkS V0aZJeYmrCs OpJxWY4x7qa Ti1Q82JfBFL Jap6u748GnR F4wFMjo5Prk CnL5hlnqLuy EBbG2fANZPv Uxxy4xl6CVa BuvxzaqPhs0 CaOF7yvRYog BMXHLt3KUDZ P0Sdv3JAz0g CMXiURWH1vz Qcn6xMgfCDl TZn0wWqOmeY BMX5o1ef1bx UvFpqVnpjQF R2PZ0ReNffM FwK1fc6p4pZ IpQIZQHBOCz JVIguNolpj6 T4UztcOhAV3 Bey3qlV1FRf O88ovWOIB5W Fd0eu1ko3ER VgVMMJaeezL UTOr43uQdw7 JCkE84VKerx LXfFLCcb6q8 Op1Keogvz0Q DAyuqa6R2Au L2maSlThUIN JqtCp0q88Hx T3iQCTobZmU FFHNf8YM29w NTnCfceHsRG OTwahiP0209 GMAtGYlWD81 GVstnOibb90 KQQohWCXl6i DbXDfcs4Lv7 Rlt1OK8mmjN U7UHW7L8U2u NwUkbTyaAU0 US2AIoafrnG OAHl2AfqBv7 T2HNNrPfXWj KPcWZDFUu9h D70eGYMTLjA VXfknvFLqNG QnGAfwUcOfB OgirpErSutB S3iw8oQMrWl ROMd7Bf2lKp HCarbTm0MSl S13ZS6r9r93 LwVOnPLUlAw AmkYeFQ7bpm LqdpOncTkCR DjNBDR52w1D MbbB2UAAIU7 FG8nXZvcuVp JxNOfPkGnMF GcGpfNaDwU9 Engzyg6M8oK SXNjTtEIenB DN4IJUqOP0I G6PlHNIokbX Cldo5pX53kG PSaelxRX9CE IXzD27LD9Pj AX1dGDCHxsD Ic4IjwJNk6Q QDpxJ67uYL6 EoBkQ5sG0MX UxhcNf8fvfZ Ji5SPQ775Wt DZ2ysxCIyQn A6u0TWX3SgV ChhFPMJRN9w IU9tUp7amNx TqmHQWnYQAV IANhECymH84 BrJKiZl2ecI HOesBlxVupD BUqAz5wzFj2 CbIuHWD2ucw BHoFSSeTcZN BTHrPMPANfN N5Ke1k7DPIB JpUj1ud120F FXUQh7Hl36p JW8AzgoOdeJ EbdwPvHrIxj Er94xu5s5NV DCXSJXOVXWy JyLJPhJnpeg R0Ljp4BbmWS ILWAnLTDPtR HYzIHVjoVLX OX0TtxbJC1s HAVO0h9Qrkg KznHOybPo1F AeH2oU2JOcy UJFzvlLDQIU BYJfuu2zvad EnIqnCm4mxp IIThdSppPrZ DP3sx3tvwps CkbXZXWHqtQ BV8HM86nhre IvwoCo0wfuH BP48vqhT36x PJUfqSo3DBQ GDBXTnVdFaU VcUOI7qmgWP MJVOcqd0FUu BRc84YEOkff RvaQvYnZ6PC BIbEcktMOSn VXtwqSolUt0 Rw74qdLBu5L EQsd4UyxU08 MMcdj06AECL RdTseQwg37D L3eu7nWOhap BWyxPvEDo7r CNalHnj23gL AAejzRxSMzq TMxM5bsz476 SrRDOAM25RB VLwNYzYEKQW AnXd64Ukhiu BmEQDKgrSoQ VaMG5kstBQL FXzRTwRoOrv NcyySKKDuW2 AFdF3idCYC5 PQB70HmoDRo KxReAI4tfg4 DsMmBThXgcA QfEY0dULejc MVnic5yl7TD C0DgzYpCQOj M7cBDFC6xEX Proy87wcEJV PTat4bHBofC Pwoen0dVWl9 MWkgYxYmTHI UjZET0sNnsQ GcHYoBTfH6w SYm0rEJeI9M O4n6Mx2Lq0m HHs7KY1wFY8 KYRzwipNHtq ARPxaAzacQN Vx1sLJqCXqV CSWzFSHEZf9 EoCg7modY0W DP6hvbXVwcn BzFeSyCmBeK C4zYdnhjsfg TGjAQ83y2RI GqhhXUuWzVK EWKyrVJAoO8 N5SBVJcnhnb HXRh3sibVu4 RdKYzmnL6rU ThiHMOri3gF HZTmnARgeZj GmO0vrVrhNz DXj8hn1ba4q Q40WzQVTUYX IR1hFgGGfLA OLPMlzLYeSn Pb6Xxvn7u0x DDrEMnTEnDk D1qPUv0MksU O247on3Xn61 LUSauiIz0nM DzqEEvhZrjx ATraFQukuve S9SfYgzjaL5 NUYZuYfQgys MtX4cChPCO5 AAghdhHsm14 QAqr2vL8TNi TjslYc2PeSo EgCg4QqAOQH AV01jK2LbfP DXlLnHGkXm0 BMlsG9vQr2S SR9BOtTI9c1 QgrqltAZZ3Y UM97pn3SSRY Ig9HImsHf87 NzuEM0ukwzh En78AuRheZN EDysKaCizM1 TlP5eU554T4 VrpSccNByAH UGL3PAfrg3R U7XODXCI22R R5mFp4rAUXr QOyNq1LUy2B C5BlAx1cdOP FPxRB4poMf3 SXImnbSivSq E0oGXWDMtkN Hq3EU811feL Cw5AKsjSLWj Jwqk6Q62kjv UFLQdBlvjDo BNKMp8qjaN2 AoR37E2quen R8KjXd9y9dd CSOevaBZ10t FNrlZgz8rDo Kuc49YuNMzH Bh7isWcNEOe O08bhpntU86 SSBxF1WoXl1 L6Ov2qXs1Is MxgGAnDrmpp NSm4gO5jGB2 CIEfJdqxr8V JKKg5VMlAF0 MfYQJByL705 U1upHxfJvbB VUuUkt8dV7W QPNOqtmsVOt BbdaYUrcj6x NAL4iWFqtaN SmUr3lEe00H CRP9ei8NYJa IvCF14riXID M1abk9HpYK7 AP3kv1hLhBT S6QVMw3rftp O1XNVU5qHTF J0LmiGyUQIC RkCP9VrbRz8 PHIpfo47vvB Ub8Zi2N1Azd JyIyUr3FXM3 OepjmNMlrNt NlKkGxaBOAv BFBq19PH8nw TIw7ZaLi459 OLinuIR1IXp OTvQdJtC71n VQi0E8D29rH VfaVAhVxxqy G5FHuMUXN3w UBQxuDKjr1F FnfkXFVu0oA TrEKYSojEEp IW9jidMwHgY IbqQcR1pzyJ PNQuU0fJdp2 BuzvKwpF3T2 CCeRBseUjfO JIcZZVsGKvk GUHal8dOTHd VnsSWFtMxmO MUyZqKZKtrv NNweRKhd5xW LzOw7ex46ZH MWBvg20wXkm FBXLVuFnsth HdpNbJ6XWxM JmrZc0quMbe VsLfHoHwLlT Gpj4EY5XtZF ICgQa71yVJT CjJgs2siWJX Q3zp4yl7tsX OBnlBA482qh S6B6K0Um6Xj OX6uhtPf3Oh FrThH1dpD4v EVRqGo63iBB RczR529kEzI Hfm8Y0VcM4V Tx8C8KinNFo VJ3CbEEtlgE ACxIlDMrdeT LxFBffILoKO CI8BVZOkcyQ IE9Wabp9W5l GzEBx8KaPLc OhaCxgpkI28 GXGojIruy67 DqXhrWEUUdA VMZxOje10Zs IsORPLtfbDF KlY2WEv3Csj ATHS8hMvlI5 PI135QAnehJ B4QvKXWpbaC Tqca7qng7Ia BYUd0DshCVQ RFZI4qLqvpU KeXlEtye9v6 VZE3rkYU9ZS BPnrLDhMEMV TjXbsljlMav LoyLZ9jgtly I6WfrkpPZvH Czp654wfKWZ AFYb5C35KHB STz86aaZxt0 VTCfXLoehZb F4zcjdpM3iA Mu26pVHQIK8 G6QbuoJX8Nw POWuiIGH2eo DZ9chq08fcN A1sMJIPAFvH Q32PNQFbzi8 HAY1OaL35Ps CzihGKQjaam VPRUFmh6nur GpAWB4u0hhi MeYUAYTPoEs JI1hDxpJvb2 ENSpeTjsQkq AYdDegmp3oA USFD9wiyX7h AX3fnkxMTEs NjE4CaJWB1h MHZbxpmuGoA DHeb0MU8D6H C3KhaTMA1cQ BflS6XDesyw
end PySem.W.Fast
open PySem PySem.W PyProof.Rows L2
set_option maxRecDepth 100000 in
set_option maxHeartbeats 0 in
theorem PySem.Challenge.cw_keel_k75_what_a_desk_shows_holds : PySem.Challenge.rw_keel_k75_what_a_desk_shows.Holds := by
 refine Toy.tv ?_
 w_on;o_law;k_head;(case hw=>w_witness2)
 k_fill
 refine Toy.walk (l:=Toy.rv) rfl rfl (λw h Y=>PySem.W.km_in_of Y) ?R ?F
 case R=>exact⟨_,rfl⟩
 case F=>
  intro w mg fa h KX G hmg;refine' Toy.all_mk (Toy.Txt.mk ?_ ?_ ?_ ?_ ?_ ?_ ?_ ?_ ⟨⟨?f9,_,?F9,VA.binds ?F9 ?b9⟩,PySem.W.mg_of KX G ?a9⟩ ?_ ?_ ?_ ?_ ?_ ?_ ?_ ?_ ?_ ?_ ?_ ?_ ?_ ?_ ?_ ?_ ?_ ?_ ?_ ?_ ?_ ?_ ?_ ?_ ?_ ?_ ?_ ?_ ?_ ?_ ?_ ?_ ?_ ?_ ?_ ?_ ?_ ?_ ?_ ?_ ?_ ?_ ?_ ?_ ?_ ?_ ?_ ?_ ?_ ?_ ?_ ?_ ?_ ?_ ?_ ?_ ?_ ?_ ?_ ?_ ?_ ?_ ?_ ?_ ?_ ?_ ?_ ?_ ?_ ?_ ?_ ?_ ?_ ?_ ?_ ?_ ?_ ?_ ?_ ?_ ?_ ?_ ?_ ?_ ?_ ?_ ?_ ?_ ?_ ?_ ?_ ?_ ?_ ?_ ?_ ?_ ⟨?f106,_,?F106,VA.binds ?F106 ?b106⟩ ?_ ?_ ?_ ⟨?f110,_,?F110,VA.binds ?F110 ?b110⟩ ?_ ?cc_Desk ?nn_Desk (PySem.W.mg_of KX G ?nn_Desk) ⟨?pg_Desk,?hd_Desk,?po_Desk,?sa_Desk⟩ (HQ ?nn_Desk ⟨?pg_Desk,?hd_Desk,?po_Desk,?sa_Desk⟩ ?at_Desk_cargo) (HQ ?nn_Desk ⟨?pg_Desk,?hd_Desk,?po_Desk,?sa_Desk⟩ ?at_Desk_loads) (HQ ?nn_Desk ⟨?pg_Desk,?hd_Desk,?po_Desk,?sa_Desk⟩ ?at_Desk_ports) (HQ ?nn_Desk ⟨?pg_Desk,?hd_Desk,?po_Desk,?sa_Desk⟩ ?at_Desk_ship) ⟨?km_Desk,?a110,?i110,?kk_Desk⟩ ⟨?a106,?i106,?k106⟩ ?lc ?lp (Y6 ?a9 ?F9 ?lcd ?lk ?lv rfl) ?lcd (aRN KX G ?_) (aRN KX G ?_) (aRN KX G ?_) (aRN KX G ?_) (aRN KX G ?_) (aRN KX G ?_) (aRN KX G ?_) (aRN KX G ?_) (aRN KX G ?_) (aRN KX G ?_) (aRN KX G ?_) (aRN KX G ?_) (aRN KX G ?_) (aGR KX G ?_) (aGR KX G ?_) (aJP KX G ?yp0 ?lp0) (aGS KX G ?yd0 ?ld0 ?sd0 ?ed0 ?nd0) (aGS KX G ?yd1 ?ld1 ?sd1 ?ed1 ?nd1) (aM2 KX G ?yf0 ?lf0 ?sf0 ?ef0 ?nf0)) ?lnt hmg
  any_goals (refine' aMT KX G ?a ?l ?c ?k ?b;(case a=>k_is);(case l=>k_is);(case c=>k_is);(case k=>k_is);(case b=>(intro _ _ _ _ _ _ us hl;first|exact aO1 hl λ_=>rfl|exact aO2 hl λ_ _=>rfl|exact aO3 hl λ_ _ _=>rfl|exact aO4 hl λ_ _ _ _=>rfl)))
  any_goals (refine' aMU KX G ?a ?l ?c ?k ?b;(case a=>k_is);(case l=>k_is);(case c=>k_is);(case k=>k_is);(case b=>(intro _ _ _ _ _ _ us hl;first|exact aO1 hl λ_=>rfl|exact aO2 hl λ_ _=>rfl|exact aO3 hl λ_ _ _=>rfl|exact aO4 hl λ_ _ _ _=>rfl)))
  all_goals try k_is
  all_goals try (unfold oG;k_is)
  all_goals try k_is
  all_goals try (refine' AX ?l ?c ?k;(case l=>k_is);(case c=>k_is);(case k=>k_is))
  all_goals try (intro _ _ _ _ _ _ us hl;first|exact aO1 hl λ_=>rfl|exact aO2 hl λ_ _=>rfl|exact aO3 hl λ_ _ _=>rfl|exact aO4 hl λ_ _ _ _=>rfl)
  all_goals try (dsimp only;k_is)
  (case lnt=>first|kernel_rfl|k_is)
  (case lcd=>exact rfl);(case lk=>k_is);(case lv=>exact rfl)
  (try case yp0=>k_is);(try case lp0=>k_is)
  (try case yd0=>k_is);(try case ld0=>k_is);(case sd0=>rfl);(case ed0=>exact⟨rfl,⟨_,rfl⟩,⟨_,rfl⟩,rfl,⟨_,rfl⟩,⟨_,rfl⟩,rfl,⟨_,rfl⟩,⟨_,rfl⟩,rfl,⟨_,rfl⟩,⟨_,rfl⟩,rfl,⟨_,rfl⟩,⟨_,rfl⟩,rfl,⟨_,rfl⟩,⟨_,rfl⟩,rfl,⟨_,rfl⟩,⟨_,rfl⟩,rfl,⟨_,rfl⟩,⟨_,rfl⟩,rfl,⟨_,rfl⟩,⟨_,rfl⟩,rfl,⟨_,rfl⟩,⟨_,rfl⟩,rfl,⟨_,rfl⟩,⟨_,rfl⟩,trivial⟩);(case nd0=>decide +kernel)
  (try case yd1=>k_is);(try case ld1=>k_is);(case sd1=>rfl);(case ed1=>exact⟨rfl,⟨_,rfl⟩,⟨_,rfl⟩,rfl,⟨_,rfl⟩,⟨_,rfl⟩,rfl,⟨_,rfl⟩,⟨_,rfl⟩,rfl,⟨_,rfl⟩,⟨_,rfl⟩,rfl,⟨_,rfl⟩,⟨_,rfl⟩,rfl,⟨_,rfl⟩,⟨_,rfl⟩,trivial⟩);(case nd1=>decide +kernel)
  (try case yf0=>k_is);(try case lf0=>k_is);(case sf0=>rfl);(case ef0=>exact⟨rfl,⟨_,rfl⟩,rfl,rfl,⟨_,rfl⟩,rfl,rfl,⟨_,rfl⟩,rfl,rfl,⟨_,rfl⟩,rfl,rfl,⟨_,rfl⟩,rfl,rfl,⟨_,rfl⟩,rfl,rfl,⟨_,rfl⟩,rfl,rfl,⟨_,rfl⟩,rfl,rfl,⟨_,rfl⟩,rfl,rfl,⟨_,rfl⟩,rfl,rfl,⟨_,rfl⟩,rfl,trivial⟩);(case nf0=>exact(show (["weigh","rules","trim","middle","ports","load","advise","steps","call","where","show"]:ZE).Nodup by decide +kernel))
