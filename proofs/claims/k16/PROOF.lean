import PyProof.Rows.All
import Wide.All
import OpenK.AllK
import PyProof.ExcArgsOwn
import PyProof.ExcAttrAll.ValueError
import PyProof.ExcBaseAll.ValueError
import PyProof.InstStoreFacts
import Wide.FinOn
import PySem.Challenge.RW_keel_k16_refusals_apart
set_option rowWalk.seconds 0
set_option maxRecDepth 100000
namespace L2
open PySem
/-- the two objects that making an exception lays down: its arguments and itself -/
abbrev excA (rest : List Value) : Obj := { cls := .type "tuple", data := .seq rest.toArray }
abbrev excO (C p : Addr) : Obj := { cls := .ref C, data := .fields #[.ref p, .none, .none, .none, .bool false, .none] }
abbrev excH (h : Heap) (C : Addr) (rest : List Value) : Heap := (h.push (excA rest)).push (excO C h.objs.size)
section
variable {prog : Program} {w : World} {A : Around} {E : Value → Shared → Prop} {h : Heap} {g : Array GenState} {d : Drawn} {t : Nat} {os : OsState}
variable {nm q : Str} {C N fI : Addr} {oI : Obj} {bs bm bmB : List Value} {hdct : Bool} {sn : List Str} {sub : List Value} {ab : Bool} {col : Option Bool} {dd : Option Addr} {k0 k1 k2 k3 k5 : Option Value} {B Bn newId nid initId inN : String} {bmN : List Value} {mN : Str → Option Value} {rest : List Value}
theorem excH_keep (b : Addr) (o : Obj) (e : h.get? b = some o) : (excH h C rest).get? b = some o := Heap.get?_push_of_some _ (Heap.get?_push_of_some _ e)
theorem excH_self : (excH h C rest).get? (h.objs.size + 1) = some (excO C h.objs.size) := by heap_get
/-- an exception whose class stands below classes of the program and has an __init__ of its own -/
theorem made_init (Fn : ExcBaseFacts Bn newId inN bmN) (hBn : bmB.contains (.type Bn) = true) (F : ExcBaseFacts B nid initId bmB) (T : OwnTail h bmB bm) {Q : Fin → Shared → Prop}
    (hC : h.get? C = some (excClassObj nm q C N bs bm hdct sn sub ab col dd k0 k1 k2 k3 k5 newId)) (hn : h.Ns N mN) (hi : mN "__init__" = some (.ref fI)) (hfI : h.get? fI = some oI) (hfc : oI.cls = .type "function")
    (hq : wpAny (model prog w) A (call (.ref fI) (.ref (h.objs.size + 1) :: rest)) (fun r s' => r = .none ∧ Q (.done (.ret (.ref (h.objs.size + 1)))) s') E ⟨excH h C rest, g, d, t, os⟩) (hrest : rest.length ≤ sizeLine) :
    wpAny (model prog w) A (Builtin.«type.__call__» ⟨.ref C :: rest, []⟩) Q E ⟨h, g, d, t, os⟩ := by
  repeat (first | with_reducible refine wpAny_loadPart_at hC ?_ | with_reducible refine wpAny_madeBy_exc hC ?_ | wp_step)
  refine codeAny_call_builtin_code (Code.quiet_builtin _ Fn.quiet) (wpAny_check_new_subU Fn hBn T hC (codeAny_exc_new_subU Fn hBn F T hC ?_ hrest))
  have K := excH_keep (h := h) (C := C) (rest := rest)
  have c1 : (Value.ref C :: bm).contains (.ref C) = true := by simp
  have n1 : (excH h C rest).Ns N mN := let ⟨o, es, ep, e, r⟩ := hn; ⟨o, es, ep, K _ _ e, r⟩
  show wpAny _ _ _ _ _ _
  unfold isInstance
  repeat (first | with_reducible refine wpAny_loadPart_at excH_self ?_ | (with_reducible refine wpAny_isSubtype_exc (K _ _ hC) ?_; rw [c1]) | wp_step)
  show wpAny _ _ (typeLookup (.ref C) _) _ _ _
  refine wpAny_typeLookup_tail (K _ _ hC) n1 (T.keeps K) F.mroIs F.init.lookup ?_
  rw [hi]
  refine wpAny_holding (wpAny_bind ?_)
  unfold bindSpecial
  refine wpAny_bind (wpAny_typeOf (T := "function") ⟨_, K _ _ hfI, hfc⟩ ?_)
  rw [if_pos (by decide)]
  refine wpAny_pure (wpAny_bind (wpAny_mono hq (fun r s' hr => ?_) fun _ _ x => x))
  obtain ⟨rfl, hQ⟩ := hr
  wp_walk
  exact hQ
theorem call_init (Fn : ExcBaseFacts Bn newId inN bmN) (hBn : bmB.contains (.type Bn) = true) (F : ExcBaseFacts B nid initId bmB) (T : OwnTail h bmB bm) {Q : Value → Shared → Prop}
    (hC : h.get? C = some (excClassObj nm q C N bs bm hdct sn sub ab col dd k0 k1 k2 k3 k5 newId)) (hn : h.Ns N mN) (hi : mN "__init__" = some (.ref fI)) (hfI : h.get? fI = some oI) (hfc : oI.cls = .type "function")
    (hq : wpAny (model prog w) (A.under (.builtin "type.__call__" ⟨.ref C :: rest, []⟩)) (call (.ref fI) (.ref (h.objs.size + 1) :: rest)) (fun r s' => r = .none ∧ Q (.ref (h.objs.size + 1)) s') E ⟨excH h C rest, g, d, t, os⟩) (hrest : rest.length ≤ sizeLine) :
    wpAny (model prog w) A (call (.ref C) rest) Q E ⟨h, g, d, t, os⟩ := by
  have f1 := tc_lookup
  have f2 := tc_bind (.ref C)
  have hT : (⟨h, g, d, t, os⟩ : Shared).TypeIs (.ref C) "type" := ⟨_, hC, rfl⟩
  refine wpAny_call (codeAny_of_tree ?_)
  show wpAny _ _ (callAny (.ref C) _) _ _ _
  repeat (any_goals (first | assumption | with_reducible refine wpAny_loadPart_at hC ?_ | wp_step))
  exact ⟨rfl, codeAny_call_builtin_at (Code.quiet_builtin _ (by decide +kernel)) entry_typeCall (wpAny_check_type_call_sub hC (made_init Fn hBn F T hC hn hi hfI hfc hq hrest))⟩
end

open PySem.W PyProof.Rows
theorem ns_some_of {K : Frag} {h : Heap} {N : Addr} {mg : Str → Option Value} {n : Str} {v : Value} (X : K.In h) (G : h.Ns N mg) (e : nsIn K N n = some (some v)) : mg n = some v := by
  obtain ⟨o, es, ep, ho, hd, _, hf⟩ := G
  unfold nsIn at e
  split at e
  · rename_i c d es' n' sl q
    have := X _ _ q
    rw [ho] at this
    cases this
    cases hd
    split at e
    · rename_i en he
      cases e
      simp [← hf, nsFind, findBy, ← Array.find?_toList, he]
    · split at e <;> cases e
  · cases e
section
variable {prog : Program} {w : World} {A : Around} {E : Value → Shared → Prop} {K : Frag} {s : Shared} {h₀ : Heap} {L : Addr} {m : Str → Option Value} {news : List (Addr × Obj)} {Q : Value → Shared → Prop}
variable {nm q : Str} {C N fI : Addr} {bs bm : List Value} {hdct : Bool} {sn : List Str} {sub : List Value} {ab : Bool} {col : Option Bool} {dd : Option Addr} {k0 k1 k2 k3 k5 : Option Value} {rest : List Value}
theorem callInitK (F : Fr h₀ L s.heap m) (X₀ : K.In h₀) (Nw : News h₀ L s.heap news) (hl : K.lookup C = some (excClassObj nm q C N bs bm hdct sn sub ab col dd k0 k1 k2 k3 k5 "ValueError.__new__"))
    (ht : tailIn K [.type "ValueError", .type "Exception", .type "BaseException", .type "object"] bm = true) (hok : nsOkIn K N = true) (hi : nsIn K N "__init__" = some (some (.ref fI))) (hf : isFn K (.ref fI) = true)
    (h : ∀ x p h', Fr h₀ L h' m → News h₀ L h' ((x, excO C p) :: (p, excA rest) :: news) → (∀ q ∈ news, q.1 < p) → p < x →
      codeAny (model prog w) (A.under (.builtin "type.__call__" ⟨.ref C :: rest, []⟩)) (.call (.ref fI) ⟨.ref x :: rest, []⟩) (InitBack x fun r s' => match r with | .ok (.ret v) => Q v s' | .ok _ => False | .error e => E e s') { s with heap := h' })
    (hrest : rest.length ≤ sizeLine) :
    wpAny (model prog w) A (call (.ref C) rest) Q E s := by
  obtain ⟨hh, g, d, t, os⟩ := s
  have X := X₀.keeps F.keep
  have G : hh.Ns N (hh.nsMap N) := .of_isNs (isNs_of_in X hok)
  have hff : typeIn K (.ref fI) = some (.type "function") := beq_iff_eq.mp hf
  have N2 := (Nw.push F (excA rest)).push (F.push _) (excO C hh.objs.size)
  rw [Heap.size_push] at N2
  obtain ⟨oI, lI, cI⟩ := Option.map_eq_some_iff.mp (show (K.lookup fI).map (·.cls) = some (.type "function") from hff)
  refine call_init PySem.F.excBase_ValueError (by decide) PySem.F.excBase_ValueError (tail_of_in X ht) (X _ _ hl) G (ns_some_of X G hi) (X _ _ lI) cI (wpAny_call (codeAny_mono (h _ _ _ ((F.push _).push _) N2 (fun p hp => Heap.lt_size (Nw p hp).1) (Nat.lt_succ_self _)) fun r s' z => ?_)) hrest
  rcases r with e | (v | _ | _ | _) <;> first | exact z | exact z.elim
theorem callExcK (F : Fr h₀ L s.heap m) (X₀ : K.In h₀) (Nw : News h₀ L s.heap news) (hl : K.lookup C = some (excClassObj nm q C N bs bm hdct sn sub ab col dd k0 k1 k2 k3 k5 "ValueError.__new__"))
    (ht : tailIn K [.type "ValueError", .type "Exception", .type "BaseException", .type "object"] bm = true) (hok : nsOkIn K N = true) (hni : nsIn K N "__init__" = some none)
    (h : ∀ x p h', Fr h₀ L h' m → News h₀ L h' ((x, excO C p) :: news) → Q (.ref x) { s with heap := h' }) (hrest : rest.length ≤ sizeLine) :
    wpAny (model prog w) A (call (.ref C) rest) Q E s := by
  obtain ⟨hh, g, d, t, os⟩ := s
  have X := X₀.keeps F.keep
  refine wpAny_call_exc_subU PySem.F.excBase_ValueError (by decide) PySem.F.excBase_ValueError (tail_of_in X ht) (X _ _ hl) (.of_isNs (isNs_of_in X hok)) (nsMap_none_of_in X hok hni) (fun h' e M => ?_) hrest
  obtain ⟨tp, he, hn, htp⟩ := M.there
  have F' := F.keeps M.keeps
  refine h e tp h' F' (News.more F' (fun q hq => ⟨M.keeps _ _ (Nw q hq).1, (Nw q hq).2⟩) he (fun es n q => by cases q) ?_)
  cases z : h₀.get? e with
  | none => rfl
  | some o => have := F.keep _ _ z; rw [M.new] at this; cases this
end
set_option maxHeartbeats 1000000
open PySem.Calls Builtin Builtin.ObjectAttr
section
variable {prog : Program} {w : World} {A : Around} {K : Frag} {C x : Addr} {s : Shared} {R : Result → Shared → Prop} {ox : Obj} {od : Option Obj} {name : Str} {tk : Tok} {v : Value} {cd : ClassData}
/-- object.__setattr__ on an instance whose class stands below built-in ones that let it pass -/
theorem osaX (X : K.In s.heap) (I : InstAt s.heap x ox C od) (hc : clsIn K C = some cd) (ho : mroIn K C (.type "object") = some true) (hp : refuseLoop (.ref x) "__setattr__" cd.mro = pure ()) (ht : findIn K (.ref C) name = some none)
    (h : wpAny (model prog w) A.in1 (storeInOwnDict (.ref x) (.ref C) (.str name tk) name v false)
      (fun fin s' => match fin with | .done f => R (.ok f) s' | .again c' => c'.quiet = true ∧ codeAny (model prog w) A c' R s') (fun e s' => R (.error e) s') s) :
    codeAny (model prog w) A (.call (.builtin "object.__setattr__") ⟨[.ref x, .str name tk, v], []⟩) R s := by
  have SF := PySem.F.store_object
  have hm : Looks (model prog w) s.heap (mroOf (.ref C)) cd.mro := (looks_clsIn X hc).andThen .now
  have sub : Looks (model prog w) s.heap (isInstance (.ref x) (.type "object")) true := I.type.andThen (looks_mroIn X ho)
  refine codeAny_call_builtin SF.slot.plain SF.entry (@check_slot (model prog w) _ _ s "object.__setattr__" "object" "__setattr__" (.ref x) [.str name tk, v] [] _ SF.kind SF.split sub (SF.args (.ref x) (.str name tk) v) ?_)
  rw [osa_eq, refuse_eq]
  refine wpAny_bind (wpAny_bind (I.type.here (wpAny_bind (hm.here ?_))))
  rw [hp]
  exact wpAny_pure (wpAny_bind (I.type.here (wpAny_bind ((looks_findIn X ht).here (wpAny_bind (wpAny_pure h))))))
end
section
variable {prog : Program} {w : World} {A : Around} {E : Value → Shared → Prop} {K : Frag} {C x : Addr} {s : Shared} {ox : Obj} {name : Str} {tk : Tok} {v : Value} {cd : ClassData} {h₀ : Heap} {L : Addr} {m : Str → Option Value} {post : List (Addr × Obj)} {Q : Fin → Shared → Prop}
/-- the first field of an instance that has no dict yet -/
theorem storeNew (F : Fr h₀ L s.heap m) (N : News h₀ L s.heap ((x, ox) :: post)) (X : K.In s.heap) (hcl : ox.cls = .ref C) (hno : notCls ox = true) (hfr : ox.isFreed = false) (hd : ox.dict = none) (hc : clsIn K C = some cd) (hh : cd.hasDict = true)
    (hne : ∀ p ∈ post, p.1 ≠ x)
    (h : ∀ h' dx o', o' = Obj.putName name (PyData.keyHash w.params name) (.str name s.toks) v emptyDict → Fr h₀ L h' m → News h₀ L h' ((dx, o') :: (x, { ox with dict := some dx }) :: post) → (∀ p ∈ (x, ox) :: post, p.1 < dx) → Q (.done (.ret .none)) { s with heap := h', toks := s.toks + 1 }) :
    wpAny (model prog w) A (storeInOwnDict (.ref x) (.ref C) (.str name tk) name v false) Q E s := by
  have hx := (N (x, ox) (.head _)).1
  obtain ⟨oc, odi, oda, osl⟩ := ox
  dsimp only at hcl hd
  subst hcl hd
  have lt : ∀ p ∈ (x, (⟨.ref C, none, oda, osl⟩ : Obj)) :: post, p.1 < s.heap.objs.size := fun p hp => Heap.lt_size (N p hp).1
  have N1 := N.push F emptyDict
  have F1 := F.push emptyDict
  obtain ⟨F2, N2⟩ := news_upd (d := x) (o := ⟨.ref C, none, oda, osl⟩) (pre := [(s.heap.objs.size, emptyDict)]) (post := post) (f := fun o => { o with dict := some s.heap.objs.size }) F1 N1 (fun p hp => by
    rw [List.mem_singleton] at hp; subst hp; exact Nat.ne_of_gt (lt _ (.head _))) hne rfl (by cases oda <;> first | rfl | exact hfr)
  obtain ⟨F3, N3⟩ := news_upd (d := s.heap.objs.size) (o := emptyDict) (pre := []) (f := Obj.putName name (PyData.keyHash w.params name) (.str name s.toks) v) F2 N2 (fun p hp => by cases hp) (fun p hp => by
    rcases List.mem_cons.mp hp with rfl | hp
    · exact Nat.ne_of_lt (Heap.lt_size hx)
    · exact Nat.ne_of_lt (lt p (.tail _ hp))) rfl rfl
  have D := (N2 (s.heap.objs.size, emptyDict) (.head _)).1
  have D' := (N3 (s.heap.objs.size, _) (.head _)).1
  have Z := h _ _ _ rfl F3 N3 lt
  have go : wpAny (model prog w) A (storeInDict s.heap.objs.size (.str name tk) name v) Q E { s with heap := (s.heap.push emptyDict).update x fun o => { o with dict := some s.heap.objs.size } } := by
    refine wpAny_bind (wpAny_pure (wpAny_bind ?_))
    unfold nsSet
    refine wpAny_bind (wpAny_bind (wpAny_askSetting (wpAny_pure (wpAny_bind (wpAny_mkText (wpAny_bind (wpAny_loadPart D ?_)))))))
    dsimp only
    rw [aRefKeyMayBeTheName_at, show (!(#[] : Array DictEntry).any (·.key.isStr name) && (#[] : Array DictEntry).any (·.refKey)) = false by simp]
    refine wpAny_updatePart D ?_
    refine wpAny_bind (wpAny_lookBehind D' (pastItsLine_dict (by show 1 ≤ _; omega)) ?_)
    exact wpAny_pure Z
  refine wpAny_bind (wpAny_pure (wpAny_bind (wpAny_bind (wpAny_loadPart hx (wpAny_bind ((looks_clsIn X hc).here ?_))))))
  rw [hh]
  have hx1 : (s.heap.push emptyDict).get? x = some ⟨.ref C, none, oda, osl⟩ := Heap.get?_push_of_some _ hx
  have dm : dictMade (.ref C) x s.heap.objs.size = pure (some s.heap.objs.size) := rfl
  cases oda <;> first
    | (show wpAny _ _ (alloc emptyDict >>= fun d => (update x fun o => { o with dict := some d }) >>= fun _ => dictMade (.ref C) x d) _ _ _
       refine wpAny_bind (wpAny_alloc (wpAny_bind (wpAny_update hx1 ?_)))
       rw [dm]
       exact wpAny_pure go)
    | cases hno
end
section
variable {prog : Program} {w : World} {A : Around} {E : Value → Shared → Prop} {K : Frag} {C x : Addr} {s : Shared} {Q : Value → Shared → Prop} {ox : Obj} {od : Option Obj} {name : Str} {tk : Tok} {v : Value} {fill expr : Bool}
theorem excGaCheck {M : Model} {nameV : Value} {Q : Unit → Shared → Prop} (X : K.In s.heap) (I : InstAt s.heap x ox C od) (hb : mroIn K C (.type "BaseException") = some true) (hq : Q () s) :
    wpAny M A (checkBuiltinCall "BaseException.__getattribute__" ⟨[.ref x, nameV], []⟩) Q E s := by
  have sub : Looks M s.heap (isInstance (.ref x) (.type "BaseException")) true := I.type.andThen (looks_mroIn X hb)
  exact @check_slot M _ _ s "BaseException.__getattribute__" "BaseException" "__getattribute__" (.ref x) [nameV] [] _ (by decide +kernel) (by decide +kernel) sub (F.args_bexc_ga _ _) hq
theorem excGetBy (X : K.In s.heap) (I : InstAt s.heap x ox C od) (hga : findIn K (.ref C) "__getattribute__" = some (some (.builtin "BaseException.__getattribute__"))) (hb : mroIn K C (.type "BaseException") = some true)
    (hk : findIn K (.ref C) "__getattr__" = some none) (hf : findObj K C od name = some (.value v)) (hh : handedIn v = true) (h : Q v s) :
    wpAny (model prog w) A (getAttrBy (.ref x) (.str name tk) fill expr) Q E s := by
  have FB := PySem.F.excAttr_ValueError
  have L0 := I.type (M := model prog w)
  have L1 := looks_findIn (M := model prog w) X hga
  have L2 : Looks (model prog w) s.heap (hookBefore (.ref C)) none := looks_hook X (by rw [if_pos (by rfl)]; exact hk)
  have L3 := looks_find (M := model prog w) X I hf
  have f3 := FB.ga.bind (.ref x)
  unfold getAttrBy
  refine wpAny_holding (wpAny_bind (L0.here (wpAny_bind (L1.here ?_))))
  show wpAny _ _ (getAttrByItsOwn _ _ _ _ _ _) _ _ _
  unfold getAttrByItsOwn
  refine wpAny_bind (L2.here ?_)
  have hx0 : (expr && onTheHeap (Value.builtin "BaseException.__getattribute__")) = false := by cases expr <;> rfl
  have inner : wpAny (model prog w) A (callGetattribute (.ref x) (.str name tk) (.builtin "BaseException.__getattribute__") expr) (fun r s' => r = v ∧ s' = s) (fun _ _ => False) s := by
    unfold callGetattribute
    rw [hx0]
    show wpAny _ _ (boundAndCalled _ _ _) _ _ _
    unfold boundAndCalled
    rw [f3]
    refine wpAny_bind (wpAny_pure (wpAny_call (codeAny_call_builtin FB.ga.plain F.entry_bexc_ga (excGaCheck X I hb ?_))))
    unfold Builtin.«object.__getattribute__»
    refine wpAny_bind (wpAny_pure (wpAny_bind (wpAny_pure (wpAny_bind (L0.here (wpAny_bind (L3.here ?_)))))))
    exact wpAny_pure ⟨rfl, rfl⟩
  refine wpAny_bind (wpAny_attempt (wpAny_holding (wpAny_mono inner (fun r s' z => ?_) fun _ _ z => z.elim)))
  obtain ⟨rfl, rfl⟩ := z
  show wpAny _ _ (handedOut _) _ _ _
  rw [handedOut_of hh]
  exact wpAny_pure h
end

section
variable {prog : Program} {w : World} {A : Around} {E : Value → Shared → Prop} {K : Frag} {C x : Addr} {s : Shared} {ox : Obj} {name : Str} {v : Value} {cd : ClassData} {h₀ : Heap} {L : Addr} {m : Str → Option Value} {post : List (Addr × Obj)} {Q : Unit → Shared → Prop}
theorem setNewK (F : Fr h₀ L s.heap m) (X₀ : K.In h₀) (Nw : News h₀ L s.heap ((x, ox) :: post)) (hcl : ox.cls = .ref C) (hno : notCls ox = true) (hfr : ox.isFreed = false) (hd : ox.dict = none)
    (hs : findIn K (.ref C) "__setattr__" = some (some (.builtin "object.__setattr__"))) (hc : clsIn K C = some cd) (hh : cd.hasDict = true) (ho : mroIn K C (.type "object") = some true) (hp : refuseLoop (.ref x) "__setattr__" cd.mro = pure ()) (ht : findIn K (.ref C) name = some none) (hne : ∀ p ∈ post, p.1 ≠ x)
    (h : ∀ h' dx o', o' = Obj.putName name (PyData.keyHash w.params name) (.str name (s.toks + 1)) v emptyDict → Fr h₀ L h' m → News h₀ L h' ((dx, o') :: (x, { ox with dict := some dx }) :: post) → (∀ p ∈ (x, ox) :: post, p.1 < dx) → Q () { s with heap := h', toks := s.toks + 1 + 1 }) :
    wpAny (model prog w) A (setAttr (.ref x) name v) Q E s := by
  have X := X₀.keeps F.keep
  have I : PySem.W.InstAt s.heap x ox C none := ⟨(Nw (x, ox) (.head _)).1, hcl, hno, by rw [hd]; trivial⟩
  exact set_plain X I hs (osaX (s := { s with toks := s.toks + 1 }) X I hc ho hp ht (storeNew (s := { s with toks := s.toks + 1 }) F Nw X hcl hno hfr hd hc hh hne fun h' dx o' e F' N' l => h h' dx o' e F' N' l))
end

section
variable {prog : Program} {w : World} {A : Around} {E : Value → Shared → Prop} {K : Frag} {C D x : Addr} {s : Shared} {ox : Obj} {od : Option Obj} {tk : Tok} {fill expr : Bool} {cd cd' : ClassData}
theorem excClsBy {Q : Value → Shared → Prop} (X : K.In s.heap) (I : PySem.W.InstAt s.heap x ox D od) (hga : findIn K (.ref D) "__getattribute__" = some (some (.builtin "BaseException.__getattribute__"))) (hb : mroIn K D (.type "BaseException") = some true) (ho : mroIn K D (.type "object") = some true)
    (hk : findIn K (.ref D) "__getattr__" = some none) (hf : findObj K D od "__class__" = some (.bind (.builtin "getset_descriptor.__get__") (.builtin "object.__class__"))) (h : Q (.ref D) s) :
    wpAny (model prog w) A (getAttrBy (.ref x) (.str "__class__" tk) fill expr) Q E s := by
  have FB := PySem.F.excAttr_ValueError
  have L0 := I.type (M := model prog w)
  have L1 := looks_findIn (M := model prog w) X hga
  have L2 : Looks (model prog w) s.heap (hookBefore (.ref D)) none := looks_hook X (by rw [if_pos (by rfl)]; exact hk)
  have L3 := looks_find (M := model prog w) X I hf
  have f3 := FB.ga.bind (.ref x)
  unfold getAttrBy
  refine wpAny_holding (wpAny_bind (L0.here (wpAny_bind (L1.here ?_))))
  show wpAny _ _ (getAttrByItsOwn _ _ _ _ _ _) _ _ _
  unfold getAttrByItsOwn
  refine wpAny_bind (L2.here ?_)
  have hx0 : (expr && onTheHeap (Value.builtin "BaseException.__getattribute__")) = false := by cases expr <;> rfl
  have inner : wpAny (model prog w) A (callGetattribute (.ref x) (.str "__class__" tk) (.builtin "BaseException.__getattribute__") expr) (fun r s' => r = .ref D ∧ s' = s) (fun _ _ => False) s := by
    unfold callGetattribute
    rw [hx0]
    show wpAny _ _ (boundAndCalled _ _ _) _ _ _
    unfold boundAndCalled
    rw [f3]
    refine wpAny_bind (wpAny_pure (wpAny_call (codeAny_call_builtin FB.ga.plain F.entry_bexc_ga (excGaCheck X I hb ?_))))
    unfold Builtin.«object.__getattribute__»
    refine wpAny_bind (wpAny_pure (wpAny_bind (wpAny_pure (wpAny_bind (L0.here (wpAny_bind (L3.here ?_)))))))
    unfold bindTo
    refine wpAny_bind (wpAny_holding (wpAny_call (class_get X I ho ?_)))
    exact wpAny_pure ⟨rfl, rfl⟩
  refine wpAny_bind (wpAny_attempt (wpAny_holding (wpAny_mono inner (fun r s' z => ?_) fun _ _ z => z.elim)))
  obtain ⟨rfl, rfl⟩ := z
  show wpAny _ _ (handedOut _) _ _ _
  rw [handedOut_of (by rfl)]
  exact wpAny_pure h
theorem isiK {Q : Value → Shared → Prop} {h₀ : Heap} {L : Addr} {m : Str → Option Value} {news : List (Addr × Obj)} (F : Fr h₀ L s.heap m) (X₀ : K.In h₀) (Nw : News h₀ L s.heap news) (hm : (x, ox) ∈ news) (hc : ox.cls = .ref D) (e : isIn K (.ref D) C = true) (h : Q (.bool true) s) :
    wpAny (model prog w) A (call (.builtin "isinstance") [.ref x, .ref C]) Q E s :=
  isi_call (X₀.keeps F.keep) (fun M => hc ▸ (Looks.ld (Nw _ hm).1).andThen .now) e (by intro z; cases z) h

theorem isnNested {Q : Fin → Shared → Prop} {dep : Int} (X : K.In s.heap) (I : PySem.W.InstAt s.heap x ox D od) (hga : findIn K (.ref D) "__getattribute__" = some (some (.builtin "BaseException.__getattribute__"))) (hb : mroIn K D (.type "BaseException") = some true) (ho : mroIn K D (.type "object") = some true)
    (hk : findIn K (.ref D) "__getattr__" = some none) (hf : findObj K D od "__class__" = some (.bind (.builtin "getset_descriptor.__get__") (.builtin "object.__class__")))
    (e0 : clsIn K C = some cd) (e4 : clsIn K D = some cd') (e1 : typeIn K (.ref C) = some (.type "type")) (e2 : instIn K (.ref C) (.type "type") = some true) (e3 : mroIn K D (.ref C) = some false) (hne : (D == C) = false) (h : Q (.done (.ret (.bool false))) { s with toks := s.toks + 1 }) :
    wpAny (model prog w) A (Builtin.«isinstance.nested» ⟨[.ref x, .ref C, .int dep tk], []⟩) Q E s := by
  obtain ⟨hh, g, d, tt, os⟩ := s
  have L0 := I.type (M := model prog w)
  have L1 := looks_typeIn (M := model prog w) X e1
  have L2 := looks_instIn (M := model prog w) X e2
  have L4 := looks_mroIn (M := model prog w) X e3
  have L3 : Looks (model prog w) hh (isInstance (.ref x) (.ref C)) false := L0.andThen L4
  unfold Builtin.«isinstance.nested»
  refine wpAny_bind (L0.at ?_)
  rw [if_neg (fun q => by have := beq_iff_eq.mp q; cases this; simp at hne)]
  refine wpAny_bind (L1.at ?_)
  rw [if_pos (by decide)]
  k_delta "plainIsInstance"
  unfold isType
  repeat lk
  unfold clsIn at e0
  split at e0
  · rename_i hl
    refine nd_load (X _ _ hl) (nd_pure (wpAny_pure ?_))
    simp only [Bool.not_true, Bool.false_eq_true, if_false]
    refine wpAny_bind (L3.at ?_)
    simp only [Bool.false_eq_true, if_false]
    unfold getAttr? getAttrBy?
    refine wpAny_bind (wpAny_bind (wpAny_mkText (wpAny_bind (wpAny_attempt (excClsBy (s := ⟨hh, g, d, tt + 1, os⟩) X I hga hb ho hk hf (wpAny_pure ?_))))))
    unfold clsIn at e4
    split at e4
    · rename_i hD
      refine nd_load (X _ _ hD) ?_
      show wpAny _ _ (rule "isinstance.by-__class__" >>= fun _ => isSubtype (.ref D) (.ref C)) _ _ _
      exact wpAny_bind (wpAny_rule (L4.at (wpAny_pure h)))
    · cases e4
  · cases e0
theorem isnK {Q : Value → Shared → Prop} {h₀ : Heap} {L : Addr} {m : Str → Option Value} {news : List (Addr × Obj)} (F : Fr h₀ L s.heap m) (X₀ : K.In h₀) (Nw : News h₀ L s.heap news) (I : PySem.W.InstAt s.heap x ox D od)
    (hga : findIn K (.ref D) "__getattribute__" = some (some (.builtin "BaseException.__getattribute__"))) (hb : mroIn K D (.type "BaseException") = some true) (ho : mroIn K D (.type "object") = some true)
    (hk : findIn K (.ref D) "__getattr__" = some none) (hf : findObj K D od "__class__" = some (.bind (.builtin "getset_descriptor.__get__") (.builtin "object.__class__")))
    (e0 : clsIn K C = some cd) (e4 : clsIn K D = some cd') (e1 : typeIn K (.ref C) = some (.type "type")) (e2 : instIn K (.ref C) (.type "type") = some true) (e3 : mroIn K D (.ref C) = some false) (hne : (D == C) = false) (h : Q (.bool false) { s with toks := s.toks + 1 }) :
    wpAny (model prog w) A (call (.builtin "isinstance") [.ref x, .ref C]) Q E s :=
  call_isinstance (S := fun _ R s => (K.In s.heap ∧ PySem.W.InstAt s.heap x ox D od) ∧ R (.ok (.ret (.bool false))) { s with toks := s.toks + 1 })
    (fun _ _ _ _ _ hs => isinstance_outer (isnNested hs.1.1 hs.1.2 hga hb ho hk hf e0 e4 e1 e2 e3 hne hs.2) (by intro z; cases z)) ⟨⟨X₀.keeps F.keep, I⟩, h⟩
theorem instN {h₀ : Heap} {L p : Addr} {news : List (Addr × Obj)} (Nw : News h₀ L s.heap news) (hm : (x, excO D p) ∈ news) : PySem.W.InstAt s.heap x (excO D p) D none := ⟨(Nw _ hm).1, rfl, rfl, trivial⟩
theorem isiTy {Q : Value → Shared → Prop} {h₀ : Heap} {L : Addr} {m : Str → Option Value} (F : Fr h₀ L s.heap m) (X₀ : K.In h₀) (I : PySem.W.InstAt s.heap x ox D od) (e3 : mroIn K D (.type "ValueError") = some true) (h : Q (.bool true) s) :
    wpAny (model prog w) A (call (.builtin "isinstance") [.ref x, .type "ValueError"]) Q E s := by
  refine call_isinstance (S := fun _ R s => (K.In s.heap ∧ PySem.W.InstAt s.heap x ox D od) ∧ R (.ok (.ret (.bool true))) s)
    (fun {prog w A R s} hs => isinstance_outer ?_ (by intro z; cases z)) ⟨⟨X₀.keeps F.keep, I⟩, h⟩
  obtain ⟨⟨X, I⟩, h⟩ := hs
  obtain ⟨hh, g, d, tt, os⟩ := s
  have L0 := I.type (M := model prog w)
  have L4 := looks_mroIn (M := model prog w) X e3
  have L3 : Looks (model prog w) hh (isInstance (.ref x) (.type "ValueError")) true := L0.andThen L4
  have f1 : typeOf (.type "ValueError") = pure (.type "type") := by kernel_rfl
  unfold Builtin.«isinstance.nested» rawInt
  refine wpAny_bind (L0.at ?_)
  rw [if_neg (fun q => by have := beq_iff_eq.mp q; cases this), f1]
  refine wpAny_bind (wpAny_pure ?_)
  rw [if_pos (by decide)]
  k_delta "plainIsInstance"
  unfold isType
  refine wpAny_bind (wpAny_bind (wpAny_pure ?_))
  simp only [Bool.not_true, Bool.false_eq_true, if_false]
  refine wpAny_bind (L3.at ?_)
  exact wpAny_pure (wpAny_pure h)
theorem instN2 {h₀ : Heap} {L dx : Addr} {news : List (Addr × Obj)} {o' : Obj} {vs : Array Value} {sl : Array (Option Value)} (Nw : News h₀ L s.heap news) (hm : (x, (⟨.ref D, some dx, .fields vs, sl⟩ : Obj)) ∈ news) (h2 : (dx, o') ∈ news) :
    PySem.W.InstAt s.heap x ⟨.ref D, some dx, .fields vs, sl⟩ D (some o') := ⟨(Nw _ hm).1, rfl, rfl, (Nw _ h2).1⟩
theorem findObjV {o' : Obj} {name : Str} {v : Value} (hc : clsIn K D = some cd) (hh : cd.hasDict = true) (ha : findIn K (.ref D) name = some none) (hl : lookIn name o' = some (some v)) : findObj K D (some o') name = some (.value v) := by
  simp [findObj, hc, ha, PySem.W.ownOf, hh, hl]
theorem getLineK {Q : Value → Shared → Prop} {h₀ : Heap} {L : Addr} {m : Str → Option Value} {o' : Obj} {name : Str} {v : Value} (F : Fr h₀ L s.heap m) (X₀ : K.In h₀) (I : PySem.W.InstAt s.heap x ox D (some o'))
    (hga : findIn K (.ref D) "__getattribute__" = some (some (.builtin "BaseException.__getattribute__"))) (hb : mroIn K D (.type "BaseException") = some true) (hk : findIn K (.ref D) "__getattr__" = some none)
    (hc : clsIn K D = some cd) (hh : cd.hasDict = true) (ha : findIn K (.ref D) name = some none) (hl : lookIn name o' = some (some v)) (hv : handedIn v = true) (h : Q v { s with toks := s.toks + 1 }) :
    wpAny (model prog w) A (getAttr (.ref x) name expr) Q E s := by
  unfold getAttr
  exact wpAny_bind (wpAny_mkText (excGetBy (s := { s with toks := s.toks + 1 }) (X₀.keeps F.keep) I hga hb hk (findObjV hc hh ha hl) hv h))
end
theorem newsP1 {h₀ h : Heap} {L : Addr} {a b : Addr × Obj} {c1 c2 c3 c4 : Addr} {x1 y1 y2 y3 y4 y5 y6 y7 u1 u2 u3 v1 v2 v3 v4 : Value} {z1 z2 z3 z4 : Nat} {l : List (Addr × Obj)}
    (N : News h₀ L h (a :: b :: (c1, W.listOf #[x1] z1) :: (c2, W.listOf #[y1, y2, y3, y4, y5, y6, y7] z2) :: (c3, W.listOf #[u1, u2, u3] z3) :: (c4, W.listOf #[v1, v2, v3, v4] z4) :: l)) : News h₀ L h (a :: b :: l) :=
  fun p hp => N p (by simp only [List.mem_cons] at hp ⊢; rcases hp with h | h | h <;> simp [h])
theorem newsP2 {h₀ h : Heap} {L : Addr} {a : Addr × Obj} {b c : Addr} {v1 v2 v3 v4 v5 v6 v7 v8 : Bool} {x1 x2 x3 x4 x5 x6 x7 x8 : Addr} {z z' : Nat} {l : List (Addr × Obj)}
    (N : News h₀ L h (a :: (b, W.listOf #[.bool v1, .bool v2, .bool v3, .bool v4, .bool v5, .bool v6, .bool v7, .bool v8] z) :: (c, W.listOf #[.ref x1, .ref x2, .ref x3, .ref x4, .ref x5, .ref x6, .ref x7, .ref x8] z') :: l)) :
    News h₀ L h (a :: (c, W.listOf #[.ref x1, .ref x2, .ref x3, .ref x4, .ref x5, .ref x6, .ref x7, .ref x8] z') :: l) :=
  fun p hp => N p (by simp only [List.mem_cons] at hp ⊢; rcases hp with h | h | h <;> simp [h])
theorem dup1 {α : Type} {p : Prop} [Decidable p] {a b c : α} : (if p then a else if p then b else c) = if p then a else c := by split <;> rfl
theorem dup3 {α : Type} {p q r : Prop} [Decidable p] [Decidable q] [Decidable r] {a b c d e : α} : (if p then a else if q then b else if r then c else if p then d else e) = if p then a else if q then b else if r then c else e := by
  split
  · rfl
  · rfl
end L2

open PySem PySem.W PyProof.Rows
set_option Elab.async false
local macro_rules | `(tactic| walk_at "RangeRest") => `(tactic| ((with_unfolding_all first | refine RangeRest.succ (fun t' h' tk' F' N' => ?_) | refine RangeRest.zero (fun h' tk' F' N' => ?_)); (try k_sweep); (try simp only [L2.dup1, L2.dup3] at F'); (try (with_unfolding_all replace N' := L2.newsP1 N')); (try ((with_unfolding_all replace N' := L2.newsP2 N'); revert F' N'; (repeat ((with_reducible rename _ ∧ _ => z'); clear z')); (try ((rename Fr _ _ _ _ => z'); clear z')); (try ((rename News _ _ _ _ => z'); clear z')); (try ((rename Below _ _ _ _ => z'); clear z')); (try ((rename Frag.In _ _ => z'); clear z')); (try ((rename Frag.In _ _ => z'); clear z')); (try ((rename Heap.IsList _ _ _ => z'); clear z')); (try ((rename ReadsAll _ _ _ _ => z'); clear z')); (try ((rename BMod _ _ _ _ _ => z'); clear z')); (try ((rename IsRange _ _ _ _ _ _ _ _ => z'); clear z')); (try ((rename Glob _ _ _ _ _ _ _ _ => z'); clear z')); (try ((rename Glob _ _ _ _ _ _ _ _ => z'); clear z')); (try ((rename Glob _ _ _ _ _ _ _ _ => z'); clear z')); intro F' N'))))
local macro_rules | `(tactic| walk_at "UnrEnd") => `(tactic| k_dflt krn_end)
local macro_rules | `(tactic| walk_at "exec If") => `(tactic| with_reducible refine wpAny_If ?_)
local macro_rules | `(tactic| walk_at "eval Name") => `(tactic| (k_here; k_dflt (refine' nameX_L ?F ?v ?_ ?a ?b; (case F => k_asm); (case a => rfl); (case b => rfl); (case v => rfl); k_whole)))
local macro_rules | `(tactic| walk_at "subscriptTail") => `(tactic| (k_here; kim_at))
local macro_rules | `(tactic| walk_at "call ref") => `(tactic| (k_here; (with_reducible show wpAny _ _ (call (Value.ref _) _ _) _ _ _); first
  | (refine' L2.callExcK ?k1 ?k2 ?k3 ?k4 ?k5 ?k6 ?k7 ?_ ?z; (case k1 => k_asm); (case k2 => k_asm); (case k3 => k_asm); (case k4 => k_is); (case k5 => kernel_rfl); (case k6 => kernel_rfl); (case k7 => k_is); (case z => size_fits); k_whole; intro x' p' h' F' N'; (try k_sweep))
  | (refine' L2.callInitK ?k1 ?k2 ?k3 ?k4 ?k5 ?k6 ?k7 ?k8 ?_ ?z; (case k1 => k_asm); (case k2 => k_asm); (case k3 => k_asm); (case k4 => k_is); (case k5 => kernel_rfl); (case k6 => kernel_rfl); (case k7 => k_is); (case k8 => k_is); (case z => size_fits); k_whole; intro x' p' h' F' N' l1 l2; (try k_lt l1); (try k_lt2 l2); (try k_sweep); k_enter)))
local macro_rules | `(tactic| walk_at "setAttr ref") => `(tactic| (k_here; refine' L2.setNewK ?k1 ?k2 ?k3 ?a1 ?a2 ?a3 ?a4 ?k4 ?k5 ?k6 ?k7 ?k8 ?k9 ?k10 ?_; (case k1 => k_asm); (case k2 => k_asm); (case k3 => k_asm); (case a1 => with_unfolding_all exact rfl); (case a2 => with_unfolding_all exact rfl); (case a3 => with_unfolding_all exact rfl); (case a4 => with_unfolding_all exact rfl); (case k4 => k_is); (case k5 => k_is); (case k6 => with_unfolding_all exact rfl); (case k7 => k_is); (case k8 => exact (PySem.refuseLoop_ref _ _ _ _).trans ((PySem.refuseLoop_ref _ _ _ _).trans (PySem.F.store_ValueError.passes _))); (case k9 => k_is); (case k10 => k_all); k_whole; intro h' d' o' e' F' N' l1; subst e'; (try k_lt l1); (try k_sweep)))
local macro_rules | `(tactic| walk_at "call builtin:isinstance") => `(tactic| (k_here; (with_reducible show wpAny _ _ (call _ [Value.ref _, Value.ref _]) _ _ _); first
  | (refine' L2.isiK ?k1 ?k2 ?k3 ?k4 ?k5 ?k6 ?_; (case k1 => k_asm); (case k2 => k_asm); (case k3 => k_asm); (case k4 => with_unfolding_all k_mem); (case k5 => with_unfolding_all exact rfl); (case k6 => k_is); k_whole)
  | (refine' L2.isnK ?k1 ?k2 ?k3 ?k4 ?a1 ?a2 ?a3 ?a4 ?a5 ?a6 ?a7 ?a8 ?a9 ?b1 ?b2 ?_; (case k1 => k_asm); (case k2 => k_asm); (case k3 => k_asm); (case k4 => first | (with_unfolding_all refine' L2.instN ?n1 ?n2; (case n1 => k_asm); (case n2 => k_mem)) | (with_unfolding_all refine' L2.instN2 ?n1 ?n2 ?n3; (case n1 => k_asm); (case n2 => k_mem); (case n3 => k_mem))); (case a1 => k_is); (case a2 => k_is); (case a3 => k_is); (case a4 => k_is); (case a5 => kernel_rfl); (case a6 => k_is); (case a7 => k_is); (case a8 => k_is); (case a9 => k_is); (case b1 => k_is); (case b2 => decide); k_whole)))
local macro_rules | `(tactic| walk_at "call builtin:isinstance") => `(tactic| (k_here; (with_reducible show wpAny _ _ (call _ [Value.ref _, Value.type _]) _ _ _); refine' L2.isiTy ?k1 ?k2 ?k4 ?k5 ?_; (case k1 => k_asm); (case k2 => k_asm); (case k4 => first | (with_unfolding_all refine' L2.instN ?n1 ?n2; (case n1 => k_asm); (case n2 => k_mem)) | (with_unfolding_all refine' L2.instN2 ?n1 ?n2 ?n3; (case n1 => k_asm); (case n2 => k_mem); (case n3 => k_mem))); (case k5 => k_is); k_whole))
local macro_rules | `(tactic| walk_at "getAttr ref") => `(tactic| (k_here; refine' L2.getLineK ?k1 ?k2 ?k3 ?a1 ?a2 ?a3 ?a4 ?a5 ?a6 ?a7 ?a8 ?_; (case k1 => k_asm); (case k2 => k_asm); (case k3 => (with_unfolding_all refine' L2.instN2 ?n1 ?n2 ?n3; (case n1 => k_asm); (case n2 => k_mem); (case n3 => k_mem))); (case a1 => k_is); (case a2 => k_is); (case a3 => k_is); (case a4 => k_is); (case a5 => with_unfolding_all exact rfl); (case a6 => k_is); (case a7 => with_unfolding_all rfl); (case a8 => with_unfolding_all rfl); k_whole))
set_option maxRecDepth 100000 in
set_option maxHeartbeats 8000000 in
theorem PySem.Challenge.cw_keel_k16_refusals_apart_holds : PySem.Challenge.rw_keel_k16_refusals_apart.Holds := by
  (w_on; o_law; k_head; (case hw => w_witness2); w_strict k_go)
