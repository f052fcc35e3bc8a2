import PyProof.Rows.All
import Wide.All
import OpenK.AllK
import Wide.FinOn
import Lean
import PyProof.EqAt
import PyProof.EqKinds
import PyProof.TupleCall
import PyProof.ZipIter
import PyProof.EnumMake
import PyProof.EnumFor
import PyProof.Rows.FactsT2
import PyProof.Rows.EnumRows
import PyProof.ConsumeWalk
import PyProof.ListMulRoad
import PyProof.AutoListH
import PyProof.MinMaxWalk
import PyProof.WalkInts
import PyProof.Rows.CallKwBuiltin
import PyProof.Rows.Range3
import PyProof.P3In
import PyProof.FactsAll.list_3
import PyProof.EqAt
import PyProof.StrOps2
import KE.KRevIter
import PyProof.StrBlockI
import PySem.Challenge.RW_keel_k41_within_and_breaking
set_option Elab.async false
set_option linter.all false
set_option maxRecDepth 100000
namespace L2
open PySem PySem.Spec PyProof.Rows
noncomputable abbrev Key := Sum Int Str
noncomputable def keyIs : Key → Value → Bool
  | .inl k, v => Value.isInt k v
  | .inr x, v => Value.isStrOf x v
noncomputable def keyH (w : World) : Key → Int
  | .inl k => hashInt k
  | .inr x => hashStr w x
theorem keyIs_shape : ∀ {k : Key} {v : Value}, keyIs k v = true → (∃ i t, k = Sum.inl i ∧ v = Value.int i t) ∨ (∃ x t, k = Sum.inr x ∧ v = Value.str x t)
  | .inl i, v, h => by
    obtain ⟨t, e⟩ := Value.isInt_shape (k := i) (v := v) h
    exact .inl ⟨i, t, rfl, e⟩
  | .inr x, v, h => by
    obtain ⟨t, e⟩ := Value.isStrOf_shape (x := x) (v := v) h
    exact .inr ⟨x, t, rfl, e⟩
theorem key_ll (a b : Int) : decide ((Sum.inl a : Key) = Sum.inl b) = (a == b) := by
  by_cases e : a = b
  · subst e; simp
  · have h : ¬ (Sum.inl a : Key) = Sum.inl b := fun q => e (Sum.inl.inj q)
    rw [decide_eq_false h]
    exact (beq_eq_false_iff_ne.mpr e).symm
theorem key_rr (a b : Str) : decide ((Sum.inr a : Key) = Sum.inr b) = decide (a = b) := by
  by_cases e : a = b
  · subst e; simp
  · have h : ¬ (Sum.inr a : Key) = Sum.inr b := fun q => e (Sum.inr.inj q)
    rw [decide_eq_false h, decide_eq_false e]
theorem key_lr (a : Int) (b : Str) : decide ((Sum.inl a : Key) = Sum.inr b) = false := decide_eq_false (fun q => nomatch q)
theorem key_rl (a : Str) (b : Int) : decide ((Sum.inr a : Key) = Sum.inl b) = false := decide_eq_false (fun q => nomatch q)
noncomputable def mixKind (prog : Program) (w : World) : PySem.KeyKind prog w Key where
  is := keyIs
  hash := keyH w
  inj := fun v a b ha hb => by
    rcases keyIs_shape ha with ⟨i, t, rfl, rfl⟩ | ⟨x, t, rfl, rfl⟩
    · rcases keyIs_shape hb with ⟨j, u, rfl, e⟩ | ⟨y, u, rfl, e⟩
      · injection e with e1 _; rw [e1]
      · exact nomatch e
    · rcases keyIs_shape hb with ⟨j, u, rfl, e⟩ | ⟨y, u, rfl, e⟩
      · exact nomatch e
      · injection e with e1 _; rw [e1]
  byValue := fun k v h => by
    rcases keyIs_shape h with ⟨i, t, rfl, rfl⟩ | ⟨x, t, rfl, rfl⟩ <;> rfl
  pyHash := fun hv h => by
    rcases keyIs_shape hv with ⟨i, t, rfl, rfl⟩ | ⟨x, t, rfl, rfl⟩
    · exact wpAny_pyHash_int h
    · exact wpAny_pyHash_str h
  eqBool := fun hu hv h => by
    rcases keyIs_shape hu with ⟨i, t, rfl, rfl⟩ | ⟨x, t, rfl, rfl⟩
    · rcases keyIs_shape hv with ⟨j, u, rfl, rfl⟩ | ⟨y, u, rfl, rfl⟩
      · rw [key_ll] at h; exact wpAny_eqBool_int h
      · rw [key_lr] at h; exact SeqAt.EqAt.int_str i t y u _ _ _ _ h
    · rcases keyIs_shape hv with ⟨j, u, rfl, rfl⟩ | ⟨y, u, rfl, rfl⟩
      · rw [key_rl] at h; exact SeqAt.EqAt.str_int x t j u _ _ _ _ h
      · rw [key_rr] at h; exact wpAny_eqBool_str h
  «strs» := fun k x t v h => by
    rcases keyIs_shape h with ⟨i, u, rfl, e⟩ | ⟨y, u, rfl, e⟩
    · exact nomatch e
    · injection e with e1 _
      subst e1
      cases v <;> rfl
end L2
namespace L2
open PySem PySem.Spec PyProof.Rows
inductive V where
  | non | bl (b : Bool) | int (i : Int) | str (x : Str) | byt (b : Array UInt8) | flt (b : UInt64) | ref (a : Addr) | ty (n : String)
  deriving DecidableEq
noncomputable def RelV : V → Value → Prop
  | .non, u => u = Value.none
  | .bl b, u => u = Value.bool b
  | .int i, u => ∃ t, u = Value.int i t
  | .str x, u => ∃ t, u = Value.str x t
  | .byt b, u => ∃ t, u = Value.bytes b t
  | .flt b, u => ∃ t, u = Value.float b t
  | .ref a, u => u = Value.ref a
  | .ty n, u => u = Value.type n
noncomputable abbrev Vals : List V → List Value → Prop := Paired RelV
theorem Vals.length {xs : List V} {us : List Value} (r : Vals xs us) : xs.length = us.length := Paired.length r
theorem Vals.get : ∀ {xs : List V} {us : List Value} {i : Nat} {x : V}, Vals xs us → xs[i]? = some x → ∃ u, us[i]? = some u ∧ RelV x u
  | _, _, _, _, .nil, e => by simp at e
  | _, _, 0, _, .cons r _, e => by simp at e; subst e; exact ⟨_, rfl, r⟩
  | _, _, i + 1, x, .cons _ t, e => by
    obtain ⟨u, h1, h2⟩ := Vals.get (i := i) (x := x) t (by simpa using e)
    exact ⟨u, by simpa using h1, h2⟩
theorem Vals.set {x : V} {u : Value} (r : RelV x u) : ∀ {xs : List V} {us : List Value} (i : Nat), Vals xs us → Vals (xs.set i x) (us.set i u)
  | _, _, _, .nil => .nil
  | _, _, 0, .cons _ t => .cons r t
  | _, _, i + 1, .cons q t => .cons q (Vals.set r i t)
theorem Vals.append : ∀ {xs ys : List V} {us ws : List Value}, Vals xs us → Vals ys ws → Vals (xs ++ ys) (us ++ ws)
  | _, _, _, _, .nil, s => s
  | _, _, _, _, .cons r t, s => .cons r (Vals.append t s)
theorem Vals.take : ∀ {xs : List V} {us : List Value} (n : Nat), Vals xs us → Vals (xs.take n) (us.take n)
  | _, _, 0, _ => .nil
  | _, _, _ + 1, .nil => .nil
  | _, _, n + 1, .cons r t => .cons r (Vals.take n t)
theorem Vals.drop : ∀ {xs : List V} {us : List Value} (n : Nat), Vals xs us → Vals (xs.drop n) (us.drop n)
  | _, _, 0, r => r
  | _, _, _ + 1, .nil => .nil
  | _, _, n + 1, .cons _ t => Vals.drop n t
noncomputable def RelO : Option V → Option Value → Prop
  | some v, some u => RelV v u
  | none, none => True
  | _, _ => False
noncomputable def KV {κ : Type} : List (κ × V) → List (κ × Value) → Prop := Paired fun (p : κ × V) (q : κ × Value) => p.1 = q.1 ∧ RelV p.2 q.2
noncomputable def kV : Key → V
  | .inl i => .int i
  | .inr x => .str x
inductive HO where
    | lst (xs : List V)
    | tup (xs : List V)
    | dK (kvs : List (Key × V)) | dT (kvs : List (List Key × V))
    | set (S : Int → Bool) (n : Nat)
    | ins (C dx : Addr) (fs : List (Str × V))
    | own (x : Addr)
    | xd (fs : List (Str × V))
    | met (f x : Addr)
    | rng (lo hi : Int)
    | frz (o : Obj) (u : HO)
    | tbl (ps : Array Value)
    | ext (φ : Heap → Prop)
noncomputable abbrev Hp := Addr → Option HO
noncomputable def upd (H : Hp) (a : Addr) (o : HO) : Hp := fun b => if b = a then some o else H b
theorem upd_same {H : Hp} {a : Addr} {o : HO} : upd H a o a = some o := by unfold upd; rw [if_pos rfl]
theorem upd_ne {H : Hp} {a b : Addr} {o : HO} (h : b ≠ a) : upd H a o b = H b := by unfold upd; rw [if_neg h]
theorem ne_of_none {H : Hp} {a b : Addr} {o : HO} (h : H a = some o) (h' : H b = none) : a ≠ b := by
  intro e; subst e; rw [h] at h'; cases h'
section
variable (P : Program) (w : World)
noncomputable def ObjOk (H : Hp) (h : Heap) (a : Addr) : HO → Prop
  | .lst xs => xs.length ≤ sizeLine ∧ ∃ (its : List Value) (n : Nat), Vals xs its ∧ h.get? a = some { cls := .type "list", data := .seq its.toArray n }
  | .tup xs => xs.length ≤ sizeLine ∧ ∃ its : List Value, Vals xs its ∧ IsTup h a its.toArray
  | .dK kvs => kvs.length ≤ sizeLine ∧ (a == sysModules) = false ∧ ∃ vs, KV kvs vs ∧ h.DictOf (mixKind P w) a vs
  | .dT kvs => kvs.length ≤ sizeLine ∧ (a == sysModules) = false ∧ ∃ xs : List (List Key × Addr × Value),
      Paired (fun (p : List Key × V) (q : List Key × Addr × Value) => p.1 = q.1 ∧ H q.2.1 = some (.tup (p.1.map kV)) ∧ RelV p.2 q.2.2) kvs xs ∧
      ∃ o es ep, h.get? a = some o ∧ o.ExactDict ∧ o.data = .dict es ep ∧ es.toList = xs.map (entryOfKey (tupleKind (mixKind P w))) ∧ (xs.map (·.1)).Nodup
  | .set S n => h.SetOf (intKind P w) a S n
  | .ins C dx fs => H dx = some (.own a) ∧ fs.length ≤ 1000 ∧ dx ≠ a ∧ h.get? a = some (PySem.W.instObj C dx) ∧
      ∃ mA, h.Ns1 dx mA ∧ (∀ f, RelO (fs.lookup f) (mA f)) ∧ PySem.Within mA (fs.map (·.1))
  | .own _ => ∃ o, h.get? a = some o
  | .xd fs => ∃ mA, h.Ns1 a mA ∧ ∀ f, RelO (fs.lookup f) (mA f)
  | .rng lo hi => ∃ t u v, h.get? a = some { cls := .type "range", data := .fields #[.int lo t, .int hi u, .int 1 v] }
  | .frz o u => h.get? a = some o ∧ ObjOk H h a u
  | .tbl ps => h.get? a = some { cls := .none, data := .fields ps }
  | .met f x => h.get? a = some (PySem.W.methodObj (.ref f) (.ref x))
  | .ext φ => φ h ∧ (∃ o, h.get? a = some o) ∧ ∀ h1 h2 : Heap, φ h1 → (∀ o, h1.get? a = some o → h2.get? a = some o) → φ h2
noncomputable def HOk (H : Hp) (h : Heap) : Prop := ∀ a o, H a = some o → ObjOk P w H h a o
end
section
variable {P : Program} {w : World} {H H' : Hp} {h h' : Heap} {a : Addr} {o : HO}
theorem ObjOk.lt (x : ObjOk P w H h a o) : a < h.objs.size := by
  cases o with
  | lst xs => obtain ⟨_, _, _, _, e⟩ := x; exact Heap.lt_size e
  | tup xs => obtain ⟨_, _, _, p⟩ := x; exact p.lt
  | dK kvs => obtain ⟨_, _, _, _, o, _, _, e, _⟩ := x; exact Heap.lt_size e
  | dT kvs => obtain ⟨_, _, _, _, o, _, _, e, _⟩ := x; exact Heap.lt_size e
  | set S n => obtain ⟨o, _, _, _, e, _⟩ := x; exact Heap.lt_size e
  | ins C dx fs => obtain ⟨_, _, _, e, _⟩ := x; exact Heap.lt_size e
  | own y => obtain ⟨_, e⟩ := x; exact Heap.lt_size e
  | xd fs => obtain ⟨_, ⟨_, _, _, e, _⟩, _⟩ := x; exact Heap.lt_size e
  | rng lo hi => obtain ⟨_, _, _, e⟩ := x; exact Heap.lt_size e
  | frz ob u => obtain ⟨e, _⟩ := x; exact Heap.lt_size e
  | tbl ps => exact Heap.lt_size (show h.get? a = some _ from x)
  | met f y => exact Heap.lt_size (show h.get? a = some _ from x)
  | ext φ => obtain ⟨_, ⟨_, e⟩, _⟩ := x; exact Heap.lt_size e
theorem Paired.mapP {α β : Type} {F G : α → β → Prop} : ∀ {l₁ : List α} {l₂ : List β}, Paired F l₁ l₂ → (∀ a b, F a b → G a b) → Paired G l₁ l₂
  | _, _, .nil, _ => .nil
  | _, _, .cons r t, f => .cons (f _ _ r) (Paired.mapP t f)
theorem ObjOk.stay (x : ObjOk P w H h a o) (k : ∀ b u, (b = a ∨ H b = some (.own a)) → h.get? b = some u → h'.get? b = some u)
    (ho : ∀ b, H b = some (.own a) → H' b = some (.own a)) (ht : ∀ b xs, H b = some (.tup xs) → H' b = some (.tup xs)) : ObjOk P w H' h' a o := by
  induction o with
  | lst xs => obtain ⟨z, its, n, r, e⟩ := x; exact ⟨z, its, n, r, k _ _ (.inl rfl) e⟩
  | tup xs => obtain ⟨z, its, r, ob, e, c⟩ := x; exact ⟨z, its, r, ob, k _ _ (.inl rfl) e, c⟩
  | dK kvs => obtain ⟨z, y, vs, r, ob, es, ep, e, c⟩ := x; exact ⟨z, y, vs, r, ob, es, ep, k _ _ (.inl rfl) e, c⟩
  | dT kvs =>
    obtain ⟨z, y, xs, r, ob, es, ep, e, c⟩ := x
    exact ⟨z, y, xs, Paired.mapP r fun p q z => ⟨z.1, ht _ _ z.2.1, z.2.2⟩, ob, es, ep, k _ _ (.inl rfl) e, c⟩
  | set S n => obtain ⟨ob, es, ep, t, e, c⟩ := x; exact ⟨ob, es, ep, t, k _ _ (.inl rfl) e, c⟩
  | ins C dx fs =>
    obtain ⟨d, z, ne, e, mA, ⟨od, es, ep, e2, c⟩, r⟩ := x
    exact ⟨ho _ d, z, ne, k _ _ (.inl rfl) e, mA, ⟨od, es, ep, k _ _ (.inr d) e2, c⟩, r⟩
  | own y => obtain ⟨ob, e⟩ := x; exact ⟨ob, k _ _ (.inl rfl) e⟩
  | xd fs => obtain ⟨mA, ⟨od, es, ep, e, c⟩, r⟩ := x; exact ⟨mA, ⟨od, es, ep, k _ _ (.inl rfl) e, c⟩, r⟩
  | rng lo hi => obtain ⟨t, u, v, e⟩ := x; exact ⟨t, u, v, k _ _ (.inl rfl) e⟩
  | frz ob u ih => obtain ⟨e, q⟩ := x; exact ⟨k _ _ (.inl rfl) e, ih q⟩
  | tbl ps =>
    have e : h.get? a = some { cls := .none, data := .fields ps } := x
    show h'.get? a = some { cls := .none, data := .fields ps }
    exact k a _ (.inl rfl) e
  | met f y =>
    have e : h.get? a = some (PySem.W.methodObj (.ref f) (.ref y)) := x
    show h'.get? a = some (PySem.W.methodObj (.ref f) (.ref y))
    exact k a _ (.inl rfl) e
  | ext φ => obtain ⟨p, ⟨o, e⟩, st⟩ := x; exact ⟨st _ _ p fun o q => k _ _ (.inl rfl) q, ⟨o, k _ _ (.inl rfl) e⟩, st⟩
theorem HOk.lt (x : HOk P w H h) (e : H a = some o) : a < h.objs.size := (x a o e).lt
theorem HOk.fresh (x : HOk P w H h) (e : h.objs.size ≤ a) : H a = none := by
  cases q : H a with
  | none => rfl
  | some u => exact absurd (Nat.lt_of_lt_of_le (x.lt q) e) (Nat.lt_irrefl _)
theorem HOk.kept (x : HOk P w H h) (k : ∀ b u, h.get? b = some u → h'.get? b = some u) : HOk P w H h' := fun a o e =>
  (x a o e).stay (fun b u _ q => k b u q) (fun _ q => q) fun _ _ q => q
theorem HOk.laid (x : HOk P w H h) (k : ∀ b u, h.get? b = some u → h'.get? b = some u) (hp : h.objs.size ≤ a) (new : ObjOk P w (upd H a o) h' a o) : HOk P w (upd H a o) h' := fun b u e => by
  have hn := x.fresh hp
  by_cases hb : b = a
  · subst hb; rw [upd_same] at e; cases e; exact new
  · rw [upd_ne hb] at e
    exact (x b u e).stay (fun c v _ q => k c v q) (fun c q => by rw [upd_ne (ne_of_none q hn)]; exact q) fun c xs q => by rw [upd_ne (ne_of_none q hn)]; exact q
end
noncomputable def Rd (H : Hp) (a : Addr) (u : HO) : Prop := H a = some u ∨ ∃ o, H a = some (.frz o u)
theorem Rd.of {H : Hp} {a : Addr} {u : HO} (h : H a = some u) : Rd H a u := .inl h
theorem Rd.ok {P : Program} {w : World} {H : Hp} {h : Heap} {a : Addr} {u : HO} (r : Rd H a u) (x : HOk P w H h) : ObjOk P w H h a u := by
  rcases r with r | ⟨o, r⟩
  · exact x a u r
  · obtain ⟨_, q⟩ := x a _ r
    exact q
noncomputable def Mut : Option HO → Prop
  | some (.lst _) => True
  | some (.dK _) => True
  | some (.dT _) => True
  | some (.set _ _) => True
  | some (.ins _ _ _) => True
  | some (.ext _) => True
  | _ => False
section
variable {P : Program} {w : World} {H : Hp} {h h' : Heap} {x e : Addr} {o' : HO}
theorem HOk.write (ok : HOk P w H h) (mu : Mut (H x)) (he : e = x ∨ H e = some (.own x)) (k : ∀ b u, b ≠ e → h.get? b = some u → h'.get? b = some u) (heo : ∃ u, h'.get? e = some u)
    (new : ObjOk P w (upd H x o') h' x o') : HOk P w (upd H x o') h' := fun b u q => by
  have nown : ∀ c y, H c = some (.own y) → c ≠ x := fun c y r z => by subst z; rw [r] at mu; exact mu
  have ntup : ∀ c xs, H c = some (.tup xs) → c ≠ x := fun c xs r z => by subst z; rw [r] at mu; exact mu
  by_cases hb : b = x
  · subst hb; rw [upd_same] at q; cases q; exact new
  · rw [upd_ne hb] at q
    by_cases hbe : b = e
    · have q' : H b = some (.own x) := by
        rcases he with z | z
        · exact absurd (hbe.trans z) hb
        · rw [hbe]; exact z
      rw [q] at q'; cases q'
      obtain ⟨v, hv⟩ := heo
      exact ⟨v, by rw [hbe]; exact hv⟩
    · refine (ok b u q).stay (fun c v hc r => k c v ?_ r) (fun c r => by rw [upd_ne (nown c b r)]; exact r) fun c xs r => by rw [upd_ne (ntup c xs r)]; exact r
      rcases hc with rfl | hc
      · exact hbe
      · rintro rfl
        rcases he with z | z
        · exact nown c b hc z
        · rw [hc] at z; cases z; exact hb rfl
end
structure Un (fs ex : List Addr) (H H' : Hp) (h h' : Heap) : Prop where
  keep : ∀ b o, h.get? b = some o → H b = none → b ∉ fs → b ∉ ex → h'.get? b = some o
  slot : ∀ b o, h.get? b = some o → H b = none → b ∈ fs → b ∉ ex → ∃ sl, h'.get? b = some { o with slots := sl }
  free : ∀ b o, h.get? b = some o → H b = none → b ∉ ex → H' b = none
  there : ∀ b o, h.get? b = some o → b ∉ ex → ∃ o', h'.get? b = some o'
  tups : ∀ b xs, H b = some (.tup xs) → H' b = some (.tup xs)
  frzs : ∀ b o u, H b = some (.frz o u) → H' b = some (.frz o u)
  tbls : ∀ b ps, H b = some (.tbl ps) → ∃ more, H' b = some (.tbl (ps ++ more))
section
variable {fs fs' ex ex' : List Addr} {H H1 H2 : Hp} {h h1 h2 h' : Heap} {a x e : Addr} {o : HO}
theorem Un.any (u : Un fs ex H H1 h h1) {b : Addr} {ob : Obj} (q : h.get? b = some ob) (n : H b = none) (hx : b ∉ ex) : ∃ sl, h1.get? b = some { ob with slots := sl } := by
  by_cases hb : b ∈ fs
  · exact u.slot b ob q n hb hx
  · exact ⟨ob.slots, u.keep b ob q n hb hx⟩
theorem Un.trans (a : Un fs ex H H1 h h1) (b : Un fs ex H1 H2 h1 h2) : Un fs ex H H2 h h2 where
  keep := fun c ob q n hc hx => b.keep c ob (a.keep c ob q n hc hx) (a.free c ob q n hx) hc hx
  slot := fun c ob q n hc hx => by
    obtain ⟨sl, e1⟩ := a.slot c ob q n hc hx
    obtain ⟨sl', e2⟩ := b.slot c _ e1 (a.free c ob q n hx) hc hx
    exact ⟨sl', e2⟩
  free := fun c ob q n hx => by
    obtain ⟨o', e1⟩ := a.there c ob q hx
    exact b.free c o' e1 (a.free c ob q n hx) hx
  there := fun c ob q hx => by
    obtain ⟨o', e1⟩ := a.there c ob q hx
    exact b.there c o' e1 hx
  tups := fun c xs q => b.tups c xs (a.tups c xs q)
  frzs := fun c ob xs q => b.frzs c ob xs (a.frzs c ob xs q)
  tbls := fun c ps q => by
    obtain ⟨m1, e1⟩ := a.tbls c ps q
    obtain ⟨m2, e2⟩ := b.tbls c _ e1
    exact ⟨m1 ++ m2, by rw [e2, Array.append_assoc]⟩
theorem Un.kept (k : ∀ b u, h.get? b = some u → h'.get? b = some u) : Un fs ex H H h h' :=
  ⟨fun b ob q _ _ _ => k b ob q, fun b ob q _ _ _ => ⟨ob.slots, k b ob q⟩, fun _ _ _ n _ => n, fun b ob q _ => ⟨ob, k b ob q⟩, fun _ _ q => q, fun _ _ _ q => q, fun _ ps q => ⟨#[], by rw [q]; simp⟩⟩
theorem Un.refl : Un fs ex H H h h := Un.kept fun _ _ q => q
theorem Un.laid (k : ∀ b u, h.get? b = some u → h'.get? b = some u) (hp : h.objs.size ≤ a) (hn : H a = none) : Un fs ex H (upd H a o) h h' where
  keep := fun b u q _ _ _ => k b u q
  slot := fun b u q _ _ _ => ⟨u.slots, k b u q⟩
  free := fun b u q n _ => by rw [upd_ne (Nat.ne_of_lt (Nat.lt_of_lt_of_le (Heap.lt_size q) hp))]; exact n
  there := fun b u q _ => ⟨u, k b u q⟩
  tups := fun b xs q => by rw [upd_ne (ne_of_none q hn)]; exact q
  frzs := fun b u xs q => by rw [upd_ne (ne_of_none q hn)]; exact q
  tbls := fun b ps q => ⟨#[], by rw [upd_ne (ne_of_none q hn), q]; simp⟩
theorem Un.write (mu : Mut (H x)) (he : e = x ∨ H e = some (.own x)) (k : ∀ b u, b ≠ e → h.get? b = some u → h'.get? b = some u) (heo : ∃ u, h'.get? e = some u) : Un fs ex H (upd H x o) h h' := by
  have hx : ∀ b, H b = none → b ≠ x := fun b n z => by subst z; rw [n] at mu; exact mu
  have hb : ∀ b, H b = none → b ≠ e := fun b n z => by
    subst z
    rcases he with r | r
    · exact hx b n r
    · rw [n] at r; cases r
  have hm : ∀ b u, H b = some u → ¬ Mut (some u) → b ≠ x := fun b u q nm z => by subst z; rw [q] at mu; exact nm mu
  refine ⟨fun b u q n _ _ => k b u (hb b n) q, fun b u q n _ _ => ⟨u.slots, k b u (hb b n) q⟩, fun b u q n _ => by rw [upd_ne (hx b n)]; exact n, fun b u q _ => ?_,
    fun b xs q => by rw [upd_ne (hm b _ q fun z => z)]; exact q, fun b u xs q => by rw [upd_ne (hm b _ q fun z => z)]; exact q, fun b ps q => ⟨#[], by rw [upd_ne (hm b _ q fun z => z), q]; simp⟩⟩
  by_cases hbe : b = e
  · subst hbe; exact heo
  · exact ⟨u, k b u hbe q⟩
theorem Un.mono (u : Un fs ex H H1 h h1) (hs : ∀ b ∈ fs, b ∈ fs') (hx : ∀ b ∈ ex, b ∈ ex') : Un fs' ex' H H1 h h1 :=
  ⟨fun b ob q n hb he => u.keep b ob q n (fun z => hb (hs b z)) fun z => he (hx b z), fun _ _ q n _ he => u.any q n fun z => he (hx _ z), fun b ob q n he => u.free b ob q n fun z => he (hx b z), fun b ob q he => u.there b ob q fun z => he (hx b z), u.tups, u.frzs, u.tbls⟩
end
noncomputable def trk (h : Heap) (H : Hp) : List Addr := (List.range h.objs.size).filter fun a => (H a).isSome
noncomputable def hidT (h : Heap) (H : Hp) : Heap := PySem.W.hideAll h (trk h H)
theorem hidT_size (h : Heap) (H : Hp) : (hidT h H).objs.size = h.objs.size := PySem.W.hideAll_size _ _
theorem hidT_get {h : Heap} {H : Hp} {b : Addr} {o : Obj} (e : h.get? b = some o) (n : H b = none) : (hidT h H).get? b = some o :=
  PySem.W.hideAll_get _ e fun hm => by
    have q : (H b).isSome = true := (List.mem_filter.mp hm).2
    rw [n] at q; simp at q
theorem of_hidT {h : Heap} {H : Hp} {b : Addr} {o : Obj} (e : (hidT h H).get? b = some o) : h.get? b = some o ∧ H b = none := by
  have e' : h.get? b = some o := PySem.W.of_hideAll (trk h H) e
  refine ⟨e', ?_⟩
  cases q : H b with
  | none => rfl
  | some x =>
    have hm : b ∈ trk h H := List.mem_filter.mpr ⟨List.mem_range.mpr (Heap.lt_size e'), by simp [q]⟩
    have z : (hidT h H).get? b = none := PySem.W.hideAll_none (trk h H) hm
    rw [z] at e; cases e
noncomputable def allNews (g h : Heap) (L : Addr) : List (Addr × Obj) := (List.range h.objs.size).filterMap fun a => if a = L ∨ (g.get? a).isSome = true then none else (h.get? a).map fun o => (a, o)
noncomputable def rest (g h : Heap) (L d : Addr) : List (Addr × Obj) := (allNews g h L).filter fun p => decide (p.1 ≠ d)
end L2
namespace L2
open PySem PySem.Spec PyProof.Rows
structure Mod (K : PySem.W.Frag) (mg : Str → Option Value) (base : Heap) : Prop where
  kin : K.In base
  glob : base.Ns mainGlobals mg
  blt : ∃ mb, base.Ns builtinsNs mb ∧ ∀ x : Str, x ≠ "__name__" → mb x = bootBuiltins x
  nolimit : base.NoLimit
structure Cx where
  prog : Program
  w : World
  K : PySem.W.Frag
  mg : Str → Option Value
  base : Heap
  A : Around
  N : List Str
  s₀ : Shared
  H₀ : Hp
  env : Env
  outer : List Env
  stack : List Env
  ex : List Addr
  fn : Str → Bool
  calm : Bool
  pn : List (Addr × Obj)
  xe : Value → Shared → Prop
noncomputable def frs (l : List Env) : List Addr := l.filterMap (·.frame)
noncomputable abbrev Cx.fs (X : Cx) : List Addr := frs X.outer
noncomputable def Vis (sc : Scope) (x : Str) : Prop := sc.names.lookup x = some .local ∨ sc.names.lookup x = some .cell ∨ sc.names.lookup x = some .free
noncomputable def Loc (sc : Scope) (x : Str) : Prop := sc.names.lookup x = some .local ∨ sc.names.lookup x = some .cell
noncomputable def Look (env : Env) (h : Heap) (m : Str → Option Value) (x : Str) (u : Value) : Prop :=
  (env.kindOf x = some .local ∧ m x = some u) ∨ ((env.kindOf x = some .cell ∨ env.kindOf x = some .free) ∧ ∃ c, env.cells.lookup x = some c ∧ h.IsCell c (some u))
structure Cx.Ok (X : Cx) : Prop where
  mod : Mod X.K X.mg X.base
  kind : X.env.scope.kind = .function
  glob : X.env.globals = mainGlobals
  blt : X.env.builtins = builtinsNs
  above : X.s₀.heap.objs.size ≤ X.env.locals
  inj : ∀ x y c, X.env.cells.lookup x = some c → X.env.cells.lookup y = some c → x = y
  has : ∀ x, (X.env.kindOf x = some .cell ∨ X.env.kindOf x = some .free) → ∃ c, X.env.cells.lookup x = some c
  cab : ∀ x c, X.fn x = true → X.env.cells.lookup x = some c → X.s₀.heap.objs.size ≤ c
  hd : X.calm = true → X.A.handled = none
  frames : X.A.frames = some X.stack
  stk : X.stack = X.outer ∨ (X.stack = X.env :: X.outer ∧ X.env.frame = some X.env.locals)
  exf : ∀ b ∈ X.ex, b ≠ X.env.locals ∧ ∀ x c, X.env.cells.lookup x = some c → c ≠ b
  bs : ∀ b o, X.base.get? b = some o → X.s₀.heap.get? b = some o ∧ X.H₀ b = none
  bsz : X.base.objs.size ≤ X.s₀.heap.objs.size
  noex : ∀ b o, X.base.get? b = some o → b ∉ X.ex
  exfs : ∀ b ∈ X.ex, b ∉ X.fs
  funs : X.s₀.heap.FunFrames X.base X.outer
  frf : ∀ b ∈ X.fs, X.H₀ b = none
structure Inv (X : Cx) (pins : List (Addr × Obj)) (σ : List (Option V)) (H : Hp) (s : Shared) : Prop where
  ok : X.Ok
  os : s.os = X.s₀.os
  bare : AllBare s.gens
  base : Un X.fs X.ex X.H₀ H X.s₀.heap s.heap
  loc : ∃ m, s.heap.Ns X.env.locals m ∧ ∀ (i : Nat) (x : Str) (v : V), X.N[i]? = some x → σ[i]? = some (some v) → Vis X.env.scope x → ∃ u, RelV v u ∧ Look X.env s.heap m x u
  cell : ∀ x c, X.env.cells.lookup x = some c → ∃ v, s.heap.IsCell c v
  free : H X.env.locals = none
  freeC : ∀ x c, X.env.cells.lookup x = some c → H c = none
  pin : ∀ p ∈ X.pn ++ pins, s.heap.get? p.1 = some p.2 ∧ H p.1 = none ∧ p.1 ≠ X.env.locals ∧ p.1 ∉ X.fs ∧ ∀ v, p.2.data ≠ .cell v
  hok : HOk X.prog X.w H s.heap
  len : σ.length = X.N.length
section
variable {X : Cx} {pins : List (Addr × Obj)} {σ : List (Option V)} {H H' : Hp} {s : Shared} {h' : Heap}
theorem Cx.Ok.nofr (ok : X.Ok) {b : Addr} {o : Obj} (e : X.base.get? b = some o) : b ∉ X.fs := fun hb => by
  have := (ok.funs.mem hb).1
  rw [e] at this; cases this
theorem Inv.bs (I : Inv X pins σ H s) : ∀ b o, X.base.get? b = some o → s.heap.get? b = some o ∧ H b = none := fun b o e =>
  ⟨I.base.keep b o (I.ok.bs b o e).1 (I.ok.bs b o e).2 (I.ok.nofr e) (I.ok.noex b o e), I.base.free b o (I.ok.bs b o e).1 (I.ok.bs b o e).2 (I.ok.noex b o e)⟩
theorem Inv.bk (I : Inv X pins σ H s) : ∀ b o, X.base.get? b = some o → s.heap.get? b = some o := fun b o e => (I.bs b o e).1
theorem Inv.mod (I : Inv X pins σ H s) : Mod X.K X.mg X.base := I.ok.mod
theorem Inv.kIn (I : Inv X pins σ H s) : X.K.In s.heap := I.ok.mod.kin.keeps I.bk
theorem Inv.nolimit (I : Inv X pins σ H s) : s.heap.NoLimit := I.ok.mod.nolimit.keeps I.bk
theorem Inv.fr (I : Inv X pins σ H s) : ∃ m, Fr X.base X.env.locals s.heap m :=
  let ⟨m, hn, _⟩ := I.loc
  ⟨m, hn, I.bk, Nat.le_trans I.ok.bsz I.ok.above⟩
theorem Inv.lt (I : Inv X pins σ H s) : X.env.locals < s.heap.objs.size := let ⟨_, hn, _⟩ := I.loc; hn.lt
theorem Inv.sz (I : Inv X pins σ H s) : X.s₀.heap.objs.size ≤ s.heap.objs.size := Nat.le_trans I.ok.above (Nat.le_of_lt I.lt)
theorem Inv.nofs (I : Inv X pins σ H s) {a : Addr} (h : s.heap.objs.size ≤ a) : a ∉ X.fs := fun hb => by
  obtain ⟨_, o, ho, _⟩ := I.ok.funs.mem hb
  exact absurd (Nat.lt_of_lt_of_le (Heap.lt_size ho) (Nat.le_trans I.sz h)) (Nat.lt_irrefl _)
theorem Inv.cne (I : Inv X pins σ H s) : ∀ x c, X.env.cells.lookup x = some c → c ≠ X.env.locals := fun x c e z => by
  obtain ⟨v, o, ho, hd⟩ := I.cell x c e
  obtain ⟨m, ⟨o', es, ep, ho', hd', _⟩, _⟩ := I.loc
  rw [z, ho'] at ho; cases ho; rw [hd'] at hd; cases hd
theorem Inv.funs (I : Inv X pins σ H s) : s.heap.FunFrames X.base X.outer := by
  have all : ∀ (l : List Env), (∀ b ∈ frs l, b ∈ X.fs) → X.s₀.heap.FunFrames X.base l → s.heap.FunFrames X.base l := by
    intro l
    induction l with
    | nil => intro _ _; trivial
    | cons env r ih =>
      intro hs hl
      obtain ⟨hk, ⟨L, o, hf, hn, ho, hd⟩, hr⟩ := hl
      have hL : L ∈ X.fs := hs L (by unfold frs; rw [List.filterMap_cons, hf]; exact List.mem_cons_self)
      obtain ⟨sl, e⟩ := I.base.slot L o ho (I.ok.frf L hL) hL fun z => I.ok.exfs L z hL
      exact ⟨hk, ⟨L, _, hf, hn, e, hd⟩, ih (fun b hb => hs b (by unfold frs; rw [List.filterMap_cons, hf]; exact List.mem_cons_of_mem _ hb)) hr⟩
  exact all X.outer (fun _ hb => hb) I.ok.funs
theorem Inv.stack (I : Inv X pins σ H s) : s.heap.FunFrames X.base X.stack := by
  rcases I.ok.stk with e | ⟨e, hf⟩
  · rw [e]; exact I.funs
  · rw [e]
    obtain ⟨m, hn, _⟩ := I.loc
    refine .cons (by rw [I.ok.kind]; decide) hf hn ?_ I.funs
    exact Heap.get?_none_of_le (Nat.le_trans I.ok.bsz I.ok.above)
theorem Inv.stkSub (I : Inv X pins σ H s) : ∀ b ∈ frs X.stack, b ∈ X.env.locals :: X.fs := fun b hb => by
  rcases I.ok.stk with e | ⟨e, hf⟩
  · rw [e] at hb; exact List.mem_cons_of_mem _ hb
  · rw [e] at hb
    unfold frs at hb
    rw [List.filterMap_cons, hf] at hb
    exact hb
theorem Inv.stkFree (I : Inv X pins σ H s) : ∀ b ∈ frs X.stack, H b = none := fun b hb => by
  rcases List.mem_cons.mp (I.stkSub b hb) with e | hb
  · rw [e]; exact I.free
  · obtain ⟨_, o, ho, _⟩ := I.ok.funs.mem hb
    exact I.base.free b o ho (I.ok.frf b hb) fun z => I.ok.exfs b z hb
theorem Inv.step {g' : Array GenState} {t' : Nat} {d' : Drawn} {ch : List Addr} (I : Inv X pins σ H s)
    (hch : ∀ b ∈ ch, (b ∈ X.ex ∨ X.s₀.heap.objs.size ≤ b) ∧ b ≠ X.env.locals ∧ (∀ x c, X.env.cells.lookup x = some c → c ≠ b) ∧ ∀ p ∈ X.pn ++ pins, p.1 ≠ b)
    (keep : ∀ b o, b ≠ X.env.locals → b ∉ X.fs → b ∉ ch → s.heap.get? b = some o → H b = none → h'.get? b = some o)
    (slot : ∀ b o, b ≠ X.env.locals → b ∈ X.fs → b ∉ ch → s.heap.get? b = some o → H b = none → ∃ sl, h'.get? b = some { o with slots := sl }) (free : ∀ b o, b ∉ ch → s.heap.get? b = some o → H b = none → H' b = none)
    (there : ∀ b o, b ∉ ch → s.heap.get? b = some o → ∃ o', h'.get? b = some o')
    (tups : ∀ b xs, H b = some (.tup xs) → H' b = some (.tup xs)) (frzs : ∀ b o u, H b = some (.frz o u) → H' b = some (.frz o u)) (tbls : ∀ b ps, H b = some (.tbl ps) → ∃ more, H' b = some (.tbl (ps ++ more)))
    (ns : ∀ m, s.heap.Ns X.env.locals m → h'.Ns X.env.locals m) (hok : HOk X.prog X.w H' h') (hg : AllBare g') :
    Inv X pins σ H' { s with heap := h', gens := g', drawn := d', toks := t' } := by
  have neL : ∀ b o, X.s₀.heap.get? b = some o → b ≠ X.env.locals := fun b o e => Nat.ne_of_lt (Nat.lt_of_lt_of_le (Heap.lt_size e) I.ok.above)
  have neC : ∀ b o, X.s₀.heap.get? b = some o → b ∉ X.ex → b ∉ ch := fun b o e hx hb => by
    rcases (hch b hb).1 with z | z
    · exact hx z
    · exact absurd (Nat.lt_of_lt_of_le (Heap.lt_size e) z) (Nat.lt_irrefl _)
  have cellK : ∀ x c, X.env.cells.lookup x = some c → ∀ v, s.heap.IsCell c v → h'.IsCell c v := fun x c e v ⟨o, ho, hd⟩ => by
    have nch : c ∉ ch := fun z => (hch c z).2.2.1 x c e rfl
    by_cases hc : c ∈ X.fs
    · obtain ⟨sl, q⟩ := slot c o (I.cne x c e) hc nch ho (I.freeC x c e)
      exact ⟨_, q, hd⟩
    · exact ⟨o, keep c o (I.cne x c e) hc nch ho (I.freeC x c e), hd⟩
  refine ⟨I.ok, I.os, hg, ⟨fun b o e n hb hx => ?_, fun b o e n hb hx => ?_, fun b o e n hx => ?_, fun b o e hx => ?_, fun b xs e => tups b xs (I.base.tups b xs e), fun b o xs e => frzs b o xs (I.base.frzs b o xs e), fun b ps e => ?_⟩, ?_, fun x c e => ?_, ?_, fun x c e => ?_, fun p hp => ?_, hok, I.len⟩
  · exact keep b o (neL b o e) hb (neC b o e hx) (I.base.keep b o e n hb hx) (I.base.free b o e n hx)
  · obtain ⟨sl, e1⟩ := I.base.slot b o e n hb hx
    obtain ⟨sl', e2⟩ := slot b _ (neL b o e) hb (neC b o e hx) e1 (I.base.free b o e n hx)
    exact ⟨sl', e2⟩
  · obtain ⟨o', e1⟩ := I.base.there b o e hx
    exact free b o' (neC b o e hx) e1 (I.base.free b o e n hx)
  · obtain ⟨o', e1⟩ := I.base.there b o e hx
    exact there b o' (neC b o e hx) e1
  · obtain ⟨m1, e1⟩ := I.base.tbls b ps e
    obtain ⟨m2, e2⟩ := tbls b _ e1
    exact ⟨m1 ++ m2, by rw [e2, Array.append_assoc]⟩
  · obtain ⟨m, hn, hl⟩ := I.loc
    refine ⟨m, ns m hn, fun i x v e1 e2 e3 => ?_⟩
    obtain ⟨u, r, l⟩ := hl i x v e1 e2 e3
    refine ⟨u, r, ?_⟩
    rcases l with l | ⟨k, c, e, z⟩
    · exact .inl l
    · exact .inr ⟨k, c, e, cellK x c e _ z⟩
  · obtain ⟨v, z⟩ := I.cell x c e
    exact ⟨v, cellK x c e v z⟩
  · obtain ⟨m, ⟨o, _, _, ho, _⟩, _⟩ := I.loc
    exact free _ o (fun z => (hch _ z).2.1 rfl) ho I.free
  · obtain ⟨v, o, ho, hd⟩ := I.cell x c e
    exact free c o (fun z => (hch c z).2.2.1 x c e rfl) ho (I.freeC x c e)
  · obtain ⟨e, n, ne, nf, d⟩ := I.pin p hp
    have nch : p.1 ∉ ch := fun z => (hch p.1 z).2.2.2 p hp rfl
    exact ⟨keep p.1 p.2 ne nf nch e n, free p.1 p.2 nch e n, ne, nf, d⟩
theorem Inv.un {t' : Nat} (I : Inv X pins σ H s) (u : Un X.fs [] H H' s.heap h') (hok : HOk X.prog X.w H' h') : Inv X pins σ H' { s with heap := h', toks := t' } := by
  obtain ⟨m, ⟨o, es, ep, ho, r⟩, _⟩ := id I.loc
  obtain ⟨sl, hL⟩ := u.any ho I.free (by simp)
  exact I.step (g' := s.gens) (d' := s.drawn) (ch := []) (fun _ z => nomatch z) (fun b o _ hb _ e n => u.keep b o e n hb (by simp)) (fun b o _ hb _ e n => u.slot b o e n hb (by simp)) (fun b o _ e n => u.free b o e n (by simp)) (fun b o _ e => u.there b o e (by simp)) u.tups u.frzs u.tbls (fun m' hm => by
    obtain ⟨o', es', ep', ho', r'⟩ := hm
    rw [ho] at ho'; cases ho'
    exact ⟨_, es', ep', hL, r'⟩) hok I.bare
theorem Inv.call {g' : Array GenState} {t' : Nat} {d' : Drawn} {ch : List Addr} (I : Inv X pins σ H s) (u : Un (frs X.stack) ch H H' s.heap h') (hok : HOk X.prog X.w H' h') (hg : AllBare g')
    (hch : ∀ b ∈ ch, (b ∈ X.ex ∨ X.s₀.heap.objs.size ≤ b) ∧ b ≠ X.env.locals ∧ (∀ x c, X.env.cells.lookup x = some c → c ≠ b) ∧ ∀ p ∈ X.pn ++ pins, p.1 ≠ b) :
    Inv X pins σ H' { s with heap := h', gens := g', drawn := d', toks := t' } := by
  obtain ⟨m, ⟨o, es, ep, ho, r⟩, _⟩ := id I.loc
  obtain ⟨sl, hL⟩ := u.any ho I.free fun z => (hch _ z).2.1 rfl
  exact I.step (ch := ch) hch (fun b o hL hb hc e n => u.keep b o e n (fun z => (List.mem_cons.mp (I.stkSub b z)).elim hL hb) hc) (fun b o _ _ hc e n => u.any e n hc) (fun b o hc e n => u.free b o e n hc) (fun b o hc e => u.there b o e hc) u.tups u.frzs u.tbls (fun m' hm => by
    obtain ⟨o', es', ep', ho', r'⟩ := hm
    rw [ho] at ho'; cases ho'
    exact ⟨_, es', ep', hL, r'⟩) hok hg
theorem Inv.turned {t' : Nat} {it : Addr} (I : Inv X pins σ H s) (k : ∀ b o, b ≠ it → s.heap.get? b = some o → h'.get? b = some o) (hn : H it = none) (hL : it ≠ X.env.locals)
    (h1 : it ∈ X.ex ∨ X.s₀.heap.objs.size ≤ it) (h2 : ∀ x c, X.env.cells.lookup x = some c → c ≠ it) (h3 : ∀ p ∈ X.pn ++ pins, p.1 ≠ it) : Inv X pins σ H { s with heap := h', toks := t' } := by
  have nit : ∀ b u, H b = some u → b ≠ it := fun b u e z => by rw [z, hn] at e; cases e
  refine I.step (g' := s.gens) (d' := s.drawn) (ch := [it]) (fun b hb => ?_) (fun b o _ _ hc e _ => k b o (fun z => hc (by simp [z])) e) (fun b o _ _ hc e _ => ⟨o.slots, k b o (fun z => hc (by simp [z])) e⟩) (fun _ _ _ _ n => n)
    (fun b o hc e => ⟨o, k b o (fun z => hc (by simp [z])) e⟩) (fun _ _ e => e) (fun _ _ _ e => e) (fun b ps e => ⟨#[], by rw [e]; simp⟩) (fun m hm => ?_) (fun b u e => ?_) I.bare
  · have e : b = it := by simpa using hb
    subst e
    exact ⟨h1, hL, h2, h3⟩
  · obtain ⟨o, es, ep, ho, r⟩ := hm
    exact ⟨o, es, ep, k _ o (Ne.symm hL) ho, r⟩
  · refine (I.hok b u e).stay (fun c v hc q => k c v ?_ q) (fun _ q => q) fun _ _ q => q
    rcases hc with z | z
    · rw [z]; exact nit b u e
    · exact nit c _ z
theorem Inv.tok (I : Inv X pins σ H s) (t : Nat) : Inv X pins σ H { s with toks := t } := I.un (h' := s.heap) (t' := t) Un.refl I.hok
theorem Inv.kept {t' : Nat} (I : Inv X pins σ H s) (k : ∀ b u, s.heap.get? b = some u → h'.get? b = some u) : Inv X pins σ H { s with heap := h', toks := t' } := I.un (Un.kept k) (I.hok.kept k)
theorem Inv.laid {a : Addr} {o : HO} {t' : Nat} (I : Inv X pins σ H s) (k : ∀ b u, s.heap.get? b = some u → h'.get? b = some u) (hp : s.heap.objs.size ≤ a) (new : ObjOk X.prog X.w (upd H a o) h' a o) :
    Inv X pins σ (upd H a o) { s with heap := h', toks := t' } := I.un (Un.laid k hp (I.hok.fresh hp)) (I.hok.laid k hp new)
theorem Inv.write {x e : Addr} {o : HO} {t' : Nat} (I : Inv X pins σ H s) (mu : Mut (H x)) (he : e = x ∨ H e = some (.own x)) (k : ∀ b u, b ≠ e → s.heap.get? b = some u → h'.get? b = some u) (heo : ∃ u, h'.get? e = some u)
    (new : ObjOk X.prog X.w (upd H x o) h' x o) : Inv X pins σ (upd H x o) { s with heap := h', toks := t' } := I.un (Un.write mu he k heo) (I.hok.write mu he k heo new)
theorem Inv.pins_of {pins' : List (Addr × Obj)} (I : Inv X pins σ H s) (h : ∀ p ∈ pins', s.heap.get? p.1 = some p.2 ∧ H p.1 = none ∧ p.1 ≠ X.env.locals ∧ p.1 ∉ X.fs ∧ ∀ v, p.2.data ≠ .cell v) : Inv X pins' σ H s :=
  ⟨I.ok, I.os, I.bare, I.base, I.loc, I.cell, I.free, I.freeC, fun p hp => (List.mem_append.mp hp).elim (fun z => I.pin p (List.mem_append_left _ z)) (h p), I.hok, I.len⟩
theorem nodup_ix {N : List Str} (hN : N.Nodup) {i j : Nat} {x : Str} (a : N[i]? = some x) (b : N[j]? = some x) : i = j := by
  obtain ⟨h1, e1⟩ := List.getElem?_eq_some_iff.mp a
  obtain ⟨h2, e2⟩ := List.getElem?_eq_some_iff.mp b
  exact (List.getElem_inj hN).mp (e1.trans e2.symm)
theorem store_ok2 {M : Model} {A : Around} {E : Value → Shared → Prop} {i : Nat} {x : Str} {v : V} {u : Value} {Q : Unit → Shared → Prop} (I : Inv X pins σ H s) (hN : X.N.Nodup) (hi : X.N[i]? = some x) (hx : Loc X.env.scope x) (r : RelV v u)
    (h : ∀ s', Inv X pins (σ.set i (some v)) H s' → (∃ a, Heap.SameBut a s.heap s'.heap ∧ (a = X.env.locals ∨ X.env.cells.lookup x = some a)) → Q () s') (hf : X.fn x = true ∨ X.env.scope.names.lookup x = some .local := by first | exact .inl rfl | exact .inr rfl | assumption) : wpAny M A (storeName X.env x u) Q E s := by
  obtain ⟨m, hn, hl⟩ := id I.loc
  have hcls : (X.env.scope.kind == .class || (X.env.scope.kind == .module && X.env.locals != X.env.globals)) = false := by rw [I.ok.kind]; rfl
  have hiσ : i < σ.length := by rw [I.len]; exact (List.getElem?_eq_some_iff.mp hi).1
  have cne := I.cne
  have tracked : ∀ {a : Addr} {h' : Heap}, (∃ o, s.heap.get? a = some o ∧ H a = none) → Heap.SameBut a s.heap h' → HOk X.prog X.w H h' := fun {a h'} ha hs b ob e => by
    obtain ⟨_, _, hfree⟩ := ha
    refine (I.hok b ob e).stay (fun c w' hc q => (hs.2 c ?_).trans q) (fun _ q => q) fun _ _ q => q
    rintro rfl
    rcases hc with rfl | hc
    · rw [hfree] at e; cases e
    · rw [hfree] at hc; cases hc
  rcases hx with hk | hk
  · refine wpAny_storeName_local hk hn (fun h' hn' hs => ?_) hcls
    obtain ⟨oL, _, _, hoL, _⟩ := id hn
    refine h _ ⟨I.ok, I.os, I.bare, ⟨fun b o e n hb hx => ?_, fun b o e n hb hx => ?_, I.base.free, fun b o e hx => ?_, I.base.tups, I.base.frzs, I.base.tbls⟩, ⟨_, hn', fun j y v' e1 e2 e3 => ?_⟩, fun y c e => ?_, I.free, I.freeC, fun p hp => ?_, tracked ⟨oL, hoL, I.free⟩ hs, by simpa using I.len⟩ ⟨_, hs, .inl rfl⟩
    · exact (hs.2 b (Nat.ne_of_lt (Nat.lt_of_lt_of_le (Heap.lt_size e) I.ok.above))).trans (I.base.keep b o e n hb hx)
    · obtain ⟨sl, e1⟩ := I.base.slot b o e n hb hx
      exact ⟨sl, (hs.2 b (Nat.ne_of_lt (Nat.lt_of_lt_of_le (Heap.lt_size e) I.ok.above))).trans e1⟩
    · obtain ⟨o', e1⟩ := I.base.there b o e hx
      exact ⟨o', (hs.2 b (Nat.ne_of_lt (Nat.lt_of_lt_of_le (Heap.lt_size e) I.ok.above))).trans e1⟩
    · by_cases hj : j = i
      · subst hj
        rw [hi] at e1; cases e1
        rw [List.getElem?_set_self hiσ] at e2
        cases e2
        exact ⟨u, r, .inl ⟨hk, by simp⟩⟩
      · rw [List.getElem?_set_ne (Ne.symm hj)] at e2
        obtain ⟨u', r', q⟩ := hl j y v' e1 e2 e3
        refine ⟨u', r', ?_⟩
        rcases q with ⟨k, e⟩ | ⟨k, c, e, z⟩
        · refine .inl ⟨k, ?_⟩
          have : y ≠ x := fun e => hj (nodup_ix hN e1 (e ▸ hi))
          simp [this, e]
        · exact .inr ⟨k, c, e, z.sameBut hs (cne y c e)⟩
    · obtain ⟨w', z⟩ := I.cell y c e
      exact ⟨w', z.sameBut hs (cne y c e)⟩
    · obtain ⟨e, n, ne, nf, d⟩ := I.pin p hp
      exact ⟨(hs.2 p.1 ne).trans e, n, ne, nf, d⟩
  · have hfn : X.fn x = true := by
      rcases hf with z | z
      · exact z
      · rw [z] at hk; cases hk
    obtain ⟨c, hc⟩ := I.ok.has x (.inl hk)
    obtain ⟨w', z⟩ := I.cell x c hc
    refine wpAny_storeName_cell I.ok.kind hk hc z (fun h' hc' hs => ?_)
    obtain ⟨oc, hoc, hocd⟩ := id z
    refine h { s with heap := h' } ⟨I.ok, I.os, I.bare, ⟨fun b o e n hb hx => ?_, fun b o e n hb hx => ?_, I.base.free, fun b o e hx => ?_, I.base.tups, I.base.frzs, I.base.tbls⟩, ⟨m, hn.sameBut hs (Ne.symm (cne x c hc)), fun j y v' e1 e2 e3 => ?_⟩, fun y c' e => ?_, I.free, I.freeC, fun p hp => ?_, tracked ⟨oc, hoc, I.freeC x c hc⟩ hs, by simpa using I.len⟩ ⟨c, hs, .inr hc⟩
    · exact (hs.2 b (Nat.ne_of_lt (Nat.lt_of_lt_of_le (Heap.lt_size e) (I.ok.cab x c hfn hc)))).trans (I.base.keep b o e n hb hx)
    · obtain ⟨sl, e1⟩ := I.base.slot b o e n hb hx
      exact ⟨sl, (hs.2 b (Nat.ne_of_lt (Nat.lt_of_lt_of_le (Heap.lt_size e) (I.ok.cab x c hfn hc)))).trans e1⟩
    · obtain ⟨o', e1⟩ := I.base.there b o e hx
      exact ⟨o', (hs.2 b (Nat.ne_of_lt (Nat.lt_of_lt_of_le (Heap.lt_size e) (I.ok.cab x c hfn hc)))).trans e1⟩
    · by_cases hj : j = i
      · subst hj
        rw [hi] at e1; cases e1
        rw [List.getElem?_set_self hiσ] at e2
        cases e2
        exact ⟨u, r, .inr ⟨.inl hk, c, hc, hc'⟩⟩
      · rw [List.getElem?_set_ne (Ne.symm hj)] at e2
        obtain ⟨u', r', q⟩ := hl j y v' e1 e2 e3
        refine ⟨u', r', ?_⟩
        rcases q with q | ⟨k, c', e, z'⟩
        · exact .inl q
        · refine .inr ⟨k, c', e, z'.sameBut hs ?_⟩
          rintro rfl
          exact hj (nodup_ix hN e1 (I.ok.inj _ _ _ e hc ▸ hi))
    · by_cases hcc : c' = c
      · subst hcc; exact ⟨_, hc'⟩
      · obtain ⟨w2, z2⟩ := I.cell y c' e
        exact ⟨w2, z2.sameBut hs hcc⟩
    · obtain ⟨e, n, ne, nf, d⟩ := I.pin p hp
      refine ⟨(hs.2 p.1 ?_).trans e, n, ne, nf, d⟩
      intro q
      rw [q, hoc] at e
      have q' : oc = p.2 := Option.some.inj e
      exact d w' (by rw [← q']; exact hocd)
theorem store_ok {M : Model} {A : Around} {E : Value → Shared → Prop} {i : Nat} {x : Str} {v : V} {u : Value} {Q : Unit → Shared → Prop} (I : Inv X pins σ H s) (hN : X.N.Nodup) (hi : X.N[i]? = some x) (hx : Loc X.env.scope x) (r : RelV v u)
    (h : ∀ s', Inv X pins (σ.set i (some v)) H s' → Q () s') (hf : X.fn x = true ∨ X.env.scope.names.lookup x = some .local := by first | exact .inl rfl | exact .inr rfl | assumption) : wpAny M A (storeName X.env x u) Q E s :=
  store_ok2 I hN hi hx r (fun s' I' _ => h s' I') hf
theorem Inv.call' {s' : Shared} {ch : List Addr} (I : Inv X pins σ H s) (ho : s'.os = s.os) (u : Un (frs X.stack) ch H H' s.heap s'.heap) (hok : HOk X.prog X.w H' s'.heap) (hg : AllBare s'.gens)
    (hch : ∀ b ∈ ch, (b ∈ X.ex ∨ X.s₀.heap.objs.size ≤ b) ∧ b ≠ X.env.locals ∧ (∀ x c, X.env.cells.lookup x = some c → c ≠ b) ∧ ∀ p ∈ X.pn ++ pins, p.1 ≠ b) : Inv X pins σ H' s' := by
  obtain ⟨h', g', d', t', o'⟩ := s'
  have e : o' = s.os := ho
  subst e
  exact I.call (g' := g') (t' := t') (d' := d') u hok hg hch
end
noncomputable abbrev XK := Value → Option Addr → Hp → Prop
noncomputable abbrev St := List (Option V)
noncomputable abbrev VK := V → Hp → Prop
noncomputable abbrev TE := St → Hp → VK → Prop
noncomputable abbrev TT := St → Hp → (Bool → Hp → Prop) → Prop
noncomputable abbrev TA := St → Hp → (List V → Hp → Prop) → Prop
structure Ends where
  nx : St → Hp → Prop
  rt : VK
  bk : St → Hp → Prop := fun _ _ => False
  ct : St → Hp → Prop := fun _ _ => False
noncomputable abbrev TS := Ends → St → Hp → Prop
noncomputable def EP (X : Cx) (pins : List (Addr × Obj)) (σ : St) (Q : VK) (u : Value) (s' : Shared) : Prop := ∃ v H', Inv X pins σ H' s' ∧ RelV v u ∧ Q v H'
noncomputable def TP (X : Cx) (pins : List (Addr × Obj)) (σ : St) (Q : Bool → Hp → Prop) (b : Bool) (s' : Shared) : Prop := ∃ H', Inv X pins σ H' s' ∧ Q b H'
noncomputable def AP (X : Cx) (pins : List (Addr × Obj)) (σ : St) (Q : List V → Hp → Prop) (us : List Value) (s' : Shared) : Prop := ∃ vs H', Inv X pins σ H' s' ∧ Vals vs us ∧ Q vs H'
noncomputable def SP (X : Cx) (pins : List (Addr × Obj)) (D : Ends) (f : Flow) (s' : Shared) : Prop :=
  match f with
  | .next => ∃ σ' H', Inv X pins σ' H' s' ∧ D.nx σ' H'
  | .brk => ∃ σ' H', Inv X pins σ' H' s' ∧ D.bk σ' H'
  | .cont => ∃ σ' H', Inv X pins σ' H' s' ∧ D.ct σ' H'
  | .ret u => ∃ v σ' H', Inv X pins σ' H' s' ∧ RelV v u ∧ D.rt v H'
noncomputable def PE (X : Cx) (e : Expr) (t : TE) : Prop :=
  ∀ (pins : List (Addr × Obj)) (s : Shared) (σ : St) (H : Hp) (Q : VK), Inv X pins σ H s → t σ H Q → wpAny (model X.prog X.w) X.A (eval e X.env) (EP X pins σ Q) X.xe s
noncomputable def PT (X : Cx) (e : Expr) (t : TT) : Prop :=
  ∀ (pins : List (Addr × Obj)) (s : Shared) (σ : St) (H : Hp) (Q : Bool → Hp → Prop), Inv X pins σ H s → t σ H Q → wpAny (model X.prog X.w) X.A (isTrue e X.env (eval e X.env)) (TP X pins σ Q) X.xe s
noncomputable def PW (X : Cx) (e : Expr) (t : TT) : Prop :=
  ∀ (whole : Sem Value) (pins : List (Addr × Obj)) (s : Shared) (σ : St) (H : Hp) (Q : Bool → Hp → Prop), Inv X pins σ H s → t σ H Q → wpAny (model X.prog X.w) X.A (isTrue e X.env whole) (TP X pins σ Q) X.xe s
theorem PW.pt {X : Cx} {e : Expr} {t : TT} (h : PW X e t) : PT X e t := h _
noncomputable def PA (X : Cx) (es : List Expr) (t : TA) : Prop :=
  ∀ (pos : Pos) (pins : List (Addr × Obj)) (s : Shared) (σ : St) (H : Hp) (Q : List V → Hp → Prop), Inv X pins σ H s → t σ H Q → wpAny (model X.prog X.w) X.A (spliced (backTo pos (starEach es X.env))) (AP X pins σ Q) X.xe s
noncomputable def PS (X : Cx) (st : Stmt) (t : TS) : Prop :=
  ∀ (pins : List (Addr × Obj)) (s : Shared) (σ : St) (H : Hp) (D : Ends), Inv X pins σ H s → t D σ H → wpAny (model X.prog X.w) X.A (exec st X.env) (SP X pins D) X.xe s
noncomputable def PSs (X : Cx) (st : List Stmt) (t : TS) : Prop :=
  ∀ (pins : List (Addr × Obj)) (s : Shared) (σ : St) (H : Hp) (D : Ends), Inv X pins σ H s → t D σ H → wpAny (model X.prog X.w) X.A (execs st X.env) (SP X pins D) X.xe s
theorem thn {α : Type} {t : Sem α} {Q Q' : α → Shared → Prop} {M : Model} {A : Around} {E : Value → Shared → Prop} {s : Shared} (h : wpAny M A t Q E s) (hQ : ∀ a s, Q a s → Q' a s) : wpAny M A t Q' E s := wpAny_mono h hQ fun _ _ x => x
end L2
namespace L2
open PySem PySem.Spec PyProof.Rows
section
variable {X : Cx}
noncomputable def tVar (i : Nat) : TE := fun σ H Q => ∃ v, σ[i]? = some (some v) ∧ Q v H
noncomputable def tC (v : V) : TE := fun _ H Q => Q v H
theorem pe_var {i : Nat} {x : Str} {pos : Pos} (hN : X.N[i]? = some x) (hv : Vis X.env.scope x) (hd : (x == ("__debug__" : Str)) = false := by decide) (hcd : (x == ("__classdict__" : Str)) = false := by decide) : PE X (.Name x pos) (tVar i) := by
  intro pins s σ H Q I h
  obtain ⟨v, e, h⟩ := h
  obtain ⟨m, hn, hl⟩ := I.loc
  obtain ⟨u, r, l⟩ := hl i x v hN e hv
  have fin : EP X pins σ Q u s := ⟨v, H, I, r, h⟩
  rcases l with ⟨hk, hm⟩ | ⟨hk, c, hc, hcell⟩
  · exact wpAny_Name (wpAny_loadName_local I.ok.kind hk hn hm fin) hd
  · rcases hk with hk | hk
    · exact wpAny_Name (wpAny_loadName_cell I.ok.kind hk hc hcell fin) hd
    · exact wpAny_Name (wpAny_loadName_free I.ok.kind hk hc hcell fin hcd) hd
theorem pe_int {i j pos} : PE X (.Constant (.int i) j pos) (tC (.int i)) := fun _ _ _ H _ I h => wpAny_Constant_int ⟨.int i, H, I.tok _, ⟨_, rfl⟩, h⟩
theorem pe_bl {b j pos} : PE X (.Constant (.bool b) j pos) (tC (.bl b)) := fun _ _ _ H _ I h => Constant_bool ⟨.bl b, H, I, rfl, h⟩
theorem pe_str {x j pos} : PE X (.Constant (.str x) j pos) (tC (.str x)) := fun _ _ _ H _ I h => Calls.Constant_str ⟨.str x, H, I.tok _, ⟨_, rfl⟩, h⟩
noncomputable def Gl (X : Cx) (x : Str) : Prop := X.env.kindOf x = some .globalImplicit
theorem ld_glob {E : Value → Shared → Prop} {pins : List (Addr × Obj)} {s : Shared} {σ : St} {H : Hp} {x : Str} {u : Value} {pos : Pos} {Q : Value → Shared → Prop} (I : Inv X pins σ H s) (hg : Gl X x) (hm : X.mg x = some u) (h : Q u s)
    (hd : (x == ("__debug__" : Str)) = false := by decide) : wpAny (model X.prog X.w) X.A (eval (.Name x pos) X.env) Q E s :=
  Calls.Name_function_global I.ok.kind hg (Calls.loadGlobal_global (by rw [I.ok.glob]; exact I.mod.glob.keeps I.bk) hm h) hd
theorem ld_blt {E : Value → Shared → Prop} {pins : List (Addr × Obj)} {s : Shared} {σ : St} {H : Hp} {x : Str} {u : Value} {pos : Pos} {Q : Value → Shared → Prop} (I : Inv X pins σ H s) (hg : Gl X x) (hm : X.mg x = none) (hv : bootBuiltins x = some u) (h : Q u s)
    (hn : x ≠ "__name__" := by decide) (hd : (x == ("__debug__" : Str)) = false := by decide) : wpAny (model X.prog X.w) X.A (eval (.Name x pos) X.env) Q E s := by
  obtain ⟨mb, h1, h2⟩ := I.mod.blt
  exact Calls.Name_function_global I.ok.kind hg (Calls.loadGlobal_builtin (by rw [I.ok.glob]; exact I.mod.glob.keeps I.bk) hm (by rw [I.ok.blt]; exact h1.keeps I.bk) ((h2 x hn).trans hv) h) hd
theorem pe_glob {x : Str} {v : V} {u : Value} {pos : Pos} (hg : Gl X x) (hm : X.mg x = some u) (r : RelV v u) (hd : (x == ("__debug__" : Str)) = false := by decide) : PE X (.Name x pos) (tC v) :=
  fun _ _ _ H _ I h => ld_glob I hg hm ⟨v, H, I, r, h⟩ hd
theorem pe_bltn {x : Str} {v : V} {u : Value} {pos : Pos} (hg : Gl X x) (hm : X.mg x = none) (hv : bootBuiltins x = some u) (r : RelV v u) (hn : x ≠ "__name__" := by decide) (hd : (x == ("__debug__" : Str)) = false := by decide) : PE X (.Name x pos) (tC v) :=
  fun _ _ _ H _ I h => ld_blt I hg hm hv ⟨v, H, I, r, h⟩ hn hd
variable {a b : Expr} {ta tb : TE} {pos : Pos}
noncomputable def tB (t : TE) : TT := fun σ H Q => t σ H fun x H1 => ∃ c, x = .bl c ∧ Q c H1
theorem pt_val {e : Expr} {t : TE} (h : PE X e t) (he : ∀ whole, isTrue e X.env whole = (do let v ← whole; standAt e.pos; holding [v] (truthy v)) := by intro _; rfl) : PT X e (tB t) := by
  intro pins s σ H Q I hw
  refine isTrue_plain (thn (h pins s σ H _ I hw) fun v s1 ⟨x, H1, I1, r1, q1⟩ => ?_) (he _)
  obtain ⟨d, rfl, q⟩ := q1
  cases r1
  exact wpAny_truthy_bool ⟨H1, I1, q⟩
variable {tA tB' : TT} {rest : List Expr}
noncomputable def tOr (t u : TT) : TT := fun σ H Q => t σ H fun c H1 => if c = true then Q true H1 else u σ H1 Q
noncomputable def tNot (t : TT) : TT := fun σ H Q => t σ H fun c H1 => Q (!c) H1
theorem pw_or1 (ha : PT X a tA) : PW X (.BoolOp .Or [a] pos) tA := by
  intro wh pins s σ H Q I h
  refine isTrue_or (thn (ha pins s σ H Q I h) fun c s1 e => ?_)
  cases c with
  | false => exact isTrue_or_nil e
  | true => exact e
theorem pw_or (ha : PT X a tA) (hb : PW X (.BoolOp .Or (b :: rest) pos) tB') : PW X (.BoolOp .Or (a :: b :: rest) pos) (tOr tA tB') := by
  intro wh pins s σ H Q I h
  refine isTrue_or (thn (ha pins s σ H _ I h) fun c s1 ⟨H1, I1, q1⟩ => ?_)
  cases c with
  | true => exact ⟨H1, I1, q1⟩
  | false => exact hb wh pins s1 σ H1 Q I1 q1
theorem pt_not (ha : PT X a tA) : PT X (.UnaryOp .Not a pos) (tNot tA) := by
  intro pins s σ H Q I h
  exact isTrue_not (ha pins s σ H (fun c H1 => Q (!c) H1) I h)
end
end L2
namespace L2
open PySem PySem.Spec PyProof.Rows
noncomputable def SqL (K : PySem.W.Frag) (H : Hp) (a : Addr) (xs : List V) : Prop :=
  Rd H a (.lst xs) ∨
    ∃ (o : Obj) (its : Array Value) (n : Nat), K.lookup a = some o ∧ o.cls = .type "list" ∧ o.dict = none ∧ o.data = .seq its n ∧ its.size ≤ sizeLine ∧ Vals xs its.toList
noncomputable def SqT (K : PySem.W.Frag) (H : Hp) (a : Addr) (xs : List V) : Prop :=
  Rd H a (.tup xs) ∨
    ∃ (o : Obj) (its : Array Value) (n : Nat), K.lookup a = some o ∧ o.cls = .type "tuple" ∧ o.data = .seq its n ∧ its.size ≤ sizeLine ∧ Vals xs its.toList
noncomputable def absV : Value → Option V
  | .none => some .non
  | .bool b => some (.bl b)
  | .int i _ => some (.int i)
  | .str x _ => some (.str x)
  | .bytes b _ => some (.byt b)
  | .float b _ => some (.flt b)
  | .ref a => some (.ref a)
  | .type n => some (.ty n)
  | _ => none
theorem RelV.abs {x : V} {u : Value} (r : RelV x u) : absV u = some x := by
  cases x with
  | non => cases r; rfl
  | bl _ => cases r; rfl
  | int _ => obtain ⟨t, rfl⟩ := r; rfl
  | str _ => obtain ⟨t, rfl⟩ := r; rfl
  | byt _ => obtain ⟨t, rfl⟩ := r; rfl
  | flt _ => obtain ⟨t, rfl⟩ := r; rfl
  | ref _ => cases r; rfl
  | ty _ => cases r; rfl
theorem RelV.inj {x y : V} {u : Value} (r : RelV x u) (q : RelV y u) : x = y := Option.some.inj (r.abs.symm.trans q.abs)
theorem Vals.inj : ∀ {xs ys : List V} {us : List Value}, Vals xs us → Vals ys us → xs = ys
  | _, _, _, .nil, .nil => rfl
  | _, _, _, .cons r t, .cons r' t' => by rw [r.inj r', Vals.inj t t']
section
variable {X : Cx} {pins : List (Addr × Obj)} {σ : St} {H : Hp} {s : Shared} {a : Addr} {xs ys : List V}
theorem SqL.of {K : PySem.W.Frag} (h : H a = some (.lst xs)) : SqL K H a xs := .inl (.inl h)
theorem SqT.of {K : PySem.W.Frag} (h : H a = some (.tup xs)) : SqT K H a xs := .inl (.inl h)
theorem Inv.list (I : Inv X pins σ H s) (h : SqL X.K H a xs) : ∃ its : List Value, Vals xs its ∧ PlainL s.heap a its.toArray ∧ xs.length ≤ sizeLine := by
  rcases h with h | ⟨o, its, n, hk, hc, hd, hs, hz, r⟩
  · obtain ⟨z, its, n, r, e⟩ := h.ok I.hok
    exact ⟨its, r, ⟨_, n, e, rfl, rfl, rfl⟩, z⟩
  · refine ⟨its.toList, r, ⟨o, n, I.kIn a o hk, hc, hd, by simpa using hs⟩, ?_⟩
    have e := r.length
    simp only [Array.length_toList] at e
    omega
theorem Inv.tuple (I : Inv X pins σ H s) (h : SqT X.K H a xs) : ∃ its : List Value, Vals xs its ∧ IsTup s.heap a its.toArray ∧ xs.length ≤ sizeLine := by
  rcases h with h | ⟨o, its, n, hk, hc, hs, hz, r⟩
  · obtain ⟨z, its, r, p⟩ := h.ok I.hok
    exact ⟨its, r, p, z⟩
  · refine ⟨its.toList, r, ⟨o, I.kIn a o hk, hc, n, by simpa using hs⟩, ?_⟩
    have e := r.length
    simp only [Array.length_toList] at e
    omega
theorem Inv.list_inj (I : Inv X pins σ H s) (h : SqL X.K H a xs) (h' : SqL X.K H a ys) : xs = ys := by
  obtain ⟨its, r, ⟨o, n, e, _, _, d⟩, _⟩ := I.list h
  obtain ⟨its', r', ⟨o', n', e', _, _, d'⟩, _⟩ := I.list h'
  rw [e] at e'; cases e'
  rw [d] at d'
  injection d' with d1 _
  have : its = its' := by simpa using congrArg Array.toList d1
  subst this
  exact r.inj r'
theorem Inv.tuple_inj (I : Inv X pins σ H s) (h : SqT X.K H a xs) (h' : SqT X.K H a ys) : xs = ys := by
  obtain ⟨its, r, ⟨o, e, _, n, d⟩, _⟩ := I.tuple h
  obtain ⟨its', r', ⟨o', e', _, n', d'⟩, _⟩ := I.tuple h'
  rw [e] at e'; cases e'
  rw [d] at d'
  injection d' with d1 _
  have : its = its' := by simpa using congrArg Array.toList d1
  subst this
  exact r.inj r'
end
noncomputable abbrev Cx.wish (X : Cx) (E : Value → Shared → Prop) : Cx := { X with xe := E }
noncomputable abbrev Cx.nox (X : Cx) : Cx := X.wish fun _ _ => False
theorem Cx.Ok.wish {X : Cx} (ok : X.Ok) (E : Value → Shared → Prop) : (X.wish E).Ok :=
  ⟨ok.mod, ok.kind, ok.glob, ok.blt, ok.above, ok.inj, ok.has, ok.cab, ok.hd, ok.frames, ok.stk, ok.exf, ok.bs, ok.bsz, ok.noex, ok.exfs, ok.funs, ok.frf⟩
theorem Cx.Ok.unwish {X : Cx} {E : Value → Shared → Prop} (ok : (X.wish E).Ok) : X.Ok :=
  ⟨ok.mod, ok.kind, ok.glob, ok.blt, ok.above, ok.inj, ok.has, ok.cab, ok.hd, ok.frames, ok.stk, ok.exf, ok.bs, ok.bsz, ok.noex, ok.exfs, ok.funs, ok.frf⟩
section
variable {X : Cx} {pins : List (Addr × Obj)} {σ : St} {H : Hp} {s : Shared} {E : Value → Shared → Prop}
theorem Inv.wish (I : Inv X pins σ H s) (E : Value → Shared → Prop) : Inv (X.wish E) pins σ H s := ⟨I.ok.wish E, I.os, I.bare, I.base, I.loc, I.cell, I.free, I.freeC, I.pin, I.hok, I.len⟩
theorem Inv.unwish (I : Inv (X.wish E) pins σ H s) : Inv X pins σ H s := ⟨I.ok.unwish, I.os, I.bare, I.base, I.loc, I.cell, I.free, I.freeC, I.pin, I.hok, I.len⟩
theorem SP.unwish {D : Ends} {f : Flow} {s' : Shared} (h : SP (X.wish E) pins D f s') : SP X pins D f s' := by
  cases f with
  | next => obtain ⟨σ', H', I, q⟩ := h; exact ⟨σ', H', I.unwish, q⟩
  | brk => obtain ⟨σ', H', I, q⟩ := h; exact ⟨σ', H', I.unwish, q⟩
  | cont => obtain ⟨σ', H', I, q⟩ := h; exact ⟨σ', H', I.unwish, q⟩
  | ret u => obtain ⟨v, σ', H', I, r, q⟩ := h; exact ⟨v, σ', H', I.unwish, r, q⟩
theorem PE.nox {e : Expr} {t : TE} (h : PE X.nox e t) : PE X e t := fun pins s σ H Q I hw =>
  wpAny_mono (h pins s σ H Q (I.wish _) hw) (fun _ _ ⟨v, H', I', r, q⟩ => ⟨v, H', I'.unwish, r, q⟩) fun _ _ z => False.elim z
theorem PT.nox {e : Expr} {t : TT} (h : PT X.nox e t) : PT X e t := fun pins s σ H Q I hw =>
  wpAny_mono (h pins s σ H Q (I.wish _) hw) (fun _ _ ⟨H', I', q⟩ => ⟨H', I'.unwish, q⟩) fun _ _ z => False.elim z
theorem PSs.nox {st : List Stmt} {t : TS} (h : PSs X.nox st t) : PSs X st t := fun pins s σ H D I hw =>
  wpAny_mono (h pins s σ H D (I.wish _) hw) (fun _ _ q => q.unwish) fun _ _ z => False.elim z
end
section
variable {X : Cx} {st : Stmt} {rest : List Stmt} {t u : TS} {e : Expr} {te : TE} {pos : Pos}
noncomputable def tNext : TS := fun D σ H => D.nx σ H
noncomputable def tSeq (t u : TS) : TS := fun D σ H => t { D with nx := u D } σ H
theorem pss_nil : PSs X [] tNext := fun _ _ σ H _ I h => wpAny_execs_nil ⟨σ, H, I, h⟩
theorem pss_cons (h1 : PS X st t) (h2 : PSs X rest u) : PSs X (st :: rest) (tSeq t u) := by
  intro pins s σ H D I h
  refine wpAny_execs_cons (thn (h1 pins s σ H { D with nx := u D } I h) fun f s1 q => ?_)
  cases f with
  | next =>
    obtain ⟨σ', H', I', q⟩ := q
    exact h2 pins s1 σ' H' D I' q
  | ret v => exact q
  | brk => exact q
  | cont => exact q
theorem pss_one (h1 : PS X st t) : PSs X [st] t := by
  intro pins s σ H D I h
  refine wpAny_execs_cons (thn (h1 pins s σ H D I h) fun f s1 q => ?_)
  cases f with
  | next => exact wpAny_execs_nil q
  | ret v => exact q
  | brk => exact q
  | cont => exact q
theorem Inv.quiet {pins : List (Addr × Obj)} {σ : St} {H : Hp} {s : Shared} (I : Inv X pins σ H s) : interactive X.env = false := by simp [interactive, I.ok.kind]
noncomputable def tDrop (te : TE) : TS := fun D σ H => te σ H fun _ H1 => D.nx σ H1
theorem ps_expr (he : PE X e te) (hs : swapsWith e none pos.line X.env = pure false := by rfl) : PS X (.Expr e pos) (tDrop te) := by
  intro pins s σ H D I h
  exact wpAny_Expr_any (thn (he pins s σ H _ I h) fun v s1 ⟨x, H1, I1, r1, q1⟩ => ⟨σ, H1, I1, q1⟩) I.quiet hs
noncomputable def tRet (te : TE) : TS := fun D σ H => te σ H D.rt
theorem ps_ret (he : PE X e te) : PS X (.Return (some e) pos) (tRet te) := by
  intro pins s σ H D I h
  exact wpAny_Return_some (thn (he pins s σ H _ I h) fun v s1 ⟨x, H1, I1, r1, q1⟩ => ⟨x, σ, H1, I1, r1, q1⟩)
noncomputable def tIfS (c : TT) (t u : TS) : TS := fun D σ H => c σ H fun b H1 => if b = true then t D σ H1 else u D σ H1
theorem ps_if {c : Expr} {a b : List Stmt} {tc : TT} (hc : PT X c tc) (ha : PSs X a t) (hb : PSs X b u) : PS X (.If c a b pos) (tIfS tc t u) := by
  intro pins s σ H D I h
  refine wpAny_If (thn (hc pins s σ H _ I h) fun d s1 ⟨H1, I1, q1⟩ => ?_)
  cases d with
  | true => exact ha pins s1 σ H1 D I1 q1
  | false => exact hb pins s1 σ H1 D I1 q1
noncomputable def tNever : TS := fun _ _ _ => False
theorem ps_never : PS X st tNever := fun _ _ _ _ _ _ h => h.elim
end
noncomputable abbrev TG := V → St → Hp → (St → Hp → Prop) → Prop
noncomputable abbrev TGs := List V → St → Hp → (St → Hp → Prop) → Prop
noncomputable def PG (X : Cx) (target : Expr) (t : TG) : Prop :=
  ∀ (pins : List (Addr × Obj)) (s : Shared) (σ : St) (H : Hp) (v : V) (u : Value) (Q : St → Hp → Prop), Inv X pins σ H s → RelV v u → t v σ H Q →
    wpAny (model X.prog X.w) X.A (assign target X.env u) (fun _ s' => ∃ σ' H', Inv X pins σ' H' s' ∧ Q σ' H') X.xe s
noncomputable def PGs (X : Cx) (ts : List Expr) (t : TGs) : Prop :=
  ∀ (pins : List (Addr × Obj)) (s : Shared) (σ : St) (H : Hp) (vs : List V) (us : List Value) (Q : St → Hp → Prop), Inv X pins σ H s → Vals vs us → t vs σ H Q →
    wpAny (model X.prog X.w) X.A (assignInOrder ((assignEach ts X.env).map (·.2)) us) (fun _ s' => ∃ σ' H', Inv X pins σ' H' s' ∧ Q σ' H') X.xe s
noncomputable abbrev TSet := V → V → V → Hp → (Hp → Prop) → Prop
noncomputable def PSet (X : Cx) (t : TSet) : Prop :=
  ∀ (pins : List (Addr × Obj)) (s : Shared) (σ : St) (H : Hp) (o i v : V) (ov iv u : Value) (Q : Hp → Prop), Inv X pins σ H s → RelV o ov → RelV i iv → RelV v u → t o i v H Q →
    wpAny (model X.prog X.w) X.A (setItem ov iv u) (fun _ s' => ∃ H', Inv X pins σ H' s' ∧ Q H') X.xe s
section
variable {X : Cx} {pos : Pos}
noncomputable def gName (i : Nat) : TG := fun v σ H Q => Q (σ.set i (some v)) H
theorem pg_name {i : Nat} {x : Str} (hN : X.N.Nodup) (hi : X.N[i]? = some x) (hx : Loc X.env.scope x) (hf : X.fn x = true ∨ X.env.scope.names.lookup x = some .local := by first | exact .inl rfl | exact .inr rfl | assumption) : PG X (.Name x pos) (gName i) := by
  intro pins s σ H v u Q I r h
  exact wpAny_assign_Name (store_ok I hN hi hx r (fun s' I' => ⟨_, H, I', h⟩) hf)
noncomputable def gNil : TGs := fun vs σ H Q => vs = [] ∧ Q σ H
noncomputable def gCons (t : TG) (u : TGs) : TGs := fun vs σ H Q => ∃ v r, vs = v :: r ∧ t v σ H fun σ' H' => u r σ' H' Q
theorem pgs_nil : PGs X [] gNil := by
  intro pins s σ H vs us Q I r h
  obtain ⟨e, h⟩ := h
  subst e
  cases r
  exact assignInOrder_nil ⟨σ, H, I, h⟩
theorem pgs_cons {e : Expr} {es : List Expr} {t : TG} {u : TGs} (h1 : PG X e t) (h2 : PGs X es u)
    (hs : (assignEach (e :: es) X.env).map (·.2) = assign e X.env :: (assignEach es X.env).map (·.2) := by rfl) : PGs X (e :: es) (gCons t u) := by
  intro pins s σ H vs us Q I r h
  obtain ⟨v, vr, e1, h⟩ := h
  subst e1
  cases r with
  | cons r rr =>
    rw [hs]
    refine assignInOrder_cons (thn (h1 pins s σ H _ _ _ I r h) fun _ s1 ⟨σ1, H1, I1, q1⟩ => ?_)
    exact h2 pins s1 σ1 H1 _ _ Q I1 rr q1
noncomputable def gTup (K : PySem.W.Frag) (n : Nat) (t : TGs) : TG := fun v σ H Q => ∃ a xs, v = .ref a ∧ SqT K H a xs ∧ xs.length = n ∧ t xs σ H Q
theorem pg_tup {es : List Expr} {k : Nat} {t : TGs} {n : Nat} (hc : X.calm = true) (h : PGs X es t)
    (hn : (assignEach es X.env).length = n := by rfl) (hst : (assignEach es X.env).findIdx? (·.1) = none := by rfl) : PG X (.Tuple es k pos) (gTup X.K n t) := by
  intro pins s σ H v u Q I r hw
  obtain ⟨a, xs, e1, hq, hl, hw⟩ := hw
  subst e1
  cases r
  obtain ⟨its, rv, ht, hz⟩ := I.tuple hq
  refine assign_Tuple_tuple (I.ok.hd hc) ht (by simp [hn, ← hl, rv.length]) hst fun h' hx => ?_
  have I1 : Inv X pins σ H { s with heap := h' } := I.kept (t' := s.toks) fun b o e => hx b o (Nat.ne_of_lt (Heap.lt_size e)) e
  exact h pins _ σ H xs _ Q I1 (by simpa using rv) hw
noncomputable def gSub (to ti : TE) (t : TSet) : TG := fun v σ H Q => to σ H fun o H1 => ti σ H1 fun i H2 => t o i v H2 fun H3 => Q σ H3
theorem pg_sub {o i : Expr} {to ti : TE} {t : TSet} (ho : PE X o to) (hi : PE X i ti) (hs : PSet X t)
    (ha : ∀ v, assign (.Subscript o i pos) X.env v = (do
      let ov ← holding [v] (eval o X.env)
      let iv ← holding [v, ov] (eval i X.env)
      standAt pos
      holding [v, ov, iv] (setItem ov iv v)
      release [v, ov, iv] []) := by intro _; rfl) : PG X (.Subscript o i pos) (gSub to ti t) := by
  intro pins s σ H v u Q I r h
  rw [ha]
  refine wpAny_bind (wpAny_holding (thn (ho pins s σ H _ I h) fun ov s1 ⟨x, H1, I1, r1, q1⟩ => ?_))
  refine wpAny_bind (wpAny_holding (thn (hi pins s1 σ H1 _ I1 q1) fun iv s2 ⟨y, H2, I2, r2, q2⟩ => ?_))
  refine wpAny_bind (wpAny_standAt (wpAny_bind (wpAny_holding (thn (hs pins s2 σ H2 x y v ov iv u _ I2 r1 r2 r q2) fun _ s3 ⟨H3, I3, q3⟩ => ?_))))
  exact wpAny_release ⟨σ, H3, I3, q3⟩
noncomputable def tAsg (te : TE) (g : TG) : TS := fun D σ H => te σ H fun x H1 => g x σ H1 D.nx
theorem ps_asg {tg e : Expr} {te : TE} {g : TG} (he : PE X e te) (hg : PG X tg g) (hs : swapsWithSole [tg] e pos.line X.env = pure false := by rfl) (hw : swappedStores [tg] e X.env = pure none := by rfl)
    (h1 : (assignEach [tg] X.env).map (·.2) = [assign tg X.env] := by rfl) : PS X (.Assign [tg] e pos) (tAsg te g) := by
  intro pins s σ H D I h
  refine wpAny_Assign_stores (thn (he pins s σ H _ I h) fun v s1 ⟨x, H1, I1, r1, q1⟩ => ?_) hs hw
  rw [h1]
  exact thn (hg pins s1 σ H1 x v _ I1 r1 q1) fun _ s2 q => q
theorem ps_set {i : Nat} {x : Str} {e : Expr} {te : TE} {pos' : Pos} (hN : X.N.Nodup) (hi : X.N[i]? = some x) (hx : Loc X.env.scope x) (he : PE X e te) (hs : swapsWith e (some (.Name x pos')) pos.line X.env = pure false := by rfl) (hf : X.fn x = true ∨ X.env.scope.names.lookup x = some .local := by first | exact .inl rfl | exact .inr rfl | assumption) :
    PS X (.Assign [.Name x pos'] e pos) (tAsg te (gName i)) := by
  intro pins s σ H D I h
  refine wpAny_Assign_Name (thn (he pins s σ H _ I h) fun v s1 ⟨y, H1, I1, r1, q1⟩ => ?_) hs
  exact store_ok I1 hN hi hx r1 (fun s2 I2 => ⟨_, H1, I2, q1⟩) hf
end
section
variable {X : Cx} {pos : Pos}
noncomputable def tWhile (c : TT) (tb : TS) : TS := fun D σ H => ∃ W : Nat → St → Hp → Prop, (∃ m, W m σ H) ∧ ∀ m σ H, W m σ H →
  c σ H fun b H1 => if b = true then ∃ N : St → Hp → Prop, (∀ σ' H', N σ' H' → ∃ m', m' < m ∧ W m' σ' H') ∧ tb { D with nx := N, ct := N, bk := D.nx } σ H1 else D.nx σ H1
theorem ps_while {c : Expr} {body : List Stmt} {tc : TT} {tb : TS} (hp : PassesOwn (model X.prog X.w) X.A X.env X.xe) (hc : PT X c tc) (hb : PSs X body tb) : PS X (.While c body [] pos) (tWhile tc tb) := by
  intro pins s σ H D I h
  obtain ⟨W, ⟨m0, w0⟩, turn⟩ := h
  refine wpAny_While (codeAny_whileLoop (fun n s' => ∃ σ' H', Inv X pins σ' H' s' ∧ W n σ' H') ?_ m0 ⟨σ, H, I, w0⟩)
  rintro n s1 ⟨σ1, H1, I1, w1⟩
  refine wpAny_passesOwn hp (thn (hc pins s1 σ1 H1 _ I1 (turn n σ1 H1 w1)) fun b s2 ⟨H2, I2, q2⟩ => ?_)
  cases b with
  | true =>
    obtain ⟨N, hN, q2⟩ := q2
    rw [if_pos rfl]
    refine wpAny_passesOwn hp (thn (hb pins s2 σ1 H2 _ I2 q2) fun f s3 q3 => ?_)
    cases f with
    | next =>
      obtain ⟨σ3, H3, I3, n3⟩ := q3
      obtain ⟨m', hm, w3⟩ := hN σ3 H3 n3
      exact ⟨m', hm, σ3, H3, I3, w3⟩
    | cont =>
      obtain ⟨σ3, H3, I3, n3⟩ := q3
      obtain ⟨m', hm, w3⟩ := hN σ3 H3 n3
      exact ⟨m', hm, σ3, H3, I3, w3⟩
    | brk => exact q3
    | ret v => exact q3
  | false =>
    rw [if_neg Bool.false_ne_true]
    exact wpAny_execs_nil ⟨σ1, H2, I2, q2⟩
end
structure It where
  go : Nat → Hp → Prop
  yld : Nat → Hp → V → Hp → Prop
  stop : Nat → Hp → Prop
noncomputable def FpOk (X : Cx) (pins : List (Addr × Obj)) (H : Hp) (b : Addr) : Prop :=
  H b = none ∧ b ≠ X.env.locals ∧ b ∉ X.fs ∧ (b ∈ X.ex ∨ X.s₀.heap.objs.size ≤ b) ∧ (∀ x c, X.env.cells.lookup x = some c → c ≠ b) ∧ ∀ p ∈ X.pn ++ pins, p.1 ≠ b
theorem Inv.fpOk {X : Cx} {pins : List (Addr × Obj)} {σ : St} {H H' : Hp} {s : Shared} {b : Addr} (I : Inv X pins σ H s) (hb : s.heap.objs.size ≤ b) (hn : H' b = none) : FpOk X pins H' b := by
  refine ⟨hn, Nat.ne_of_gt (Nat.lt_of_lt_of_le I.lt hb), I.nofs hb, .inr (Nat.le_trans I.sz hb), fun x c e z => ?_, fun p hp z => ?_⟩
  · obtain ⟨v, q⟩ := I.cell x c e
    exact absurd (Nat.lt_of_lt_of_le q.lt (by rw [z]; exact hb)) (Nat.lt_irrefl _)
  · exact absurd (Nat.lt_of_lt_of_le (Heap.lt_size (I.pin p hp).1) (by rw [z]; exact hb)) (Nat.lt_irrefl _)
structure Turn (P : Program) (w : World) (K : PySem.W.Frag) (tg : Expr) (J : It) (fp : List Addr) (it : Addr) (tn : Nat → Heap → Prop) : Prop where
  mem : it ∈ fp
  obj : ∀ i h, tn i h → ∀ b ∈ fp, ∃ o, h.get? b = some o ∧ ∀ v, o.data ≠ .cell v
  keep : ∀ i h h', tn i h → (∀ b ∈ fp, ∀ o, h.get? b = some o → h'.get? b = some o) → tn i h'
  item : ∀ (X : Cx), X.prog = P → X.w = w → X.K = K → X.calm = true → ∀ (i : Nat) (pins : List (Addr × Obj)) (s : Shared) (σ : St) (H : Hp) (E : Value → Shared → Prop), Inv X pins σ H s → (∀ b ∈ fp, FpOk X pins H b) → tn i s.heap → J.go i H →
    wpAny (model P w) X.A (pyNext (.ref it)) (fun r s1 => ∃ u, r = some u ∧
      wpAny (model P w) X.A (letOwnedTupleGo tg (.ref it) u) (fun _ s2 => ∃ x H', Inv X pins σ H' s2 ∧ RelV x u ∧ J.yld i H x H' ∧ tn (i + 1) s2.heap ∧ ∀ b ∈ fp, H' b = none) E s1) E s
  done : ∀ (X : Cx), X.prog = P → X.w = w → X.K = K → X.calm = true → ∀ (i : Nat) (pins : List (Addr × Obj)) (s : Shared) (σ : St) (H : Hp) (E : Value → Shared → Prop), Inv X pins σ H s → (∀ b ∈ fp, FpOk X pins H b) → tn i s.heap → J.stop i H →
    wpAny (model P w) X.A (pyNext (.ref it)) (fun r s1 => r = none ∧ Inv X pins σ H s1) E s
  self : ∀ (A : Around) (i : Nat) (s : Shared) (Q : Value → Shared → Prop) (E : Value → Shared → Prop), tn i s.heap → Q (.ref it) s → wpAny (model P w) A (pyIter (.ref it)) Q E s
noncomputable abbrev TI := St → Hp → (It → Hp → Prop) → Prop
noncomputable def PIE (X : Cx) (pins : List (Addr × Obj)) (σ : St) (tg : Expr) (R : It → Hp → Prop) (itv : Value) (s2 : Shared) : Prop :=
  ∃ (it : Addr) (fp : List Addr) (tn : Nat → Heap → Prop) (J : It) (H' : Hp), itv = .ref it ∧ Inv X pins σ H' s2 ∧ Turn X.prog X.w X.K tg J fp it tn ∧ tn 0 s2.heap ∧ (∀ b ∈ fp, FpOk X pins H' b) ∧ R J H'
noncomputable def PI (X : Cx) (tg iter : Expr) (wi : TI) : Prop :=
  ∀ (pins : List (Addr × Obj)) (s : Shared) (σ : St) (H : Hp) (R : It → Hp → Prop), Inv X pins σ H s → wi σ H R →
    wpAny (model X.prog X.w) X.A (eval iter X.env) (fun v s1 => wpAny (model X.prog X.w) X.A (pyIter v) (PIE X pins σ tg R) X.xe s1) X.xe s
theorem go_of {M : Model} {A : Around} {E : Value → Shared → Prop} {s : Shared} {tg : Expr} {it : Addr} {u : Value} {o : Obj} {n : String} {vs : Array Value} {Q : Unit → Shared → Prop} (ho : s.heap.get? it = some o) (hc : o.cls = .type n) (hd : o.data = .fields vs)
    (hn : ["enumerate", "zip", "dict_itemiterator", "dict_reverseitemiterator", "odict_iterator", "itertools.zip_longest", "itertools.pairwise"].contains n = false) (hQ : Q () s) : wpAny M A (letOwnedTupleGo tg (.ref it) u) Q E s := by
  unfold letOwnedTupleGo
  cases tg <;> first
    | exact wpAny_pure hQ
    | (cases u <;> first
        | exact wpAny_pure hQ
        | (refine wpAny_bind (wpAny_load ho ?_)
           rw [hc, hd]
           show wpAny M A (if (["enumerate", "zip", "dict_itemiterator", "dict_reverseitemiterator", "odict_iterator", "itertools.zip_longest", "itertools.pairwise"].contains n && vs[0]? == some (rawInt _)) = true then _ else _) Q E s
           rw [if_neg (by intro h; rw [hn, Bool.false_and] at h; cases h)]
           exact wpAny_pure hQ))
noncomputable def Itl (K : PySem.W.Frag) (a : Addr) : It :=
  ⟨fun i H => ∃ xs x, SqL K H a xs ∧ xs[i]? = some x, fun i H x H' => H' = H ∧ ∀ xs, SqL K H a xs → xs[i]? = some x, fun i H => ∃ xs, SqL K H a xs ∧ xs.length ≤ i⟩
noncomputable def Itt (K : PySem.W.Frag) (a : Addr) : It :=
  ⟨fun i H => ∃ xs x, SqT K H a xs ∧ xs[i]? = some x, fun i H x H' => H' = H ∧ ∀ xs, SqT K H a xs → xs[i]? = some x, fun i H => ∃ xs, SqT K H a xs ∧ xs.length ≤ i⟩
noncomputable def Itr (lo : Int) (n : Nat) : It := ⟨fun i _ => i < n, fun i H x H' => H' = H ∧ x = .int (lo + i), fun i _ => n ≤ i⟩
theorem turn_list {P : Program} {w : World} {K : PySem.W.Frag} {tg : Expr} (a it : Addr) : Turn P w K tg (Itl K a) [it] it (fun i h => h.IsListIter it a i) where
  mem := by simp
  obj := fun i h st b hb => by
    have e : b = it := by simpa using hb
    subst e
    obtain ⟨o, e, c, d⟩ := st
    exact ⟨o, e, fun v z => by rw [d] at z; cases z⟩
  keep := fun i h h' st k => st.at fun o e => k it (by simp) o e
  item := by
    intro X hP hw hK hc i pins s σ H E I hf st hg
    subst hP hw hK
    obtain ⟨xs, x, hq, hx⟩ := hg
    obtain ⟨its, rv, p, hz⟩ := I.list hq
    obtain ⟨u, hu, ru⟩ := rv.get hx
    obtain ⟨f0, f1, f2, f3, f4, f5⟩ := hf it (by simp)
    refine wpAny_pyNext_list_item st p.isList (x := u) (by simpa using hu) fun h' st' sb => ?_
    have I1 : Inv X pins σ H { s with heap := h' } := I.turned (t' := s.toks) (fun b o hb e => (sb.2 b hb).trans e) f0 f1 f3 f4 f5
    obtain ⟨o, e, c, d⟩ := id st'
    exact ⟨u, rfl, go_of (s := { s with heap := h' }) e c d (by decide) ⟨x, H, I1, ru, ⟨rfl, fun ys hy => by rw [I.list_inj hy hq]; exact hx⟩, st', fun b hb => (hf b hb).1⟩⟩
  done := by
    intro X hP hw hK hc i pins s σ H E I hf st hg
    subst hP hw hK
    obtain ⟨xs, hq, hx⟩ := hg
    obtain ⟨its, rv, p, hz⟩ := I.list hq
    obtain ⟨f0, f1, f2, f3, f4, f5⟩ := hf it (by simp)
    have hl := rv.length
    exact wpAny_pyNext_list_end (I.ok.hd hc) st p.isList (by simp; omega) fun h' eb => ⟨rfl, I.turned (t' := s.toks) (fun b o hb e => eb b o hb e) f0 f1 f3 f4 f5⟩
  self := fun _ _ _ _ _ st h => wpAny_pyIter_listiter st h
theorem turn_tuple {P : Program} {w : World} {K : PySem.W.Frag} {tg : Expr} (a it : Addr) : Turn P w K tg (Itt K a) [it] it (fun i h => h.IsTupleIter it a i) where
  mem := by simp
  obj := fun i h st b hb => by
    have e : b = it := by simpa using hb
    subst e
    obtain ⟨o, e, c, d⟩ := st
    exact ⟨o, e, fun v z => by rw [d] at z; cases z⟩
  keep := fun i h h' st k => st.at fun o e => k it (by simp) o e
  item := by
    intro X hP hw hK hc i pins s σ H E I hf st hg
    subst hP hw hK
    obtain ⟨xs, x, hq, hx⟩ := hg
    obtain ⟨its, rv, p, hz⟩ := I.tuple hq
    obtain ⟨u, hu, ru⟩ := rv.get hx
    obtain ⟨f0, f1, f2, f3, f4, f5⟩ := hf it (by simp)
    refine wpAny_pyNext_tuple_item st (show s.heap.IsTuple a its.toArray from p) (x := u) (by simpa using hu) fun h' st' sb => ?_
    have I1 : Inv X pins σ H { s with heap := h' } := I.turned (t' := s.toks) (fun b o hb e => (sb.2 b hb).trans e) f0 f1 f3 f4 f5
    obtain ⟨o, e, c, d⟩ := id st'
    exact ⟨u, rfl, go_of (s := { s with heap := h' }) e c d (by decide) ⟨x, H, I1, ru, ⟨rfl, fun ys hy => by rw [I.tuple_inj hy hq]; exact hx⟩, st', fun b hb => (hf b hb).1⟩⟩
  done := by
    intro X hP hw hK hc i pins s σ H E I hf st hg
    subst hP hw hK
    obtain ⟨xs, hq, hx⟩ := hg
    obtain ⟨its, rv, p, hz⟩ := I.tuple hq
    obtain ⟨f0, f1, f2, f3, f4, f5⟩ := hf it (by simp)
    have hl := rv.length
    exact wpAny_pyNext_tuple_end (I.ok.hd hc) st (show s.heap.IsTuple a its.toArray from p) (by simp; omega) fun h' eb => ⟨rfl, I.turned (t' := s.toks) (fun b o hb e => eb b o hb e) f0 f1 f3 f4 f5⟩
  self := fun _ _ _ _ _ st h => wpAny_pyIter_tupleiter st h
theorem turn_range {P : Program} {w : World} {K : PySem.W.Frag} {tg : Expr} (it : Addr) (lo : Int) (n : Nat) : Turn P w K tg (Itr lo n) [it] it (fun i h => IsRangeIter h it (lo + (i : Nat) * 1) ((n : Int) - (i : Nat)) 1) where
  mem := by simp
  obj := fun i h st b hb => by
    have e : b = it := by simpa using hb
    subst e
    exact ⟨_, st, fun v z => by
      have z' : Data.fields _ = Data.cell v := z
      cases z'⟩
  keep := fun i h h' st k => k it (by simp) _ st
  item := by
    intro X hP hw hK hc i pins s σ H E I hf st hg
    subst hP hw hK
    obtain ⟨f0, f1, f2, f3, f4, f5⟩ := hf it (by simp)
    have W := Walks.range (prog := X.prog) (w := X.w) (I.ok.hd hc) it lo 1 n
    refine W.item i s _ _ hg st fun v h' tk hv st' kk => ?_
    obtain ⟨t, rfl⟩ := hv
    have I1 : Inv X pins σ H { s with heap := h', toks := tk } := I.turned (fun b o hb e => kk b o (by simpa using hb) e) f0 f1 f3 f4 f5
    refine ⟨_, rfl, go_of (s := { s with heap := h', toks := tk }) (n := "range_iterator") st' rfl rfl (by decide) ⟨.int (lo + i), H, I1, ⟨t, ?_⟩, ⟨rfl, rfl⟩, st', fun b hb => (hf b hb).1⟩⟩
    rw [Int.mul_one]
  done := by
    intro X hP hw hK hc i pins s σ H E I hf st hg
    subst hP hw hK
    obtain ⟨f0, f1, f2, f3, f4, f5⟩ := hf it (by simp)
    exact wpAny_pyNext_range_end (I.ok.hd hc) st (by have : n ≤ i := hg; omega) fun h' eb => ⟨rfl, I.turned (t' := s.toks) (fun b o hb e => eb b o hb e) f0 f1 f3 f4 f5⟩
  self := fun _ _ _ _ _ st h => wpAny_pyIter_rangeiter st h
end L2
namespace L2
open PySem PySem.Spec PyProof.Rows
section
variable {X : Cx} {tg : Expr}
theorem range_it {pins : List (Addr × Obj)} {σ : St} {H : Hp} {s : Shared} {R : It → Hp → Prop} {E : Value → Shared → Prop} {lo hi : Int} {t u v : Tok} {tk : Nat} (I : Inv X pins σ H s) (h1 : -(2 ^ 62) ≤ lo) (h2 : lo < 2 ^ 62) (h3 : -(2 ^ 62) ≤ hi) (h4 : hi < 2 ^ 62)
    (q : R (Itr lo (hi - lo).toNat) H) : wpAny (model X.prog X.w) X.A (pyIter (.ref s.heap.objs.size)) (PIE X pins σ tg R) E { s with heap := s.heap.push { cls := .type "range", data := .fields #[.int lo t, .int hi u, .int 1 v] }, toks := tk } := by
  refine wpAny_pyIter_range (IsRange.new ..) (small_one h1 h2 h3 h4) ?_
  have I1 : Inv X pins σ H { s with heap := s.heap.push { cls := .type "range", data := .fields #[.int lo t, .int hi u, .int 1 v] }, toks := tk } := I.kept fun b o e => Heap.get?_push_of_some _ e
  refine ⟨(s.heap.push { cls := .type "range", data := .fields #[.int lo t, .int hi u, .int 1 v] }).objs.size, [(s.heap.push { cls := .type "range", data := .fields #[.int lo t, .int hi u, .int 1 v] }).objs.size], _, _, H, rfl,
    I1.kept (t' := tk) fun b o e => Heap.get?_push_of_some _ e, turn_range _ lo (hi - lo).toNat, ?_, fun b hb => ?_, q⟩
  · have e1 : lo + ((0 : Nat) : Int) * 1 = lo := by simp
    have e2 : (((hi - lo).toNat : Nat) : Int) - ((0 : Nat) : Int) = Builtin.Range.rangeSize lo hi 1 := by rw [rangeSize_one]; split <;> omega
    show IsRangeIter _ _ (lo + ((0 : Nat) : Int) * 1) ((((hi - lo).toNat : Nat) : Int) - ((0 : Nat) : Int)) 1
    rw [e1, e2]
    exact Heap.get?_push_size _ rfl
  · have e : b = (s.heap.push { cls := .type "range", data := .fields #[.int lo t, .int hi u, .int 1 v] }).objs.size := by simpa using hb
    subst e
    exact I1.fpOk (Nat.le_refl _) (I1.hok.fresh (Nat.le_refl _))
noncomputable def iRng1 (ta : TA) : TI := fun σ H R => ta σ H fun vs H1 => ∃ j : Int, vs = [.int j] ∧ -(2 ^ 62) ≤ j ∧ j < 2 ^ 62 ∧ R (Itr 0 j.toNat) H1
theorem pi_range1 {a : Expr} {ta : TA} {p pos : Pos} (hg : Gl X "range") (hm : X.mg "range" = none) (ha : PA X [a] ta) (hs : starEach [a] X.env = [(false, eval a X.env)] := by rfl) : PI X tg (.Call (.Name "range" p) [a] [] pos) (iRng1 ta) := by
  intro pins s σ H R I h
  refine Call_ (ld_blt I hg hm boot_range (PyProof.Rows.callWith_type1 (thn (ha pos pins s σ H _ I h) fun us s1 ⟨vs, H1, I1, r1, q1⟩ => ?_) hs rfl))
  obtain ⟨j, e, q1, q2, q⟩ := q1
  subst e
  cases r1 with
  | cons r rr =>
    cases rr
    obtain ⟨t, rfl⟩ := r
    exact call_range_1 (range_it I1 (by omega) (by omega) q1 q2 (by simpa using q))
noncomputable def tFor (wi : TI) (g : TG) (tb : TS) : TS := fun D σ H => wi σ H fun J H1 => ∃ W : Nat → Nat → St → Hp → Prop, (∃ m, W 0 m σ H1) ∧ ∀ i m σ H, W i m σ H →
  (J.stop i H ∧ D.nx σ H) ∨ (J.go i H ∧ ∃ N : St → Hp → Prop, (∀ σ' H', N σ' H' → ∃ m', m' < m ∧ W (i + 1) m' σ' H') ∧ ∀ x H', J.yld i H x H' → g x σ H' fun σ2 H2 => tb { D with nx := N, ct := N, bk := D.nx } σ2 H2)
noncomputable def pinsAt (fp : List Addr) (h : Heap) : List (Addr × Obj) := fp.filterMap fun b => (h.get? b).map fun o => (b, o)
theorem mem_pinsAt {fp : List Addr} {h : Heap} {b : Addr} {o : Obj} (hb : b ∈ fp) (e : h.get? b = some o) : (b, o) ∈ pinsAt fp h := List.mem_filterMap.mpr ⟨b, hb, by rw [e]; rfl⟩
theorem of_pinsAt {fp : List Addr} {h : Heap} {p : Addr × Obj} (hp : p ∈ pinsAt fp h) : p.1 ∈ fp ∧ h.get? p.1 = some p.2 := by
  obtain ⟨b, hb, e⟩ := List.mem_filterMap.mp hp
  cases q : h.get? b with
  | none => rw [q] at e; cases e
  | some o =>
    rw [q] at e
    have e' : (b, o) = p := Option.some.inj e
    subst e'
    exact ⟨hb, q⟩
theorem Inv.pinned {pins : List (Addr × Obj)} {σ : St} {H : Hp} {s : Shared} {fp : List Addr} (I : Inv X pins σ H s) (hf : ∀ b ∈ fp, FpOk X pins H b) (ho : ∀ b ∈ fp, ∃ o, s.heap.get? b = some o ∧ ∀ v, o.data ≠ .cell v) : Inv X (pins ++ pinsAt fp s.heap) σ H s :=
  I.pins_of fun p hp => (List.mem_append.mp hp).elim (fun z => I.pin p (List.mem_append_right _ z)) fun z => by
    obtain ⟨hb, e⟩ := of_pinsAt z
    obtain ⟨f0, f1, f2, _⟩ := hf p.1 hb
    obtain ⟨o, e', d⟩ := ho p.1 hb
    rw [e] at e'; cases e'
    exact ⟨e, f0, f1, f2, d⟩
theorem Inv.unpinned {pins pl : List (Addr × Obj)} {σ : St} {H : Hp} {s : Shared} (I : Inv X (pins ++ pl) σ H s) : Inv X pins σ H s := I.pins_of fun p hp => I.pin p (List.mem_append_right _ (List.mem_append_left _ hp))
theorem ps_for {iter : Expr} {body : List Stmt} {wi : TI} {g : TG} {tb : TS} {pos : Pos} (hp : PassesOwn (model X.prog X.w) X.A X.env X.xe) (hc : X.calm = true) (hi : PI X tg iter wi) (hg : PG X tg g) (hb : PSs X body tb)
    (hs : ∀ x, foldedSetIterable iter X.env x = pure x := by intro _; rfl) : PS X (.For tg iter body [] pos) (tFor wi g tb) := by
  intro pins s σ H D I h
  refine wpAny_For (thn (hi pins s σ H _ I h) fun v s1 h1 => thn h1 fun itv s2 h2 => ?_) hs
  obtain ⟨it, fp, tn, J, H2, e, I2, T, st2, f2, W, ⟨m0, w0⟩, turn⟩ := h2
  subst e
  -- what stays true of the iterator's objects through the loop
  have stat : ∀ {H' : Hp}, (∀ b ∈ fp, H' b = none) → ∀ b ∈ fp, FpOk X pins H' b := fun hn b hb => ⟨hn b hb, (f2 b hb).2⟩
  refine codeAny_forLoop_any (fun n s' => ∃ i σ' H', Inv X pins σ' H' s' ∧ tn i s'.heap ∧ (∀ b ∈ fp, H' b = none) ∧ W i n σ' H') ?_ m0 ⟨0, σ, H2, I2, st2, fun b hb => (f2 b hb).1, w0⟩
  rintro n s3 ⟨i, σ3, H3, I3, st3, fr3, w3⟩
  rcases turn i n σ3 H3 w3 with ⟨stop, qn⟩ | ⟨go, N, hN, step⟩
  · refine wpAny_passesOwn hp (thn (T.done X rfl rfl rfl hc i pins s3 σ3 H3 X.xe I3 (stat fr3) st3 stop) fun r s4 ⟨hr, I4⟩ => ?_)
    subst hr
    exact wpAny_execs_nil ⟨σ3, H3, I4, qn⟩
  · refine wpAny_passesOwn hp (thn (T.item X rfl rfl rfl hc i pins s3 σ3 H3 X.xe I3 (stat fr3) st3 go) fun r s4 ⟨u, hr, h4⟩ => ?_)
    subst hr
    refine wpAny_passesOwn hp (thn h4 fun _ s5 ⟨x, H5, I5, r5, y5, st5, fr5⟩ => ?_)
    have I5' := I5.pinned (stat fr5) (T.obj _ _ st5)
    refine wpAny_passesOwn hp (thn (hg _ s5 σ3 H5 x u _ I5' r5 (step x H5 y5)) fun _ s6 ⟨σ6, H6, I6, q6⟩ => ?_)
    refine wpAny_passesOwn hp (thn (hb _ s6 σ6 H6 _ I6 q6) fun f s7 q7 => ?_)
    have again : ∀ {σ7 : St} {H7 : Hp}, Inv X (pins ++ pinsAt fp s5.heap) σ7 H7 s7 → N σ7 H7 → ∃ m, m < n ∧ ∃ i σ' H', Inv X pins σ' H' s7 ∧ tn i s7.heap ∧ (∀ b ∈ fp, H' b = none) ∧ W i m σ' H' := fun {σ7 H7} I7 n7 => by
      obtain ⟨m', hm, w7⟩ := hN σ7 H7 n7
      refine ⟨m', hm, i + 1, σ7, H7, I7.unpinned, T.keep _ _ _ st5 fun b hb o e => (I7.pin (b, o) (List.mem_append_right _ (List.mem_append_right _ (mem_pinsAt hb e)))).1, fun b hb => ?_, w7⟩
      obtain ⟨o, e, d⟩ := T.obj _ _ st5 b hb
      exact (I7.pin (b, o) (List.mem_append_right _ (List.mem_append_right _ (mem_pinsAt hb e)))).2.1
    cases f with
    | next => obtain ⟨σ7, H7, I7, n7⟩ := q7; exact again I7 n7
    | cont => obtain ⟨σ7, H7, I7, n7⟩ := q7; exact again I7 n7
    | brk => obtain ⟨σ7, H7, I7, q7⟩ := q7; exact ⟨σ7, H7, I7.unpinned, q7⟩
    | ret v => obtain ⟨x7, σ7, H7, I7, r7, q7⟩ := q7; exact ⟨x7, σ7, H7, I7.unpinned, r7, q7⟩
end
end L2
namespace L2
open PySem PySem.Spec PyProof.Rows
noncomputable abbrev R2 := V → V → Hp → VK → Prop
noncomputable def OpR (X : Cx) (f : Value → Value → Sem Value) (r : R2) : Prop :=
  ∀ (pins : List (Addr × Obj)) (s : Shared) (σ : St) (H : Hp) (x y : V) (v u : Value) (Q : VK), Inv X pins σ H s → RelV x v → RelV y u → r x y H Q →
    wpAny (model X.prog X.w) X.A (f v u) (EP X pins σ Q) X.xe s
noncomputable def UnR (X : Cx) (f : Value → Sem Value) (r : V → Hp → VK → Prop) : Prop :=
  ∀ (pins : List (Addr × Obj)) (s : Shared) (σ : St) (H : Hp) (x : V) (v : Value) (Q : VK), Inv X pins σ H s → RelV x v → r x H Q →
    wpAny (model X.prog X.w) X.A (f v) (EP X pins σ Q) X.xe s
noncomputable def CallR (X : Cx) (f : Value) (r : List V → Hp → VK → Prop) : Prop :=
  ∀ (pins : List (Addr × Obj)) (s : Shared) (σ : St) (H : Hp) (xs : List V) (us : List Value) (Q : VK), Inv X pins σ H s → Vals xs us → r xs H Q →
    wpAny (model X.prog X.w) X.A (call f us) (EP X pins σ Q) X.xe s
noncomputable def tOp (r : R2) (ta tb : TE) : TE := fun σ H Q => ta σ H fun x H1 => tb σ H1 fun y H2 => r x y H2 Q
noncomputable def tUn (r : V → Hp → VK → Prop) (ta : TE) : TE := fun σ H Q => ta σ H fun x H1 => r x H1 Q
noncomputable def rI (C : Int → Int → Prop) (g : Int → Int → V) : R2 := fun x y H Q => ∃ i j, x = .int i ∧ y = .int j ∧ C i j ∧ Q (g i j) H
noncomputable def rI0 (g : Int → Int → V) : R2 := fun x y H Q => ∃ i j, x = .int i ∧ y = .int j ∧ Q (g i j) H
noncomputable def rU (g : Int → V) : V → Hp → VK → Prop := fun x H Q => ∃ i, x = .int i ∧ Q (g i) H
section
variable {X : Cx} {a b c : Expr} {ta tb tc : TE} {pos : Pos}
theorem binT (ha : PE X a ta) (hb : PE X b tb) {pins : List (Addr × Obj)} {s : Shared} {σ : St} {H : Hp} {R : V → V → Hp → Prop} (I : Inv X pins σ H s)
    (h : ta σ H fun x H1 => tb σ H1 fun y H2 => R x y H2) {Q : Value → Shared → Prop} {f : Value → Value → Sem Value}
    (hf : ∀ v u s2 x y H2, Inv X pins σ H2 s2 → RelV x v → RelV y u → R x y H2 → wpAny (model X.prog X.w) X.A (f v u) Q X.xe s2) :
    wpAny (model X.prog X.w) X.A (eval a X.env) (fun v s₁ => wpAny (model X.prog X.w) X.A (eval b X.env) (fun u s₂ => wpAny (model X.prog X.w) X.A (f v u) Q X.xe s₂) X.xe s₁) X.xe s := by
  refine thn (ha pins s σ H _ I h) fun v s1 ⟨x, H1, I1, r1, q1⟩ => ?_
  refine thn (hb pins s1 σ H1 _ I1 q1) fun u s2 ⟨y, H2, I2, r2, q2⟩ => ?_
  exact hf v u s2 x y H2 I2 r1 r2 q2
theorem pe_op {op : Operator} {r : R2} (ho : OpR X (binaryOp op) r) (ha : PE X a ta) (hb : PE X b tb) : PE X (.BinOp a op b pos) (tOp r ta tb) := by
  intro pins s σ H Q I h
  exact wpAny_BinOp (binT ha hb I h fun v u s2 x y H2 I2 rx ry q => ho pins s2 σ H2 x y v u Q I2 rx ry q)
theorem pe_un {op : UnaryOp} {r : V → Hp → VK → Prop} (ho : UnR X (unaryOp op) r) (ha : PE X a ta) : PE X (.UnaryOp op a pos) (tUn r ta) := by
  intro pins s σ H Q I h
  exact UnaryOp_ (thn (ha pins s σ H _ I h) fun v s1 ⟨x, H1, I1, r1, q1⟩ => ho pins s1 σ H1 x v Q I1 r1 q1)
theorem opI {f : Value → Value → Sem Value} {C : Int → Int → Prop} {g : Int → Int → Int}
    (rule : ∀ (i j : Int) (t u : Tok) (s : Shared) (Q : Value → Shared → Prop) (E : Value → Shared → Prop), C i j → Q (.int (g i j) s.toks) { s with toks := s.toks + 1 } → wpAny (model X.prog X.w) X.A (f (.int i t) (.int j u)) Q E s) :
    OpR X f (rI C fun i j => .int (g i j)) := by
  intro pins s σ H x y v u Q I rx ry h
  obtain ⟨i, j, rfl, rfl, hc, q⟩ := h
  obtain ⟨t, rfl⟩ := rx
  obtain ⟨t', rfl⟩ := ry
  exact rule i j t t' s _ _ hc ⟨.int (g i j), H, I.tok _, ⟨_, rfl⟩, q⟩
theorem opI0 {f : Value → Value → Sem Value} {g : Int → Int → Int}
    (rule : ∀ (i j : Int) (t u : Tok) (s : Shared) (Q : Value → Shared → Prop) (E : Value → Shared → Prop), Q (.int (g i j) s.toks) { s with toks := s.toks + 1 } → wpAny (model X.prog X.w) X.A (f (.int i t) (.int j u)) Q E s) :
    OpR X f (rI0 fun i j => .int (g i j)) := by
  intro pins s σ H x y v u Q I rx ry h
  obtain ⟨i, j, rfl, rfl, q⟩ := h
  obtain ⟨t, rfl⟩ := rx
  obtain ⟨t', rfl⟩ := ry
  exact rule i j t t' s _ _ ⟨.int (g i j), H, I.tok _, ⟨_, rfl⟩, q⟩
theorem opB0 {f : Value → Value → Sem Value} {g : Int → Int → Bool}
    (rule : ∀ (i j : Int) (t u : Tok) (s : Shared) (Q : Value → Shared → Prop) (E : Value → Shared → Prop), Q (.bool (g i j)) s → wpAny (model X.prog X.w) X.A (f (.int i t) (.int j u)) Q E s) :
    OpR X f (rI0 fun i j => .bl (g i j)) := by
  intro pins s σ H x y v u Q I rx ry h
  obtain ⟨i, j, rfl, rfl, q⟩ := h
  obtain ⟨t, rfl⟩ := rx
  obtain ⟨t', rfl⟩ := ry
  exact rule i j t t' s _ _ ⟨.bl (g i j), H, I, rfl, q⟩
noncomputable def CPow (i j : Int) : Prop := 0 ≤ j ∧ j ≤ 1000000 ∧ i.natAbs < 2 ^ 64
noncomputable def CMul (i j : Int) : Prop := (-(2 ^ 64) < i ∧ i < 2 ^ 64) ∨ (-(2 ^ 64) < j ∧ j < 2 ^ 64)
theorem CMul.ok {i j : Int} (h : CMul i j) : IntMulOk i j := by
  rcases h with ⟨h1, h2⟩ | ⟨h1, h2⟩
  · exact .of_left (intBits_le_64 h1 h2)
  · exact .of_right (intBits_le_64 h1 h2)
theorem op_add : OpR X (binaryOp .Add) (rI0 fun i j => .int (i + j)) := opI0 fun _ _ _ _ _ _ _ q => add_int q
theorem op_sub : OpR X (binaryOp .Sub) (rI0 fun i j => .int (i - j)) := opI0 fun _ _ _ _ _ _ _ q => sub_int q
theorem op_modN : OpR X (binaryOp .Mod) (rI (fun _ j => j ≠ 0) fun i j => .int (i.fmod j)) := opI fun _ _ _ _ _ _ _ hc q => mod_int' hc q
theorem op_pow : OpR X (binaryOp .Pow) (rI CPow fun i j => .int (i ^ j.toNat)) := opI fun _ _ _ _ _ _ _ hc q => pow_int_small hc.1 hc.2.1 hc.2.2 q
theorem unI {f : Value → Sem Value} {g : Int → Int}
    (rule : ∀ (i : Int) (t : Tok) (s : Shared) (Q : Value → Shared → Prop) (E : Value → Shared → Prop), Q (.int (g i) s.toks) { s with toks := s.toks + 1 } → wpAny (model X.prog X.w) X.A (f (.int i t)) Q E s) :
    UnR X f (rU fun i => .int (g i)) := by
  intro pins s σ H x v Q I rx h
  obtain ⟨i, rfl, q⟩ := h
  obtain ⟨t, rfl⟩ := rx
  exact rule i t s _ _ ⟨.int (g i), H, I.tok _, ⟨_, rfl⟩, q⟩
theorem un_neg : UnR X (unaryOp .USub) (rU fun i => .int (-i)) := unI fun _ _ _ _ _ q => neg_int q
end
section
variable {X : Cx} {a b c : Expr} {ta tb tc : TE} {pos : Pos}
theorem fin_bl {pins : List (Addr × Obj)} {σ : St} {H : Hp} {s : Shared} {Q : VK} {k k' : Bool} (I : Inv X pins σ H s) (q : Q (.bl k) H) (e : k = k') : EP X pins σ Q (.bool k') s := by
  subst e
  exact ⟨.bl k, H, I, rfl, q⟩
theorem op_lt : OpR X (compareOp .Lt) (rI0 fun i j => .bl (decide (i < j))) := opB0 fun _ _ _ _ _ _ _ q => lt_int q
theorem op_le : OpR X (compareOp .LtE) (rI0 fun i j => .bl (decide (i ≤ j))) := opB0 fun _ _ _ _ _ _ _ q => le_int q
theorem op_gt : OpR X (compareOp .Gt) (rI0 fun i j => .bl (decide (j < i))) := opB0 fun _ _ _ _ _ _ _ q => gt_int q
theorem OpR.or {f : Value → Value → Sem Value} {r r' : R2} (h : OpR X f r) (h' : OpR X f r') : OpR X f (fun x y H Q => r x y H Q ∨ r' x y H Q) := by
  intro pins s σ H x y v u Q I rx ry q
  rcases q with q | q
  · exact h pins s σ H x y v u Q I rx ry q
  · exact h' pins s σ H x y v u Q I rx ry q
theorem nomark (b : Expr) {op : CmpOp} (h : op ≠ .In := by decide) (h2 : op ≠ .NotIn := by decide) : behindInMarks op b = false := by
  have e1 : (op == CmpOp.In) = false := by cases op <;> first | rfl | exact absurd rfl h
  have e2 : (op == CmpOp.NotIn) = false := by cases op <;> first | rfl | exact absurd rfl h2
  cases b <;> simp [behindInMarks, e1, e2]
theorem pe_cmpR {op : CmpOp} {r : R2} (ho : OpR X (compareOp op) r) (ha : PE X a ta) (hb : PE X b tb) (hm : behindInMarks op b = false) : PE X (.Compare a [op] [b] pos) (tOp r ta tb) := by
  intro pins s σ H Q I h
  exact wpAny_Compare1 (binT ha hb I h fun v u s2 x y H2 I2 rx ry q => ho pins s2 σ H2 x y v u Q I2 rx ry q) hm
noncomputable def tTest (t : TE) : TT := fun σ H Q => t σ H fun x H' => ∃ k, x = .bl k ∧ Q k H'
theorem pt_cmpR {op : CmpOp} {r : R2} (ho : OpR X (compareOp op) r) (ha : PE X a ta) (hb : PE X b tb) (hm : behindInMarks op b = false) : PT X (.Compare a [op] [b] pos) (tTest (tOp r ta tb)) := by
  intro pins s σ H Q I h
  refine wpAny_isTrue_Compare1 (thn (ha pins s σ H _ I h) fun v s1 ⟨x, H1, I1, r1, q1⟩ => thn (hb pins s1 σ H1 _ I1 q1) fun u s2 ⟨y, H2, I2, r2, q2⟩ =>
    thn (ho pins s2 σ H2 x y v u _ I2 r1 r2 q2) fun c s3 ⟨z, H3, I3, r3, k, e, q3⟩ => ?_) hm
  subst e
  cases r3
  exact wpAny_truthy_bool ⟨H3, I3, q3⟩
theorem line63 : (sizeLine : Nat) < 2 ^ 63 := by rw [sizeLine_eq]; decide
theorem op_add_str : OpR X (binaryOp .Add) (fun x y H Q => ∃ i j, x = .str i ∧ y = .str j ∧ i.length + j.length ≤ sizeLine ∧ Q (.str (i ++ j)) H) := by
  intro pins s σ H x y v u Q I rx ry h
  obtain ⟨i, j, rfl, rfl, hz, q⟩ := h
  obtain ⟨t, rfl⟩ := rx
  obtain ⟨t', rfl⟩ := ry
  exact add_str (fun t' tk => ⟨.str (i ++ j), H, I.tok _, ⟨_, rfl⟩, q⟩) hz
theorem vals1 {x : V} {us : List Value} (r : Vals [x] us) : ∃ u, us = [u] ∧ RelV x u := by
  cases r with
  | cons r1 r2 => cases r2; exact ⟨_, rfl, r1⟩
theorem vals2 {x y : V} {us : List Value} (r : Vals [x, y] us) : ∃ u w', us = [u, w'] ∧ RelV x u ∧ RelV y w' := by
  cases r with
  | cons r1 r2 =>
    cases r2 with
    | cons r3 r4 => cases r4; exact ⟨_, _, rfl, r1, r3⟩
theorem call_abs : CallR X (.builtin "abs") (fun xs H Q => ∃ i, xs = [.int i] ∧ Q (.int (if i < 0 then -i else i)) H) := by
  intro pins s σ H xs us Q I r h
  obtain ⟨i, rfl, q⟩ := h
  obtain ⟨u, rfl, t, rfl⟩ := vals1 r
  exact call_abs_int fun u tk => ⟨.int (if i < 0 then -i else i), H, I.tok _, ⟨_, rfl⟩, q⟩
theorem call_max2 (hc : X.calm = true) : CallR X (.builtin "max") (fun xs H Q => ∃ i j, xs = [.int i, .int j] ∧ Q (.int (if j > i then j else i)) H) := by
  intro pins s σ H xs us Q I r h
  obtain ⟨i, j, rfl, q⟩ := h
  obtain ⟨u, w', rfl, ⟨t, rfl⟩, ⟨t', rfl⟩⟩ := vals2 r
  refine max_two_ints (I.ok.hd hc) fun h' tk k => ⟨_, H, I.kept k, ?_, q⟩
  by_cases hj : j > i
  · rw [if_pos hj, if_pos hj]; exact ⟨_, rfl⟩
  · rw [if_neg hj, if_neg hj]; exact ⟨_, rfl⟩
theorem call_min2 (hc : X.calm = true) : CallR X (.builtin "min") (fun xs H Q => ∃ i j, xs = [.int i, .int j] ∧ Q (.int (if j < i then j else i)) H) := by
  intro pins s σ H xs us Q I r h
  obtain ⟨i, j, rfl, q⟩ := h
  obtain ⟨u, w', rfl, ⟨t, rfl⟩, ⟨t', rfl⟩⟩ := vals2 r
  refine min_two_ints (I.ok.hd hc) fun h' tk k => ⟨_, H, I.kept k, ?_, q⟩
  by_cases hj : j < i
  · rw [if_pos hj, if_pos hj]; exact ⟨_, rfl⟩
  · rw [if_neg hj, if_neg hj]; exact ⟨_, rfl⟩
end
end L2
namespace L2
open PySem PySem.Spec PyProof.Rows
structure ObjM (h : Heap) (x dx C : Addr) (mA : Str → Option Value) : Prop where
  obj : h.get? x = some (PySem.W.instObj C dx)
  ns : h.Ns1 dx mA
  ne : dx ≠ x
section
variable {prog : Program} {w : World} {A : Around} {E : Value → Shared → Prop} {s : Shared} {K : PySem.W.Frag} {x dx C f : Addr} {mA : Str → Option Value} {name : Str} {v : Value}
end
section
variable {P : Program} {w : World} {H H' : Hp} {h h' : Heap} {a C dx : Addr} {fs fs' : List (Str × V)}
end
structure Cls (K : PySem.W.Frag) (C : Addr) : Prop where
  pg : PySem.W.plainGet K C Str.empty = true
  hd : PySem.W.hasDictIn K C = true
  po : PySem.W.plainOver K C = true
  sa : PySem.W.findIn K (.ref C) "__setattr__" = some (some (.builtin "object.__setattr__"))
theorem Cls.get {K : PySem.W.Frag} {C : Addr} (c : Cls K C) (f : Str) : PySem.W.plainGet K C f = true := c.pg
structure Con (K : PySem.W.Frag) (C : Addr) (f : Str) (v : V) (u : Value) : Prop where
  at_ : PySem.W.findIn K (.ref C) f = some (some u)
  rel : RelV v u
  get : PySem.W.specialIn K u "__get__" = some none
  cp : PySem.W.copiedNames.contains f = false
structure Meth (K : PySem.W.Frag) (C : Addr) (m : Str) (f : Addr) : Prop where
  at_ : PySem.W.findIn K (.ref C) m = some (some (.ref f))
  fn : PySem.W.isFn K (.ref f) = true
  kp : PySem.W.keepIn K (.ref f) = true
section
variable {X : Cx} {pins : List (Addr × Obj)} {σ : St} {H : Hp} {s : Shared} {a C dx : Addr} {fs : List (Str × V)} {f : Str} {v : V} {A : Around} {E : Value → Shared → Prop}
theorem Inv.made (I : Inv X pins σ H s) : Inv X pins σ (upd (upd H s.heap.objs.size (.own (s.heap.objs.size + 1))) (s.heap.objs.size + 1) (.ins C s.heap.objs.size []))
    { s with heap := (s.heap.push PySem.W.emptyDict).push (PySem.W.instObj C s.heap.objs.size) } := by
  have e1 : (s.heap.push PySem.W.emptyDict).get? s.heap.objs.size = some PySem.W.emptyDict := Heap.get?_push_size s.heap rfl
  have e2 : ((s.heap.push PySem.W.emptyDict).push (PySem.W.instObj C s.heap.objs.size)).get? (s.heap.objs.size + 1) = some (PySem.W.instObj C s.heap.objs.size) := by
    have := Heap.get?_push_size (s.heap.push PySem.W.emptyDict) (o := PySem.W.instObj C s.heap.objs.size) rfl
    rwa [Heap.size_push] at this
  have e3 : (s.heap.push PySem.W.emptyDict).Ns s.heap.objs.size (fun _ => none) := ⟨PySem.W.emptyDict, #[], _, e1, rfl, (fun e he => absurd he (by simp)), fun _ => rfl⟩
  have I1 := I.laid (a := s.heap.objs.size) (o := .own (s.heap.objs.size + 1)) (h' := s.heap.push PySem.W.emptyDict) (t' := s.toks) (fun b u q => Heap.get?_push_of_some _ q) (Nat.le_refl _) ⟨_, e1⟩
  refine I1.laid (a := s.heap.objs.size + 1) (o := .ins C s.heap.objs.size []) (t' := s.toks) (fun b u q => Heap.get?_push_of_some _ q) (Nat.le_of_eq (Heap.size_push _ _)) ?_
  have ne : s.heap.objs.size ≠ s.heap.objs.size + 1 := Nat.ne_of_lt (Nat.lt_succ_self _)
  refine ⟨by rw [upd_ne ne, upd_same], Nat.zero_le _, ne, e2, fun _ => none, (Heap.Ns1.of_empty e3).at fun o q => Heap.get?_push_of_some _ q, fun _ => True.intro, fun y hy => absurd rfl hy⟩
end
section
variable {X : Cx} {o e value : Expr} {f : Str} {pos pos' tpos : Pos} {ta tv : TE}
end
section
variable {X : Cx} {pins : List (Addr × Obj)} {σ : St} {H : Hp} {s : Shared} {A : Around} {E : Value → Shared → Prop} {Q : Value → Shared → Prop} {c : Value} {b : Bool}
inductive TyOf (K : PySem.W.Frag) (H : Hp) : V → Value → Prop where
  | non : TyOf K H .non (.type "NoneType")
  | bl (x : Bool) : TyOf K H (.bl x) (.type "bool")
  | int (i : Int) : TyOf K H (.int i) (.type "int")
  | str (x : Str) : TyOf K H (.str x) (.type "str")
  | flt (x : UInt64) : TyOf K H (.flt x) (.type "float")
  | lst {a : Addr} {xs : List V} (e : H a = some (.lst xs)) : TyOf K H (.ref a) (.type "list")
  | frz {a : Addr} {o : Obj} {xs : List V} (e : H a = some (.frz o (.lst xs))) : TyOf K H (.ref a) (.type "list")
  | tup {a : Addr} {xs : List V} (e : H a = some (.tup xs)) : TyOf K H (.ref a) (.type "tuple")
  | dK {a : Addr} {kvs : List (Key × V)} (e : H a = some (.dK kvs)) : TyOf K H (.ref a) (.type "dict")
  | dT {a : Addr} {kvs : List (List Key × V)} (e : H a = some (.dT kvs)) : TyOf K H (.ref a) (.type "dict")
  | ins {a C dx : Addr} {fs : List (Str × V)} (e : H a = some (.ins C dx fs)) (cl : Cls K C) (ha : PySem.W.findIn K (.ref C) "__class__" = some (some (.builtin "object.__class__")))
      (hn : PySem.W.specialIn K (.builtin "object.__class__") "__get__" = some (some (.builtin "getset_descriptor.__get__"))) (htk : PySem.W.takesIn K (.builtin "object.__class__") = some true)
      (hm : PySem.W.mroIn K C (.type "object") = some true) : TyOf K H (.ref a) (.ref C)
end
end L2
namespace L2
open PySem PySem.Spec PyProof.Rows
structure Room (k : Nat) (A : Around) : Prop where
  hd : A.handled = none
  dp : A.depth + 3 * k + 5 < recursionLimit
  un : A.units + 16 * k + 200 < cLine
theorem Room.mono {j k : Nat} {A : Around} (r : Room k A) (h : j ≤ k) : Room j A := ⟨r.hd, by have := r.dp; omega, by have := r.un; omega⟩
theorem Room.deeper {k : Nat} {A : Around} (r : Room (k + 1) A) (env : Env) : Room k (A.deeper env) :=
  ⟨r.hd, by have := r.dp; show A.depth + 1 + 3 * k + 5 < _; omega, by have := r.un; show A.units + 3 + 16 * k + 200 < _; omega⟩
theorem Room.depth {k : Nat} {A : Around} (r : Room k A) : A.depth < recursionLimit := by have := r.dp; omega
theorem Room.units {k : Nat} {A : Around} (r : Room k A) : A.units + 64 < cLine := by have := r.un; omega
noncomputable def tNil : TA := fun _ H Q => Q [] H
noncomputable def tCons (ta : TE) (tr : TA) : TA := fun σ H Q => ta σ H fun x H1 => tr σ H1 fun xs H2 => Q (x :: xs) H2
section
variable {X : Cx} {e : Expr} {es : List Expr} {te : TE} {t : TA} {pos : Pos}
theorem pa_nil : PA X [] tNil := fun _ _ _ _ H Q I h => Calls.spliced_nil ⟨[], H, I, .nil, h⟩
theorem pa_cons (ha : PE X e te) (hr : PA X es t) (hs : starEach (e :: es) X.env = (false, eval e X.env) :: starEach es X.env := by rfl) : PA X (e :: es) (tCons te t) := by
  intro pos pins s σ H Q I h
  rw [hs]
  show wpAny _ _ (spliced ((false, eval e X.env) :: backTo pos (starEach es X.env))) _ _ s
  refine Calls.spliced_cons (thn (ha pins s σ H _ I h) fun u s1 ⟨x, H1, I1, r1, q1⟩ => ?_)
  exact thn (hr pos pins s1 σ H1 _ I1 q1) fun us s2 ⟨xs, H2, I2, r2, q2⟩ => ⟨x :: xs, H2, I2, .cons r1 r2, q2⟩
noncomputable def tTup (t : TA) : TE := fun σ H Q => t σ H fun xs H1 => xs.length ≤ sizeLine ∧ ∀ p, H1 p = none → Q (.ref p) (upd H1 p (.tup xs))
noncomputable def tLst (t : TA) : TE := fun σ H Q => t σ H fun xs H1 => xs.length ≤ sizeLine ∧ ∀ p, H1 p = none → Q (.ref p) (upd H1 p (.lst xs))
theorem pe_tup {x1} (h : PA X es t) : PE X (.Tuple es x1 pos) (tTup t) := by
  intro pins s σ H Q I hq
  refine wpAny_Tuple_spliced (thn (h pos pins s σ H _ I hq) fun us s1 ⟨xs, H1, I1, r, z, q⟩ => ⟨by rw [← r.length]; exact z, ?_⟩)
  have hf : H1 s1.heap.objs.size = none := I1.hok.fresh (Nat.le_refl _)
  refine ⟨.ref s1.heap.objs.size, upd H1 s1.heap.objs.size (.tup xs), I1.laid (t' := s1.toks) (fun b u e => Heap.get?_push_of_some _ e) (Nat.le_refl _) ?_, rfl, q _ hf⟩
  exact ⟨z, us, r, ⟨_, Heap.get?_push_size _ rfl, rfl, _, rfl⟩⟩
theorem pe_lst (h : PA X es t) : PE X (.List es pos) (tLst t) := by
  intro pins s σ H Q I hq
  refine wpAny_List_spliced (thn (h pos pins s σ H _ I hq) fun us s1 ⟨xs, H1, I1, r, z, q⟩ => ⟨by rw [← r.length]; exact z, ?_⟩)
  have hf : H1 s1.heap.objs.size = none := I1.hok.fresh (Nat.le_refl _)
  refine ⟨.ref s1.heap.objs.size, upd H1 s1.heap.objs.size (.lst xs), I1.laid (t' := s1.toks) (fun b u e => Heap.get?_push_of_some _ e) (Nat.le_refl _) ?_, rfl, q _ hf⟩
  exact ⟨z, us, 0, r, Heap.get?_push_size _ rfl⟩
end
noncomputable abbrev Sp := List V → Hp → VK → XK → Prop
noncomputable abbrev CXT := List Env → Hp → Shared → XK → Value → Shared → Prop
structure Env0 (P : Program) (w : World) (K : PySem.W.Frag) (mg : Str → Option Value) (base : Heap) (A : Around) (outer : List Env) (s : Shared) (H : Hp) : Prop where
  frames : A.frames = some outer
  mod : Mod K mg base
  bs : ∀ b o, base.get? b = some o → s.heap.get? b = some o ∧ H b = none
  bsz : base.objs.size ≤ s.heap.objs.size
  funs : s.heap.FunFrames base outer
  frf : ∀ b ∈ frs outer, H b = none
  hok : HOk P w H s.heap
  bare : AllBare s.gens
noncomputable def CE (outer : List Env) (P : Program) (w : World) (H : Hp) (s : Shared) (Q : VK) (u : Value) (s' : Shared) : Prop :=
  ∃ v H', s'.os = s.os ∧ AllBare s'.gens ∧ Un (frs outer) [] H H' s.heap s'.heap ∧ HOk P w H' s'.heap ∧ RelV v u ∧ Q v H'
noncomputable def CR (CX : CXT) (outer : List Env) (P : Program) (w : World) (H : Hp) (s : Shared) (Q : VK) (E : XK) (r : Result) (s' : Shared) : Prop :=
  match r with
  | .ok (.ret u) => CE outer P w H s Q u s'
  | .ok _ => False
  | .error e => CX outer H s E e s'
structure FnOk (P : Program) (w : World) (K : PySem.W.Frag) (mg : Str → Option Value) (base : Heap) (CX : CXT) (k : Nat) (f : Addr) (fd : FuncData) (ps : List Str) (sp : Sp) : Prop where
  len : ∀ vs H Q E, sp vs H Q E → vs.length = ps.length
  run : ∀ (A : Around) (outer : List Env) (s : Shared) (H : Hp) (args : Args) (us : List Value) (vs : List V) (Q : VK) (E : XK), Room k A → Env0 P w K mg base A outer s H → BindsTo s fd args (ps.zip us) → Vals vs us → sp vs H Q E →
    codeAny (model P w) A (.call (.ref f) args) (CR CX outer P w H s Q E) s
theorem FnOk.mono {P : Program} {w : World} {K : PySem.W.Frag} {mg : Str → Option Value} {base : Heap} {CX : CXT} {j k : Nat} {f : Addr} {fd : FuncData} {ps : List Str} {sp : Sp} (F : FnOk P w K mg base CX j f fd ps sp) (h : j ≤ k) :
    FnOk P w K mg base CX k f fd ps sp := ⟨F.len, fun A outer s H args us vs Q E hr => F.run A outer s H args us vs Q E (hr.mono h)⟩
theorem FnOk.imp {P : Program} {w : World} {K : PySem.W.Frag} {mg : Str → Option Value} {base : Heap} {CX : CXT} {k : Nat} {f : Addr} {fd : FuncData} {ps : List Str} {sp sp' : Sp} (F : FnOk P w K mg base CX k f fd ps sp)
    (h : ∀ vs H Q E, sp' vs H Q E → sp vs H Q E) : FnOk P w K mg base CX k f fd ps sp' :=
  ⟨fun vs H Q E q => F.len vs H Q E (h _ _ _ _ q), fun A outer s H args us vs Q E hr he hb hv hs => F.run A outer s H args us vs Q E hr he hb hv (h _ _ _ _ hs)⟩
section
variable {X : Cx} {pins : List (Addr × Obj)} {σ : St} {H : Hp} {s s' : Shared}
theorem Inv.env0 (I : Inv X pins σ H s) : Env0 X.prog X.w X.K X.mg X.base X.A X.stack s H :=
  ⟨I.ok.frames, I.ok.mod, I.bs, Nat.le_trans I.ok.bsz I.sz, I.stack, I.stkFree, I.hok, I.bare⟩
theorem Inv.after {Q : VK} {u : Value} (I : Inv X pins σ H s) (h : CE X.stack X.prog X.w H s Q u s') : EP X pins σ Q u s' := by
  obtain ⟨v, H', os, bare, un, hok, r, q⟩ := h
  obtain ⟨hh, g, d, t, os'⟩ := s'
  obtain rfl : os' = s.os := os
  exact ⟨v, H', I.call (h' := hh) (g' := g) (d' := d) (t' := t) (ch := []) un hok bare (fun b z => absurd z (by simp)), r, q⟩
end
noncomputable def Binds (K : PySem.W.Frag) (fd : FuncData) (ps : List Str) (ds : List Value) : Prop :=
  ∀ (s : Shared) (us : List Value), K.In s.heap → (us ++ ds).length = ps.length → BindsTo s fd ⟨us, []⟩ (ps.zip (us ++ ds))
theorem Binds.all {K : PySem.W.Frag} {fd : FuncData} {ps : List Str} (h : ∀ us : List Value, us.length = ps.length → bindArgs fd ⟨us, []⟩ = pure (ps.zip us)) : Binds K fd ps [] := fun s us _ hl => by
  rw [List.append_nil] at hl ⊢
  exact .of_eq (h us hl)
section
variable {X : Cx} {CX : CXT} {k : Nat} {f C : Addr} {fd : FuncData} {ps : List Str} {sp : Sp} {dvs : List V} {ds : List Value} {E : XK} {x m : Str} {p pos apos : Pos} {e o : Expr} {es : List Expr} {ta : TE} {t : TA}
structure Mk (K : PySem.W.Frag) (C f : Addr) : Prop where
  makes : PySem.W.makesIn K C = true
  init : PySem.W.findIn K (.ref C) "__init__" = some (some (.ref f))
  fn : PySem.W.isFn K (.ref f) = true
  kp : PySem.W.keepIn K (.ref C) = true
end
section
variable {X : Cx} {CX : CXT} {k : Nat} {f C : Addr} {fd : FuncData} {ps ks : List Str} {sp : Sp} {E : XK} {x m : Str} {p pos apos kpos : Pos} {e o : Expr} {es : List Expr} {kws : List Keyword} {te ta : TE} {t tk : TA} {nm : Option Str}
structure KBinds (K : PySem.W.Frag) (fd : FuncData) (ps ks : List Str) (g : List Value → List Value → List Value) (gV : List V → List V → List V) : Prop where
  to : ∀ (s : Shared) (us ws : List Value), K.In s.heap → (g us ws).length = ps.length → BindsTo s fd ⟨us, ks.zip ws⟩ (ps.zip (g us ws))
  rel : ∀ {vs : List V} {us : List Value} {zs : List V} {ws : List Value}, Vals vs us → Vals zs ws → Vals (gV vs zs) (g us ws)
variable {g : List Value → List Value → List Value} {gV : List V → List V → List V}
end
structure FnScope (N P : List Str) (sc : Scope) : Prop where
  kind : sc.kind = .function
  co : sc.isCoroutine = false
  gen : sc.isGenerator = false
  nd : N.Nodup
  pre : N.take P.length = P
  par : ∀ x ∈ P, sc.names.lookup x = some .local ∨ sc.names.lookup x = some .cell
  nofree : ∀ y ∈ sc.names, y.2 ≠ .free
theorem bindL_out {kindOf : Str → Option NameKind} {x : Str} : ∀ {binds : List (Str × Value)} {m : Str → Option Value}, (∀ v, (x, v) ∉ binds) → bindL kindOf binds m x = m x
  | [], _, _ => rfl
  | (n, v) :: r, m, h => by
    unfold bindL
    rw [bindL_out fun w hw => h w (List.mem_cons_of_mem _ hw)]
    split
    · have : x ≠ n := by rintro rfl; exact h v List.mem_cons_self
      simp [this]
    · rfl
theorem bindC_out {kindOf : Str → Option NameKind} {x : Str} : ∀ {binds : List (Str × Value)} {m : Str → Option Value}, (∀ v, (x, v) ∉ binds) → bindC kindOf binds m x = m x
  | [], _, _ => rfl
  | (n, v) :: r, m, h => by
    unfold bindC
    rw [bindC_out fun w hw => h w (List.mem_cons_of_mem _ hw)]
    split
    · rfl
    · have : x ≠ n := by rintro rfl; exact h v List.mem_cons_self
      simp [this]
theorem bindL_get {kindOf : Str → Option NameKind} {x : Str} {v : Value} : ∀ {P : List Str} {vs : List Value} {i : Nat} {m : Str → Option Value}, P.Nodup → P[i]? = some x → vs[i]? = some v → kindOf x = some .local →
    bindL kindOf (P.zip vs) m x = some v
  | [], _, _, _, _, h, _, _ => by simp at h
  | _ :: _, [], _, _, _, _, h, _ => by simp at h
  | p :: P, w :: vs, 0, m, nd, h1, h2, hk => by
    simp at h1 h2; subst h1; subst h2
    show bindL kindOf ((p, w) :: P.zip vs) m p = _
    unfold bindL
    rw [bindL_out fun v hv => (List.nodup_cons.mp nd).1 (List.of_mem_zip hv).1, if_pos hk]
    simp
  | p :: P, w :: vs, i + 1, m, nd, h1, h2, hk => by
    show bindL kindOf ((p, w) :: P.zip vs) m x = _
    unfold bindL
    exact bindL_get (i := i) (List.nodup_cons.mp nd).2 (by simpa using h1) (by simpa using h2) hk
theorem bindC_get {kindOf : Str → Option NameKind} {x : Str} {v : Value} : ∀ {P : List Str} {vs : List Value} {i : Nat} {m : Str → Option Value}, P.Nodup → P[i]? = some x → vs[i]? = some v → kindOf x ≠ some .local →
    bindC kindOf (P.zip vs) m x = some v
  | [], _, _, _, _, h, _, _ => by simp at h
  | _ :: _, [], _, _, _, _, h, _ => by simp at h
  | p :: P, w :: vs, 0, m, nd, h1, h2, hk => by
    simp at h1 h2; subst h1; subst h2
    show bindC kindOf ((p, w) :: P.zip vs) m p = _
    unfold bindC
    rw [bindC_out fun v hv => (List.nodup_cons.mp nd).1 (List.of_mem_zip hv).1, if_neg hk]
    simp
  | p :: P, w :: vs, i + 1, m, nd, h1, h2, hk => by
    show bindC kindOf ((p, w) :: P.zip vs) m x = _
    unfold bindC
    exact bindC_get (i := i) (List.nodup_cons.mp nd).2 (by simpa using h1) (by simpa using h2) hk
noncomputable def start (N : List Str) (vs : List V) : St := vs.map some ++ List.replicate (N.length - vs.length) none
noncomputable def cxOf (CX : CXT) (P : Program) (w : World) (K : PySem.W.Frag) (mg : Str → Option Value) (base : Heap) (N : List Str) (qual : Str) (scope : Scope) (f : Addr) (cd : Value) (A : Around) (outer : List Env) (s : Shared) (H : Hp) (E : XK) : Cx where
  prog := P
  w := w
  K := K
  mg := mg
  base := base
  A := A.deeper (envOfC qual scope s.heap.objs.size f cd)
  N := N
  s₀ := s
  H₀ := H
  env := envOfC qual scope s.heap.objs.size f cd
  outer := outer
  stack := envOfC qual scope s.heap.objs.size f cd :: outer
  ex := []
  calm := true
  fn := fun _ => true
  pn := []
  xe := fun e s' => wpAny (model P w) (A.deeper (envOfC qual scope s.heap.objs.size f cd)) (leaving (envOfC qual scope s.heap.objs.size f cd) e) (fun _ s'' => CX outer H s E e s'') (fun e' s'' => CX outer H s E e' s'') s'
theorem cell_has {sc : Scope} {n : Nat} {x : Str} (h : sc.names.lookup x = some .cell) : ∃ c, (cellsFrom n sc.names []).lookup x = some c := by
  have q := PySem.W.cellsFrom_some sc.names n [] (.inl h)
  exact Option.isSome_iff_exists.mp q
theorem inv_start {CX : CXT} {P : Program} {w : World} {K : PySem.W.Frag} {mg : Str → Option Value} {base : Heap} {N ps : List Str} {qual : Str} {scope : Scope} {f : Addr} {cd : Value} {A : Around} {outer : List Env} {s s1 : Shared} {H : Hp} {E : XK} {us : List Value} {vs : List V}
    (S : FnScope N ps scope) (hd : A.handled = none) (e0 : Env0 P w K mg base A outer s H) (hl : vs.length = ps.length) (r : Vals vs us)
    (x : InCallC s s.heap.objs.size (bindL (envOfC qual scope s.heap.objs.size f cd).kindOf (ps.zip us) fun _ => none) (cellsFrom (s.heap.objs.size + 1) scope.names []) (bindC (envOfC qual scope s.heap.objs.size f cd).kindOf (ps.zip us) fun _ => none) s1) :
    Inv (cxOf CX P w K mg base N qual scope f cd A outer s H E) [] (start N vs) H s1 := by
  have hpl : ps.length ≤ N.length := by have := congrArg List.length S.pre; rw [List.length_take] at this; omega
  obtain ⟨h1, tk, rfl, hk⟩ := x.done
  have noA : ∀ b : Addr, b ∉ (cxOf CX P w K mg base N qual scope f cd A outer s H E).ex := fun b z => absurd (show b ∈ ([] : List Addr) from z) (by simp)
  refine ⟨⟨e0.mod, S.kind, rfl, rfl, Nat.le_refl _, fun y z c h1 h2 => ?_, fun y hy => ?_, fun y c _ h => ?_, fun _ => hd, Around.frames_deeper e0.frames, .inr ⟨rfl, rfl⟩, fun b z => absurd z (noA b), e0.bs, e0.bsz, fun b _ _ => noA b, fun b z => absurd z (noA b), e0.funs, e0.frf⟩,
    rfl, e0.bare, Un.kept hk, ⟨_, x.toInCall.ns, fun i y v h1 h2 h3 => ?_⟩, fun y c h => ⟨_, x.cell y c h⟩, e0.hok.fresh (Nat.le_refl _), fun y c h => ?_, fun p hp => absurd (show p ∈ ([] : List (Addr × Obj)) from hp) (by simp), e0.hok.kept hk, ?_⟩
  · exact name_of_addr x.apart (PySem.mem_of_lookup h1) (PySem.mem_of_lookup h2)
  · have hy : scope.names.lookup y = some .cell ∨ scope.names.lookup y = some .free := hy
    rcases hy with hy | hy
    · exact cell_has hy
    · exact absurd rfl (S.nofree _ (PySem.mem_of_lookup hy))
  · exact Nat.le_of_lt (x.above y c (PySem.mem_of_lookup h))
  · have hi : i < vs.length := by
      unfold start at h2
      by_cases hi : i < vs.length
      · exact hi
      · rw [List.getElem?_append_right (by simpa using hi)] at h2
        rw [List.getElem?_replicate] at h2
        split at h2 <;> cases h2
    have ha : vs[i]? = some v := by
      unfold start at h2
      rw [List.getElem?_append_left (by simpa using hi), List.getElem?_map] at h2
      cases e : vs[i]? with
      | none => rw [e] at h2; cases h2
      | some a => rw [e] at h2; cases h2; rfl
    obtain ⟨u, hu, rv⟩ := r.get ha
    have hp : ps[i]? = some y := by
      rw [← S.pre, List.getElem?_take_of_lt (by omega)]; exact h1
    have ndP : ps.Nodup := by rw [← S.pre]; exact S.nd.sublist (List.take_sublist _ _)
    refine ⟨u, rv, ?_⟩
    rcases S.par y (List.mem_of_getElem? hp) with k | k
    · exact .inl ⟨k, bindL_get ndP hp hu k⟩
    · obtain ⟨c, e⟩ := cell_has (n := s.heap.objs.size + 1) k
      refine .inr ⟨.inl k, c, e, ?_⟩
      have q := x.cell y c e
      rw [bindC_get ndP hp hu (by show scope.names.lookup y ≠ _; rw [k]; decide)] at q
      exact q
  · exact e0.hok.fresh (Nat.le_of_lt (x.above y c (PySem.mem_of_lookup h)))
  · unfold start
    show _ = N.length
    rw [List.length_append, List.length_map, List.length_replicate]
    omega
theorem fn_of {CX : CXT} {P : Program} {w : World} {K : PySem.W.Frag} {mg : Str → Option Value} {base : Heap} {k : Nat} {f : Addr} {name qual : Str} {params : Arguments} {body : List Stmt} {scope : Scope} {dV kV doc pm cdv ct oc : Value} {an od : Option Addr}
    {osl : Array (Option Value)} {N ps : List Str} {sp : Sp} (lk : K.lookup f = some ⟨oc, od, .func (PySem.W.fnOf name qual params body scope dV kV doc pm an cdv ct), osl⟩) (hcd : PySem.W.codeIn K cdv qual = true) (S : FnScope N ps scope)
    (len : ∀ vs H Q E, sp vs H Q E → vs.length = ps.length)
    (hbody : ∀ (A : Around) (outer : List Env) (s : Shared) (H : Hp) (vs : List V) (Q : VK) (E : XK), Room k (A.deeper (envOfC qual scope s.heap.objs.size f cdv)) → sp vs H Q E →
      ∃ t, PSs (cxOf CX P w K mg base N qual scope f cdv A outer s H E) body t ∧ t { nx := fun _ H' => Q .non H', rt := Q } (start N vs) H) :
    FnOk P w K mg base CX (k + 1) f (PySem.W.fnOf name qual params body scope dV kV doc pm an cdv ct) ps sp := by
  refine ⟨len, fun A outer s H args us vs Q E hr e0 hb r hsp => ?_⟩
  have hl := len _ _ _ _ hsp
  have KX : K.In s.heap := e0.mod.kin.keeps fun b o e => (e0.bs b o e).1
  have lim : s.heap.NoLimit := e0.mod.nolimit.keeps fun b o e => (e0.bs b o e).1
  have hkind : ∀ y ∈ ps.zip us, scope.names.lookup y.1 = some .local ∨ (scope.names.lookup y.1 = some .cell ∧ ((cellsFrom (s.heap.objs.size + 1) scope.names []).lookup y.1).isSome = true) := fun ⟨n, v⟩ hy => by
    rcases S.par n (List.of_mem_zip hy).1 with q | q
    · exact .inl q
    · exact .inr ⟨q, PySem.W.cellsFrom_some _ _ _ (.inl q)⟩
  refine codeAny_call_function hr.depth (KX _ _ lk) rfl S.co S.gen rfl (PySem.W.codeRec_of KX hcd) (hb _ _ _ _ ?_)
  refine wpAny_newFunctionEnv_cells S.kind hkind fun env he s1 x => ?_
  subst he
  refine ⟨lim.keeps x.toInCall.keep, codeAny_func ?_⟩
  obtain ⟨t, ht, hq⟩ := hbody A outer s H vs Q E (hr.deeper _) hsp
  have I : Inv (cxOf CX P w K mg base N qual scope f cdv A outer s H E) [] (start N vs) H s1 := inv_start S hr.hd e0 hl r x
  refine wpAny_mono (ht [] s1 (start N vs) H _ I hq) (fun fl s' hs => ?_) fun e s' hs => hs
  have fin : ∀ {σ' : St} {H' : Hp} {v : V} {u : Value}, Inv (cxOf CX P w K mg base N qual scope f cdv A outer s H E) [] σ' H' s' → RelV v u → Q v H' → CE outer P w H s Q u s' :=
    fun {σ' H' v u} J rv q => ⟨v, H', J.os, J.bare, J.base, J.hok, rv, q⟩
  cases fl with
  | ret u =>
    obtain ⟨v, σ', H', J, rv, q⟩ := hs
    exact fin J rv q
  | next =>
    obtain ⟨σ', H', J, q⟩ := hs
    exact fin (v := V.non) (u := Value.none) J rfl q
  | brk =>
    obtain ⟨_, _, _, q⟩ := hs
    exact False.elim q
  | cont =>
    obtain ⟨_, _, _, q⟩ := hs
    exact False.elim q
end L2
namespace L2
open PySem PySem.Spec PyProof.Rows
section
variable {X : Cx} {x : Str} {p pos : Pos} {e : Expr} {es : List Expr} {t : TA} {id T : String} {r : List V → Hp → VK → Prop}
noncomputable def tCB (r : List V → Hp → VK → Prop) (t : TA) : TE := fun σ H Q => t σ H fun vs H1 => r vs H1 Q
theorem pe_callB (hc : CallR X (.builtin id) r) (hg : Gl X x) (hm : X.mg x = none) (hv : bootBuiltins x = some (.builtin id)) (ha : PA X (e :: es) t) (hn : x ≠ "__name__" := by decide) (hdb : (x == ("__debug__" : Str)) = false := by decide)
    (he : starEach (e :: es) X.env = (false, eval e X.env) :: starEach es X.env := by rfl) (hpl : (backTo pos (starEach es X.env)).any (·.1) = false := by rfl) : PE X (.Call (.Name x p) (e :: es) [] pos) (tCB r t) := by
  intro pins s σ H Q I h
  refine wpAny_Call_Name_kw (ld_blt I hg hm hv ?_ hn hdb)
  exact PyProof.Rows.callWith_builtin1 (thn (ha pos pins s σ H _ I h) fun us s1 ⟨vs, H1, I1, r1, q1⟩ => hc pins s1 σ H1 vs us Q I1 r1 q1) he hpl
theorem pe_callTy (hc : CallR X (.type T) r) (hg : Gl X x) (hm : X.mg x = none) (hv : bootBuiltins x = some (.type T)) (ha : PA X (e :: es) t) (hn : x ≠ "__name__" := by decide) (hdb : (x == ("__debug__" : Str)) = false := by decide)
    (he : starEach (e :: es) X.env = (false, eval e X.env) :: starEach es X.env := by rfl) (hpl : (backTo pos (starEach es X.env)).any (·.1) = false := by rfl) : PE X (.Call (.Name x p) (e :: es) [] pos) (tCB r t) := by
  intro pins s σ H Q I h
  refine wpAny_Call_Name_kw (ld_blt I hg hm hv ?_ hn hdb)
  exact PyProof.Rows.callWith_type1 (thn (ha pos pins s σ H _ I h) fun us s1 ⟨vs, H1, I1, r1, q1⟩ => hc pins s1 σ H1 vs us Q I1 r1 q1) he hpl
end
end L2
namespace HT
open PySem PyProof.Rows
section
open PySem.SeqAt
open PySem.AutoSeq1 (wpAny_loadPart')
open PySem.MeetsSeq PySem.MeetsSeq2 PySem.MeetsSeq3
end
section
variable {prog : Program} {w : World} {A : Around} {E : Value → Shared → Prop} {s : Shared}
theorem cat_tup {t b : Addr} {vs ws : List Value} {Q : Value → Shared → Prop} (ht : IsTup s.heap t vs.toArray) (hb : IsTup s.heap b ws.toArray) (hv : vs ≠ [])
    (h1 : ws = [] → Q (.ref t) s) (h2 : ws ≠ [] → Q (.ref s.heap.objs.size) { s with heap := s.heap.push { cls := .type "tuple", data := .seq (vs ++ ws).toArray } })
    (hsz : vs.length + ws.length ≤ sizeLine) : wpAny (model prog w) A (binaryOp .Add (.ref t) (.ref b)) Q E s := by
  obtain ⟨⟨cls, dd, data, sl⟩, ho, hc, n, hd⟩ := id ht
  obtain ⟨⟨cls2, dd2, data2, sl2⟩, ho2, hc2, n2, hd2⟩ := id hb
  simp only at hc hd hc2 hd2
  subst hc hd hc2 hd2
  have e : vs.toArray ++ ws.toArray = (vs ++ ws).toArray := by simp
  by_cases hw : ws = []
  · exact concat_meets ⟨_, ho, rfl⟩ ⟨_, ho2, rfl⟩ noFill_tuple_add seq_tuple_add PySem.F.slot_tuple_add PySem.F.entry_tuple_add (PySem.F.args_tuple_add_2 _ _)
      (tuple_addW1 t b vs.toArray ws.toArray n n2 dd dd2 sl sl2 (by simpa using hv) (by simp [hw])) ⟨ho, ho2, h1 hw⟩
  · refine concat_meets ⟨_, ho, rfl⟩ ⟨_, ho2, rfl⟩ noFill_tuple_add seq_tuple_add PySem.F.slot_tuple_add PySem.F.entry_tuple_add (PySem.F.args_tuple_add_2 _ _)
      (tuple_addW2 t b vs.toArray ws.toArray n n2 dd dd2 sl sl2 (by simpa using hv) (by simpa using hw) (by rw [List.size_toArray, List.size_toArray]; exact hsz)) ⟨ho, ho2, ?_⟩
    rw [e]
    exact h2 hw
noncomputable def sIx (n d : Nat) : Option Int → Nat
  | none => d
  | some v => if v < 0 then (v + (n : Int)).toNat else min v.toNat n
theorem sIx_none (n d : Nat) : sIx n d none = d := rfl
theorem sIx_nat (n d k : Nat) : sIx n d (some (k : Int)) = min k n := by
  show (if (k : Int) < 0 then ((k : Int) + (n : Int)).toNat else min (k : Int).toNat n) = min k n
  rw [if_neg (by omega), Int.toNat_natCast]
theorem sIx_le (n d : Nat) (hd : d ≤ n) (o : Option Int) : sIx n d o ≤ n := by
  cases o with
  | none => exact hd
  | some v =>
    show (if v < 0 then (v + (n : Int)).toNat else min v.toNat n) ≤ n
    by_cases hv : v < 0
    · rw [if_pos hv]; omega
    · rw [if_neg hv]; exact Nat.min_le_right _ _
theorem clip_eq (v : Int) (n d : Nat) : (if v < 0 then max (v + (n : Int)) 0 else min v (n : Int)) = ((sIx n d (some v) : Nat) : Int) := by
  show (if v < 0 then max (v + (n : Int)) 0 else min v (n : Int)) = (((if v < 0 then (v + (n : Int)).toNat else min v.toNat n) : Nat) : Int)
  by_cases hv : v < 0
  · simp only [if_pos hv]; omega
  · simp only [if_neg hv]; omega
theorem adjust_gen (lo hi : Option Int) (n : Nat) : Builtin.Slice.sliceAdjust lo hi 1 (n : Int) = (((sIx n 0 lo : Nat) : Int), ((sIx n n hi : Nat) : Int)) := by
  have h1 : ¬ ((1 : Int) < 0) := by omega
  unfold Builtin.Slice.sliceAdjust
  simp only [h1, if_false]
  refine Prod.ext ?_ ?_
  · cases lo with
    | none => rfl
    | some v => exact clip_eq v n 0
  · cases hi with
    | none => rfl
    | some v => exact clip_eq v n n
theorem places_gen (i j : Nat) : Builtin.Slice.slicePlaces (i : Int) (j : Int) 1 = j - i := by
  unfold Builtin.Slice.slicePlaces
  have h1 : (1 : Int) > 0 := by omega
  simp only [h1, if_true, Int.ediv_one]
  split <;> omega
theorem slicePart_ {v : Value} {o : Option Int} {Q : Option Int → Shared → Prop} (p : IsPart v o) (h : Q o s) : wpAny (model prog w) A (Builtin.Slice.slicePartIndex v) Q E s := by
  cases p with
  | none => exact slicePart_none h
  | int i t => exact slicePart_int h
theorem sliceApplied_gen {sl : Addr} {vl vu : Value} {lo hi : Option Int} {n : Nat} {Q : Int × Int × Nat → Shared → Prop} (hs : s.heap.IsSliceOf sl vl vu .none) (pl : IsPart vl lo) (pu : IsPart vu hi)
    (h : Q (((sIx n 0 lo : Nat) : Int), 1, sIx n n hi - sIx n 0 lo) s) : wpAny (model prog w) A (Builtin.Slice.sliceApplied (.ref sl) (pure (n : Int))) Q E s := by
  obtain ⟨os, hos, hcs, hds⟩ := id hs
  unfold Builtin.Slice.sliceApplied Builtin.Slice.sliceFields
  refine wpAny_bind (wpAny_bind (wpAny_field hos hds (x := vl) rfl (wpAny_bind (wpAny_field hos hds (x := vu) rfl (wpAny_bind (wpAny_field hos hds (x := .none) rfl (wpAny_pure ?_)))))))
  refine wpAny_bind (slicePart_none ?_)
  show wpAny _ _ (if ((1 : Int) == 0) = true then _ else _) _ _ s
  rw [if_neg (by decide)]
  refine wpAny_bind (slicePart_ pl (wpAny_bind (slicePart_ pu (wpAny_bind (wpAny_pure ?_)))))
  show wpAny _ _ (match Builtin.Slice.sliceAdjust lo hi 1 (n : Int) with | (lo, hi) => pure (lo, (1 : Int), Builtin.Slice.slicePlaces lo hi 1)) _ _ s
  rw [adjust_gen lo hi n]
  show wpAny _ _ (pure (((sIx n 0 lo : Nat) : Int), (1 : Int), Builtin.Slice.slicePlaces ((sIx n 0 lo : Nat) : Int) ((sIx n n hi : Nat) : Int) 1)) _ _ s
  rw [places_gen]
  exact wpAny_pure h
theorem pick_gen (xs : Array Value) (i k : Nat) : ((List.range k).filterMap fun (m : Nat) => xs[((i : Int) + (m : Int) * 1).toNat]?).toArray = ((xs.toList.drop i).take k).toArray := by
  have e : (fun (m : Nat) => xs[((i : Int) + (m : Int) * 1).toNat]?) = fun m => xs[i + m]? := by
    funext m
    have : ((i : Int) + (m : Int) * 1).toNat = i + m := by omega
    rw [this]
  rw [e]
  have := pick_run xs i k
  rw [List.filterMap_map] at this
  have e2 : ((fun x => xs[x]?) ∘ fun x => i + x) = fun m => xs[i + m]? := rfl
  rw [e2] at this
  rw [this]
theorem getItem_tuple_cut {t sl : Addr} {items : Array Value} {vl vu : Value} {lo hi : Option Int} {Q : Value → Shared → Prop} (ht : IsTup s.heap t items) (hs : s.heap.IsSliceOf sl vl vu .none) (pl : IsPart vl lo) (pu : IsPart vu hi)
    (hw : ¬ (sIx items.size 0 lo = 0 ∧ sIx items.size items.size hi = items.size))
    (h : Q (.ref s.heap.objs.size) { s with heap := s.heap.push { cls := .type "tuple", data := .seq ((items.toList.drop (sIx items.size 0 lo)).take (sIx items.size items.size hi - sIx items.size 0 lo)).toArray } })
    (hsz : items.size ≤ sizeLine) : wpAny (model prog w) A (getItem (.ref t) (.ref sl)) Q E s := by
  have htake : sizeOk (.seq ((items.toList.drop (sIx items.size 0 lo)).take (sIx items.size items.size hi - sIx items.size 0 lo)).toArray) := by
    show ((items.toList.drop (sIx items.size 0 lo)).take (sIx items.size items.size hi - sIx items.size 0 lo)).toArray.size ≤ sizeLine
    rw [List.size_toArray, List.length_take, List.length_drop, Array.length_toList]
    omega
  have hj : sIx items.size items.size hi ≤ items.size := sIx_le _ _ (Nat.le_refl _) hi
  obtain ⟨os, hos, hcs, hds⟩ := id hs
  have hTs : s.TypeIs (.ref sl) "slice" := ⟨os, hos, hcs⟩
  unfold getItem
  try with_reducible refine wpAny_holding ?_
  first | refine wpAny_bind (wpAny_pure ?_) | skip
  refine wpAny_bind (wpAny_sequenceKey ht.typeIs (by decide) ?_)
  refine wpAny_bind (wpAny_callSpecial?_slot (name := Str.ofString "__getitem__") ht.typeIs PyProof.Rows.slot_tuple_getitem
    (wpAny_call_entry PyProof.Rows.slot_tuple_getitem ht.typeIs entry_tuple_getitem ?_ (args_tuple_getitem _ _)))
  show wpAny _ _ (Builtin.Tuple.tupleItemsOf (.ref t) >>= _) _ _ s
  refine wpAny_bind (tupleItemsOf_ ht ?_)
  refine wpAny_bind (wpAny_typeOf hTs ?_)
  rw [if_pos (by decide)]
  refine wpAny_bind (sliceApplied_gen hs pl pu ?_)
  have hno : ¬ ((((sIx items.size 0 lo : Nat) : Int) == 0 && (1 : Int) == 1 && (sIx items.size items.size hi - sIx items.size 0 lo) == items.size) = true) := by
    intro q
    rw [Bool.and_eq_true, Bool.and_eq_true] at q
    have q1 : ((sIx items.size 0 lo : Nat) : Int) = 0 := eq_of_beq q.1.1
    have q2 : sIx items.size items.size hi - sIx items.size 0 lo = items.size := eq_of_beq q.2
    exact hw ⟨by omega, by omega⟩
  show wpAny _ _ (if (((sIx items.size 0 lo : Nat) : Int) == 0 && (1 : Int) == 1 && (sIx items.size items.size hi - sIx items.size 0 lo) == items.size) = true then _ else _) _ _ s
  rw [if_neg hno, pick_gen]
  first
    | exact wpAny_bind (m := Builtin.Tuple.tupleExact _) (wpAny_newObj_type (wpAny_pure ⟨_, rfl, wpAny_pure h⟩) htake)
    | exact wpAny_bind (m := Builtin.Tuple.tupleExact _) (wpAny_newObj_type (wpAny_bind (wpAny_pure (wpAny_pure ⟨_, rfl, wpAny_pure h⟩))) htake)
    | exact wpAny_bind (wpAny_bind (m := Builtin.Tuple.tupleExact _) (wpAny_newObj_type (wpAny_pure (wpAny_pure ⟨_, rfl, wpAny_pure h⟩)) htake))
    | exact wpAny_bind (wpAny_bind (m := Builtin.Tuple.tupleExact _) (wpAny_newObj_type (wpAny_pure ⟨_, rfl, wpAny_pure h⟩) htake))
end
end HT
namespace L2
open PySem PySem.Spec PyProof.Rows
noncomputable abbrev TO := St → Hp → (Option Int → Hp → Prop) → Prop
noncomputable def PO (X : Cx) (e : Option Expr) (t : TO) : Prop :=
  ∀ (pins : List (Addr × Obj)) (s : Shared) (σ : St) (H : Hp) (Q : Option Int → Hp → Prop), Inv X pins σ H s → t σ H Q →
    wpAny (model X.prog X.w) X.A (evalPart e X.env) (fun u s' => ∃ o H', Inv X pins σ H' s' ∧ IsPart u o ∧ Q o H') X.xe s
noncomputable def tNoPart : TO := fun _ H Q => Q none H
noncomputable def tPart (t : TE) : TO := fun σ H Q => t σ H fun x H1 => ∃ i, x = .int i ∧ Q (some i) H1
section
variable {X : Cx} {e : Expr} {te : TE} {lo hi : Option Expr} {tl th : TO} {pos p2 : Pos}
theorem po_none : PO X none tNoPart := by
  intro pins s σ H Q I h
  rw [evalPart_none]
  exact wpAny_pure ⟨none, H, I, .none, h⟩
theorem po_some (h : PE X e te) : PO X (some e) (tPart te) := by
  intro pins s σ H Q I hw
  rw [evalPart_some]
  refine thn (h pins s σ H _ I hw) fun u s1 ⟨x, H1, I1, r1, q1⟩ => ?_
  obtain ⟨i, rfl, q⟩ := q1
  obtain ⟨t, rfl⟩ := r1
  exact ⟨some i, H1, I1, .int i t, q⟩
noncomputable def SlR (X : Cx) (r : V → Option Int → Option Int → Hp → VK → Prop) : Prop :=
  ∀ (pins : List (Addr × Obj)) (s : Shared) (σ : St) (H : Hp) (x : V) (v vl vu : Value) (lo hi : Option Int) (sl : Addr) (Q : VK), Inv X pins σ H s → RelV x v → s.heap.IsSliceOf sl vl vu .none → IsPart vl lo → IsPart vu hi → r x lo hi H Q →
    ∃ T id, typeLookup (.type T) "__getitem__" = pure (some (.builtin id)) ∧ s.TypeIs v T ∧ wpAny (model X.prog X.w) X.A (getItem v (.ref sl)) (EP X pins σ Q) X.xe s
theorem SlR.or {r r' : V → Option Int → Option Int → Hp → VK → Prop} (h : SlR X r) (h' : SlR X r') : SlR X (fun x lo hi H Q => r x lo hi H Q ∨ r' x lo hi H Q) := by
  intro pins s σ H x v vl vu lo hi sl Q I rx hs pl pu q
  rcases q with q | q
  · exact h pins s σ H x v vl vu lo hi sl Q I rx hs pl pu q
  · exact h' pins s σ H x v vl vu lo hi sl Q I rx hs pl pu q
noncomputable def tSl (r : V → Option Int → Option Int → Hp → VK → Prop) (te : TE) (tl th : TO) : TE := fun σ H Q => te σ H fun x H1 => tl σ H1 fun l H2 => th σ H2 fun u H3 => r x l u H3 Q
theorem pe_slice {r : V → Option Int → Option Int → Hp → VK → Prop} (hr : SlR X r) (he : PE X e te) (hl : PO X lo tl) (hu : PO X hi th) : PE X (.Subscript e (.Slice lo hi none p2) pos) (tSl r te tl th) := by
  intro pins s σ H Q I h
  refine Subscript_ (thn (he pins s σ H _ I h) fun v s1 ⟨x, H1, I1, r1, q1⟩ => ?_)
  refine wpAny_Slice (thn (hl pins s1 σ H1 _ I1 q1) fun vl s2 ⟨l, H2, I2, pl, q2⟩ => thn (hu pins s2 σ H2 _ I2 q2) fun vu s3 ⟨u, H3, I3, pu, q3⟩ => ?_)
  rw [evalPart_none]
  refine wpAny_pure ?_
  have I4 : Inv X pins σ H3 { s3 with heap := s3.heap.push { cls := .type "slice", data := .fields #[vl, vu, .none] } } := I3.kept (t' := s3.toks) fun b ob q => Heap.get?_push_of_some _ q
  obtain ⟨T, id, hT, ht, hg⟩ := hr pins { s3 with heap := s3.heap.push { cls := .type "slice", data := .fields #[vl, vu, .none] } } σ H3 x v vl vu l u s3.heap.objs.size Q I4 r1 (Heap.IsSliceOf.new ..) pl pu q3
  show wpAny (model X.prog X.w) X.A (subscriptTail e (.Slice lo hi none p2) v (.ref s3.heap.objs.size)) (EP X pins σ Q) X.xe { s3 with heap := s3.heap.push { cls := .type "slice", data := .fields #[vl, vu, .none] } }
  exact tail_any (ops := [.ref s3.heap.objs.size, v]) ht hT hg (by with_unfolding_all rfl)
noncomputable def cutV (xs : List V) (lo hi : Option Int) : List V := (xs.drop (HT.sIx xs.length 0 lo)).take (HT.sIx xs.length xs.length hi - HT.sIx xs.length 0 lo)
theorem cutV_length (xs : List V) (lo hi : Option Int) : (cutV xs lo hi).length ≤ xs.length := by
  unfold cutV
  rw [List.length_take, List.length_drop]
  omega
noncomputable def rSlT (K : PySem.W.Frag) : V → Option Int → Option Int → Hp → VK → Prop := fun x lo hi H Q => ∃ a xs, x = .ref a ∧ SqT K H a xs ∧
  ¬ (HT.sIx xs.length 0 lo = 0 ∧ HT.sIx xs.length xs.length hi = xs.length) ∧ ∀ p, H p = none → Q (.ref p) (upd H p (.tup (cutV xs lo hi)))
theorem sl_tup : SlR X (rSlT X.K) := by
  intro pins s σ H x v vl vu lo hi sl Q I rx hs pl pu h
  obtain ⟨a, xs, rfl, hx, hw, q⟩ := h
  cases rx
  obtain ⟨its, r, ht, hz⟩ := I.tuple hx
  have hlen : its.toArray.size = xs.length := by rw [List.size_toArray]; exact r.length.symm
  refine ⟨"tuple", _, PyProof.Rows.slot_tuple_getitem.lookup, ht.typeIs, ?_⟩
  refine HT.getItem_tuple_cut ht hs pl pu (by rw [hlen]; exact hw) ?_ (by rw [hlen]; exact hz)
  rw [hlen]
  refine ⟨.ref s.heap.objs.size, _, I.laid (t' := s.toks) (o := .tup (cutV xs lo hi)) (fun b ob q => Heap.get?_push_of_some _ q) (Nat.le_refl _) ?_, rfl, q _ (I.hok.fresh (Nat.le_refl _))⟩
  exact ⟨Nat.le_trans (cutV_length xs lo hi) hz, _, (r.drop (HT.sIx xs.length 0 lo)).take (HT.sIx xs.length xs.length hi - HT.sIx xs.length 0 lo), IsTup.new _ _⟩
noncomputable def rCatT (K : PySem.W.Frag) : R2 := fun x y H Q => ∃ a b xs ys, x = .ref a ∧ y = .ref b ∧ SqT K H a xs ∧ SqT K H b ys ∧ xs ≠ [] ∧ xs.length + ys.length ≤ sizeLine ∧
  (ys = [] → Q (.ref a) H) ∧ (ys ≠ [] → ∀ p, H p = none → Q (.ref p) (upd H p (.tup (xs ++ ys))))
theorem Vals.nil_iff {xs : List V} {us : List Value} (r : Vals xs us) : us = [] ↔ xs = [] := by
  cases r with
  | nil => simp
  | cons _ _ => simp
theorem op_catT : OpR X (binaryOp .Add) (rCatT X.K) := by
  intro pins s σ H x y v u Q I rx ry h
  obtain ⟨a, b, xs, ys, rfl, rfl, ha, hb, hx, hz, q1, q2⟩ := h
  cases rx
  cases ry
  obtain ⟨its, r1, p1, _⟩ := I.tuple ha
  obtain ⟨its2, r2, p2, _⟩ := I.tuple hb
  refine HT.cat_tup p1 p2 (fun z => hx (r1.nil_iff.mp z)) (fun z => ⟨.ref a, H, I, rfl, q1 (r2.nil_iff.mp z)⟩) (fun z => ?_) (by rw [← r1.length, ← r2.length]; exact hz)
  refine ⟨.ref s.heap.objs.size, _, I.laid (t' := s.toks) (o := .tup (xs ++ ys)) (fun b ob q => Heap.get?_push_of_some _ q) (Nat.le_refl _) ?_, rfl, q2 (fun w => z (r2.nil_iff.mpr w)) _ (I.hok.fresh (Nat.le_refl _))⟩
  exact ⟨by rw [List.length_append]; exact hz, _, r1.append r2, IsTup.new _ _⟩
end
end L2
namespace L2
open PySem PySem.Spec PyProof.Rows
noncomputable def ixN (n : Nat) (i : Int) : Option Nat := if 0 ≤ i then (if i < n then some i.toNat else none) else if -(n : Int) ≤ i then some (i + n).toNat else none
noncomputable def atI {α : Type} (xs : List α) (i : Int) : Option α := (ixN xs.length i).bind fun j => xs[j]?
theorem ixN_seq {n : Nat} {i : Int} {j : Nat} (h : ixN n i = some j) : seqIndex? i n = some j ∧ j < n ∧ -(n : Int) ≤ i ∧ i < n := by
  unfold ixN at h
  by_cases h0 : 0 ≤ i
  · rw [if_pos h0] at h
    by_cases h1 : i < n
    · rw [if_pos h1] at h
      have e : i.toNat = j := Option.some.inj h
      exact ⟨by rw [seqIndex_of h0 h1, e], by omega, by omega, h1⟩
    · rw [if_neg h1] at h; cases h
  · rw [if_neg h0] at h
    by_cases h1 : -(n : Int) ≤ i
    · rw [if_pos h1] at h
      have e : (i + n).toNat = j := Option.some.inj h
      exact ⟨by rw [seqIndex_neg (by omega) h1, e], by omega, h1, by omega⟩
    · rw [if_neg h1] at h; cases h
theorem atI_get {α : Type} {xs : List α} {i : Int} {v : α} (h : atI xs i = some v) : ∃ j, seqIndex? i xs.length = some j ∧ xs[j]? = some v ∧ j < xs.length ∧ -(xs.length : Int) ≤ i ∧ i < xs.length := by
  unfold atI at h
  cases e : ixN xs.length i with
  | none => rw [e] at h; cases h
  | some j =>
    rw [e] at h
    obtain ⟨h1, h2, h3, h4⟩ := ixN_seq e
    exact ⟨j, h1, h, h2, h3, h4⟩
theorem atI_nat {α : Type} {xs : List α} {j : Nat} {v : α} (h : xs[j]? = some v) : atI xs (j : Int) = some v := by
  have hj : j < xs.length := (List.getElem?_eq_some_iff.mp h).1
  have e : ixN xs.length (j : Int) = some j := by
    unfold ixN
    rw [if_pos (by omega), if_pos (by omega)]; simp
  unfold atI; rw [e]; exact h
noncomputable def PlainIx (b : Expr) : Prop := ∀ o i, subscripted b false o i = operate [o, i] (getItem o i)
noncomputable def IxR (X : Cx) (r : R2) : Prop :=
  ∀ (value slice : Expr) (pins : List (Addr × Obj)) (s : Shared) (σ : St) (H : Hp) (x y : V) (v u : Value) (Q : VK), Inv X pins σ H s → RelV x v → RelV y u → r x y H Q →
    subscripted slice false v u = operate [v, u] (getItem v u) → wpAny (model X.prog X.w) X.A (subscriptTail value slice v u) (EP X pins σ Q) X.xe s
noncomputable def MtR (X : Cx) (id : String) (r : V → List V → Hp → VK → Prop) : Prop :=
  ∀ (pins : List (Addr × Obj)) (s : Shared) (σ : St) (H : Hp) (x : V) (xs : List V) (v : Value) (us : List Value) (Q : VK), Inv X pins σ H s → RelV x v → Vals xs us → r x xs H Q →
    wpAny (model X.prog X.w) X.A (call (.builtin id) (v :: us)) (EP X pins σ Q) X.xe s
section
variable {X : Cx} {a b : Expr} {ta tb : TE} {pos : Pos}
theorem IxR.or {r r' : R2} (h : IxR X r) (h' : IxR X r') : IxR X (fun x y H Q => r x y H Q ∨ r' x y H Q) := by
  intro value slice pins s σ H x y v u Q I rx ry q hs
  rcases q with q | q
  · exact h value slice pins s σ H x y v u Q I rx ry q hs
  · exact h' value slice pins s σ H x y v u Q I rx ry q hs
theorem MtR.or {id : String} {r r' : V → List V → Hp → VK → Prop} (h : MtR X id r) (h' : MtR X id r') : MtR X id (fun x xs H Q => r x xs H Q ∨ r' x xs H Q) := by
  intro pins s σ H x xs v us Q I rx rs q
  rcases q with q | q
  · exact h pins s σ H x xs v us Q I rx rs q
  · exact h' pins s σ H x xs v us Q I rx rs q
theorem pe_ix {r : R2} (hr : IxR X r) (ha : PE X a ta) (hb : PE X b tb) (hs : PlainIx b) : PE X (.Subscript a b pos) (tOp r ta tb) := by
  intro pins s σ H Q I h
  exact Subscript_ (binT ha hb I h fun v u s2 x y H2 I2 rx ry q => hr a b pins s2 σ H2 x y v u Q I2 rx ry q (hs _ _))
noncomputable def rIxL (K : PySem.W.Frag) : R2 := fun x y H Q => ∃ p xs i v, x = .ref p ∧ y = .int i ∧ SqL K H p xs ∧ atI xs i = some v ∧ Q v H
noncomputable def rIxT (K : PySem.W.Frag) : R2 := fun x y H Q => ∃ p xs i v, x = .ref p ∧ y = .int i ∧ SqT K H p xs ∧ atI xs i = some v ∧ Q v H
noncomputable def rIxS : R2 := fun x y H Q => ∃ z i c, x = .str z ∧ y = .int i ∧ z.length ≤ sizeLine ∧ atI z.cps.toList i = some c ∧ Q (.str ⟨#[c]⟩) H
theorem ix_list : IxR X (rIxL X.K) := by
  intro value slice pins s σ H x y v u Q I rx ry h hs
  obtain ⟨p, xs, i, z, rfl, rfl, hq, he, q⟩ := h
  cases rx
  obtain ⟨t, rfl⟩ := ry
  obtain ⟨its, r, pl, hz⟩ := I.list hq
  obtain ⟨j, h1, h2, h3, h4, h5⟩ := atI_get he
  obtain ⟨w, ew, rw'⟩ := r.get h2
  have hl := r.length
  have hn := line63
  have fin : EP X pins σ Q w s := ⟨z, H, I, rw', q⟩
  by_cases h0 : 0 ≤ i
  · have hj : i.toNat = j := by
      rw [seqIndex_of h0 h5] at h1
      exact Option.some.inj h1
    exact item_listR pl.isList h0 (by omega) (by rw [hj]; simpa using ew) fin hs
  · have hj : (i + (its.toArray.size : Int)).toNat = j := by
      rw [seqIndex_neg (by omega) h4] at h1
      rw [List.size_toArray, ← hl]
      exact Option.some.inj h1
    exact subscriptTail_builtinR (x := w) pl.isList.typeIs slot_list_getitem.lookup
      (wpAny_getItem_list_neg (Q := fun r s' => r = w ∧ EP X pins σ Q r s') pl.isList (by omega) (by rw [List.size_toArray] <;> omega) (by omega) (by rw [hj]; simpa using ew) ⟨rfl, fin⟩) hs
theorem ix_tup : IxR X (rIxT X.K) := by
  intro value slice pins s σ H x y v u Q I rx ry h hs
  obtain ⟨p, xs, i, z, rfl, rfl, hq, he, q⟩ := h
  cases rx
  obtain ⟨t, rfl⟩ := ry
  obtain ⟨its, r, pl, hz⟩ := I.tuple hq
  obtain ⟨j, h1, h2, h3, h4, h5⟩ := atI_get he
  obtain ⟨w, ew, rw'⟩ := r.get h2
  have hl := r.length
  have hn := line63
  have fin : EP X pins σ Q w s := ⟨z, H, I, rw', q⟩
  exact subscriptTail_builtinR (x := w) pl.typeIs slot_tuple_getitem.lookup
    (getItem_tuple (j := j) (Q := fun r s' => r = w ∧ EP X pins σ Q r s') pl (by omega) (by omega) (by rw [List.size_toArray, ← hl]; exact h1) (by simpa using ew) ⟨rfl, fin⟩) hs
theorem ix_str : IxR X rIxS := by
  intro value slice pins s σ H x y v u Q I rx ry h hs
  obtain ⟨z, i, c, rfl, rfl, hz, he, q⟩ := h
  obtain ⟨t, rfl⟩ := rx
  obtain ⟨t', rfl⟩ := ry
  obtain ⟨j, h1, h2, h3, h4, h5⟩ := atI_get he
  have hl : z.cps.toList.length = z.length := by simp [Str.length]
  rw [hl] at h1 h4 h5
  have hn := line63
  exact tail_any (typeIs_str s z t) slot_str_getitem.lookup (getItem_str (c := c) (by
    have e1 : decide (i < -(2 ^ 63 : Int)) = false := decide_eq_false (by omega)
    have e2 : decide (i ≥ 2 ^ 63) = false := decide_eq_false (by omega)
    rw [e1, e2, Bool.or_false]) (by rw [h1]; simpa using h2) ⟨.str ⟨#[c]⟩, H, I.tok _, ⟨_, rfl⟩, q⟩) hs
noncomputable def rIx (K : PySem.W.Frag) : R2 := fun x y H Q => rIxL K x y H Q ∨ rIxT K x y H Q ∨ rIxS x y H Q
theorem ix_seq : IxR X (rIx X.K) := ix_list.or (ix_tup.or ix_str)
theorem mapSeq_set (its : List Value) (n j : Nat) (u : Value) : Obj.mapSeq (·.setIfInBounds j u) { cls := .type "list", data := .seq its.toArray n } = { cls := .type "list", data := .seq (its.set j u).toArray n } := by
  simp [Obj.mapSeq]
theorem Inv.lst {pins : List (Addr × Obj)} {σ : St} {H : Hp} {s : Shared} {p : Addr} {xs : List V} (I : Inv X pins σ H s) (h : H p = some (.lst xs)) :
    ∃ (its : List Value) (n : Nat), Vals xs its ∧ s.heap.get? p = some { cls := .type "list", data := .seq its.toArray n } ∧ xs.length ≤ sizeLine := by
  obtain ⟨z, its, n, r, e⟩ := I.hok p _ h
  exact ⟨its, n, r, e, z⟩
theorem Inv.lstUpd {pins : List (Addr × Obj)} {σ : St} {H : Hp} {s : Shared} {p : Addr} {xs ys : List V} {its its' : List Value} {n n' : Nat} {f : Obj → Obj} (I : Inv X pins σ H s) (h : H p = some (.lst xs))
    (ho : s.heap.get? p = some { cls := .type "list", data := .seq its.toArray n }) (hf : f { cls := .type "list", data := .seq its.toArray n } = { cls := .type "list", data := .seq its'.toArray n' }) (r : Vals ys its') (hz : ys.length ≤ sizeLine) (t : Nat) :
    Inv X pins σ (upd H p (.lst ys)) { s with heap := s.heap.update p f, toks := t } := by
  have e : (s.heap.update p f).get? p = some { cls := .type "list", data := .seq its'.toArray n' } := by
    rw [Heap.get?_update_self f ho (by rw [hf] <;> rfl), hf]
  refine I.write (x := p) (e := p) (by rw [h]; trivial) (.inl rfl) (fun b u hb q => (Heap.get?_update_other _ _ (Ne.symm hb)).trans q) ⟨_, e⟩ ?_
  exact ⟨hz, its', n', r, e⟩
noncomputable def rSetL : V → V → V → Hp → (Hp → Prop) → Prop := fun o i v H Q => ∃ p xs k j, o = .ref p ∧ i = .int k ∧ H p = some (.lst xs) ∧ ixN xs.length k = some j ∧ Q (upd H p (.lst (xs.set j v)))
theorem set_list : PSet X rSetL := by
  intro pins s σ H o i v ov iv u Q I ro ri rv h
  obtain ⟨p, xs, k, j, rfl, rfl, hp, hj, q⟩ := h
  cases ro
  obtain ⟨t, rfl⟩ := ri
  obtain ⟨its, n, r, ho, hz⟩ := I.lst hp
  obtain ⟨h1, h2, h3, h4⟩ := ixN_seq hj
  have hl := r.length
  have hn := line63
  have I' : Inv X pins σ (upd H p (.lst (xs.set j v))) { s with heap := s.heap.update p (Obj.mapSeq (·.setIfInBounds j u)) } :=
    I.lstUpd hp ho (mapSeq_set its n j u) (r.set rv j) (by rw [List.length_set]; exact hz) s.toks
  by_cases h0 : 0 ≤ k
  · have hk : k.toNat = j := by
      rw [seqIndex_of h0 h4] at h1
      exact Option.some.inj h1
    exact PySem.W.ki_setAt ho h0 (by omega) (by rw [List.size_toArray, ← hl]; exact h4) (by rw [hk]; exact ⟨_, I', q⟩)
  · have hk : (k + (its.toArray.size : Int)).toNat = j := by
      rw [seqIndex_neg (by omega) h3] at h1
      rw [List.size_toArray, ← hl]
      exact Option.some.inj h1
    exact PySem.W.ki_setBack ho (by omega) (by rw [List.size_toArray, ← hl]; exact h3) (by omega) (by rw [hk]; exact ⟨_, I', q⟩)
theorem slice_bounds (lo hi : Option Int) (n : Nat) : (sliceBounds lo hi none n).1 = ((HT.sIx n 0 lo : Nat) : Int) ∧ (sliceBounds lo hi none n).2.1 = ((HT.sIx n n hi : Nat) : Int) ∧ (sliceBounds lo hi none n).2.2 = 1 := by
  refine ⟨?_, ?_, rfl⟩
  · cases lo with
    | none => simp [sliceBounds, HT.sIx]
    | some i =>
      simp only [sliceBounds, HT.sIx, Option.getD_none, show (1 : Int) > 0 by decide, if_true]
      by_cases h : i < 0
      · simp only [h, if_true] <;> omega
      · simp only [h, if_false] <;> omega
  · cases hi with
    | none => simp [sliceBounds, HT.sIx]
    | some i =>
      simp only [sliceBounds, HT.sIx, Option.getD_none, show (1 : Int) > 0 by decide, if_true]
      by_cases h : i < 0
      · simp only [h, if_true] <;> omega
      · simp only [h, if_false] <;> omega
theorem slicePick_cut (its : List Value) (lo hi : Option Int) : slicePick its.toArray lo hi none = ((its.drop (HT.sIx its.length 0 lo)).take (HT.sIx its.length its.length hi - HT.sIx its.length 0 lo)).toArray := by
  obtain ⟨h1, h2, h3⟩ := slice_bounds lo hi its.toArray.size
  unfold slicePick
  rw [h1, h2, h3]
  simp only [sliceRange_one, pick_run, List.size_toArray] <;> rfl
noncomputable def rSlL (K : PySem.W.Frag) : V → Option Int → Option Int → Hp → VK → Prop := fun x lo hi H Q => ∃ a xs, x = .ref a ∧ SqL K H a xs ∧ ∀ p, H p = none → Q (.ref p) (upd H p (.lst (cutV xs lo hi)))
theorem sl_list : SlR X (rSlL X.K) := by
  intro pins s σ H x v vl vu lo hi sl Q I rx hs pl pu h
  obtain ⟨a, xs, rfl, hx, q⟩ := h
  cases rx
  obtain ⟨its, r, ht, hz⟩ := I.list hx
  have hlen := r.length
  refine ⟨"list", _, slot_list_getitem.lookup, ht.isList.typeIs, ?_⟩
  refine wpAny_getItem_list_slice ht.isList hs pl pu .none (by simp) ?_ (by rw [List.size_toArray] <;> omega)
  rw [slicePick_cut, ← hlen]
  refine ⟨.ref s.heap.objs.size, _, I.laid (t' := s.toks) (o := .lst (cutV xs lo hi)) (fun b ob q => Heap.get?_push_of_some _ q) (Nat.le_refl _) ?_, rfl, q _ (I.hok.fresh (Nat.le_refl _))⟩
  exact ⟨Nat.le_trans (cutV_length xs lo hi) hz, _, 0, (r.drop (HT.sIx xs.length 0 lo)).take (HT.sIx xs.length xs.length hi - HT.sIx xs.length 0 lo), Heap.get?_push_size _ rfl⟩
noncomputable def flatV : V → Bool
  | .non => true
  | .bl _ => true
  | .int _ => true
  | .str _ => true
  | _ => false
noncomputable def eqV : V → V → Bool
  | .non, .non => true
  | .bl a, .bl b => a == b
  | .bl a, .int b => (if a then 1 else 0) == b
  | .int a, .bl b => a == (if b then 1 else 0)
  | .int a, .int b => a == b
  | .str a, .str b => a == b
  | _, _ => false
theorem eqAt_V {A : Around} {s : Shared} {y x : V} {u v : Value} (ry : RelV y u) (rx : RelV x v) (fy : flatV y = true) (fx : flatV x = true) : SeqAt.EqAt A s u v (eqV y x) := by
  cases y with
  | non =>
    cases ry
    cases x with
    | non => cases rx; exact SeqAt.EqAt.same _
    | bl b => cases rx; exact SeqAt.EqAt.none_bool b
    | int b => obtain ⟨t, rfl⟩ := rx; exact SeqAt.EqAt.none_int b t
    | str b => obtain ⟨t, rfl⟩ := rx; exact SeqAt.EqAt.none_str b t
    | _ => exact absurd (show false = true from fx) Bool.false_ne_true
  | bl a =>
    cases ry
    cases x with
    | non => cases rx; exact SeqAt.EqAt.bool_none a
    | bl b => cases rx; exact SeqAt.EqAt.bool_bool a b
    | int b => obtain ⟨t, rfl⟩ := rx; exact SeqAt.EqAt.bool_int a b t
    | str b => obtain ⟨t, rfl⟩ := rx; exact SeqAt.EqAt.bool_str a b t
    | _ => exact absurd (show false = true from fx) Bool.false_ne_true
  | int a =>
    obtain ⟨t', rfl⟩ := ry
    cases x with
    | non => cases rx; exact SeqAt.EqAt.int_none a t'
    | bl b => cases rx; exact SeqAt.EqAt.int_bool a t' b
    | int b => obtain ⟨t, rfl⟩ := rx; exact SeqAt.EqAt.int_int a t' b t
    | str b => obtain ⟨t, rfl⟩ := rx; exact SeqAt.EqAt.int_str a t' b t
    | _ => exact absurd (show false = true from fx) Bool.false_ne_true
  | str a =>
    obtain ⟨t', rfl⟩ := ry
    cases x with
    | non => cases rx; exact SeqAt.EqAt.str_none a t'
    | bl b => cases rx; exact SeqAt.EqAt.str_bool a t' b
    | int b => obtain ⟨t, rfl⟩ := rx; exact SeqAt.EqAt.str_int a t' b t
    | str b => obtain ⟨t, rfl⟩ := rx; exact SeqAt.EqAt.str_str a t' b t
    | _ => exact absurd (show false = true from fx) Bool.false_ne_true
  | _ => exact absurd (show false = true from fy) Bool.false_ne_true
noncomputable def eqU (x : V) (u : Value) : Bool := match u with
  | .none => eqV .non x
  | .bool b => eqV (.bl b) x
  | .int i _ => eqV (.int i) x
  | .str z _ => eqV (.str z) x
  | _ => false
theorem eqU_of {x y : V} {u : Value} (r : RelV y u) (f : flatV y = true) : eqU x u = eqV y x := by
  cases y with
  | non => cases r; rfl
  | bl b => cases r; rfl
  | int i => obtain ⟨t, rfl⟩ := r; rfl
  | str z => obtain ⟨t, rfl⟩ := r; rfl
  | _ => exact absurd (show false = true from f) Bool.false_ne_true
theorem any_eqU {x : V} : ∀ {xs : List V} {us : List Value}, Vals xs us → xs.all flatV = true → us.any (eqU x) = xs.any fun y => eqV y x
  | _, _, .nil, _ => rfl
  | y :: xs, u :: us, .cons r t, f => by
    rw [List.all_cons, Bool.and_eq_true] at f
    rw [List.any_cons, List.any_cons, eqU_of r f.1, any_eqU t f.2]
theorem mem_eqAt {A : Around} {s : Shared} {x : V} {v : Value} (rx : RelV x v) (fx : flatV x = true) : ∀ {xs : List V} {us : List Value}, Vals xs us → xs.all flatV = true → ∀ u ∈ us, SeqAt.EqAt A s u v (eqU x u)
  | _, _, .nil, _ => fun u hu => by cases hu
  | y :: xs, u :: us, .cons r t, f => fun u' hu => by
    rw [List.all_cons, Bool.and_eq_true] at f
    rcases List.mem_cons.mp hu with rfl | hu
    · rw [eqU_of r f.1]; exact eqAt_V r rx f.1 fx
    · exact mem_eqAt rx fx t f.2 u' hu
noncomputable def inV (x : V) (xs : List V) : Bool := xs.any fun y => eqV y x
noncomputable def rIn (K : PySem.W.Frag) (neg : Bool) : R2 := fun x y H Q => ∃ p xs, y = .ref p ∧ (SqL K H p xs ∨ SqT K H p xs) ∧ flatV x = true ∧ xs.all flatV = true ∧ Q (.bl (if neg then !inV x xs else inV x xs)) H
theorem op_in_seq : OpR X (compareOp .In) (rIn X.K false) := by
  intro pins s σ H x y v u Q I rx ry h
  obtain ⟨p, xs, rfl, hq, fx, fs, q⟩ := h
  cases ry
  rcases hq with hq | hq
  · obtain ⟨its, r, pl, hz⟩ := I.list hq
    refine SeqAt.in_listAt (eqU x) pl.isList (fun w hw => mem_eqAt rx fx r fs w (by simpa using hw)) ⟨.bl _, H, I, rfl, ?_⟩
    rw [show its.toArray.any (eqU x) = its.any (eqU x) by simp, any_eqU r fs]
    exact q
  · obtain ⟨its, r, pl, hz⟩ := I.tuple hq
    refine SeqAt.in_tupleAt (eqU x) pl (fun w hw => mem_eqAt rx fx r fs w (by simpa using hw)) ⟨.bl _, H, I, rfl, ?_⟩
    rw [show its.toArray.any (eqU x) = its.any (eqU x) by simp, any_eqU r fs]
    exact q
theorem call_len_seq : CallR X (.builtin "len") (fun xs H Q => ∃ p ys, xs = [.ref p] ∧ (SqL X.K H p ys ∨ SqT X.K H p ys) ∧ Q (.int ys.length) H) := by
  intro pins s σ H xs us Q I r h
  obtain ⟨p, ys, rfl, hq, q⟩ := h
  obtain ⟨u, rfl, rx⟩ := vals1 r
  cases rx
  have hn := line63
  rcases hq with hq | hq
  · obtain ⟨its, r', pl, hz⟩ := I.list hq
    have hlen := r'.length
    exact Calls.call_len_list pl.isList (by simp only [List.size_toArray] <;> omega) ⟨.int ys.length, H, I.tok _, ⟨s.toks + 1, by rw [List.size_toArray, hlen]⟩, q⟩
  · obtain ⟨its, r', pl, hz⟩ := I.tuple hq
    have hlen := r'.length
    exact len_tuple pl (by simp only [List.size_toArray] <;> omega) ⟨.int ys.length, H, I.tok _, ⟨s.toks + 1, by rw [List.size_toArray, hlen]⟩, q⟩
theorem call_len_str : CallR X (.builtin "len") (fun xs H Q => ∃ z, xs = [.str z] ∧ z.length ≤ sizeLine ∧ Q (.int z.length) H) := by
  intro pins s σ H xs us Q I r h
  obtain ⟨z, rfl, hz, q⟩ := h
  obtain ⟨u, rfl, t, rfl⟩ := vals1 r
  have hn := line63
  exact len_str (by omega) ⟨.int z.length, H, I.tok _, ⟨_, rfl⟩, q⟩
theorem CallR.or {f : Value} {r r' : List V → Hp → VK → Prop} (h : CallR X f r) (h' : CallR X f r') : CallR X f (fun xs H Q => r xs H Q ∨ r' xs H Q) := by
  intro pins s σ H xs us Q I rs q
  rcases q with q | q
  · exact h pins s σ H xs us Q I rs q
  · exact h' pins s σ H xs us Q I rs q
theorem call_list_of : CallR X (.type "list") (fun xs H Q => ∃ p ys, xs = [.ref p] ∧ (SqL X.K H p ys ∨ SqT X.K H p ys) ∧ ∀ l, H l = none → Q (.ref l) (upd H l (.lst ys))) := by
  intro pins s σ H xs us Q I r h
  obtain ⟨p, ys, rfl, hq, q⟩ := h
  obtain ⟨u, rfl, rx⟩ := vals1 r
  cases rx
  have fin : ∀ (its : List Value), Vals ys its → ys.length ≤ sizeLine → ∀ (h' : Heap) (c' : Nat), (∀ b o', s.heap.get? b = some o' → h'.get? b = some o') →
      h'.get? s.heap.objs.size = some { cls := .type "list", dict := none, data := .seq its.toArray c', slots := #[] } → EP X pins σ Q (.ref s.heap.objs.size) { s with heap := h' } := fun its r' hz h' c' kp e =>
    ⟨.ref s.heap.objs.size, _, I.laid (t' := s.toks) kp (Nat.le_refl _) (show ObjOk X.prog X.w _ h' _ (.lst ys) from ⟨hz, its, c', r', e⟩), rfl, q _ (I.hok.fresh (Nat.le_refl _))⟩
  rcases hq with hq | hq
  · obtain ⟨its, r', pl, hz⟩ := I.list hq
    have hlen := r'.length
    obtain ⟨o, ho, hc, n, hd⟩ := pl.isList
    exact call_list_seq p (.inl rfl) ho hc hd (fun h' c' kp e => fin its r' hz h' c' kp e) (by simp only [List.size_toArray] <;> omega)
  · obtain ⟨its, r', pl, hz⟩ := I.tuple hq
    have hlen := r'.length
    obtain ⟨o, ho, hc, n, hd⟩ := pl
    exact call_list_seq p (.inr rfl) ho hc hd (fun h' c' kp e => fin its r' hz h' c' kp e) (by simp only [List.size_toArray] <;> omega)
theorem call_tuple_of : CallR X (.type "tuple") (fun xs H Q => ∃ p ys, xs = [.ref p] ∧ ((SqL X.K H p ys ∧ ∀ l, H l = none → Q (.ref l) (upd H l (.tup ys))) ∨ (SqT X.K H p ys ∧ Q (.ref p) H))) := by
  intro pins s σ H xs us Q I r h
  obtain ⟨p, ys, rfl, h⟩ := h
  obtain ⟨u, rfl, rx⟩ := vals1 r
  cases rx
  rcases h with ⟨hq, q⟩ | ⟨hq, q⟩
  · obtain ⟨its, r', pl, hz⟩ := I.list hq
    have hlen := r'.length
    refine call_tuple_list pl.isList (fun h' kp => ?_) (by simp only [List.size_toArray] <;> omega)
    have I1 : Inv X pins σ H { s with heap := h' } := I.kept (t' := s.toks) kp
    have I2 : Inv X pins σ (upd H h'.objs.size (.tup ys)) { s with heap := h'.push { cls := .type "tuple", data := .seq its.toArray } } :=
      I1.laid (t' := s.toks) (fun b o e => Heap.get?_push_of_some _ e) (Nat.le_refl _) (show ObjOk X.prog X.w _ _ _ (.tup ys) from ⟨hz, its, r', IsTup.new _ _⟩)
    exact ⟨.ref h'.objs.size, _, I2, rfl, q _ (I1.hok.fresh (Nat.le_refl _))⟩
  · obtain ⟨its, r', pl, hz⟩ := I.tuple hq
    exact call_tuple_same pl ⟨.ref p, H, I, rfl, q⟩
noncomputable def tyV (K : PySem.W.Frag) (T : String) (x : V) (H : Hp) : Prop := match x with
  | .str _ => T = "str"
  | .int _ => T = "int"
  | .ref p => (T = "list" ∧ ∃ xs, SqL K H p xs) ∨ (T = "tuple" ∧ ∃ o, K.lookup p = some o ∧ o.cls = .type "tuple" ∧ o.dict = none) ∨
      (T = "dict" ∧ ((∃ kvs, H p = some (.dK kvs)) ∨ ∃ kvs, H p = some (.dT kvs))) ∨ (T = "set" ∧ ∃ S n, H p = some (.set S n))
  | _ => False
theorem tyV_is {pins : List (Addr × Obj)} {σ : St} {H : Hp} {s : Shared} {T : String} {x : V} {v : Value} (I : Inv X pins σ H s) (r : RelV x v) (ty : tyV X.K T x H) :
    s.TypeIs v T ∧ ∀ a, v = .ref a → ∃ ob, s.heap.get? a = some ob ∧ ob.dict = none := by
  cases x with
  | str z =>
    obtain ⟨t, rfl⟩ := r
    cases (show T = "str" from ty)
    exact ⟨typeIs_str s z t, fun _ e => nomatch e⟩
  | int i =>
    obtain ⟨t, rfl⟩ := r
    cases (show T = "int" from ty)
    exact ⟨typeIs_int s i t, fun _ e => nomatch e⟩
  | ref p =>
    cases r
    rcases ty with ⟨rfl, xs, hq⟩ | ⟨rfl, o, hk, hc, hd⟩ | ⟨rfl, hk⟩ | ⟨rfl, S, n, hk⟩
    · obtain ⟨its, _, pl, _⟩ := I.list hq
      refine ⟨pl.isList.typeIs, fun a e => ?_⟩
      cases e
      obtain ⟨o, n, e, c, hd, _⟩ := pl
      exact ⟨o, e, hd⟩
    · refine ⟨⟨o, I.kIn p o hk, hc⟩, fun a e => ?_⟩
      cases e
      exact ⟨o, I.kIn _ o hk, hd⟩
    · have z : ∃ o, s.heap.get? p = some o ∧ o.ExactDict := by
        rcases hk with ⟨kvs, hk⟩ | ⟨kvs, hk⟩
        · obtain ⟨_, _, _, _, o, _, _, e, ex, _⟩ := I.hok p _ hk
          exact ⟨o, e, ex⟩
        · obtain ⟨_, _, _, _, o, _, _, e, ex, _⟩ := I.hok p _ hk
          exact ⟨o, e, ex⟩
      obtain ⟨o, e, ex⟩ := z
      refine ⟨⟨o, e, ex.1⟩, fun a e2 => ?_⟩
      cases e2
      exact ⟨o, e, ex.2.1⟩
    · obtain ⟨o, _, _, _, e, ex, _⟩ := I.hok p _ hk
      refine ⟨⟨o, e, ex.1⟩, fun a e2 => ?_⟩
      cases e2
      exact ⟨o, e, ex.2.1⟩
  | _ => exact False.elim ty
noncomputable def tBM (K : PySem.W.Frag) (T : String) (r : V → List V → Hp → VK → Prop) (to : TE) (t : TA) : TE := fun σ H Q => to σ H fun x H1 => tyV K T x H1 ∧ t σ H1 fun xs H2 => r x xs H2 Q
variable {o e : Expr} {es : List Expr} {to : TE} {t : TA} {name : Str} {apos cpos : Pos} {T id : String} {r : V → List V → Hp → VK → Prop}
theorem pe_bm (pa : PlainAttrs T) (slot : Slot T name id) (hty : typeOf (.builtin id) = pure (.type "method_descriptor")) (hm : MtR X id r) (ho : PE X o to) (ha : PA X (e :: es) t)
    (hbase : attributeBase o name X.env (eval o X.env) = eval o X.env := by rfl)
    (hfew : ((backTo cpos (starEach (e :: es) X.env)).all (fun x => !x.1) && (backToKw cpos (keywordEach [] X.env)).all (fun x => x.1.isSome)
      && decide ((e :: es).length + ([] : List Keyword).length + (if ([] : List Keyword).isEmpty then 0 else 1) < 30)) = true := by rfl)
    (hline : (apos.endLine == cpos.line) = true := by rfl) (hs : starEach (e :: es) X.env = (false, eval e X.env) :: starEach es X.env := by rfl) (hplain : (backTo cpos (starEach es X.env)).any (·.1) = false := by rfl) :
    PE X (.Call (.Attribute o name apos) (e :: es) [] cpos) (tBM X.K T r to t) := by
  intro pins s σ H Q I h
  refine wpAny_Call_method_late hbase hfew hline rfl (thn (ho pins s σ H _ I h) fun v s1 ⟨x, H1, I1, r1, ty, q1⟩ => ?_)
  obtain ⟨h1, h2⟩ := tyV_is I1 r1 ty
  refine ⟨T, id, pa, slot, hty, h1, h2, ?_⟩
  have hA := ha cpos pins s1 σ H1 _ I1 q1
  rw [hs] at hA ⊢
  refine Calls.callWith_builtin (by show (false || (backTo cpos (starEach es X.env)).any (·.1)) = false; rw [hplain] <;> rfl) (Calls.evalArgs_plain ?_)
  exact thn hA fun us s2 ⟨vs, H2, I2, r2, q2⟩ => hm pins s2 σ H2 x vs v us Q I2 r1 r2 q2
/- xs.append(e), list.index on a module's tuple .. are MtR facts of 06m -/
end
end L2
namespace L2
open PySem PySem.Spec PyProof.Rows
noncomputable def MtM (X : Cx) (id : String) (r : V → List V → Hp → VK → Prop) : Prop :=
  ∀ (pins : List (Addr × Obj)) (s : Shared) (σ : St) (H : Hp) (x : V) (xs : List V) (v : Value) (us : List Value) (Q : VK), Inv X pins σ H s → RelV x v → Vals xs us → r x xs H Q →
    wpAny (model X.prog X.w) X.A (call (.builtin id) (v :: us)) (EP X pins σ Q) X.xe s
theorem Vals.one : ∀ {x : V} {us : List Value}, Vals [x] us → ∃ u, us = [u] ∧ RelV x u := fun h => vals1 h
theorem Vals.two : ∀ {x y : V} {us : List Value}, Vals [x, y] us → ∃ u v, us = [u, v] ∧ RelV x u ∧ RelV y v := fun h => vals2 h
theorem Vals.zero : ∀ {us : List Value}, Vals [] us → us = []
  | _, .nil => rfl
theorem Vals.rep {xs : List V} {us : List Value} (h : Vals xs us) : ∀ k : Nat, Vals (List.replicate k xs).flatten (List.replicate k us).flatten
  | 0 => .nil
  | k + 1 => by
    rw [List.replicate_succ, List.replicate_succ, List.flatten_cons, List.flatten_cons]
    exact Vals.append h (Vals.rep h k)
section
variable {X : Cx} {pins : List (Addr × Obj)} {σ : St} {H : Hp} {s : Shared} {l b : Addr} {xs ys zs : List V}
theorem Inv.lset {its its' : List Value} {n : Nat} {f : Array Value → Array Value} {t' : Nat} (I : Inv X pins σ H s) (hH : H l = some (.lst xs))
    (e : s.heap.get? l = some { cls := .type "list", data := .seq its.toArray n }) (hf : f its.toArray = its'.toArray) (hv : Vals ys its') (hz : ys.length ≤ sizeLine) :
    Inv X pins σ (upd H l (.lst ys)) { s with heap := s.heap.update l (Obj.mapSeq f), toks := t' } := by
  have q := PySem.IsL.update e f
  rw [hf] at q
  refine I.write (x := l) (e := l) (by rw [hH]; exact trivial) (.inl rfl) (fun b' u hb hu => (Heap.get?_update_other s.heap (Obj.mapSeq f) (Ne.symm hb)).trans hu) ⟨_, q⟩ ?_
  exact ⟨hz, its', _, hv, q⟩
theorem Inv.lnew {its : List Value} {t' : Nat} (I : Inv X pins σ H s) (hv : Vals ys its) (hz : ys.length ≤ sizeLine) :
    Inv X pins σ (upd H s.heap.objs.size (.lst ys)) { s with heap := s.heap.push { cls := .type "list", data := .seq its.toArray }, toks := t' } :=
  I.laid (fun _ _ q => Heap.get?_push_of_some _ q) (Nat.le_refl _) ⟨hz, its, 0, hv, Heap.get?_push_size _ rfl⟩
theorem Inv.fresh (I : Inv X pins σ H s) : H s.heap.objs.size = none := I.hok.fresh (Nat.le_refl _)
theorem Inv.lstM (I : Inv X pins σ H s) (hH : H l = some (.lst xs)) : xs.length ≤ sizeLine ∧ ∃ (its : List Value) (n : Nat), Vals xs its ∧ xs.length = its.length ∧ s.heap.get? l = some { cls := .type "list", data := .seq its.toArray n } := by
  obtain ⟨z, its, n, r, e⟩ := I.hok l _ hH
  exact ⟨z, its, n, r, r.length, e⟩
end
section
variable {X : Cx}
noncomputable def rAppend : V → List V → Hp → VK → Prop := fun x vs H Q => ∃ l xs y, x = .ref l ∧ vs = [y] ∧ H l = some (.lst xs) ∧ xs.length < sizeLine ∧ Q .non (upd H l (.lst (xs ++ [y])))
theorem mt_append : MtM X "list.append" rAppend := by
  intro pins s σ H x vs v us Q I rx rv h
  obtain ⟨l, xs, y, rfl, rfl, hH, hz, q⟩ := h
  cases rx
  obtain ⟨u, rfl, ru⟩ := rv.one
  obtain ⟨z, its, n, r, hl, e⟩ := I.lstM hH
  refine call_meets F.slot_list_append ⟨_, e, rfl⟩ F.entry_list_append (F.args_list_append_2 _ _) (PySem.list_append l its.toArray n u (by rw [List.size_toArray]; omega)) ⟨e, ?_⟩
  refine ⟨.non, _, I.lset (its' := its ++ [u]) hH e (by simp) (r.append (.cons ru .nil)) ?_, rfl, q⟩
  rw [List.length_append, List.length_singleton]
  omega
end
section
variable {prog : Program} {w : World} {A : Around} {E : Value → Shared → Prop} {s : Shared}
end
section
variable {X : Cx}
end
end L2
namespace Att
open PySem PySem.W PySem.Calls PyProof.Rows
theorem ints_of_wellAll {P : Params} {h : Heap} : ∀ (ns : List Int) (vs : List Value), WellAll P h vs (ns.map WData.int) → IntsAre vs ns := by
  intro ns
  induction ns with
  | nil =>
    intro vs w
    rw [List.map_nil] at w
    cases w
    exact .nil
  | cons n ns ih =>
    intro vs w
    rw [List.map_cons] at w
    cases w with
    | cons a b =>
      cases a
      exact .cons _ _ (ih _ b)
theorem script_of {l : OpenLaw} {n : Nat} (hn : l.most = some n) {P : Params} {h : Heap} {args : List WData} {vals : List Value}
    (hpre : l.row.toRowW.claim.pre args = true) (hwl : WellAll P h vals args) :
    ∃ a vs ns, vals = [Value.ref a] ∧ args = [WData.list (ns.map WData.int)] ∧ h.get? a = some { cls := .type "list", data := .seq vs.toArray } ∧ IntsAre vs ns ∧ ns.length ≤ n := by
  have hsh : WShape.hasAll [] args [.list .int] = true := (pre_splitW hpre).1
  have hc : l.pre.holds [] { args := args } = true := (pre_splitW hpre).2
  obtain ⟨d, r, rfl, h1, h2⟩ := hasAllW_cons hsh
  obtain rfl := hasAllW_nil h2
  obtain ⟨xs, rfl, h3⟩ := hasW_list h1
  obtain ⟨ns, rfl⟩ := items_int h3
  have hlen : ns.length ≤ n := by
    unfold OpenLaw.pre at hc
    have h4 : (WTm.not (.lt (.lit (.int (n : Int))) (.len (.arg 0)))).holds [] { args := [.list (ns.map .int)] } = true := by
      have h4 := (holds_andW hc).1
      rw [hn] at h4
      exact h4
    have h5 := condW_of h4 (w_not (w_lt w_lit (w_len_list (w_arg rfl))))
    rw [List.length_map] at h5
    refine Nat.le_of_not_lt fun q => ?_
    have q' : (n : Int) < ((ns.length : Nat) : Int) := by omega
    first
      | (rw [decide_eq_true q'] at h5; exact absurd h5 (by decide))
      | (simp at h5; omega)
  cases hwl with
  | cons w1 w2 =>
    cases w2
    cases w1 with
    | list ho hall => exact ⟨_, _, ns, rfl, rfl, ho, ints_of_wellAll ns _ hall, hlen⟩
theorem post_true (l : OpenLaw) (args : List WData) : l.row.toRowW.claim.post args (.bool true) args = true :=
  postW_of (r := l.row.toRowW) (X := (true == true))
    (show WShape.has [] (.bool true) .bool = true by first | rfl | decide | simp [WShape.has, WShape.arms, WShape.armsAll])
    (show (WTm.eq .res (.lit (.bool true))).value [] { args := args, res := some (.bool true), after := args } = some (.bool (true == true)) from w_eq_bool (w_res rfl) w_lit) rfl
theorem attach_call {l : OpenLaw} {n : Nat} {q : Program} {loose : List Str} {XP : (Str → Option Value) → Heap → Prop} {YP : World → Heap → Prop} {d : DefRec}
    (hn : l.most = some n) (hdf : d.params.defaults = [])
    (call : ∀ (w : World) (s₀ s₁ : Shared) (mg mb : Str → Option Value) (fa : Addr) (o : Obj) (pm cd doc : Value) (a : Addr) (vs : List Value) (ns : List Int),
      Ground q loose [] XP w s₀ mg mb s₁.heap → YP w s₁.heap →
      s₁.heap.get? fa = some o → o.data = .func (docDef d.name d.params d.body d.scope pm cd doc) → s₁.heap.CodeRec cd d.name → mg d.name = some (.ref fa) →
      s₁.heap.get? a = some { cls := .type "list", data := .seq vs.toArray } → IntsAre vs ns → ns.length ≤ n → s₁.gens = #[] →
      codeAny (model l.prog w) callerA (.call (.ref fa) ⟨[.ref a], []⟩) (fun r s' => r = .ok (.ret (.bool true)) ∧ OldK s₁.heap s'.heap ∧ s'.os = s₁.os ∧ AllBare s'.gens) s₁) :
    WalkO q loose XP YP l.row.toRowW d [] (fun f vs => PySem.call f vs) := by
  intro w s₀ s₁ mg mb G Y fa o pm cd doc dV kV ho hd hcd hD hmg hg args vals as hpre hlay hrd hwl hlo
  obtain rfl : dV = .none := Dflts.none hD hdf
  obtain rfl : kV = .none := Dflts.noKw hD
  obtain ⟨a, vs, ns, rfl, rfl, hobj, hints, hlen⟩ := script_of hn hpre hwl
  refine enter_call (codeAny_mono (call w s₀ s₁ mg mb fa o pm cd doc a vs ns G Y ho (fd_plain hd) hcd hmg hobj hints hlen hg) fun r s' hq => ?_)
  obtain ⟨rfl, h2, h3, h4⟩ := hq
  exact ⟨.inl ⟨.bool true, .bool true, [], rfl, fun _ => rfl, .bool true, post_true l _, fun _ => ⟨List.Pairwise.nil, fun _ hm => (nomatch hm)⟩⟩, h2, h3, h4⟩
section
variable {prog : Program} {w : World} {A : Around} {E : Value → Shared → Prop} {s : Shared} {K : Frag}
noncomputable def ledger (h : Heap) (L d : Addr) : List (Addr × Obj) := (List.range h.objs.size).filterMap fun a => if a = L ∨ a = d then none else (h.get? a).map fun o => (a, o)
end
end Att
namespace L2
open PySem PySem.Spec PyProof.Rows
theorem vals_ints : ∀ {vs : List Value} {ns : List Int}, IntsAre vs ns → Vals (ns.map V.int) vs
  | _, _, .nil => .nil
  | _, _, .cons n t h => .cons ⟨t, rfl⟩ (vals_ints h)
noncomputable def Only (H : Hp) : Prop := ∀ b, H b = none ∨ ∃ o xs, H b = some (.frz o (.lst xs))
theorem law_call {P : Program} {w : World} {K : PySem.W.Frag} {mg mb : Str → Option Value} {CX : CXT} {k : Nat} {fa a : Addr} {fd : FuncData} {x : Str} {sp : Sp} {s₁ : Shared} {vs : List Value} {ns : List Int}
    (KX : K.In s₁.heap) (hns : s₁.heap.Ns mainGlobals mg) (hb : s₁.heap.Ns builtinsNs mb) (hbb : ∀ x : Str, x ≠ "__name__" → mb x = bootBuiltins x) (hlim : s₁.heap.NoLimit) (hg : s₁.gens = #[])
    (ha : s₁.heap.get? a = some { cls := .type "list", data := .seq vs.toArray }) (hi : IntsAre vs ns) (hl : ns.length ≤ sizeLine) (hr : Room k callerA)
    (F : ∀ base : Heap, K.In base → base.Ns mainGlobals mg → FnOk P w K mg base CX k fa fd [x] sp) (hbind : ∀ (s : Shared) (u : Value), BindsTo s fd ⟨[u], []⟩ [(x, u)])
    (hsp : ∀ H : Hp, Only H → SqL K H a (ns.map V.int) → sp [.ref a] H (fun v _ => v = .bl true) fun _ _ _ => False)
    (hCX : ∀ H e s', CX [] H s₁ (fun _ _ _ => False) e s' → False) :
    codeAny (model P w) callerA (.call (.ref fa) ⟨[.ref a], []⟩) (fun r s' => r = .ok (.ret (.bool true)) ∧ OldK s₁.heap s'.heap ∧ s'.os = s₁.os ∧ AllBare s'.gens) s₁ := by
  have rv := vals_ints hi
  have lenV := hi.length
  -- from an abstract heap in which nothing but the script may be tracked
  have core : ∀ H : Hp, Only H → SqL K H a (ns.map V.int) → HOk P w H s₁.heap → (∀ b, H b ≠ none → b = a) → (H a ≠ none → K.lookup a = none) →
      codeAny (model P w) callerA (.call (.ref fa) ⟨[.ref a], []⟩) (fun r s' => r = .ok (.ret (.bool true)) ∧ OldK s₁.heap s'.heap ∧ s'.os = s₁.os ∧ AllBare s'.gens) s₁ := by
    intro H hO hS hok hA hK
    have base_of : ∀ {b : Addr} {o : Obj}, s₁.heap.get? b = some o → H b = none → (hidT s₁.heap H).get? b = some o := fun e n => hidT_get e n
    have noA : ∀ {b : Addr} {o : Obj} {es : Array DictEntry} {ep : Nat}, s₁.heap.get? b = some o → o.data = .dict es ep → H b = none := fun {b o es ep} e d => by
      cases q : H b with
      | none => rfl
      | some u =>
        have e' : b = a := hA b (by rw [q]; simp)
        subst e'
        rw [ha] at e; cases e
        have d' : Data.seq vs.toArray _ = Data.dict es ep := d
        cases d'
    have nsK : ∀ {b : Addr} {m : Str → Option Value}, s₁.heap.Ns b m → (hidT s₁.heap H).Ns b m := fun {b m} ⟨o, es, ep, e, d, r⟩ => ⟨o, es, ep, base_of e (noA e d), d, r⟩
    have hKb : K.In (hidT s₁.heap H) := fun b o e => base_of (KX b o e) (by
      cases q : H b with
      | none => rfl
      | some u =>
        have e' : b = a := hA b (by rw [q]; simp)
        subst e'
        rw [hK (by rw [q]; simp)] at e; cases e)
    have hM : Mod K mg (hidT s₁.heap H) := ⟨hKb, nsK hns, ⟨mb, nsK hb, hbb⟩, let ⟨mc, h1, h2⟩ := hlim; ⟨mc, nsK h1, h2⟩⟩
    have e0 : Env0 P w K mg (hidT s₁.heap H) callerA [] s₁ H := ⟨rfl, hM, fun b o e => of_hidT e, Nat.le_of_eq (hidT_size _ _), trivial, fun b hb => absurd (show b ∈ ([] : List Addr) from hb) (by simp), hok, .of_eq hg⟩
    refine codeAny_mono ((F _ hKb (nsK hns)).run callerA [] s₁ H ⟨[.ref a], []⟩ [.ref a] [.ref a] _ _ hr e0 (hbind s₁ (.ref a)) (.cons rfl .nil) (hsp H hO hS)) fun r s' h => ?_
    cases r with
    | error e => exact (hCX H e s' h).elim
    | ok fl =>
      cases fl with
      | next => exact False.elim h
      | brk => exact False.elim h
      | cont => exact False.elim h
      | ret u =>
        obtain ⟨v, H', os, bare, un, hok', r', q⟩ := h
        have q' : v = .bl true := q
        subst q'
        obtain rfl : u = Value.bool true := r'
        refine ⟨rfl, OldK.of_keep fun b o e => ?_, os, bare⟩
        cases q : H b with
        | none => exact un.keep b o e q (by intro z; exact absurd (show b ∈ ([] : List Addr) from z) (by simp)) (by simp)
        | some u =>
          rcases hO b with z | ⟨ob, xs, z⟩
          · rw [q] at z; cases z
          · have z2 := un.frzs b ob _ z
            obtain ⟨e1, _⟩ := hok b _ z
            obtain ⟨e2, _⟩ := hok' b _ z2
            rw [e] at e1; cases e1
            exact e2
  cases hk : K.lookup a with
  | some o =>
    -- the script is one of the module's own objects
    have e := KX a o hk
    rw [ha] at e
    cases e
    refine core (fun _ => none) (fun _ => .inl rfl) (.inr ⟨_, vs.toArray, _, hk, rfl, rfl, rfl, by rw [List.size_toArray, lenV]; exact hl, by simpa using rv⟩) (fun b u z => by have z' : (none : Option HO) = some u := z; cases z') (fun b z => absurd rfl z) fun z => absurd rfl z
  | none =>
    refine core (fun b => if b = a then some (.frz { cls := .type "list", data := .seq vs.toArray } (.lst (ns.map V.int))) else none) (fun b => ?_) (.inl (.inr ⟨{ cls := .type "list", data := .seq vs.toArray }, if_pos rfl⟩)) (fun b u z => ?_) (fun b z => ?_) fun _ => hk
    · by_cases hb : b = a
      · exact .inr ⟨_, _, if_pos hb⟩
      · exact .inl (if_neg hb)
    · by_cases hb : b = a
      · have z' := (if_pos hb).symm.trans z
        cases z'
        subst hb
        exact ⟨ha, by rw [List.length_map]; exact hl, vs, _, rv, ha⟩
      · have z' := (if_neg hb).symm.trans z
        cases z'
    · by_cases hb : b = a
      · exact hb
      · exact absurd (if_neg hb) z
end L2
namespace L2
open PySem PySem.Spec PyProof.Rows
theorem walk_of {l : PySem.W.OpenLaw} {n k : Nat} {q : Program} {loose : List Str} {XP : (Str → Option Value) → Heap → Prop} {YP : World → Heap → Prop} {d : DefRec} {K : Params → PySem.W.Frag} {CX : World → CXT} {sp : World → Sp} {x : Str}
    (hn : l.most = some n) (hn2 : n ≤ sizeLine) (hdf : d.params.defaults = []) (hr : Room k callerA)
    (hY : ∀ (w : World) (h : Heap), YP w h → (K w.params).In h)
    (F : ∀ (w : World) (mg : Str → Option Value) (fa : Addr) (h : Heap), (K w.params).In h → h.Ns mainGlobals mg → mg d.name = some (.ref fa) →
      ∃ fd : FuncData, (∀ (s : Shared) (u : Value), BindsTo s fd ⟨[u], []⟩ [(x, u)]) ∧
        ∀ base : Heap, (K w.params).In base → base.Ns mainGlobals mg → FnOk l.prog w (K w.params) mg base (CX w) k fa fd [x] (sp w))
    (hsp : ∀ (w : World) (H : Hp) (a : Addr) (ns : List Int), ns.length ≤ n → Only H → SqL (K w.params) H a (ns.map V.int) → sp w [.ref a] H (fun v _ => v = .bl true) fun _ _ _ => False)
    (hCX : ∀ (w : World) (H : Hp) (s : Shared) (e : Value) (s' : Shared), CX w [] H s (fun _ _ _ => False) e s' → False) :
    PySem.W.WalkO q loose XP YP l.row.toRowW d [] (fun f vs => PySem.call f vs) := by
  refine Att.attach_call hn hdf fun w s₀ s₁ mg mb fa o pm cd doc a vs ns G Y ho hd hcd hmg hobj hints hlen hg => ?_
  have KX := hY w _ Y
  obtain ⟨fd, hb, hF⟩ := F w mg fa _ KX G.T.g hmg
  exact law_call KX G.T.g G.T.b G.T.builtins G.T.nolimit hg hobj hints (Nat.le_trans hlen hn2) hr hF hb (fun H hO hS => hsp w H a ns hlen hO hS) fun H e s' => hCX w H s₁ e s'
end L2
namespace L2
open PySem PySem.Spec PyProof.Rows
noncomputable def defArgs (s : Stmt) : Arguments := match s with
  | .FunctionDef _ a _ _ _ _ _ _ _ _ => a
  | _ => { posonlyargs := [], args := [], vararg := none, kwonlyargs := [], kw_defaults := [], kwarg := none, defaults := [] }
noncomputable def defBody (s : Stmt) : List Stmt := match s with
  | .FunctionDef _ _ b _ _ _ _ _ _ _ => b
  | _ => []
noncomputable def defScope (s : Stmt) : Scope := match s with
  | .FunctionDef _ _ _ _ _ _ sc _ _ _ => sc
  | _ => { kind := .function, names := [], isGenerator := false, isCoroutine := false }
noncomputable abbrev CX0 : CXT := fun _ _ _ _ _ _ => False
structure Fun (K : PySem.W.Frag) (x qual : Str) (st : Stmt) (f : Addr) (fd : FuncData) : Prop where
  ex : ∃ (oc : Value) (od : Option Addr) (kV doc pm : Value) (an : Option Addr) (cdv ct : Value) (osl : Array (Option Value)),
    fd = PySem.W.fnOf x qual (defArgs st) (defBody st) (defScope st) .none kV doc pm an cdv ct ∧ K.lookup f = some ⟨oc, od, .func fd, osl⟩ ∧ PySem.W.codeIn K cdv qual = true
  kp : PySem.W.keepIn K (.ref f) = true
section
variable {P : Program} {w : World} {K : PySem.W.Frag} {mg : Str → Option Value} {base : Heap}
theorem Fun.ok {x qual : Str} {st : Stmt} {f : Addr} {fd : FuncData} {N ps : List Str} {k : Nat} {sp : Sp} (F : Fun K x qual st f fd) (S : FnScope N ps (defScope st)) (len : ∀ vs H Q E, sp vs H Q E → vs.length = ps.length)
    (hbody : ∀ (cdv : Value) (A : Around) (outer : List Env) (s : Shared) (H : Hp) (vs : List V) (Q : VK) (E : XK), Room k (A.deeper (envOfC qual (defScope st) s.heap.objs.size f cdv)) → sp vs H Q E →
      ∃ t, PSs (cxOf CX0 P w K mg base N qual (defScope st) f cdv A outer s H E).nox (defBody st) t ∧ t { nx := fun _ H' => Q .non H', rt := Q } (start N vs) H) : FnOk P w K mg base CX0 (k + 1) f fd ps sp := by
  obtain ⟨oc, od, kV, doc, pm, an, cdv, ct, osl, rfl, lk, hcd⟩ := F.ex
  refine fn_of lk hcd S len fun A outer s H vs Q E hr hsp => ?_
  obtain ⟨t, h, q⟩ := hbody cdv A outer s H vs Q E hr hsp
  exact ⟨t, h.nox, q⟩
theorem Fun.binds {x qual : Str} {st : Stmt} {f : Addr} {fd : FuncData} {ps : List Str} (F : Fun K x qual st f fd)
    (h : ∀ (kV doc pm : Value) (an : Option Addr) (cdv ct : Value) (us : List Value), us.length = ps.length → bindArgs (PySem.W.fnOf x qual (defArgs st) (defBody st) (defScope st) .none kV doc pm an cdv ct) ⟨us, []⟩ = pure (ps.zip us)) : Binds K fd ps [] := by
  obtain ⟨oc, od, kV, doc, pm, an, cdv, ct, osl, rfl, lk, hcd⟩ := F.ex
  exact .all (h kV doc pm an cdv ct)
theorem fun_mk {x qual : Str} {st : Stmt} {f : Addr} {oc : Value} {od an : Option Addr} {osl : Array (Option Value)} {kV doc pm cdv ct : Value} (l : K.lookup f = some ⟨oc, od, .func (PySem.W.fnOf x qual (defArgs st) (defBody st) (defScope st) .none kV doc pm an cdv ct), osl⟩)
    (c : PySem.W.codeIn K cdv qual = true) (k : PySem.W.keepIn K (.ref f) = true) : Fun K x qual st f (PySem.W.fnOf x qual (defArgs st) (defBody st) (defScope st) .none kV doc pm an cdv ct) := ⟨⟨oc, od, kV, doc, pm, an, cdv, ct, osl, rfl, l, c⟩, k⟩
end
section
variable {X : Cx}
end
noncomputable def Same (H H' : Hp) : Prop := ∀ b o, H b = some o → H' b = some o
theorem Same.refl (H : Hp) : Same H H := fun _ _ h => h
theorem Same.trans {H H1 H2 : Hp} (a : Same H H1) (b : Same H1 H2) : Same H H2 := fun c o h => b c o (a c o h)
theorem Same.free {H H' : Hp} (e : Same H H') {l : Addr} (h : H' l = Option.none) : H l = Option.none := by
  cases q : H l with
  | none => rfl
  | some o =>
    rw [e l o q] at h
    cases h
theorem Same.seq {K : PySem.W.Frag} {H H' : Hp} {a : Addr} {xs : List V} (e : Same H H') (h : SqL K H a xs) : SqL K H' a xs := by
  rcases h with (h | ⟨o, h⟩) | h
  · exact .inl (.inl (e _ _ h))
  · exact .inl (.inr ⟨o, e _ _ h⟩)
  · exact .inr h
end L2
namespace L2
open PySem PySem.Spec PyProof.Rows
theorem bt_len : bootBuiltins "len" = some (.builtin "len") := by decide +kernel
theorem bt_abs : bootBuiltins "abs" = some (.builtin "abs") := by decide +kernel
theorem bt_max : bootBuiltins "max" = some (.builtin "max") := by decide +kernel
theorem bt_min : bootBuiltins "min" = some (.builtin "min") := by decide +kernel
theorem bt_isinstance : bootBuiltins "isinstance" = some (.builtin "isinstance") := by decide +kernel
theorem bt_list : bootBuiltins "list" = some (.type "list") := by decide +kernel
theorem bt_tuple : bootBuiltins "tuple" = some (.type "tuple") := by decide +kernel
theorem bt_bool : bootBuiltins "bool" = some (.type "bool") := by decide +kernel
noncomputable def Fit (n : Nat) (x : Int) : Prop := x.natAbs < 2 ^ n
theorem Fit.le {n : Nat} {x y : Int} (h : Fit n y) (e : x.natAbs ≤ y.natAbs) : Fit n x := Nat.lt_of_le_of_lt e h
theorem Fit.mono {m n : Nat} {x : Int} (h : Fit m x) (e : m ≤ n) : Fit n x := Nat.lt_of_lt_of_le h (Nat.pow_le_pow_right (by decide) e)
theorem Fit.neg {n : Nat} {x : Int} (h : Fit n x) : Fit n (-x) := h.le (by omega)
theorem Fit.add {m n k : Nat} {x y : Int} (h : Fit m x) (g : Fit n y) (e : max m n + 1 ≤ k) : Fit k (x + y) := by
  have a : Fit (max m n) x := h.mono (Nat.le_max_left ..)
  have b : Fit (max m n) y := g.mono (Nat.le_max_right ..)
  have c : 2 ^ (max m n + 1) = 2 ^ max m n + 2 ^ max m n := by rw [Nat.pow_succ]; omega
  have d : (x + y).natAbs < 2 ^ (max m n + 1) := by
    rw [c]
    have := Int.natAbs_add_le x y
    unfold Fit at a b
    omega
  exact Fit.mono (m := max m n + 1) d e
theorem Fit.sub {m n k : Nat} {x y : Int} (h : Fit m x) (g : Fit n y) (e : max m n + 1 ≤ k) : Fit k (x - y) := by
  rw [Int.sub_eq_add_neg]
  exact h.add g.neg e
theorem Fit.mul {m n k : Nat} {x y : Int} (h : Fit m x) (g : Fit n y) (e : m + n ≤ k) : Fit k (x * y) := by
  have d : (x * y).natAbs < 2 ^ (m + n) := by
    rw [Int.natAbs_mul, Nat.pow_add]
    exact Nat.mul_lt_mul'' h g
  exact Fit.mono (m := m + n) d e
theorem Fit.mod {n : Nat} {x y : Int} (hy : 0 < y) (h : Fit n y) : Fit n (x % y) := h.le (by
  have a := Int.emod_nonneg x (Int.ne_of_gt hy)
  have b := Int.emod_lt_of_pos x hy
  omega)
theorem Fit.div {n : Nat} {x y : Int} (h : Fit n x) : Fit n (x / y) := h.le (Int.natAbs_ediv_le_natAbs x y)
theorem Fit.fdiv {n : Nat} {x y : Int} (h : Fit n x) : Fit n (x.fdiv y) := intBits_le_iff.mp (intBits_fdiv_le (intBits_le_iff.mpr h))
theorem Fit.mulOk {m n : Nat} {x y : Int} (h : Fit m x) (g : Fit n y) (e : m + n ≤ 134217728 := by decide) : IntMulOk x y := .of_le (intBits_le_iff.mpr h) (intBits_le_iff.mpr g) e
theorem Fit.log2 {n : Nat} {x : Int} (h : Fit n x) (e : n ≤ 9000 := by decide) : x.natAbs.log2 < 9000 := by
  by_cases h0 : x.natAbs = 0
  · rw [h0]; decide
  · exact Nat.lt_of_lt_of_le ((Nat.log2_lt h0).mpr h) e
theorem mok_l {i j : Int} (h1 : -(2 ^ 64) < i) (h2 : i < 2 ^ 64) : IntMulOk i j := .of_left (intBits_le_64 h1 h2)
theorem mok_r {i j : Int} (h1 : -(2 ^ 64) < j) (h2 : j < 2 ^ 64) : IntMulOk i j := .of_right (intBits_le_64 h1 h2)
section
variable {X : Cx}
theorem op_mulB : OpR X (binaryOp .Mult) (rI IntMulOk fun i j => .int (i * j)) := opI fun _ _ _ _ _ _ _ hc q => mul_int q hc
noncomputable def CDivZ (_ j : Int) : Prop := j ≠ 0 ∧ j.natAbs.log2 < 9000
theorem op_fdivZ : OpR X (binaryOp .FloorDiv) (rI CDivZ fun i j => .int (i.fdiv j)) := opI fun _ _ _ _ _ _ _ hc q => floordiv_int hc.1 q (.inl (PyProof.noPylong_of_log2 hc.2))
theorem pe_ty {x : Str} {n : String} {pos : Pos} (hg : Gl X x) (hm : X.mg x = none) (hv : bootBuiltins x = some (.type n)) (hn : x ≠ "__name__" := by decide) (hd : (x == ("__debug__" : Str)) = false := by decide) : PE X (.Name x pos) (tC (.ty n)) := pe_bltn (v := .ty n) hg hm hv rfl hn hd
end
mutual
noncomputable def Rep (K : PySem.W.Frag) (H : Hp) : PyData → V → Prop
  | .none, v => v = .non
  | .bool b, v => v = .bl b
  | .int i, v => v = .int i
  | .str x, v => v = .str x
  | .list ds, v => ∃ (a : Addr) (xs : List V), v = .ref a ∧ SqL K H a xs ∧ RepAll K H ds xs
  | .tuple ds, v => ∃ (a : Addr) (xs : List V), v = .ref a ∧ SqT K H a xs ∧ RepAll K H ds xs
  | .dict _, _ => False
noncomputable def RepAll (K : PySem.W.Frag) (H : Hp) : List PyData → List V → Prop
  | [], xs => xs = []
  | d :: ds, xs => ∃ (x : V) (r : List V), xs = x :: r ∧ Rep K H d x ∧ RepAll K H ds r
end
section
variable {X : Cx} {pins : List (Addr × Obj)} {σ : St} {H : Hp} {s : Shared}
mutual
theorem Rep.reads (I : Inv X pins σ H s) : ∀ (d : PyData) (v : V) (u : Value), Rep X.K H d v → RelV v u → ∃ as, Reads s.heap u d as
  | .none, v, u, h, r => by
    unfold Rep at h; subst h
    cases (show u = Value.none from r); exact ⟨_, .none⟩
  | .bool b, v, u, h, r => by
    unfold Rep at h; subst h
    cases (show u = Value.bool b from r); exact ⟨_, .bool b⟩
  | .int i, v, u, h, r => by
    unfold Rep at h; subst h
    obtain ⟨t, rfl⟩ := (show ∃ t, u = Value.int i t from r); exact ⟨_, .int i t⟩
  | .str x, v, u, h, r => by
    unfold Rep at h; subst h
    obtain ⟨t, rfl⟩ := (show ∃ t, u = Value.str x t from r); exact ⟨_, .str x t⟩
  | .list ds, v, u, h, r => by
    unfold Rep at h
    obtain ⟨a, xs, rfl, hs, ha⟩ := h
    cases (show u = Value.ref a from r)
    obtain ⟨its, rv, p, _⟩ := I.list hs
    obtain ⟨as, q⟩ := RepAll.reads I ds xs its ha rv
    obtain ⟨o, ho, hc, n, hd⟩ := p.isList
    exact ⟨_, .list ho hc hd (by simpa using q)⟩
  | .tuple ds, v, u, h, r => by
    unfold Rep at h
    obtain ⟨a, xs, rfl, hs, ha⟩ := h
    cases (show u = Value.ref a from r)
    obtain ⟨its, rv, p, _⟩ := I.tuple hs
    obtain ⟨as, q⟩ := RepAll.reads I ds xs its ha rv
    obtain ⟨o, ho, hc, n, hd⟩ := p
    exact ⟨_, .tuple ho hc hd (by simpa using q)⟩
  | .dict _, v, u, h, r => by
    unfold Rep at h; exact h.elim
theorem RepAll.reads (I : Inv X pins σ H s) : ∀ (ds : List PyData) (xs : List V) (us : List Value), RepAll X.K H ds xs → Vals xs us → ∃ as, ReadsAll s.heap us ds as
  | [], xs, us, h, r => by
    unfold RepAll at h; subst h
    cases r; exact ⟨_, .nil⟩
  | d :: ds, xs, us, h, r => by
    unfold RepAll at h
    obtain ⟨x, t, rfl, hx, ht⟩ := h
    cases r with
    | cons rx rt =>
      obtain ⟨as, p⟩ := Rep.reads I d x _ hx rx
      obtain ⟨bs, q⟩ := RepAll.reads I ds t _ ht rt
      exact ⟨_, .cons p q⟩
end
end
section
variable {X : Cx}
theorem op_eqD (hu : X.A.units + 64 < cLine) : OpR X (compareOp .Eq) (fun x y H Q => ∃ d e, Rep X.K H d x ∧ Rep X.K H e y ∧ SeqAt.shaped d = true ∧ SeqAt.shaped e = true ∧ Q (.bl (PyData.eqv d e)) H) := by
  intro pins s σ H x y v u Q I rx ry h
  obtain ⟨d, e, hd, he, sd, se, q⟩ := h
  obtain ⟨as, ra⟩ := Rep.reads I d x v hd rx
  obtain ⟨bs, rb⟩ := Rep.reads I e y u he ry
  exact SeqAt.compareEq_shaped ra rb sd se hu (fin_bl I q rfl)
theorem op_neD (hu : X.A.units + 64 < cLine) : OpR X (compareOp .NotEq) (fun x y H Q => ∃ d e, Rep X.K H d x ∧ Rep X.K H e y ∧ SeqAt.shaped d = true ∧ SeqAt.shaped e = true ∧ Q (.bl (!PyData.eqv d e)) H) := by
  intro pins s σ H x y v u Q I rx ry h
  obtain ⟨d, e, hd, he, sd, se, q⟩ := h
  obtain ⟨as, ra⟩ := Rep.reads I d x v hd rx
  obtain ⟨bs, rb⟩ := Rep.reads I e y u he ry
  exact SeqAt.compareNe_reads ra rb (SeqAt.canLay_of_shaped sd) (SeqAt.canLay_of_shaped se) (SeqAt.room_of_shaped sd hu) (fin_bl I q rfl)
end
theorem same_new {H : Hp} {p : Addr} (h : H p = none) (o : HO) : Same H (upd H p o) := fun b u q => by rw [upd_ne (ne_of_none q h)]; exact q
theorem Same.seqT {K : PySem.W.Frag} {H H' : Hp} {a : Addr} {xs : List V} (e : Same H H') (h : SqT K H a xs) : SqT K H' a xs := by
  rcases h with (h | ⟨o, h⟩) | h
  · exact .inl (.inl (e _ _ h))
  · exact .inl (.inr ⟨o, e _ _ h⟩)
  · exact .inr h
theorem Same.rd {H H' : Hp} {a : Addr} {u : HO} (e : Same H H') (h : Rd H a u) : Rd H' a u := h.elim (fun h => .inl (e _ _ h)) fun ⟨o, h⟩ => .inr ⟨o, e _ _ h⟩
mutual
theorem Same.rep {K : PySem.W.Frag} {H H' : Hp} (e : Same H H') : ∀ (d : PyData) (v : V), Rep K H d v → Rep K H' d v
  | .none, v, h => by unfold Rep at h ⊢; exact h
  | .bool b, v, h => by unfold Rep at h ⊢; exact h
  | .int i, v, h => by unfold Rep at h ⊢; exact h
  | .str x, v, h => by unfold Rep at h ⊢; exact h
  | .list ds, v, h => by
    unfold Rep at h ⊢
    obtain ⟨a, xs, rfl, hs, ha⟩ := h
    exact ⟨a, xs, rfl, e.seq hs, Same.repAll e ds xs ha⟩
  | .tuple ds, v, h => by
    unfold Rep at h ⊢
    obtain ⟨a, xs, rfl, hs, ha⟩ := h
    exact ⟨a, xs, rfl, e.seqT hs, Same.repAll e ds xs ha⟩
  | .dict _, v, h => by unfold Rep at h; exact h.elim
theorem Same.repAll {K : PySem.W.Frag} {H H' : Hp} (e : Same H H') : ∀ (ds : List PyData) (xs : List V), RepAll K H ds xs → RepAll K H' ds xs
  | [], xs, h => by unfold RepAll at h ⊢; exact h
  | d :: ds, xs, h => by
    unfold RepAll at h ⊢
    obtain ⟨x, t, rfl, hx, ht⟩ := h
    exact ⟨x, t, rfl, Same.rep e d x hx, Same.repAll e ds t ht⟩
end
theorem cpw {i : Int} {j : Int} (h : 0 ≤ j) (h1 : j ≤ 1000000) (h2 : i.natAbs < 2 ^ 64) : CPow i j := ⟨h, h1, h2⟩
theorem pw30 : (10 : Int) ^ (30 : Int).toNat = 1000000000000000000000000000000 := by decide +kernel
theorem SqL.keep {K : PySem.W.Frag} {H H' : Hp} {a : Addr} {xs : List V} (h : SqL K H a xs) (k : H' a = H a) : SqL K H' a xs := by
  unfold SqL Rd at h ⊢
  rw [k]
  exact h
theorem SqT.keep {K : PySem.W.Frag} {H H' : Hp} {a : Addr} {xs : List V} (h : SqT K H a xs) (k : H' a = H a) : SqT K H' a xs := by
  unfold SqT Rd at h ⊢
  rw [k]
  exact h
noncomputable def Kept (f : Addr) (H H' : Hp) : Prop := ∀ b o, b ≠ f → H b = some o → H' b = some o
theorem Kept.refl {f : Addr} (H : Hp) : Kept f H H := fun _ _ _ h => h
theorem Kept.trans {f : Addr} {H H1 H2 : Hp} (a : Kept f H H1) (b : Kept f H1 H2) : Kept f H H2 := fun c o n h => b c o n (a c o n h)
theorem Same.kept {f : Addr} {H H' : Hp} (a : Same H H') : Kept f H H' := fun c o _ h => a c o h
noncomputable def Feed (sc : Addr) (rest : List V) (H : Hp) (f : Addr) : Prop := ∃ (ns : List Int) (at_ : Int), H f = some (.lst (.ref sc :: .int at_ :: rest)) ∧ H sc = some (.lst (ns.map V.int)) ∧ ns.length ≤ 1000 ∧ 0 ≤ at_ ∧ sc ≠ f
theorem Feed.lst {sc : Addr} {rest : List V} {H : Hp} {f : Addr} (h : Feed sc rest H f) : ∃ ys, H f = some (.lst ys) := let ⟨_, _, e, _⟩ := h; ⟨_, e⟩
theorem Feed.ne {sc : Addr} {rest : List V} {H : Hp} {f p : Addr} (h : Feed sc rest H f) (e : H p = none) : p ≠ f := fun z => by
  obtain ⟨o, q⟩ := h.lst
  rw [← z, e] at q
  cases q
theorem Feed.ne2 {sc : Addr} {rest : List V} {H : Hp} {f p : Addr} (h : Feed sc rest H f) (e : H p = none) : p ≠ sc := fun z => by
  obtain ⟨_, _, _, q, _⟩ := h
  rw [← z, e] at q
  cases q
theorem Feed.upd {sc : Addr} {rest : List V} {H : Hp} {f p : Addr} {o : HO} (h : Feed sc rest H f) (e : p ≠ f) (e2 : p ≠ sc) : Feed sc rest (L2.upd H p o) f := by
  obtain ⟨ns, k, h1, h2, h3, h4, h5⟩ := h
  exact ⟨ns, k, by rw [upd_ne (Ne.symm e)]; exact h1, by rw [upd_ne (Ne.symm e2)]; exact h2, h3, h4, h5⟩
theorem Feed.new {sc : Addr} {rest : List V} {H : Hp} {f p : Addr} {o : HO} (h : Feed sc rest H f) (e : H p = none) : Feed sc rest (L2.upd H p o) f := h.upd (h.ne e) (h.ne2 e)
theorem pw9 : (10 : Int) ^ (9 : Int).toNat = 1000000000 := by decide +kernel
noncomputable def nrm (t b x : Int) : Int := if b < 0 then -(x / (Int.gcd t b : Int)) else x / (Int.gcd t b : Int)
theorem gcd_turn {a b : Int} : Int.gcd b (a % b) = Int.gcd a b := by
  rw [Int.emod_def, Int.gcd_sub_mul_left_right, Int.gcd_comm]
theorem fdiv_nrm {t b x : Int} (d : (Int.gcd t b : Int) ∣ x) : x.fdiv (if b < 0 then -(Int.gcd t b : Int) else (Int.gcd t b : Int)) = nrm t b x := by
  unfold nrm
  split
  · rw [Int.fdiv_eq_ediv_of_dvd ((Int.neg_dvd).mpr d), Int.ediv_neg]
  · rw [Int.fdiv_eq_ediv_of_dvd d]
theorem nrm_pos {t b : Int} (h : b ≠ 0) : 0 < nrm t b b := by
  unfold nrm
  split
  · have := Int.ediv_pos_of_pos_of_dvd (a := -b) (b := (Int.gcd t b : Int)) (by omega) (Int.natCast_nonneg _) (Int.dvd_neg.mpr (Int.gcd_dvd_right t b))
    rw [Int.neg_ediv_of_dvd (Int.gcd_dvd_right t b)] at this
    exact this
  · exact Int.ediv_pos_of_pos_of_dvd (by omega) (Int.natCast_nonneg _) (Int.gcd_dvd_right t b)
theorem cross {g t b : Int} (h1 : g ∣ t) (h2 : g ∣ b) : t / g * b = t * (b / g) := by
  conv => lhs; rw [← Int.ediv_mul_cancel h2, Int.mul_comm (b / g) g, ← Int.mul_assoc, Int.ediv_mul_cancel h1]
theorem nrm_cross (t b : Int) : nrm t b t * b = t * nrm t b b := by
  have c := cross (Int.gcd_dvd_left t b) (Int.gcd_dvd_right t b)
  unfold nrm
  split
  · rw [Int.neg_mul, Int.mul_neg, c]
  · exact c
theorem nrm_gcd {t b : Int} (h : b ≠ 0) : Int.gcd (nrm t b t) (nrm t b b) = 1 := by
  have g := Int.gcd_ediv_gcd_ediv_gcd_of_ne_zero_right (n := t) h
  unfold nrm
  split
  · rw [Int.neg_gcd, Int.gcd_neg]; exact g
  · exact g
end L2
set_option maxRecDepth 100000
set_option maxHeartbeats 4000000
namespace L2
open PySem PySem.Spec PyProof.Rows
noncomputable def closL (cells : List (Str × Addr)) : List (Str × NameKind) → List (Str × Addr) → List (Str × Addr)
  | [], acc => acc
  | (n, k) :: r, acc => if k == .free then (match cells.lookup n with | some a => closL cells r ((n, a) :: acc) | none => closL cells r acc) else closL cells r acc
noncomputable def freeIn (cells : List (Str × Addr)) (names : List (Str × NameKind)) : Prop := ∀ n, (n, NameKind.free) ∈ names → ∃ c, cells.lookup n = some c
theorem clos_loop {env : Env} : ∀ (names : List (Str × NameKind)) (acc : List (Str × Addr)), freeIn env.cells names →
    (forIn names acc fun (x : Str × NameKind) (cs : List (Str × Addr)) => (if x.2 == .free then do let c ← cellOf env x.1; pure (ForInStep.yield ((x.1, c) :: cs)) else pure (ForInStep.yield cs) : Sem (ForInStep (List (Str × Addr))))) = pure (closL env.cells names acc)
  | [], acc, _ => by rfl
  | (n, k) :: r, acc, h => by
    have hr : freeIn env.cells r := fun m hm => h m (List.mem_cons_of_mem _ hm)
    rw [List.forIn_cons]
    unfold closL
    cases hk : k == NameKind.free with
    | false =>
      rw [if_neg (by simp [hk]), if_neg (by simp)]
      exact clos_loop r acc hr
    | true =>
      rw [if_pos (by simp [hk]), if_pos rfl]
      have e : k = .free := by cases k <;> first | rfl | exact absurd hk (by decide)
      obtain ⟨c, hc⟩ := h n (by rw [e]; exact List.mem_cons_self)
      rw [hc]
      have e2 : cellOf env n = pure c := by unfold cellOf; rw [hc]
      rw [show cellOf env (n, k).1 = pure c from e2]
      exact clos_loop r ((n, c) :: acc) hr
theorem clos_eq {scope : Scope} {env : Env} (h : freeIn env.cells scope.names) : closureFor scope env = pure (closL env.cells scope.names []) := by
  have e := clos_loop (env := env) scope.names [] h
  unfold closureFor
  exact (congrArg (fun m => m >>= fun cs => (pure cs : Sem (List (Str × Addr)))) e).trans rfl
theorem closL_mem {cells : List (Str × Addr)} {n : Str} {c : Addr} : ∀ (names : List (Str × NameKind)) (acc : List (Str × Addr)), (∀ n c, (n, c) ∈ acc → cells.lookup n = some c) → (n, c) ∈ closL cells names acc → cells.lookup n = some c
  | [], acc, ha, h => ha _ _ h
  | (m, k) :: r, acc, ha, h => by
    unfold closL at h
    split at h
    · split at h
      · rename_i a hm
        refine closL_mem r _ (fun n' c' hn => ?_) h
        rcases List.mem_cons.mp hn with e | hn
        · cases e; exact hm
        · exact ha _ _ hn
      · exact closL_mem r _ ha h
    · exact closL_mem r _ ha h
theorem closL_of {cells : List (Str × Addr)} {scope : Scope} {n : Str} {c : Addr} (h : (closL cells scope.names []).lookup n = some c) : cells.lookup n = some c :=
  closL_mem scope.names [] (fun _ _ h => absurd h (by simp)) (PySem.mem_of_lookup h)
theorem closL_acc {cells : List (Str × Addr)} {n : Str} {c : Addr} : ∀ (names : List (Str × NameKind)) (acc : List (Str × Addr)), (n, c) ∈ acc → (n, c) ∈ closL cells names acc
  | [], _, h => h
  | (m, k) :: r, acc, h => by
    unfold closL
    split
    · split
      · exact closL_acc r _ (List.mem_cons_of_mem _ h)
      · exact closL_acc r _ h
    · exact closL_acc r _ h
theorem closL_in {cells : List (Str × Addr)} {n : Str} {c : Addr} (hc : cells.lookup n = some c) : ∀ (names : List (Str × NameKind)) (acc : List (Str × Addr)), (n, NameKind.free) ∈ names → (n, c) ∈ closL cells names acc
  | (m, k) :: r, acc, h => by
    unfold closL
    rcases List.mem_cons.mp h with e | h
    · cases e
      rw [if_pos (by decide), hc]
      exact closL_acc r _ List.mem_cons_self
    · split
      · split
        · exact closL_in hc r _ h
        · exact closL_in hc r _ h
      · exact closL_in hc r _ h
theorem lookup_isSome {α : Type} {n : Str} {c : α} : ∀ {l : List (Str × α)}, (n, c) ∈ l → ∃ d, l.lookup n = some d
  | (m, d) :: r, h => by
    rw [List.lookup_cons]
    cases e : n == m with
    | true => exact ⟨d, rfl⟩
    | false =>
      rcases List.mem_cons.mp h with q | q
      · cases q; simp at e
      · exact lookup_isSome q
theorem closL_look {cells : List (Str × Addr)} {scope : Scope} {n : Str} {c : Addr} (h : scope.names.lookup n = some .free) (hc : cells.lookup n = some c) : (closL cells scope.names []).lookup n = some c := by
  obtain ⟨d, hd⟩ := lookup_isSome (closL_in hc scope.names [] (PySem.mem_of_lookup h))
  have := closL_of hd
  rw [hc] at this; cases this
  exact hd
theorem relabel_kind {scope : Scope} {env : Env} {x : Str} : (relabel scope env).names.lookup x = (scope.names.lookup x).map fun k => if (k == .free && env.scope.kind == .function && env.kindOf x == some .cell) then .cell else k := by
  unfold relabel
  show List.lookup x (scope.names.map _) = _
  induction scope.names with
  | nil => rfl
  | cons p r ih =>
    obtain ⟨n, k⟩ := p
    show List.lookup x ((if (k == NameKind.free && env.scope.kind == .function && env.kindOf n == some .cell) = true then (n, NameKind.cell) else (n, k)) :: _) = _
    cases hx : x == n with
    | true =>
      have e : x = n := by simpa using hx
      subst e
      cases hc : (k == NameKind.free && env.scope.kind == .function && env.kindOf x == some .cell) with
      | true => rw [if_pos rfl, List.lookup_cons, List.lookup_cons]; simp only [beq_self_eq_true, Option.map_some, hc, if_true]
      | false => rw [if_neg (by simp), List.lookup_cons, List.lookup_cons]; simp only [beq_self_eq_true, Option.map_some, hc]; rfl
    | false =>
      have e : ∀ k', List.lookup x ((n, k') :: (r.map fun (n, k) => if (k == NameKind.free && env.scope.kind == .function && env.kindOf n == some .cell) = true then (n, NameKind.cell) else (n, k))) = List.lookup x (r.map fun (n, k) => if (k == NameKind.free && env.scope.kind == .function && env.kindOf n == some .cell) = true then (n, NameKind.cell) else (n, k)) := fun k' => by rw [List.lookup_cons, hx]
      have e2 : List.lookup x ((n, k) :: r) = List.lookup x r := by rw [List.lookup_cons, hx]
      rw [e2, ← ih]
      split <;> exact e _
noncomputable def hideN (xs N : List Str) : List Str := N.map fun n => if xs.contains n then ("." : Str) ++ n else n
noncomputable def compOk (N xs : List Str) (names onames : List (Str × NameKind)) : Bool :=
  (names.all fun p => p.2 != .cell) && (names.all fun p => p.2 != .local || names.lookup p.1 == some .local) && (names.all fun p => p.2 != .free || (onames.lookup p.1 == some .cell || onames.lookup p.1 == some .free)) &&
    xs.all (fun x => names.lookup x == some .local) && ((hideN xs N).zip N).all fun p => names.lookup p.1 == none || names.lookup p.1 == some .globalImplicit || (names.lookup p.1 == some .free && p.1 == p.2)
end L2
namespace L2
open PySem PySem.Spec PyProof.Rows
noncomputable abbrev blockCx (X : Cx) (xs : List Str) (scope : Scope) (C : Addr) (fp : List Addr) (s : Shared) (H : Hp) : Cx :=
  { X with N := xs ++ hideN xs X.N, s₀ := s, H₀ := H, env := compEnvC scope (closL X.env.cells scope.names []) C X.env, outer := X.stack, ex := fp, fn := fun _ => false, pn := [], xe := fun _ _ => False }
section
variable {X : Cx} {pins : List (Addr × Obj)} {σ : St} {H H' : Hp} {s s' : Shared} {a : Addr} {o : HO}
theorem HOk.adopt {P : Program} {w : World} {h : Heap} (x : HOk P w H h) (hn : H a = none) (new : ObjOk P w (upd H a o) h a o) : HOk P w (upd H a o) h := fun b u e => by
  by_cases hb : b = a
  · subst hb; rw [upd_same] at e; cases e; exact new
  · rw [upd_ne hb] at e
    exact (x b u e).stay (fun _ _ _ q => q) (fun c q => by rw [upd_ne (ne_of_none q hn)]; exact q) fun c xs q => by rw [upd_ne (ne_of_none q hn)]; exact q
theorem Inv.adopt (I : Inv X pins σ H s) (hn : H a = none) (ha : X.s₀.heap.objs.size ≤ a) (hL : a ≠ X.env.locals) (hc : ∀ x c, X.env.cells.lookup x = some c → c ≠ a) (hp : ∀ p ∈ X.pn ++ pins, p.1 ≠ a)
    (new : ObjOk X.prog X.w (upd H a o) s.heap a o) : Inv X pins σ (upd H a o) s := by
  refine ⟨I.ok, I.os, I.bare, ⟨I.base.keep, I.base.slot, fun b u e n hx => ?_, I.base.there, fun b xs e => ?_, fun b u v e => ?_, fun b ps e => ?_⟩, I.loc, I.cell, ?_, fun x c e => ?_, fun p h => ?_, I.hok.adopt hn new, I.len⟩
  · rw [upd_ne (Nat.ne_of_lt (Nat.lt_of_lt_of_le (Heap.lt_size e) ha))]; exact I.base.free b u e n hx
  · have q := I.base.tups b xs e; rw [upd_ne (ne_of_none q hn)]; exact q
  · have q := I.base.frzs b u v e; rw [upd_ne (ne_of_none q hn)]; exact q
  · obtain ⟨more, q⟩ := I.base.tbls b ps e; exact ⟨more, by rw [upd_ne (ne_of_none q hn)]; exact q⟩
  · rw [upd_ne (Ne.symm hL)]; exact I.free
  · rw [upd_ne (hc x c e)]; exact I.freeC x c e
  · obtain ⟨e, n, ne, nf, d⟩ := I.pin p h
    exact ⟨e, by rw [upd_ne (hp p h)]; exact n, ne, nf, d⟩
theorem compOk_cell {N xs : List Str} {names on : List (Str × NameKind)} (h : compOk N xs names on = true) : ∀ y ∈ names, y.2 ≠ .cell := fun y hy e => by
  unfold compOk at h
  simp only [Bool.and_eq_true, List.all_eq_true] at h
  have := h.1.1.1.1 y hy
  rw [e] at this
  exact absurd this (by decide)
theorem compOk_local {N xs : List Str} {names on : List (Str × NameKind)} (h : compOk N xs names on = true) : ∀ y ∈ names, y.2 = .local → names.lookup y.1 = some .local := fun y hy e => by
  unfold compOk at h
  simp only [Bool.and_eq_true, List.all_eq_true] at h
  have := h.1.1.1.2 y hy
  rw [e] at this
  simpa using this
theorem compOk_free {N xs : List Str} {names on : List (Str × NameKind)} (h : compOk N xs names on = true) : ∀ n, (n, NameKind.free) ∈ names → on.lookup n = some .cell ∨ on.lookup n = some .free := fun n hn => by
  unfold compOk at h
  simp only [Bool.and_eq_true, List.all_eq_true] at h
  have := h.1.1.2 _ hn
  simpa using this
theorem compOk_slot {N xs : List Str} {names on : List (Str × NameKind)} (h : compOk N xs names on = true) {i : Nat} {y : Str} (e : (hideN xs N)[i]? = some y) : (names.lookup y = some .free ∧ N[i]? = some y) ∨ names.lookup y = none ∨ names.lookup y = some .globalImplicit := by
  unfold compOk at h
  simp only [Bool.and_eq_true] at h
  have hl : (hideN xs N).length = N.length := by unfold hideN; rw [List.length_map]
  obtain ⟨hi, ei⟩ := List.getElem?_eq_some_iff.mp e
  have hz : ((hideN xs N).zip N)[i]? = some (y, N[i]) := by
    rw [List.getElem?_zip_eq_some]
    exact ⟨e, List.getElem?_eq_getElem (by omega)⟩
  have q := List.all_eq_true.mp h.2 _ (List.mem_of_getElem? hz)
  simp only [Bool.or_eq_true, Bool.and_eq_true, beq_iff_eq] at q
  rcases q with (q | q) | ⟨q, q2⟩
  · exact .inr (.inl q)
  · exact .inr (.inr q)
  · exact .inl ⟨q, by rw [List.getElem?_eq_getElem (by omega), ← q2]⟩
theorem Inv.freeIn {xs : List Str} {scope : Scope} (I : Inv X pins σ H s) (hok : compOk X.N xs scope.names X.env.scope.names = true) : freeIn X.env.cells scope.names := fun n hn => I.ok.has n (compOk_free hok n hn)
theorem relabel_vis {scope : Scope} {env : Env} {x : Str} (h : (relabel scope env).names.lookup x = some .cell ∨ (relabel scope env).names.lookup x = some .free) (hc : ∀ y ∈ scope.names, y.2 ≠ .cell) : scope.names.lookup x = some .free := by
  rw [relabel_kind] at h
  cases e : scope.names.lookup x with
  | none => rw [e] at h; simp at h
  | some k =>
    rw [e] at h
    cases k with
    | free => rfl
    | cell => exact absurd rfl (hc _ (PySem.mem_of_lookup e))
    | _ => simp at h
theorem Inv.block {xs : List Str} {scope : Scope} {fp : List Addr} {C : Addr} {m : Str → Option Value} (I : Inv X pins σ H s) (hok : compOk X.N xs scope.names X.env.scope.names = true) (hk : scope.kind = .function) (hfp : ∀ b ∈ fp, FpOk X pins H b)
    (hobj : ∀ b ∈ fp, ∃ o, s.heap.get? b = some o) (hC : s.heap.objs.size ≤ C) (hns : s'.heap.Ns C m) (keep : ∀ b o, s.heap.get? b = some o → s'.heap.get? b = some o) (hos : s'.os = s.os) (hg : AllBare s'.gens) :
    Inv (blockCx X xs scope C fp s H) [] (List.replicate xs.length none ++ σ) H s' := by
  have hcell := compOk_cell hok
  have hno : ∀ x c, (closL X.env.cells scope.names []).lookup x = some c → X.env.cells.lookup x = some c := fun x c h => closL_of h
  have ltf : ∀ b ∈ fp, b < s.heap.objs.size := fun b hb => let ⟨_, e⟩ := hobj b hb; Heap.lt_size e
  refine ⟨⟨I.ok.mod, hk, I.ok.glob, I.ok.blt, hC, fun x y c h1 h2 => I.ok.inj x y c (hno _ _ h1) (hno _ _ h2), fun x hx => ?_, fun x c h _ => absurd h (by simp), I.ok.hd, I.ok.frames, .inl rfl, fun b hb => ⟨?_, fun x c h => (hfp b hb).2.2.2.2.1 x c (hno _ _ h)⟩, I.bs, Nat.le_trans I.ok.bsz I.sz, fun b u e hb => ?_, fun b hb hf => ?_, I.stack, I.stkFree⟩,
    hos, hg, Un.kept keep, ⟨m, hns, fun i x v e1 e2 e3 => ?_⟩, fun x c h => ?_, I.hok.fresh hC, fun x c h => I.freeC x c (hno _ _ h), fun p hp => absurd (show p ∈ ([] : List (Addr × Obj)) from hp) (by simp), I.hok.kept keep, ?_⟩
  · have hf := relabel_vis (show (relabel scope X.env).names.lookup x = some .cell ∨ (relabel scope X.env).names.lookup x = some .free from hx) hcell
    obtain ⟨c, hc⟩ := I.freeIn hok x (PySem.mem_of_lookup hf)
    exact ⟨c, closL_look hf hc⟩
  · exact Nat.ne_of_lt (Nat.lt_of_lt_of_le (ltf b hb) hC)
  · rcases (hfp b hb).2.2.2.1 with z | z
    · exact I.ok.noex b u e z
    · exact absurd (Nat.lt_of_lt_of_le (Heap.lt_size e) (Nat.le_trans I.ok.bsz z)) (Nat.lt_irrefl _)
  · rcases List.mem_cons.mp (I.stkSub b hf) with z | z
    · exact (hfp b hb).2.1 z
    · exact (hfp b hb).2.2.1 z
  · have e1 : (xs ++ hideN xs X.N)[i]? = some x := e1
    by_cases hi : i < xs.length
    · rw [List.getElem?_append_left (by simpa using hi), List.getElem?_replicate, if_pos hi] at e2
      cases e2
    · rw [List.getElem?_append_right (by omega)] at e1
      rw [List.getElem?_append_right (by rw [List.length_replicate]; omega), List.length_replicate] at e2
      rcases compOk_slot hok e1 with ⟨q1, q2⟩ | q | q
      · have kd := compOk_free hok x (PySem.mem_of_lookup q1)
        obtain ⟨m0, _, hl⟩ := I.loc
        obtain ⟨u, ru, lk⟩ := hl _ x v q2 e2 (by rcases kd with z | z; exact .inr (.inl z); exact .inr (.inr z))
        refine ⟨u, ru, .inr ⟨?_, ?_⟩⟩
        · show (relabel scope X.env).names.lookup x = some .cell ∨ (relabel scope X.env).names.lookup x = some .free
          rw [relabel_kind, q1]
          by_cases hc : (NameKind.free == NameKind.free && X.env.scope.kind == .function && X.env.kindOf x == some .cell) = true
          · left; rw [Option.map_some, if_pos hc]
          · right; rw [Option.map_some, if_neg hc]
        · rcases lk with ⟨z, _⟩ | ⟨_, c, hc, hcell⟩
          · have z : X.env.scope.names.lookup x = some .local := z
            rw [z] at kd; rcases kd with kd | kd <;> cases kd
          · refine ⟨c, closL_look q1 hc, ?_⟩
            obtain ⟨oc, hoc, hd⟩ := hcell
            exact ⟨oc, keep _ _ hoc, hd⟩
      all_goals
        have e3 : (relabel scope X.env).names.lookup x = some .local ∨ (relabel scope X.env).names.lookup x = some .cell ∨ (relabel scope X.env).names.lookup x = some .free := e3
        rw [relabel_kind, q] at e3
        simp at e3
  · obtain ⟨v, oc, hoc, hd⟩ := I.cell x c (hno _ _ h)
    exact ⟨v, oc, keep _ _ hoc, hd⟩
  · show (List.replicate xs.length none ++ σ).length = (xs ++ hideN xs X.N).length
    rw [List.length_append, List.length_append, List.length_replicate, I.len]
    unfold hideN
    rw [List.length_map]
theorem Inv.unblock {xs : List Str} {scope : Scope} {fp : List Addr} {C : Addr} {pins' : List (Addr × Obj)} {σ' : St} (I : Inv X pins σ H s) (hfp : ∀ b ∈ fp, FpOk X pins H b) (J : Inv (blockCx X xs scope C fp s H) pins' σ' H' s') : Inv X pins σ H' s' :=
  I.call' (ch := fp) J.os J.base J.hok J.bare fun b hb => ⟨(hfp b hb).2.2.2.1, (hfp b hb).2.1, (hfp b hb).2.2.2.2.1, (hfp b hb).2.2.2.2.2⟩
end
theorem codeAny_compLoop_all {prog : Program} {w : World} {A : Around} {R : Result → Shared → Prop} {s : Shared} {elt target iter : Expr} {ifs : List Expr} {scope : Scope} {pos : Pos} {it acc : Value} {env : Env} (I : Nat → Shared → Prop)
    (turn : ∀ n s, I n s → wpAny (model prog w) A (pyNext it) (fun r s₁ => match r with
      | none => R (.ok .next) s₁
      | some v => wpAny (model prog w) A (letOwnedTupleGo target it v) (fun _ s₁' => wpAny (model prog w) A (assign target env v) (fun _ s₂ =>
          wpAny (model prog w) A (forIn ifs true fun c r => if r = true then do let ok ← isTrue c env (eval c env); pure (ForInStep.yield ok) else pure (ForInStep.yield r)) (fun ok s₃ =>
            if ok = true then wpAny (model prog w) A (eval elt env) (fun x s₄ =>
              wpAny (model prog w) A (call (.builtin "list.append") [acc, x]) (fun _ s₅ => ∃ m, m < n ∧ I m s₅) (fun _ _ => False) s₄) (fun _ _ => False) s₃
            else ∃ m, m < n ∧ I m s₃) (fun _ _ => False) s₂) (fun _ _ => False) s₁') (fun _ _ => False) s₁) (fun _ _ => False) s)
    (n : Nat) (h : I n s) : codeAny (model prog w) A (.compLoop (.ListComp elt [⟨target, iter, ifs, 0⟩] scope pos) 0 it acc env) R s := by
  refine codeAny_loop rfl I (fun n s hI => ?_) n h
  show wpAny _ A ((compTurn (.ListComp elt [⟨target, iter, ifs, 0⟩] scope pos) 0 it acc env).onRaise (fun x => do noteFrame x env; theTreesLotGoes x)) _ _ s
  refine wpAny_noted ?_
  rw [compTurn_list]
  refine wpAny_bind (wpAny_standAt (wpAny_bind (wpAny_mono (turn n s hI) (fun r s₁ h₁ => ?_) fun _ _ h' => h'.elim)))
  cases r with
  | none => exact wpAny_pure h₁
  | some v =>
    refine wpAny_bind (wpAny_mono h₁ (fun _ s₁' h₁' => ?_) fun _ _ h' => h'.elim)
    refine wpAny_bind (wpAny_mono h₁' (fun _ s₂ h₂ => wpAny_bind (wpAny_mono h₂ (fun ok s₃ h₃ => ?_) fun _ _ h' => h'.elim)) fun _ _ h' => h'.elim)
    cases ok with
    | false => exact wpAny_pure ⟨rfl, h₃⟩
    | true =>
      exact wpAny_bind (wpAny_bind (wpAny_mono h₃ (fun x s₄ h₄ => wpAny_bind (wpAny_mono h₄ (fun _ s₅ h₅ => wpAny_pure (wpAny_pure ⟨rfl, h₅⟩)) fun _ _ h' => h'.elim)) fun _ _ h' => h'.elim))
noncomputable def PIf (X : Cx) (ifs : List Expr) (t : TT) : Prop :=
  ∀ (pins : List (Addr × Obj)) (s : Shared) (σ : St) (H : Hp) (Q : Bool → Hp → Prop), Inv X pins σ H s → t σ H Q →
    wpAny (model X.prog X.w) X.A (forIn ifs true fun c r => if r = true then do let ok ← isTrue c X.env (eval c X.env); pure (ForInStep.yield ok) else pure (ForInStep.yield r)) (TP X pins σ Q) X.xe s
theorem pif_nil {X : Cx} : PIf X [] (fun _ H Q => Q true H) := fun _ _ _ H _ I h => wpAny_tests_nil ⟨H, I, h⟩
theorem pif_one {X : Cx} {c : Expr} {t : TT} (h : PT X c t) : PIf X [c] t := fun pins s σ H Q I hq => wpAny_tests_one (h pins s σ H Q I hq)
noncomputable def tComp (k : Nat) (wi : TI) (g : TG) (ti : TT) (te : TE) : TE := fun σ H Q => wi σ H fun J H1 => ∃ W : Nat → Nat → List V → St → Hp → Prop, (∃ m, W 0 m [] (List.replicate k none ++ σ) H1) ∧ ∀ i m ys σ' H', W i m ys σ' H' →
  (J.stop i H' ∧ ∀ p, H' p = none → Q (.ref p) (upd H' p (.lst ys))) ∨
  (J.go i H' ∧ ys.length < sizeLine ∧ ∃ N : List V → St → Hp → Prop, (∀ zs σ'' H'', N zs σ'' H'' → ∃ m', m' < m ∧ W (i + 1) m' zs σ'' H'') ∧
    ∀ x H2, J.yld i H' x H2 → g x σ' H2 fun σ2 H3 => ti σ2 H3 fun b H4 => if b = true then te σ2 H4 fun y H5 => N (ys ++ [y]) σ2 H5 else N ys σ2 H4)
section
variable {X : Cx} {pos : Pos} {tg elt iter : Expr} {ifs : List Expr} {scope : Scope} {xs : List Str} {wi : TI} {g : TG} {ti : TT} {te : TE}
theorem comp_block {pins : List (Addr × Obj)} {σ : St} {s : Shared} {Q : VK} {itv : Value} {E : Value → Shared → Prop} {R : Value → Addr → Result → Shared → Prop} (hc : X.calm = true) (hk : scope.kind = .function) (hok : compOk X.N xs scope.names X.env.scope.names = true)
    (hg : ∀ C fp s H, PG (blockCx X xs scope C fp s H) tg g) (hif : ∀ C fp s H, PIf (blockCx X xs scope C fp s H) ifs ti) (he : ∀ C fp s H, PE (blockCx X xs scope C fp s H) elt te)
    (h : PIE X pins σ tg (fun J H1 => ∃ W : Nat → Nat → List V → St → Hp → Prop, (∃ m, W 0 m [] (List.replicate xs.length none ++ σ) H1) ∧ ∀ i m ys σ' H', W i m ys σ' H' →
      (J.stop i H' ∧ ∀ p, H' p = none → Q (.ref p) (upd H' p (.lst ys))) ∨
      (J.go i H' ∧ ys.length < sizeLine ∧ ∃ N : List V → St → Hp → Prop, (∀ zs σ'' H'', N zs σ'' H'' → ∃ m', m' < m ∧ W (i + 1) m' zs σ'' H'') ∧
        ∀ x H2, J.yld i H' x H2 → g x σ' H2 fun σ2 H3 => ti σ2 H3 fun b H4 => if b = true then te σ2 H4 fun y H5 => N (ys ++ [y]) σ2 H5 else N ys σ2 H4)) itv s)
    (hR : ∀ D C H' m s', Inv X pins σ H' s' → Q (.ref D) H' → s'.heap.Ns C m → H' C = none → X.s₀.heap.objs.size ≤ C → C ≠ X.env.locals → (∀ x c, X.env.cells.lookup x = some c → c ≠ C) → (∀ p ∈ X.pn ++ pins, p.1 ≠ C) → R (.ref D) C (.ok .next) s') :
    wpAny (model X.prog X.w) X.A (newList []) (fun acc s₃ => wpAny (model X.prog X.w) X.A (newFunctionEnv scope X.env.globals (closL X.env.cells scope.names []) [] X.env.qual none .none (some X.env)) (fun cenv s₄ =>
      codeAny (model X.prog X.w) X.A (.compStart (.ListComp elt [⟨tg, iter, ifs, 0⟩] scope pos) 0 itv acc { cenv with scope := relabel scope X.env }) (R acc cenv.locals) s₄) E s₃) E s := by
  obtain ⟨it, fp, tn, J, H1, rfl, I, T, st0, hfp, W, ⟨m0, w0⟩, turn⟩ := h
  have hcell := compOk_cell hok
  refine wpAny_newObj_type (wpAny_newFunctionEnv hcell (by intro y hy; simp at hy) (fun h₁ hns₁ hsb₁ => ?_) hk)
  dsimp only at hns₁ hsb₁ ⊢
  generalize hH2 : s.heap.push { cls := .type "list", dict := none, data := .seq ([] : List Value).toArray } = G2 at hns₁ hsb₁ ⊢
  have hC : G2.objs.size = s.heap.objs.size + 1 := by rw [← hH2, Heap.size_push]
  have hDC : s.heap.objs.size ≠ G2.objs.size := by rw [hC]; exact Nat.ne_of_lt (Nat.lt_succ_self _)
  have hCle : s.heap.objs.size ≤ G2.objs.size := by rw [hC]; exact Nat.le_succ _
  have old : ∀ b o, s.heap.get? b = some o → h₁.get? b = some o := fun b o e => hsb₁.extBut b o (Nat.ne_of_lt (Nat.lt_of_lt_of_le (Heap.lt_size e) hCle)) (Heap.get?_push_of_some _ (hH2 ▸ Heap.get?_push_of_some _ e))
  have hacc : h₁.get? s.heap.objs.size = some { cls := .type "list", data := .seq ([] : List Value).toArray 0 } := hsb₁.extBut _ _ hDC (Heap.get?_push_of_some _ (hH2 ▸ Heap.get?_push_size _ rfl))
  have objs : ∀ b ∈ fp, ∃ o, s.heap.get? b = some o := fun b hb => let ⟨o, e, _⟩ := T.obj 0 _ st0 b hb; ⟨o, e⟩
  have ltf : ∀ b ∈ fp, b < s.heap.objs.size := fun b hb => let ⟨_, e⟩ := objs b hb; Heap.lt_size e
  generalize hD : s.heap.objs.size = D at *
  generalize hCC : G2.objs.size = C at *
  have J0 : Inv (blockCx X xs scope C fp s H1) [] (List.replicate xs.length none ++ σ) H1 { s with heap := h₁, toks := s.toks + ([] : List (Str × Value)).length } :=
    I.block hok hk hfp objs (by rw [hD]; exact hCle) hns₁ old rfl I.bare
  have cD : ∀ x c, X.env.cells.lookup x = some c → c ≠ D ∧ c ≠ C := fun x c h => by
    obtain ⟨v, q⟩ := I.cell x c h
    have := q.lt
    rw [hD] at this
    exact ⟨Nat.ne_of_lt this, Nat.ne_of_lt (Nat.lt_of_lt_of_le this hCle)⟩
  have pD : ∀ p ∈ X.pn ++ pins, p.1 ≠ D ∧ p.1 ≠ C := fun p hp => by
    have := Heap.lt_size (I.pin p hp).1
    rw [hD] at this
    exact ⟨Nat.ne_of_lt this, Nat.ne_of_lt (Nat.lt_of_lt_of_le this hCle)⟩
  have lL := I.lt
  have lS := I.sz
  rw [hD] at lL lS
  have lSC : X.s₀.heap.objs.size ≤ C := Nat.le_trans lS hCle
  have lLD : D ≠ X.env.locals := Nat.ne_of_gt lL
  have lLC : C ≠ X.env.locals := Nat.ne_of_gt (Nat.lt_of_lt_of_le lL hCle)
  have Dfs : D ∉ frs X.stack := fun z => by
    obtain ⟨_, o, ho, _⟩ := (I.stack).mem z
    have := Heap.lt_size ho
    rw [hD] at this
    exact Nat.lt_irrefl _ this
  have fpb : ∀ {H' : Hp} {ob : Obj}, (∀ b ∈ fp, H' b = none) → ∀ b ∈ fp, FpOk (blockCx X xs scope C fp s H1) [(D, ob)] H' b := fun {H' ob} hn b hb =>
    ⟨hn b hb, Nat.ne_of_lt (Nat.lt_of_lt_of_le (ltf b hb) hCle), fun z => by
      rcases List.mem_cons.mp (I.stkSub b z) with z | z
      · exact (hfp b hb).2.1 z
      · exact (hfp b hb).2.2.1 z, .inl hb, fun x c h => (hfp b hb).2.2.2.2.1 x c (closL_of h), fun p hp => by
        have e : p = (D, ob) := by simpa using hp
        rw [e]
        exact Nat.ne_of_gt (ltf b hb)⟩
  have loop : ∀ s₃ : Shared, s₃ = { s with heap := h₁, toks := s.toks + ([] : List (Str × Value)).length } →
      codeAny (model X.prog X.w) X.A (.compLoop (.ListComp elt [⟨tg, iter, ifs, 0⟩] scope pos) 0 (.ref it) (.ref D) (compEnvC scope (closL X.env.cells scope.names []) C X.env)) (R (.ref D) C) s₃ := by
    rintro s₃ rfl
    refine codeAny_compLoop_all (fun n s' => ∃ i σ' H' ys its k, Inv (blockCx X xs scope C fp s H1) [] σ' H' s' ∧ tn i s'.heap ∧ (∀ b ∈ fp, H' b = none) ∧ W i n ys σ' H' ∧ Vals ys its ∧ ys.length ≤ sizeLine ∧
      s'.heap.get? D = some { cls := .type "list", data := .seq its.toArray k } ∧ H' D = none) ?_ m0 ⟨0, _, H1, [], [], 0, J0, T.keep _ _ _ st0 fun b hb o e => old b o e, fun b hb => (hfp b hb).1, w0, .nil, Nat.zero_le _, hacc, I.hok.fresh (by rw [hD]; exact Nat.le_refl _)⟩
    rintro n s1 ⟨i, σ1, K1, ys, its, k, I1, st1, fr1, w1, rv, hz, hd, nd⟩
    have lys := rv.length
    generalize hob : ({ cls := .type "list", data := .seq its.toArray k } : Obj) = ob at hd
    have I1' : Inv (blockCx X xs scope C fp s H1) [(D, ob)] σ1 K1 s1 := I1.pins_of fun p hp => by
      have e : p = (D, ob) := by simpa using hp
      rw [e]
      exact ⟨hd, nd, hDC, Dfs, fun v => by rw [← hob]; exact fun z => by cases z⟩
    rcases turn i n ys σ1 K1 w1 with ⟨stop, qn⟩ | ⟨go, hlt, N, hN, step⟩
    · refine thn (T.done (blockCx X xs scope C fp s H1) rfl rfl rfl hc i [(D, ob)] s1 σ1 K1 (fun _ _ => False) I1' (fpb fr1) st1 stop) fun r s2 ⟨hr, I2⟩ => ?_
      subst hr
      have un := I.unblock hfp I2
      have hd2 := (I2.pin (D, ob) (by simp)).1
      obtain ⟨m2, hn2, _⟩ := I2.loc
      refine hR D C (upd K1 D (.lst ys)) m2 s2 (un.adopt nd lS lLD (fun x c h => (cD x c h).1) (fun p hp => (pD p hp).1) ⟨hz, its, k, rv, by rw [hob]; exact hd2⟩) (qn D nd) hn2 ?_ lSC lLC (fun x c h => (cD x c h).2) fun p hp => (pD p hp).2
      rw [upd_ne (Ne.symm hDC)]
      exact I2.free
    · refine thn (T.item (blockCx X xs scope C fp s H1) rfl rfl rfl hc i [(D, ob)] s1 σ1 K1 (fun _ _ => False) I1' (fpb fr1) st1 go) fun r s2 ⟨u, hr, h2⟩ => ?_
      subst hr
      refine thn h2 fun _ s3 ⟨x, H3, I3, r3, y3, st3, fr3⟩ => ?_
      have I3' := I3.pinned (fpb fr3) (T.obj _ _ st3)
      have again : ∀ {σ7 : St} {H7 : Hp} {s7 : Shared}, Inv (blockCx X xs scope C fp s H1) ([(D, ob)] ++ pinsAt fp s3.heap) σ7 H7 s7 → Inv (blockCx X xs scope C fp s H1) [] σ7 H7 s7 ∧ tn (i + 1) s7.heap ∧ (∀ b ∈ fp, H7 b = none) ∧ s7.heap.get? D = some ob ∧ H7 D = none := fun {σ7 H7 s7} I7 => by
        have pi : ∀ b ∈ fp, ∀ o, s3.heap.get? b = some o → s7.heap.get? b = some o ∧ H7 b = none := fun b hb o e => by
          have q := I7.pin (b, o) (List.mem_append_right _ (List.mem_append_right _ (mem_pinsAt hb e)))
          exact ⟨q.1, q.2.1⟩
        have pd := I7.pin (D, ob) (List.mem_append_right _ (List.mem_append_left _ (by simp)))
        refine ⟨I7.pins_of fun p hp => absurd hp (by simp), T.keep _ _ _ st3 fun b hb o e => (pi b hb o e).1, fun b hb => ?_, pd.1, pd.2.1⟩
        obtain ⟨o, e, _⟩ := T.obj _ _ st3 b hb
        exact (pi b hb o e).2
      refine thn (hg C fp s H1 _ s3 σ1 H3 x u _ I3' r3 (step x H3 y3)) fun _ s4 ⟨σ4, H4, I4, q4⟩ => ?_
      refine thn (hif C fp s H1 _ s4 σ4 H4 _ I4 q4) fun b s5 ⟨H5, I5, q5⟩ => ?_
      cases b with
      | false =>
        rw [if_neg Bool.false_ne_true] at q5 ⊢
        obtain ⟨m', hm, w5⟩ := hN _ _ _ q5
        obtain ⟨a1, a2, a3, a4, a5⟩ := again I5
        exact ⟨m', hm, i + 1, σ4, H5, ys, its, k, a1, a2, a3, w5, rv, hz, by rw [hob]; exact a4, a5⟩
      | true =>
        rw [if_pos rfl] at q5 ⊢
        refine thn (he C fp s H1 _ s5 σ4 H5 _ I5 q5) fun y s6 ⟨yv, H6, I6, r6, q6⟩ => ?_
        obtain ⟨m', hm, w6⟩ := hN _ _ _ q6
        obtain ⟨a1, a2, a3, a4, a5⟩ := again I6
        rw [← hob] at a4
        refine call_meets F.slot_list_append ⟨_, a4, rfl⟩ F.entry_list_append (F.args_list_append_2 _ _) (PySem.list_append D its.toArray k y (by rw [List.size_toArray]; omega)) ⟨a4, ?_⟩
        have qd : ∃ k', (s6.heap.update D (Obj.mapSeq fun z => z.push y)).get? D = some { cls := .type "list", data := .seq (its ++ [y]).toArray k' } := by
          have e : (its ++ [y]).toArray = its.toArray.push y := by simp
          rw [e]
          exact ⟨_, PySem.IsL.update a4 fun z => z.push y⟩
        obtain ⟨k', qd⟩ := qd
        refine ⟨m', hm, i + 1, σ4, H6, ys ++ [yv], its ++ [y], k', a1.turned (it := D) (t' := s6.toks) (fun b o hb e => (Heap.get?_update_other s6.heap _ (Ne.symm hb)).trans e) a5 hDC (.inr (Nat.le_of_eq hD)) (fun x c h => (cD x c (closL_of h)).1) (fun p hp => absurd (show p ∈ ([] : List (Addr × Obj)) from hp) (by simp)), ?_, a3, w6, rv.append (.cons r6 .nil), by rw [List.length_append]; exact hlt, qd, a5⟩
        exact T.keep _ _ _ a2 fun b hb o e => (Heap.get?_update_other s6.heap _ (fun z => by rw [← z] at hb; exact absurd (ltf D hb) (Nat.lt_irrefl _))).trans e
  exact codeAny_compStart_list (loop _ rfl) (T.self _ 0 _ _ _ (T.keep _ _ _ st0 fun b hb o e => old b o e) (loop _ rfl))
theorem pe_lcomp (hc : X.calm = true) (hi : PI X tg iter wi) (hg : ∀ C fp s H, PG (blockCx X xs scope C fp s H) tg g) (hif : ∀ C fp s H, PIf (blockCx X xs scope C fp s H) ifs ti) (he : ∀ C fp s H, PE (blockCx X xs scope C fp s H) elt te)
    (hk : scope.kind = .function := by rfl) (hok : compOk X.N xs scope.names X.env.scope.names = true := by rfl) (hs : ∀ x, foldedSetIterable iter X.env x = pure x := by intro _; rfl) :
    PE X (.ListComp elt [⟨tg, iter, ifs, 0⟩] scope pos) (tComp xs.length wi g ti te) := by
  intro pins s σ H Q I h
  rw [eval_ListComp]
  refine wpAny_comprehension_free (use := none) rfl hs (clos_eq (I.freeIn hok)) hk (compOk_local hok) (thn (hi pins s σ H _ I h) fun v s1 h1 => thn h1 fun itv s2 h2 => ?_)
  refine comp_block (Q := Q) hc hk hok hg hif he h2 fun D C H' m s' I' q hn c1 c2 c3 c4 c5 => ?_
  exact ⟨m, hn, fun h' sb => ⟨.ref D, H', I'.turned (it := C) (t' := s'.toks) (fun b o hb e => (sb.2 b hb).trans e) c1 c3 (.inr c2) c4 c5, rfl, q⟩⟩
theorem ps_set_lcomp {i : Nat} {x : Str} {pos' spos : Pos} (hc : X.calm = true) (hN : X.N.Nodup) (hx : X.N[i]? = some x) (hl : X.env.scope.names.lookup x = some .local) (hi : PI X tg iter wi) (hg : ∀ C fp s H, PG (blockCx X xs scope C fp s H) tg g) (hif : ∀ C fp s H, PIf (blockCx X xs scope C fp s H) ifs ti) (he : ∀ C fp s H, PE (blockCx X xs scope C fp s H) elt te)
    (hsw : swapsWith (.ListComp elt [⟨tg, iter, ifs, 0⟩] scope pos) (some (.Name x pos')) spos.line X.env = pure true := by rfl)
    (hk : scope.kind = .function := by rfl) (hok : compOk X.N xs scope.names X.env.scope.names = true := by rfl) (hs : ∀ x, foldedSetIterable iter X.env x = pure x := by intro _; rfl) :
    PS X (.Assign [.Name x pos'] (.ListComp elt [⟨tg, iter, ifs, 0⟩] scope pos) spos) (tAsg (tComp xs.length wi g ti te) (gName i)) := by
  intro pins s σ H D I h
  rw [exec_Assign_Name_used _ _ _ _ hsw]
  refine wpAny_bind (wpAny_standAt (wpAny_bind ?_))
  show wpAny _ X.A (do let _ ← comprehension (.ListComp elt [⟨tg, iter, ifs, 0⟩] scope pos) scope X.env _ (newList []) false (eval iter X.env) (some (assign (.Name x pos') X.env))) _ _ s
  refine wpAny_bind (wpAny_mono (wpAny_comprehension_free (use := some (assign (.Name x pos') X.env)) (Q := fun _ s' => SP X pins D .next s') rfl hs (clos_eq (I.freeIn hok)) hk (compOk_local hok)
    (thn (hi pins s σ H _ I h) fun v s1 h1 => thn h1 fun itv s2 h2 => ?_)) (fun _ s' hq => wpAny_pure (wpAny_pure hq)) fun _ _ e => e)
  refine comp_block (Q := fun v H' => D.nx (σ.set i (some v)) H') hc hk hok hg hif he h2 fun D' C H' m s' I' q hn c1 c2 c3 c4 c5 => ?_
  show wpAny _ X.A (assign (.Name x pos') X.env (.ref D')) _ _ _
  refine wpAny_assign_Name (store_ok2 I' hN hx (.inl hl) (v := .ref D') rfl (fun s'' I'' ⟨a, sb, ha⟩ => ?_) (.inr hl))
  have hCa : C ≠ a := by
    rcases ha with e | e
    · rw [e]; exact c3
    · exact Ne.symm (c4 _ _ e)
  exact ⟨m, hn.sameBut sb hCa, fun h' sb' => ⟨_, H', I''.turned (it := C) (t' := s''.toks) (fun b o hb e => (sb'.2 b hb).trans e) c1 c3 (.inr c2) c4 c5, q⟩⟩
end
end L2
namespace L2
open PySem PySem.Spec PyProof.Rows
noncomputable def ExcAt (h : Heap) (e : Addr) (cls : Value) (ch : List Addr) : Prop :=
  ∃ oe vs, h.get? e = some oe ∧ (oe.cls = cls ∧ oe.dict = none) ∧ oe.data = .fields vs ∧ 1 < vs.size ∧
    ((vs[1]? = some .none ∧ ch = [e]) ∨ ∃ T oT ts fl, vs[1]? = some (.ref T) ∧ ch = [e, T] ∧ T ≠ e ∧ h.get? T = some oT ∧ oT.data = .fields ts ∧ ts[3]? = some fl)
theorem dict_mapFields (o : Obj) (f : Array Value → Array Value) : (o.mapFields f).dict = o.dict := by
  unfold Obj.mapFields
  split <;> rfl
structure XT (fs ch : List Addr) (h h' : Heap) : Prop where
  keep : ∀ b o, b ∉ ch → b ∉ fs → h.get? b = some o → h'.get? b = some o
  slot : ∀ b o, b ∉ ch → h.get? b = some o → ∃ sl, h'.get? b = some { o with slots := sl }
  there : ∀ b o, h.get? b = some o → ∃ o', h'.get? b = some o'
theorem XT.refl {fs ch : List Addr} {h : Heap} : XT fs ch h h := ⟨fun _ _ _ _ e => e, fun _ o _ e => ⟨o.slots, e⟩, fun _ o e => ⟨o, e⟩⟩
theorem XT.trans {fs ch ch' : List Addr} {h h1 h2 : Heap} (a : XT fs ch h h1) (b : XT fs ch' h1 h2) (hc : ∀ x ∈ ch', x ∈ ch ∨ h.get? x = none) : XT fs ch h h2 where
  keep := fun x o n1 n2 e => b.keep x o (fun m => (hc x m).elim n1 fun z => by rw [z] at e; cases e) n2 (a.keep x o n1 n2 e)
  slot := fun x o n1 e => by
    obtain ⟨sl, e1⟩ := a.slot x o n1 e
    obtain ⟨sl2, e2⟩ := b.slot x _ (fun m => (hc x m).elim n1 fun z => by rw [z] at e; cases e) e1
    exact ⟨sl2, e2⟩
  there := fun x o e => by
    obtain ⟨o1, e1⟩ := a.there x o e
    exact b.there x o1 e1
theorem XT.mono {fs ch ch' : List Addr} {h h' : Heap} (a : XT fs ch h h') (hc : ∀ x ∈ ch, x ∈ ch' ∨ h.get? x = none) : XT fs ch' h h' where
  keep := fun x o n1 n2 e => a.keep x o (fun m => (hc x m).elim n1 fun z => by rw [z] at e; cases e) n2 e
  slot := fun x o n1 e => a.slot x o (fun m => (hc x m).elim n1 fun z => by rw [z] at e; cases e) e
  there := a.there
section
variable {M : Model} {A : Around} {E : Value → Shared → Prop} {s : Shared} {base : Heap} {env : Env} {outer : List Env} {L e : Addr} {cls : Value} {ch : List Addr} {Q : Unit → Shared → Prop}
theorem FunFrames.noFields {h : Heap} {l : List Env} {o : Obj} {vs : Array Value} (hl : h.FunFrames base l) (he : h.get? e = some o) (hd : o.data = .fields vs) : e ∉ frs l := fun hm => by
  obtain ⟨_, o', ho, hnf⟩ := hl.mem hm
  rw [he] at ho; cases ho
  exact hnf vs hd
theorem entry_x {oe : Obj} {vs : Array Value} {head : Value} {hadNext : Bool}
    (hfr : A.frames = some (env :: outer)) (hl : s.heap.FunFrames base (env :: outer)) (hf : env.frame = some L)
    (he : s.heap.get? e = some oe) (hd : oe.data = .fields vs) (hsz : 1 < vs.size)
    (h : ∀ h', XT (frs (env :: outer)) [e] s.heap h' → (∃ oe' vs' T oT ts, h'.get? e = some oe' ∧ (oe'.cls = oe.cls ∧ oe'.dict = oe.dict) ∧ oe'.data = .fields vs' ∧ 1 < vs'.size ∧ vs'[1]? = some (.ref T) ∧ T ≠ e ∧ s.heap.get? T = none ∧ s.heap.objs.size ≤ T ∧ h'.get? T = some oT ∧ oT.data = .fields ts ∧ ts[3]? = some (rawInt L)) → Q () { s with heap := h' }) :
    wpAny M A (do let a ← frameOf env; let pl ← entryPlaceOf L hadNext; let b ← EntryCells.newEntry head a .none (rawInt L) .none pl; setField (.ref e) 1 b) Q E s := by
  have hene := FunFrames.noFields hl he hd
  refine wpAny_bind (wpAny_frameOf_fun hfr hl hf fun h₁ hs₁ => ?_)
  refine wpAny_bind (wpAny_entryPlaceOf fun pl hpl => ?_)
  unfold EntryCells.newEntry newFields
  refine wpAny_bind (wpAny_newObj_type ?_ (hpl.sizeOk5 _ _ _ _ _))
  have he₁ : h₁.get? e = some oe := (hs₁.2.1 e hene).trans he
  have he₂ := Heap.get?_push_of_some (h := h₁) { cls := .type "traceback", dict := none, data := .fields ([head, .ref L, .none, rawInt L, .none] ++ (if pl.isEmpty then List.replicate 6 Value.none else pl)).toArray } he₁
  refine wpAny_setField he₂ hd hsz (h _ ?_ ?_)
  all_goals have hTe : h₁.objs.size ≠ e := Nat.ne_of_gt (Heap.lt_size he₁)
  all_goals have hd₃ := Obj.data_mapFields hd (·.setIfInBounds 1 (Value.ref h₁.objs.size))
  all_goals have he₃ := Heap.get?_update_self (Obj.mapFields (·.setIfInBounds 1 (Value.ref h₁.objs.size))) he₂ (Obj.isFreed_of_fields hd₃)
  · have keep : ∀ b o, b ≠ e → h₁.get? b = some o →
      ((h₁.push { cls := .type "traceback", dict := none, data := .fields ([head, .ref L, .none, rawInt L, .none] ++ (if pl.isEmpty then List.replicate 6 Value.none else pl)).toArray }).update e (Obj.mapFields (·.setIfInBounds 1 (Value.ref h₁.objs.size)))).get? b = some o :=
      fun b o hbe hb => by
        rw [Heap.get?_update_other _ _ (Ne.symm hbe)]
        exact Heap.get?_push_of_some _ hb
    refine ⟨fun b o n1 n2 q => keep b o (by simpa using n1) ((hs₁.2.1 b n2).trans q), fun b o n1 q => ?_, fun b o q => ?_⟩
    · obtain ⟨sl, q1⟩ := hs₁.2.2 b o q
      exact ⟨sl, keep b _ (by simpa using n1) q1⟩
    · by_cases hb : b = e
      · subst hb; exact ⟨_, he₃⟩
      · obtain ⟨sl, q1⟩ := hs₁.2.2 b o q
        exact ⟨_, keep b _ hb q1⟩
  · have hT₃ := (Heap.get?_update_other (h₁.push { cls := .type "traceback", dict := none, data := .fields ([head, .ref L, .none, rawInt L, .none] ++ (if pl.isEmpty then List.replicate 6 Value.none else pl)).toArray })
      (Obj.mapFields (·.setIfInBounds 1 (Value.ref h₁.objs.size))) (Ne.symm hTe)).trans (Heap.get?_push_size h₁ rfl)
    have hsz1 : s.heap.objs.size ≤ h₁.objs.size := Nat.le_of_eq hs₁.1.symm
    refine ⟨_, _, h₁.objs.size, _, _, he₃, ⟨Obj.cls_mapFields _ _, dict_mapFields _ _⟩, hd₃, by simpa using hsz, by simp [hsz], hTe, ?_, hsz1, hT₃, rfl, by first | (simp; done) | (rcases hpl with rfl | ⟨_, _, _, _, _, _, _, rfl⟩ <;> simp)⟩
    cases q : s.heap.get? h₁.objs.size with
    | none => rfl
    | some o => exact absurd (Heap.lt_size q) (Nat.not_lt_of_le hsz1)
noncomputable def Marked (h0 h : Heap) (e : Addr) (cls : Value) (ch ch' : List Addr) (fl : Value) : Prop :=
  ∃ oe vs T oT ts, h.get? e = some oe ∧ (oe.cls = cls ∧ oe.dict = none) ∧ oe.data = .fields vs ∧ 1 < vs.size ∧ vs[1]? = some (.ref T) ∧ ch' = [e, T] ∧ T ≠ e ∧ h.get? T = some oT ∧ oT.data = .fields ts ∧ ts[3]? = some fl ∧ (T ∈ ch ∨ (h0.get? T = none ∧ h0.objs.size ≤ T))
theorem Marked.exc {h0 h : Heap} {ch' : List Addr} {fl : Value} (x : Marked h0 h e cls ch ch' fl) : ExcAt h e cls ch' := by
  obtain ⟨oe, vs, T, oT, ts, h1, h2, h3, h4, h5, h6, h7, h8, h9, h10, _⟩ := x
  exact ⟨oe, vs, h1, h2, h3, h4, .inr ⟨T, oT, ts, fl, h5, h6, h7, h8, h9, h10⟩⟩
theorem Marked.new {h0 h : Heap} {ch' : List Addr} {fl : Value} (x : Marked h0 h e cls ch ch' fl) (he : e ∈ ch) : ∀ b ∈ ch', b ∈ ch ∨ (h0.get? b = none ∧ h0.objs.size ≤ b) := by
  obtain ⟨oe, vs, T, oT, ts, h1, h2, h3, h4, h5, h6, h7, h8, h9, h10, h11⟩ := x
  subst h6
  intro b hb
  simp only [List.mem_cons, List.not_mem_nil, or_false] at hb
  rcases hb with rfl | rfl
  · exact .inl he
  · exact h11
theorem ExcAt.mem {h : Heap} (x : ExcAt h e cls ch) : e ∈ ch := by
  obtain ⟨_, _, _, _, _, _, ⟨_, rfl⟩ | ⟨_, _, _, _, _, rfl, _⟩⟩ := x <;> simp
theorem FunFrames.xt {h h' : Heap} {l : List Env} (hl : h.FunFrames base l) (hx : XT (frs l) ch h h') (hc : ∀ b ∈ ch, ∃ o vs, h.get? b = some o ∧ o.data = .fields vs) : h'.FunFrames base l :=
  hl.of_keeps fun b o ho hn => by
    obtain ⟨sl, q⟩ := hx.slot b o (fun m => by obtain ⟨o', vs, z1, z2⟩ := hc b m; rw [ho] at z1; cases z1; exact hn vs z2) ho
    exact ⟨_, q, rfl⟩
theorem ExcAt.recs {h : Heap} (x : ExcAt h e cls ch) : ∀ b ∈ ch, ∃ o vs, h.get? b = some o ∧ o.data = .fields vs := by
  obtain ⟨oe, vs, h1, h2, h3, h4, ⟨h5, rfl⟩ | ⟨T, oT, ts, fl, h5, rfl, h6, h7, h8, h9⟩⟩ := x
  · intro b hb
    simp only [List.mem_cons, List.not_mem_nil, or_false] at hb
    subst hb
    exact ⟨oe, vs, h1, h3⟩
  · intro b hb
    simp only [List.mem_cons, List.not_mem_nil, or_false] at hb
    rcases hb with rfl | rfl
    · exact ⟨oe, vs, h1, h3⟩
    · exact ⟨oT, ts, h7, h8⟩
theorem note_x (hfr : A.frames = some (env :: outer)) (hl : s.heap.FunFrames base (env :: outer)) (hf : env.frame = some L) (x : ExcAt s.heap e cls ch)
    (h : ∀ h' ch', XT (frs (env :: outer)) ch s.heap h' → Marked s.heap h' e cls ch ch' (rawInt L) → Q () { s with heap := h' }) : wpAny M A (noteFrame (.ref e) env) Q E s := by
  have hrec := x.recs
  obtain ⟨oe, vs, he, ⟨rfl, hdi⟩, hd, hsz, ⟨h1, rfl⟩ | ⟨T, oT, ts, fl, h1, rfl, hTe, hT, hdT, h3⟩⟩ := x
  · unfold noteFrame
    simp only [hf]
    refine wpAny_bind (wpAny_field he hd h1 ?_)
    rw [if_neg (by decide)]
    refine entry_x hfr hl hf he hd hsz fun h' xt m => ?_
    obtain ⟨oe', vs', T, oT, ts, q1, q2, q3, q4, q5, q6, q7, q8, q9, q10, q11⟩ := m
    exact h h' [e, T] xt ⟨oe', vs', T, oT, ts, q1, ⟨q2.1, q2.2.trans hdi⟩, q3, q4, q5, rfl, q6, q9, q10, q11, .inr ⟨q7, q8⟩⟩
  · unfold noteFrame
    simp only [hf]
    refine wpAny_bind (wpAny_field he hd h1 ?_)
    rw [if_pos (show (Value.ref T != Value.none) = true from by simp)]
    refine wpAny_bind (wpAny_field hT hdT h3 ?_)
    by_cases hfl : fl = rawInt L
    · subst hfl
      rw [if_pos (show (rawInt L == rawInt L) = true from by simp)]
      exact wpAny_pure (h s.heap [e, T] XT.refl ⟨oe, vs, T, oT, ts, he, ⟨rfl, hdi⟩, hd, hsz, h1, rfl, hTe, hT, hdT, h3, .inl (by simp)⟩)
    · rw [if_neg (show ¬ ((fl == rawInt L) = true) from fun z => hfl (beq_iff_eq.mp z))]
      refine wpAny_bind (wpAny_setField hT hdT (Array.getElem?_eq_some_iff.mp h3).1 ?_)
      have other : ∀ b, b ≠ T → (s.heap.update T (Obj.mapFields (·.setIfInBounds 3 Value.none))).get? b = s.heap.get? b := fun b hb => Heap.get?_update_other _ _ (Ne.symm hb)
      have hself := Heap.get?_update_self (Obj.mapFields (·.setIfInBounds 3 Value.none)) hT (Obj.isFreed_of_fields (Obj.data_mapFields hdT _))
      have xt1 : XT (frs (env :: outer)) [e, T] s.heap (s.heap.update T (Obj.mapFields (·.setIfInBounds 3 Value.none))) := by
        refine ⟨fun b o n1 n2 q => (other b (by simp at n1; exact n1.2)).trans q, fun b o n1 q => ⟨o.slots, (other b (by simp at n1; exact n1.2)).trans q⟩, fun b o q => ?_⟩
        by_cases hb : b = T
        · subst hb; exact ⟨_, hself⟩
        · exact ⟨o, (other b hb).trans q⟩
      refine entry_x hfr (FunFrames.xt hl xt1 hrec) hf ((other e (Ne.symm hTe)).trans he) hd hsz fun h' xt m => ?_
      obtain ⟨oe', vs', T', oT', ts', q1, q2, q3, q4, q5, q6, q7, q8, q9, q10, q11⟩ := m
      have hn : s.heap.get? T' = none := by
        cases z : s.heap.get? T' with
        | none => rfl
        | some o =>
          obtain ⟨o', z'⟩ := xt1.there T' o z
          have q7 : (s.heap.update T (Obj.mapFields (·.setIfInBounds 3 Value.none))).get? T' = none := q7
          rw [q7] at z'; cases z'
      have hs' : s.heap.objs.size ≤ T' := by
        have q8 : (s.heap.update T (Obj.mapFields (·.setIfInBounds 3 Value.none))).objs.size ≤ T' := q8
        rwa [Heap.size_after_update] at q8
      exact h h' [e, T'] (xt1.trans xt fun b hb => by simp only [List.mem_cons, List.not_mem_nil, or_false] at hb; subst hb; exact .inl (by simp)) ⟨oe', vs', T', oT', ts', q1, ⟨q2.1, q2.2.trans hdi⟩, q3, q4, q5, rfl, q6, q9, q10, q11, .inr ⟨hn, hs'⟩⟩
theorem flight_x {fs : List Addr} (x : ExcAt s.heap e cls ch) (h : ∀ h', XT fs ch s.heap h' → ExcAt h' e cls ch → Q () { s with heap := h' }) : wpAny M A (setFlight (.ref e) none) Q E s := by
  obtain ⟨oe, vs, he, ⟨rfl, hdi⟩, hd, hsz, ⟨h1, rfl⟩ | ⟨T, oT, ts, fl, h1, rfl, hTe, hT, hdT, h3⟩⟩ := x
  · unfold setFlight
    refine wpAny_bind (wpAny_field he hd h1 ?_)
    rw [if_neg (by decide)]
    exact wpAny_pure (h s.heap XT.refl ⟨oe, vs, he, ⟨rfl, hdi⟩, hd, hsz, .inl ⟨h1, rfl⟩⟩)
  · unfold setFlight
    refine wpAny_bind (wpAny_field he hd h1 ?_)
    rw [if_pos (show (Value.ref T != Value.none) = true from by simp)]
    have hsz3 := (Array.getElem?_eq_some_iff.mp h3).1
    have other : ∀ b, b ≠ T → (s.heap.update T (Obj.mapFields (·.setIfInBounds 3 ((none : Option Addr).elim Value.none fun f => rawInt f)))).get? b = s.heap.get? b := fun b hb => Heap.get?_update_other _ _ (Ne.symm hb)
    have hself := Heap.get?_update_self (Obj.mapFields (·.setIfInBounds 3 ((none : Option Addr).elim Value.none fun f => rawInt f))) hT (Obj.isFreed_of_fields (Obj.data_mapFields hdT _))
    refine wpAny_setField hT hdT hsz3 (h _ ?_ ?_)
    · refine ⟨fun b o n1 n2 q => (other b (by simp at n1; exact n1.2)).trans q, fun b o n1 q => ⟨o.slots, (other b (by simp at n1; exact n1.2)).trans q⟩, fun b o q => ?_⟩
      by_cases hb : b = T
      · subst hb; exact ⟨_, hself⟩
      · exact ⟨o, (other b hb).trans q⟩
    · exact ⟨oe, vs, (other e (Ne.symm hTe)).trans he, ⟨rfl, hdi⟩, hd, hsz, .inr ⟨T, _, _, _, h1, rfl, hTe, hself, Obj.data_mapFields hdT _, by simp [hsz3]; rfl⟩⟩
theorem leave_x (hfr : A.frames = some (env :: outer)) (hl : s.heap.FunFrames base (env :: outer)) (hf : env.frame = some L) (x : ExcAt s.heap e cls ch)
    (h : ∀ h' ch', XT (frs (env :: outer)) ch s.heap h' → ExcAt h' e cls ch' → (∀ b ∈ ch', b ∈ ch ∨ (s.heap.get? b = none ∧ s.heap.objs.size ≤ b)) → Q () { s with heap := h' }) : wpAny M A (leaving env (.ref e)) Q E s := by
  have hm := x.mem
  unfold leaving
  refine wpAny_bind (note_x hfr hl hf x fun h1 ch1 xt1 m1 => ?_)
  have hn := m1.new hm
  refine flight_x (fs := frs (env :: outer)) m1.exc fun h2 xt2 e2 => ?_
  exact h h2 ch1 (xt1.trans xt2 fun b hb => (hn b hb).imp id (·.1)) e2 hn
end
section
variable {X : Cx} {pins : List (Addr × Obj)} {σ : St} {H H' : Hp} {s : Shared} {h' : Heap} {ch : List Addr} {b : Addr}
structure Loose (X : Cx) (pins : List (Addr × Obj)) (H : Hp) (b : Addr) : Prop where
  un : H b = none
  new : b ∈ X.ex ∨ X.s₀.heap.get? b = none
  fr : b ≠ X.env.locals
  cell : ∀ x c, X.env.cells.lookup x = some c → c ≠ b
  pin : ∀ p ∈ X.pn ++ pins, p.1 ≠ b
theorem ObjOk.there {P : Program} {w : World} {h : Heap} {a : Addr} {o : HO} (x : ObjOk P w H h a o) : ∃ ob, h.get? a = some ob := by
  cases o with
  | lst xs => obtain ⟨_, _, _, _, e⟩ := x; exact ⟨_, e⟩
  | tup xs => obtain ⟨_, _, _, _, e, _⟩ := x; exact ⟨_, e⟩
  | dK kvs => obtain ⟨_, _, _, _, o, _, _, e, _⟩ := x; exact ⟨_, e⟩
  | dT kvs => obtain ⟨_, _, _, _, o, _, _, e, _⟩ := x; exact ⟨_, e⟩
  | set S n => obtain ⟨o, _, _, _, e, _⟩ := x; exact ⟨_, e⟩
  | ins C dx fs => obtain ⟨_, _, _, e, _⟩ := x; exact ⟨_, e⟩
  | own y => obtain ⟨_, e⟩ := x; exact ⟨_, e⟩
  | xd fs => obtain ⟨_, ⟨_, _, _, e, _⟩, _⟩ := x; exact ⟨_, e⟩
  | rng lo hi => obtain ⟨_, _, _, e⟩ := x; exact ⟨_, e⟩
  | frz o u => exact ⟨_, x.1⟩
  | tbl ps => exact ⟨_, x⟩
  | met f y => exact ⟨_, x⟩
  | ext φ => exact x.2.1
theorem HOk.none {P : Program} {w : World} {h : Heap} {a : Addr} (x : HOk P w H h) (e : h.get? a = Option.none) : H a = Option.none := by
  cases q : H a with
  | none => rfl
  | some u =>
    obtain ⟨o, z⟩ := (x a u q).there
    rw [e] at z; cases z
theorem Loose.of (I : Inv X pins σ H s) (hn : H' b = none) (h : s.heap.get? b = none) : Loose X pins H' b := by
  refine ⟨hn, ?_, fun e => ?_, fun x c e z => ?_, fun p hp z => ?_⟩
  · by_cases hx : b ∈ X.ex
    · exact .inl hx
    · refine .inr ?_
      cases q : X.s₀.heap.get? b with
      | none => rfl
      | some o =>
        obtain ⟨o', e⟩ := I.base.there b o q hx
        rw [h] at e; cases e
  · obtain ⟨m, ⟨o, es, ep, ho, _⟩, _⟩ := I.loc
    rw [← e, h] at ho; cases ho
  · obtain ⟨v, o, ho, _⟩ := I.cell x c e
    rw [z, h] at ho; cases ho
  · have := (I.pin p hp).1
    rw [z, h] at this; cases this
theorem XT.hok (I : Inv X pins σ H s) (x : XT (frs X.stack) ch s.heap h') (hc : ∀ b ∈ ch, H b = none) : HOk X.prog X.w H h' := fun a o e =>
  (I.hok a o e).stay (fun b u hb q => x.keep b u (fun m => by
    have := hc b m
    rcases hb with rfl | hb
    · rw [e] at this; cases this
    · rw [hb] at this; cases this) (fun m => by
    have := I.stkFree b m
    rcases hb with rfl | hb
    · rw [e] at this; cases this
    · rw [hb] at this; cases this) q) (fun _ q => q) fun _ _ q => q
theorem Inv.xt (I : Inv X pins σ H s) (x : XT (frs X.stack) ch s.heap h') (hc : ∀ b ∈ ch, Loose X pins H b) : Inv X pins σ H { s with heap := h' } := by
  have nl : ∀ b o, X.s₀.heap.get? b = some o → b ≠ X.env.locals := fun b o q e => Nat.lt_irrefl _ (Nat.lt_of_lt_of_le (Heap.lt_size q) (by rw [e]; exact I.ok.above))
  have nc : ∀ b o, X.s₀.heap.get? b = some o → b ∉ X.ex → b ∉ ch := fun b o q hx m => by rw [(hc b m).new.resolve_left hx] at q; cases q
  have cells : ∀ c v, (∃ y, X.env.cells.lookup y = some c) → s.heap.IsCell c v → h'.IsCell c v := fun c v ⟨y, e⟩ ⟨o, ho, hd⟩ => by
    obtain ⟨sl, q⟩ := x.slot c o (fun m => (hc c m).cell y c e rfl) ho
    exact ⟨_, q, hd⟩
  refine ⟨I.ok, I.os, I.bare, ⟨fun b o q n hf hx => x.keep b o (nc b o q hx) (fun z => (List.mem_cons.mp (I.stkSub b z)).elim (nl b o q) hf) (I.base.keep b o q n hf hx), fun b o q n hf hx => ?_, I.base.free, fun b o q hx => ?_, I.base.tups, I.base.frzs, I.base.tbls⟩, ?_, fun y c e => ?_, I.free, I.freeC, fun p hp => ?_, x.hok I fun b hb => (hc b hb).un, I.len⟩
  · obtain ⟨sl, e⟩ := I.base.slot b o q n hf hx
    obtain ⟨sl2, e2⟩ := x.slot b _ (nc b o q hx) e
    exact ⟨sl2, e2⟩
  · obtain ⟨o1, e1⟩ := I.base.there b o q hx
    exact x.there b o1 e1
  · obtain ⟨m, ⟨o, es, ep, ho, r⟩, hl⟩ := I.loc
    obtain ⟨sl, q⟩ := x.slot X.env.locals o (fun mm => (hc _ mm).fr rfl) ho
    refine ⟨m, ⟨_, es, ep, q, r⟩, fun i y v e1 e2 e3 => ?_⟩
    obtain ⟨u, r1, lk⟩ := hl i y v e1 e2 e3
    refine ⟨u, r1, ?_⟩
    rcases lk with lk | ⟨lk, c, c1, c2⟩
    · exact .inl lk
    · exact .inr ⟨lk, c, c1, cells c _ ⟨y, c1⟩ c2⟩
  · obtain ⟨v, q⟩ := I.cell y c e
    exact ⟨v, cells c v ⟨y, e⟩ q⟩
  · obtain ⟨e, n, ne, nf, d⟩ := I.pin p hp
    exact ⟨x.keep p.1 p.2 (fun m => (hc p.1 m).pin p hp rfl) (fun z => (List.mem_cons.mp (I.stkSub p.1 z)).elim ne nf) e, n, ne, nf, d⟩
noncomputable def Fly (X : Cx) (pins : List (Addr × Obj)) (H : Hp) (s : Shared) (nm : Str) (e : Value) : Prop :=
  ∃ a cls ch, e = .ref a ∧ PySem.W.nsIn X.K mainGlobals nm = some (some cls) ∧ ExcAt s.heap a cls ch ∧ ∀ b ∈ ch, Loose X pins H b
end
end L2
namespace L2
open PySem PySem.Spec PyProof.Rows
noncomputable abbrev D := PyData
noncomputable abbrev DS := List (Option D)
inductive Res (α : Type) where
  | ok (a : α) (δ : DS)
  | err (x : D) (δ : DS)
  | stuck
noncomputable def Res.bind {α β : Type} : Res α → (α → DS → Res β) → Res β
  | .ok a δ, k => k a δ
  | .err x δ, _ => .err x δ
  | .stuck, _ => .stuck
noncomputable abbrev M (α : Type) := DS → Res α
structure Ent where
  F0 : Hp
  H0 : Hp
  g0 : Addr → Option (Nat × List Nat)
  ps : List Nat
  σ0 : St
  owp : List Nat
  wf : ∀ a i q, g0 a = some (i, q) → i ∈ ps
noncomputable abbrev Lab := Nat × List Nat
noncomputable def OwnR (K : PySem.W.Frag) (F H : Hp) (g : Addr → Option Lab) (i : Nat) : Nat → List Nat → D → V → Prop
  | 0, _, d, v => Rep K F d v
  | n + 1, p, d, v => ∃ (a : Addr) (ds : List D) (vs : List V), d = .list ds ∧ v = .ref a ∧ g a = some (i, p) ∧ H a = some (.lst vs) ∧ F a = none ∧ ds.length = vs.length ∧
      ∀ (k : Nat) (d' : D) (v' : V), ds[k]? = some d' → vs[k]? = some v' → OwnR K F H g i n (p ++ [k]) d' v'
structure RelG (K : PySem.W.Frag) (Z : Ent) (ow : List Nat) (g : Addr → Option Lab) (F H : Hp) (σ : St) (δ : DS) : Prop where
  sub : Same F H
  f0 : Same Z.F0 F
  kept : ∀ b o, Z.g0 b = none → Z.H0 b = some o → H b = some o
  new : ∀ a, Z.F0 a = none → Z.H0 a ≠ none → F a = none
  there : ∀ b, Z.H0 b ≠ none → H b ≠ none
  lab : ∀ a i p, g a = some (i, p) → Z.H0 a = none ∨ ∃ q, Z.g0 a = some (i, q)
  len : δ.length = σ.length
  par : ∀ i ∈ Z.ps, σ[i]? = Z.σ0[i]? ∧ ow.getD i 0 = Z.owp.getD i 0
  slot : ∀ (i : Nat) (d : D), δ[i]? = some (some d) → ∃ v, σ[i]? = some (some v) ∧ OwnR K F H g i (ow.getD i 0) [] d v
noncomputable def Rel (K : PySem.W.Frag) (Z : Ent) (ow : List Nat) (F H : Hp) (σ : St) (δ : DS) : Prop := ∃ g, RelG K Z ow g F H σ δ
noncomputable def RelX (K : PySem.W.Frag) (Z : Ent) (ow : List Nat) (n : Nat) (d : D) (v : V) (F H : Hp) (σ : St) (δ : DS) : Prop := ∃ g, RelG K Z ow g F H σ δ ∧ OwnR K F H g 1000 n [] d v
theorem Same.trans' {H H1 H2 : Hp} (a : Same H H1) (b : Same H1 H2) : Same H H2 := fun c o h => b c o (a c o h)
theorem RepAll.len {K : PySem.W.Frag} {F : Hp} : ∀ {ds : List D} {vs : List V}, RepAll K F ds vs → ds.length = vs.length
  | [], vs, h => by unfold RepAll at h; rw [h]; rfl
  | d :: ds, vs, h => by
    unfold RepAll at h
    obtain ⟨x, r, rfl, _, h⟩ := h
    rw [List.length_cons, List.length_cons, RepAll.len h]
theorem RepAll.get {K : PySem.W.Frag} {F : Hp} : ∀ {ds : List D} {vs : List V} {i : Nat} {d : D}, RepAll K F ds vs → ds[i]? = some d → ∃ v, vs[i]? = some v ∧ Rep K F d v
  | d :: ds, vs, 0, d', h, e => by
    unfold RepAll at h
    obtain ⟨x, r, rfl, hx, h⟩ := h
    cases e
    exact ⟨x, rfl, hx⟩
  | d :: ds, vs, i + 1, d', h, e => by
    unfold RepAll at h
    obtain ⟨x, r, rfl, hx, h⟩ := h
    exact RepAll.get (i := i) h e
theorem RepAll.of {K : PySem.W.Frag} {F : Hp} : ∀ {ds : List D} {vs : List V}, ds.length = vs.length → (∀ (k : Nat) (d : D) (v : V), ds[k]? = some d → vs[k]? = some v → Rep K F d v) → RepAll K F ds vs
  | [], [], _, _ => by unfold RepAll; rfl
  | d :: ds, v :: vs, hl, h => by
    unfold RepAll
    exact ⟨v, vs, rfl, h 0 d v rfl rfl, RepAll.of (by simpa using hl) fun k d' v' e1 e2 => h (k + 1) d' v' e1 e2⟩
theorem RepAll.both {K : PySem.W.Frag} {F : Hp} {ds : List D} {vs : List V} (h : RepAll K F ds vs) (k : Nat) (d : D) (v : V) (e1 : ds[k]? = some d) (e2 : vs[k]? = some v) : Rep K F d v := by
  obtain ⟨v', e, r⟩ := h.get e1
  rw [e2] at e; cases e
  exact r
theorem repNil {K : PySem.W.Frag} {F : Hp} : RepAll K F [] [] := by unfold RepAll; rfl
theorem repCons {K : PySem.W.Frag} {F : Hp} {d : D} {v : V} {ds : List D} {vs : List V} (h : Rep K F d v) (t : RepAll K F ds vs) : RepAll K F (d :: ds) (v :: vs) := by unfold RepAll; exact ⟨v, vs, rfl, h, t⟩
theorem RepAll.app {K : PySem.W.Frag} {F : Hp} : ∀ {ds es : List D} {vs ws : List V}, RepAll K F ds vs → RepAll K F es ws → RepAll K F (ds ++ es) (vs ++ ws)
  | [], es, vs, ws, h, t => by unfold RepAll at h; rw [h]; exact t
  | d :: ds, es, vs, ws, h, t => by
    unfold RepAll at h
    obtain ⟨x, r, rfl, hx, h⟩ := h
    exact repCons hx (RepAll.app h t)
theorem RepAll.take {K : PySem.W.Frag} {F : Hp} {ds : List D} {vs : List V} (n : Nat) (h : RepAll K F ds vs) : RepAll K F (ds.take n) (vs.take n) :=
  RepAll.of (by rw [List.length_take, List.length_take, h.len]) fun k d v e1 e2 => by
    rw [List.getElem?_take] at e1 e2
    split at e1
    · rw [if_pos (by assumption)] at e2; exact h.both k d v e1 e2
    · cases e1
theorem RepAll.drop {K : PySem.W.Frag} {F : Hp} {ds : List D} {vs : List V} (n : Nat) (h : RepAll K F ds vs) : RepAll K F (ds.drop n) (vs.drop n) :=
  RepAll.of (by rw [List.length_drop, List.length_drop, h.len]) fun k d v e1 e2 => by
    rw [List.getElem?_drop] at e1 e2
    exact h.both _ d v e1 e2
theorem OwnR.mono {K : PySem.W.Frag} {F F' H H' : Hp} {g g' : Addr → Option Lab} {i : Nat} (hF : Same F F') (hg : ∀ a l, l.1 = i → g a = some l → g' a = some l) (hn : ∀ a l, l.1 = i → g a = some l → F a = none → F' a = none) (hH : ∀ a l o, l.1 = i → g a = some l → H a = some o → H' a = some o) :
    ∀ {n : Nat} {p : List Nat} {d : D} {v : V}, OwnR K F H g i n p d v → OwnR K F' H' g' i n p d v
  | 0, _, d, v, h => hF.rep d v h
  | n + 1, p, d, v, ⟨a, ds, vs, e1, e2, e3, e4, e5, e6, h⟩ =>
    ⟨a, ds, vs, e1, e2, hg a _ rfl e3, hH a _ _ rfl e3 e4, hn a _ rfl e3 e5, e6, fun k d' v' q1 q2 => OwnR.mono hF hg hn hH (h k d' v' q1 q2)⟩
theorem OwnR.relab {K : PySem.W.Frag} {F H : Hp} {g g' : Addr → Option Lab} {i j : Nat} (hg : ∀ a p, g a = some (i, p) → g' a = some (j, p)) : ∀ {n : Nat} {p : List Nat} {d : D} {v : V}, OwnR K F H g i n p d v → OwnR K F H g' j n p d v
  | 0, _, _, _, h => h
  | _ + 1, _, _, _, ⟨a, ds, vs, e1, e2, e3, e4, e5, e6, h⟩ => ⟨a, ds, vs, e1, e2, hg a _ e3, e4, e5, e6, fun k d' v' q1 q2 => OwnR.relab hg (h k d' v' q1 q2)⟩
noncomputable def fzH (g : Addr → Option Lab) (i : Nat) (F H : Hp) : Hp := fun b => open Classical in if ∃ p, g b = some (i, p) then (if F b = none then H b else F b) else F b
theorem fzH_in {g : Addr → Option Lab} {i : Nat} {F H : Hp} {b : Addr} {p : List Nat} (h : g b = some (i, p)) (hn : F b = none) : fzH g i F H b = H b := by
  unfold fzH; rw [if_pos ⟨p, h⟩, if_pos hn]
theorem fzH_out {g : Addr → Option Lab} {i : Nat} {F H : Hp} {b : Addr} (h : ∀ p, g b ≠ some (i, p)) : fzH g i F H b = F b := by
  unfold fzH; rw [if_neg fun ⟨p, e⟩ => h p e]
theorem fzH_same {g : Addr → Option Lab} {i : Nat} {F H : Hp} : Same F (fzH g i F H) := fun b o e => by
  unfold fzH
  split
  · rw [if_neg (by rw [e]; simp)]; exact e
  · exact e
theorem fzH_sub {g : Addr → Option Lab} {i : Nat} {F H : Hp} (hs : Same F H) : Same (fzH g i F H) H := fun b o e => by
  unfold fzH at e
  split at e
  · split at e
    · exact e
    · exact hs b o e
  · exact hs b o e
theorem OwnR.freeze {K : PySem.W.Frag} {F H : Hp} {g : Addr → Option Lab} {i : Nat} : ∀ {n : Nat} {p : List Nat} {d : D} {v : V}, OwnR K F H g i n p d v → Rep K (fzH g i F H) d v
  | 0, _, d, v, h => fzH_same.rep d v h
  | n + 1, p, d, v, ⟨a, ds, vs, e1, e2, e3, e4, e5, e6, h⟩ => by
    subst e1 e2
    unfold Rep
    exact ⟨a, vs, rfl, SqL.of (by rw [fzH_in e3 e5]; exact e4), RepAll.of e6 fun k d' v' q1 q2 => (h k d' v' q1 q2).freeze⟩
section
variable {K : PySem.W.Frag} {Z : Ent} {ow : List Nat} {g : Addr → Option Lab} {F H : Hp} {σ : St} {δ : DS}
noncomputable def fzG (g : Addr → Option Lab) (i : Nat) : Addr → Option Lab := fun b => open Classical in if ∃ p, g b = some (i, p) then none else g b
theorem fzG_ne {g : Addr → Option Lab} {i : Nat} {a : Addr} {l : Lab} (h : l.1 ≠ i) (e : g a = some l) : fzG g i a = some l := by
  unfold fzG
  rw [if_neg fun ⟨p, q⟩ => by rw [e] at q; cases q; exact h rfl]
  exact e
theorem fzG_le {g : Addr → Option Lab} {i : Nat} {a : Addr} {l : Lab} (e : fzG g i a = some l) : g a = some l ∧ l.1 ≠ i := by
  unfold fzG at e
  split at e
  · cases e
  · rename_i h
    exact ⟨e, fun z => h ⟨l.2, by rw [e]; cases l; cases z; rfl⟩⟩
theorem RelG.freeze (R : RelG K Z ow g F H σ δ) (i : Nat) (hP : i ∉ Z.ps) : RelG K Z (ow.set i 0) (fzG g i) (fzH g i F H) H σ δ := by
  refine ⟨fzH_sub R.sub, R.f0.trans' fzH_same, R.kept, fun a h1 h2 => ?_, R.there, fun a j p e => R.lab a j p (fzG_le e).1, R.len, fun j hj => ⟨(R.par j hj).1, ?_⟩, fun j d e => ?_⟩
  · have q : ∀ p, g a ≠ some (i, p) := fun p e => (R.lab a i p e).elim h2 fun ⟨q, z⟩ => hP (Z.wf a i q z)
    rw [fzH_out q]
    exact R.new a h1 h2
  · have : j ≠ i := fun e => hP (by rw [← e]; exact hj)
    rw [List.getD_eq_getElem?_getD, List.getElem?_set_ne (Ne.symm this), ← List.getD_eq_getElem?_getD]
    exact (R.par j hj).2
  · obtain ⟨v, e1, o⟩ := R.slot j d e
    refine ⟨v, e1, ?_⟩
    by_cases hj : j = i
    · subst hj
      have : (ow.set j 0).getD j 0 = 0 := by
        rw [List.getD_eq_getElem?_getD, List.getElem?_set]
        split
        · split <;> rfl
        · rename_i h; exact absurd rfl h
      rw [this]
      exact o.freeze
    · have : (ow.set i 0).getD j 0 = ow.getD j 0 := by rw [List.getD_eq_getElem?_getD, List.getD_eq_getElem?_getD, List.getElem?_set_ne (Ne.symm hj)]
      rw [this]
      exact o.mono fzH_same (fun a l hl e => fzG_ne (by rw [hl]; exact hj) e) (fun a l hl e hn => by rw [fzH_out (fun p q => by rw [e] at q; cases q; exact hj hl.symm)]; exact hn) fun _ _ _ _ _ h => h
structure Small (Z : Ent) (ow : List Nat) : Prop where
  ow : ow.length ≤ 1000
  ps : 1000 ∉ Z.ps
theorem RelX.freeze {n : Nat} {d : D} {v : V} (S : Small Z ow) (R : RelX K Z ow n d v F H σ δ) : ∃ F', Same F F' ∧ RelX K Z ow 0 d v F' H σ δ := by
  obtain ⟨g, R, o⟩ := R
  have R' := R.freeze 1000 S.ps
  rw [List.set_eq_of_length_le S.ow] at R'
  exact ⟨_, fzH_same, _, R', o.freeze⟩
theorem RelX.rel {n : Nat} {d : D} {v : V} (R : RelX K Z ow n d v F H σ δ) : Rel K Z ow F H σ δ := let ⟨g, R, _⟩ := R; ⟨g, R⟩
theorem RelX.rep {d : D} {v : V} (R : RelX K Z ow 0 d v F H σ δ) : Rep K F d v := let ⟨_, _, o⟩ := R; o
theorem Rel.x {d : D} {v : V} (R : Rel K Z ow F H σ δ) (h : Rep K F d v) : RelX K Z ow 0 d v F H σ δ := let ⟨g, R⟩ := R; ⟨g, R, h⟩
theorem Rel.sub (R : Rel K Z ow F H σ δ) : Same F H := let ⟨_, R⟩ := R; R.sub
theorem RelG.laid {p : Addr} {o : HO} (R : RelG K Z ow g F H σ δ) (hp : H p = none) : RelG K Z ow g (upd F p o) (upd H p o) σ δ := by
  have fp : F p = none := by
    cases e : F p with
    | none => rfl
    | some u => rw [R.sub p u e] at hp; cases hp
  have z : Z.H0 p = none := by
    cases e : Z.H0 p with
    | none => rfl
    | some u => exact absurd hp (R.there p (by rw [e]; simp))
  refine ⟨fun b u e => ?_, R.f0.trans' (same_new fp o), fun b u n e => ?_, fun a h1 h2 => ?_, fun b h => ?_, R.lab, R.len, R.par, fun i d e => ?_⟩
  · by_cases hb : b = p
    · subst hb; rw [upd_same] at e ⊢; exact e
    · rw [upd_ne hb] at e ⊢; exact R.sub b u e
  · have : b ≠ p := fun q => by rw [q, z] at e; cases e
    rw [upd_ne this]; exact R.kept b u n e
  · have : a ≠ p := fun q => h2 (by rw [q, z])
    rw [upd_ne this]; exact R.new a h1 h2
  · have : b ≠ p := fun q => h (by rw [q, z])
    rw [upd_ne this]; exact R.there b h
  · obtain ⟨v, e1, ho⟩ := R.slot i d e
    refine ⟨v, e1, ?_⟩
    have : ∀ {n : Nat} {q : List Nat} {d : D} {v : V}, OwnR K F H g i n q d v → OwnR K (upd F p o) (upd H p o) g i n q d v := by
      intro n
      induction n with
      | zero => intro q d v h; exact (same_new fp o).rep d v h
      | succ n ih =>
        rintro q d v ⟨a, ds, vs, e1, e2, e3, e4, e5, e6, h⟩
        have : a ≠ p := fun z => by rw [z, hp] at e4; cases e4
        exact ⟨a, ds, vs, e1, e2, e3, by rw [upd_ne this]; exact e4, by rw [upd_ne this]; exact e5, e6, fun k d' v' q1 q2 => ih (h k d' v' q1 q2)⟩
    exact this ho
theorem Rel.laid {p : Addr} {o : HO} (R : Rel K Z ow F H σ δ) (hp : H p = none) : Rel K Z ow (upd F p o) (upd H p o) σ δ := let ⟨g, R⟩ := R; ⟨g, R.laid hp⟩
theorem Rel.fnone {p : Addr} (R : Rel K Z ow F H σ δ) (hp : H p = none) : F p = none := by
  cases e : F p with
  | none => rfl
  | some u => rw [R.sub p u e] at hp; cases hp
theorem Rel.newList {p : Addr} {ds : List D} {vs : List V} (S : Small Z ow) (R : Rel K Z ow F H σ δ) (hp : H p = none) (h : RepAll K F ds vs) : RelX K Z ow 1 (.list ds) (.ref p) F (upd H p (.lst vs)) σ δ := by
  have fp := R.fnone hp
  obtain ⟨g, R⟩ := R
  have z : Z.H0 p = none := by
    cases e : Z.H0 p with
    | none => rfl
    | some u => exact absurd hp (R.there p (by rw [e]; simp))
  refine ⟨fun b => if b = p then some (1000, []) else fzG g 1000 b, ⟨R.sub.trans' (same_new hp _), R.f0, fun b u n e => ?_, R.new, fun b h => ?_, fun a i q e => ?_, R.len, R.par, fun i d e => ?_⟩, ?_⟩
  · have : b ≠ p := fun q => by rw [q, z] at e; cases e
    rw [upd_ne this]; exact R.kept b u n e
  · have : b ≠ p := fun q => h (by rw [q, z])
    rw [upd_ne this]; exact R.there b h
  · split at e
    · rename_i q; rw [q]; exact .inl z
    · exact R.lab a i q (fzG_le e).1
  · obtain ⟨v, e1, o⟩ := R.slot i d e
    refine ⟨v, e1, ?_⟩
    by_cases hi : ow.getD i 0 = 0
    · rw [hi] at o ⊢; exact o
    · have hi' : i < 1000 := by
        by_cases hl : i < ow.length
        · exact Nat.lt_of_lt_of_le hl S.ow
        · exact absurd (by rw [List.getD_eq_getElem?_getD, List.getElem?_eq_none (by omega)]; rfl) hi
      have ne : ∀ (a : Addr) (l : Lab), g a = some l → H a ≠ none → a ≠ p := fun a l _ h z => h (by rw [z]; exact hp)
      have : ∀ {n : Nat} {q : List Nat} {d : D} {v : V}, OwnR K F H g i n q d v → OwnR K F (upd H p (.lst vs)) (fun b => if b = p then some (1000, []) else fzG g 1000 b) i n q d v := by
        intro n
        induction n with
        | zero => intro q d v h; exact h
        | succ n ih =>
          rintro q d v ⟨a, ds, vs, e1, e2, e3, e4, e5, e6, h⟩
          have : a ≠ p := fun z => by rw [z, hp] at e4; cases e4
          exact ⟨a, ds, vs, e1, e2, by dsimp only; rw [if_neg this]; exact fzG_ne (by show i ≠ 1000; omega) e3, by rw [upd_ne this]; exact e4, e5, e6, fun k d' v' q1 q2 => ih (h k d' v' q1 q2)⟩
      exact this o
  · exact ⟨p, ds, vs, rfl, rfl, by dsimp only; rw [if_pos rfl], upd_same, fp, h.len, fun k d' v' q1 q2 => h.both k d' v' q1 q2⟩
end
end L2
namespace L2
open PySem PySem.Spec PyProof.Rows
theorem PE.mono {X : Cx} {e : Expr} {t t' : TE} (h : PE X e t) (hm : ∀ σ H Q, t' σ H Q → t σ H Q) : PE X e t' := fun pins s σ H Q I q => h pins s σ H Q I (hm σ H Q q)
theorem PT.mono {X : Cx} {e : Expr} {t t' : TT} (h : PT X e t) (hm : ∀ σ H Q, t' σ H Q → t σ H Q) : PT X e t' := fun pins s σ H Q I q => h pins s σ H Q I (hm σ H Q q)
theorem PA.mono {X : Cx} {es : List Expr} {t t' : TA} (h : PA X es t) (hm : ∀ σ H Q, t' σ H Q → t σ H Q) : PA X es t' := fun pos pins s σ H Q I q => h pos pins s σ H Q I (hm σ H Q q)
theorem PS.mono {X : Cx} {st : Stmt} {t t' : TS} (h : PS X st t) (hm : ∀ D σ H, t' D σ H → t D σ H) : PS X st t' := fun pins s σ H D I q => h pins s σ H D I (hm D σ H q)
theorem PSs.mono {X : Cx} {st : List Stmt} {t t' : TS} (h : PSs X st t) (hm : ∀ D σ H, t' D σ H → t D σ H) : PSs X st t' := fun pins s σ H D I q => h pins s σ H D I (hm D σ H q)
noncomputable def XP (X : Cx) (Z : Ent) (pins : List (Addr × Obj)) (F : Hp) (x : D) (δ : DS) (e : Value) (s : Shared) : Prop :=
  ∃ nm H F' σ, x = .str nm ∧ Inv X pins σ H s ∧ Rel X.K Z Z.owp F' H σ δ ∧ Same F F' ∧ Fly X pins H s nm e
structure XOk (X : Cx) (Z : Ent) (ow : List Nat) (F : Hp) (x : D) (δ : DS) : Prop where
  out : ∀ pins e s, XP X Z pins F x δ e s → X.xe e s
theorem XOk.mono {X : Cx} {Z : Ent} {ow : List Nat} {F F' : Hp} {x : D} {δ : DS} (h : XOk X Z ow F x δ) (s : Same F F') : XOk X Z ow F' x δ := ⟨fun pins e st z => by
  obtain ⟨nm, H, F1, σ, h1, h2, h3, h4, h5⟩ := z
  exact h.out pins e st ⟨nm, H, F1, σ, h1, h2, h3, s.trans' h4, h5⟩⟩
theorem XOk.cast {X : Cx} {Z : Ent} {ow ox : List Nat} {F : Hp} {x : D} {δ : DS} (h : XOk X Z ox F x δ) : XOk X Z ow F x δ := ⟨h.out⟩
noncomputable def zfB (Z : Ent) : Bool := (List.range Z.owp.length).all fun i => Z.ps.contains i || Z.owp.getD i 0 == 0
theorem zfB_at {Z : Ent} (h : zfB Z = true) {i : Nat} (hi : i ∉ Z.ps) : Z.owp.getD i 0 = 0 := by
  by_cases hl : i < Z.owp.length
  · have := List.all_eq_true.mp h i (List.mem_range.mpr hl)
    rw [Bool.or_eq_true, List.contains_iff_mem, beq_iff_eq] at this
    exact this.resolve_left hi
  · rw [List.getD_eq_getElem?_getD, List.getElem?_eq_none (by omega)]; rfl
section
variable {K : PySem.W.Frag} {Z : Ent} {ow : List Nat} {g : Addr → Option Lab} {F H : Hp} {σ : St} {δ : DS}
noncomputable def fzN (ps : List Nat) (g : Addr → Option Lab) (F H : Hp) : Hp := fun b => open Classical in if ∃ i p, g b = some (i, p) ∧ i ∉ ps then (if F b = none then H b else F b) else F b
noncomputable def fzM (ps : List Nat) (g : Addr → Option Lab) : Addr → Option Lab := fun b => open Classical in if ∃ i p, g b = some (i, p) ∧ i ∉ ps then none else g b
theorem fzN_same {ps : List Nat} : Same F (fzN ps g F H) := fun b o e => by
  unfold fzN
  split
  · rw [if_neg (by rw [e]; simp)]; exact e
  · exact e
theorem fzN_sub {ps : List Nat} (hs : Same F H) : Same (fzN ps g F H) H := fun b o e => by
  unfold fzN at e
  split at e
  · split at e
    · exact e
    · exact hs b o e
  · exact hs b o e
theorem OwnR.freezeN {ps : List Nat} {i : Nat} (hi : i ∉ ps) : ∀ {n : Nat} {p : List Nat} {d : D} {v : V}, OwnR K F H g i n p d v → Rep K (fzN ps g F H) d v
  | 0, _, d, v, h => fzN_same.rep d v h
  | n + 1, p, d, v, ⟨a, ds, vs, e1, e2, e3, e4, e5, e6, h⟩ => by
    subst e1 e2
    unfold Rep
    have e : fzN ps g F H a = H a := by unfold fzN; rw [if_pos ⟨i, p, e3, hi⟩, if_pos e5]
    exact ⟨a, vs, rfl, SqL.of (by rw [e]; exact e4), RepAll.of e6 fun k d' v' q1 q2 => (h k d' v' q1 q2).freezeN hi⟩
theorem Rel.toP (hz : zfB Z = true) (R : Rel K Z ow F H σ δ) : ∃ F', Same F F' ∧ Rel K Z Z.owp F' H σ δ := by
  obtain ⟨g, R⟩ := R
  refine ⟨fzN Z.ps g F H, fzN_same, fzM Z.ps g, fzN_sub R.sub, R.f0.trans' fzN_same, R.kept, fun a h1 h2 => ?_, R.there, fun a i p e => ?_, R.len, fun i hi => ⟨(R.par i hi).1, rfl⟩, fun i d e => ?_⟩
  · unfold fzN
    rw [if_neg]
    · exact R.new a h1 h2
    · rintro ⟨i, p, e, hi⟩
      rcases R.lab a i p e with z | ⟨q, z⟩
      · exact h2 z
      · exact hi (Z.wf a i q z)
  · unfold fzM at e
    split at e
    · cases e
    · exact R.lab a i p e
  · obtain ⟨v, e1, o⟩ := R.slot i d e
    refine ⟨v, e1, ?_⟩
    by_cases hi : i ∈ Z.ps
    · rw [← (R.par i hi).2]
      refine o.mono fzN_same (fun a l hl e => ?_) (fun a l hl e hn => ?_) fun _ _ _ _ _ h => h
      · unfold fzM
        rw [if_neg]
        · exact e
        · rintro ⟨j, p, e2, hj⟩
          rw [e] at e2; cases e2
          exact hj (by rw [show j = i from hl]; exact hi)
      · unfold fzN
        rw [if_neg]
        · exact hn
        · rintro ⟨j, p, e2, hj⟩
          rw [e] at e2; cases e2
          exact hj (by rw [show j = i from hl]; exact hi)
    · rw [zfB_at hz hi]
      exact o.freezeN hi
end
noncomputable def kD (X : Cx) (Z : Ent) (ow : List Nat) (n : Nat) (r : Res D) (F : Hp) (σ : St) (Q : VK) : Prop := match r with
  | .ok d δ => ∀ v H' F', RelX X.K Z ow n d v F' H' σ δ → Same F F' → Q v H'
  | .err x δ => XOk X Z ow F x δ
  | .stuck => False
noncomputable def tD (X : Cx) (Z : Ent) (ow : List Nat) (n : Nat) (f : M D) : TE := fun σ H Q => ∃ F δ, Rel X.K Z ow F H σ δ ∧ kD X Z ow n (f δ) F σ Q
noncomputable def DE (X : Cx) (Z : Ent) (ow : List Nat) (n : Nat) (e : Expr) (f : M D) : Prop := PE X e (tD X Z ow n f)
noncomputable def kT (X : Cx) (Z : Ent) (ow : List Nat) (r : Res Bool) (F : Hp) (σ : St) (Q : Bool → Hp → Prop) : Prop := match r with
  | .ok b δ => ∀ H' F', Rel X.K Z ow F' H' σ δ → Same F F' → Q b H'
  | .err x δ => XOk X Z ow F x δ
  | .stuck => False
noncomputable def tT (X : Cx) (Z : Ent) (ow : List Nat) (f : M Bool) : TT := fun σ H Q => ∃ F δ, Rel X.K Z ow F H σ δ ∧ kT X Z ow (f δ) F σ Q
noncomputable def DT (X : Cx) (Z : Ent) (ow : List Nat) (e : Expr) (f : M Bool) : Prop := PT X e (tT X Z ow f)
inductive Arg where
  | own (i : Nat)
  | val (f : M D)
noncomputable def ArgsV (K : PySem.W.Frag) (F : Hp) (σ : St) : List Arg → List (Option D) → List V → Prop
  | [], [], [] => True
  | .own i :: as, none :: ds, v :: vs => σ[i]? = some (some v) ∧ ArgsV K F σ as ds vs
  | .val _ :: as, some d :: ds, v :: vs => Rep K F d v ∧ ArgsV K F σ as ds vs
  | _, _, _ => False
noncomputable def dArgs : List Arg → M (List (Option D))
  | [] => fun δ => .ok [] δ
  | .own i :: as => fun δ => match δ[i]? with
    | some (some _) => (dArgs as δ).bind fun ds δ' => .ok (none :: ds) δ'
    | _ => .stuck
  | .val f :: as => fun δ => (f δ).bind fun d δ1 => (dArgs as δ1).bind fun ds δ2 => .ok (some d :: ds) δ2
noncomputable def kA (X : Cx) (Z : Ent) (ow : List Nat) (as : List Arg) (r : Res (List (Option D))) (F : Hp) (σ : St) (Q : List V → Hp → Prop) : Prop := match r with
  | .ok ds δ => ∀ vs H' F', Rel X.K Z ow F' H' σ δ → Same F F' → ArgsV X.K F' σ as ds vs → Q vs H'
  | .err x δ => XOk X Z ow F x δ
  | .stuck => False
noncomputable def tAr (X : Cx) (Z : Ent) (ow : List Nat) (as : List Arg) : TA := fun σ H Q => ∃ F δ, Rel X.K Z ow F H σ δ ∧ kA X Z ow as (dArgs as δ) F σ Q
noncomputable def DA (X : Cx) (Z : Ent) (ow : List Nat) (es : List Expr) (as : List Arg) : Prop := PA X es (tAr X Z ow as)
section
variable {X : Cx} {Z : Ent} {ow : List Nat} {n : Nat} {F F1 : Hp} {σ : St} {Q Q' : VK} {pos : Pos} {e a b c : Expr} {f g : M D}
theorem kD.mono {r : Res D} (h : kD X Z ow n r F σ Q) (s : Same F F1) (q : ∀ v H', Q v H' → Q' v H') : kD X Z ow n r F1 σ Q' := by
  cases r with
  | ok d δ => exact fun v H' F' R s' => q v H' (h v H' F' R (s.trans' s'))
  | err x δ => exact XOk.mono h s
  | stuck => exact h
theorem kT.mono {r : Res Bool} {Q Q' : Bool → Hp → Prop} (h : kT X Z ow r F σ Q) (s : Same F F1) (q : ∀ v H', Q v H' → Q' v H') : kT X Z ow r F1 σ Q' := by
  cases r with
  | ok d δ => exact fun H' F' R s' => q _ H' (h H' F' R (s.trans' s'))
  | err x δ => exact XOk.mono h s
  | stuck => exact h
theorem kA.mono {as : List Arg} {r : Res (List (Option D))} {Q Q' : List V → Hp → Prop} (h : kA X Z ow as r F σ Q) (s : Same F F1) (q : ∀ v H', Q v H' → Q' v H') : kA X Z ow as r F1 σ Q' := by
  cases r with
  | ok d δ => exact fun v H' F' R s' z => q v H' (h v H' F' R (s.trans' s') z)
  | err x δ => exact XOk.mono h s
  | stuck => exact h
noncomputable def dVar (i : Nat) : M D := fun δ => match δ[i]? with
  | some (some d) => .ok d δ
  | _ => .stuck
noncomputable def dC (d : D) : M D := fun δ => .ok d δ
theorem de_var (i : Nat) {x : Str} (ho : ow.getD i 0 = 0 := by rfl) (hN : X.N[i]? = some x := by rfl) (hv : Vis X.env.scope x := by first | exact Or.inl rfl | exact Or.inr (Or.inl rfl) | exact Or.inr (Or.inr rfl)) (hd : (x == ("__debug__" : Str)) = false := by decide) (hcd : (x == ("__classdict__" : Str)) = false := by decide) : DE X Z ow 0 (.Name x pos) (dVar i) :=
  (pe_var hN hv hd hcd).mono fun σ H Q h => by
    obtain ⟨F, δ, R, h⟩ := h
    unfold dVar at h
    cases e : δ[i]? with
    | none => rw [e] at h; exact h.elim
    | some o =>
      cases o with
      | none => rw [e] at h; exact h.elim
      | some d =>
        rw [e] at h
        obtain ⟨g, R⟩ := R
        obtain ⟨v, e1, o⟩ := R.slot i d e
        rw [ho] at o
        exact ⟨v, e1, h v H F ⟨g, R, o⟩ fun _ _ z => z⟩
theorem de_const {v : V} {d : D} (h : PE X e (tC v)) (hr : ∀ F, Rep X.K F d v) : DE X Z ow 0 e (dC d) := h.mono fun σ H Q h => by
  obtain ⟨F, δ, ⟨g, R⟩, h⟩ := h
  exact h v H F ⟨g, R, hr F⟩ fun _ _ z => z
theorem de_int {i : Int} {j} : DE X Z ow 0 (.Constant (.int i) j pos) (dC (.int i)) := de_const pe_int fun F => by unfold Rep; rfl
theorem de_bl {b : Bool} {j} : DE X Z ow 0 (.Constant (.bool b) j pos) (dC (.bool b)) := de_const pe_bl fun F => by unfold Rep; rfl
theorem de_str {x : Str} {j} : DE X Z ow 0 (.Constant (.str x) j pos) (dC (.str x)) := de_const pe_str fun F => by unfold Rep; rfl
noncomputable def dOp (op : D → D → Option D) (f g : M D) : M D := fun δ => (f δ).bind fun x δ1 => (g δ1).bind fun y δ2 => match op x y with
  | some z => .ok z δ2
  | none => .stuck
noncomputable def OpS (X : Cx) (r : R2) (n : Nat) (op : D → D → Option D) : Prop := ∀ (Z : Ent) (ow : List Nat) (F H : Hp) (σ : St) (δ : DS) (a b : D) (x y : V) (d : D) (Q : VK), Small Z ow → Rel X.K Z ow F H σ δ → Rep X.K F a x → Rep X.K F b y → op a b = some d →
  (∀ v H' F', RelX X.K Z ow n d v F' H' σ δ → Same F F' → Q v H') → r x y H Q
theorem tOp_of {r : R2} {op : D → D → Option D} (S : Small Z ow) (os : OpS X r n op) {H : Hp} (h : tD X Z ow n (dOp op f g) σ H Q) : tOp r (tD X Z ow 0 f) (tD X Z ow 0 g) σ H Q := by
  obtain ⟨F, δ, R, h⟩ := h
  unfold dOp at h
  refine ⟨F, δ, R, ?_⟩
  cases e : f δ with
  | stuck => rw [e] at h; exact h.elim
  | err x δ1 => rw [e] at h; exact h
  | ok d1 δ1 =>
    rw [e] at h
    intro x H1 F1 R1 s1
    refine ⟨F1, δ1, R1.rel, ?_⟩
    simp only [Res.bind] at h
    cases e2 : g δ1 with
    | stuck => rw [e2] at h; exact h.elim
    | err x δ2 => rw [e2] at h; exact XOk.mono h s1
    | ok d2 δ2 =>
      rw [e2] at h
      simp only [Res.bind] at h
      intro y H2 F2 R2 s2
      cases e3 : op d1 d2 with
      | none => rw [e3] at h; exact h.elim
      | some d =>
        rw [e3] at h
        exact os Z ow F2 H2 σ δ2 d1 d2 x y d Q S R2.rel (s2.rep _ _ R1.rep) R2.rep e3 fun v H' F' R' s' => h v H' F' R' (s1.trans' (s2.trans' s'))
theorem de_op {o : Operator} {r : R2} {op : D → D → Option D} (S : Small Z ow) (ho : OpR X (binaryOp o) r) (os : OpS X r n op) (ha : DE X Z ow 0 a f) (hb : DE X Z ow 0 b g) : DE X Z ow n (.BinOp a o b pos) (dOp op f g) :=
  (pe_op ho ha hb).mono fun _ _ _ h => tOp_of S os h
theorem de_cmp {o : CmpOp} {r : R2} {op : D → D → Option D} (S : Small Z ow) (ho : OpR X (compareOp o) r) (os : OpS X r 0 op) (ha : DE X Z ow 0 a f) (hb : DE X Z ow 0 b g) (hm : behindInMarks o b = false) : DE X Z ow 0 (.Compare a [o] [b] pos) (dOp op f g) :=
  (pe_cmpR ho ha hb hm).mono fun _ _ _ h => tOp_of S os h
noncomputable def dB (f : M D) : M Bool := fun δ => (f δ).bind fun d δ1 => match d with
  | .bool b => .ok b δ1
  | _ => .stuck
theorem tT_of {H : Hp} {Q : Bool → Hp → Prop} (h : tT X Z ow (dB f) σ H Q) : tD X Z ow 0 f σ H (fun x H' => ∃ k, x = .bl k ∧ Q k H') := by
  obtain ⟨F, δ, R, h⟩ := h
  unfold dB at h
  refine ⟨F, δ, R, ?_⟩
  cases e : f δ with
  | stuck => rw [e] at h; exact h.elim
  | err x δ1 => rw [e] at h; exact h
  | ok d1 δ1 =>
    rw [e] at h
    intro x H1 F1 R1 s1
    simp only [Res.bind] at h
    cases d1 with
    | bool k =>
      have q := R1.rep
      unfold Rep at q
      exact ⟨k, q, h H1 F1 R1.rel s1⟩
    | _ => exact h.elim
theorem dt_cmp {o : CmpOp} {r : R2} {op : D → D → Option D} (S : Small Z ow) (ho : OpR X (compareOp o) r) (os : OpS X r 0 op) (ha : DE X Z ow 0 a f) (hb : DE X Z ow 0 b g) (hm : behindInMarks o b = false) : DT X Z ow (.Compare a [o] [b] pos) (dB (dOp op f g)) :=
  (pt_cmpR ho ha hb hm).mono fun _ _ _ h => tOp_of S os (tT_of h)
theorem dt_val (h : DE X Z ow 0 e f) (he : ∀ whole, isTrue e X.env whole = (do let v ← whole; standAt e.pos; holding [v] (truthy v)) := by intro _; rfl) : DT X Z ow e (dB f) := (pt_val h he).mono fun _ _ _ h => tT_of h
noncomputable def dNotT (f : M Bool) : M Bool := fun δ => (f δ).bind fun b δ1 => .ok (!b) δ1
theorem dt_not {f : M Bool} (h : DT X Z ow e f) : DT X Z ow (.UnaryOp .Not e pos) (dNotT f) := (pt_not h).mono fun σ H Q h => by
  obtain ⟨F, δ, R, h⟩ := h
  unfold dNotT at h
  refine ⟨F, δ, R, ?_⟩
  cases e : f δ with
  | stuck => rw [e] at h; exact h.elim
  | err x δ1 => rw [e] at h; exact h
  | ok b δ1 => rw [e] at h; exact h
noncomputable def dAndT (f g : M Bool) : M Bool := fun δ => (f δ).bind fun b δ1 => if b = true then g δ1 else .ok false δ1
noncomputable def dOrT (f g : M Bool) : M Bool := fun δ => (f δ).bind fun b δ1 => if b = true then .ok true δ1 else g δ1
theorem PW.mono {t t' : TT} (h : PW X e t) (hm : ∀ σ H Q, t' σ H Q → t σ H Q) : PW X e t' := fun wh pins s σ H Q I q => h wh pins s σ H Q I (hm σ H Q q)
theorem dw_or {f g : M Bool} {rest : List Expr} (ha : DT X Z ow a f) (hb : PW X (.BoolOp .Or (b :: rest) pos) (tT X Z ow g)) : PW X (.BoolOp .Or (a :: b :: rest) pos) (tT X Z ow (dOrT f g)) := (pw_or ha hb).mono fun σ H Q h => by
  obtain ⟨F, δ, R, h⟩ := h
  unfold dOrT at h
  refine ⟨F, δ, R, ?_⟩
  cases e : f δ with
  | stuck => rw [e] at h; exact h.elim
  | err x δ1 => rw [e] at h; exact h
  | ok k δ1 =>
    rw [e] at h
    simp only [Res.bind] at h
    intro H1 F1 R1 s1
    cases k with
    | true => rw [if_pos rfl] at h ⊢; exact h H1 F1 R1 s1
    | false => rw [if_neg Bool.false_ne_true] at h ⊢; exact ⟨F1, δ1, R1, h.mono s1 fun _ _ z => z⟩
noncomputable def dIf (c : M Bool) (f g : M D) : M D := fun δ => (c δ).bind fun b δ1 => if b = true then f δ1 else g δ1
theorem de_fz (S : Small Z ow) (h : DE X Z ow n e f) : DE X Z ow 0 e f := PE.mono h fun σ H Q h => by
  obtain ⟨F, δ, R, h⟩ := h
  refine ⟨F, δ, R, ?_⟩
  cases e : f δ with
  | stuck => rw [e] at h; exact h.elim
  | err x δ1 => rw [e] at h; exact h
  | ok d δ1 =>
    rw [e] at h
    intro v H1 F1 R1 s1
    obtain ⟨F2, s2, R2⟩ := R1.freeze S
    exact h v H1 F2 R2 (s1.trans' s2)
end
end L2
namespace L2
open PySem PySem.Spec PyProof.Rows
noncomputable def dVals : List (M D) → M (List D)
  | [] => fun δ => .ok [] δ
  | f :: fs => fun δ => (f δ).bind fun d δ1 => (dVals fs δ1).bind fun ds δ2 => .ok (d :: ds) δ2
noncomputable def kV' (X : Cx) (Z : Ent) (ow : List Nat) (r : Res (List D)) (F : Hp) (σ : St) (Q : List V → Hp → Prop) : Prop := match r with
  | .ok ds δ => ∀ vs H' F', Rel X.K Z ow F' H' σ δ → Same F F' → RepAll X.K F' ds vs → Q vs H'
  | .err x δ => XOk X Z ow F x δ
  | .stuck => False
noncomputable def tV (X : Cx) (Z : Ent) (ow : List Nat) (fs : List (M D)) : TA := fun σ H Q => ∃ F δ, Rel X.K Z ow F H σ δ ∧ kV' X Z ow (dVals fs δ) F σ Q
noncomputable def DV (X : Cx) (Z : Ent) (ow : List Nat) (es : List Expr) (fs : List (M D)) : Prop := PA X es (tV X Z ow fs)
section
variable {X : Cx} {Z : Ent} {ow : List Nat} {n : Nat} {pos : Pos} {e a b c : Expr} {es : List Expr} {f g : M D} {fs : List (M D)} {as : List Arg}
theorem dv_nil : DV X Z ow [] [] := pa_nil.mono fun σ H Q h => by
  obtain ⟨F, δ, R, h⟩ := h
  exact h [] H F R (Same.refl _) repNil
theorem dv_cons (he : DE X Z ow 0 e f) (hs : DV X Z ow es fs) (hst : starEach (e :: es) X.env = (false, eval e X.env) :: starEach es X.env := by rfl) : DV X Z ow (e :: es) (f :: fs) := (pa_cons he hs hst).mono fun σ H Q h => by
  obtain ⟨F, δ, R, h⟩ := h
  unfold dVals at h
  refine ⟨F, δ, R, ?_⟩
  cases e1 : f δ with
  | stuck => rw [e1] at h; exact h.elim
  | err x δ1 => rw [e1] at h; exact h
  | ok d δ1 =>
    rw [e1] at h
    simp only [Res.bind] at h
    intro x H1 F1 R1 s1
    refine ⟨F1, δ1, R1.rel, ?_⟩
    cases e2 : dVals fs δ1 with
    | stuck => rw [e2] at h; exact h.elim
    | err x δ2 => rw [e2] at h; exact XOk.mono h s1
    | ok ds δ2 =>
      rw [e2] at h
      intro vs H2 F2 R2 s2 z
      exact h (x :: vs) H2 F2 R2 (s1.trans' s2) (repCons (s2.rep _ _ R1.rep) z)
theorem da_nil : DA X Z ow [] [] := pa_nil.mono fun σ H Q h => by
  obtain ⟨F, δ, R, h⟩ := h
  exact h [] H F R (Same.refl _) trivial
theorem ArgsV.mono {K : PySem.W.Frag} {F F' : Hp} {σ : St} (s : Same F F') : ∀ {as : List Arg} {ds : List (Option D)} {vs : List V}, ArgsV K F σ as ds vs → ArgsV K F' σ as ds vs
  | [], [], [], _ => trivial
  | .own i :: as, none :: ds, v :: vs, ⟨h, t⟩ => ⟨h, ArgsV.mono s t⟩
  | .val _ :: as, some d :: ds, v :: vs, ⟨h, t⟩ => ⟨s.rep _ _ h, ArgsV.mono s t⟩
theorem da_val (he : DE X Z ow 0 e f) (hs : DA X Z ow es as) (hst : starEach (e :: es) X.env = (false, eval e X.env) :: starEach es X.env := by rfl) : DA X Z ow (e :: es) (.val f :: as) := (pa_cons he hs hst).mono fun σ H Q h => by
  obtain ⟨F, δ, R, h⟩ := h
  unfold dArgs at h
  refine ⟨F, δ, R, ?_⟩
  cases e1 : f δ with
  | stuck => rw [e1] at h; exact h.elim
  | err x δ1 => rw [e1] at h; exact h
  | ok d δ1 =>
    rw [e1] at h
    simp only [Res.bind] at h
    intro x H1 F1 R1 s1
    refine ⟨F1, δ1, R1.rel, ?_⟩
    cases e2 : dArgs as δ1 with
    | stuck => rw [e2] at h; exact h.elim
    | err x δ2 => rw [e2] at h; exact XOk.mono h s1
    | ok ds δ2 =>
      rw [e2] at h
      intro vs H2 F2 R2 s2 z
      exact h (x :: vs) H2 F2 R2 (s1.trans' s2) ⟨s2.rep _ _ R1.rep, z⟩
noncomputable def dTup (fs : List (M D)) : M D := fun δ => (dVals fs δ).bind fun ds δ1 => if ds.length ≤ sizeLine then .ok (.tuple ds) δ1 else .stuck
noncomputable def dLst (fs : List (M D)) : M D := fun δ => (dVals fs δ).bind fun ds δ1 => if ds.length ≤ sizeLine then .ok (.list ds) δ1 else .stuck
theorem rep_newTup {K : PySem.W.Frag} {F : Hp} {p : Addr} {ds : List D} {vs : List V} (hp : F p = none) (h : RepAll K F ds vs) : Rep K (upd F p (.tup vs)) (.tuple ds) (.ref p) := by
  unfold Rep
  exact ⟨p, vs, rfl, SqT.of upd_same, (same_new hp _).repAll ds vs h⟩
theorem de_tup {x1} (h : DV X Z ow es fs) : DE X Z ow 0 (.Tuple es x1 pos) (dTup fs) := (pe_tup h).mono fun σ H Q h => by
  obtain ⟨F, δ, R, h⟩ := h
  unfold dTup at h
  refine ⟨F, δ, R, ?_⟩
  cases e : dVals fs δ with
  | stuck => rw [e] at h; exact h.elim
  | err x δ1 => rw [e] at h; exact h
  | ok ds δ1 =>
    rw [e] at h
    simp only [Res.bind] at h
    intro vs H1 F1 R1 s1 z
    split at h
    · rename_i hl
      refine ⟨by rw [← z.len]; exact hl, fun p hp => ?_⟩
      have fp := R1.fnone hp
      exact h _ _ (upd F1 p (.tup vs)) ((R1.laid hp).x (rep_newTup fp z)) (s1.trans' (same_new fp _))
    · exact h.elim
theorem de_lst (S : Small Z ow) (h : DV X Z ow es fs) : DE X Z ow 1 (.List es pos) (dLst fs) := (pe_lst h).mono fun σ H Q h => by
  obtain ⟨F, δ, R, h⟩ := h
  unfold dLst at h
  refine ⟨F, δ, R, ?_⟩
  cases e : dVals fs δ with
  | stuck => rw [e] at h; exact h.elim
  | err x δ1 => rw [e] at h; exact h
  | ok ds δ1 =>
    rw [e] at h
    simp only [Res.bind] at h
    intro vs H1 F1 R1 s1 z
    split at h
    · rename_i hl
      exact ⟨by rw [← z.len]; exact hl, fun p hp => h _ _ F1 (R1.newList S hp z) s1⟩
    · exact h.elim
noncomputable def dFn (op : List D → Option D) (fs : List (M D)) : M D := fun δ => (dVals fs δ).bind fun ds δ1 => match op ds with
  | some d => .ok d δ1
  | none => .stuck
noncomputable def FnS (X : Cx) (r : List V → Hp → VK → Prop) (n : Nat) (op : List D → Option D) : Prop := ∀ (Z : Ent) (ow : List Nat) (F H : Hp) (σ : St) (δ : DS) (ds : List D) (vs : List V) (d : D) (Q : VK), Small Z ow → Rel X.K Z ow F H σ δ → RepAll X.K F ds vs → op ds = some d →
  (∀ v H' F', RelX X.K Z ow n d v F' H' σ δ → Same F F' → Q v H') → r vs H Q
theorem tFn_of {r : List V → Hp → VK → Prop} {op : List D → Option D} {σ : St} {H : Hp} {Q : VK} (S : Small Z ow) (os : FnS X r n op) (h : tD X Z ow n (dFn op fs) σ H Q) : tCB r (tV X Z ow fs) σ H Q := by
  obtain ⟨F, δ, R, h⟩ := h
  unfold dFn at h
  refine ⟨F, δ, R, ?_⟩
  cases e : dVals fs δ with
  | stuck => rw [e] at h; exact h.elim
  | err x δ1 => rw [e] at h; exact h
  | ok ds δ1 =>
    rw [e] at h
    simp only [Res.bind] at h
    intro vs H1 F1 R1 s1 z
    cases e3 : op ds with
    | none => rw [e3] at h; exact h.elim
    | some d =>
      rw [e3] at h
      exact os Z ow F1 H1 σ δ1 ds vs d Q S R1 z e3 fun v H' F' R' s' => h v H' F' R' (s1.trans' s')
theorem de_callB {id : String} {x : Str} {p : Pos} {r : List V → Hp → VK → Prop} {op : List D → Option D} (S : Small Z ow) (hc : CallR X (.builtin id) r) (os : FnS X r n op) (hg : Gl X x) (hm : X.mg x = none) (hv : bootBuiltins x = some (.builtin id)) (ha : DV X Z ow (e :: es) fs)
    (hn : x ≠ "__name__" := by decide) (hdb : (x == ("__debug__" : Str)) = false := by decide) (he : starEach (e :: es) X.env = (false, eval e X.env) :: starEach es X.env := by rfl) (hpl : (backTo pos (starEach es X.env)).any (·.1) = false := by rfl) :
    DE X Z ow n (.Call (.Name x p) (e :: es) [] pos) (dFn op fs) := PE.mono (pe_callB hc hg hm hv ha hn hdb he hpl) fun _ _ _ h => tFn_of S os h
theorem de_callTy {T : String} {x : Str} {p : Pos} {r : List V → Hp → VK → Prop} {op : List D → Option D} (S : Small Z ow) (hc : CallR X (.type T) r) (os : FnS X r n op) (hg : Gl X x) (hm : X.mg x = none) (hv : bootBuiltins x = some (.type T)) (ha : DV X Z ow (e :: es) fs)
    (hn : x ≠ "__name__" := by decide) (hdb : (x == ("__debug__" : Str)) = false := by decide) (he : starEach (e :: es) X.env = (false, eval e X.env) :: starEach es X.env := by rfl) (hpl : (backTo pos (starEach es X.env)).any (·.1) = false := by rfl) :
    DE X Z ow n (.Call (.Name x p) (e :: es) [] pos) (dFn op fs) := PE.mono (pe_callTy hc hg hm hv ha hn hdb he hpl) fun _ _ _ h => tFn_of S os h
end
inductive Fl where
  | next | brk | cont
  | ret (d : D)
noncomputable def kS (X : Cx) (Z : Ent) (ow' ol ox : List Nat) (rm : Nat) (r : Res Fl) (F : Hp) (Dn : Ends) : Prop := match r with
  | .ok .next δ => ∀ σ' H' F', Rel X.K Z ow' F' H' σ' δ → Same F F' → Dn.nx σ' H'
  | .ok .brk δ => ∀ σ' H' F', Rel X.K Z ol F' H' σ' δ → Same F F' → Dn.bk σ' H'
  | .ok .cont δ => ∀ σ' H' F', Rel X.K Z ol F' H' σ' δ → Same F F' → Dn.ct σ' H'
  | .ok (.ret d) δ => ∀ v σ' H' F' owr, RelX X.K Z owr rm d v F' H' σ' δ → Same F F' → Dn.rt v H'
  | .err x δ => XOk X Z ox F x δ
  | .stuck => False
noncomputable def tS (X : Cx) (Z : Ent) (ow ow' ol ox : List Nat) (rm : Nat) (f : M Fl) : TS := fun Dn σ H => ∃ F δ, Rel X.K Z ow F H σ δ ∧ kS X Z ow' ol ox rm (f δ) F Dn
noncomputable def DS1 (X : Cx) (Z : Ent) (ow ow' ol ox : List Nat) (rm : Nat) (st : Stmt) (f : M Fl) : Prop := PS X st (tS X Z ow ow' ol ox rm f)
noncomputable def DSs (X : Cx) (Z : Ent) (ow ow' ol ox : List Nat) (rm : Nat) (st : List Stmt) (f : M Fl) : Prop := PSs X st (tS X Z ow ow' ol ox rm f)
section
variable {X : Cx} {Z : Ent} {ow ow' ow1 ol ox : List Nat} {n rm : Nat} {pos : Pos} {e a b c : Expr} {es : List Expr} {f : M D} {st : Stmt} {sts : List Stmt} {u v : M Fl} {F F1 : Hp}
theorem kS.mono {r : Res Fl} {Dn : Ends} (h : kS X Z ow' ol ox rm r F Dn) (s : Same F F1) : kS X Z ow' ol ox rm r F1 Dn := by
  cases r with
  | ok fl δ =>
    cases fl with
    | next => exact fun σ' H' F' R s' => h σ' H' F' R (s.trans' s')
    | brk => exact fun σ' H' F' R s' => h σ' H' F' R (s.trans' s')
    | cont => exact fun σ' H' F' R s' => h σ' H' F' R (s.trans' s')
    | ret d => exact fun v σ' H' F' owr R s' => h v σ' H' F' owr R (s.trans' s')
  | err x δ => exact XOk.mono h s
  | stuck => exact h
noncomputable def dNext : M Fl := fun δ => .ok .next δ
theorem dss_nil : DSs X Z ow ow ol ox rm [] dNext := PSs.mono pss_nil fun Dn σ H h => by
  obtain ⟨F, δ, R, h⟩ := h
  exact h σ H F R (Same.refl _)
noncomputable def dSeq (u v : M Fl) : M Fl := fun δ => (u δ).bind fun fl δ1 => match fl with
  | .next => v δ1
  | fl => .ok fl δ1
theorem dss_cons (h1 : DS1 X Z ow ow1 ol ox rm st u) (h2 : DSs X Z ow1 ow' ol ox rm sts v) : DSs X Z ow ow' ol ox rm (st :: sts) (dSeq u v) := PSs.mono (pss_cons h1 h2) fun Dn σ H h => by
  obtain ⟨F, δ, R, h⟩ := h
  unfold dSeq at h
  refine ⟨F, δ, R, ?_⟩
  cases e : u δ with
  | stuck => rw [e] at h; exact h.elim
  | err x δ1 => rw [e] at h; exact h
  | ok fl δ1 =>
    rw [e] at h
    simp only [Res.bind] at h
    cases fl with
    | next => exact fun σ' H' F' R' s' => ⟨F', δ1, R', h.mono s'⟩
    | brk => exact h
    | cont => exact h
    | ret d => exact h
theorem dss_one (h1 : DS1 X Z ow ow' ol ox rm st u) : DSs X Z ow ow' ol ox rm [st] u := PSs.mono (pss_one h1) fun Dn σ H h => h
noncomputable def dRet (f : M D) : M Fl := fun δ => (f δ).bind fun d δ1 => .ok (.ret d) δ1
theorem ds_ret (h : DE X Z ow rm e f) : DS1 X Z ow ow' ol ox rm (.Return (some e) pos) (dRet f) := PS.mono (ps_ret h) fun Dn σ H h => by
  obtain ⟨F, δ, R, h⟩ := h
  unfold dRet at h
  refine ⟨F, δ, R, ?_⟩
  cases e : f δ with
  | stuck => rw [e] at h; exact h.elim
  | err x δ1 => rw [e] at h; exact XOk.cast h
  | ok d δ1 =>
    rw [e] at h
    exact fun v H' F' R' s' => h v σ H' F' ow R' s'
noncomputable def dDrop (f : M D) : M Fl := fun δ => (f δ).bind fun _ δ1 => .ok .next δ1
theorem ds_expr (h : DE X Z ow n e f) (hs : swapsWith e none pos.line X.env = pure false := by rfl) : DS1 X Z ow ow ol ox rm (.Expr e pos) (dDrop f) := PS.mono (ps_expr h hs) fun Dn σ H h => by
  obtain ⟨F, δ, R, h⟩ := h
  unfold dDrop at h
  refine ⟨F, δ, R, ?_⟩
  cases e : f δ with
  | stuck => rw [e] at h; exact h.elim
  | err x δ1 => rw [e] at h; exact XOk.cast h
  | ok d δ1 =>
    rw [e] at h
    exact fun v H' F' R' s' => h σ H' F' R'.rel s'
noncomputable def dIfS (c : M Bool) (u v : M Fl) : M Fl := fun δ => (c δ).bind fun b δ1 => if b = true then u δ1 else v δ1
theorem ds_if {k : M Bool} {sa sb : List Stmt} (hc : DT X Z ow c k) (ha : DSs X Z ow ow' ol ox rm sa u) (hb : DSs X Z ow ow' ol ox rm sb v) : DS1 X Z ow ow' ol ox rm (.If c sa sb pos) (dIfS k u v) := PS.mono (ps_if hc ha hb) fun Dn σ H h => by
  obtain ⟨F, δ, R, h⟩ := h
  unfold dIfS at h
  refine ⟨F, δ, R, ?_⟩
  cases e : k δ with
  | stuck => rw [e] at h; exact h.elim
  | err x δ1 => rw [e] at h; exact XOk.cast h
  | ok d δ1 =>
    rw [e] at h
    simp only [Res.bind] at h
    intro H1 F1 R1 s1
    cases d with
    | true => rw [if_pos rfl] at h ⊢; exact ⟨F1, δ1, R1, h.mono s1⟩
    | false => rw [if_neg Bool.false_ne_true] at h ⊢; exact ⟨F1, δ1, R1, h.mono s1⟩
theorem Rel.freeze {H : Hp} {σ : St} {δ : DS} (i : Nat) (R : Rel X.K Z ow F H σ δ) (hi : i ∉ Z.ps) : ∃ F', Same F F' ∧ Rel X.K Z (ow.set i 0) F' H σ δ := let ⟨_, R⟩ := R; ⟨_, fzH_same, _, R.freeze i hi⟩
theorem notIn {i : Nat} {l : List Nat} (h : l.contains i = false) : i ∉ l := fun m => by rw [List.contains_iff_mem.mpr m] at h; cases h
theorem dss_fz (i : Nat) (h : DSs X Z (ow.set i 0) ow' ol ox rm sts u) (hi : Z.ps.contains i = false := by rfl) : DSs X Z ow ow' ol ox rm sts u := PSs.mono h fun Dn σ H h => by
  obtain ⟨F, δ, R, h⟩ := h
  obtain ⟨F', s, R'⟩ := R.freeze i (notIn hi)
  exact ⟨F', δ, R', h.mono s⟩
theorem RelX.store {i : Nat} {d : D} {v : V} {H : Hp} {σ : St} {δ : DS} (S : Small Z ow) (R : RelX X.K Z ow n d v F H σ δ) (hi : i < δ.length) (hps : i ∉ Z.ps) (hl : i < ow.length) : Rel X.K Z (ow.set i n) F H (σ.set i (some v)) (δ.set i (some d)) := by
  obtain ⟨g, R, o⟩ := R
  have i1 : i < 1000 := Nat.lt_of_lt_of_le hl S.ow
  have hg : ∀ (a : Addr) (l : Lab), l.1 ≠ i → l.1 ≠ 1000 → g a = some l → (fun b => match g b with | some (j, p) => if j = 1000 then some (i, p) else if j = i then none else some (j, p) | none => none : Addr → Option Lab) a = some l := fun a l h1 h2 e => by
    obtain ⟨j, p⟩ := l
    dsimp only
    rw [e]
    dsimp only
    rw [if_neg h2, if_neg h1]
  refine ⟨fun b => match g b with | some (j, p) => if j = 1000 then some (i, p) else if j = i then none else some (j, p) | none => none, R.sub, R.f0, R.kept, R.new, R.there, fun a j p e => ?_, by rw [List.length_set, List.length_set]; exact R.len, fun j hj => ?_, fun j d' e => ?_⟩
  · cases q : g a with
    | none => rw [q] at e; cases e
    | some l =>
      obtain ⟨j', p'⟩ := l
      rw [q] at e
      have e : (if j' = 1000 then some (i, p') else if j' = i then none else some (j', p')) = some (j, p) := e
      split at e
      · rename_i z
        refine .inl ((R.lab a j' p' q).elim id fun ⟨q', w⟩ => absurd (Z.wf a j' q' w) (by rw [z]; exact S.ps))
      · split at e
        · cases e
        · cases e; exact R.lab a j p q
  · have ne : j ≠ i := fun z => hps (by rw [← z]; exact hj)
    rw [List.getElem?_set_ne (Ne.symm ne), List.getD_eq_getElem?_getD, List.getElem?_set_ne (Ne.symm ne), ← List.getD_eq_getElem?_getD]
    exact R.par j hj
  · by_cases hj : j = i
    · subst hj
      rw [List.getElem?_set_self hi] at e
      cases e
      refine ⟨v, List.getElem?_set_self (by rw [← R.len]; exact hi), ?_⟩
      have : (ow.set j n).getD j 0 = n := by rw [List.getD_eq_getElem?_getD, List.getElem?_set_self hl]; rfl
      rw [this]
      exact o.relab fun a p e => by rw [e]; exact if_pos rfl
    · rw [List.getElem?_set_ne (Ne.symm hj)] at e
      obtain ⟨w, e1, o1⟩ := R.slot j d' e
      refine ⟨w, by rw [List.getElem?_set_ne (Ne.symm hj)]; exact e1, ?_⟩
      have : (ow.set i n).getD j 0 = ow.getD j 0 := by rw [List.getD_eq_getElem?_getD, List.getD_eq_getElem?_getD, List.getElem?_set_ne (Ne.symm hj)]
      rw [this]
      by_cases hz : ow.getD j 0 = 0
      · rw [hz] at o1 ⊢; exact o1
      · have j1 : j < 1000 := by
          by_cases hl : j < ow.length
          · exact Nat.lt_of_lt_of_le hl S.ow
          · exact absurd (by rw [List.getD_eq_getElem?_getD, List.getElem?_eq_none (by omega)]; rfl) hz
        exact o1.mono (Same.refl _) (fun a l hl e => hg a l (by rw [hl]; exact hj) (by rw [hl]; omega) e) (fun _ _ _ _ h => h) fun _ _ _ _ _ h => h
noncomputable def dSet (i : Nat) (f : M D) : M Fl := fun δ => (f δ).bind fun d δ1 => if i < δ1.length then .ok .next (δ1.set i (some d)) else .stuck
theorem tSet_of {i : Nat} {Dn : Ends} {σ : St} {H : Hp} (S : Small Z ow) (hps : i ∉ Z.ps) (hl : i < ow.length) (h : tS X Z ow (ow.set i n) ol ox rm (dSet i f) Dn σ H) : tAsg (tD X Z ow n f) (gName i) Dn σ H := by
  obtain ⟨F, δ, R, h⟩ := h
  unfold dSet at h
  refine ⟨F, δ, R, ?_⟩
  cases e : f δ with
  | stuck => rw [e] at h; exact h.elim
  | err x δ1 => rw [e] at h; exact XOk.cast h
  | ok d δ1 =>
    rw [e] at h
    simp only [Res.bind] at h
    intro v H1 F1 R1 s1
    split at h
    · rename_i hi
      exact h _ H1 F1 (R1.store S hi hps hl) s1
    · exact h.elim
theorem ds_set (i : Nat) {x : Str} {pos' : Pos} (S : Small Z ow) (h : DE X Z ow n e f) (hN : X.N.Nodup) (hi : X.N[i]? = some x := by rfl) (hx : Loc X.env.scope x := by first | exact Or.inl rfl | exact Or.inr rfl) (hps : Z.ps.contains i = false := by rfl) (hl : i < ow.length := by decide)
    (hs : swapsWith e (some (.Name x pos')) pos.line X.env = pure false := by rfl) (hf : X.fn x = true ∨ X.env.scope.names.lookup x = some .local := by first | exact .inl rfl | exact .inr rfl | assumption) :
    DS1 X Z ow (ow.set i n) ol ox rm (.Assign [.Name x pos'] e pos) (dSet i f) := PS.mono (ps_set hN hi hx h hs hf) fun Dn σ H h => tSet_of S (notIn hps) hl h
end
end L2
namespace L2
open PySem PySem.Spec PyProof.Rows
noncomputable def dLoop (set : D → DS → Option DS) (body : M Fl) : List D → M Fl
  | [] => fun δ => .ok .next δ
  | d :: ds => fun δ => match set d δ with
    | none => .stuck
    | some δ1 => (body δ1).bind fun fl δ2 => match fl with
      | .next => dLoop set body ds δ2
      | .cont => dLoop set body ds δ2
      | .brk => .ok .next δ2
      | .ret d => .ok (.ret d) δ2
noncomputable def TgS (X : Cx) (Z : Ent) (ow : List Nat) (g : TG) (set : D → DS → Option DS) : Prop := ∀ (F H : Hp) (σ : St) (δ δ' : DS) (d : D) (v : V) (Q : St → Hp → Prop), Rel X.K Z ow F H σ δ → Rep X.K F d v → set d δ = some δ' → (∀ σ', Rel X.K Z ow F H σ' δ' → Q σ' H) → g v σ H Q
noncomputable def setN (i : Nat) : D → DS → Option DS := fun d δ => if i < δ.length then some (δ.set i (some d)) else none
noncomputable def setT (is : List Nat) : D → DS → Option DS := fun d δ => match d with
  | .tuple ds => if ds.length = is.length then (is.zip ds).foldl (fun (o : Option DS) (p : Nat × D) => o.bind fun δ => setN p.1 p.2 δ) (some δ) else none
  | _ => none
section
variable {X : Cx} {Z : Ent} {ow ow' ol ox : List Nat} {n rm : Nat} {pos : Pos} {e tg : Expr} {f : M D} {sts : List Stmt} {u : M Fl} {g : TG} {set : D → DS → Option DS}
theorem set0 {i : Nat} (h : ow.getD i 0 = 0) : ow.set i 0 = ow := by
  by_cases hi : i < ow.length
  · apply List.ext_getElem?
    intro j
    by_cases hj : j = i
    · subst hj
      rw [List.getElem?_set_self hi]
      rw [List.getD_eq_getElem?_getD, List.getElem?_eq_getElem hi] at h
      rw [List.getElem?_eq_getElem hi]
      exact congrArg some h.symm
    · rw [List.getElem?_set_ne (Ne.symm hj)]
  · exact List.set_eq_of_length_le (by omega)
theorem tg_name {i : Nat} (S : Small Z ow) (hps : i ∉ Z.ps) (hl : i < ow.length) (h0 : ow.getD i 0 = 0) : TgS X Z ow (gName i) (setN i) := fun F H σ δ δ' d v Q R r e q => by
  unfold setN at e
  split at e
  · rename_i hi
    cases e
    have := (R.x r).store S hi hps hl
    rw [set0 h0] at this
    exact q _ this
  · cases e
theorem tgs_names (S : Small Z ow) : ∀ (is : List Nat) (t : TGs), (∀ i ∈ is, i ∉ Z.ps ∧ i < ow.length ∧ ow.getD i 0 = 0) → t = is.foldr (fun i u => gCons (gName i) u) gNil →
    ∀ (F H : Hp) (σ : St) (δ δ' : DS) (ds : List D) (vs : List V) (Q : St → Hp → Prop), Rel X.K Z ow F H σ δ → RepAll X.K F ds vs → ds.length = is.length → (is.zip ds).foldl (fun (o : Option DS) (p : Nat × D) => o.bind fun δ => setN p.1 p.2 δ) (some δ) = some δ' →
      (∀ σ', Rel X.K Z ow F H σ' δ' → Q σ' H) → t vs σ H Q
  | [], t, _, ht, F, H, σ, δ, δ', ds, vs, Q, R, r, hl, e, q => by
    cases ds with
    | cons _ _ => cases hl
    | nil =>
      unfold RepAll at r
      subst ht r
      cases e
      exact ⟨rfl, q σ R⟩
  | i :: is, t, hi, ht, F, H, σ, δ, δ', ds, vs, Q, R, r, hl, e, q => by
    cases ds with
    | nil => cases hl
    | cons d ds =>
      unfold RepAll at r
      obtain ⟨x, rest, rfl, rx, r⟩ := r
      subst ht
      rw [List.zip_cons_cons, List.foldl_cons] at e
      have no : ∀ (l : List (Nat × D)), l.foldl (fun (o : Option DS) (p : Nat × D) => o.bind fun δ => setN p.1 p.2 δ) none = none := fun l => by
        induction l with
        | nil => rfl
        | cons p l ih => rw [List.foldl_cons]; exact ih
      cases e1 : setN i d δ with
      | none =>
        rw [show ((some δ : Option DS).bind fun δ => setN (i, d).1 (i, d).2 δ) = none from e1, no] at e
        cases e
      | some δ1 =>
        rw [show ((some δ : Option DS).bind fun δ => setN (i, d).1 (i, d).2 δ) = some δ1 from e1] at e
        obtain ⟨h1, h2, h3⟩ := hi i List.mem_cons_self
        refine ⟨x, rest, rfl, tg_name S h1 h2 h3 F H σ δ δ1 d x _ R rx e1 fun σ' R' => ?_⟩
        exact tgs_names S is _ (fun j hj => hi j (List.mem_cons_of_mem _ hj)) rfl F H σ' δ1 δ' ds rest Q R' r (by simpa using hl) e q
theorem tg_tup {is : List Nat} {t : TGs} (S : Small Z ow) (hi : ∀ i ∈ is, i ∉ Z.ps ∧ i < ow.length ∧ ow.getD i 0 = 0) (ht : t = is.foldr (fun i u => gCons (gName i) u) gNil) : TgS X Z ow (gTup X.K is.length t) (setT is) := fun F H σ δ δ' d v Q R r e q => by
  unfold setT at e
  cases d with
  | tuple ds =>
    dsimp only at e
    split at e
    · rename_i hl
      unfold Rep at r
      obtain ⟨a, xs, rfl, hq, ra⟩ := r
      exact ⟨a, xs, rfl, R.sub.seqT hq, by rw [← ra.len]; exact hl, tgs_names S is t hi ht F H σ δ δ' ds xs Q R ra hl e q⟩
    · cases e
  | _ => cases e
theorem loop_at {Dn : Ends} {F F1 H : Hp} {σ : St} {δ : DS} {ds : List D} {k : Nat} {d : D} {x : V} (hg : TgS X Z ow g set) (R : Rel X.K Z ow F H σ δ) (s1 : Same F1 F) (hk : kS X Z ow ol ox rm (dLoop set u (ds.drop k) δ) F Dn) (hd : ds[k]? = some d) (rx : Rep X.K F d x)
    (Pv : Nat → St → Hp → Prop) (hP : ∀ k σ H F δ, Rel X.K Z ow F H σ δ → Same F1 F → kS X Z ow ol ox rm (dLoop set u (ds.drop k) δ) F Dn → Pv k σ H) :
    g x σ H fun σ2 H2 => tS X Z ow ow ow ox rm u { Dn with nx := Pv (k + 1), ct := Pv (k + 1), bk := Dn.nx } σ2 H2 := by
  have e : ds.drop k = d :: ds.drop (k + 1) := by
    obtain ⟨hlt, rfl⟩ := List.getElem?_eq_some_iff.mp hd
    exact List.drop_eq_getElem_cons hlt
  rw [e] at hk
  unfold dLoop at hk
  cases e1 : set d δ with
  | none => simp only [e1] at hk; exact hk.elim
  | some δ1 =>
    simp only [e1] at hk
    refine hg F H σ δ δ1 d x _ R rx e1 fun σ' R' => ⟨F, δ1, R', ?_⟩
    cases e2 : u δ1 with
    | stuck => rw [e2] at hk; exact hk.elim
    | err y δ2 => rw [e2] at hk; exact hk
    | ok fl δ2 =>
      rw [e2] at hk
      simp only [Res.bind] at hk
      cases fl with
      | next => exact fun σ2 H2 F2 R2 s2 => hP _ σ2 H2 F2 δ2 R2 (s1.trans' s2) (hk.mono s2)
      | cont => exact fun σ2 H2 F2 R2 s2 => hP _ σ2 H2 F2 δ2 R2 (s1.trans' s2) (hk.mono s2)
      | brk => exact hk
      | ret d => exact hk
noncomputable def iSeq (K : PySem.W.Frag) (tl : TE) : TI := fun σ H R => tl σ H fun x H1 => (∃ a, x = .ref a ∧ (∃ xs, SqL K H1 a xs) ∧ R (Itl K a) H1) ∨ (∃ a, x = .ref a ∧ (∃ xs, SqT K H1 a xs) ∧ R (Itt K a) H1)
theorem pi_seq {l : Expr} {tl : TE} (hl : PE X l tl) : PI X tg l (iSeq X.K tl) := by
  intro pins s σ H R I h
  refine thn (hl pins s σ H _ I h) fun v s1 ⟨x, H1, I1, r1, q1⟩ => ?_
  rcases q1 with ⟨a, e, ⟨xs, hq⟩, q⟩ | ⟨a, e, ⟨xs, hq⟩, q⟩
  · subst e
    cases r1
    obtain ⟨its, rv, p, hz⟩ := I1.list hq
    refine wpAny_pyIter_list p.isList ?_
    refine ⟨s1.heap.objs.size, [s1.heap.objs.size], _, _, H1, rfl, I1.kept (t' := s1.toks) fun b o e => Heap.get?_push_of_some _ e, turn_list a _, ⟨_, Heap.get?_push_size _ rfl, rfl, rfl⟩, fun b hb => ?_, q⟩
    have e : b = s1.heap.objs.size := by simpa using hb
    subst e
    exact I1.fpOk (Nat.le_refl _) (I1.hok.fresh (Nat.le_refl _))
  · subst e
    cases r1
    obtain ⟨its, rv, p, hz⟩ := I1.tuple hq
    refine wpAny_pyIter_tuple (show s1.heap.IsTuple a its.toArray from p) ?_
    refine ⟨s1.heap.objs.size, [s1.heap.objs.size], _, _, H1, rfl, I1.kept (t' := s1.toks) fun b o e => Heap.get?_push_of_some _ e, turn_tuple a _, ⟨_, Heap.get?_push_size _ rfl, rfl, rfl⟩, fun b hb => ?_, q⟩
    have e : b = s1.heap.objs.size := by simpa using hb
    subst e
    exact I1.fpOk (Nat.le_refl _) (I1.hok.fresh (Nat.le_refl _))
noncomputable def rngD (lo : Int) (n : Nat) : List D := (List.range n).map fun (k : Nat) => PyData.int (lo + (k : Int))
theorem rngD_at {lo : Int} {n k : Nat} (h : k < n) : (rngD lo n)[k]? = some (.int (lo + (k : Int))) := by
  unfold rngD
  rw [List.getElem?_map, List.getElem?_range h]
  rfl
theorem rngD_len {lo : Int} {n : Nat} : (rngD lo n).length = n := by unfold rngD; rw [List.length_map, List.length_range]
noncomputable def rng2 : List D → Option (Int × Nat)
  | [.int j] => if -(2 ^ 62) ≤ j ∧ j < 2 ^ 62 then some (0, j.toNat) else none
  | [.int i, .int j] => if -(2 ^ 62) ≤ i ∧ i < 2 ^ 62 ∧ -(2 ^ 62) ≤ j ∧ j < 2 ^ 62 then some (i, (j - i).toNat) else none
  | _ => none
theorem dVals_len : ∀ {fs : List (M D)} {δ δ1 : DS} {ds : List D}, dVals fs δ = .ok ds δ1 → ds.length = fs.length
  | [], δ, δ1, ds, h => by cases h; rfl
  | f :: fs, δ, δ1, ds, h => by
    unfold dVals at h
    cases e : f δ with
    | stuck => rw [e] at h; cases h
    | err x δ2 => rw [e] at h; cases h
    | ok d δ2 =>
      rw [e] at h
      simp only [Res.bind] at h
      cases e2 : dVals fs δ2 with
      | stuck => rw [e2] at h; cases h
      | err x δ3 => rw [e2] at h; cases h
      | ok ds' δ3 =>
        rw [e2] at h
        cases h
        rw [List.length_cons, List.length_cons, dVals_len e2]
theorem rng2_one {ds : List D} {lo : Int} {n : Nat} (h : rng2 ds = some (lo, n)) (hl : ds.length = 1) : ∃ j : Int, ds = [.int j] ∧ -(2 ^ 62) ≤ j ∧ j < 2 ^ 62 ∧ lo = 0 ∧ n = j.toNat := by
  unfold rng2 at h
  split at h
  · rename_i j
    split at h
    · rename_i hj; cases h; exact ⟨j, rfl, hj.1, hj.2, rfl, rfl⟩
    · cases h
  · cases hl
  · cases h
theorem repInts1 {K : PySem.W.Frag} {F : Hp} {j : Int} {vs : List V} (h : RepAll K F [.int j] vs) : vs = [.int j] := by
  unfold RepAll at h
  obtain ⟨x, r, rfl, rx, h⟩ := h
  unfold RepAll at h
  unfold Rep at rx
  rw [h, rx]
noncomputable def dWh (c : M Bool) (u : M Fl) : Nat → M Fl
  | 0 => fun _ => .stuck
  | n + 1 => fun δ => (c δ).bind fun b δ1 => if b = true then (u δ1).bind fun fl δ2 => (match fl with
      | .next => dWh c u n δ2
      | .cont => dWh c u n δ2
      | .brk => .ok .next δ2
      | .ret d => .ok (.ret d) δ2) else .ok .next δ1
noncomputable def dWhile (c : M Bool) (u : M Fl) : M Fl := fun δ => open Classical in if h : ∃ n, dWh c u n δ ≠ .stuck then dWh c u h.choose δ else .stuck
theorem dWh_more {c : M Bool} {u : M Fl} : ∀ {n : Nat} {δ : DS}, dWh c u n δ ≠ .stuck → dWh c u (n + 1) δ = dWh c u n δ
  | 0, δ, h => absurd rfl h
  | n + 1, δ, h => by
    have e : ∀ m, dWh c u (m + 1) δ = (c δ).bind fun b δ1 => if b = true then (u δ1).bind fun fl δ2 => (match fl with
      | .next => dWh c u m δ2
      | .cont => dWh c u m δ2
      | .brk => .ok .next δ2
      | .ret d => .ok (.ret d) δ2) else .ok .next δ1 := fun m => rfl
    rw [e n] at h
    rw [e (n + 1), e n]
    cases e1 : c δ with
    | stuck => rfl
    | err x δ1 => rfl
    | ok b δ1 =>
      rw [e1] at h
      simp only [Res.bind] at h ⊢
      cases b with
      | false => rfl
      | true =>
        rw [if_pos rfl] at h ⊢
        rw [if_pos rfl]
        cases e2 : u δ1 with
        | stuck => rfl
        | err x δ2 => rfl
        | ok fl δ2 =>
          rw [e2] at h
          simp only at h ⊢
          cases fl with
          | next => exact dWh_more h
          | cont => exact dWh_more h
          | brk => rfl
          | ret d => rfl
theorem dWh_le {c : M Bool} {u : M Fl} {n m : Nat} {δ : DS} (h : dWh c u n δ ≠ .stuck) (l : n ≤ m) : dWh c u m δ = dWh c u n δ := by
  induction l with
  | refl => rfl
  | step l ih => rw [dWh_more (by rw [ih]; exact h), ih]
theorem dWhile_of {c : M Bool} {u : M Fl} {δ : DS} (n : Nat) (h : dWh c u n δ ≠ .stuck) : dWhile c u δ = dWh c u n δ := by
  have ex : ∃ n, dWh c u n δ ≠ .stuck := ⟨n, h⟩
  unfold dWhile
  rw [dif_pos ex]
  rcases Nat.le_total n ex.choose with l | l
  · exact dWh_le h l
  · exact (dWh_le ex.choose_spec l).symm
theorem dWhile_step {c : M Bool} {u : M Fl} {δ : DS} : dWhile c u δ = (c δ).bind fun b δ1 => if b = true then (u δ1).bind fun fl δ2 => (match fl with
      | .next => dWhile c u δ2
      | .cont => dWhile c u δ2
      | .brk => .ok .next δ2
      | .ret d => .ok (.ret d) δ2) else .ok .next δ1 := by
  have e : ∀ m, dWh c u (m + 1) δ = (c δ).bind fun b δ1 => if b = true then (u δ1).bind fun fl δ2 => (match fl with
      | .next => dWh c u m δ2
      | .cont => dWh c u m δ2
      | .brk => .ok .next δ2
      | .ret d => .ok (.ret d) δ2) else .ok .next δ1 := fun m => rfl
  have go : ∀ (δ2 : DS), (∀ m, dWh c u m δ2 = .stuck) → dWhile c u δ2 = .stuck := fun δ2 h => by
    unfold dWhile
    rw [dif_neg fun ⟨n, q⟩ => q (h n)]
  by_cases ex : ∃ n, dWh c u n δ ≠ .stuck
  · obtain ⟨n, h⟩ := ex
    cases n with
    | zero => exact absurd rfl h
    | succ n =>
      rw [dWhile_of (n + 1) h, e n]
      rw [e n] at h
      cases e1 : c δ with
      | stuck => rfl
      | err x δ1 => rfl
      | ok b δ1 =>
        rw [e1] at h
        simp only [Res.bind] at h ⊢
        cases b with
        | false => rfl
        | true =>
          rw [if_pos rfl] at h ⊢
          rw [if_pos rfl]
          cases e2 : u δ1 with
          | stuck => rfl
          | err x δ2 => rfl
          | ok fl δ2 =>
            rw [e2] at h
            simp only at h ⊢
            cases fl with
            | next => exact (dWhile_of n h).symm
            | cont => exact (dWhile_of n h).symm
            | brk => rfl
            | ret d => rfl
  · have all : ∀ n, dWh c u n δ = .stuck := fun n => Classical.byContradiction fun q => ex ⟨n, q⟩
    rw [go δ all]
    have a1 := fun m => (e m).symm.trans (all (m + 1))
    cases e1 : c δ with
    | stuck => rfl
    | err x δ1 => have := a1 0; rw [e1] at this; cases this
    | ok b δ1 =>
      simp only [Res.bind]
      cases b with
      | false => have := a1 0; rw [e1] at this; simp only [Res.bind] at this; cases this
      | true =>
        rw [if_pos rfl]
        cases e2 : u δ1 with
        | stuck => rfl
        | err x δ2 => have := a1 0; rw [e1] at this; simp only [Res.bind, if_true, e2] at this; cases this
        | ok fl δ2 =>
          cases fl with
          | next => exact (go δ2 fun m => by have := a1 m; rw [e1] at this; simp only [Res.bind, if_true, e2] at this; exact this).symm
          | cont => exact (go δ2 fun m => by have := a1 m; rw [e1] at this; simp only [Res.bind, if_true, e2] at this; exact this).symm
          | brk => have := a1 0; rw [e1] at this; simp only [Res.bind, if_true, e2] at this; cases this
          | ret d => have := a1 0; rw [e1] at this; simp only [Res.bind, if_true, e2] at this; cases this
theorem ds_while {k : M Bool} (hp : PassesOwn (model X.prog X.w) X.A X.env X.xe) (hc : DT X Z ow e k) (hb : DSs X Z ow ow ow ox rm sts u) : DS1 X Z ow ow ol ox rm (.While e sts [] pos) (dWhile k u) := PS.mono (ps_while hp hc hb) fun Dn σ H h => by
  obtain ⟨F, δ, R, h⟩ := h
  have ex : ∃ n, dWh k u n δ ≠ .stuck := Classical.byContradiction fun q => by
    unfold dWhile at h
    rw [dif_neg q] at h
    exact h
  obtain ⟨n0, hn⟩ := ex
  rw [dWhile_of n0 hn] at h
  refine ⟨fun m σ H => ∃ F2 δ2, Rel X.K Z ow F2 H σ δ2 ∧ kS X Z ow ol ox rm (dWh k u m δ2) F2 Dn, ⟨n0, F, δ, R, h⟩, ?_⟩
  rintro m σ1 H1 ⟨F1, δ1, R1, k1⟩
  cases m with
  | zero => exact k1.elim
  | succ m =>
    unfold dWh at k1
    refine ⟨F1, δ1, R1, ?_⟩
    cases e1 : k δ1 with
    | stuck => rw [e1] at k1; exact k1.elim
    | err x δ2 => rw [e1] at k1; exact XOk.cast k1
    | ok b δ2 =>
      rw [e1] at k1
      simp only [Res.bind] at k1
      intro H2 F2 R2 s2
      cases b with
      | false => rw [if_neg Bool.false_ne_true] at k1 ⊢; exact k1 σ1 H2 F2 R2 s2
      | true =>
        rw [if_pos rfl] at k1 ⊢
        refine ⟨fun σ3 H3 => ∃ F3 δ3, Rel X.K Z ow F3 H3 σ3 δ3 ∧ kS X Z ow ol ox rm (dWh k u m δ3) F3 Dn, fun σ' H' ⟨F3, δ3, R3, k3⟩ => ⟨m, Nat.lt_succ_self _, F3, δ3, R3, k3⟩, F2, δ2, R2, ?_⟩
        cases e2 : u δ2 with
        | stuck => rw [e2] at k1; exact k1.elim
        | err x δ3 => rw [e2] at k1; exact XOk.mono k1 s2
        | ok fl δ3 =>
          rw [e2] at k1
          simp only at k1
          cases fl with
          | next => exact fun σ3 H3 F3 R3 s3 => ⟨F3, δ3, R3, k1.mono (s2.trans' s3)⟩
          | cont => exact fun σ3 H3 F3 R3 s3 => ⟨F3, δ3, R3, k1.mono (s2.trans' s3)⟩
          | brk => exact kS.mono (r := .ok .next δ3) k1 s2
          | ret d => exact kS.mono (r := .ok (.ret d) δ3) k1 s2
end
end L2
namespace L2
open PySem PySem.Spec PyProof.Rows
structure RetR (K : PySem.W.Frag) (ps owp : List Nat) (rm : Nat) (F H : Hp) (g : Addr → Option Lab) (vs : List V) (F' H' : Hp) (g' : Addr → Option Lab) (outs : List D) (d : D) (v : V) : Prop where
  s : Same F F'
  sub : Same F' H'
  kept : ∀ b o, g b = none → H b = some o → H' b = some o
  new : ∀ a, F a = none → H a ≠ none → F' a = none
  there : ∀ b, H b ≠ none → H' b ≠ none
  lab : ∀ a i p, g' a = some (i, p) → H a = none ∨ ∃ q, g a = some (i, q)
  ret : OwnR K F' H' g' 1000 rm [] d v
  olen : outs.length = ps.length
  out : ∀ (k i : Nat) (d' : D), ps[k]? = some i → outs[k]? = some d' → ∃ v', vs[i]? = some v' ∧ OwnR K F' H' g' i (owp.getD i 0) [] d' v'
noncomputable def endD (K : PySem.W.Frag) (ps owp : List Nat) (rm : Nat) (F H : Hp) (g : Addr → Option Lab) (vs : List V) (Q : VK) (E : XK) : Res D → Prop
  | .ok d outs => ∀ v H' F' g', RetR K ps owp rm F H g vs F' H' g' (outs.filterMap id) d v → Q v H'
  | .err x outs => ∀ nm, x = .str nm → ∀ H' F' g', RetR K ps owp 0 F H g vs F' H' g' (outs.filterMap id) .none .non → E (.str nm 0) none H'
  | .stuck => False
noncomputable def spD (K : PySem.W.Frag) (ps owp : List Nat) (rm : Nat) (f : List D → Res D) : Sp := fun vs H Q E => ∃ F g ds, Same F H ∧ ds.length = vs.length ∧ (∀ a i p, g a = some (i, p) → i ∈ ps) ∧
  (∀ (i : Nat) (d : D) (v : V), ds[i]? = some d → vs[i]? = some v → OwnR K F H g i (owp.getD i 0) [] d v) ∧ endD K ps owp rm F H g vs Q E (f ds)
noncomputable def CXE (P : Program) (w : World) (K : PySem.W.Frag) : CXT := fun outer H s E e s' => ∃ nm a cls ch H', e = .ref a ∧ PySem.W.nsIn K mainGlobals nm = some (some cls) ∧ s'.os = s.os ∧ AllBare s'.gens ∧ Un (frs outer) [] H H' s.heap s'.heap ∧ HOk P w H' s'.heap ∧
  ExcAt s'.heap a cls ch ∧ (∀ b ∈ ch, H' b = none ∧ s.heap.get? b = none) ∧ E (.str nm 0) none H'
noncomputable def outsOf (δ : DS) : List Nat → Option (List D)
  | [] => some []
  | i :: is => match δ[i]?, outsOf δ is with
    | some (some d), some ds => some (d :: ds)
    | _, _ => none
theorem outsOf_at {δ : DS} : ∀ {is : List Nat} {ds : List D}, outsOf δ is = some ds → ds.length = is.length ∧ ∀ (k i : Nat) (d : D), is[k]? = some i → ds[k]? = some d → δ[i]? = some (some d)
  | [], ds, h => by cases h; exact ⟨rfl, fun k i d e => by simp at e⟩
  | i :: is, ds, h => by
    unfold outsOf at h
    split at h
    · rename_i d ds' e1 e2
      cases h
      obtain ⟨h1, h2⟩ := outsOf_at e2
      refine ⟨by simp [h1], fun k j d' q1 q2 => ?_⟩
      cases k with
      | zero => cases q1; cases q2; exact e1
      | succ k => exact h2 k j d' (by simpa using q1) (by simpa using q2)
    · cases h
noncomputable def runFn (m : Nat) (ps : List Nat) (rm : Nat) (body : M Fl) : List D → Res D := fun ds => match body (ds.map some ++ List.replicate (m - ds.length) none) with
  | .ok (.ret d) δ => (match outsOf δ ps with
    | some outs => .ok d (outs.map some)
    | none => .stuck)
  | .ok .next δ => if rm = 0 then (match outsOf δ ps with
    | some outs => .ok .none (outs.map some)
    | none => .stuck) else .stuck
  | .ok _ _ => .stuck
  | .err x δ => (match outsOf δ ps with
    | some outs => .err x (outs.map some)
    | none => .stuck)
  | .stuck => .stuck
section
variable {P : Program} {w : World} {K : PySem.W.Frag} {mg : Str → Option Value} {base : Heap}
theorem Fun.okG {CX : CXT} {x qual : Str} {st : Stmt} {f : Addr} {fd : FuncData} {N ps : List Str} {k : Nat} {sp : Sp} (F : Fun K x qual st f fd) (S : FnScope N ps (defScope st)) (len : ∀ vs H Q E, sp vs H Q E → vs.length = ps.length)
    (hbody : ∀ (cdv : Value) (A : Around) (outer : List Env) (s : Shared) (H : Hp) (vs : List V) (Q : VK) (E : XK), Room k (A.deeper (envOfC qual (defScope st) s.heap.objs.size f cdv)) → sp vs H Q E →
      ∃ t, PSs (cxOf CX P w K mg base N qual (defScope st) f cdv A outer s H E) (defBody st) t ∧ t { nx := fun _ H' => Q .non H', rt := Q } (start N vs) H) : FnOk P w K mg base CX (k + 1) f fd ps sp := by
  obtain ⟨oc, od, kV, doc, pm, an, cdv, ct, osl, rfl, lk, hcd⟩ := F.ex
  exact fn_of lk hcd S len fun A outer s H vs Q E hr hsp => hbody cdv A outer s H vs Q E hr hsp
theorem leave_of {N : List Str} {qual : Str} {sc : Scope} {f : Addr} {cdv : Value} {A : Around} {outer : List Env} {s : Shared} {H : Hp} {E : XK} {pins : List (Addr × Obj)} {σ : St} {H1 : Hp} {s1 : Shared} {nm : Str} {e : Value}
    (I : Inv (cxOf (CXE P w K) P w K mg base N qual sc f cdv A outer s H E) pins σ H1 s1) (fl : Fly (cxOf (CXE P w K) P w K mg base N qual sc f cdv A outer s H E) pins H1 s1 nm e) (q : E (.str nm 0) none H1) :
    (cxOf (CXE P w K) P w K mg base N qual sc f cdv A outer s H E).xe e s1 := by
  obtain ⟨a, cls, ch, rfl, hn, x, hc⟩ := fl
  refine leave_x (base := base) (outer := outer) (L := s.heap.objs.size) I.ok.frames I.stack rfl x fun h' ch' xt x' new => ?_
  have I2 := I.xt xt hc
  refine ⟨nm, a, cls, ch', H1, rfl, hn, I2.os, I2.bare, I2.base, I2.hok, x', fun b hb => ?_, q⟩
  rcases new b hb with m | ⟨m0, m⟩
  · exact ⟨(hc b m).un, (hc b m).new.resolve_left fun z => by cases z⟩
  · refine ⟨I.hok.fresh m, ?_⟩
    show s.heap.get? b = none
    cases q : s.heap.get? b with
    | none => rfl
    | some o =>
      obtain ⟨o', e'⟩ := I.base.there b o q (fun z => by cases z)
      rw [m0] at e'; cases e'
theorem Fun.okD {x qual : Str} {st : Stmt} {f : Addr} {fd : FuncData} {N pn : List Str} {k : Nat} {ps owp : List Nat} {rm : Nat} {body : M Fl} (Fn : Fun K x qual st f fd) (S : FnScope N pn (defScope st)) (hN : owp.length = N.length)
    (hb : ∀ (cdv : Value) (A : Around) (outer : List Env) (s : Shared) (H : Hp) (E : XK) (F0 : Hp) (g0 : Addr → Option Lab) (σ0 : St) (wf : ∀ a i q, g0 a = some (i, q) → i ∈ ps), Room k (A.deeper (envOfC qual (defScope st) s.heap.objs.size f cdv)) →
      ∃ ow', DSs (cxOf (CXE P w K) P w K mg base N qual (defScope st) f cdv A outer s H E) ⟨F0, H, g0, ps, σ0, owp, wf⟩ owp ow' ow' ow' rm (defBody st) body) : FnOk P w K mg base (CXE P w K) (k + 1) f fd pn (fun vs H Q E => vs.length = pn.length ∧ spD K ps owp rm (runFn N.length ps rm body) vs H Q E) := by
  refine Fn.okG S (fun vs H Q E h => h.1) fun cdv A outer s H vs Q E hr h => ?_
  obtain ⟨hl, F, g, ds, hs, hd, hg, hv, q⟩ := h
  let Z : Ent := ⟨F, H, g, ps, start N vs, owp, hg⟩
  obtain ⟨ow', hB⟩ := hb cdv A outer s H E F g (start N vs) hg hr
  refine ⟨_, hB, F, ds.map some ++ List.replicate (N.length - ds.length) none, ⟨g, hs, Same.refl _, fun _ _ _ e => e, fun _ h _ => h, fun _ h => h, fun a i p e => .inr ⟨p, e⟩, ?_, fun i _ => ⟨rfl, rfl⟩, fun i d' e => ?_⟩, ?_⟩
  · have hpl : pn.length ≤ N.length := by have := congrArg List.length S.pre; rw [List.length_take] at this; omega
    unfold start
    simp only [List.length_append, List.length_map, List.length_replicate, hd]
  · have hi : i < ds.length := by
      by_cases hi : i < ds.length
      · exact hi
      · rw [List.getElem?_append_right (by simpa using hi), List.getElem?_replicate] at e
        split at e <;> cases e
    rw [List.getElem?_append_left (by simpa using hi), List.getElem?_map, List.getElem?_eq_getElem hi] at e
    have ed : ds[i]? = some d' := by
      rw [List.getElem?_eq_getElem hi]
      simpa using e
    have hi' : i < vs.length := by omega
    refine ⟨vs[i], ?_, hv i d' _ ed (List.getElem?_eq_getElem hi')⟩
    unfold start
    rw [List.getElem?_append_left (by simpa using hi'), List.getElem?_map, List.getElem?_eq_getElem hi']
    rfl
  · have fin : ∀ {rm : Nat} {d0 : D} {δ : DS} {v : V} {σ' : St} {H' F' : Hp} {owr : List Nat} {os : List D}, RelX K Z owr rm d0 v F' H' σ' δ → outsOf δ ps = some os → ∃ g', RetR K ps owp rm F H g vs F' H' g' ((os.map some).filterMap id) d0 v := fun {rm d0 δ v σ' H' F' owr os} R ho => by
      have eo : (os.map some).filterMap id = os := by rw [List.filterMap_map]; exact List.filterMap_some
      rw [eo]
      obtain ⟨g', R, o⟩ := R
      obtain ⟨ol, oa⟩ := outsOf_at ho
      refine ⟨g', R.f0, R.sub, R.kept, R.new, R.there, R.lab, o, ol, fun k i d' h1 h2 => ?_⟩
      obtain ⟨v', e1, o1⟩ := R.slot i d' (oa k i d' h1 h2)
      obtain ⟨p1, p2⟩ := R.par i (List.mem_of_getElem? h1)
      rw [show Z.owp = owp from rfl] at p2
      rw [p2] at o1
      refine ⟨v', ?_, o1⟩
      rw [p1] at e1
      have e1 : (start N vs)[i]? = some (some v') := e1
      unfold start at e1
      by_cases hi : i < vs.length
      · rw [List.getElem?_append_left (by simpa using hi), List.getElem?_map, List.getElem?_eq_getElem hi] at e1
        rw [List.getElem?_eq_getElem hi]
        simpa using e1
      · rw [List.getElem?_append_right (by simpa using hi), List.getElem?_replicate] at e1
        split at e1 <;> cases e1
    unfold runFn at q
    cases e : body (ds.map some ++ List.replicate (N.length - ds.length) none) with
    | stuck => rw [e] at q; exact q.elim
    | err y δ =>
      rw [e] at q
      dsimp only at q
      cases ho : outsOf δ ps with
      | none => rw [ho] at q; exact q.elim
      | some os =>
        rw [ho] at q
        refine ⟨fun pins e1 s1 xp => ?_⟩
        obtain ⟨nm, H1, F1, σ1, rfl, I, R, _, fl⟩ := xp
        obtain ⟨g1, R⟩ := R
        have RX : RelX K Z owp 0 .none .non F1 H1 σ1 δ := ⟨g1, R, by show Rep K F1 .none .non; unfold Rep; rfl⟩
        obtain ⟨g', T⟩ := fin RX ho
        exact leave_of I fl (q nm rfl H1 F1 g' T)
    | ok fl δ =>
      rw [e] at q
      cases fl with
      | brk => exact q.elim
      | cont => exact q.elim
      | ret d0 =>
        dsimp only at q
        intro v σ' H' F' owr R _
        cases ho : outsOf δ ps with
        | none => rw [ho] at q; exact q.elim
        | some os =>
          rw [ho] at q
          obtain ⟨g', T⟩ := fin R ho
          exact q v H' F' g' T
      | next =>
        dsimp only at q
        intro σ' H' F' R _
        by_cases hrm : rm = 0
        · rw [if_pos hrm] at q
          cases ho : outsOf δ ps with
          | none => rw [ho] at q; exact q.elim
          | some os =>
            rw [ho] at q
            obtain ⟨g', R⟩ := R
            have RX : RelX K Z ow' rm .none .non F' H' σ' δ := ⟨g', R, by rw [hrm]; show Rep K F' .none .non; unfold Rep; rfl⟩
            obtain ⟨g2, T⟩ := fin RX ho
            exact q .non H' F' g2 T
        · rw [if_neg hrm] at q; exact q.elim
end
end L2
namespace L2
open PySem PySem.Spec PyProof.Rows
noncomputable def ownSlots : List Arg → List Nat
  | [] => []
  | .own i :: as => i :: ownSlots as
  | .val _ :: as => ownSlots as
noncomputable def ownPos : Nat → List Arg → List Nat
  | _, [] => []
  | k, .own _ :: as => k :: ownPos (k + 1) as
  | k, .val _ :: as => ownPos (k + 1) as
noncomputable def fillA (δ : DS) : List Arg → List (Option D) → Option (List D)
  | [], [] => some []
  | .own i :: as, none :: ds => match δ[i]?, fillA δ as ds with
    | some (some d), some r => some (d :: r)
    | _, _ => none
  | .val _ :: as, some d :: ds => (fillA δ as ds).map (d :: ·)
  | _, _ => none
noncomputable def putOuts : List Nat → List D → DS → DS
  | i :: is, d :: ds, δ => putOuts is ds (δ.set i (some d))
  | _, _, δ => δ
noncomputable def dCall (fn : List D → Res D) (as : List Arg) : M D := fun δ => (dArgs as δ).bind fun ods δ1 => match fillA δ1 as ods with
  | none => .stuck
  | some ds => match fn ds with
    | .ok d outs => .ok d (putOuts (ownSlots as) (outs.filterMap id) δ1)
    | .err x outs => .err x (putOuts (ownSlots as) (outs.filterMap id) δ1)
    | .stuck => .stuck
noncomputable def posOf : Nat → List Arg → Nat → Option Nat
  | _, [], _ => none
  | k, .own i :: as, j => if i = j then some k else posOf (k + 1) as j
  | k, .val _ :: as, j => posOf (k + 1) as j
theorem posOf_at : ∀ {k : Nat} {as : List Arg} {i m : Nat}, posOf k as i = some m → ∃ q, as[q]? = some (.own i) ∧ m = k + q ∧ m ∈ ownPos k as
  | k, .own s :: as, i, m, h => by
    unfold posOf at h
    split at h
    · rename_i e; cases h; exact ⟨0, by rw [e]; rfl, rfl, List.mem_cons_self⟩
    · obtain ⟨q, e1, e2, e3⟩ := posOf_at h
      exact ⟨q + 1, e1, by omega, List.mem_cons_of_mem _ e3⟩
  | k, .val _ :: as, i, m, h => by
    obtain ⟨q, e1, e2, e3⟩ := posOf_at (k := k + 1) (as := as) h
    exact ⟨q + 1, e1, by omega, e3⟩
theorem ownPos_at : ∀ {k : Nat} {as : List Arg} {t m i : Nat}, (ownPos k as)[t]? = some m → (ownSlots as)[t]? = some i → as[m - k]? = some (.own i) ∧ k ≤ m
  | k, .own s :: as, 0, m, i, h1, h2 => by cases h1; cases h2; exact ⟨by rw [Nat.sub_self]; rfl, Nat.le_refl _⟩
  | k, .own s :: as, t + 1, m, i, h1, h2 => by
    obtain ⟨e1, e2⟩ := ownPos_at (k := k + 1) (as := as) (t := t) h1 h2
    exact ⟨by rw [show m - k = (m - (k + 1)) + 1 by omega]; exact e1, by omega⟩
  | k, .val _ :: as, t, m, i, h1, h2 => by
    obtain ⟨e1, e2⟩ := ownPos_at (k := k + 1) (as := as) (t := t) h1 h2
    exact ⟨by rw [show m - k = (m - (k + 1)) + 1 by omega]; exact e1, by omega⟩
theorem mem_own : ∀ {as : List Arg} {q i : Nat}, as[q]? = some (.own i) → i ∈ ownSlots as
  | .own s :: as, 0, i, h => by cases h; exact List.mem_cons_self
  | .own s :: as, q + 1, i, h => List.mem_cons_of_mem _ (mem_own (as := as) (q := q) h)
  | .val _ :: as, 0, i, h => by cases h
  | .val _ :: as, q + 1, i, h => mem_own (as := as) (q := q) h
theorem posOf_own : ∀ {k : Nat} {as : List Arg} {q i : Nat}, (ownSlots as).Nodup → as[q]? = some (.own i) → posOf k as i = some (k + q)
  | k, .own s :: as, 0, i, _, h => by cases h; unfold posOf; rw [if_pos rfl]; rfl
  | k, .own s :: as, q + 1, i, nd, h => by
    have nd' := List.nodup_cons.mp (show (s :: ownSlots as).Nodup from nd)
    have h : as[q]? = some (.own i) := h
    have hm : i ∈ ownSlots as := mem_own h
    have ne : ¬ s = i := fun e => nd'.1 (by rw [e]; exact hm)
    unfold posOf
    rw [if_neg ne, posOf_own nd'.2 h]
    congr 1; omega
  | k, .val _ :: as, 0, i, _, h => by cases h
  | k, .val _ :: as, q + 1, i, nd, h => by
    have e : posOf (k + 1) as i = some (k + 1 + q) := posOf_own (q := q) nd h
    show posOf (k + 1) as i = _
    rw [e]
    congr 1; omega
theorem fillA_at {δ : DS} {K : PySem.W.Frag} {F : Hp} {σ : St} : ∀ {as : List Arg} {ods : List (Option D)} {ds : List D} {vs : List V}, fillA δ as ods = some ds → ArgsV K F σ as ods vs → ds.length = as.length ∧ vs.length = as.length ∧
    ∀ (q : Nat) (d : D) (v : V), ds[q]? = some d → vs[q]? = some v → (∃ i, as[q]? = some (.own i) ∧ δ[i]? = some (some d) ∧ σ[i]? = some (some v)) ∨ ((∃ f, as[q]? = some (.val f)) ∧ Rep K F d v)
  | [], [], ds, [], h, _ => by cases h; exact ⟨rfl, rfl, fun q d v e => by simp at e⟩
  | .own i :: as, none :: ods, ds, v :: vs, h, ⟨z1, z2⟩ => by
    unfold fillA at h
    split at h
    · rename_i d r e1 e2
      cases h
      obtain ⟨h1, h2, h3⟩ := fillA_at e2 z2
      refine ⟨by simp [h1], by simp [h2], fun q d' v' q1 q2 => ?_⟩
      cases q with
      | zero => cases q1; cases q2; exact .inl ⟨i, rfl, e1, z1⟩
      | succ q => exact h3 q d' v' q1 q2
    · cases h
  | .val f :: as, some d :: ods, ds, v :: vs, h, ⟨z1, z2⟩ => by
    unfold fillA at h
    cases e : fillA δ as ods with
    | none => rw [e] at h; cases h
    | some r =>
      rw [e] at h
      cases h
      obtain ⟨h1, h2, h3⟩ := fillA_at e z2
      refine ⟨by simp [h1], by simp [h2], fun q d' v' q1 q2 => ?_⟩
      cases q with
      | zero => cases q1; cases q2; exact .inr ⟨⟨f, rfl⟩, z1⟩
      | succ q => exact h3 q d' v' q1 q2
theorem putOuts_len : ∀ {is : List Nat} {ds : List D} {δ : DS}, (putOuts is ds δ).length = δ.length
  | [], _, _ => by unfold putOuts; rfl
  | _ :: _, [], _ => by unfold putOuts; rfl
  | i :: is, d :: ds, δ => by
    unfold putOuts
    rw [putOuts_len, List.length_set]
theorem putOuts_out : ∀ {is : List Nat} {ds : List D} {δ : DS} {j : Nat}, j ∉ is → (putOuts is ds δ)[j]? = δ[j]?
  | [], _, _, _, _ => by unfold putOuts; rfl
  | _ :: _, [], _, _, _ => by unfold putOuts; rfl
  | i :: is, d :: ds, δ, j, h => by
    unfold putOuts
    rw [putOuts_out fun m => h (List.mem_cons_of_mem _ m), List.getElem?_set_ne fun e => h (by rw [e]; exact List.mem_cons_self)]
theorem putOuts_in : ∀ {is : List Nat} {ds : List D} {δ : DS} {j : Nat} {d : D}, is.Nodup → is.length = ds.length → j ∈ is → (putOuts is ds δ)[j]? = some (some d) → ∃ t : Nat, is[t]? = some j ∧ ds[t]? = some d
  | i :: is, d :: ds, δ, j, d', nd, hl, hm, h => by
    unfold putOuts at h
    have nd := List.nodup_cons.mp nd
    by_cases e : j = i
    · subst e
      rw [putOuts_out nd.1, List.getElem?_set] at h
      split at h
      · split at h
        · cases h; exact ⟨0, rfl, rfl⟩
        · cases h
      · rename_i z; exact absurd rfl z
    · obtain ⟨t, t1, t2⟩ := putOuts_in nd.2 (by simpa using hl) ((List.mem_cons.mp hm).resolve_left e) h
      exact ⟨t + 1, t1, t2⟩
section
variable {X : Cx} {Z : Ent} {ow : List Nat} {n : Nat} {pos : Pos} {as : List Arg} {F H : Hp} {σ : St} {δ : DS} {g : Addr → Option Lab}
noncomputable def gcOf (as : List Arg) (g : Addr → Option Lab) : Addr → Option Lab := fun a => match g a with
  | some (i, p) => (posOf 0 as i).map fun j => (j, p)
  | none => none
noncomputable def gbOf (as : List Arg) (g g' : Addr → Option Lab) : Addr → Option Lab := fun a => match g' a with
  | some (j, p) => if j = 1000 then some (1000, p) else (match as[j]? with | some (.own i) => some (i, p) | _ => none)
  | none => match g a with
    | some (i, p) => if i = 1000 ∨ (posOf 0 as i).isSome = true then none else some (i, p)
    | none => none
theorem gc_in {a : Addr} {i j : Nat} {p : List Nat} (h : g a = some (i, p)) (e : posOf 0 as i = some j) : gcOf as g a = some (j, p) := by
  unfold gcOf; rw [h]; dsimp only; rw [e]; rfl
theorem gc_of {a : Addr} {j : Nat} {p : List Nat} (h : gcOf as g a = some (j, p)) : ∃ i, g a = some (i, p) ∧ posOf 0 as i = some j := by
  unfold gcOf at h
  cases e : g a with
  | none => rw [e] at h; cases h
  | some l =>
    obtain ⟨i, q⟩ := l
    rw [e] at h
    dsimp only at h
    cases e2 : posOf 0 as i with
    | none => rw [e2] at h; cases h
    | some m => rw [e2] at h; cases h; exact ⟨i, rfl, e2⟩
theorem ret_back {ps owp : List Nat} {rm : Nat} {ods : List (Option D)} {ds : List D} {vs : List V} {d : D} {outs : List D} {v : V} {F' H' : Hp} {g' : Addr → Option Lab} (S : Small Z ow) (R : RelG X.K Z ow g F H σ δ) (hA : ArgsV X.K F σ as ods vs) (hf : fillA δ as ods = some ds)
    (hps : ownPos 0 as = ps) (nd : (ownSlots as).Nodup) (hm : ∀ q i, as[q]? = some (.own i) → owp.getD q 0 = ow.getD i 0) (hlt : as.length ≤ 1000)
    (T : RetR X.K ps owp rm F H (gcOf as g) vs F' H' g' outs d v) : RelX X.K Z ow rm d v F' H' σ (putOuts (ownSlots as) outs δ) := by
  obtain ⟨l1, l2, hat⟩ := fillA_at hf hA
  have keepOut : ∀ {a : Addr} {i : Nat} {p : List Nat}, g a = some (i, p) → i ∉ ownSlots as → gcOf as g a = none := fun {a i p} e hi => by
    cases e1 : gcOf as g a with
    | none => rfl
    | some l =>
      obtain ⟨j, r⟩ := l
      obtain ⟨i', e2, e3⟩ := gc_of e1
      rw [e] at e2; cases e2
      obtain ⟨q, e4, _⟩ := posOf_at e3
      exact absurd (mem_own e4) hi
  have h0 : ∀ a, H a = none → Z.H0 a = none := fun a e => by
    cases e1 : Z.H0 a with
    | none => rfl
    | some o => exact absurd e (R.there a (by rw [e1]; simp))
  refine ⟨gbOf as g g', ⟨T.sub, R.f0.trans' T.s, fun b o n e => ?_, fun a z1 z2 => T.new a (R.new a z1 z2) (R.there a z2), fun b z => T.there b (R.there b z), fun a i p e => ?_, by rw [putOuts_len]; exact R.len, R.par, fun i d' e => ?_⟩, ?_⟩
  · refine T.kept b o ?_ (R.kept b o n e)
    cases e1 : gcOf as g b with
    | none => rfl
    | some l =>
      obtain ⟨j, r⟩ := l
      obtain ⟨i', e2, e3⟩ := gc_of e1
      rcases R.lab b i' r e2 with z | ⟨q', z⟩
      · rw [z] at e; cases e
      · rw [z] at n; cases n
  · unfold gbOf at e
    cases e1 : g' a with
    | some l =>
      obtain ⟨j, r⟩ := l
      rw [e1] at e
      dsimp only at e
      rcases T.lab a j r e1 with z | ⟨q', z⟩
      · exact .inl (h0 a z)
      · obtain ⟨i', z1, z2⟩ := gc_of z
        obtain ⟨q2, z3, z4, _⟩ := posOf_at z2
        have : j = q2 := by omega
        subst this
        have hj : j ≠ 1000 := fun w => by
          have := (List.getElem?_eq_some_iff.mp z3).1
          omega
        rw [if_neg hj, z3] at e
        cases e
        exact R.lab a i q' z1
    | none =>
      rw [e1] at e
      dsimp only at e
      cases e2 : g a with
      | none => rw [e2] at e; cases e
      | some l =>
        obtain ⟨j, r⟩ := l
        rw [e2] at e
        dsimp only at e
        split at e
        · cases e
        · cases e; exact R.lab a i p e2
  · by_cases hi : i ∈ ownSlots as
    · have hl : (ownSlots as).length = outs.length := by
        rw [T.olen, ← hps]
        have : ∀ (k : Nat) (as : List Arg), (ownSlots as).length = (ownPos k as).length := by
          intro k as
          induction as generalizing k with
          | nil => rfl
          | cons a as ih =>
            cases a with
            | own i => exact congrArg Nat.succ (ih (k + 1))
            | val f => exact ih (k + 1)
        exact this 0 as
      obtain ⟨t, t1, t2⟩ := putOuts_in nd hl hi e
      have hpos : ∃ m, ps[t]? = some m := by
        have : t < ps.length := by rw [← T.olen]; exact (List.getElem?_eq_some_iff.mp t2).1
        exact ⟨ps[t], List.getElem?_eq_getElem this⟩
      obtain ⟨m, hm1⟩ := hpos
      obtain ⟨v', o1, o2⟩ := T.out t m d' hm1 t2
      have e3 := (ownPos_at (k := 0) (by rw [hps]; exact hm1) t1).1
      rw [Nat.sub_zero] at e3
      have hlm : m < ds.length := by
        have := (List.getElem?_eq_some_iff.mp e3).1
        omega
      rcases hat m ds[m] v' (List.getElem?_eq_getElem hlm) o1 with ⟨s, a1, a2, a3⟩ | ⟨⟨f, a1⟩, a2⟩
      · rw [e3] at a1; cases a1
        refine ⟨v', a3, ?_⟩
        rw [hm m i e3] at o2
        refine o2.relab fun a p e4 => ?_
        unfold gbOf
        rw [e4]
        dsimp only
        have hj : m ≠ 1000 := fun w => by
          have := (List.getElem?_eq_some_iff.mp e3).1
          omega
        rw [if_neg hj, e3]
      · rw [e3] at a1; cases a1
    · rw [putOuts_out hi] at e
      obtain ⟨w, w1, o⟩ := R.slot i d' e
      refine ⟨w, w1, ?_⟩
      by_cases hz : ow.getD i 0 = 0
      · rw [hz] at o ⊢; exact T.s.rep _ _ o
      · have i1 : i < 1000 := by
          by_cases hl : i < ow.length
          · exact Nat.lt_of_lt_of_le hl S.ow
          · exact absurd (by rw [List.getD_eq_getElem?_getD, List.getElem?_eq_none (by omega)]; rfl) hz
        have main : ∀ {n : Nat} {q : List Nat} {d : D} {v : V}, OwnR X.K F H g i n q d v → OwnR X.K F' H' (gbOf as g g') i n q d v := by
          intro n
          induction n with
          | zero => intro q d v h; exact T.s.rep d v h
          | succ n ih =>
            rintro q d v ⟨a, ds, vs, e1, e2, e3, e4, e5, e6, h⟩
            have gn := keepOut e3 hi
            have g'n : g' a = none := by
              cases e7 : g' a with
              | none => rfl
              | some l =>
                obtain ⟨j, r⟩ := l
                rcases T.lab a j r e7 with z | ⟨q', z⟩
                · rw [e4] at z; cases z
                · rw [gn] at z; cases z
            refine ⟨a, ds, vs, e1, e2, ?_, T.kept a _ gn e4, T.new a e5 (by rw [e4]; simp), e6, fun k d' v' q1 q2 => ih (h k d' v' q1 q2)⟩
            unfold gbOf
            rw [g'n, e3]
            dsimp only
            rw [if_neg]
            rintro (z | z)
            · omega
            · cases e8 : posOf 0 as i with
              | none => rw [e8] at z; cases z
              | some m => obtain ⟨q, e9, _⟩ := posOf_at e8; exact hi (mem_own e9)
        exact main o
  · refine T.ret.relab fun a p e => ?_
    unfold gbOf
    rw [e]
    exact if_pos rfl
theorem call_of {fn : List D → Res D} {ps owp : List Nat} {rm : Nat} {ods : List (Option D)} {ds : List D} {vs : List V} {Q : VK} {E : XK} (S : Small Z ow) (R : Rel X.K Z ow F H σ δ) (hA : ArgsV X.K F σ as ods vs) (hf : fillA δ as ods = some ds)
    (hps : ownPos 0 as = ps) (nd : (ownSlots as).Nodup) (hm : ∀ q i, as[q]? = some (.own i) → owp.getD q 0 = ow.getD i 0) (hv : ∀ q f, as[q]? = some (.val f) → owp.getD q 0 = 0) (hlt : as.length ≤ 1000)
    (q : match fn ds with
      | .ok d outs => ∀ v H' F', RelX X.K Z ow rm d v F' H' σ (putOuts (ownSlots as) (outs.filterMap id) δ) → Same F F' → Q v H'
      | .err x outs => ∀ nm, x = .str nm → ∀ H' F', Rel X.K Z ow F' H' σ (putOuts (ownSlots as) (outs.filterMap id) δ) → Same F F' → E (.str nm 0) none H'
      | .stuck => False) : spD X.K ps owp rm fn vs H Q E := by
  obtain ⟨g, R⟩ := R
  obtain ⟨l1, l2, hat⟩ := fillA_at hf hA
  refine ⟨F, gcOf as g, ds, R.sub, by omega, fun a i p e => ?_, fun i d' v' e1 e2 => ?_, ?_⟩
  · obtain ⟨j, _, e2⟩ := gc_of e
    obtain ⟨_, _, _, e3⟩ := posOf_at e2
    rw [← hps]; exact e3
  · rcases hat i d' v' e1 e2 with ⟨s, a1, a2, a3⟩ | ⟨⟨f, a1⟩, a2⟩
    · rw [hm i s a1]
      obtain ⟨w, w1, o⟩ := R.slot s d' a2
      rw [a3] at w1; cases w1
      exact o.relab fun a p e => gc_in e (by rw [posOf_own nd a1]; simp)
    · rw [hv i f a1]; exact a2
  · cases e : fn ds with
    | stuck => rw [e] at q; exact q
    | ok d outs =>
      rw [e] at q
      exact fun v H' F' g' T => q v H' F' (ret_back S R hA hf hps nd hm hlt T) T.s
    | err x outs =>
      rw [e] at q
      exact fun nm hx H' F' g' T => q nm hx H' F' (ret_back S R hA hf hps nd hm hlt T).rel T.s
noncomputable def modesOk (owp ow : List Nat) : Nat → List Arg → Bool
  | _, [] => true
  | k, .own i :: as => (owp.getD k 0 == ow.getD i 0) && modesOk owp ow (k + 1) as
  | k, .val _ :: as => (owp.getD k 0 == 0) && modesOk owp ow (k + 1) as
theorem modesOk_at {owp ow : List Nat} : ∀ {k : Nat} {as : List Arg}, modesOk owp ow k as = true → (∀ q i, as[q]? = some (.own i) → owp.getD (k + q) 0 = ow.getD i 0) ∧ (∀ q f, as[q]? = some (.val f) → owp.getD (k + q) 0 = 0)
  | k, [], _ => ⟨fun q i e => by simp at e, fun q f e => by simp at e⟩
  | k, .own s :: as, h => by
    unfold modesOk at h
    rw [Bool.and_eq_true, beq_iff_eq] at h
    obtain ⟨h1, h2⟩ := modesOk_at h.2
    refine ⟨fun q i e => ?_, fun q f e => ?_⟩
    · cases q with
      | zero => cases e; exact h.1
      | succ q => have := h1 q i e; rw [show k + (q + 1) = k + 1 + q by omega]; exact this
    · cases q with
      | zero => cases e
      | succ q => have := h2 q f e; rw [show k + (q + 1) = k + 1 + q by omega]; exact this
  | k, .val _ :: as, h => by
    unfold modesOk at h
    rw [Bool.and_eq_true, beq_iff_eq] at h
    obtain ⟨h1, h2⟩ := modesOk_at h.2
    refine ⟨fun q i e => ?_, fun q f e => ?_⟩
    · cases q with
      | zero => cases e
      | succ q => have := h1 q i e; rw [show k + (q + 1) = k + 1 + q by omega]; exact this
    · cases q with
      | zero => exact h.1
      | succ q => have := h2 q f e; rw [show k + (q + 1) = k + 1 + q by omega]; exact this
noncomputable abbrev SpN (K : PySem.W.Frag) (pn : List Str) (ps owp : List Nat) (rm : Nat) (fn : List D → Res D) : Sp := fun vs H Q E => vs.length = pn.length ∧ spD K ps owp rm fn vs H Q E
noncomputable def tCallX (sp : Sp) (E : St → XK) (t : TA) : TE := fun σ H Q => t σ H fun vs H1 => sp vs H1 Q (E σ)
noncomputable def EX (X : Cx) (σ : St) : XK := fun v _ H' => ∀ nm, v = .str nm 0 → ∀ pins e s', Inv X pins σ H' s' → Fly X pins H' s' nm e → X.xe e s'
theorem pe_callX {e : Expr} {es : List Expr} {x : Str} {p : Pos} {k : Nat} {f : Addr} {fd : FuncData} {pn : List Str} {sp : Sp} {t : TA} (Fk : FnOk X.prog X.w X.K X.mg X.base (CXE X.prog X.w X.K) k f fd pn sp) (hr : Room k X.A) (hg : Gl X x) (hmg : X.mg x = some (.ref f)) (hk : PySem.W.keepIn X.K (.ref f) = true) (hb : Binds X.K fd pn [])
    (ha : PA X (e :: es) t) (hdb : (x == ("__debug__" : Str)) = false := by decide) (he : starEach (e :: es) X.env = (false, eval e X.env) :: starEach es X.env := by rfl) (hpl : (backTo pos (starEach es X.env)).any (·.1) = false := by rfl) :
    PE X (.Call (.Name x p) (e :: es) [] pos) (tCallX sp (EX X) t) := by
  intro pins s σ H Q I h
  refine wpAny_Call_Name_kw (ld_glob I hg hmg ?_ hdb)
  refine PySem.W.callWith_K (h₀ := X.base) I.ok.mod.kin hk (thn (ha pos pins s σ H _ I h) fun us s1 ⟨vs, H1, I1, r, q⟩ => ⟨I1.kIn, ?_⟩) he hpl
  have hl : us.length = pn.length := by rw [← r.length]; exact Fk.len _ _ _ _ q
  have hb' := hb s1 us I1.kIn (by rw [List.append_nil]; exact hl)
  rw [List.append_nil] at hb'
  refine wpAny_call (codeAny_mono (Fk.run X.A X.stack s1 H1 ⟨us, []⟩ us vs Q (EX X σ) hr I1.env0 hb' r q) fun r s' hq => ?_)
  cases r with
  | error e =>
    obtain ⟨nm, a, cls, ch, H', rfl, hn, os, bare, un, hok, x, new, q2⟩ := hq
    have I2 : Inv X pins σ H' s' := I1.call' os un hok bare fun b z => absurd z (by simp)
    exact q2 nm rfl pins _ s' I2 ⟨a, cls, ch, rfl, hn, x, fun b hb => Loose.of I1 (new b hb).1 (new b hb).2⟩
  | ok fl =>
    cases fl with
    | ret u => exact I1.after hq
    | next => exact False.elim hq
    | brk => exact False.elim hq
    | cont => exact False.elim hq
theorem tCall_of {fn : List D → Res D} {ps owp : List Nat} {rm : Nat} {pn : List Str} {Q : VK} (S : Small Z ow) (hz : zfB Z = true) (hl : as.length = pn.length) (hps : ownPos 0 as = ps) (nd : decide (ownSlots as).Nodup = true) (hm : modesOk owp ow 0 as = true) (hlt : as.length ≤ 1000)
    (h : tD X Z ow rm (dCall fn as) σ H Q) : tCallX (SpN X.K pn ps owp rm fn) (EX X) (tAr X Z ow as) σ H Q := by
  obtain ⟨F, δ, R, h⟩ := h
  unfold dCall at h
  refine ⟨F, δ, R, ?_⟩
  obtain ⟨m1, m2⟩ := modesOk_at hm
  cases e : dArgs as δ with
  | stuck => rw [e] at h; exact h.elim
  | err x δ1 => rw [e] at h; exact h
  | ok ods δ1 =>
    rw [e] at h
    simp only [Res.bind] at h
    intro vs H1 F1 R1 s1 z
    cases e2 : fillA δ1 as ods with
    | none => rw [e2] at h; exact h.elim
    | some ds =>
      rw [e2] at h
      dsimp only at h
      have l2 := (fillA_at e2 z).2.1
      refine ⟨by omega, call_of S R1 z e2 hps (of_decide_eq_true nd) (fun q i e => by have := m1 q i e; rwa [Nat.zero_add] at this) (fun q f e => by have := m2 q f e; rwa [Nat.zero_add] at this) hlt ?_⟩
      cases e3 : fn ds with
      | stuck => rw [e3] at h; exact h.elim
      | err x outs =>
        rw [e3] at h
        dsimp only at h ⊢
        intro nm hx H' F' R' s' nm' hnm pins e s2 I2 fl
        injection hnm with hnm
        subst hnm
        obtain ⟨F2, s3, R2⟩ := R'.toP hz
        exact h.out pins e s2 ⟨nm, H', F2, σ, hx, I2, R2, s1.trans' (s'.trans' s3), fl⟩
      | ok d outs =>
        rw [e3] at h
        dsimp only at h ⊢
        exact fun v H' F' R' s' => h v H' F' R' (s1.trans' s')
theorem de_call {e : Expr} {es : List Expr} {x : Str} {p : Pos} {k : Nat} {f : Addr} {fd : FuncData} {fn : List D → Res D} {ps owp : List Nat} {rm : Nat} {pn : List Str} (S : Small Z ow) (Fk : FnOk X.prog X.w X.K X.mg X.base (CXE X.prog X.w X.K) k f fd pn (SpN X.K pn ps owp rm fn)) (hr : Room k X.A) (hg : Gl X x) (hmg : X.mg x = some (.ref f)) (hk : PySem.W.keepIn X.K (.ref f) = true) (hb : Binds X.K fd pn [])
    (ha : DA X Z ow (e :: es) as) (hz : zfB Z = true := by rfl) (hl : as.length = pn.length := by rfl) (hps : ownPos 0 as = ps := by rfl) (nd : decide (ownSlots as).Nodup = true := by rfl) (hm : modesOk owp ow 0 as = true := by rfl) (hlt : as.length ≤ 1000 := by decide)
    (hdb : (x == ("__debug__" : Str)) = false := by decide) (he : starEach (e :: es) X.env = (false, eval e X.env) :: starEach es X.env := by rfl) (hpl : (backTo pos (starEach es X.env)).any (·.1) = false := by rfl) :
    DE X Z ow rm (.Call (.Name x p) (e :: es) [] pos) (dCall fn as) := PE.mono (pe_callX Fk hr hg hmg hk hb ha hdb he hpl) fun _ _ _ h => tCall_of S hz hl hps nd hm hlt h
end
end L2
namespace L2
open PySem PySem.Spec PyProof.Rows
section
variable {X : Cx} {Z : Ent} {ow ow' ol ox : List Nat} {n rm : Nat} {pos : Pos} {e a b c : Expr} {f h : M D} {F H : Hp} {σ : St} {δ : DS} {g : Addr → Option Lab} {K : PySem.W.Frag}
theorem OwnR.relabP {g' : Addr → Option Lab} {i j : Nat} {q : List Nat} (hg : ∀ a p, g a = some (i, p) → g' a = some (j, q ++ p)) : ∀ {n : Nat} {p : List Nat} {d : D} {v : V}, OwnR K F H g i n p d v → OwnR K F H g' j n (q ++ p) d v
  | 0, _, _, _, h => h
  | n + 1, p, _, _, ⟨a, ds, vs, e1, e2, e3, e4, e5, e6, h⟩ => ⟨a, ds, vs, e1, e2, hg a _ e3, e4, e5, e6, fun k d' v' q1 q2 => by rw [List.append_assoc]; exact OwnR.relabP hg (h k d' v' q1 q2)⟩
theorem Rel.rewrite {i : Nat} {ds ds' : List D} {vs' : List V} {a : Addr} (S : Small Z ow) (R : Rel K Z ow F H σ δ) (ho : ow.getD i 0 = 1) (hd : δ[i]? = some (some (.list ds))) (hs : σ[i]? = some (some (.ref a))) (hr : RepAll K F ds' vs') :
    Rel K Z ow F (upd H a (.lst vs')) σ (δ.set i (some (.list ds'))) := by
  obtain ⟨g, R⟩ := R
  obtain ⟨v, e1, o⟩ := R.slot i _ hd
  rw [hs] at e1; cases e1
  rw [ho] at o
  obtain ⟨a', ds0, vs0, q1, q2, q3, q4, q5, q6, q7⟩ := o
  cases q1
  cases q2
  have hi : i < δ.length := (List.getElem?_eq_some_iff.mp hd).1
  refine ⟨g, fun b u e => ?_, R.f0, fun b u n e => ?_, R.new, fun b z => ?_, R.lab, by rw [List.length_set]; exact R.len, R.par, fun j d e => ?_⟩
  · have : b ≠ a := fun z => by rw [z, q5] at e; cases e
    rw [upd_ne this]; exact R.sub b u e
  · have : b ≠ a := fun z => by
      subst z
      rcases R.lab b i [] q3 with w | ⟨q, w⟩
      · rw [w] at e; cases e
      · rw [w] at n; cases n
    rw [upd_ne this]; exact R.kept b u n e
  · by_cases hb : b = a
    · subst hb; rw [upd_same]; simp
    · rw [upd_ne hb]; exact R.there b z
  · by_cases hj : j = i
    · subst hj
      rw [List.getElem?_set_self hi] at e
      cases e
      refine ⟨_, hs, ?_⟩
      rw [ho]
      exact ⟨a, ds', vs', rfl, rfl, q3, upd_same, q5, hr.len, fun k d' v' z1 z2 => hr.both k d' v' z1 z2⟩
    · rw [List.getElem?_set_ne (Ne.symm hj)] at e
      obtain ⟨v, e1, o⟩ := R.slot j d e
      refine ⟨v, e1, o.mono (Same.refl _) (fun _ _ _ e => e) (fun _ _ _ _ h => h) fun a' l u hl e h => ?_⟩
      have : a' ≠ a := fun z => by rw [z, q3] at e; cases e; exact hj hl.symm
      rw [upd_ne this]; exact h
theorem Rel.ownAt {i : Nat} {d : D} (R : Rel K Z ow F H σ δ) (ho : ow.getD i 0 = 1) (hd : δ[i]? = some (some d)) : ∃ a ds vs, d = .list ds ∧ σ[i]? = some (some (.ref a)) ∧ H a = some (.lst vs) ∧ RepAll K F ds vs := by
  obtain ⟨g, R⟩ := R
  obtain ⟨v, e1, o⟩ := R.slot i _ hd
  rw [ho] at o
  obtain ⟨a, ds0, vs0, q1, q2, q3, q4, q5, q6, q7⟩ := o
  exact ⟨a, ds0, vs0, q1, by rw [e1, q2], q4, RepAll.of q6 q7⟩
noncomputable def dMut (i : Nat) (op : List D → List D → Option (D × List D)) (fs : List (M D)) : M D := fun δ => match δ[i]? with
  | some (some _) => (dVals fs δ).bind fun args δ1 => (match δ1[i]? with
    | some (some (.list ds)) => (match op ds args with
      | some (ret, ds') => .ok ret (δ1.set i (some (.list ds')))
      | none => .stuck)
    | _ => .stuck)
  | _ => .stuck
noncomputable def MutS (X : Cx) (r : V → List V → Hp → VK → Prop) (op : List D → List D → Option (D × List D)) : Prop := ∀ (F H : Hp) (l : Addr) (xs vs : List V) (ds args : List D) (ret : D) (ds' : List D), H l = some (.lst xs) → Same F H → RepAll X.K F ds xs → RepAll X.K F args vs → op ds args = some (ret, ds') →
  ∃ xs' rv, RepAll X.K F ds' xs' ∧ Rep X.K F ret rv ∧ ∀ Q : VK, Q rv (upd H l (.lst xs')) → r (.ref l) vs H Q
theorem tMut_of {i : Nat} {r : V → List V → Hp → VK → Prop} {op : List D → List D → Option (D × List D)} {fs : List (M D)} {Q : VK} (S : Small Z ow) (ho : ow.getD i 0 = 1) (hm : MutS X r op) (h : tD X Z ow 0 (dMut i op fs) σ H Q) : tBM X.K "list" r (tVar i) (tV X Z ow fs) σ H Q := by
  obtain ⟨F, δ, R, h⟩ := h
  unfold dMut at h
  cases e0 : δ[i]? with
  | none => rw [e0] at h; exact h.elim
  | some o =>
    cases o with
    | none => rw [e0] at h; exact h.elim
    | some d0 =>
      rw [e0] at h
      dsimp only at h
      obtain ⟨a, ds0, vs0, q1, q2, q3, q4⟩ := R.ownAt ho e0
      refine ⟨_, q2, .inl ⟨rfl, vs0, SqL.of q3⟩, F, δ, R, ?_⟩
      cases e : dVals fs δ with
      | stuck => rw [e] at h; exact h.elim
      | err x δ1 => rw [e] at h; exact h
      | ok args δ1 =>
        rw [e] at h
        simp only [Res.bind] at h
        intro vs H1 F1 R1 s1 z
        cases e1 : δ1[i]? with
        | none => rw [e1] at h; exact h.elim
        | some o =>
          cases o with
          | none => rw [e1] at h; exact h.elim
          | some d1 =>
            rw [e1] at h
            obtain ⟨a', ds1, vs1, p1, p2, p3, p4⟩ := R1.ownAt ho e1
            rw [q2] at p2
            cases p2
            subst p1
            dsimp only at h
            cases e2 : op ds1 args with
            | none => rw [e2] at h; exact h.elim
            | some rr =>
              obtain ⟨ret, ds'⟩ := rr
              rw [e2] at h
              dsimp only at h
              obtain ⟨xs', rv, w1, w2, w3⟩ := hm F1 H1 a vs1 vs ds1 args ret ds' p3 R1.sub p4 z e2
              exact w3 Q (h _ _ F1 ((R1.rewrite S ho e1 q2 w1).x w2) s1)
theorem de_mut (i : Nat) {x : Str} {p q : Pos} {name : Str} {id : String} {es : List Expr} {r : V → List V → Hp → VK → Prop} {op : List D → List D → Option (D × List D)} {fs : List (M D)} (S : Small Z ow) (slot : Slot "list" name id) (hty : typeOf (.builtin id) = pure (.type "method_descriptor")) (hmr : MtR X id r) (hm : MutS X r op)
    (ha : DV X Z ow (e :: es) fs) (ho : ow.getD i 0 = 1 := by rfl) (hN : X.N[i]? = some x := by rfl) (hv : Vis X.env.scope x := by first | exact Or.inl rfl | exact Or.inr (Or.inl rfl) | exact Or.inr (Or.inr rfl)) (hd : (x == ("__debug__" : Str)) = false := by decide) (hcd : (x == ("__classdict__" : Str)) = false := by decide)
    (hbase : attributeBase (.Name x p) name X.env (eval (.Name x p) X.env) = eval (.Name x p) X.env := by rfl)
    (hfew : ((backTo pos (starEach (e :: es) X.env)).all (fun x => !x.1) && (backToKw pos (keywordEach [] X.env)).all (fun x => x.1.isSome)
      && decide ((e :: es).length + ([] : List Keyword).length + (if ([] : List Keyword).isEmpty then 0 else 1) < 30)) = true := by rfl)
    (hline : (q.endLine == pos.line) = true := by rfl) (hs : starEach (e :: es) X.env = (false, eval e X.env) :: starEach es X.env := by rfl) (hplain : (backTo pos (starEach es X.env)).any (·.1) = false := by rfl) :
    DE X Z ow 0 (.Call (.Attribute (.Name x p) name q) (e :: es) [] pos) (dMut i op fs) := PE.mono (pe_bm PySem.F.plainAttrs_list slot hty hmr (pe_var hN hv hd hcd) ha hbase hfew hline hs hplain) fun _ _ _ h => tMut_of S ho hm h
noncomputable def appD : List D → List D → Option (D × List D)
  | ds, [d] => if ds.length < sizeLine then some (.none, ds ++ [d]) else none
  | _, _ => none
theorem repNone {F : Hp} : Rep K F .none .non := by unfold Rep; rfl
theorem mut_append : MutS X rAppend appD := fun F H l xs vs ds args ret ds' hl hs h1 h2 e => by
  unfold appD at e
  split at e
  · rename_i d
    split at e
    · rename_i hlt
      cases e
      unfold RepAll at h2
      obtain ⟨x, r, rfl, hx, h2⟩ := h2
      unfold RepAll at h2
      subst h2
      exact ⟨xs ++ [x], .non, h1.app (repCons hx repNil), repNone, fun Q q => ⟨l, xs, x, rfl, rfl, hl, by rw [← h1.len]; exact hlt, q⟩⟩
    · cases e
  · cases e
theorem de_append (i : Nat) {x : Str} {p q : Pos} (S : Small Z ow) (ha : DE X Z ow 0 e f) (ho : ow.getD i 0 = 1 := by rfl) (hN : X.N[i]? = some x := by rfl) (hv : Vis X.env.scope x := by first | exact Or.inl rfl | exact Or.inr (Or.inl rfl) | exact Or.inr (Or.inr rfl)) (hd : (x == ("__debug__" : Str)) = false := by decide) (hcd : (x == ("__classdict__" : Str)) = false := by decide)
    (hbase : attributeBase (.Name x p) "append" X.env (eval (.Name x p) X.env) = eval (.Name x p) X.env := by rfl)
    (hfew : ((backTo pos (starEach [e] X.env)).all (fun x => !x.1) && (backToKw pos (keywordEach [] X.env)).all (fun x => x.1.isSome)
      && decide ([e].length + ([] : List Keyword).length + (if ([] : List Keyword).isEmpty then 0 else 1) < 30)) = true := by rfl)
    (hline : (q.endLine == pos.line) = true := by rfl) (hs : starEach [e] X.env = (false, eval e X.env) :: starEach [] X.env := by rfl) (hplain : (backTo pos (starEach [] X.env)).any (·.1) = false := by rfl) :
    DE X Z ow 0 (.Call (.Attribute (.Name x p) "append" q) [e] [] pos) (dMut i appD [f]) := de_mut i S PySem.F.slot_list_append PySem.F.type_list_append mt_append mut_append (dv_cons ha dv_nil hs) ho hN hv hd hcd hbase hfew hline hs hplain
noncomputable def dPut (i : Nat) (fk fv : M D) : M Fl := fun δ => (fv δ).bind fun v δ1 => match δ1[i]? with
  | some (some _) => (fk δ1).bind fun k δ2 => (match δ2[i]?, k with
    | some (some (.list ds)), .int k => (match ixN ds.length k with
      | some j => .ok .next (δ2.set i (some (.list (ds.set j v))))
      | none => .stuck)
    | _, _ => .stuck)
  | _ => .stuck
theorem RepAll.set {ds : List D} {vs : List V} {d : D} {v : V} (h : RepAll K F ds vs) (j : Nat) (r : Rep K F d v) : RepAll K F (ds.set j d) (vs.set j v) :=
  RepAll.of (by rw [List.length_set, List.length_set, h.len]) fun k d' v' e1 e2 => by
    by_cases hk : j = k
    · subst hk
      rw [List.getElem?_set] at e1 e2
      simp only [if_true] at e1 e2
      split at e1
      · split at e2
        · cases e1; cases e2; exact r
        · cases e2
      · cases e1
    · rw [List.getElem?_set_ne hk] at e1 e2
      exact h.both k d' v' e1 e2
theorem ds_put (i : Nat) {x : Str} {p : Pos} {spos tpos : Pos} {ek ev : Expr} {fk fv : M D} (S : Small Z ow) (hv : DE X Z ow 0 ev fv) (hk : DE X Z ow 0 ek fk) (ho : ow.getD i 0 = 1 := by rfl) (hN : X.N[i]? = some x := by rfl) (hvi : Vis X.env.scope x := by first | exact Or.inl rfl | exact Or.inr (Or.inl rfl) | exact Or.inr (Or.inr rfl)) (hd : (x == ("__debug__" : Str)) = false := by decide) (hcd : (x == ("__classdict__" : Str)) = false := by decide)
    (ha : ∀ v, assign (.Subscript (.Name x p) ek tpos) X.env v = (do
      let ov ← holding [v] (eval (.Name x p) X.env)
      let iv ← holding [v, ov] (eval ek X.env)
      standAt tpos
      holding [v, ov, iv] (setItem ov iv v)
      release [v, ov, iv] []) := by intro _; rfl)
    (hs : swapsWithSole [.Subscript (.Name x p) ek tpos] ev spos.line X.env = pure false := by rfl) (hw : swappedStores [.Subscript (.Name x p) ek tpos] ev X.env = pure none := by rfl)
    (h1 : (assignEach [.Subscript (.Name x p) ek tpos] X.env).map (·.2) = [assign (.Subscript (.Name x p) ek tpos) X.env] := by rfl) :
    DS1 X Z ow ow ol ox rm (.Assign [.Subscript (.Name x p) ek tpos] ev spos) (dPut i fk fv) := PS.mono (ps_asg hv (pg_sub (pe_var hN hvi hd hcd) hk set_list ha) hs hw h1) fun Dn σ H h => by
  obtain ⟨F, δ, R, h⟩ := h
  unfold dPut at h
  refine ⟨F, δ, R, ?_⟩
  cases e : fv δ with
  | stuck => rw [e] at h; exact h.elim
  | err y δ1 => rw [e] at h; exact XOk.cast h
  | ok dv δ1 =>
    rw [e] at h
    simp only [Res.bind] at h
    intro v H1 F1 R1 s1
    cases e0 : δ1[i]? with
    | none => rw [e0] at h; exact h.elim
    | some o =>
      cases o with
      | none => rw [e0] at h; exact h.elim
      | some d0 =>
        rw [e0] at h
        dsimp only at h
        obtain ⟨a, ds0, vs0, q1, q2, q3, q4⟩ := R1.rel.ownAt ho e0
        refine ⟨_, q2, F1, δ1, R1.rel, ?_⟩
        cases e1 : fk δ1 with
        | stuck => rw [e1] at h; exact h.elim
        | err y δ2 => rw [e1] at h; exact XOk.cast (XOk.mono h s1)
        | ok dk δ2 =>
          rw [e1] at h
          dsimp only at h
          intro kv H2 F2 R2 s2
          cases e2 : δ2[i]? with
          | none => rw [e2] at h; exact h.elim
          | some o =>
            cases o with
            | none => rw [e2] at h; exact h.elim
            | some d1 =>
              rw [e2] at h
              obtain ⟨a', ds1, vs1, p1, p2, p3, p4⟩ := R2.rel.ownAt ho e2
              rw [q2] at p2
              cases p2
              subst p1
              cases dk with
              | int k =>
                dsimp only at h
                cases e3 : ixN ds1.length k with
                | none => rw [e3] at h; exact h.elim
                | some j =>
                  rw [e3] at h
                  have rk := R2.rep
                  unfold Rep at rk
                  subst rk
                  refine ⟨a, vs1, k, j, rfl, rfl, p3, by rw [← p4.len]; exact e3, ?_⟩
                  exact h σ _ F2 (R2.rel.rewrite S ho e2 q2 (p4.set j (s2.rep _ _ R1.rep))) (s1.trans' s2)
              | _ => exact h.elim
noncomputable def ixD : D → D → Option D
  | .list ds, .int i => atI ds i
  | .tuple ds, .int i => atI ds i
  | .str z, .int i => if z.length ≤ sizeLine then (atI z.cps.toList i).map fun c => .str ⟨#[c]⟩ else none
  | _, _ => none
theorem RepAll.atI {ds : List D} {vs : List V} {i : Int} {d : D} (h : RepAll K F ds vs) (e : L2.atI ds i = some d) : ∃ v, L2.atI vs i = some v ∧ Rep K F d v := by
  unfold L2.atI at e ⊢
  rw [← h.len]
  cases q : ixN ds.length i with
  | none => rw [q] at e; cases e
  | some j =>
    rw [q] at e
    exact h.get e
theorem op_ix : OpS X (rIx X.K) 0 ixD := fun Z ow F H σ δ a b x y d Q S R ra rb e q => by
  unfold ixD at e
  split at e
  · rename_i ds i
    unfold Rep at ra rb
    obtain ⟨p, xs, rfl, hq, rs⟩ := ra
    subst rb
    obtain ⟨v, e1, r⟩ := rs.atI e
    exact .inl ⟨p, xs, i, v, rfl, rfl, R.sub.seq hq, e1, q v H F (R.x r) (Same.refl _)⟩
  · rename_i ds i
    unfold Rep at ra rb
    obtain ⟨p, xs, rfl, hq, rs⟩ := ra
    subst rb
    obtain ⟨v, e1, r⟩ := rs.atI e
    exact .inr (.inl ⟨p, xs, i, v, rfl, rfl, R.sub.seqT hq, e1, q v H F (R.x r) (Same.refl _)⟩)
  · rename_i z i
    unfold Rep at ra rb
    subst ra rb
    split at e
    · rename_i hz
      cases e1 : atI z.cps.toList i with
      | none => rw [e1] at e; cases e
      | some c =>
        rw [e1] at e
        cases e
        exact .inr (.inr ⟨z, i, c, rfl, rfl, hz, e1, q _ H F (R.x (by unfold Rep; rfl)) (Same.refl _)⟩)
    · cases e
  · cases e
theorem de_ix (S : Small Z ow) (ha : DE X Z ow 0 a f) (hb : DE X Z ow 0 b h) (hs : PlainIx b := by exact fun _ _ => rfl) : DE X Z ow 0 (.Subscript a b pos) (dOp ixD f h) := PE.mono (pe_ix ix_seq ha hb hs) fun _ _ _ q => tOp_of S op_ix q
noncomputable def dIxO (i : Nat) (fk : M D) : M D := fun δ => match δ[i]? with
  | some (some _) => (fk δ).bind fun k δ1 => (match δ1[i]? with
    | some (some d) => (match ixD d k with
      | some r => .ok r δ1
      | none => .stuck)
    | _ => .stuck)
  | _ => .stuck
theorem de_ixo (i : Nat) {x : Str} {p : Pos} (hb : DE X Z ow 0 b h) (ho : ow.getD i 0 = 1 := by rfl) (hN : X.N[i]? = some x := by rfl) (hv : Vis X.env.scope x := by first | exact Or.inl rfl | exact Or.inr (Or.inl rfl) | exact Or.inr (Or.inr rfl)) (hd : (x == ("__debug__" : Str)) = false := by decide) (hcd : (x == ("__classdict__" : Str)) = false := by decide) (hs : PlainIx b := by exact fun _ _ => rfl) :
    DE X Z ow 0 (.Subscript (.Name x p) b pos) (dIxO i h) := PE.mono (pe_ix ix_list (pe_var hN hv hd hcd) hb hs) fun σ H Q q => by
  obtain ⟨F, δ, R, q⟩ := q
  unfold dIxO at q
  cases e0 : δ[i]? with
  | none => rw [e0] at q; exact q.elim
  | some o =>
    cases o with
    | none => rw [e0] at q; exact q.elim
    | some d0 =>
      rw [e0] at q
      dsimp only at q
      obtain ⟨a, ds0, vs0, q1, q2, q3, q4⟩ := R.ownAt ho e0
      refine ⟨_, q2, F, δ, R, ?_⟩
      cases e1 : h δ with
      | stuck => rw [e1] at q; exact q.elim
      | err y δ2 => rw [e1] at q; exact q
      | ok dk δ2 =>
        rw [e1] at q
        simp only [Res.bind] at q
        intro kv H2 F2 R2 s2
        cases e2 : δ2[i]? with
        | none => rw [e2] at q; exact q.elim
        | some o =>
          cases o with
          | none => rw [e2] at q; exact q.elim
          | some d1 =>
            rw [e2] at q
            obtain ⟨a', ds1, vs1, p1, p2, p3, p4⟩ := R2.rel.ownAt ho e2
            rw [q2] at p2
            cases p2
            subst p1
            cases dk with
            | int k =>
              dsimp only [ixD] at q
              cases e3 : atI ds1 k with
              | none => rw [e3] at q; exact q.elim
              | some r =>
                rw [e3] at q
                have rk := R2.rep
                unfold Rep at rk
                subst rk
                obtain ⟨v, w1, w2⟩ := p4.atI e3
                exact ⟨a, vs1, k, v, rfl, rfl, SqL.of p3, w1, q v H2 F2 (R2.rel.x w2) s2⟩
            | _ => exact q.elim
noncomputable def lenD : List D → Option D
  | [.list ds] => some (.int ds.length)
  | [.tuple ds] => some (.int ds.length)
  | [.str z] => if z.length ≤ sizeLine then some (.int z.length) else none
  | _ => none
noncomputable def dLenO (i : Nat) : M D := fun δ => match δ[i]? with
  | some (some d) => (match lenD [d] with
    | some r => .ok r δ
    | none => .stuck)
  | _ => .stuck
end
end L2
namespace L2
open PySem PySem.Spec PyProof.Rows
section
variable {X : Cx} {Z : Ent} {ow ow' ol ox : List Nat} {n rm : Nat} {pos : Pos} {e a b c : Expr} {f h k : M D} {F H : Hp} {σ : St} {δ : DS} {K : PySem.W.Frag}
theorem repInt {i : Int} {v : V} (h : Rep K F (.int i) v) : v = .int i := by unfold Rep at h; exact h
theorem repStr {x : Str} {v : V} (h : Rep K F (.str x) v) : v = .str x := by unfold Rep at h; exact h
theorem repBl {x : Bool} {v : V} (h : Rep K F (.bool x) v) : v = .bl x := by unfold Rep at h; exact h
theorem repNon {v : V} (h : Rep K F .none v) : v = .non := by unfold Rep at h; exact h
theorem repL {ds : List D} {v : V} (h : Rep K F (.list ds) v) : ∃ (a : Addr) (xs : List V), v = .ref a ∧ SqL K F a xs ∧ RepAll K F ds xs := by unfold Rep at h; exact h
theorem repT {ds : List D} {v : V} (h : Rep K F (.tuple ds) v) : ∃ (a : Addr) (xs : List V), v = .ref a ∧ SqT K F a xs ∧ RepAll K F ds xs := by unfold Rep at h; exact h
theorem mkInt {i : Int} : Rep K F (.int i) (.int i) := by unfold Rep; rfl
theorem mkStr {i : Str} : Rep K F (.str i) (.str i) := by unfold Rep; rfl
theorem mkBl {i : Bool} : Rep K F (.bool i) (.bl i) := by unfold Rep; rfl
noncomputable def iD (C : Int → Int → Prop) (g : Int → Int → D) : D → D → Option D
  | .int i, .int j => open Classical in if C i j then some (g i j) else none
  | _, _ => none
theorem os_int {C : Int → Int → Prop} {g : Int → Int → V} {g' : Int → Int → D} (hg : ∀ F i j, Rep X.K F (g' i j) (g i j)) : OpS X (rI C g) 0 (iD C g') := fun Z ow F H σ δ a b x y d Q S R ra rb e q => by
  unfold iD at e
  split at e
  · rename_i i j
    split at e
    · rename_i hc
      cases e
      exact ⟨i, j, repInt ra, repInt rb, hc, q _ H F (R.x (hg F i j)) (Same.refl _)⟩
    · cases e
  · cases e
noncomputable def iD0 (g : Int → Int → D) : D → D → Option D
  | .int i, .int j => some (g i j)
  | _, _ => none
theorem os_int0 {g : Int → Int → V} {g' : Int → Int → D} (hg : ∀ F i j, Rep X.K F (g' i j) (g i j)) : OpS X (rI0 g) 0 (iD0 g') := fun Z ow F H σ δ a b x y d Q S R ra rb e q => by
  unfold iD0 at e
  split at e
  · rename_i i j
    cases e
    exact ⟨i, j, repInt ra, repInt rb, q _ H F (R.x (hg F i j)) (Same.refl _)⟩
  · cases e
theorem OpS.or {r r' : R2} {o o' : D → D → Option D} (h : OpS X r n o) (h' : OpS X r' n o') : OpS X (fun x y H Q => r x y H Q ∨ r' x y H Q) n (fun a b => (o a b).or (o' a b)) := fun Z ow F H σ δ a b x y d Q S R ra rb e q => by
  dsimp only at e
  cases e1 : o a b with
  | some d' =>
    rw [e1, Option.some_or] at e
    cases e
    exact .inl (h Z ow F H σ δ a b x y d Q S R ra rb e1 q)
  | none =>
    rw [e1, Option.none_or] at e
    exact .inr (h' Z ow F H σ δ a b x y d Q S R ra rb e q)
noncomputable def strAdd : D → D → Option D
  | .str i, .str j => if i.length + j.length ≤ sizeLine then some (.str (i ++ j)) else none
  | _, _ => none
noncomputable def tupAdd : D → D → Option D
  | .tuple i, .tuple j => if i ≠ [] ∧ i.length + j.length ≤ sizeLine then some (.tuple (i ++ j)) else none
  | _, _ => none
noncomputable def catD : D → D → Option D
  | .list i, .list j => if i.length + j.length ≤ sizeLine then some (.list (i ++ j)) else none
  | _, _ => none
instance {l : List D} : Decidable (l ≠ []) := match l with
  | [] => .isFalse fun h => h rfl
  | _ :: _ => .isTrue fun h => by cases h
theorem os_str : OpS X (fun x y H Q => ∃ i j, x = .str i ∧ y = .str j ∧ i.length + j.length ≤ sizeLine ∧ Q (.str (i ++ j)) H) 0 strAdd := fun Z ow F H σ δ a b x y d Q S R ra rb e q => by
  unfold strAdd at e
  split at e
  · rename_i i j
    split at e
    · rename_i hc
      cases e
      exact ⟨i, j, repStr ra, repStr rb, hc, q _ H F (R.x mkStr) (Same.refl _)⟩
    · cases e
  · cases e
theorem os_tup : OpS X (rCatT X.K) 0 tupAdd := fun Z ow F H σ δ a b x y d Q S R ra rb e q => by
  unfold tupAdd at e
  split at e
  · rename_i i j
    split at e
    · rename_i hc
      cases e
      obtain ⟨p, xs, rfl, hp, ha⟩ := repT ra
      obtain ⟨p', ys, rfl, hp', hb⟩ := repT rb
      refine ⟨p, p', xs, ys, rfl, rfl, R.sub.seqT hp, R.sub.seqT hp', fun z => ?_, by rw [← ha.len, ← hb.len]; exact hc.2, fun z => ?_, fun z t ht => ?_⟩
      · have := ha.len; rw [z] at this; exact hc.1 (List.length_eq_zero_iff.mp this)
      · have hj : j = [] := by have := hb.len; rw [z] at this; exact List.length_eq_zero_iff.mp this
        rw [hj, List.append_nil] at q
        exact q _ H F (R.x ra) (Same.refl _)
      · have ft := R.fnone ht
        exact q _ _ (upd F t (.tup (xs ++ ys))) ((R.laid ht).x (rep_newTup ft (ha.app hb))) (same_new ft _)
    · cases e
  · cases e
theorem list_addG (l : Addr) (items : Array Value) (n : Nat) (sl : Array (Option Value)) (b : Addr) (items2 : Array Value) (n2 : Nat) (sl2 : Array (Option Value)) (hc0 : items.size + items2.size ≤ sizeLine) :
    Meets (Builtin.«list.__add__» ⟨[.ref l, .ref b], []⟩) (fun _ R s => s.heap.get? l = some ⟨.type "list", none, .seq items n, sl⟩ ∧ s.heap.get? b = some ⟨.type "list", none, .seq items2 n2, sl2⟩ ∧ R (.ok (.ret (Value.ref s.heap.objs.size))) { s with heap := s.heap.push { cls := Value.type "list", data := Data.seq (items ++ items2) }, toks := s.toks }) :=
  .of_wp fun prog w A R s h => by
    obtain ⟨hp, g, d, tk, os⟩ := s
    obtain ⟨hl, hb, h⟩ := h
    have f1 := PySem.AutoSeq1.idx_int
    have f2 := PySem.AutoSeq1.sub_tuple_tuple
    have f3 := PySem.AutoSeq1.sub_list_list
    have f4 := PySem.AutoSeq1.sub_tuple_list
    have f5 := PySem.AutoSeq1.sub_list_tuple
    wp_walk using PySem.AutoSeq1.wpAny_loadPart' hl, PySem.AutoSeq1.wpAny_loadPart' hb
    exact ⟨_, rfl, h⟩
theorem add_listG {prog : Program} {w : World} {A : Around} {E : Value → Shared → Prop} {s : Shared} {l b : Addr} {items items2 : Array Value} {n n2 : Nat} {sl sl2 : Array (Option Value)} {Q : Value → Shared → Prop} (hl : s.heap.get? l = some ⟨.type "list", none, .seq items n, sl⟩) (hb : s.heap.get? b = some ⟨.type "list", none, .seq items2 n2, sl2⟩)
    (h : Q (.ref s.heap.objs.size) { s with heap := s.heap.push { cls := .type "list", data := .seq (items ++ items2) } }) (hsz : items.size + items2.size ≤ sizeLine) : wpAny (model prog w) A (binaryOp .Add (.ref l) (.ref b)) Q E s :=
  concat_meets ⟨_, hl, rfl⟩ ⟨_, hb, rfl⟩ noFill_list_add seq_list_add F.slot_list_add F.entry_list_add (F.args_list_add_2 _ _) (list_addG l items n sl b items2 n2 sl2 hsz) ⟨hl, hb, h⟩
noncomputable def rCatL (K : PySem.W.Frag) : R2 := fun x y H Q => ∃ l b xs zs, x = .ref l ∧ y = .ref b ∧ SqL K H l xs ∧ SqL K H b zs ∧ xs.length + zs.length ≤ sizeLine ∧ ∀ p, H p = none → Q (.ref p) (upd H p (.lst (xs ++ zs)))
theorem op_catL : OpR X (binaryOp .Add) (rCatL X.K) := by
  intro pins s σ H x y v u Q I rx ry h
  obtain ⟨l, b, xs, zs, rfl, rfl, hH, hB, hz, q⟩ := h
  cases rx
  cases ry
  obtain ⟨its, r, ⟨o, n, e, c, dn, dd⟩, z⟩ := I.list hH
  obtain ⟨its2, r2, ⟨o2, n2, e2, c2, dn2, dd2⟩, z2⟩ := I.list hB
  obtain ⟨oc, od, oda, osl⟩ := o
  obtain ⟨oc2, od2, oda2, osl2⟩ := o2
  cases c
  cases c2
  cases dn
  cases dn2
  cases dd
  cases dd2
  have hl := r.length
  have hl2 := r2.length
  refine add_listG e e2 ?_ (by rw [List.size_toArray, List.size_toArray]; omega)
  have ea : its.toArray ++ its2.toArray = (its ++ its2).toArray := by simp
  rw [ea]
  exact ⟨.ref _, _, I.lnew (t' := s.toks) (r.append r2) (by rw [List.length_append]; omega), rfl, q _ I.fresh⟩
theorem os_cat1 : OpS X (rCatL X.K) 1 catD := fun Z ow F H σ δ a b x y d Q S R ra rb e q => by
  unfold catD at e
  split at e
  · rename_i i j
    split at e
    · rename_i hc
      cases e
      obtain ⟨p, xs, rfl, hp, ha⟩ := repL ra
      obtain ⟨p', ys, rfl, hp', hb⟩ := repL rb
      exact ⟨p, p', xs, ys, rfl, rfl, R.sub.seq hp, R.sub.seq hp', by rw [← ha.len, ← hb.len]; exact hc, fun t ht => q _ _ F (R.newList S ht (ha.app hb)) (Same.refl _)⟩
    · cases e
  · cases e
theorem OpS.fz {r : R2} {o : D → D → Option D} (h : OpS X r n o) : OpS X r 0 o := fun Z ow F H σ δ a b x y d Q S R ra rb e q => h Z ow F H σ δ a b x y d Q S R ra rb e fun v H' F' R' s => by
  obtain ⟨F2, s2, R2⟩ := R'.freeze S
  exact q v H' F2 R2 (s.trans' s2)
noncomputable def addD : D → D → Option D := fun a b => (iD0 (fun i j => .int (i + j)) a b).or ((strAdd a b).or ((tupAdd a b).or (catD a b)))
theorem de_add (S : Small Z ow) (ha : DE X Z ow 0 a f) (hb : DE X Z ow 0 b h) : DE X Z ow 0 (.BinOp a .Add b pos) (dOp addD f h) :=
  de_op S (op_add.or (op_add_str.or (op_catT.or op_catL))) ((os_int0 fun _ _ _ => mkInt).or (os_str.or (os_tup.or os_cat1.fz))) ha hb
noncomputable def subD : D → D → Option D := iD0 fun i j => .int (i - j)
theorem de_sub (S : Small Z ow) (ha : DE X Z ow 0 a f) (hb : DE X Z ow 0 b h) : DE X Z ow 0 (.BinOp a .Sub b pos) (dOp subD f h) := de_op S op_sub (os_int0 fun _ _ _ => mkInt) ha hb
noncomputable def mulD : D → D → Option D := iD IntMulOk fun i j => .int (i * j)
theorem de_mul (S : Small Z ow) (ha : DE X Z ow 0 a f) (hb : DE X Z ow 0 b h) : DE X Z ow 0 (.BinOp a .Mult b pos) (dOp mulD f h) := de_op S op_mulB (os_int fun _ _ _ => mkInt) ha hb
noncomputable def fdivD : D → D → Option D := iD CDivZ fun i j => .int (i.fdiv j)
theorem de_fdiv (S : Small Z ow) (ha : DE X Z ow 0 a f) (hb : DE X Z ow 0 b h) : DE X Z ow 0 (.BinOp a .FloorDiv b pos) (dOp fdivD f h) := de_op S op_fdivZ (os_int fun _ _ _ => mkInt) ha hb
noncomputable def modD : D → D → Option D := iD (fun _ j => j ≠ 0) fun i j => .int (i.fmod j)
theorem de_mod (S : Small Z ow) (ha : DE X Z ow 0 a f) (hb : DE X Z ow 0 b h) : DE X Z ow 0 (.BinOp a .Mod b pos) (dOp modD f h) := de_op S op_modN (os_int fun _ _ _ => mkInt) ha hb
noncomputable def powD : D → D → Option D := iD CPow fun i j => .int (i ^ j.toNat)
theorem de_pow (S : Small Z ow) (ha : DE X Z ow 0 a f) (hb : DE X Z ow 0 b h) : DE X Z ow 0 (.BinOp a .Pow b pos) (dOp powD f h) := de_op S op_pow (os_int fun _ _ _ => mkInt) ha hb
noncomputable def dUn (op : D → Option D) (f : M D) : M D := fun δ => (f δ).bind fun d δ1 => match op d with
  | some r => .ok r δ1
  | none => .stuck
noncomputable def negD : D → Option D
  | .int i => some (.int (-i))
  | _ => none
theorem de_neg (ha : DE X Z ow 0 a f) : DE X Z ow 0 (.UnaryOp .USub a pos) (dUn negD f) := PE.mono (pe_un un_neg ha) fun σ H Q q => by
  obtain ⟨F, δ, R, q⟩ := q
  unfold dUn at q
  refine ⟨F, δ, R, ?_⟩
  cases e : f δ with
  | stuck => rw [e] at q; exact q.elim
  | err x δ1 => rw [e] at q; exact q
  | ok d δ1 =>
    rw [e] at q
    simp only [Res.bind] at q
    intro v H1 F1 R1 s1
    cases d with
    | int i => exact ⟨i, repInt R1.rep, q _ H1 F1 (R1.rel.x mkInt) s1⟩
    | _ => exact q.elim
noncomputable def dNotV (f : M D) : M D := fun δ => (f δ).bind fun d δ1 => match d with
  | .bool b => .ok (.bool (!b)) δ1
  | _ => .stuck
noncomputable def dAndV (f g : M D) : M D := fun δ => (f δ).bind fun d δ1 => match d with
  | .bool b => if b = true then g δ1 else .ok (.bool false) δ1
  | _ => .stuck
noncomputable def dOrV (f g : M D) : M D := fun δ => (f δ).bind fun d δ1 => match d with
  | .bool b => if b = true then .ok (.bool true) δ1 else g δ1
  | _ => .stuck
theorem dw_or1 {f : M Bool} (ha : DT X Z ow a f) : PW X (.BoolOp .Or [a] pos) (tT X Z ow f) := pw_or1 ha
theorem dt_bool {f : M Bool} (h : PW X e (tT X Z ow f)) : DT X Z ow e f := h.pt
noncomputable def eqD : D → D → Option D := fun a b => if SeqAt.shaped a = true ∧ SeqAt.shaped b = true then some (.bool (PyData.eqv a b)) else none
noncomputable def neD : D → D → Option D := fun a b => if SeqAt.shaped a = true ∧ SeqAt.shaped b = true then some (.bool (!PyData.eqv a b)) else none
theorem os_eq : OpS X (fun x y H Q => ∃ d e, Rep X.K H d x ∧ Rep X.K H e y ∧ SeqAt.shaped d = true ∧ SeqAt.shaped e = true ∧ Q (.bl (PyData.eqv d e)) H) 0 eqD := fun Z ow F H σ δ a b x y d Q S R ra rb e q => by
  unfold eqD at e
  split at e
  · rename_i hc
    cases e
    exact ⟨a, b, R.sub.rep _ _ ra, R.sub.rep _ _ rb, hc.1, hc.2, q _ H F (R.x mkBl) (Same.refl _)⟩
  · cases e
theorem os_ne : OpS X (fun x y H Q => ∃ d e, Rep X.K H d x ∧ Rep X.K H e y ∧ SeqAt.shaped d = true ∧ SeqAt.shaped e = true ∧ Q (.bl (!PyData.eqv d e)) H) 0 neD := fun Z ow F H σ δ a b x y d Q S R ra rb e q => by
  unfold neD at e
  split at e
  · rename_i hc
    cases e
    exact ⟨a, b, R.sub.rep _ _ ra, R.sub.rep _ _ rb, hc.1, hc.2, q _ H F (R.x mkBl) (Same.refl _)⟩
  · cases e
noncomputable def ltD : D → D → Option D := iD0 fun i j => .bool (decide (i < j))
noncomputable def leD : D → D → Option D := iD0 fun i j => .bool (decide (i ≤ j))
noncomputable def gtD : D → D → Option D := iD0 fun i j => .bool (decide (j < i))
noncomputable def geD : D → D → Option D := iD0 fun i j => .bool (decide (j ≤ i))
theorem os_lt : OpS X (rI0 fun i j => .bl (decide (i < j))) 0 ltD := os_int0 fun _ _ _ => mkBl
theorem os_le : OpS X (rI0 fun i j => .bl (decide (i ≤ j))) 0 leD := os_int0 fun _ _ _ => mkBl
theorem os_gt : OpS X (rI0 fun i j => .bl (decide (j < i))) 0 gtD := os_int0 fun _ _ _ => mkBl
end
end L2
namespace L2
open PySem PySem.Spec PyProof.Rows
structure ItS (K : PySem.W.Frag) (F : Hp) (J : It) (ds : List D) : Prop where
  go : ∀ i H, Same F H → i < ds.length → J.go i H
  yld : ∀ i H x H' d, Same F H → J.yld i H x H' → ds[i]? = some d → (H' = H ∧ Rep K F d x) ∨ ∃ p o, H p = none ∧ H' = upd H p o ∧ ∀ F2, Same F F2 → F2 p = none → Rep K (upd F2 p o) d x
  stop : ∀ H, Same F H → J.stop ds.length H
noncomputable def kI (X : Cx) (Z : Ent) (ow : List Nat) (r : Res (List D)) (F : Hp) (σ : St) (R : It → Hp → Prop) : Prop := match r with
  | .ok ds δ => ∀ J H' F', Rel X.K Z ow F' H' σ δ → Same F F' → ItS X.K F' J ds → R J H'
  | .err x δ => XOk X Z ow F x δ
  | .stuck => False
noncomputable def tI (X : Cx) (Z : Ent) (ow : List Nat) (f : M (List D)) : TI := fun σ H R => ∃ F δ, Rel X.K Z ow F H σ δ ∧ kI X Z ow (f δ) F σ R
noncomputable def DI (X : Cx) (Z : Ent) (ow : List Nat) (tg e : Expr) (f : M (List D)) : Prop := PI X tg e (tI X Z ow f)
theorem PI.mono {X : Cx} {tg e : Expr} {t t' : TI} (h : PI X tg e t) (hm : ∀ σ H R, t' σ H R → t σ H R) : PI X tg e t' := fun pins s σ H R I q => h pins s σ H R I (hm σ H R q)
section
variable {X : Cx} {Z : Ent} {ow ow' ol ox : List Nat} {n rm : Nat} {pos : Pos} {e tg a b : Expr} {f f' : M D} {sts : List Stmt} {u : M Fl} {g : TG} {set : D → DS → Option DS} {K : PySem.W.Frag} {F H : Hp} {σ : St} {δ : DS}
theorem its_list {a : Addr} {xs : List V} {ds : List D} (h : SqL K F a xs) (r : RepAll K F ds xs) : ItS K F (Itl K a) ds where
  go := fun i H s hi => ⟨xs, xs[i]'(by rw [← r.len]; exact hi), s.seq h, List.getElem?_eq_getElem _⟩
  yld := fun i H x H' d s y e => .inl ⟨y.1, by
    obtain ⟨v, e1, q⟩ := r.get e
    have := y.2 xs (s.seq h)
    rw [e1] at this; cases this
    exact q⟩
  stop := fun H s => ⟨xs, s.seq h, by rw [← r.len]; exact Nat.le_refl _⟩
theorem its_tup {a : Addr} {xs : List V} {ds : List D} (h : SqT K F a xs) (r : RepAll K F ds xs) : ItS K F (Itt K a) ds where
  go := fun i H s hi => ⟨xs, xs[i]'(by rw [← r.len]; exact hi), s.seqT h, List.getElem?_eq_getElem _⟩
  yld := fun i H x H' d s y e => .inl ⟨y.1, by
    obtain ⟨v, e1, q⟩ := r.get e
    have := y.2 xs (s.seqT h)
    rw [e1] at this; cases this
    exact q⟩
  stop := fun H s => ⟨xs, s.seqT h, by rw [← r.len]; exact Nat.le_refl _⟩
theorem its_rng {lo : Int} {m : Nat} : ItS K F (Itr lo m) (rngD lo m) where
  go := fun i H s hi => by rw [rngD_len] at hi; exact hi
  yld := fun i H x H' d s y e => .inl ⟨y.1, by
    have hi : i < m := by have := (List.getElem?_eq_some_iff.mp e).1; rwa [rngD_len] at this
    rw [rngD_at hi] at e
    cases e
    rw [y.2]
    exact mkInt⟩
  stop := fun H s => by rw [rngD_len]; exact Nat.le_refl _
noncomputable def dItems (f : M D) : M (List D) := fun δ => (f δ).bind fun d δ1 => match d with
  | .list ds => .ok ds δ1
  | .tuple ds => .ok ds δ1
  | _ => .stuck
theorem di_seq (h : DE X Z ow 0 e f) : DI X Z ow tg e (dItems f) := (pi_seq h).mono fun σ H R q => by
  obtain ⟨F, δ, Rl, q⟩ := q
  unfold dItems at q
  refine ⟨F, δ, Rl, ?_⟩
  cases e1 : f δ with
  | stuck => rw [e1] at q; exact q.elim
  | err x δ1 => rw [e1] at q; exact q
  | ok d δ1 =>
    rw [e1] at q
    simp only [Res.bind] at q
    intro v H1 F1 R1 s1
    have rp := R1.rep
    cases d with
    | list ds =>
      obtain ⟨a, xs, rfl, hq, ra⟩ := repL rp
      exact .inl ⟨a, rfl, ⟨xs, R1.rel.sub.seq hq⟩, q _ H1 F1 R1.rel s1 (its_list hq ra)⟩
    | tuple ds =>
      obtain ⟨a, xs, rfl, hq, ra⟩ := repT rp
      exact .inr ⟨a, rfl, ⟨xs, R1.rel.sub.seqT hq⟩, q _ H1 F1 R1.rel s1 (its_tup hq ra)⟩
    | _ => exact q.elim
noncomputable def dRng (fs : List (M D)) : M (List D) := fun δ => (dVals fs δ).bind fun ds δ1 => match rng2 ds with
  | some (lo, n) => .ok (rngD lo n) δ1
  | none => .stuck
theorem di_range1 {p2 p3 : Pos} (hgl : Gl X "range") (hm : X.mg "range" = none) (hi : DE X Z ow 0 b f) (hst : starEach [b] X.env = (false, eval b X.env) :: starEach [] X.env := by rfl) : DI X Z ow tg (.Call (.Name "range" p2) [b] [] p3) (dRng [f]) :=
  (pi_range1 hgl hm (dv_cons hi dv_nil hst) hst).mono fun σ H R q => by
    obtain ⟨F, δ, Rl, q⟩ := q
    unfold dRng at q
    refine ⟨F, δ, Rl, ?_⟩
    cases e1 : dVals [f] δ with
    | stuck => rw [e1] at q; exact q.elim
    | err x δ1 => rw [e1] at q; exact q
    | ok ds δ1 =>
      rw [e1] at q
      simp only [Res.bind] at q
      intro vs H1 F1 R1 s1 ra
      cases e2 : rng2 ds with
      | none => rw [e2] at q; exact q.elim
      | some p =>
        obtain ⟨lo, m⟩ := p
        rw [e2] at q
        obtain ⟨j, rfl, h1, h2, rfl, rfl⟩ := rng2_one e2 (dVals_len e1)
        exact ⟨j, repInts1 ra, h1, h2, q _ H1 F1 R1 s1 its_rng⟩
theorem ItS.turn {J : It} {ds : List D} {F1 H' : Hp} {i : Nat} {x : V} {d : D} (T : ItS X.K F1 J ds) (R : Rel X.K Z ow F H σ δ) (s : Same F1 F) (y : J.yld i H x H') (e : ds[i]? = some d) : ∃ F', Same F F' ∧ Rel X.K Z ow F' H' σ δ ∧ Rep X.K F' d x := by
  rcases T.yld i H x H' d (s.trans' R.sub) y e with ⟨rfl, r⟩ | ⟨p, o, hp, rfl, r⟩
  · exact ⟨F, Same.refl _, R, s.rep _ _ r⟩
  · have fp := R.fnone hp
    exact ⟨upd F p o, same_new fp o, R.laid hp, r F s fp⟩
noncomputable def dForI (set : D → DS → Option DS) (f : M (List D)) (u : M Fl) : M Fl := fun δ => (f δ).bind fun ds δ1 => dLoop set u ds δ1
theorem ds_forI {f : M (List D)} (hp : PassesOwn (model X.prog X.w) X.A X.env X.xe) (hc : X.calm = true) (hi : DI X Z ow tg e f) (hg : PG X tg g) (hs : TgS X Z ow g set) (hb : DSs X Z ow ow ow ox rm sts u)
    (hf : ∀ x, foldedSetIterable e X.env x = pure x := by intro _; rfl) : DS1 X Z ow ow ol ox rm (.For tg e sts [] pos) (dForI set f u) := PS.mono (ps_for hp hc hi hg hb hf) fun Dn σ H h => by
  obtain ⟨F, δ, R, h⟩ := h
  unfold dForI at h
  refine ⟨F, δ, R, ?_⟩
  cases e1 : f δ with
  | stuck => rw [e1] at h; exact h.elim
  | err x δ1 => rw [e1] at h; exact XOk.cast h
  | ok ds δ1 =>
    rw [e1] at h
    simp only [Res.bind] at h
    intro J H1 F1 R1 s1 T
    refine ⟨fun i m σ H => m = ds.length - i ∧ i ≤ ds.length ∧ ∃ F2 δ, Rel X.K Z ow F2 H σ δ ∧ Same F1 F2 ∧ kS X Z ow ol ox rm (dLoop set u (ds.drop i) δ) F2 Dn, ⟨ds.length, rfl, Nat.zero_le _, F1, δ1, R1, Same.refl _, h.mono s1⟩, ?_⟩
    rintro i m σ2 H2 ⟨rfl, hi, F2, δ2, R2, s2, k2⟩
    by_cases hlt : i < ds.length
    · refine .inr ⟨T.go i H2 (s2.trans' R2.sub) hlt, fun σ' H' => ∃ F3 δ, Rel X.K Z ow F3 H' σ' δ ∧ Same F1 F3 ∧ kS X Z ow ol ox rm (dLoop set u (ds.drop (i + 1)) δ) F3 Dn, fun σ' H' q => ⟨ds.length - (i + 1), by omega, rfl, hlt, q⟩, fun x H' y => ?_⟩
      have ed := List.getElem?_eq_getElem hlt
      obtain ⟨F3, s3, R3, r3⟩ := T.turn R2 s2 y ed
      exact loop_at (Pv := fun j σ' H' => ∃ F3 δ, Rel X.K Z ow F3 H' σ' δ ∧ Same F1 F3 ∧ kS X Z ow ol ox rm (dLoop set u (ds.drop j) δ) F3 Dn) hs R3 (s2.trans' s3) (k2.mono s3) ed r3 fun k σ H F δ q1 q2 q3 => ⟨F, δ, q1, q2, q3⟩
    · have e : i = ds.length := by omega
      subst e
      rw [List.drop_length] at k2
      exact .inl ⟨T.stop H2 (s2.trans' R2.sub), k2 σ2 H2 F2 R2 (Same.refl _)⟩
noncomputable def shG (k : Nat) (g : Addr → Option Lab) : Addr → Option Lab := fun a => match g a with
  | some (i, p) => if i = 1000 then none else some (i + k, p)
  | none => none
theorem shG_of {k : Nat} {g : Addr → Option Lab} {a : Addr} {i : Nat} {p : List Nat} (h : shG k g a = some (i, p)) : ∃ j, g a = some (j, p) ∧ i = j + k ∧ j ≠ 1000 := by
  unfold shG at h
  cases e : g a with
  | none => rw [e] at h; cases h
  | some l =>
    obtain ⟨j, q⟩ := l
    rw [e] at h
    dsimp only at h
    split at h
    · cases h
    · rename_i hj; cases h; exact ⟨j, rfl, rfl, hj⟩
theorem shG_in {k : Nat} {g : Addr → Option Lab} {a : Addr} {j : Nat} {p : List Nat} (h : g a = some (j, p)) (hj : j ≠ 1000) : shG k g a = some (j + k, p) := by
  unfold shG; rw [h]; exact if_neg hj
noncomputable def Ent.sh (Z : Ent) (k : Nat) : Ent := ⟨Z.F0, Z.H0, shG k Z.g0, Z.ps.map (· + k), List.replicate k none ++ Z.σ0, List.replicate k 0 ++ Z.owp, fun a i q h => by
  obtain ⟨j, e1, e2, _⟩ := shG_of h
  rw [e2]
  exact List.mem_map.mpr ⟨j, Z.wf a j q e1, rfl⟩⟩
theorem getD_sh {k i : Nat} : (List.replicate k 0 ++ ow).getD (i + k) 0 = ow.getD i 0 := by
  rw [List.getD_eq_getElem?_getD, List.getD_eq_getElem?_getD, List.getElem?_append_right (by simp), List.length_replicate, Nat.add_sub_cancel]
theorem Small.lt {i : Nat} (S : Small Z ow) (h : ow.getD i 0 ≠ 0) : i < 1000 := by
  by_cases hl : i < ow.length
  · exact Nat.lt_of_lt_of_le hl S.ow
  · exact absurd (by rw [List.getD_eq_getElem?_getD, List.getElem?_eq_none (by omega)]; rfl) h
theorem OwnR.sh {k i : Nat} {g : Addr → Option Lab} {n : Nat} {p : List Nat} {d : D} {v : V} (hi : n = 0 ∨ i ≠ 1000) (h : OwnR K F H g i n p d v) : OwnR K F H (shG k g) (i + k) n p d v := by
  rcases hi with rfl | hi
  · exact h
  · exact h.relab fun a p e => shG_in e hi
theorem Rel.sh {k : Nat} (S : Small Z ow) (R : Rel K Z ow F H σ δ) : Rel K (Z.sh k) (List.replicate k 0 ++ ow) F H (List.replicate k none ++ σ) (List.replicate k none ++ δ) := by
  obtain ⟨g, R⟩ := R
  refine ⟨shG k g, R.sub, R.f0, fun b o n e => R.kept b o ?_ e, R.new, R.there, fun a i p e => ?_, by simp [R.len], fun i hi => ?_, fun i d e => ?_⟩
  · cases e1 : Z.g0 b with
    | none => rfl
    | some l =>
      obtain ⟨j, q⟩ := l
      have n : shG k Z.g0 b = none := n
      rw [shG_in e1 fun z => S.ps (by rw [← z]; exact Z.wf b j q e1)] at n
      cases n
  · obtain ⟨j, e1, e2, e3⟩ := shG_of e
    rcases R.lab a j p e1 with z | ⟨q, z⟩
    · exact .inl z
    · exact .inr ⟨q, by rw [e2]; exact shG_in z e3⟩
  · obtain ⟨j, hj, rfl⟩ := List.mem_map.mp (show i ∈ Z.ps.map (· + k) from hi)
    obtain ⟨p1, p2⟩ := R.par j hj
    refine ⟨?_, ?_⟩
    · show (List.replicate k none ++ σ)[j + k]? = (List.replicate k none ++ Z.σ0)[j + k]?
      rw [List.getElem?_append_right (by simp), List.getElem?_append_right (by simp), List.length_replicate, Nat.add_sub_cancel]
      exact p1
    · show (List.replicate k 0 ++ ow).getD (j + k) 0 = (List.replicate k 0 ++ Z.owp).getD (j + k) 0
      rw [getD_sh, getD_sh]; exact p2
  · by_cases hi : i < k
    · rw [List.getElem?_append_left (by simpa using hi), List.getElem?_replicate] at e
      split at e <;> cases e
    · rw [List.getElem?_append_right (by simp; omega), List.length_replicate] at e
      obtain ⟨v, e1, o⟩ := R.slot _ d e
      obtain ⟨j, rfl⟩ : ∃ j, i = j + k := ⟨i - k, by omega⟩
      rw [Nat.add_sub_cancel] at e1 o
      refine ⟨v, by rw [List.getElem?_append_right (by simp), List.length_replicate, Nat.add_sub_cancel]; exact e1, ?_⟩
      rw [getD_sh]
      refine o.sh ?_
      by_cases hz : ow.getD j 0 = 0
      · exact .inl hz
      · exact .inr (Nat.ne_of_lt (S.lt hz))
theorem Small.sh {k : Nat} (S : Small Z ow) (h : k + ow.length ≤ 1000) (hp : ∀ i ∈ Z.ps, i + k ≠ 1000) : Small (Z.sh k) (List.replicate k 0 ++ ow) :=
  ⟨by simpa using h, fun z => by
    obtain ⟨j, hj, e⟩ := List.mem_map.mp (show 1000 ∈ Z.ps.map (· + k) from z)
    exact hp j hj e⟩
theorem Rel.unsh {k : Nat} {σ' : St} {δ' : DS} (S : Small Z ow) (hs : Small (Z.sh k) (List.replicate k 0 ++ ow)) (R : Rel K (Z.sh k) (List.replicate k 0 ++ ow) F H σ' δ') (hσ : ∀ i, σ'[i + k]? = σ[i]?) (hl : σ'.length = σ.length + k) (hk : k ≤ δ'.length) : Rel K Z ow F H σ (δ'.drop k) := by
  obtain ⟨g, R⟩ := R
  have un : ∀ a i p, (fun b => match g b with | some (j, q) => if j < k ∨ j - k = 1000 then none else some (j - k, q) | none => none : Addr → Option Lab) a = some (i, p) → g a = some (i + k, p) := fun a i p e => by
    dsimp only at e
    cases e1 : g a with
    | none => rw [e1] at e; cases e
    | some l =>
      obtain ⟨j, q⟩ := l
      rw [e1] at e
      dsimp only at e
      split at e
      · cases e
      · rename_i hj
        cases e
        have : j - k + k = j := by omega
        rw [this]
  have ins : ∀ a i p, i ≠ 1000 → g a = some (i + k, p) → (fun b => match g b with | some (j, q) => if j < k ∨ j - k = 1000 then none else some (j - k, q) | none => none : Addr → Option Lab) a = some (i, p) := fun a i p hi e => by
    dsimp only
    rw [e]
    dsimp only
    rw [if_neg (by omega), Nat.add_sub_cancel]
  refine ⟨fun b => match g b with | some (j, q) => if j < k ∨ j - k = 1000 then none else some (j - k, q) | none => none, R.sub, R.f0, fun b o n e => R.kept b o ?_ e, R.new, R.there, fun a i p e => ?_, ?_, fun i hi => ?_, fun i d e => ?_⟩
  · show shG k Z.g0 b = none
    unfold shG
    rw [n]
  · rcases R.lab a (i + k) p (un a i p e) with z | ⟨q, z⟩
    · exact .inl z
    · obtain ⟨j, e1, e2, _⟩ := shG_of (show shG k Z.g0 a = some (i + k, q) from z)
      have : i = j := by omega
      rw [this]
      exact .inr ⟨q, e1⟩
  · rw [List.length_drop, R.len, hl]; omega
  · obtain ⟨p1, p2⟩ := R.par (i + k) (List.mem_map.mpr ⟨i, hi, rfl⟩)
    have p1 : σ'[i + k]? = (List.replicate k none ++ Z.σ0)[i + k]? := p1
    have p2 : (List.replicate k 0 ++ ow).getD (i + k) 0 = (List.replicate k 0 ++ Z.owp).getD (i + k) 0 := p2
    rw [hσ, List.getElem?_append_right (by simp), List.length_replicate, Nat.add_sub_cancel] at p1
    rw [getD_sh, getD_sh] at p2
    exact ⟨p1, p2⟩
  · rw [List.getElem?_drop, Nat.add_comm] at e
    obtain ⟨v, e1, o⟩ := R.slot _ d e
    rw [hσ] at e1
    rw [getD_sh] at o
    refine ⟨v, e1, ?_⟩
    by_cases hz : ow.getD i 0 = 0
    · rw [hz] at o ⊢; exact o
    · exact o.relab fun a p e => ins a i p (Nat.ne_of_lt (S.lt hz)) e
noncomputable def TgC (X : Cx) (Z : Ent) (ow : List Nat) (k : Nat) (g : TG) (set : D → DS → Option DS) : Prop := ∀ (F H : Hp) (σ : St) (δ δ' : DS) (d : D) (v : V) (Q : St → Hp → Prop), Rel X.K Z ow F H σ δ → Rep X.K F d v → set d δ = some δ' → (∀ σ', Rel X.K Z ow F H σ' δ' → σ'.length = σ.length → δ'.length = δ.length → (∀ i, σ'[i + k]? = σ[i + k]?) → Q σ' H) → g v σ H Q
theorem tgc_name {k i : Nat} (S : Small Z ow) (hk : i < k) (hps : i ∉ Z.ps) (hl : i < ow.length) (h0 : ow.getD i 0 = 0) : TgC X Z ow k (gName i) (setN i) := fun F H σ δ δ' d v Q R r e q => by
  unfold setN at e
  split at e
  · rename_i hi
    cases e
    have := (R.x r).store S hi hps hl
    rw [set0 h0] at this
    exact q _ this (by simp) (by simp) fun j => List.getElem?_set_ne (by omega)
  · cases e
noncomputable def dCompL (set : D → DS → Option DS) (t : M Bool) (e : M D) : List D → List D → DS → Res (List D)
  | [], acc, δ => .ok acc δ
  | d :: ds, acc, δ => match set d δ with
    | none => .stuck
    | some δ1 => (t δ1).bind fun b δ2 => if b = true then (e δ2).bind fun y δ3 => (if acc.length < sizeLine then dCompL set t e ds (acc ++ [y]) δ3 else .stuck) else (if acc.length < sizeLine then dCompL set t e ds acc δ2 else .stuck)
noncomputable def dComp (k : Nat) (set : D → DS → Option DS) (f : M (List D)) (t : M Bool) (e : M D) : M D := fun δ => (f δ).bind fun ds δ1 => match dCompL set t e ds [] (List.replicate k none ++ δ1) with
  | .ok acc δ2 => if k ≤ δ2.length then .ok (.list acc) (δ2.drop k) else .stuck
  | _ => .stuck
noncomputable def kD0 (X : Cx) (Z : Ent) (ow : List Nat) (n : Nat) (r : Res D) (F : Hp) (σ : St) (Q : VK) : Prop := match r with
  | .ok d δ => ∀ v H' F', RelX X.K Z ow n d v F' H' σ δ → Same F F' → Q v H'
  | _ => False
noncomputable def tD0 (X : Cx) (Z : Ent) (ow : List Nat) (n : Nat) (f : M D) : TE := fun σ H Q => ∃ F δ, Rel X.K Z ow F H σ δ ∧ kD0 X Z ow n (f δ) F σ Q
noncomputable def kT0 (X : Cx) (Z : Ent) (ow : List Nat) (r : Res Bool) (F : Hp) (σ : St) (Q : Bool → Hp → Prop) : Prop := match r with
  | .ok b δ => ∀ H' F', Rel X.K Z ow F' H' σ δ → Same F F' → Q b H'
  | _ => False
noncomputable def tT0 (X : Cx) (Z : Ent) (ow : List Nat) (f : M Bool) : TT := fun σ H Q => ∃ F δ, Rel X.K Z ow F H σ δ ∧ kT0 X Z ow (f δ) F σ Q
theorem tComp_of {k : Nat} {wi : TI} {fi : M (List D)} {t : M Bool} {fe : M D} {Q : VK} (S : Small Z ow) (Sk : Small (Z.sh k) (List.replicate k 0 ++ ow)) (hs : TgC X (Z.sh k) (List.replicate k 0 ++ ow) k g set)
    (q : tD X Z ow 1 (dComp k set fi t fe) σ H Q) : tComp k (tI X Z ow fi) g (tT0 X (Z.sh k) (List.replicate k 0 ++ ow) t) (tD0 X (Z.sh k) (List.replicate k 0 ++ ow) 0 fe) σ H Q := by
  obtain ⟨F, δ, R, q⟩ := q
  unfold dComp at q
  refine ⟨F, δ, R, ?_⟩
  cases e1 : fi δ with
  | stuck => rw [e1] at q; exact q.elim
  | err x δ1 => rw [e1] at q; exact q
  | ok ds δ1 =>
    rw [e1] at q
    simp only [Res.bind] at q
    intro J H1 F1 R1 s1 T
    have hcase : ∃ acc δ2, dCompL set t fe ds [] (List.replicate k none ++ δ1) = .ok acc δ2 ∧ k ≤ δ2.length ∧ kD X Z ow 1 (.ok (.list acc) (δ2.drop k)) F σ Q := by
      cases e2 : dCompL set t fe ds [] (List.replicate k none ++ δ1) with
      | stuck => rw [e2] at q; exact q.elim
      | err x δ2 => rw [e2] at q; exact q.elim
      | ok acc δ2 =>
        rw [e2] at q
        dsimp only at q
        split at q
        · rename_i hk; exact ⟨acc, δ2, rfl, hk, q⟩
        · exact q.elim
    obtain ⟨acc, δ2, e2, hk2, q⟩ := hcase
    refine ⟨fun i m ys σ' H' => m = ds.length - i ∧ i ≤ ds.length ∧ σ'.length = σ.length + k ∧ (∀ i, σ'[i + k]? = σ[i]?) ∧ ∃ F2 δ' acc', Rel X.K (Z.sh k) (List.replicate k 0 ++ ow) F2 H' σ' δ' ∧ Same F1 F2 ∧ RepAll X.K F2 acc' ys ∧ dCompL set t fe (ds.drop i) acc' δ' = .ok acc δ2,
      ⟨ds.length, rfl, Nat.zero_le _, by simp; omega, fun i => by rw [List.getElem?_append_right (by simp), List.length_replicate, Nat.add_sub_cancel], F1, _, [], R1.sh S, Same.refl _, repNil, e2⟩, ?_⟩
    rintro i m ys σ2 H2 ⟨rfl, hi, hl2, hσ2, F2, δ', acc', R2, s2, ra, e3⟩
    by_cases hlt : i < ds.length
    · have ed := List.getElem?_eq_getElem hlt
      have ee : ds.drop i = ds[i] :: ds.drop (i + 1) := List.drop_eq_getElem_cons hlt
      rw [ee] at e3
      unfold dCompL at e3
      cases e4 : set ds[i] δ' with
      | none => simp only [e4] at e3; cases e3
      | some δ3 =>
        simp only [e4] at e3
        have small : acc'.length < sizeLine := by
          cases e5 : t δ3 with
          | stuck => rw [e5] at e3; cases e3
          | err x δ4 => rw [e5] at e3; cases e3
          | ok bb δ4 =>
            rw [e5] at e3
            simp only [Res.bind] at e3
            cases bb with
            | false =>
              rw [if_neg Bool.false_ne_true] at e3
              split at e3
              · assumption
              · cases e3
            | true =>
              rw [if_pos rfl] at e3
              cases e6 : fe δ4 with
              | stuck => rw [e6] at e3; cases e3
              | err x δ5 => rw [e6] at e3; cases e3
              | ok y δ5 =>
                rw [e6] at e3
                dsimp only at e3
                split at e3
                · assumption
                · cases e3
        refine .inr ⟨T.go i H2 (s2.trans' R2.sub) hlt, by rw [← ra.len]; exact small, fun zs σ'' H'' => σ''.length = σ.length + k ∧ (∀ i, σ''[i + k]? = σ[i]?) ∧ ∃ F3 δ' acc', Rel X.K (Z.sh k) (List.replicate k 0 ++ ow) F3 H'' σ'' δ' ∧ Same F1 F3 ∧ RepAll X.K F3 acc' zs ∧ dCompL set t fe (ds.drop (i + 1)) acc' δ' = .ok acc δ2, fun zs σ'' H'' z => ⟨ds.length - (i + 1), by omega, rfl, hlt, z⟩, fun x H3 y => ?_⟩
        obtain ⟨F3, s3, R3, r3⟩ := T.turn R2 s2 y ed
        refine hs F3 H3 σ2 δ' δ3 ds[i] x _ R3 r3 e4 fun σ3 R4 l3 _ hσ3 => ⟨F3, δ3, R4, ?_⟩
        have hl3 : σ3.length = σ.length + k := by omega
        have hσ4 : ∀ i, σ3[i + k]? = σ[i]? := fun i => (hσ3 i).trans (hσ2 i)
        cases e5 : t δ3 with
        | stuck => rw [e5] at e3; cases e3
        | err x δ4 => rw [e5] at e3; cases e3
        | ok bb δ4 =>
          rw [e5] at e3
          simp only [Res.bind] at e3
          intro H5 F5 R5 s5
          cases bb with
          | false =>
            rw [if_neg Bool.false_ne_true, if_pos small] at e3
            rw [if_neg Bool.false_ne_true]
            exact ⟨hl3, hσ4, F5, δ4, acc', R5, s2.trans' (s3.trans' s5), (s3.trans' s5).repAll _ _ ra, e3⟩
          | true =>
            rw [if_pos rfl] at e3
            rw [if_pos rfl]
            refine ⟨F5, δ4, R5, ?_⟩
            cases e6 : fe δ4 with
            | stuck => rw [e6] at e3; cases e3
            | err x δ5 => rw [e6] at e3; cases e3
            | ok yd δ5 =>
              rw [e6] at e3
              dsimp only at e3
              rw [if_pos small] at e3
              intro yv H6 F6 R6 s6
              exact ⟨hl3, hσ4, F6, δ5, acc' ++ [yd], R6.rel, s2.trans' (s3.trans' (s5.trans' s6)), ((s3.trans' (s5.trans' s6)).repAll _ _ ra).app (repCons R6.rep repNil), e3⟩
    · have e : i = ds.length := by omega
      subst e
      rw [List.drop_length] at e3
      unfold dCompL at e3
      cases e3
      refine .inl ⟨T.stop H2 (s2.trans' R2.sub), fun p hp => ?_⟩
      have R7 : Rel X.K Z ow F2 H2 σ (δ2.drop k) := R2.unsh S Sk hσ2 hl2 hk2
      exact q _ _ F2 (R7.newList S hp ra) (s1.trans' s2)
theorem tD_to {X' : Cx} {f : M D} {Q : VK} (hK : X'.K = X.K) (h : tD0 X Z ow n f σ H Q) : tD X' Z ow n f σ H Q := by
  obtain ⟨F, δ, R, h⟩ := h
  refine ⟨F, δ, by rw [hK]; exact R, ?_⟩
  cases e : f δ with
  | stuck => rw [e] at h; exact h
  | err x δ1 => rw [e] at h; exact h.elim
  | ok d δ1 => rw [e] at h; exact fun v H' F' R' s => h v H' F' (by rw [← hK]; exact R') s
theorem tT_to {X' : Cx} {f : M Bool} {Q : Bool → Hp → Prop} (hK : X'.K = X.K) (h : tT0 X Z ow f σ H Q) : tT X' Z ow f σ H Q := by
  obtain ⟨F, δ, R, h⟩ := h
  refine ⟨F, δ, by rw [hK]; exact R, ?_⟩
  cases e : f δ with
  | stuck => rw [e] at h; exact h
  | err x δ1 => rw [e] at h; exact h.elim
  | ok d δ1 => rw [e] at h; exact fun H' F' R' s => h H' F' (by rw [← hK]; exact R') s
noncomputable def dTrue : M Bool := fun δ => .ok true δ
theorem dif_nil : PIf X [] (tT X Z ow dTrue) := fun pins s σ H Q I h => by
  obtain ⟨F, δ, R, h⟩ := h
  exact pif_nil pins s σ H Q I (h H F R (Same.refl _))
theorem dif_one {c : Expr} {t : M Bool} (h : DT X Z ow c t) : PIf X [c] (tT X Z ow t) := pif_one h
theorem de_lcomp {elt iter : Expr} {ifs : List Expr} {scope : Scope} {xs : List Str} {fi : M (List D)} {t : M Bool} {fe : M D} (S : Small Z ow) (Sk : Small (Z.sh xs.length) (List.replicate xs.length 0 ++ ow)) (hc : X.calm = true) (hi : DI X Z ow tg iter fi)
    (hg : ∀ C fp s H, PG (blockCx X xs scope C fp s H) tg g) (hs : TgC X (Z.sh xs.length) (List.replicate xs.length 0 ++ ow) xs.length g set) (hif : ∀ C fp s H, PIf (blockCx X xs scope C fp s H) ifs (tT (blockCx X xs scope C fp s H) (Z.sh xs.length) (List.replicate xs.length 0 ++ ow) t))
    (he : ∀ C fp s H, DE (blockCx X xs scope C fp s H) (Z.sh xs.length) (List.replicate xs.length 0 ++ ow) 0 elt fe)
    (hk : scope.kind = .function := by rfl) (hok : compOk X.N xs scope.names X.env.scope.names = true := by rfl) (hfs : ∀ x, foldedSetIterable iter X.env x = pure x := by intro _; rfl) :
    DE X Z ow 1 (.ListComp elt [⟨tg, iter, ifs, 0⟩] scope pos) (dComp xs.length set fi t fe) :=
  PE.mono (pe_lcomp (ti := tT0 X (Z.sh xs.length) (List.replicate xs.length 0 ++ ow) t) (te := tD0 X (Z.sh xs.length) (List.replicate xs.length 0 ++ ow) 0 fe) hc hi hg (fun C fp s H pins s' σ H' Q I h => hif C fp s H pins s' σ H' Q I (tT_to (X := X) (X' := blockCx X xs scope C fp s H) rfl h)) (fun C fp s H => PE.mono (he C fp s H) fun _ _ _ h => tD_to (X := X) (X' := blockCx X xs scope C fp s H) rfl h) hk hok hfs)
    fun _ _ _ q => tComp_of (wi := tI X Z ow fi) S Sk hs q
theorem ds_set_lcomp (i : Nat) {x : Str} {pos' spos : Pos} {elt iter : Expr} {ifs : List Expr} {scope : Scope} {xs : List Str} {fi : M (List D)} {t : M Bool} {fe : M D} (S : Small Z ow) (Sk : Small (Z.sh xs.length) (List.replicate xs.length 0 ++ ow)) (hc : X.calm = true) (hN : X.N.Nodup) (hi : DI X Z ow tg iter fi)
    (hg : ∀ C fp s H, PG (blockCx X xs scope C fp s H) tg g) (hs : TgC X (Z.sh xs.length) (List.replicate xs.length 0 ++ ow) xs.length g set) (hif : ∀ C fp s H, PIf (blockCx X xs scope C fp s H) ifs (tT (blockCx X xs scope C fp s H) (Z.sh xs.length) (List.replicate xs.length 0 ++ ow) t))
    (he : ∀ C fp s H, DE (blockCx X xs scope C fp s H) (Z.sh xs.length) (List.replicate xs.length 0 ++ ow) 0 elt fe) (hx : X.N[i]? = some x := by rfl) (hl : X.env.scope.names.lookup x = some .local := by rfl) (hps : Z.ps.contains i = false := by rfl) (hlo : i < ow.length := by decide)
    (hsw : swapsWith (.ListComp elt [⟨tg, iter, ifs, 0⟩] scope pos) (some (.Name x pos')) spos.line X.env = pure true := by rfl)
    (hk : scope.kind = .function := by rfl) (hok : compOk X.N xs scope.names X.env.scope.names = true := by rfl) (hfs : ∀ x, foldedSetIterable iter X.env x = pure x := by intro _; rfl) :
    DS1 X Z ow (ow.set i 1) ol ox rm (.Assign [.Name x pos'] (.ListComp elt [⟨tg, iter, ifs, 0⟩] scope pos) spos) (dSet i (dComp xs.length set fi t fe)) :=
  PS.mono (ps_set_lcomp (ti := tT0 X (Z.sh xs.length) (List.replicate xs.length 0 ++ ow) t) (te := tD0 X (Z.sh xs.length) (List.replicate xs.length 0 ++ ow) 0 fe) hc hN hx hl hi hg (fun C fp s H pins s' σ H' Q I h => hif C fp s H pins s' σ H' Q I (tT_to (X := X) (X' := blockCx X xs scope C fp s H) rfl h)) (fun C fp s H => PE.mono (he C fp s H) fun _ _ _ h => tD_to (X := X) (X' := blockCx X xs scope C fp s H) rfl h) hsw hk hok hfs)
    fun Dn σ H h => tComp_of (wi := tI X Z ow fi) S Sk hs (tSet_of S (notIn hps) hlo h)
end
end L2
namespace L2
open PySem PySem.Spec PyProof.Rows
section
variable {X : Cx} {Z : Ent} {ow ow' ol ox : List Nat} {n rm : Nat} {pos : Pos} {e a b c : Expr} {f h k : M D} {F H : Hp} {σ : St} {δ : DS} {K : PySem.W.Frag}
theorem rep1 {d : D} {vs : List V} (h : RepAll K F [d] vs) : ∃ v, vs = [v] ∧ Rep K F d v := by
  unfold RepAll at h
  obtain ⟨x, r, rfl, rx, h⟩ := h
  unfold RepAll at h
  exact ⟨x, by rw [h], rx⟩
theorem rep2 {d d' : D} {vs : List V} (h : RepAll K F [d, d'] vs) : ∃ v v', vs = [v, v'] ∧ Rep K F d v ∧ Rep K F d' v' := by
  unfold RepAll at h
  obtain ⟨x, r, rfl, rx, h⟩ := h
  obtain ⟨v', rfl, r'⟩ := rep1 h
  exact ⟨x, v', rfl, rx, r'⟩
theorem FnS.or {r r' : List V → Hp → VK → Prop} {o o' : List D → Option D} (h : FnS X r n o) (h' : FnS X r' n o') : FnS X (fun xs H Q => r xs H Q ∨ r' xs H Q) n (fun a => (o a).or (o' a)) := fun Z ow F H σ δ ds vs d Q S R ra e q => by
  dsimp only at e
  cases e1 : o ds with
  | some d' => rw [e1, Option.some_or] at e; cases e; exact .inl (h Z ow F H σ δ ds vs d Q S R ra e1 q)
  | none => rw [e1, Option.none_or] at e; exact .inr (h' Z ow F H σ δ ds vs d Q S R ra e q)
theorem fs_len : FnS X (fun xs H Q => (∃ p ys, xs = [.ref p] ∧ (SqL X.K H p ys ∨ SqT X.K H p ys) ∧ Q (.int ys.length) H) ∨ (∃ z, xs = [.str z] ∧ z.length ≤ sizeLine ∧ Q (.int z.length) H)) 0 lenD := fun Z ow F H σ δ ds vs d Q S R ra e q => by
  unfold lenD at e
  split at e
  · cases e
    obtain ⟨v, rfl, r⟩ := rep1 ra
    obtain ⟨p, xs, rfl, hp, hr⟩ := repL r
    rw [hr.len] at q
    exact .inl ⟨p, xs, rfl, .inl (R.sub.seq hp), q _ H F (R.x mkInt) (Same.refl _)⟩
  · cases e
    obtain ⟨v, rfl, r⟩ := rep1 ra
    obtain ⟨p, xs, rfl, hp, hr⟩ := repT r
    rw [hr.len] at q
    exact .inl ⟨p, xs, rfl, .inr (R.sub.seqT hp), q _ H F (R.x mkInt) (Same.refl _)⟩
  · split at e
    · rename_i hz
      cases e
      obtain ⟨v, rfl, r⟩ := rep1 ra
      obtain rfl := repStr r
      exact .inr ⟨_, rfl, hz, q _ H F (R.x mkInt) (Same.refl _)⟩
    · cases e
  · cases e
theorem de_len {p : Pos} (S : Small Z ow) (hg : Gl X "len") (hm : X.mg "len" = none) (ha : DE X Z ow 0 e f) (hs : starEach [e] X.env = (false, eval e X.env) :: starEach [] X.env := by rfl) (hpl : (backTo pos (starEach [] X.env)).any (·.1) = false := by rfl) : DE X Z ow 0 (.Call (.Name "len" p) [e] [] pos) (dFn lenD [f]) :=
  de_callB S (call_len_seq.or call_len_str) fs_len hg hm bt_len (dv_cons ha dv_nil hs) (by decide) (by decide) hs hpl
noncomputable def absD : List D → Option D
  | [.int i] => some (.int (if i < 0 then -i else i))
  | _ => none
theorem fs_abs : FnS X (fun xs H Q => ∃ i, xs = [.int i] ∧ Q (.int (if i < 0 then -i else i)) H) 0 absD := fun Z ow F H σ δ ds vs d Q S R ra e q => by
  unfold absD at e
  split at e
  · cases e
    obtain ⟨v, rfl, r⟩ := rep1 ra
    exact ⟨_, by rw [repInt r], q _ H F (R.x mkInt) (Same.refl _)⟩
  · cases e
noncomputable def max2D : List D → Option D
  | [.int i, .int j] => some (.int (if j > i then j else i))
  | _ => none
noncomputable def min2D : List D → Option D
  | [.int i, .int j] => some (.int (if j < i then j else i))
  | _ => none
theorem fs_max2 : FnS X (fun xs H Q => ∃ i j, xs = [.int i, .int j] ∧ Q (.int (if j > i then j else i)) H) 0 max2D := fun Z ow F H σ δ ds vs d Q S R ra e q => by
  unfold max2D at e
  split at e
  · cases e
    obtain ⟨v, v', rfl, r, r'⟩ := rep2 ra
    exact ⟨_, _, by rw [repInt r, repInt r'], q _ H F (R.x mkInt) (Same.refl _)⟩
  · cases e
theorem fs_min2 : FnS X (fun xs H Q => ∃ i j, xs = [.int i, .int j] ∧ Q (.int (if j < i then j else i)) H) 0 min2D := fun Z ow F H σ δ ds vs d Q S R ra e q => by
  unfold min2D at e
  split at e
  · cases e
    obtain ⟨v, v', rfl, r, r'⟩ := rep2 ra
    exact ⟨_, _, by rw [repInt r, repInt r'], q _ H F (R.x mkInt) (Same.refl _)⟩
  · cases e
noncomputable def listD : List D → Option D
  | [.list ds] => some (.list ds)
  | [.tuple ds] => some (.list ds)
  | _ => none
theorem fs_list : FnS X (fun xs H Q => ∃ p ys, xs = [.ref p] ∧ (SqL X.K H p ys ∨ SqT X.K H p ys) ∧ ∀ l, H l = none → Q (.ref l) (upd H l (.lst ys))) 1 listD := fun Z ow F H σ δ ds vs d Q S R ra e q => by
  unfold listD at e
  split at e
  · cases e
    obtain ⟨v, rfl, r⟩ := rep1 ra
    obtain ⟨p, xs, rfl, hp, hr⟩ := repL r
    exact ⟨p, xs, rfl, .inl (R.sub.seq hp), fun l hl => q _ _ F (R.newList S hl hr) (Same.refl _)⟩
  · cases e
    obtain ⟨v, rfl, r⟩ := rep1 ra
    obtain ⟨p, xs, rfl, hp, hr⟩ := repT r
    exact ⟨p, xs, rfl, .inr (R.sub.seqT hp), fun l hl => q _ _ F (R.newList S hl hr) (Same.refl _)⟩
  · cases e
noncomputable def tupleD : List D → Option D
  | [.list ds] => some (.tuple ds)
  | [.tuple ds] => some (.tuple ds)
  | _ => none
theorem fs_tuple : FnS X (fun xs H Q => ∃ p ys, xs = [.ref p] ∧ ((SqL X.K H p ys ∧ ∀ l, H l = none → Q (.ref l) (upd H l (.tup ys))) ∨ (SqT X.K H p ys ∧ Q (.ref p) H))) 0 tupleD := fun Z ow F H σ δ ds vs d Q S R ra e q => by
  unfold tupleD at e
  split at e
  · cases e
    obtain ⟨v, rfl, r⟩ := rep1 ra
    obtain ⟨p, xs, rfl, hp, hr⟩ := repL r
    refine ⟨p, xs, rfl, .inl ⟨R.sub.seq hp, fun l hl => ?_⟩⟩
    have fl := R.fnone hl
    exact q _ _ (upd F l (.tup xs)) ((R.laid hl).x (rep_newTup fl hr)) (same_new fl _)
  · cases e
    obtain ⟨v, rfl, r⟩ := rep1 ra
    obtain ⟨p, xs, e', hp, hr⟩ := repT r
    subst e'
    exact ⟨p, xs, rfl, .inr ⟨R.sub.seqT hp, q _ H F (R.x r) (Same.refl _)⟩⟩
  · cases e
inductive Ty where | int | bool | str | list | tuple
noncomputable def Ty.name : Ty → String
  | .int => "int" | .bool => "bool" | .str => "str" | .list => "list" | .tuple => "tuple"
noncomputable def isiD : Ty → D → Option D
  | .int, .int _ => some (.bool true) | .int, .bool _ => some (.bool true) | .bool, .bool _ => some (.bool true) | .str, .str _ => some (.bool true) | .list, .list _ => some (.bool true) | .tuple, .tuple _ => some (.bool true)
  | _, .dict _ => none
  | _, _ => some (.bool false)
theorem call_isiD (T : Ty) : CallR X (.builtin "isinstance") (fun xs H Q => ∃ (x : V) (d : D) (b : Bool), xs = [x, .ty T.name] ∧ Rep X.K H d x ∧ isiD T d = some (.bool b) ∧ Q (.bl b) H) := by
  intro pins s σ H xs us Q I r h
  obtain ⟨x, d, b, rfl, rd, hb, q⟩ := h
  obtain ⟨u, v, rfl, rx, rc⟩ := vals2 r
  obtain rfl : v = Value.type T.name := rc
  cases d with
  | none => obtain rfl := repNon rd; cases (show u = Value.none from rx); exact PySem.W.kia_one PySem.W.kitx_none I.kIn True.intro (by cases T <;> cases hb <;> rfl) (fun z => nomatch z) fun tk => ⟨.bl b, H, I.tok tk, rfl, q⟩
  | bool y => obtain rfl := repBl rd; cases (show u = Value.bool y from rx); exact PySem.W.kia_one PySem.W.kitx_bool I.kIn True.intro (by cases T <;> cases hb <;> rfl) (fun z => nomatch z) fun tk => ⟨.bl b, H, I.tok tk, rfl, q⟩
  | int i => obtain rfl := repInt rd; obtain ⟨t, q'⟩ := (show ∃ t, u = Value.int i t from rx); cases q'; exact PySem.W.kia_one PySem.W.kitx_int I.kIn True.intro (by cases T <;> cases hb <;> rfl) (fun z => nomatch z) fun tk => ⟨.bl b, H, I.tok tk, rfl, q⟩
  | str i => obtain rfl := repStr rd; obtain ⟨t, q'⟩ := (show ∃ t, u = Value.str i t from rx); cases q'; exact PySem.W.kia_one PySem.W.kitx_str I.kIn True.intro (by cases T <;> cases hb <;> rfl) (fun z => nomatch z) fun tk => ⟨.bl b, H, I.tok tk, rfl, q⟩
  | list ds =>
    obtain ⟨a, xs, rfl, hp, _⟩ := repL rd
    cases (show u = Value.ref a from rx)
    obtain ⟨_, _, ⟨o, _, h1, h2, _⟩, _⟩ := I.list hp
    exact PySem.W.kia_one PySem.W.kitx_list I.kIn ⟨o, h1, h2⟩ (by cases T <;> cases hb <;> rfl) (fun z => nomatch z) fun tk => ⟨.bl b, H, I.tok tk, rfl, q⟩
  | tuple ds =>
    obtain ⟨a, xs, rfl, hp, _⟩ := repT rd
    cases (show u = Value.ref a from rx)
    obtain ⟨_, _, ⟨o, h1, h2, _⟩, _⟩ := I.tuple hp
    exact PySem.W.kia_one PySem.W.kitx_tuple I.kIn ⟨o, h1, h2⟩ (by cases T <;> cases hb <;> rfl) (fun z => nomatch z) fun tk => ⟨.bl b, H, I.tok tk, rfl, q⟩
  | dict _ => unfold Rep at rd; exact rd.elim
theorem de_isi (T : Ty) {x : Str} {p p2 : Pos} (hx : x = T.name) (hg : Gl X "isinstance") (hm : X.mg "isinstance" = none) (hgt : Gl X x) (hmt : X.mg x = none) (hbt : bootBuiltins x = some (.type T.name)) (ha : DE X Z ow 0 e f) (hn : x ≠ "__name__" := by decide) (hd : (x == ("__debug__" : Str)) = false := by decide)
    (hs : starEach [e, .Name x p2] X.env = (false, eval e X.env) :: starEach [.Name x p2] X.env := by rfl) (hs2 : starEach [.Name x p2] X.env = (false, eval (.Name x p2) X.env) :: starEach [] X.env := by rfl) (hpl : (backTo pos (starEach [.Name x p2] X.env)).any (·.1) = false := by rfl) :
    DE X Z ow 0 (.Call (.Name "isinstance" p) [e, .Name x p2] [] pos) (dUn (isiD T) f) :=
  PE.mono (pe_callB (call_isiD T) hg hm bt_isinstance (pa_cons ha (pa_cons (pe_ty hgt hmt hbt hn hd) pa_nil hs2) hs) (by decide) (by decide) hs hpl) fun σ H Q q => by
    obtain ⟨F, δ, R, q⟩ := q
    unfold dUn at q
    refine ⟨F, δ, R, ?_⟩
    cases e : f δ with
    | stuck => rw [e] at q; exact q.elim
    | err x δ1 => rw [e] at q; exact q
    | ok d δ1 =>
      rw [e] at q
      simp only [Res.bind] at q
      intro v H1 F1 R1 s1
      have hb : ∀ r, isiD T d = some r → ∃ b, r = .bool b := fun r h => by
        unfold isiD at h
        split at h <;> cases h <;> exact ⟨_, rfl⟩
      cases e1 : isiD T d with
      | none => rw [e1] at q; exact q.elim
      | some r =>
        rw [e1] at q
        obtain ⟨b, rfl⟩ := hb r e1
        exact ⟨v, d, b, rfl, R1.rel.sub.rep _ _ R1.rep, e1, q _ H1 F1 (R1.rel.x mkBl) s1⟩
noncomputable def cutD (xs : List D) (lo hi : Option Int) : List D := (xs.drop (HT.sIx xs.length 0 lo)).take (HT.sIx xs.length xs.length hi - HT.sIx xs.length 0 lo)
theorem RepAll.cut {ds : List D} {vs : List V} (r : RepAll K F ds vs) (lo hi : Option Int) : RepAll K F (cutD ds lo hi) (cutV vs lo hi) := by
  unfold cutD cutV
  rw [r.len]
  exact (r.drop _).take _
noncomputable def dOpt : Option (M D) → M (Option Int)
  | none => fun δ => .ok none δ
  | some f => fun δ => (f δ).bind fun d δ1 => match d with
    | .int i => .ok (some i) δ1
    | _ => .stuck
noncomputable def kO (X : Cx) (Z : Ent) (ow : List Nat) (r : Res (Option Int)) (F : Hp) (σ : St) (Q : Option Int → Hp → Prop) : Prop := match r with
  | .ok o δ => ∀ H' F', Rel X.K Z ow F' H' σ δ → Same F F' → Q o H'
  | .err x δ => XOk X Z ow F x δ
  | .stuck => False
noncomputable def tOo (X : Cx) (Z : Ent) (ow : List Nat) (f : Option (M D)) : TO := fun σ H Q => ∃ F δ, Rel X.K Z ow F H σ δ ∧ kO X Z ow (dOpt f δ) F σ Q
noncomputable def DO (X : Cx) (Z : Ent) (ow : List Nat) (e : Option Expr) (f : Option (M D)) : Prop := PO X e (tOo X Z ow f)
theorem PO.mono {o : Option Expr} {t t' : TO} (h : PO X o t) (hm : ∀ σ H Q, t' σ H Q → t σ H Q) : PO X o t' := fun pins s σ H Q I q => h pins s σ H Q I (hm σ H Q q)
theorem do_none : DO X Z ow none none := PO.mono po_none fun σ H Q q => by
  obtain ⟨F, δ, R, q⟩ := q
  exact q H F R (Same.refl _)
theorem do_some (h : DE X Z ow 0 e f) : DO X Z ow (some e) (some f) := PO.mono (po_some h) fun σ H Q q => by
  obtain ⟨F, δ, R, q⟩ := q
  have q : kO X Z ow ((f δ).bind fun d δ1 => match d with | .int i => .ok (some i) δ1 | _ => .stuck) F σ Q := q
  refine ⟨F, δ, R, ?_⟩
  cases e : f δ with
  | stuck => rw [e] at q; exact q.elim
  | err x δ1 => rw [e] at q; exact q
  | ok d δ1 =>
    rw [e] at q
    simp only [Res.bind] at q
    intro v H1 F1 R1 s1
    cases d with
    | int i => exact ⟨i, repInt R1.rep, q H1 F1 R1.rel s1⟩
    | _ => exact q.elim
noncomputable def dSl (op : D → Option Int → Option Int → Option D) (f : M D) (lo hi : Option (M D)) : M D := fun δ => (f δ).bind fun d δ1 => (dOpt lo δ1).bind fun l δ2 => (dOpt hi δ2).bind fun u δ3 => match op d l u with
  | some r => .ok r δ3
  | none => .stuck
noncomputable def SlS (X : Cx) (r : V → Option Int → Option Int → Hp → VK → Prop) (n : Nat) (op : D → Option Int → Option Int → Option D) : Prop := ∀ (Z : Ent) (ow : List Nat) (F H : Hp) (σ : St) (δ : DS) (a : D) (x : V) (l u : Option Int) (d : D) (Q : VK), Small Z ow → Rel X.K Z ow F H σ δ → Rep X.K F a x → op a l u = some d →
  (∀ v H' F', RelX X.K Z ow n d v F' H' σ δ → Same F F' → Q v H') → r x l u H Q
theorem de_slice {r : V → Option Int → Option Int → Hp → VK → Prop} {op : D → Option Int → Option Int → Option D} {lo hi : Option Expr} {p2 : Pos} {fl fh : Option (M D)} (S : Small Z ow) (hr : SlR X r) (os : SlS X r n op) (he : DE X Z ow 0 e f) (hl : DO X Z ow lo fl) (hu : DO X Z ow hi fh) :
    DE X Z ow n (.Subscript e (.Slice lo hi none p2) pos) (dSl op f fl fh) := PE.mono (pe_slice hr he hl hu) fun σ H Q q => by
  obtain ⟨F, δ, R, q⟩ := q
  unfold dSl at q
  refine ⟨F, δ, R, ?_⟩
  cases e1 : f δ with
  | stuck => rw [e1] at q; exact q.elim
  | err x δ1 => rw [e1] at q; exact q
  | ok d δ1 =>
    rw [e1] at q
    simp only [Res.bind] at q
    intro v H1 F1 R1 s1
    refine ⟨F1, δ1, R1.rel, ?_⟩
    cases e2 : dOpt fl δ1 with
    | stuck => rw [e2] at q; exact q.elim
    | err x δ2 => rw [e2] at q; exact XOk.mono q s1
    | ok l δ2 =>
      rw [e2] at q
      dsimp only at q
      intro H2 F2 R2 s2
      refine ⟨F2, δ2, R2, ?_⟩
      cases e3 : dOpt fh δ2 with
      | stuck => rw [e3] at q; exact q.elim
      | err x δ3 => rw [e3] at q; exact XOk.mono q (s1.trans' s2)
      | ok u δ3 =>
        rw [e3] at q
        dsimp only at q
        intro H3 F3 R3 s3
        cases e4 : op d l u with
        | none => rw [e4] at q; exact q.elim
        | some r0 =>
          rw [e4] at q
          exact os Z ow F3 H3 σ δ3 d v l u r0 Q S R3 ((s2.trans' s3).rep _ _ R1.rep) e4 fun v' H' F' R' s' => q v' H' F' R' (s1.trans' (s2.trans' (s3.trans' s')))
noncomputable def cutL : D → Option Int → Option Int → Option D
  | .list ds, l, u => some (.list (cutD ds l u))
  | _, _, _ => none
theorem ss_list : SlS X (rSlL X.K) 1 cutL := fun Z ow F H σ δ a x l u d Q S R ra e q => by
  unfold cutL at e
  split at e
  · cases e
    obtain ⟨p, xs, rfl, hp, hr⟩ := repL ra
    exact ⟨p, xs, rfl, R.sub.seq hp, fun t ht => q _ _ F (R.newList S ht (hr.cut l u)) (Same.refl _)⟩
  · cases e
noncomputable def cutT : D → Option Int → Option Int → Option D
  | .tuple ds, l, u => if HT.sIx ds.length 0 l = 0 ∧ HT.sIx ds.length ds.length u = ds.length then none else some (.tuple (cutD ds l u))
  | _, _, _ => none
theorem ss_tup : SlS X (rSlT X.K) 0 cutT := fun Z ow F H σ δ a x l u d Q S R ra e q => by
  unfold cutT at e
  split at e
  · split at e
    · cases e
    · rename_i hw
      cases e
      obtain ⟨p, xs, rfl, hp, hr⟩ := repT ra
      rw [hr.len] at hw
      refine ⟨p, xs, rfl, R.sub.seqT hp, hw, fun t ht => ?_⟩
      have ft := R.fnone ht
      exact q _ _ (upd F t (.tup (cutV xs l u))) ((R.laid ht).x (rep_newTup ft (hr.cut l u))) (same_new ft _)
  · cases e
theorem mkS {Z : Ent} {ow : List Nat} (h1 : decide (ow.length ≤ 1000) = true := by rfl) (h2 : Z.ps.contains 1000 = false := by rfl) : Small Z ow := ⟨of_decide_eq_true h1, notIn h2⟩
end
end L2
namespace L2
open PySem PySem.Spec PyProof.Rows
section
variable {X : Cx} {Z : Ent} {ow ow' ol ox : List Nat} {n rm : Nat} {pos : Pos} {e tg a b c : Expr} {f h k : M D} {F H : Hp} {σ : St} {δ : DS} {K : PySem.W.Frag}
theorem de_gint {x : Str} {i : Int} (hg : Gl X x) (hm : ∃ t, X.mg x = some (.int i t)) (hd : (x == ("__debug__" : Str)) = false := by decide) : DE X Z ow 0 (.Name x pos) (dC (.int i)) := by
  obtain ⟨t, hm⟩ := hm
  exact de_const (pe_glob hg hm (v := .int i) ⟨t, rfl⟩ hd) fun F => mkInt
end
theorem law_start {K : PySem.W.Frag} {H : Hp} {a : Addr} {ns : List Int} {owp : List Nat} {f : List D → Res D} {x : Str} (hS : SqL K H a (ns.map V.int)) (hf : f [.list (ns.map .int)] = .ok (.bool true) []) (h0 : owp.getD 0 0 = 0 := by rfl) :
    SpN K [x] [] owp 0 f [.ref a] H (fun v _ => v = .bl true) (fun _ _ _ => False) := by
  refine ⟨rfl, H, fun _ => none, [.list (ns.map .int)], Same.refl _, rfl, fun a i p e => (by cases e), fun i d v e1 e2 => ?_, by rw [hf]; exact fun v H' F' g' T => repBl T.ret⟩
  cases i with
  | zero =>
    cases e1; cases e2
    rw [h0]
    show Rep K H _ _
    unfold Rep
    refine ⟨a, ns.map V.int, rfl, hS, ?_⟩
    clear hS hf
    induction ns with
    | nil => exact repNil
    | cons n ns ih => exact repCons mkInt ih
  | succ i => simp at e1
theorem cxe_false {P : Program} {w : World} {K : PySem.W.Frag} {outer : List Env} {H : Hp} {s s' : Shared} {e : Value} (z : CXE P w K outer H s (fun _ _ _ => False) e s') : False := by
  obtain ⟨_, _, _, _, _, _, _, _, _, _, _, _, _, q⟩ := z
  exact q
end L2
namespace L2
open PySem PySem.Spec
theorem iD_pos {C : Int → Int → Prop} {g : Int → Int → D} {i j : Int} (h : C i j) : iD C g (.int i) (.int j) = some (g i j) := by
  unfold iD
  exact if_pos h
theorem modD_pos {i j : Int} (h : 0 < j) : modD (.int i) (.int j) = some (.int (i % j)) := by
  rw [modD, iD_pos (by show j ≠ 0; omega), Int.fmod_eq_emod_of_nonneg i (by omega)]
theorem fdivD_pos {i j : Int} (h : 0 < j) (h2 : j.natAbs.log2 < 9000) : fdivD (.int i) (.int j) = some (.int (i / j)) := by
  rw [fdivD, iD_pos ⟨by omega, h2⟩, Int.fdiv_eq_ediv_of_nonneg i (by omega)]
theorem mulD_ok {i j : Int} (h : IntMulOk i j) : mulD (.int i) (.int j) = some (.int (i * j)) := by rw [mulD, iD_pos h]
theorem powD_ok {i j : Int} (h : CPow i j) : powD (.int i) (.int j) = some (.int (i ^ j.toNat)) := by rw [powD, iD_pos h]
theorem eqD_int {i j : Int} : eqD (.int i) (.int j) = some (.bool (i == j)) := rfl
theorem neD_int {i j : Int} : neD (.int i) (.int j) = some (.bool (!(i == j))) := rfl
theorem neD_bool {i j : Bool} : neD (.bool i) (.bool j) = some (.bool (!(i == j))) := rfl
theorem dCompL_map {e : M D} {g : D → D} {δ : DS} : ∀ {ds acc : List D} {o : Option D}, (∀ d ∈ ds, e (some d :: δ) = .ok (g d) (some d :: δ)) → acc.length + ds.length ≤ sizeLine → ∃ o', dCompL (setN 0) dTrue e ds acc (o :: δ) = .ok (acc ++ ds.map g) (o' :: δ)
  | [], acc, o, _, _ => ⟨o, by simp [dCompL]⟩
  | d :: ds, acc, o, h, hl => by
    have hd := h d List.mem_cons_self
    rw [List.length_cons] at hl
    obtain ⟨o', ih⟩ := dCompL_map (ds := ds) (acc := acc ++ [g d]) (o := some d) (fun x hx => h x (List.mem_cons_of_mem _ hx)) (by simp; omega)
    refine ⟨o', ?_⟩
    unfold dCompL
    have e1 : setN 0 d (o :: δ) = some (some d :: δ) := by simp [setN]
    rw [e1]
    show Res.bind (dTrue (some d :: δ)) _ = _
    simp only [dTrue, Res.bind, if_true, hd]
    rw [if_pos (by omega), ih]
    simp
theorem dComp_map {f : M (List D)} {e : M D} {g : D → D} {δ δ1 : DS} {ds : List D} (hf : f δ = .ok ds δ1) (he : ∀ d ∈ ds, e (some d :: δ1) = .ok (g d) (some d :: δ1)) (hl : ds.length ≤ sizeLine) : dComp 1 (setN 0) f dTrue e δ = .ok (.list (ds.map g)) δ1 := by
  unfold dComp
  rw [hf]
  obtain ⟨o', h⟩ := dCompL_map (acc := []) (o := none) he (by simpa using hl)
  simp only [Res.bind]
  rw [show List.replicate 1 (none : Option D) ++ δ1 = none :: δ1 from rfl, h]
  simp
theorem dSeq_ok {u v : M Fl} {δ δ1 : DS} (h : u δ = .ok .next δ1) : dSeq u v δ = v δ1 := by unfold dSeq; rw [h]; rfl
theorem dSeq_ret {u v : M Fl} {δ δ1 : DS} {d : D} (h : u δ = .ok (.ret d) δ1) : dSeq u v δ = .ok (.ret d) δ1 := by unfold dSeq; rw [h]; rfl
theorem dSet_ok {i : Nat} {f : M D} {δ δ1 : DS} {d : D} (h : f δ = .ok d δ1) (hi : i < δ1.length) : dSet i f δ = .ok .next (δ1.set i (some d)) := by unfold dSet; rw [h]; exact if_pos hi
theorem rngD_get {lo : Int} {n k : Nat} {d : D} (h : (rngD lo n)[k]? = some d) : k < n ∧ d = .int (lo + (k : Int)) := by
  have hk : k < n := by have := (List.getElem?_eq_some_iff.mp h).1; rwa [rngD_len] at this
  rw [rngD_at hk] at h
  cases h
  exact ⟨hk, rfl⟩
end L2
namespace L2
open PySem PySem.Spec
end L2
namespace L2
open PySem PySem.Spec
theorem bind_ok {α β : Type} {a : α} {δ : DS} {k : α → DS → Res β} : (Res.ok a δ).bind k = k a δ := rfl
theorem dOp_ok {op : D → D → Option D} {f g : M D} {δ δ1 δ2 : DS} {a b c : D} (hf : f δ = .ok a δ1) (hg : g δ1 = .ok b δ2) (ho : op a b = some c) : dOp op f g δ = .ok c δ2 := by
  unfold dOp; rw [hf, bind_ok, hg, bind_ok, ho]
theorem dFn1_ok {op : List D → Option D} {f : M D} {δ δ1 : DS} {a c : D} (hf : f δ = .ok a δ1) (ho : op [a] = some c) : dFn op [f] δ = .ok c δ1 := by
  unfold dFn
  rw [show dVals [f] δ = .ok [a] δ1 by simp only [dVals, hf, bind_ok], bind_ok, ho]
theorem dB_ok {f : M D} {δ δ1 : DS} {b : Bool} (hf : f δ = .ok (.bool b) δ1) : dB f δ = .ok b δ1 := by
  unfold dB; rw [hf, bind_ok]
theorem dRet_ok {f : M D} {δ δ1 : DS} {d : D} (hf : f δ = .ok d δ1) : dRet f δ = .ok (.ret d) δ1 := by
  unfold dRet; rw [hf, bind_ok]
theorem dIfS_t {c : M Bool} {u v : M Fl} {δ δ1 : DS} (h : c δ = .ok true δ1) : dIfS c u v δ = u δ1 := by unfold dIfS; rw [h, bind_ok, if_pos rfl]
theorem dIfS_f {c : M Bool} {u v : M Fl} {δ δ1 : DS} (h : c δ = .ok false δ1) : dIfS c u v δ = v δ1 := by unfold dIfS; rw [h, bind_ok, if_neg Bool.false_ne_true]
theorem dVar_ok {i : Nat} {δ : DS} {d : D} (h : δ[i]? = some (some d)) : dVar i δ = .ok d δ := by unfold dVar; rw [h]
theorem dC_ok {d : D} {δ : DS} : dC d δ = .ok d δ := rfl
end L2
namespace L2
open PySem PySem.Spec
noncomputable def endOf (N B C : DS → Prop) (R : D → DS → Prop) : Fl → DS → Prop
  | .next, δ => N δ
  | .brk, δ => B δ
  | .cont, δ => C δ
  | .ret d, δ => R d δ
structure Wt {α : Type} (a : α) : Type where
noncomputable def wpM (m : M Fl) (δ : DS) (N : DS → Prop) (B C : DS → Prop) (R : D → DS → Prop) (_w : Wt (N, B, C, R) := ⟨⟩) : Prop := match m δ with
  | .ok .next δ' => N δ'
  | .ok .brk δ' => B δ'
  | .ok .cont δ' => C δ'
  | .ok (.ret d) δ' => R d δ'
  | _ => False
noncomputable def wpV {α : Type} (f : M α) (δ : DS) (Q : α → DS → Prop) (_w : Wt Q := ⟨⟩) : Prop := match f δ with
  | .ok a δ' => Q a δ'
  | _ => False
section
variable {α : Type} {m u v : M Fl} {f g k : M D} {c c' : M Bool} {δ δ1 : DS} {N B C : DS → Prop} {R : D → DS → Prop} {Q : D → DS → Prop} {i : Nat}
theorem wpV.of {f : M α} {a : α} {Q : α → DS → Prop} (h : f δ = .ok a δ1) (q : Q a δ1) : wpV f δ Q := by unfold wpV; rw [h]; exact q
theorem wpV.ex {f : M α} {Q : α → DS → Prop} (h : wpV f δ Q) : ∃ a δ1, f δ = .ok a δ1 ∧ Q a δ1 := by
  unfold wpV at h
  cases e : f δ with
  | ok a δ1 => rw [e] at h; exact ⟨a, δ1, rfl, h⟩
  | err x δ1 => rw [e] at h; exact h.elim
  | stuck => rw [e] at h; exact h.elim
theorem wpM.of {fl : Fl} (h : m δ = .ok fl δ1) (q : endOf N B C R fl δ1) : wpM m δ N B C R := by
  unfold wpM; rw [h]; cases fl <;> exact q
theorem wpM.ex (h : wpM m δ N B C R) : ∃ fl δ1, m δ = .ok fl δ1 ∧ endOf N B C R fl δ1 := by
  unfold wpM at h
  cases e : m δ with
  | ok fl δ1 => rw [e] at h; exact ⟨fl, δ1, rfl, by cases fl <;> exact h⟩
  | err x δ1 => rw [e] at h; exact h.elim
  | stuck => rw [e] at h; exact h.elim
theorem wm_seq (h : wpM u δ (fun δ1 => wpM v δ1 N B C R) B C R) : wpM (dSeq u v) δ N B C R := by
  obtain ⟨fl, δ1, e, q⟩ := h.ex
  cases fl with
  | next =>
    obtain ⟨fl, δ2, e2, q⟩ := wpM.ex q
    exact .of ((dSeq_ok e).trans e2) q
  | brk => exact .of (fl := .brk) (by unfold dSeq; rw [e]; rfl) q
  | cont => exact .of (fl := .cont) (by unfold dSeq; rw [e]; rfl) q
  | ret d => exact .of (fl := .ret d) (dSeq_ret e) q
theorem wm_set (h : wpV f δ fun d δ1 => i < δ1.length ∧ N (δ1.set i (some d))) : wpM (dSet i f) δ N B C R := by
  obtain ⟨d, δ1, e, hi, q⟩ := h.ex
  exact .of (fl := .next) (dSet_ok e hi) q
theorem wm_ret (h : wpV f δ R) : wpM (dRet f) δ N B C R := by
  obtain ⟨d, δ1, e, q⟩ := h.ex
  exact .of (fl := .ret d) (dRet_ok e) q
theorem wm_if (h : wpV c δ fun b δ1 => if b = true then wpM u δ1 N B C R else wpM v δ1 N B C R) : wpM (dIfS c u v) δ N B C R := by
  obtain ⟨b, δ1, e, q⟩ := h.ex
  cases b with
  | true =>
    rw [if_pos rfl] at q
    obtain ⟨fl, δ2, e2, q⟩ := q.ex
    exact .of ((dIfS_t e).trans e2) q
  | false =>
    rw [if_neg Bool.false_ne_true] at q
    obtain ⟨fl, δ2, e2, q⟩ := q.ex
    exact .of ((dIfS_f e).trans e2) q
theorem wm_loop {set : D → DS → Option DS} (I : Nat → DS → Prop) {ds : List D} (hs : ∀ (k : Nat) (d : D) (δ : DS), ds[k]? = some d → I k δ → ∃ δ1, set d δ = some δ1 ∧ wpM u δ1 (I (k + 1)) N (I (k + 1)) R) (hN : ∀ δ, I ds.length δ → N δ) (h0 : I 0 δ) : wpM (dLoop set u ds) δ N B C R := by
  have main : ∀ (n k : Nat) (δ : DS), k + n = ds.length → I k δ → wpM (dLoop set u (ds.drop k)) δ N B C R := by
    intro n
    induction n with
    | zero =>
      intro k δ hk h
      have : k = ds.length := by omega
      subst this
      rw [List.drop_length]
      exact .of (fl := .next) rfl (hN δ h)
    | succ n ih =>
      intro k δ hk h
      have hlt : k < ds.length := by omega
      obtain ⟨δ1, e1, w⟩ := hs k ds[k] δ (List.getElem?_eq_getElem hlt) h
      obtain ⟨fl, δ2, e2, q⟩ := w.ex
      rw [List.drop_eq_getElem_cons hlt]
      cases fl with
      | next =>
        obtain ⟨fl, δ3, e3, q⟩ := (ih (k + 1) δ2 (by omega) q).ex
        exact .of (by unfold dLoop; rw [e1]; simp only [e2, bind_ok]; exact e3) q
      | cont =>
        obtain ⟨fl, δ3, e3, q⟩ := (ih (k + 1) δ2 (by omega) q).ex
        exact .of (by unfold dLoop; rw [e1]; simp only [e2, bind_ok]; exact e3) q
      | brk => exact .of (fl := .next) (by unfold dLoop; rw [e1]; simp only [e2, bind_ok]) q
      | ret d => exact .of (fl := .ret d) (by unfold dLoop; rw [e1]; simp only [e2, bind_ok]) q
  have := main ds.length 0 δ (by omega) h0
  rwa [List.drop_zero] at this
theorem wm_for {set : D → DS → Option DS} {f : M (List D)} (I : Nat → DS → Prop) {ds : List D} (hf : f δ = .ok ds δ1) (h0 : I 0 δ1) (hs : ∀ (k : Nat) (d : D) (δ : DS), ds[k]? = some d → I k δ → ∃ δ1, set d δ = some δ1 ∧ wpM u δ1 (I (k + 1)) N (I (k + 1)) R) (hN : ∀ δ, I ds.length δ → N δ) : wpM (dForI set f u) δ N B C R := by
  obtain ⟨fl, δ2, e, q⟩ := (wm_loop (B := B) (C := C) I hs hN h0).ex
  exact .of (by unfold dForI; rw [hf, bind_ok]; exact e) q
theorem wm_range {set : D → DS → Option DS} {j : Int} (I : Nat → DS → Prop) (hf : f δ = .ok (.int j) δ1) (hj : -(2 ^ 62) ≤ j) (hj2 : j < 2 ^ 62) (h0 : I 0 δ1) (hs : ∀ (k : Nat) (δ : DS), (k : Int) < j → I k δ → ∃ δ1, set (.int k) δ = some δ1 ∧ wpM u δ1 (I (k + 1)) N (I (k + 1)) R) (hN : ∀ δ, I j.toNat δ → N δ) : wpM (dForI set (dRng [f]) u) δ N B C R := by
  refine wm_for (ds := rngD 0 j.toNat) (δ1 := δ1) I ?_ h0 (fun k d δ hd hI => ?_) (fun δ h => hN δ (by rwa [rngD_len] at h))
  · simp only [dRng, dVals, hf, bind_ok, rng2]
    rw [if_pos ⟨hj, hj2⟩]
  · obtain ⟨hk, rfl⟩ := rngD_get hd
    rw [Int.zero_add]
    exact hs k δ (by omega) hI
theorem fn_of_wp {m0 : Nat} {ps : List Nat} {rm : Nat} {body : M Fl} {ds : List D} {d : D} {os : List D} (h : wpM body (ds.map some ++ List.replicate (m0 - ds.length) none) (fun _ => False) (fun _ => False) (fun _ => False) fun r δ => r = d ∧ outsOf δ ps = some os) : runFn m0 ps rm body ds = .ok d (os.map some) := by
  obtain ⟨fl, δ1, e, q⟩ := h.ex
  cases fl with
  | ret r =>
    obtain ⟨rfl, ho⟩ := q
    unfold runFn
    rw [e]
    dsimp only
    rw [ho]
  | next => exact q.elim
  | brk => exact q.elim
  | cont => exact q.elim
end
end L2
namespace L2
open PySem PySem.Spec PyProof.Rows
section
variable {X : Cx} {Z : Ent} {ow ow' ol ox : List Nat} {n rm : Nat} {pos : Pos} {e a b c tg : Expr} {f h k : M D} {F H : Hp} {σ : St} {δ : DS} {K : PySem.W.Frag} {g : TG} {set : D → DS → Option DS}
noncomputable def dNever : M Fl := fun _ => .stuck
theorem ds_never {st : Stmt} : DS1 X Z ow ow' ol ox rm st dNever := PS.mono ps_never fun Dn σ H h => by
  obtain ⟨F, δ, R, h⟩ := h
  exact h.elim
noncomputable def dAsg (set : D → DS → Option DS) (f : M D) : M Fl := fun δ => (f δ).bind fun d δ1 => match set d δ1 with
  | some δ2 => .ok .next δ2
  | none => .stuck
theorem ds_asg (he : DE X Z ow 0 e f) (hg : PG X tg g) (ht : TgS X Z ow g set) (hs : swapsWithSole [tg] e pos.line X.env = pure false := by rfl) (hw : swappedStores [tg] e X.env = pure none := by rfl)
    (h1 : (assignEach [tg] X.env).map (·.2) = [assign tg X.env] := by rfl) : DS1 X Z ow ow ol ox rm (.Assign [tg] e pos) (dAsg set f) := PS.mono (ps_asg he hg hs hw h1) fun Dn σ H q => by
  obtain ⟨F, δ, R, q⟩ := q
  unfold dAsg at q
  refine ⟨F, δ, R, ?_⟩
  cases e1 : f δ with
  | stuck => rw [e1] at q; exact q.elim
  | err x δ1 => rw [e1] at q; exact XOk.cast q
  | ok d δ1 =>
    rw [e1] at q
    simp only [Res.bind] at q
    intro v H1 F1 R1 s1
    cases e2 : set d δ1 with
    | none => rw [e2] at q; exact q.elim
    | some δ2 =>
      rw [e2] at q
      exact ht F1 H1 σ δ1 δ2 d v _ R1.rel R1.rep e2 fun σ' R' => q σ' H1 F1 R' s1
noncomputable def vOf : D → Option V
  | .int i => some (.int i)
  | .bool b => some (.bl b)
  | .str z => some (.str z)
  | .none => some .non
  | _ => none
noncomputable def vsOf : List D → Option (List V)
  | [] => some []
  | d :: ds => match vOf d, vsOf ds with
    | some v, some vs => some (v :: vs)
    | _, _ => none
theorem vOf_rep {d : D} {v x : V} (h : vOf d = some v) (r : Rep K F d x) : x = v ∧ flatV v = true := by
  cases d with
  | int i => cases h; exact ⟨repInt r, rfl⟩
  | bool b => cases h; exact ⟨repBl r, rfl⟩
  | str z => cases h; exact ⟨repStr r, rfl⟩
  | none => cases h; unfold Rep at r; exact ⟨r, rfl⟩
  | _ => cases h
theorem vsOf_rep : ∀ {ds : List D} {vs xs : List V}, vsOf ds = some vs → RepAll K F ds xs → xs = vs ∧ vs.all flatV = true
  | [], vs, xs, h, r => by
    cases h
    unfold RepAll at r
    exact ⟨r, rfl⟩
  | d :: ds, vs, xs, h, r => by
    unfold RepAll at r
    obtain ⟨x, rest, rfl, rx, r⟩ := r
    unfold vsOf at h
    split at h
    · rename_i v vs' e1 e2
      cases h
      obtain ⟨rfl, f1⟩ := vOf_rep e1 rx
      obtain ⟨rfl, f2⟩ := vsOf_rep e2 r
      exact ⟨rfl, by rw [List.all_cons, f1, f2]; rfl⟩
    · cases h
noncomputable def inL (neg : Bool) : D → D → Option D
  | a, .list ds => match vOf a, vsOf ds with
    | some x, some xs => some (.bool (if neg then !inV x xs else inV x xs))
    | _, _ => none
  | a, .tuple ds => match vOf a, vsOf ds with
    | some x, some xs => some (.bool (if neg then !inV x xs else inV x xs))
    | _, _ => none
  | _, _ => none
theorem os_inL {neg : Bool} : OpS X (rIn X.K neg) 0 (inL neg) := fun Z ow F H σ δ a b x y d Q S R ra rb e q => by
  unfold inL at e
  split at e
  · split at e
    · rename_i v vs e1 e2
      cases e
      obtain ⟨p, xs, rfl, hp, hr⟩ := repL rb
      obtain ⟨rfl, f1⟩ := vOf_rep e1 ra
      obtain ⟨rfl, f2⟩ := vsOf_rep e2 hr
      exact ⟨p, _, rfl, .inl (R.sub.seq hp), f1, f2, q _ H F (R.x mkBl) (Same.refl _)⟩
    · cases e
  · split at e
    · rename_i v vs e1 e2
      cases e
      obtain ⟨p, xs, rfl, hp, hr⟩ := repT rb
      obtain ⟨rfl, f1⟩ := vOf_rep e1 ra
      obtain ⟨rfl, f2⟩ := vsOf_rep e2 hr
      exact ⟨p, _, rfl, .inr (R.sub.seqT hp), f1, f2, q _ H F (R.x mkBl) (Same.refl _)⟩
    · cases e
  · cases e
theorem tgcs_names {k : Nat} (S : Small Z ow) : ∀ (is : List Nat) (t : TGs), (∀ i ∈ is, i < k ∧ i ∉ Z.ps ∧ i < ow.length ∧ ow.getD i 0 = 0) → t = is.foldr (fun i u => gCons (gName i) u) gNil →
    ∀ (F H : Hp) (σ : St) (δ δ' : DS) (ds : List D) (vs : List V) (Q : St → Hp → Prop), Rel X.K Z ow F H σ δ → RepAll X.K F ds vs → ds.length = is.length →
      (is.zip ds).foldl (fun (o : Option DS) (p : Nat × D) => o.bind fun δ => setN p.1 p.2 δ) (some δ) = some δ' → (∀ σ', Rel X.K Z ow F H σ' δ' → σ'.length = σ.length → δ'.length = δ.length → (∀ i, σ'[i + k]? = σ[i + k]?) → Q σ' H) → t vs σ H Q
  | [], t, hi, ht, F, H, σ, δ, δ', ds, vs, Q, R, ra, hl, e, q => by
    subst ht
    cases ds with
    | cons _ _ => simp at hl
    | nil =>
      unfold RepAll at ra
      cases e
      exact ⟨ra, q σ R rfl rfl fun _ => rfl⟩
  | i :: is, t, hi, ht, F, H, σ, δ, δ', ds, vs, Q, R, ra, hl, e, q => by
    subst ht
    cases ds with
    | nil => simp at hl
    | cons d ds =>
      unfold RepAll at ra
      obtain ⟨x, rest, rfl, rx, r⟩ := ra
      rw [List.zip_cons_cons, List.foldl_cons] at e
      cases e1 : setN i d δ with
      | none =>
        rw [show ((some δ : Option DS).bind fun δ => setN (i, d).1 (i, d).2 δ) = none from e1] at e
        have : ∀ l : List (Nat × D), l.foldl (fun (o : Option DS) (p : Nat × D) => o.bind fun δ => setN p.1 p.2 δ) none = none := fun l => by induction l with | nil => rfl | cons a l ih => exact ih
        rw [this] at e; cases e
      | some δ1 =>
        rw [show ((some δ : Option DS).bind fun δ => setN (i, d).1 (i, d).2 δ) = some δ1 from e1] at e
        obtain ⟨h0, h1, h2, h3⟩ := hi i List.mem_cons_self
        refine ⟨x, rest, rfl, tgc_name S h0 h1 h2 h3 F H σ δ δ1 d x _ R rx e1 fun σ' R' l1 l2 l3 => ?_⟩
        exact tgcs_names S is _ (fun j hj => hi j (List.mem_cons_of_mem _ hj)) rfl F H σ' δ1 δ' ds rest Q R' r (by simpa using hl) e fun σ2 R2 m1 m2 m3 => q σ2 R2 (m1.trans l1) (m2.trans l2) fun j => (m3 j).trans (l3 j)
theorem tgc_tup {k : Nat} {is : List Nat} {t : TGs} (S : Small Z ow) (hi : ∀ i ∈ is, i < k ∧ i ∉ Z.ps ∧ i < ow.length ∧ ow.getD i 0 = 0) (ht : t = is.foldr (fun i u => gCons (gName i) u) gNil) : TgC X Z ow k (gTup X.K is.length t) (setT is) := fun F H σ δ δ' d v Q R r e q => by
  unfold setT at e
  cases d with
  | tuple ds =>
    dsimp only at e
    split at e
    · rename_i hl
      unfold Rep at r
      obtain ⟨a, xs, rfl, hq, ra⟩ := r
      exact ⟨a, xs, rfl, R.sub.seqT hq, by rw [← ra.len]; exact hl, tgcs_names S is t hi ht F H σ δ δ' ds xs Q R ra hl e q⟩
    · cases e
  | _ => cases e
end
end L2
namespace L2
open PySem PySem.Spec PyProof.Rows
section
variable {X : Cx} {Z : Ent} {ow ow' ol ox : List Nat} {n rm : Nat} {pos : Pos} {e a b c tg : Expr} {f h k : M D} {F H : Hp} {σ : St} {δ : DS} {K : PySem.W.Frag}
theorem Vals.strs : ∀ {zs : List Str} {us : List Value}, Vals (zs.map V.str) us → ∃ l : List (Str × Tok), us = strValues l ∧ l.map (·.1) = zs
  | [], _, .nil => ⟨[], rfl, rfl⟩
  | z :: zs, _, .cons r rr => by
    obtain ⟨t, rfl⟩ := r
    obtain ⟨l, rfl, rfl⟩ := Vals.strs rr
    exact ⟨(z, t) :: l, rfl, rfl⟩
end
end L2
namespace L2
open PySem PySem.Spec PyProof.Rows
section
variable {K : PySem.W.Frag} {X : Cx} {Z : Ent} {ow : List Nat} {n : Nat} {pos : Pos} {as : List Arg} {F H H' : Hp} {σ : St} {δ : DS} {g : Addr → Option Lab}
noncomputable def fzA (g : Addr → Option Lab) (F H : Hp) : Hp := fun b => open Classical in if ∃ l, g b = some l then (if F b = none then H b else F b) else F b
theorem fzA_same : Same F (fzA g F H) := fun b o e => by
  unfold fzA
  split
  · rw [if_neg (by rw [e]; simp)]; exact e
  · exact e
theorem fzA_sub (hs : Same F H) : Same (fzA g F H) H := fun b o e => by
  unfold fzA at e
  split at e
  · split at e
    · exact e
    · exact hs b o e
  · exact hs b o e
theorem OwnR.freezeA {i : Nat} : ∀ {n : Nat} {p : List Nat} {d : D} {v : V}, OwnR K F H g i n p d v → Rep K (fzA g F H) d v
  | 0, _, d, v, h => fzA_same.rep d v h
  | n + 1, p, d, v, ⟨a, ds, vs, e1, e2, e3, e4, e5, e6, h⟩ => by
    subst e1 e2
    unfold Rep
    have e : fzA g F H a = H a := by unfold fzA; rw [if_pos ⟨_, e3⟩, if_pos e5]
    exact ⟨a, vs, rfl, SqL.of (by rw [e]; exact e4), RepAll.of e6 fun k d' v' q1 q2 => (h k d' v' q1 q2).freezeA⟩
theorem RelG.grow (R : RelG K Z ow g F H σ δ) (h : Same H H') : RelG K Z ow g F H' σ δ :=
  ⟨R.sub.trans' h, R.f0, fun b o n e => h b o (R.kept b o n e), R.new, fun b z => by
    cases e : H b with
    | none => exact absurd e (R.there b z)
    | some o => rw [h b o e]; simp, R.lab, R.len, R.par, fun i d e => by
    obtain ⟨v, e1, o⟩ := R.slot i d e
    exact ⟨v, e1, o.mono (fun _ _ z => z) (fun _ _ _ z => z) (fun _ _ _ _ z => z) fun a l ob _ _ z => h a ob z⟩⟩
theorem flat_rep {F' : Hp} {d : D} {v x : V} (h : vOf d = some x) (r : Rep K F d v) : Rep K F' d v := by
  obtain ⟨rfl, _⟩ := vOf_rep h r
  cases d with
  | int i => cases h; exact mkInt
  | bool b => cases h; exact mkBl
  | str z => cases h; exact mkStr
  | none => cases h; exact repNone
  | _ => cases h
noncomputable def borZ (F H : Hp) (σ : St) (m : Nat) : Ent := ⟨F, H, fun _ => none, [], σ, List.replicate m 0, fun _ _ _ e => by cases e⟩
theorem zeros_getD {m i : Nat} : (List.replicate m 0).getD i 0 = 0 := by
  rw [List.getD_eq_getElem?_getD, List.getElem?_replicate]
  split <;> rfl
theorem RelG.bor {m : Nat} (R : RelG K Z ow g F H σ δ) : Rel K (borZ (fzA g F H) H σ m) (List.replicate m 0) (fzA g F H) H σ δ :=
  ⟨fun _ => none, fzA_sub R.sub, fun _ _ z => z, fun _ _ _ e => e, fun _ h _ => h, fun _ h => h, fun _ _ _ e => (by cases e), R.len, fun i hi => (by cases hi), fun i d e => by
    obtain ⟨v, e1, o⟩ := R.slot i d e
    refine ⟨v, e1, ?_⟩
    rw [zeros_getD]
    exact o.freezeA⟩
noncomputable def dBor (f : M D) : M D := fun δ => match f δ with
  | .ok d _ => (match vOf d with | some _ => .ok d δ | none => .stuck)
  | _ => .stuck
theorem de_bor {e : Expr} {f : M D} (m : Nat) (h : ∀ F H σ, DE X (borZ F H σ m) (List.replicate m 0) 0 e f) : DE X Z ow 0 e (dBor f) := fun pins s σ H Q I q => by
  obtain ⟨F, δ, ⟨g, R⟩, q⟩ := q
  unfold dBor at q
  refine h (fzA g F H) H σ pins s σ H Q I ⟨fzA g F H, δ, R.bor, ?_⟩
  cases e1 : f δ with
  | stuck => rw [e1] at q; exact q.elim
  | err x δ1 => rw [e1] at q; exact q.elim
  | ok d δ1 =>
    rw [e1] at q
    dsimp only at q
    cases e2 : vOf d with
    | none => rw [e2] at q; exact q.elim
    | some x =>
      rw [e2] at q
      rintro v H' F' ⟨g', R', o⟩ s'
      exact q v H' F ⟨g, R.grow fun b o e => R'.kept b o rfl e, flat_rep e2 o⟩ fun _ _ z => z
end
end L2
namespace L2
open PySem PySem.Spec PyProof.Rows
section
variable {X : Cx} {pins : List (Addr × Obj)} {σ : St} {H : Hp} {s : Shared} {h' : Heap}
theorem Inv.turns {t' : Nat} {ch : List Addr} (I : Inv X pins σ H s) (k : ∀ b o, b ∉ ch → s.heap.get? b = some o → h'.get? b = some o) (hc : ∀ b ∈ ch, FpOk X pins H b) :
    Inv X pins σ H { s with heap := h', toks := t' } := by
  have off : ∀ b u, H b = some u → b ∉ ch := fun b u e z => by have := (hc b z).1; rw [this] at e; cases e
  refine I.step (g' := s.gens) (d' := s.drawn) (ch := ch) (fun b hb => ⟨(hc b hb).2.2.2.1, (hc b hb).2.1, (hc b hb).2.2.2.2.1, (hc b hb).2.2.2.2.2⟩) (fun b o _ _ n e _ => k b o n e) (fun b o _ _ n e _ => ⟨o.slots, k b o n e⟩)
    (fun b o n e z => z) (fun b o n e => ⟨o, k b o n e⟩) (fun b ys e => e) (fun b o u e => e) (fun b ps e => ⟨#[], by rw [e]; simp⟩) (fun m hm => ?_) (fun b u e => ?_) I.bare
  · obtain ⟨o, es, ep, ho, q⟩ := hm
    exact ⟨o, es, ep, k _ o (fun z => (hc _ z).2.1 rfl) ho, q⟩
  · refine (I.hok b u e).stay (fun c v z q => k c v ?_ q) (fun c q => q) fun c ys q => q
    rcases z with rfl | z
    · exact off _ u e
    · exact off c _ z
theorem Inv.pair {t' : Nat} {ch : List Addr} {T : Addr} {xs : List V} {us : List Value} (I : Inv X pins σ H s) (k : ∀ b o, b ∉ ch → s.heap.get? b = some o → h'.get? b = some o) (hc : ∀ b ∈ ch, FpOk X pins H b) (hT : s.heap.objs.size ≤ T) (hz : xs.length ≤ sizeLine) (r : Vals xs us) (ht : IsTup h' T us.toArray) :
    Inv X pins σ (upd H T (.tup xs)) { s with heap := h', toks := t' } := by
  have fT : H T = none := I.hok.fresh hT
  have off : ∀ b u, H b = some u → b ∉ ch := fun b u e z => by have := (hc b z).1; rw [this] at e; cases e
  have neT : ∀ b u, H b = some u → b ≠ T := fun b u e => ne_of_none e fT
  refine I.step (g' := s.gens) (d' := s.drawn) (ch := ch) (fun b hb => ⟨(hc b hb).2.2.2.1, (hc b hb).2.1, (hc b hb).2.2.2.2.1, (hc b hb).2.2.2.2.2⟩) (fun b o _ _ n e _ => k b o n e) (fun b o _ _ n e _ => ⟨o.slots, k b o n e⟩)
    (fun b o n e z => ?_) (fun b o n e => ⟨o, k b o n e⟩) (fun b ys e => ?_) (fun b o u e => ?_) (fun b ps e => ⟨#[], ?_⟩) (fun m hm => ?_) (fun b u e => ?_) I.bare
  · rw [upd_ne (Nat.ne_of_lt (Nat.lt_of_lt_of_le (Heap.lt_size e) hT))]; exact z
  · rw [upd_ne (neT b _ e)]; exact e
  · rw [upd_ne (neT b _ e)]; exact e
  · rw [upd_ne (neT b _ e), e]; simp
  · obtain ⟨o, es, ep, ho, q⟩ := hm
    exact ⟨o, es, ep, k _ o (fun z => (hc _ z).2.1 rfl) ho, q⟩
  · by_cases hb : b = T
    · subst hb; rw [upd_same] at e; cases e; exact ⟨hz, us, r, ht⟩
    · rw [upd_ne hb] at e
      refine (I.hok b u e).stay (fun c v z q => k c v ?_ q) (fun c q => by rw [upd_ne (neT c _ q)]; exact q) fun c ys q => by rw [upd_ne (neT c _ q)]; exact q
      rcases z with rfl | z
      · exact off _ u e
      · exact off c _ z
end
noncomputable def Itz (K : PySem.W.Frag) (a b : Addr) : It :=
  ⟨fun i H => ∃ xs ys x y, SqL K H a xs ∧ SqL K H b ys ∧ xs[i]? = some x ∧ ys[i]? = some y,
   fun i H v H' => ∃ p x y, H p = none ∧ H' = upd H p (.tup [x, y]) ∧ v = .ref p ∧ (∀ xs, SqL K H a xs → xs[i]? = some x) ∧ ∀ ys, SqL K H b ys → ys[i]? = some y,
   fun i H => ∃ xs ys, SqL K H a xs ∧ SqL K H b ys ∧ (xs.length ≤ i ∨ ys.length ≤ i)⟩
structure ZipAt (z p q i1 i2 a b : Addr) (i : Nat) (h : Heap) : Prop where
  z0 : IsZip h z p q .none
  p0 : IsPair h p (.ref i1) (.ref i2)
  q0 : ∃ u v, IsPair h q u v
  a0 : h.IsListIter i1 a i
  b0 : h.IsListIter i2 b i
theorem turn_zip {P : Program} {w : World} {K : PySem.W.Frag} {es : List Expr} {n : Nat} {tp : Pos} (z p q i1 i2 a b : Addr) (D : ZipApart z p q i1 i2 a b) : Turn P w K (.Tuple es n tp) (Itz K a b) [z, p, q, i1, i2] z (ZipAt z p q i1 i2 a b) where
  mem := by simp
  obj := fun i h st c hc => by
    simp only [List.mem_cons, List.not_mem_nil, or_false] at hc
    rcases hc with rfl | rfl | rfl | rfl | rfl
    · exact ⟨_, st.z0, fun v e => by cases e⟩
    · exact ⟨_, st.p0, fun v e => by cases e⟩
    · obtain ⟨u, v, e⟩ := st.q0
      exact ⟨_, e, fun v e => by cases e⟩
    · obtain ⟨o, e, _, d⟩ := st.a0
      exact ⟨o, e, fun v x => by rw [d] at x; cases x⟩
    · obtain ⟨o, e, _, d⟩ := st.b0
      exact ⟨o, e, fun v x => by rw [d] at x; cases x⟩
  keep := fun i h h' st k => ⟨k z (by simp) _ st.z0, k p (by simp) _ st.p0, by
    obtain ⟨u, v, e⟩ := st.q0
    exact ⟨u, v, k q (by simp) _ e⟩, st.a0.at fun o e => k i1 (by simp) o e, st.b0.at fun o e => k i2 (by simp) o e⟩
  item := by
    intro X hP hw hK hc i pins s σ H E I hf st hg
    subst hP hw hK
    obtain ⟨xs, ys, x, y, hx, hy, ex, ey⟩ := hg
    obtain ⟨ia, ra, pa, _⟩ := I.list hx
    obtain ⟨ib, rb, pb, _⟩ := I.list hy
    obtain ⟨u, hu, ru⟩ := ra.get ex
    obtain ⟨v, hv, rv⟩ := rb.get ey
    obtain ⟨c1, c2, hq⟩ := st.q0
    refine wpAny_pyNext_zip_item D st.z0 st.p0 hq st.a0 st.b0 pa.isList pb.isList (x := u) (y := v) (by simpa using hu) (by simpa using hv) fun h1 e1 e2 e3 e4 e5 e6 k1 => ⟨_, rfl, ?_⟩
    refine wpAny_letOwnedTupleGo_zip (s := { s with heap := h1 }) e1 fun h2 f1 f2 => ?_
    have hT : s.heap.objs.size ≠ z := Nat.ne_of_gt (Heap.lt_size st.z0)
    have tup : IsTup h2 s.heap.objs.size #[u, v] := ⟨_, f2.extBut _ _ hT e5, rfl, _, rfl⟩
    have kk : ∀ c o, c ∉ [z, q, i1, i2] → s.heap.get? c = some o → h2.get? c = some o := fun c o n e => by
      simp only [List.mem_cons, List.not_mem_nil, or_false, not_or] at n
      exact f2.extBut _ _ n.1 (k1 c o n.1 n.2.1 n.2.2.1 n.2.2.2 e)
    have fp : ∀ c ∈ [z, q, i1, i2], FpOk X pins H c := fun c hc => hf c (by
      simp only [List.mem_cons, List.not_mem_nil, or_false] at hc ⊢
      rcases hc with h | h | h | h <;> simp [h])
    have I2 : Inv X pins σ (upd H s.heap.objs.size (.tup [x, y])) { s with heap := h2, toks := s.toks } := I.pair (us := [u, v]) kk fp (Nat.le_refl _) (show 2 ≤ sizeLine by decide) (.cons ru (.cons rv .nil)) tup
    refine ⟨.ref s.heap.objs.size, _, I2, rfl, ⟨_, x, y, I.hok.fresh (Nat.le_refl _), rfl, rfl, fun xs' h => by rw [I.list_inj h hx]; exact ex, fun ys' h => by rw [I.list_inj h hy]; exact ey⟩, ⟨f1, f2.extBut _ _ D.TIz (k1 _ _ D.TIz D.TITO D.TIi1 D.TIi2 st.p0), ⟨_, _, f2.extBut _ _ D.TOz e2⟩, e3.extBut f2.extBut D.i1z, e4.extBut f2.extBut D.i2z⟩, fun c hc => ?_⟩
    rw [upd_ne]
    · exact (hf c hc).1
    · intro z0
      simp only [List.mem_cons, List.not_mem_nil, or_false] at hc
      have lt : ∀ {c o}, s.heap.get? c = some o → c ≠ s.heap.objs.size := fun e => Nat.ne_of_lt (Heap.lt_size e)
      obtain ⟨o1, g1, _⟩ := st.a0
      obtain ⟨o2, g2, _⟩ := st.b0
      rcases hc with rfl | rfl | rfl | rfl | rfl
      · exact lt st.z0 z0
      · exact lt st.p0 z0
      · exact lt hq z0
      · exact lt g1 z0
      · exact lt g2 z0
  done := by
    intro X hP hw hK hc i pins s σ H E I hf st hg
    subst hP hw hK
    obtain ⟨xs, ys, hx, hy, hl⟩ := hg
    obtain ⟨ia, ra, pa, _⟩ := I.list hx
    obtain ⟨ib, rb, pb, _⟩ := I.list hy
    obtain ⟨c1, c2, hq⟩ := st.q0
    have la := ra.length
    have lb := rb.length
    refine wpAny_pyNext_zip_end (I.ok.hd hc) D st.z0 st.p0 hq st.a0 st.b0 pa.isList pb.isList ?_ fun h1 k1 => ⟨rfl, I.turns (t' := s.toks) (ch := [z, q, i1, i2]) (fun c o n e => ?_) fun c hc => hf c ?_⟩
    · rcases hl with h | h
      · exact .inl (Array.getElem?_eq_none (by simp; omega))
      · exact .inr (Array.getElem?_eq_none (by simp; omega))
    · simp only [List.mem_cons, List.not_mem_nil, or_false, not_or] at n
      exact k1 c o n.1 n.2.1 n.2.2.1 n.2.2.2 e
    · simp only [List.mem_cons, List.not_mem_nil, or_false] at hc ⊢
      rcases hc with h | h | h | h <;> simp [h]
  self := fun _ _ _ _ _ st h => wpAny_pyIter_zip st.z0 h
section
variable {X : Cx} {tg : Expr}
noncomputable def iZip (K : PySem.W.Frag) (ta : TA) : TI := fun σ H R => ta σ H fun vs H1 => ∃ a b, vs = [.ref a, .ref b] ∧ (∃ xs, SqL K H1 a xs) ∧ (∃ ys, SqL K H1 b ys) ∧ R (Itz K a b) H1
theorem pi_zip {a b : Expr} {ta : TA} {es : List Expr} {n : Nat} {tp p pos : Pos} (hg : Gl X "zip") (hm : X.mg "zip" = none) (ha : PA X [a, b] ta) (hs : starEach [a, b] X.env = [(false, eval a X.env), (false, eval b X.env)] := by rfl) (hs2 : starEach [b] X.env = [(false, eval b X.env)] := by rfl) :
    PI X (.Tuple es n tp) (.Call (.Name "zip" p) [a, b] [] pos) (iZip X.K ta) := by
  intro pins s σ H R I h
  refine Call_ (ld_blt I hg hm boot_zip (callWith_type1 (thn (ha pos pins s σ H _ I h) fun us s1 ⟨vs, H1, I1, r1, q1⟩ => ?_) (by rw [hs, hs2]) (by rw [hs2]; rfl)))
  obtain ⟨l, m, e, ⟨xs, hx⟩, ⟨ys, hy⟩, q⟩ := q1
  subst e
  cases r1 with
  | cons r rr =>
    cases rr with
    | cons r' rr =>
      cases rr
      cases r
      cases r'
      obtain ⟨ia, ra, pa, _⟩ := I1.list hx
      obtain ⟨ib, rb, pb, _⟩ := I1.list hy
      refine call_zip_2 pa.isList pb.isList fun h1 z1 z2 z3 z4 z5 sz kk => wpAny_pyIter_zip (s := { s1 with heap := h1 }) z1 ?_
      have la : l < s1.heap.objs.size := by obtain ⟨o, n, e, _⟩ := pa; exact Heap.lt_size e
      have lb : m < s1.heap.objs.size := by obtain ⟨o, n, e, _⟩ := pb; exact Heap.lt_size e
      have ge : ∀ c ∈ [s1.heap.objs.size + 4, s1.heap.objs.size + 2, s1.heap.objs.size + 3, s1.heap.objs.size, s1.heap.objs.size + 1], s1.heap.objs.size ≤ c := fun c hc => by
        simp only [List.mem_cons, List.not_mem_nil, or_false] at hc
        rcases hc with rfl | rfl | rfl | rfl | rfl <;> omega
      refine ⟨_, _, _, _, H1, rfl, I1.kept (t' := s1.toks) kk, turn_zip _ _ _ _ _ l m ?_, ⟨z1, z2, ⟨_, _, z3⟩, z4, z5⟩, fun c hc => I1.fpOk (ge c hc) (I1.hok.fresh (ge c hc)), q⟩
      have la : @LT.lt Nat instLTNat l s1.heap.objs.size := la
      have lb : @LT.lt Nat instLTNat m s1.heap.objs.size := lb
      constructor <;> (refine fun h => ?_; have h : @Eq Nat _ _ := h; omega)
end
noncomputable def zipD (as bs : List D) : List D := List.zipWith (fun a b => PyData.tuple [a, b]) as bs
theorem rep_two {K : PySem.W.Frag} {F : Hp} {p : Addr} {x y : V} {d e : D} (h : F p = some (.tup [x, y])) (rx : Rep K F d x) (ry : Rep K F e y) : Rep K F (.tuple [d, e]) (.ref p) := by
  unfold Rep
  refine ⟨p, _, rfl, SqT.of h, ?_⟩
  unfold RepAll
  refine ⟨_, _, rfl, rx, ?_⟩
  unfold RepAll
  refine ⟨_, _, rfl, ry, ?_⟩
  unfold RepAll
  rfl
theorem its_zip {K : PySem.W.Frag} {F : Hp} {a b : Addr} {xs ys : List V} {ds es : List D} (hx : SqL K F a xs) (hy : SqL K F b ys) (rx : RepAll K F ds xs) (ry : RepAll K F es ys) : ItS K F (Itz K a b) (zipD ds es) where
  go := fun i H s hi => by
    have hi : i < min ds.length es.length := by simpa [zipD] using hi
    have l1 := rx.len
    have l2 := ry.len
    exact ⟨xs, ys, xs[i]'(by omega), ys[i]'(by omega), s.seq hx, s.seq hy, List.getElem?_eq_getElem _, List.getElem?_eq_getElem _⟩
  yld := fun i H v H' d s y e => by
    obtain ⟨p, x, y, hp, rfl, rfl, q1, q2⟩ := y
    have hi := (List.getElem?_eq_some_iff.mp e).1
    have hi : i < min ds.length es.length := by simpa [zipD] using hi
    have e1 : ds[i]? = some ds[i] := List.getElem?_eq_getElem (by omega)
    have e2 : es[i]? = some es[i] := List.getElem?_eq_getElem (by omega)
    have ee : (zipD ds es)[i]? = some (.tuple [ds[i], es[i]]) := by unfold zipD; rw [List.getElem?_zipWith, e1, e2]
    rw [ee] at e
    cases e
    obtain ⟨x', f1, g1⟩ := rx.get e1
    obtain ⟨y', f2, g2⟩ := ry.get e2
    have := q1 xs (s.seq hx)
    rw [f1] at this; cases this
    have := q2 ys (s.seq hy)
    rw [f2] at this; cases this
    refine .inr ⟨p, _, hp, rfl, fun F2 s2 n => rep_two upd_same ?_ ?_⟩
    · exact (s2.trans' (same_new n _)).rep _ _ g1
    · exact (s2.trans' (same_new n _)).rep _ _ g2
  stop := fun H s => ⟨xs, ys, s.seq hx, s.seq hy, by
    have l1 := rx.len
    have l2 := ry.len
    simp only [zipD, List.length_zipWith]
    omega⟩
noncomputable def dZip (f g : M D) : M (List D) := fun δ => (dVals [f, g] δ).bind fun ds δ1 => match ds with
  | [.list as, .list bs] => .ok (zipD as bs) δ1
  | _ => .stuck
section
variable {X : Cx} {Z : Ent} {ow : List Nat} {a b : Expr} {f g : M D}
theorem di_zip {es : List Expr} {n : Nat} {tp p2 p3 : Pos} (hgl : Gl X "zip") (hm : X.mg "zip" = none) (ha : DE X Z ow 0 a f) (hb : DE X Z ow 0 b g) (hst : starEach [a, b] X.env = (false, eval a X.env) :: starEach [b] X.env := by rfl) (hst2 : starEach [b] X.env = (false, eval b X.env) :: starEach [] X.env := by rfl) :
    DI X Z ow (.Tuple es n tp) (.Call (.Name "zip" p2) [a, b] [] p3) (dZip f g) :=
  (pi_zip hgl hm (dv_cons ha (dv_cons hb dv_nil hst2) hst) (hst.trans (by rw [hst2]; rfl)) hst2).mono fun σ H R q => by
    obtain ⟨F, δ, Rl, q⟩ := q
    unfold dZip at q
    refine ⟨F, δ, Rl, ?_⟩
    cases e1 : dVals [f, g] δ with
    | stuck => rw [e1] at q; exact q.elim
    | err x δ1 => rw [e1] at q; exact q
    | ok ds δ1 =>
      rw [e1] at q
      simp only [Res.bind] at q
      intro vs H1 F1 R1 s1 ra
      split at q
      · rename_i as bs
        unfold RepAll at ra
        obtain ⟨x, t, rfl, rx, ra⟩ := ra
        unfold RepAll at ra
        obtain ⟨y, t, rfl, ry, ra⟩ := ra
        unfold RepAll at ra
        subst ra
        obtain ⟨l, xs, rfl, hx, rx⟩ := repL rx
        obtain ⟨m, ys, rfl, hy, ry⟩ := repL ry
        exact ⟨l, m, rfl, ⟨xs, R1.sub.seq hx⟩, ⟨ys, R1.sub.seq hy⟩, q _ H1 F1 R1 s1 (its_zip hx hy rx ry)⟩
      · exact q.elim
end
end L2
namespace L2
open PySem PySem.Spec PyProof.Rows
noncomputable def Ite (K : PySem.W.Frag) (a : Addr) : It :=
  ⟨fun i H => ∃ xs x, SqL K H a xs ∧ xs[i]? = some x,
   fun i H v H' => ∃ p x, H p = none ∧ H' = upd H p (.tup [.int i, x]) ∧ v = .ref p ∧ ∀ xs, SqL K H a xs → xs[i]? = some x,
   fun i H => ∃ xs, SqL K H a xs ∧ xs.length ≤ i⟩
structure EnumAt (e it a : Addr) (i : Nat) (h : Heap) : Prop where
  e0 : ∃ old, IsEnum h e it (i : Int) old
  a0 : h.IsListIter it a i
theorem turn_enum {P : Program} {w : World} {K : PySem.W.Frag} {es : List Expr} {n : Nat} {tp : Pos} (e it a : Addr) (hne : e ≠ it) : Turn P w K (.Tuple es n tp) (Ite K a) [e, it] e (EnumAt e it a) where
  mem := by simp
  obj := fun i h st c hc => by
    simp only [List.mem_cons, List.not_mem_nil, or_false] at hc
    rcases hc with rfl | rfl
    · obtain ⟨o, x⟩ := st.e0
      exact ⟨_, x, fun v e => by cases e⟩
    · obtain ⟨o, e, _, d⟩ := st.a0
      exact ⟨o, e, fun v x => by rw [d] at x; cases x⟩
  keep := fun i h h' st k => ⟨by
    obtain ⟨o, x⟩ := st.e0
    exact ⟨o, k e (by simp) _ x⟩, st.a0.at fun o x => k it (by simp) o x⟩
  item := by
    intro X hP hw hK hc i pins s σ H E I hf st hg
    subst hP hw hK
    obtain ⟨xs, x, hx, ex⟩ := hg
    obtain ⟨ia, ra, pa, _⟩ := I.list hx
    obtain ⟨u, hu, ru⟩ := ra.get ex
    obtain ⟨old, he⟩ := st.e0
    refine wpAny_pyNext_enum_item he st.a0 pa.isList (x := u) (by simpa using hu) hne fun h1 e1 e2 e3 e4 k1 => ⟨_, rfl, ?_⟩
    refine wpAny_letOwnedTupleGo_enum (s := { s with heap := h1, toks := s.toks + 1 }) e1 fun h2 f1 f2 => ?_
    have hT : s.heap.objs.size ≠ e := Nat.ne_of_gt (Heap.lt_size he)
    have tup : IsTup h2 s.heap.objs.size #[.int i s.toks, u] := ⟨_, f2.extBut _ _ hT e3, rfl, _, rfl⟩
    have kk : ∀ c o, c ∉ [e, it] → s.heap.get? c = some o → h2.get? c = some o := fun c o n x => by
      simp only [List.mem_cons, List.not_mem_nil, or_false, not_or] at n
      exact f2.extBut _ _ n.1 (k1 c o n.1 n.2 x)
    have I2 : Inv X pins σ (upd H s.heap.objs.size (.tup [.int i, x])) { s with heap := h2, toks := s.toks + 1 } := I.pair (us := [.int i s.toks, u]) kk hf (Nat.le_refl _) (show 2 ≤ sizeLine by decide) (.cons ⟨_, rfl⟩ (.cons ru .nil)) tup
    refine ⟨.ref s.heap.objs.size, _, I2, rfl, ⟨_, x, I.hok.fresh (Nat.le_refl _), rfl, rfl, fun xs' h => by rw [I.list_inj h hx]; exact ex⟩, ⟨⟨_, by simpa using f1⟩, e2.extBut f2.extBut hne.symm⟩, fun c hc => ?_⟩
    rw [upd_ne]
    · exact (hf c hc).1
    · intro z0
      simp only [List.mem_cons, List.not_mem_nil, or_false] at hc
      have lt : ∀ {c o}, s.heap.get? c = some o → c ≠ s.heap.objs.size := fun e => Nat.ne_of_lt (Heap.lt_size e)
      obtain ⟨o1, g1, _⟩ := st.a0
      rcases hc with rfl | rfl
      · exact lt he z0
      · exact lt g1 z0
  done := by
    intro X hP hw hK hc i pins s σ H E I hf st hg
    subst hP hw hK
    obtain ⟨xs, hx, hl⟩ := hg
    obtain ⟨ia, ra, pa, _⟩ := I.list hx
    obtain ⟨old, he⟩ := st.e0
    have la := ra.length
    refine wpAny_pyNext_enum_end (I.ok.hd hc) he st.a0 pa.isList (Array.getElem?_eq_none (by simp; omega)) fun h1 k1 => ⟨rfl, I.turns (t' := s.toks) (ch := [e, it]) (fun c o n x => ?_) hf⟩
    simp only [List.mem_cons, List.not_mem_nil, or_false, not_or] at n
    exact k1 c o n.2 x
  self := fun _ _ _ _ _ st h => by
    obtain ⟨old, he⟩ := st.e0
    exact wpAny_pyIter_enum he h
section
variable {X : Cx} {tg : Expr}
noncomputable def iEnum (K : PySem.W.Frag) (ta : TA) : TI := fun σ H R => ta σ H fun vs H1 => ∃ a, vs = [.ref a] ∧ (∃ xs, SqL K H1 a xs) ∧ R (Ite K a) H1
theorem pi_enum {a : Expr} {ta : TA} {es : List Expr} {n : Nat} {tp p pos : Pos} (hg : Gl X "enumerate") (hm : X.mg "enumerate" = none) (ha : PA X [a] ta) (hs : starEach [a] X.env = [(false, eval a X.env)] := by rfl) :
    PI X (.Tuple es n tp) (.Call (.Name "enumerate" p) [a] [] pos) (iEnum X.K ta) := by
  intro pins s σ H R I h
  refine Call_ (ld_blt I hg hm boot_enumerate (callWith_type1 (thn (ha pos pins s σ H _ I h) fun us s1 ⟨vs, H1, I1, r1, q1⟩ => ?_) hs rfl))
  obtain ⟨l, e, ⟨xs, hx⟩, q⟩ := q1
  subst e
  cases r1 with
  | cons r rr =>
    cases rr
    cases r
    obtain ⟨ia, ra, pa, _⟩ := I1.list hx
    refine call_enumerate_list pa.isList fun h1 z1 z2 sz kk => wpAny_pyIter_enum (s := { s1 with heap := h1 }) z1 ?_
    have ge : ∀ c ∈ [s1.heap.objs.size + 1, s1.heap.objs.size], s1.heap.objs.size ≤ c := fun c hc => by
      simp only [List.mem_cons, List.not_mem_nil, or_false] at hc
      rcases hc with rfl | rfl <;> omega
    exact ⟨_, _, _, _, H1, rfl, I1.kept (t' := s1.toks) kk, turn_enum _ _ l (show ¬ (s1.heap.objs.size + 1 = s1.heap.objs.size) by omega), ⟨⟨_, z1⟩, z2⟩, fun c hc => I1.fpOk (ge c hc) (I1.hok.fresh (ge c hc)), q⟩
end
noncomputable def enumD (ds : List D) : List D := ds.mapIdx fun i d => PyData.tuple [.int i, d]
theorem its_enum {K : PySem.W.Frag} {F : Hp} {a : Addr} {xs : List V} {ds : List D} (hx : SqL K F a xs) (rx : RepAll K F ds xs) : ItS K F (Ite K a) (enumD ds) where
  go := fun i H s hi => by
    have hi : i < ds.length := by simpa [enumD] using hi
    have l1 := rx.len
    exact ⟨xs, xs[i]'(by omega), s.seq hx, List.getElem?_eq_getElem _⟩
  yld := fun i H v H' d s y e => by
    obtain ⟨p, x, hp, rfl, rfl, q1⟩ := y
    have hi := (List.getElem?_eq_some_iff.mp e).1
    have hi : i < ds.length := by simpa [enumD] using hi
    have e1 : ds[i]? = some ds[i] := List.getElem?_eq_getElem hi
    have ee : (enumD ds)[i]? = some (.tuple [.int i, ds[i]]) := by unfold enumD; rw [List.getElem?_mapIdx, e1]; rfl
    rw [ee] at e
    cases e
    obtain ⟨x', f1, g1⟩ := rx.get e1
    have := q1 xs (s.seq hx)
    rw [f1] at this; cases this
    exact .inr ⟨p, _, hp, rfl, fun F2 s2 n => rep_two upd_same mkInt ((s2.trans' (same_new n _)).rep _ _ g1)⟩
  stop := fun H s => ⟨xs, s.seq hx, by
    have l1 := rx.len
    simp only [enumD, List.length_mapIdx]
    omega⟩
noncomputable def dEnum (f : M D) : M (List D) := fun δ => (dVals [f] δ).bind fun ds δ1 => match ds with
  | [.list as] => .ok (enumD as) δ1
  | _ => .stuck
section
variable {X : Cx} {Z : Ent} {ow : List Nat} {n : Nat} {pos : Pos} {a b : Expr} {f g : M D} {K : PySem.W.Frag} {F : Hp}
theorem di_enum {es : List Expr} {n : Nat} {tp p2 p3 : Pos} (hgl : Gl X "enumerate") (hm : X.mg "enumerate" = none) (ha : DE X Z ow 0 a f) (hst : starEach [a] X.env = (false, eval a X.env) :: starEach [] X.env := by rfl) :
    DI X Z ow (.Tuple es n tp) (.Call (.Name "enumerate" p2) [a] [] p3) (dEnum f) :=
  (pi_enum hgl hm (dv_cons ha dv_nil hst) hst).mono fun σ H R q => by
    obtain ⟨F, δ, Rl, q⟩ := q
    unfold dEnum at q
    refine ⟨F, δ, Rl, ?_⟩
    cases e1 : dVals [f] δ with
    | stuck => rw [e1] at q; exact q.elim
    | err x δ1 => rw [e1] at q; exact q
    | ok ds δ1 =>
      rw [e1] at q
      simp only [Res.bind] at q
      intro vs H1 F1 R1 s1 ra
      split at q
      · rename_i as
        unfold RepAll at ra
        obtain ⟨x, t, rfl, rx, ra⟩ := ra
        unfold RepAll at ra
        subst ra
        obtain ⟨l, xs, rfl, hx, rx⟩ := repL rx
        exact ⟨l, rfl, ⟨xs, R1.sub.seq hx⟩, q _ H1 F1 R1 s1 (its_enum hx rx)⟩
      · exact q.elim
theorem de_gpair {x : Str} {i j : Int} (hg : Gl X x) (hm : ∃ a o t u n, X.mg x = some (.ref a) ∧ X.K.lookup a = some o ∧ o.cls = .type "tuple" ∧ o.data = .seq #[.int i t, .int j u] n) (hd : (x == ("__debug__" : Str)) = false := by decide) : DE X Z ow 0 (.Name x pos) (dC (.tuple [.int i, .int j])) := by
  obtain ⟨a, o, t, u, n, hm, hk, hc, hs⟩ := hm
  exact de_const (pe_glob hg hm (v := .ref a) rfl hd) fun F => by
    unfold Rep
    refine ⟨a, [.int i, .int j], rfl, .inr ⟨o, _, n, hk, hc, hs, (show 2 ≤ sizeLine by decide), .cons ⟨t, rfl⟩ (.cons ⟨u, rfl⟩ .nil)⟩, ?_⟩
    unfold RepAll
    refine ⟨_, _, rfl, mkInt, ?_⟩
    unfold RepAll
    refine ⟨_, _, rfl, mkInt, ?_⟩
    unfold RepAll
    rfl
end
section
variable {X : Cx} {Z : Ent} {ow : List Nat} {pos : Pos} {a b : Expr} {f g : M D}
theorem list_mulG (l : Addr) (items : Array Value) (n : Nat) (sl : Array (Option Value)) (x : Int) (u : Tok) (hc0 : ¬(!Builtin.List.listFitsIndex x) = true) (hc1 : ¬items.size * x.toNat > (2 ^ 63 - 1) / 8) (hc2 : ¬Builtin.List.listTooLong (items.size * x.toNat) = true) :
    Meets (Builtin.«list.__mul__» ⟨[.ref l, .int x u], []⟩) (fun _ R s => s.heap.get? l = some ⟨.type "list", none, .seq items n, sl⟩ ∧
      R (.ok (.ret (Value.ref s.heap.objs.size))) { s with heap := s.heap.push { cls := Value.type "list", data := Data.seq (List.foldl (fun x1 x2 => x1 ++ x2) #[] (List.replicate (if items.isEmpty = true then 0 else x.toNat) items)) }, toks := s.toks }) :=
  .of_wp fun prog w A R s h => by
    obtain ⟨hp, g, d, tk, os⟩ := s
    obtain ⟨hl, h⟩ := h
    have hsz := PySem.AutoListH.joined_fits hc2
    wp_walk using PySem.AutoSeq1.wpAny_loadPart' hl
    refine wpAny_ite_false (decide_eq_false (Nat.not_lt.mpr hsz)) ?_
    wp_walk using PySem.AutoSeq1.wpAny_loadPart' hl
    exact ⟨_, rfl, h⟩
theorem int_rmulG (a : Int) (t : Tok) (l : Addr) (items : Array Value) (n : Nat) (sl : Array (Option Value)) :
    Meets (Builtin.«int.__rmul__» ⟨[.int a t, .ref l], []⟩) (fun _ R s => s.heap.get? l = some ⟨.type "list", none, .seq items n, sl⟩ ∧ R (.ok (.ret Value.notImplemented)) s) :=
  .of_wp fun prog w A R s h => by
    obtain ⟨hp, g, d, tk, os⟩ := s
    obtain ⟨hl, h⟩ := h
    wp_walk using PySem.AutoSeq1.wpAny_loadPart' hl
    exact ⟨_, rfl, h⟩
noncomputable def manyL {α : Type} (n : Nat) (xs : List α) : List α := (List.replicate n xs).flatten
theorem many_fold {items : List Value} {n : Nat} : List.foldl (fun x1 x2 => x1 ++ x2) #[] (List.replicate (if items.toArray.isEmpty = true then 0 else n) items.toArray) = (manyL n items).toArray := by
  have gen : ∀ (n : Nat) (acc : Array Value), List.foldl (fun x1 x2 => x1 ++ x2) acc (List.replicate n items.toArray) = acc ++ (manyL n items).toArray := by
    intro n
    induction n with
    | zero => intro acc; simp [manyL]
    | succ n ih =>
      intro acc
      rw [List.replicate_succ, List.foldl_cons, ih]
      simp [manyL, List.replicate_succ]
  split
  · rename_i h
    have : items = [] := by simpa using h
    subst this
    simp [manyL]
  · rw [gen]; simp
theorem Vals.many {xs : List V} {us : List Value} (r : Vals xs us) : ∀ n, Vals (manyL n xs) (manyL n us)
  | 0 => .nil
  | n + 1 => by
    have := r.append (Vals.many r n)
    simpa [manyL, List.replicate_succ] using this
theorem many_len {α : Type} {n : Nat} {xs : List α} : (manyL n xs).length = n * xs.length := by simp [manyL]
noncomputable def rMany (K : PySem.W.Frag) : R2 := fun x y H Q => ∃ l n xs, x = .ref l ∧ y = .int n ∧ SqL K H l xs ∧ n < 2 ^ 62 ∧ -(2 ^ 62) ≤ n ∧ n.toNat * xs.length ≤ sizeLine ∧ ∀ p, H p = none → Q (.ref p) (upd H p (.lst (manyL n.toNat xs)))
theorem op_many : OpR X (binaryOp .Mult) (rMany X.K) := by
  intro pins s σ H x y v u Q I rx ry h
  obtain ⟨l, n, xs, rfl, rfl, hH, h1, h2, hz, q⟩ := h
  cases rx
  obtain ⟨t, rfl⟩ := ry
  obtain ⟨its, r, ⟨o, m, e, c, dn, dd⟩, z⟩ := I.list hH
  obtain ⟨oc, od, oda, osl⟩ := o
  cases c
  cases dn
  cases dd
  have hl := r.length
  have hz' : its.toArray.size * n.toNat ≤ sizeLine := by rw [List.size_toArray, ← hl, Nat.mul_comm]; exact hz
  have hz2 : sizeLine = 2 ^ 24 := rfl
  refine wpAny_binaryOp_repeat_ref (T := "list") (U := "int") (by decide) ⟨_, e, rfl⟩ (fun s' => typeIs_int s' n t) noFill_list_mul F.fills_int_mul F.slot_int_rmul repeat_list F.slot_int_index.lookup
    (call_meets F.slot_int_rmul (typeIs_int s n t) F.entry_int_rmul (F.args_int_rmul_2 _ _) (int_rmulG n t l its.toArray m osl)
      ⟨e, rfl, ⟨_, e, rfl⟩, call_meets F.slot_list_mul ⟨_, e, rfl⟩ F.entry_list_mul (F.args_list_mul_2 _ _) (list_mulG l its.toArray m osl n t (by simp [Builtin.List.listFitsIndex]; omega) (by omega) (by simp [Builtin.List.listTooLong, sizeLine]; simp at hz'; omega)) ⟨e, ?_⟩⟩)
  rw [many_fold]
  exact ⟨.ref _, _, I.lnew (t' := s.toks) (r.many n.toNat) (by rw [many_len]; exact hz), rfl, q _ I.fresh⟩
noncomputable def manyD : D → D → Option D
  | .list ds, .int n => open Classical in if n < 2 ^ 62 ∧ -(2 ^ 62) ≤ n ∧ n.toNat * ds.length ≤ sizeLine then some (.list (manyL n.toNat ds)) else none
  | _, _ => none
theorem RepAll.many {K : PySem.W.Frag} {F : Hp} {ds : List D} {xs : List V} (r : RepAll K F ds xs) : ∀ n, RepAll K F (manyL n ds) (manyL n xs)
  | 0 => repNil
  | n + 1 => by
    have := r.app (RepAll.many r n)
    simpa [manyL, List.replicate_succ] using this
theorem os_many : OpS X (rMany X.K) 1 manyD := fun Z ow F H σ δ a b x y d Q S R ra rb e q => by
  unfold manyD at e
  split at e
  · rename_i i j
    split at e
    · rename_i hc
      cases e
      obtain ⟨p, xs, rfl, hp, ha⟩ := repL ra
      exact ⟨p, j, xs, rfl, repInt rb, R.sub.seq hp, hc.1, hc.2.1, by rw [← ha.len]; exact hc.2.2, fun t ht => q _ _ F (R.newList S ht (ha.many _)) (Same.refl _)⟩
    · cases e
  · cases e
theorem de_many (S : Small Z ow) (ha : DE X Z ow 0 a f) (hb : DE X Z ow 0 b g) : DE X Z ow 1 (.BinOp a .Mult b pos) (dOp manyD f g) := de_op S op_many os_many ha hb
end
end L2
namespace L2
open PySem PySem.Spec PyProof.Rows
section
variable {X : Cx}
end
end L2
namespace L2
open PySem PySem.Spec PyProof.Rows
section
variable {prog : Program} {w : World} {A : Around} {E : Value → Shared → Prop} {s : Shared}
end
section
variable {prog : Program} {w : World} {A : Around} {E : Value → Shared → Prop} {s : Shared}
end
structure ZipAt2 (z p q i1 i2 a b : Addr) (i : Nat) (h : Heap) : Prop where
  z0 : IsZip h z p q .none
  p0 : IsPair h p (.ref i1) (.ref i2)
  q0 : ∃ u v, IsPair h q u v
  a0 : h.IsListIter i1 a i
  b0 : h.IsTupleIter i2 b i
section
variable {X : Cx} {tg : Expr}
end
section
variable {X : Cx} {Z : Ent} {ow : List Nat} {a b : Expr} {f g : M D}
end
end L2
namespace L2
open PySem PySem.Spec
noncomputable def opK (o : Option D) (δ : DS) (Q : D → DS → Prop) (_w : Wt Q := ⟨⟩) : Prop := ∃ r, o = some r ∧ Q r δ
noncomputable def varK (o : Option (Option D)) (δ : DS) (Q : D → DS → Prop) (_w : Wt Q := ⟨⟩) : Prop := ∃ d, o = some (some d) ∧ Q d δ
noncomputable def stp (i : Nat) (d : D) (δ : DS) (N : DS → Prop) (_w : Wt N := ⟨⟩) : Prop := i < δ.length ∧ N (δ.set i (some d))
noncomputable def boolK (d : D) (δ : DS) (Q : Bool → DS → Prop) (_w : Wt Q := ⟨⟩) : Prop := ∃ b, d = .bool b ∧ Q b δ
noncomputable def setK (o : Option DS) (N : DS → Prop) (_w : Wt N := ⟨⟩) : Prop := ∃ δ, o = some δ ∧ N δ
noncomputable def fillK (o : Option (List D)) (fn : List D → Res D) (is : List Nat) (δ : DS) (Q : D → DS → Prop) (_w : Wt Q := ⟨⟩) : Prop := ∃ ds r os, o = some ds ∧ fn ds = .ok r os ∧ Q r (putOuts is (os.filterMap id) δ)
noncomputable def resK (r : Res D) (is : List Nat) (δ : DS) (Q : D → DS → Prop) (_w : Wt Q := ⟨⟩) : Prop := ∃ d os, r = .ok d os ∧ Q d (putOuts is (os.filterMap id) δ)
noncomputable def mutK (o : Option (Option D)) (i : Nat) (op : List D → List D → Option (D × List D)) (args : List D) (δ : DS) (Q : D → DS → Prop) (_w : Wt Q := ⟨⟩) : Prop := ∃ ds ret ds', o = some (some (.list ds)) ∧ op ds args = some (ret, ds') ∧ Q ret (δ.set i (some (.list ds')))
noncomputable def mopK (o : Option (D × List D)) (i : Nat) (δ : DS) (Q : D → DS → Prop) (_w : Wt Q := ⟨⟩) : Prop := ∃ ret ds', o = some (ret, ds') ∧ Q ret (δ.set i (some (.list ds')))
noncomputable def putK (o : Option (Option D)) (k v : D) (i : Nat) (δ : DS) (N : DS → Prop) (_w : Wt N := ⟨⟩) : Prop := ∃ ds n j, o = some (some (.list ds)) ∧ k = .int n ∧ ixN ds.length n = some j ∧ N (δ.set i (some (.list (ds.set j v))))
noncomputable def ptK (o : Option Nat) (ds : List D) (v : D) (i : Nat) (δ : DS) (N : DS → Prop) (_w : Wt N := ⟨⟩) : Prop := ∃ j, o = some j ∧ N (δ.set i (some (.list (ds.set j v))))
section
variable {m : M Fl} {α : Type} {f : M α} {δ δ' : DS} {N B C : DS → Prop} {R : D → DS → Prop} {Q : D → DS → Prop}
theorem k_op {r : D} : opK (some r) δ Q = Q r δ := by unfold opK; simp
theorem k_var {d : D} : varK (some (some d)) δ Q = Q d δ := by unfold varK; simp
theorem k_bool {b : Bool} {Q : Bool → DS → Prop} : boolK (.bool b) δ Q = Q b δ := by unfold boolK; simp
theorem k_set : setK (some δ) N = N δ := by unfold setK; simp
theorem k_fill {fn : List D → Res D} {is : List Nat} {ds : List D} : fillK (some ds) fn is δ Q = resK (fn ds) is δ Q := by unfold fillK resK; simp
theorem k_res0 {d : D} {os : DS} : resK (.ok d os) [] δ Q = Q d δ := by unfold resK; simp [putOuts]
theorem k_res1 {d e : D} {i : Nat} : resK (.ok d [some e]) [i] δ Q = Q d (δ.set i (some e)) := propext ⟨fun ⟨_, _, h, q⟩ => by cases h; exact q, fun q => ⟨_, _, rfl, q⟩⟩
theorem k_mut {i : Nat} {op : List D → List D → Option (D × List D)} {args ds : List D} : mutK (some (some (.list ds))) i op args δ Q = mopK (op ds args) i δ Q := by unfold mutK mopK; simp
theorem k_mop {i : Nat} {r : D} {ds : List D} : mopK (some (r, ds)) i δ Q = Q r (δ.set i (some (.list ds))) := propext ⟨fun ⟨_, _, h, q⟩ => by cases h; exact q, fun q => ⟨_, _, rfl, q⟩⟩
theorem k_put {ds : List D} {n : Int} {v : D} {i : Nat} : putK (some (some (.list ds))) (.int n) v i δ N = ptK (ixN ds.length n) ds v i δ N := by unfold putK ptK; simp
theorem k_pt {ds : List D} {j : Nat} {v : D} {i : Nat} : ptK (some j) ds v i δ N = N (δ.set i (some (.list (ds.set j v)))) := by unfold ptK; simp
theorem k_mul {i j : Int} : opK (mulD (.int i) (.int j)) δ Q = (IntMulOk i j ∧ Q (.int (i * j)) δ) := by
  refine propext ⟨fun ⟨r, h, p⟩ => ?_, fun ⟨h, p⟩ => ⟨_, mulD_ok h, p⟩⟩
  unfold mulD iD at h
  dsimp only at h
  split at h
  · rename_i hc; cases h; exact ⟨hc, p⟩
  · cases h
theorem k_app {ds : List D} {d : D} {i : Nat} : mopK (appD ds [d]) i δ Q = (ds.length < sizeLine ∧ Q .none (δ.set i (some (.list (ds ++ [d]))))) := by
  refine propext ⟨fun ⟨r, d2, h, p⟩ => ?_, fun ⟨h, p⟩ => ⟨_, _, if_pos h, p⟩⟩
  unfold appD at h
  dsimp only at h
  split at h
  · rename_i hc; cases h; exact ⟨hc, p⟩
  · cases h
theorem k_cat {a b : List D} : opK (addD (.list a) (.list b)) δ Q = (a.length + b.length ≤ sizeLine ∧ Q (.list (a ++ b)) δ) := by
  have e : addD (.list a) (.list b) = if a.length + b.length ≤ sizeLine then some (.list (a ++ b)) else none := rfl
  rw [e]
  unfold opK
  split
  · rename_i h; simp [h]
  · rename_i h; simp [h]
theorem k_stp0 {a0 : Option D} {d : D} : stp 0 d (a0 :: δ) N = N (some d :: δ) := by unfold stp; simp
theorem k_stp1 {a0 a1 : Option D} {d : D} : stp 1 d (a0 :: a1 :: δ) N = N (a0 :: some d :: δ) := by unfold stp; simp
theorem k_stp2 {a0 a1 a2 : Option D} {d : D} : stp 2 d (a0 :: a1 :: a2 :: δ) N = N (a0 :: a1 :: some d :: δ) := by unfold stp; simp
theorem k_stp3 {a0 a1 a2 a3 : Option D} {d : D} : stp 3 d (a0 :: a1 :: a2 :: a3 :: δ) N = N (a0 :: a1 :: a2 :: some d :: δ) := by unfold stp; simp
theorem k_stp4 {a0 a1 a2 a3 a4 : Option D} {d : D} : stp 4 d (a0 :: a1 :: a2 :: a3 :: a4 :: δ) N = N (a0 :: a1 :: a2 :: a3 :: some d :: δ) := by unfold stp; simp
theorem k_stp5 {a0 a1 a2 a3 a4 a5 : Option D} {d : D} : stp 5 d (a0 :: a1 :: a2 :: a3 :: a4 :: a5 :: δ) N = N (a0 :: a1 :: a2 :: a3 :: a4 :: some d :: δ) := by unfold stp; simp
theorem k_stp6 {a0 a1 a2 a3 a4 a5 a6 : Option D} {d : D} : stp 6 d (a0 :: a1 :: a2 :: a3 :: a4 :: a5 :: a6 :: δ) N = N (a0 :: a1 :: a2 :: a3 :: a4 :: a5 :: some d :: δ) := by unfold stp; simp
theorem k_stp7 {a0 a1 a2 a3 a4 a5 a6 a7 : Option D} {d : D} : stp 7 d (a0 :: a1 :: a2 :: a3 :: a4 :: a5 :: a6 :: a7 :: δ) N = N (a0 :: a1 :: a2 :: a3 :: a4 :: a5 :: a6 :: some d :: δ) := by unfold stp; simp
theorem k_stp8 {a0 a1 a2 a3 a4 a5 a6 a7 a8 : Option D} {d : D} : stp 8 d (a0 :: a1 :: a2 :: a3 :: a4 :: a5 :: a6 :: a7 :: a8 :: δ) N = N (a0 :: a1 :: a2 :: a3 :: a4 :: a5 :: a6 :: a7 :: some d :: δ) := by unfold stp; simp
theorem k_stp9 {a0 a1 a2 a3 a4 a5 a6 a7 a8 a9 : Option D} {d : D} : stp 9 d (a0 :: a1 :: a2 :: a3 :: a4 :: a5 :: a6 :: a7 :: a8 :: a9 :: δ) N = N (a0 :: a1 :: a2 :: a3 :: a4 :: a5 :: a6 :: a7 :: a8 :: some d :: δ) := by unfold stp; simp
theorem k_stp10 {a0 a1 a2 a3 a4 a5 a6 a7 a8 a9 a10 : Option D} {d : D} : stp 10 d (a0 :: a1 :: a2 :: a3 :: a4 :: a5 :: a6 :: a7 :: a8 :: a9 :: a10 :: δ) N = N (a0 :: a1 :: a2 :: a3 :: a4 :: a5 :: a6 :: a7 :: a8 :: a9 :: some d :: δ) := by unfold stp; simp
theorem k_stp11 {a0 a1 a2 a3 a4 a5 a6 a7 a8 a9 a10 a11 : Option D} {d : D} : stp 11 d (a0 :: a1 :: a2 :: a3 :: a4 :: a5 :: a6 :: a7 :: a8 :: a9 :: a10 :: a11 :: δ) N = N (a0 :: a1 :: a2 :: a3 :: a4 :: a5 :: a6 :: a7 :: a8 :: a9 :: a10 :: some d :: δ) := by unfold stp; simp
theorem k_stp12 {a0 a1 a2 a3 a4 a5 a6 a7 a8 a9 a10 a11 a12 : Option D} {d : D} : stp 12 d (a0 :: a1 :: a2 :: a3 :: a4 :: a5 :: a6 :: a7 :: a8 :: a9 :: a10 :: a11 :: a12 :: δ) N = N (a0 :: a1 :: a2 :: a3 :: a4 :: a5 :: a6 :: a7 :: a8 :: a9 :: a10 :: a11 :: some d :: δ) := by unfold stp; simp
theorem k_stp13 {a0 a1 a2 a3 a4 a5 a6 a7 a8 a9 a10 a11 a12 a13 : Option D} {d : D} : stp 13 d (a0 :: a1 :: a2 :: a3 :: a4 :: a5 :: a6 :: a7 :: a8 :: a9 :: a10 :: a11 :: a12 :: a13 :: δ) N = N (a0 :: a1 :: a2 :: a3 :: a4 :: a5 :: a6 :: a7 :: a8 :: a9 :: a10 :: a11 :: a12 :: some d :: δ) := by unfold stp; simp
theorem k_stp14 {a0 a1 a2 a3 a4 a5 a6 a7 a8 a9 a10 a11 a12 a13 a14 : Option D} {d : D} : stp 14 d (a0 :: a1 :: a2 :: a3 :: a4 :: a5 :: a6 :: a7 :: a8 :: a9 :: a10 :: a11 :: a12 :: a13 :: a14 :: δ) N = N (a0 :: a1 :: a2 :: a3 :: a4 :: a5 :: a6 :: a7 :: a8 :: a9 :: a10 :: a11 :: a12 :: a13 :: some d :: δ) := by unfold stp; simp
theorem k_stp15 {a0 a1 a2 a3 a4 a5 a6 a7 a8 a9 a10 a11 a12 a13 a14 a15 : Option D} {d : D} : stp 15 d (a0 :: a1 :: a2 :: a3 :: a4 :: a5 :: a6 :: a7 :: a8 :: a9 :: a10 :: a11 :: a12 :: a13 :: a14 :: a15 :: δ) N = N (a0 :: a1 :: a2 :: a3 :: a4 :: a5 :: a6 :: a7 :: a8 :: a9 :: a10 :: a11 :: a12 :: a13 :: a14 :: some d :: δ) := by unfold stp; simp
end
section
variable {α : Type} {u v : M Fl} {f g : M D} {c c' : M Bool} {δ : DS} {N B C : DS → Prop} {R : D → DS → Prop} {Q : D → DS → Prop} {P : D → Prop} {i : Nat}
theorem v_seq : wpM (dSeq u v) δ N B C R = wpM u δ (fun δ1 => wpM v δ1 N B C R) B C R := by
  refine propext ⟨fun h => ?_, wm_seq⟩
  unfold wpM dSeq at *
  cases e : u δ with
  | stuck => rw [e] at h; exact h
  | err x d => rw [e] at h; exact h
  | ok fl d => rw [e] at h; cases fl <;> exact h
theorem v_next : wpM dNext δ N B C R = N δ := rfl
theorem v_brk : wpM (fun δ => .ok .brk δ) δ N B C R = B δ := rfl
theorem v_cont : wpM (fun δ => .ok .cont δ) δ N B C R = C δ := rfl
theorem v_set : wpM (dSet i f) δ N B C R = wpV f δ fun d δ1 => stp i d δ1 N := by
  refine propext ⟨fun h => ?_, wm_set⟩
  unfold wpM dSet at h
  unfold wpV
  cases e : f δ with
  | stuck => rw [e] at h; exact h
  | err x d => rw [e] at h; exact h
  | ok a d =>
    rw [e] at h
    simp only [Res.bind] at h
    split at h
    · rename_i z
      split at z
      · rename_i hi; cases z; exact ⟨hi, h⟩
      · cases z
    · rename_i z; split at z <;> cases z
    · rename_i z; split at z <;> cases z
    · rename_i z; split at z <;> cases z
    · exact h.elim
theorem v_ret : wpM (dRet f) δ N B C R = wpV f δ R := by
  unfold wpM dRet wpV
  cases f δ <;> rfl
theorem v_drop : wpM (dDrop f) δ N B C R = wpV f δ fun _ δ1 => N δ1 := by
  unfold wpM dDrop wpV
  cases f δ <;> rfl
theorem v_if : wpM (dIfS c u v) δ N B C R = wpV c δ fun b δ1 => if b = true then wpM u δ1 N B C R else wpM v δ1 N B C R := by
  refine propext ⟨fun h => ?_, wm_if⟩
  unfold wpM dIfS at h
  unfold wpV
  cases e : c δ with
  | stuck => rw [e] at h; exact h
  | err x d => rw [e] at h; exact h
  | ok b d =>
    rw [e] at h
    cases b
    · exact h
    · exact h
theorem v_asg {set : D → DS → Option DS} : wpM (dAsg set f) δ N B C R = wpV f δ fun d δ1 => setK (set d δ1) N := by
  unfold wpM dAsg wpV setK
  cases f δ with
  | stuck => rfl
  | err x d => rfl
  | ok a d =>
    simp only [Res.bind]
    cases set a d <;> simp
theorem v_var : wpV (dVar i) δ Q = varK δ[i]? δ Q := by
  unfold wpV dVar varK
  cases δ[i]? with
  | none => simp
  | some o => cases o <;> simp
theorem v_c {d : D} : wpV (dC d) δ Q = Q d δ := rfl
theorem v_op {op : D → D → Option D} : wpV (dOp op f g) δ Q = wpV f δ fun a δ1 => wpV g δ1 fun b δ2 => opK (op a b) δ2 Q := by
  unfold wpV dOp opK
  cases f δ with
  | stuck => rfl
  | err x d => rfl
  | ok a d =>
    simp only [Res.bind]
    cases g d with
    | stuck => rfl
    | err x d => rfl
    | ok b d => dsimp only; cases op a b <;> simp
theorem v_un {op : D → Option D} : wpV (dUn op f) δ Q = wpV f δ fun a δ1 => opK (op a) δ1 Q := by
  unfold wpV dUn opK
  cases f δ with
  | stuck => rfl
  | err x d => rfl
  | ok a d => simp only [Res.bind]; cases op a <;> simp
theorem v_vals0 {Q : List D → DS → Prop} : wpV (dVals []) δ Q = Q [] δ := rfl
theorem v_vals {fs : List (M D)} {Q : List D → DS → Prop} : wpV (dVals (f :: fs)) δ Q = wpV f δ fun a δ1 => wpV (dVals fs) δ1 fun ds δ2 => Q (a :: ds) δ2 := by
  unfold wpV
  rw [dVals]
  dsimp only
  cases f δ with
  | stuck => rfl
  | err x d => rfl
  | ok a d =>
    simp only [Res.bind]
    cases dVals fs d <;> rfl
theorem v_fn {op : List D → Option D} {fs : List (M D)} : wpV (dFn op fs) δ Q = wpV (dVals fs) δ fun ds δ1 => opK (op ds) δ1 Q := by
  unfold wpV dFn opK
  cases dVals fs δ with
  | stuck => rfl
  | err x d => rfl
  | ok a d => simp only [Res.bind]; cases op a <;> simp
theorem v_tup {fs : List (M D)} : wpV (dTup fs) δ Q = wpV (dVals fs) δ fun ds δ1 => ds.length ≤ sizeLine ∧ Q (.tuple ds) δ1 := by
  unfold wpV dTup
  cases dVals fs δ with
  | stuck => rfl
  | err x d => rfl
  | ok a d =>
    simp only [Res.bind]
    split
    · rename_i z; split at z
      · rename_i h; cases z; simp [h]
      · cases z
    · rename_i z
      split at z
      · rename_i h
        exact absurd rfl (z _ _)
      · rename_i h; simp [h]
theorem v_lst {fs : List (M D)} : wpV (dLst fs) δ Q = wpV (dVals fs) δ fun ds δ1 => ds.length ≤ sizeLine ∧ Q (.list ds) δ1 := by
  unfold wpV dLst
  cases dVals fs δ with
  | stuck => rfl
  | err x d => rfl
  | ok a d =>
    simp only [Res.bind]
    split
    · rename_i z; split at z
      · rename_i h; cases z; simp [h]
      · cases z
    · rename_i z
      split at z
      · rename_i h
        exact absurd rfl (z _ _)
      · rename_i h; simp [h]
theorem v_b {Q : Bool → DS → Prop} : wpV (dB f) δ Q = wpV f δ fun a δ1 => boolK a δ1 Q := by
  unfold wpV dB boolK
  cases f δ with
  | stuck => rfl
  | err x d => rfl
  | ok a d => cases a <;> simp [Res.bind]
theorem v_notT {Q : Bool → DS → Prop} : wpV (dNotT c) δ Q = wpV c δ fun b δ1 => Q (!b) δ1 := by
  unfold wpV dNotT
  cases c δ <;> rfl
theorem v_notV : wpV (dNotV f) δ Q = wpV f δ fun a δ1 => boolK a δ1 fun b δ2 => Q (.bool (!b)) δ2 := by
  unfold wpV dNotV boolK
  cases f δ with
  | stuck => rfl
  | err x d => rfl
  | ok a d => cases a <;> simp [Res.bind]
theorem v_orT {Q : Bool → DS → Prop} : wpV (dOrT c c') δ Q = wpV c δ fun b δ1 => if b = true then Q true δ1 else wpV c' δ1 Q := by
  unfold wpV dOrT
  cases c δ with
  | stuck => rfl
  | err x d => rfl
  | ok b d => cases b <;> rfl
theorem v_andT {Q : Bool → DS → Prop} : wpV (dAndT c c') δ Q = wpV c δ fun b δ1 => if b = true then wpV c' δ1 Q else Q false δ1 := by
  unfold wpV dAndT
  cases c δ with
  | stuck => rfl
  | err x d => rfl
  | ok b d => cases b <;> rfl
theorem v_andV : wpV (dAndV f g) δ Q = wpV f δ fun a δ1 => boolK a δ1 fun b δ1 => if b = true then wpV g δ1 Q else Q (.bool false) δ1 := by
  unfold wpV dAndV boolK
  cases f δ with
  | stuck => rfl
  | err x d => rfl
  | ok a d =>
    cases a with
    | bool b => cases b <;> simp [Res.bind]
    | _ => simp [Res.bind]
theorem v_orV : wpV (dOrV f g) δ Q = wpV f δ fun a δ1 => boolK a δ1 fun b δ1 => if b = true then Q (.bool true) δ1 else wpV g δ1 Q := by
  unfold wpV dOrV boolK
  cases f δ with
  | stuck => rfl
  | err x d => rfl
  | ok a d =>
    cases a with
    | bool b => cases b <;> simp [Res.bind]
    | _ => simp [Res.bind]
theorem v_call {fn : List D → Res D} {as : List Arg} : wpV (dCall fn as) δ Q = wpV (dArgs as) δ fun ods δ1 => fillK (fillA δ1 as ods) fn (ownSlots as) δ1 Q := by
  unfold wpV dCall fillK
  cases dArgs as δ with
  | stuck => rfl
  | err x d => rfl
  | ok ods d =>
    simp only [Res.bind]
    cases e : fillA d as ods with
    | none => simp
    | some ds =>
      dsimp only
      cases e2 : fn ds with
      | stuck => simp [e2]
      | err x o => simp [e2]
      | ok r o =>
        dsimp only
        refine propext ⟨fun h => ⟨ds, r, o, rfl, e2, h⟩, fun ⟨ds', r', o', h1, h2, h3⟩ => ?_⟩
        cases h1
        rw [e2] at h2
        cases h2
        exact h3
theorem v_args0 {Q : List (Option D) → DS → Prop} : wpV (dArgs []) δ Q = Q [] δ := rfl
theorem v_argsV {as : List Arg} {Q : List (Option D) → DS → Prop} : wpV (dArgs (.val f :: as)) δ Q = wpV f δ fun a δ1 => wpV (dArgs as) δ1 fun ds δ2 => Q (some a :: ds) δ2 := by
  unfold wpV
  rw [dArgs]
  dsimp only
  cases f δ with
  | stuck => rfl
  | err x d => rfl
  | ok a d => simp only [Res.bind]; cases dArgs as d <;> rfl
theorem v_argsO {as : List Arg} {j : Nat} {Q : List (Option D) → DS → Prop} : wpV (dArgs (.own j :: as)) δ Q = varK δ[j]? δ fun _ δ => wpV (dArgs as) δ fun ds δ2 => Q (none :: ds) δ2 := by
  unfold wpV varK
  rw [dArgs]
  dsimp only
  cases δ[j]? with
  | none => simp
  | some o =>
    cases o with
    | none => simp
    | some d =>
      simp only [Option.some.injEq, exists_eq_left']
      cases dArgs as δ <;> rfl
theorem v_mut {op : List D → List D → Option (D × List D)} {fs : List (M D)} : wpV (dMut i op fs) δ Q = varK δ[i]? δ fun _ _ => wpV (dVals fs) δ fun args δ1 => mutK δ1[i]? i op args δ1 Q := by
  unfold wpV dMut mutK varK
  cases δ[i]? with
  | none => simp
  | some o =>
    cases o with
    | none => simp
    | some d =>
      simp only [Option.some.injEq, exists_eq_left']
      cases dVals fs δ with
      | stuck => rfl
      | err x d => rfl
      | ok args δ1 =>
        simp only [Res.bind]
        cases δ1[i]? with
        | none => simp
        | some o =>
          cases o with
          | none => simp
          | some d =>
            cases d with
            | list ds =>
              dsimp only
              cases e : op ds args with
              | none =>
                refine propext ⟨fun h => h.elim, fun ⟨ds0, r0, d0, h1, h2, h3⟩ => ?_⟩
                cases h1
                rw [e] at h2; cases h2
              | some p =>
                obtain ⟨r, d2⟩ := p
                refine propext ⟨fun h => ⟨_, _, _, rfl, e, h⟩, fun ⟨ds0, r0, d0, h1, h2, h3⟩ => ?_⟩
                cases h1
                rw [e] at h2; cases h2
                exact h3
            | _ => simp
theorem v_ixo {fk : M D} : wpV (dIxO i fk) δ Q = varK δ[i]? δ fun _ _ => wpV fk δ fun k δ1 => varK δ1[i]? δ1 fun d δ1 => opK (ixD d k) δ1 Q := by
  unfold wpV dIxO varK opK
  cases δ[i]? with
  | none => simp
  | some o =>
    cases o with
    | none => simp
    | some d =>
      simp only [Option.some.injEq, exists_eq_left']
      cases fk δ with
      | stuck => rfl
      | err x d => rfl
      | ok k δ1 =>
        simp only [Res.bind]
        cases δ1[i]? with
        | none => simp
        | some o =>
          cases o with
          | none => simp
          | some d =>
            simp only [Option.some.injEq, exists_eq_left']
            cases e : ixD d k <;> simp
theorem v_put {fk fv : M D} : wpM (dPut i fk fv) δ N B C R = wpV fv δ fun v δ1 => varK δ1[i]? δ1 fun _ δ1 => wpV fk δ1 fun k δ2 => putK δ2[i]? k v i δ2 N := by
  unfold wpM dPut wpV varK putK
  cases fv δ with
  | stuck => rfl
  | err x d => rfl
  | ok w δ1 =>
    simp only [Res.bind]
    cases δ1[i]? with
    | none => simp
    | some o =>
      cases o with
      | none => simp
      | some d =>
        simp only [Option.some.injEq, exists_eq_left']
        cases fk δ1 with
        | stuck => rfl
        | err x d => rfl
        | ok k δ2 =>
          dsimp only
          cases δ2[i]? with
          | none => simp
          | some o =>
            cases o with
            | none => simp
            | some d =>
              cases d with
              | list ds =>
                cases k with
                | int n =>
                  dsimp only
                  cases e : ixN ds.length n with
                  | none =>
                    refine propext ⟨fun h => h.elim, fun ⟨ds0, n0, j0, h1, h2, h3, h4⟩ => ?_⟩
                    cases h1
                    cases h2
                    rw [e] at h3; cases h3
                  | some j =>
                    refine propext ⟨fun h => ⟨_, _, _, rfl, rfl, e, h⟩, fun ⟨ds0, n0, j0, h1, h2, h3, h4⟩ => ?_⟩
                    cases h1
                    cases h2
                    rw [e] at h3; cases h3
                    exact h4
                | _ => simp
              | _ => simp
theorem v_leno : wpV (dLenO i) δ Q = varK δ[i]? δ fun d δ => opK (lenD [d]) δ Q := by
  unfold wpV dLenO varK opK
  cases δ[i]? with
  | none => simp
  | some o =>
    cases o with
    | none => simp
    | some d =>
      simp only [Option.some.injEq, exists_eq_left']
      cases e : lenD [d] <;> simp
theorem v_ifx : wpV (dIf c f g) δ Q = wpV c δ fun b δ1 => if b = true then wpV f δ1 Q else wpV g δ1 Q := by
  unfold wpV dIf
  cases c δ with
  | stuck => rfl
  | err x d => rfl
  | ok b d => cases b <;> rfl
theorem o_add {i j : Int} : addD (.int i) (.int j) = some (.int (i + j)) := rfl
theorem o_sub {i j : Int} : subD (.int i) (.int j) = some (.int (i - j)) := rfl
theorem o_neg {i : Int} : negD (.int i) = some (.int (-i)) := rfl
theorem o_lt {i j : Int} : ltD (.int i) (.int j) = some (.bool (decide (i < j))) := rfl
theorem o_le {i j : Int} : leD (.int i) (.int j) = some (.bool (decide (i ≤ j))) := rfl
theorem o_gt {i j : Int} : gtD (.int i) (.int j) = some (.bool (decide (j < i))) := rfl
theorem o_ge {i j : Int} : geD (.int i) (.int j) = some (.bool (decide (j ≤ i))) := rfl
theorem o_eq {i j : Int} : eqD (.int i) (.int j) = some (.bool (decide (i = j))) := by rw [eqD_int]; congr 2
theorem o_ne {i j : Int} : neD (.int i) (.int j) = some (.bool (decide (i ≠ j))) := by
  rw [neD_int]; congr 2; rw [Bool.eq_iff_iff]; simp
theorem o_neb {i j : Bool} : neD (.bool i) (.bool j) = some (.bool (decide (i ≠ j))) := by
  rw [neD_bool]; congr 2; cases i <;> cases j <;> rfl
theorem o_mod {i j : Int} (h : 0 < j) : modD (.int i) (.int j) = some (.int (i % j)) := modD_pos h
theorem o_fdiv {i j : Int} (h : 0 < j) (h2 : j < 4611686018427387904) : fdivD (.int i) (.int j) = some (.int (i / j)) := by
  refine fdivD_pos h ?_
  exact Fit.log2 (n := 62) (by show j.natAbs < 2 ^ 62; omega)
theorem o_fdivF {i j : Int} (h : 0 < j) (h2 : Fit 9000 j) : fdivD (.int i) (.int j) = some (.int (i / j)) := fdivD_pos h (Fit.log2 h2)
theorem o_abs {i : Int} : absD [.int i] = some (.int (i.natAbs : Int)) := by
  show some (PyData.int (if i < 0 then -i else i)) = _
  congr 2
  split <;> omega
theorem o_lenL {ds : List D} : lenD [.list ds] = some (.int ds.length) := rfl
theorem o_lenT {ds : List D} : lenD [.tuple ds] = some (.int ds.length) := rfl
theorem o_ixL {ds : List D} {i : Int} : ixD (.list ds) (.int i) = atI ds i := rfl
theorem o_ixT {ds : List D} {i : Int} : ixD (.tuple ds) (.int i) = atI ds i := rfl
theorem o_at0 {α : Type} {a : α} {as : List α} : atI (a :: as) 0 = some a := atI_nat (j := 0) rfl
theorem o_at1 {α : Type} {a b : α} {as : List α} : atI (a :: b :: as) 1 = some b := atI_nat (j := 1) rfl
theorem o_at2 {α : Type} {a b c : α} {as : List α} : atI (a :: b :: c :: as) 2 = some c := atI_nat (j := 2) rfl
theorem o_at3 {α : Type} {a b c d : α} {as : List α} : atI (a :: b :: c :: d :: as) 3 = some d := atI_nat (j := 3) rfl
theorem o_at4 {α : Type} {a b c d e : α} {as : List α} : atI (a :: b :: c :: d :: e :: as) 4 = some e := atI_nat (j := 4) rfl
theorem o_at5 {α : Type} {a b c d e f : α} {as : List α} : atI (a :: b :: c :: d :: e :: f :: as) 5 = some f := atI_nat (j := 5) rfl
theorem o_at6 {α : Type} {a b c d e f g : α} {as : List α} : atI (a :: b :: c :: d :: e :: f :: g :: as) 6 = some g := atI_nat (j := 6) rfl
end
end L2
namespace L2
open PySem PySem.Spec
theorem o_small {n : Nat} (h : n ≤ 1000) : (n ≤ sizeLine) = True := eq_true (Nat.le_trans h (by decide))
theorem o_bi {b : Bool} : isiD .bool (.bool b) = some (.bool true) := rfl
theorem ok_of_wp {f : M D} {δ : DS} {d : D} (h : wpV f δ fun a δ1 => a = d ∧ δ1 = δ) : f δ = .ok d δ := by
  obtain ⟨a, δ1, e, rfl, rfl⟩ := h.ex
  exact e
theorem comp_rng {f e : M D} {δ : DS} {n : Int} {g : Nat → D} (hf : f δ = .ok (.int n) δ) (h0 : 0 ≤ n) (h1 : n < 2 ^ 20) (he : ∀ k : Nat, (k : Int) < n → wpV e (some (.int k) :: δ) fun a δ1 => a = g k ∧ δ1 = some (.int k) :: δ) : dComp 1 (setN 0) (dRng [f]) dTrue e δ = .ok (.list ((List.range n.toNat).map g)) δ := by
  have hr : dRng [f] δ = .ok (rngD 0 n.toNat) δ := by
    simp only [dRng, dVals, hf, bind_ok, rng2]
    rw [if_pos ⟨by omega, by omega⟩]
  have := dComp_map (e := e) (g := fun d => match d with | .int i => g i.toNat | _ => .none) hr (fun d hd => by
    obtain ⟨k, hk, rfl⟩ := List.mem_map.mp hd
    have hk := List.mem_range.mp hk
    have := ok_of_wp (he k (by omega))
    rw [Int.zero_add]
    exact this) (by rw [rngD_len]; show n.toNat ≤ 2 ^ 24; omega)
  rw [this, rngD]
  simp
theorem wm_rngI {set : D → DS → Option DS} {u : M Fl} {f : M D} {δ δ1 : DS} {N B C : DS → Prop} {R : D → DS → Prop} {j : Int} (I : Nat → DS → Prop) (hf : f δ = .ok (.int j) δ1) (hj : -1000 ≤ j) (hj2 : j ≤ 1000) (h0 : I 0 δ1) (hs : ∀ (k : Nat) (δ : DS), (k : Int) < j → I k δ → ∃ δ1, set (.int k) δ = some δ1 ∧ wpM u δ1 (I (k + 1)) N (I (k + 1)) R) (hN : ∀ δ, I j.toNat δ → N δ) : wpM (dForI set (dRng [f]) u) δ N B C R :=
  wm_range I hf (by omega) (by omega) h0 hs hN
theorem wm_rng {set : D → DS → Option DS} {u : M Fl} {f : M D} {δ δ1 : DS} {N B C : DS → Prop} {R : D → DS → Prop} {j : Nat} (I : Nat → DS → Prop) (hf : f δ = .ok (.int (j : Int)) δ1) (hj : j ≤ 1000) (h0 : I 0 δ1) (hs : ∀ (k : Nat) (δ : DS), k < j → I k δ → ∃ δ1, set (.int k) δ = some δ1 ∧ wpM u δ1 (I (k + 1)) N (I (k + 1)) R) (hN : ∀ δ, I j δ → N δ) : wpM (dForI set (dRng [f]) u) δ N B C R :=
  wm_rngI I hf (by omega) (by omega) h0 (fun k δ hk => hs k δ (by omega)) fun δ h => hN δ (by rwa [Int.toNat_natCast] at h)
theorem fn_ex {m0 : Nat} {rm : Nat} {body : M Fl} {ds : List D} {P : D → Prop} (h : wpM body (ds.map some ++ List.replicate (m0 - ds.length) none) (fun _ => False) (fun _ => False) (fun _ => False) fun r _ => P r) : ∃ r, runFn m0 [] rm body ds = .ok r [] ∧ P r := by
  obtain ⟨fl, δ1, e, q⟩ := h.ex
  cases fl with
  | ret r => exact ⟨r, by unfold runFn; rw [e]; rfl, q⟩
  | next => exact q.elim
  | brk => exact q.elim
  | cont => exact q.elim
end L2
namespace L2
open PySem
theorem z_map {α β : Type} {f : α → β} {a : α} : (some a).map f = some (f a) := rfl
theorem z_fm {α β : Type} {f : α → Option β} : List.filterMap f [] = [] := rfl
theorem z_gs {α : Type} {a : α} {l : List α} {i : Nat} : (a :: l)[i + 1]? = l[i]? := by simp
theorem z_g0 {α : Type} {a : α} {l : List α} : (a :: l)[0]? = some a := by simp
theorem z_inj {α : Type} {a b : α} : (some a = some b) = (a = b) := by simp
theorem z_ex {α : Type} {p : α → Prop} {a : α} : (∃ x, a = x ∧ p x) = p a := by simp
theorem z_lc {α : Type} {a : α} {l : List α} : (a :: l).length = l.length + 1 := rfl
theorem z_ln {α : Type} : ([] : List α).length = 0 := rfl
theorem z_ss {α : Type} {a x : α} {l : List α} {i : Nat} : (a :: l).set (i + 1) x = a :: l.set i x := rfl
theorem z_s0 {α : Type} {a x : α} {l : List α} : (a :: l).set 0 x = x :: l := rfl
theorem z_it {a b : Prop} : (if True then a else b) = a := by simp
theorem z_if {a b : Prop} : (if False then a else b) = b := by simp
theorem vcs : type_of% (And.intro @v_seq <| And.intro @v_next <| And.intro @v_brk <| And.intro @v_cont <| And.intro @v_set <| And.intro @v_ret <| And.intro @v_drop <| And.intro @v_if <| And.intro @v_asg <| And.intro @v_var <| And.intro @v_c <| And.intro @v_op <| And.intro @v_un <| And.intro @v_vals0 <| And.intro @v_vals <| And.intro @v_fn <| And.intro @v_tup <| And.intro @v_lst <| And.intro @v_b <| And.intro @v_notT <| And.intro @v_notV <| And.intro @v_orT <| And.intro @v_andT <| And.intro @v_andV <| And.intro @v_orV <| And.intro @v_call <| And.intro @v_args0 <| And.intro @v_argsV <| And.intro @v_argsO <| And.intro @v_mut <| And.intro @v_ixo <| And.intro @v_put <| And.intro @v_leno <| And.intro @v_ifx <| And.intro @o_add <| And.intro @o_sub <| And.intro @o_neg <| And.intro @o_lt <| And.intro @o_le <| And.intro @o_gt <| And.intro @o_ge <| And.intro @o_eq <| And.intro @o_ne <| And.intro @o_neb <| And.intro @o_abs <| And.intro @o_lenL <| And.intro @o_lenT <| And.intro @o_ixL <| And.intro @o_ixT <| And.intro @o_at0 <| And.intro @o_at1 <| And.intro @o_at2 <| And.intro @o_at3 <| And.intro @o_at4 <| And.intro @o_at5 <| And.intro @o_at6 <| And.intro @o_bi <| And.intro @o_small <| And.intro @k_op <| And.intro @k_var <| And.intro @k_bool <| And.intro @k_set <| And.intro @k_fill <| And.intro @k_res0 <| And.intro @k_res1 <| And.intro @k_mut <| And.intro @k_mop <| And.intro @k_put <| And.intro @k_pt <| And.intro @k_mul <| And.intro @k_app <| And.intro @k_cat <| And.intro @k_stp0 <| And.intro @k_stp1 <| And.intro @k_stp2 <| And.intro @k_stp3 <| And.intro @k_stp4 <| And.intro @k_stp5 <| And.intro @k_stp6 <| And.intro @k_stp7 <| And.intro @k_stp8 <| And.intro @k_stp9 <| And.intro @k_stp10 <| And.intro @k_stp11 <| And.intro @k_stp12 <| And.intro @k_stp13 <| And.intro @k_stp14 <| And.intro @k_stp15 <| And.intro @z_map <| And.intro @z_fm <| And.intro @z_gs <| And.intro @z_g0 <| And.intro @z_inj <| And.intro @z_ex <| And.intro @z_lc <| And.intro @z_ln <| And.intro @z_ss <| And.intro @z_s0 <| And.intro @Nat.zero_add <| And.intro @true_and <| And.intro @and_true <| And.intro @Res.ok.injEq <| And.intro @PySem.PyData.bool.injEq <| And.intro @PySem.PyData.int.injEq <| And.intro @PySem.PyData.list.injEq <| And.intro @PySem.PyData.tuple.injEq <| And.intro @Bool.not_true <| And.intro @Bool.not_false <| And.intro @Bool.false_eq_true <| And.intro @z_it <| @z_if) :=
  And.intro @v_seq <| And.intro @v_next <| And.intro @v_brk <| And.intro @v_cont <| And.intro @v_set <| And.intro @v_ret <| And.intro @v_drop <| And.intro @v_if <| And.intro @v_asg <| And.intro @v_var <| And.intro @v_c <| And.intro @v_op <| And.intro @v_un <| And.intro @v_vals0 <| And.intro @v_vals <| And.intro @v_fn <| And.intro @v_tup <| And.intro @v_lst <| And.intro @v_b <| And.intro @v_notT <| And.intro @v_notV <| And.intro @v_orT <| And.intro @v_andT <| And.intro @v_andV <| And.intro @v_orV <| And.intro @v_call <| And.intro @v_args0 <| And.intro @v_argsV <| And.intro @v_argsO <| And.intro @v_mut <| And.intro @v_ixo <| And.intro @v_put <| And.intro @v_leno <| And.intro @v_ifx <| And.intro @o_add <| And.intro @o_sub <| And.intro @o_neg <| And.intro @o_lt <| And.intro @o_le <| And.intro @o_gt <| And.intro @o_ge <| And.intro @o_eq <| And.intro @o_ne <| And.intro @o_neb <| And.intro @o_abs <| And.intro @o_lenL <| And.intro @o_lenT <| And.intro @o_ixL <| And.intro @o_ixT <| And.intro @o_at0 <| And.intro @o_at1 <| And.intro @o_at2 <| And.intro @o_at3 <| And.intro @o_at4 <| And.intro @o_at5 <| And.intro @o_at6 <| And.intro @o_bi <| And.intro @o_small <| And.intro @k_op <| And.intro @k_var <| And.intro @k_bool <| And.intro @k_set <| And.intro @k_fill <| And.intro @k_res0 <| And.intro @k_res1 <| And.intro @k_mut <| And.intro @k_mop <| And.intro @k_put <| And.intro @k_pt <| And.intro @k_mul <| And.intro @k_app <| And.intro @k_cat <| And.intro @k_stp0 <| And.intro @k_stp1 <| And.intro @k_stp2 <| And.intro @k_stp3 <| And.intro @k_stp4 <| And.intro @k_stp5 <| And.intro @k_stp6 <| And.intro @k_stp7 <| And.intro @k_stp8 <| And.intro @k_stp9 <| And.intro @k_stp10 <| And.intro @k_stp11 <| And.intro @k_stp12 <| And.intro @k_stp13 <| And.intro @k_stp14 <| And.intro @k_stp15 <| And.intro @z_map <| And.intro @z_fm <| And.intro @z_gs <| And.intro @z_g0 <| And.intro @z_inj <| And.intro @z_ex <| And.intro @z_lc <| And.intro @z_ln <| And.intro @z_ss <| And.intro @z_s0 <| And.intro @Nat.zero_add <| And.intro @true_and <| And.intro @and_true <| And.intro @Res.ok.injEq <| And.intro @PySem.PyData.bool.injEq <| And.intro @PySem.PyData.int.injEq <| And.intro @PySem.PyData.list.injEq <| And.intro @PySem.PyData.tuple.injEq <| And.intro @Bool.not_true <| And.intro @Bool.not_false <| And.intro @Bool.false_eq_true <| And.intro @z_it <| @z_if
end L2
namespace L2
open PySem PySem.Spec
structure Sh (k : Nat) (d : D) : Prop where
  lay : d.canLay0 = true
  dep : d.depth ≤ k
theorem sh_all {k : Nat} : ∀ {ds : List D}, (∀ d ∈ ds, Sh k d) → PyData.canLayAll0 ds = true ∧ PyData.depthAll ds ≤ k
  | [], _ => ⟨by simp [PyData.canLayAll0], by simp [PyData.depthAll]⟩
  | d :: ds, h => by
    obtain ⟨h1, h2⟩ := sh_all (ds := ds) fun x hx => h x (List.mem_cons_of_mem _ hx)
    have hd := h d List.mem_cons_self
    refine ⟨by simp [PyData.canLayAll0, hd.lay, h1], ?_⟩
    have := hd.dep
    simp only [PyData.depthAll]
    omega
theorem sh_int {i : Int} : Sh 1 (.int i) := ⟨by simp [PyData.canLay0], by simp [PyData.depth]⟩
theorem sh_list {k : Nat} {ds : List D} (h : ∀ d ∈ ds, Sh k d) : Sh (k + 1) (.list ds) := by
  obtain ⟨h1, h2⟩ := sh_all h
  exact ⟨by simpa [PyData.canLay0] using h1, by simp only [PyData.depth]; omega⟩
theorem sh_tup {k : Nat} {ds : List D} (h : ∀ d ∈ ds, Sh k d) : Sh (k + 1) (.tuple ds) := by
  obtain ⟨h1, h2⟩ := sh_all h
  exact ⟨by simpa [PyData.canLay0] using h1, by simp only [PyData.depth]; omega⟩
theorem Sh.mono {k n : Nat} {d : D} (h : Sh k d) (e : k ≤ n) : Sh n d := ⟨h.lay, Nat.le_trans h.dep e⟩
theorem Sh.shaped {k : Nat} {d : D} (h : Sh k d) (e : k ≤ 64) : SeqAt.shaped d = true := by
  unfold SeqAt.shaped
  rw [h.lay, decide_eq_true (Nat.le_trans h.dep e)]
  rfl
theorem ne_refl {k : Nat} {d : D} (h : Sh k d) (e : k ≤ 64) : neD d d = some (.bool false) := by
  unfold neD
  rw [if_pos ⟨h.shaped e, h.shaped e⟩, SeqAt.eqv_refl _ h.lay]
  rfl
theorem eq_refl {k : Nat} {d : D} (h : Sh k d) (e : k ≤ 64) : eqD d d = some (.bool true) := by
  unfold eqD
  rw [if_pos ⟨h.shaped e, h.shaped e⟩, SeqAt.eqv_refl _ h.lay]
theorem o_listL {ds : List D} : listD [.list ds] = some (.list ds) := rfl
theorem o_many {ds : List D} {n : Nat} (h : n * ds.length ≤ 1000) (h2 : n ≤ 1000) : manyD (.list ds) (.int (n : Int)) = some (.list (manyL n ds)) := by
  unfold manyD
  dsimp only
  rw [if_pos ⟨by omega, by omega, by rw [Int.toNat_natCast]; exact Nat.le_trans h (by decide)⟩, Int.toNat_natCast]
theorem many1 {α : Type} {a : α} : ∀ n, manyL n [a] = List.replicate n a
  | 0 => rfl
  | n + 1 => by
    have := many1 (a := a) n
    simp only [manyL, List.replicate_succ, List.flatten_cons, List.cons_append, List.nil_append] at this ⊢
    rw [this]
theorem cut_from {ds : List D} {k : Nat} (h : k ≤ ds.length) : cutL (.list ds) (some (k : Int)) none = some (.list (ds.drop k)) := by
  show some (PyData.list (cutD ds (some (k : Int)) none)) = _
  unfold cutD
  rw [HT.sIx_none, HT.sIx_nat, Nat.min_eq_left h, List.take_of_length_le (by simp)]
section
variable {f : M D} {lo hi : Option (M D)} {δ : DS} {Q : D → DS → Prop} {op : D → Option Int → Option Int → Option D}
theorem v_sl : wpV (dSl op f lo hi) δ Q = wpV f δ fun d δ1 => wpV (dOpt lo) δ1 fun l δ2 => wpV (dOpt hi) δ2 fun u δ3 => opK (op d l u) δ3 Q := by
  unfold wpV dSl opK
  cases f δ with
  | stuck => rfl
  | err x d => rfl
  | ok a d =>
    simp only [Res.bind]
    cases dOpt lo d with
    | stuck => rfl
    | err x d => rfl
    | ok l d =>
      dsimp only
      cases dOpt hi d with
      | stuck => rfl
      | err x d => rfl
      | ok u d => dsimp only; cases op a l u <;> simp
noncomputable def intK (d : D) (δ : DS) (Q : Option Int → DS → Prop) (_w : Wt Q := ⟨⟩) : Prop := ∃ i, d = .int i ∧ Q (some i) δ
theorem k_int {i : Int} {Q : Option Int → DS → Prop} : intK (.int i) δ Q = Q (some i) δ := by unfold intK; simp
theorem v_opt0 {Q : Option Int → DS → Prop} : wpV (dOpt none) δ Q = Q none δ := rfl
theorem v_opt1 {Q : Option Int → DS → Prop} : wpV (dOpt (some f)) δ Q = wpV f δ fun d δ1 => intK d δ1 Q := by
  unfold wpV dOpt intK
  dsimp only
  cases f δ with
  | stuck => rfl
  | err x d => rfl
  | ok a d => cases a <;> simp [Res.bind]
end
end L2
namespace L2
open PySem PySem.Spec
end L2
namespace L2
open PySem PySem.Spec PyProof.Rows
section
variable {X : Cx} {Z : Ent} {ow : List Nat} {pos : Pos}
end
end L2
namespace L2
open PySem PySem.Spec PyProof.Rows
section
variable {prog : Program} {w : World} {A : Around} {E : Value → Shared → Prop} {s : Shared}
end
end L2
namespace L2
open PySem PySem.Spec PyProof.Rows
section
variable {X : Cx} {Z : Ent} {ow : List Nat} {e c : Expr} {f g : M D} {te tc : TE}
end
end L2
namespace L2
open PySem PySem.Spec PyProof.Rows
section
variable {X : Cx} {Z : Ent} {ow : List Nat} {tg a b c : Expr} {f g h : M D}
end
end L2
namespace L2
open PySem PySem.Spec
section
variable {δ : DS} {Q : D → DS → Prop} {f g : M D} {i : Nat}
end
end L2
namespace L2
open PySem PySem.Spec PyProof.Rows
section
variable {X : Cx} {Z : Ent} {ow : List Nat} {a b : Expr} {f g : M D} {pos : Pos}
end
end L2
namespace L2
open PySem PySem.Spec PyProof.Rows
section
variable {X : Cx} {Z : Ent} {ow ow' ol ox : List Nat} {n rm m : Nat} {pos : Pos} {e a b c tg : Expr} {f h : M D} {F F' H H' : Hp} {σ : St} {δ δ' : DS} {g g' : Addr → Option Lab} {K : PySem.W.Frag}
theorem OwnR.keep {i : Nat} (hF : Same F F') (h : ∀ a p o, g a = some (i, p) → H a = some o → F a = none → g' a = some (i, p) ∧ H' a = some o ∧ F' a = none) :
    ∀ {n : Nat} {p : List Nat} {d : D} {v : V}, OwnR K F H g i n p d v → OwnR K F' H' g' i n p d v
  | 0, _, d, v, r => hF.rep d v r
  | n + 1, p, d, v, ⟨a, ds, vs, e1, e2, e3, e4, e5, e6, r⟩ =>
    have ⟨q1, q2, q3⟩ := h a p _ e3 e4 e5
    ⟨a, ds, vs, e1, e2, q1, q2, q3, e6, fun k d' v' z1 z2 => OwnR.keep hF h (r k d' v' z1 z2)⟩
theorem OwnR.updNe {b : Addr} {i i0 : Nat} {q0 : List Nat} {o : HO} (hb : g b = some (i0, q0)) : ∀ {n : Nat} {p : List Nat} {d : D} {v : V}, (i ≠ i0 ∨ ¬ p <+: q0) → OwnR K F H g i n p d v → OwnR K F (upd H b o) g i n p d v
  | 0, _, _, _, _, r => r
  | n + 1, p, d, v, hn, ⟨a, ds, vs, e1, e2, e3, e4, e5, e6, r⟩ => by
    have ne : a ≠ b := fun z => by
      rw [z, hb] at e3; cases e3
      exact hn.elim (fun z => z rfl) fun z => z (List.prefix_refl _)
    exact ⟨a, ds, vs, e1, e2, e3, by rw [upd_ne ne]; exact e4, e5, e6, fun k d' v' z1 z2 => OwnR.updNe hb (hn.imp id fun z w => z ((List.prefix_append p [k]).trans w)) (r k d' v' z1 z2)⟩
noncomputable def hid : List Nat → DS → DS
  | [], δ => δ
  | _ :: _, [] => []
  | n :: ow, o :: δ => (if n = 0 then o else none) :: hid ow δ
theorem hid_len : ∀ {ow : List Nat} {δ : DS}, (hid ow δ).length = δ.length
  | [], _ => rfl
  | _ :: _, [] => rfl
  | n :: ow, o :: δ => by unfold hid; rw [List.length_cons, List.length_cons, hid_len]
theorem hid_at : ∀ {ow : List Nat} {δ : DS} {i : Nat} {d : D}, (hid ow δ)[i]? = some (some d) → ow.getD i 0 = 0 ∧ δ[i]? = some (some d)
  | [], _, i, _, e => ⟨by simp, e⟩
  | _ :: _, [], _, _, e => by unfold hid at e; cases e
  | n :: ow, o :: δ, 0, d, e => by
    unfold hid at e
    rw [List.getElem?_cons_zero] at e
    split at e
    · rename_i h; exact ⟨h, e⟩
    · cases e
  | n :: ow, o :: δ, i + 1, d, e => by
    unfold hid at e
    rw [List.getElem?_cons_succ] at e
    obtain ⟨h1, h2⟩ := hid_at e
    exact ⟨by simpa using h1, by simpa using h2⟩
theorem RelG.hide (R : RelG K Z ow g F H σ δ) : Rel K (borZ F H σ m) (List.replicate m 0) F H σ (hid ow δ) :=
  ⟨fun _ => none, R.sub, fun _ _ z => z, fun _ _ _ e => e, fun _ h _ => h, fun _ h => h, fun _ _ _ e => (by cases e), by rw [hid_len]; exact R.len, fun i hi => (by cases hi), fun i d e => by
    obtain ⟨h0, e⟩ := hid_at e
    obtain ⟨v, e1, o⟩ := R.slot i d e
    rw [h0] at o
    exact ⟨v, e1, by rw [zeros_getD]; exact o⟩⟩
theorem RelG.back (R : RelG K Z ow g F H σ δ) (R' : RelG K (borZ F H σ m) (List.replicate m 0) g' F' H' σ δ') : RelG K Z ow g F' H' σ δ := by
  have hk : ∀ b o, H b = some o → H' b = some o := fun b o e => R'.kept b o rfl e
  refine ⟨R'.sub, R.f0.trans' R'.f0, fun b o n e => hk b o (R.kept b o n e), fun a h1 h2 => R'.new a (R.new a h1 h2) (R.there a h2), fun b h => ?_, R.lab, R.len, R.par, fun i d e => ?_⟩
  · cases e : H b with
    | none => exact absurd e (R.there b h)
    | some o => rw [hk b o e]; simp
  · obtain ⟨v, e1, o⟩ := R.slot i d e
    exact ⟨v, e1, o.keep (show Same F F' from R'.f0) fun a p o e1 e2 e3 => ⟨e1, hk a o e2, R'.new a e3 (show H a ≠ none by rw [e2]; simp)⟩⟩
theorem RelG.at2 {i j : Nat} {ds inner : List D} (R : RelG K Z ow g F H σ δ) (ho : ow.getD i 0 = 2) (hd : δ[i]? = some (some (.list ds))) (hj : ds[j]? = some (.list inner)) :
    ∃ a vs b ws, σ[i]? = some (some (.ref a)) ∧ H a = some (.lst vs) ∧ ds.length = vs.length ∧ vs[j]? = some (.ref b) ∧ H b = some (.lst ws) ∧ RepAll K F inner ws := by
  obtain ⟨v, e1, o⟩ := R.slot i _ hd
  rw [ho] at o
  obtain ⟨a, ds0, vs, q1, q2, q3, q4, q5, q6, q7⟩ := o
  cases q1
  subst q2
  have jl : j < vs.length := by rw [← q6]; exact (List.getElem?_eq_some_iff.mp hj).1
  obtain ⟨b, inner', ws, w1, w2, w3, w4, w5, w6, w7⟩ := q7 j _ _ hj (List.getElem?_eq_getElem jl)
  cases w1
  exact ⟨a, vs, b, ws, e1, q4, q6, by rw [List.getElem?_eq_getElem jl, w2], w4, RepAll.of w6 w7⟩
theorem RelG.rewrite2 {i j : Nat} {ds inner' : List D} {vs vs' : List V} {a b : Addr} (R : RelG K Z ow g F H σ δ) (ho : ow.getD i 0 = 2) (hd : δ[i]? = some (some (.list ds))) (hs : σ[i]? = some (some (.ref a))) (ha : H a = some (.lst vs)) (hb : vs[j]? = some (.ref b)) (hr : RepAll K F inner' vs') :
    RelG K Z ow g F (upd H b (.lst vs')) σ (δ.set i (some (.list (ds.set j (.list inner'))))) := by
  obtain ⟨v, e1, o⟩ := R.slot i _ hd
  rw [hs] at e1; cases e1
  rw [ho] at o
  obtain ⟨a', ds0, vs0, q1, q2, q3, q4, q5, q6, q7⟩ := o
  cases q1
  cases q2
  rw [ha] at q4; cases q4
  have jl : j < vs.length := (List.getElem?_eq_some_iff.mp hb).1
  have jd : j < ds.length := by omega
  obtain ⟨b', inner, ws, w1, w2, w3, w4, w5, w6, w7⟩ := q7 j _ _ (List.getElem?_eq_getElem jd) hb
  cases w2
  have hi : i < δ.length := (List.getElem?_eq_some_iff.mp hd).1
  have nab : a ≠ b := fun z => by rw [z, w3] at q3; cases q3
  refine ⟨fun b' u e => ?_, R.f0, fun b' u n e => ?_, R.new, fun b' z => ?_, R.lab, by rw [List.length_set]; exact R.len, R.par, fun k d e => ?_⟩
  · have : b' ≠ b := fun z => by rw [z, w5] at e; cases e
    rw [upd_ne this]; exact R.sub b' u e
  · have : b' ≠ b := fun z => by
      subst z
      rcases R.lab b' i _ w3 with w | ⟨q, w⟩
      · rw [w] at e; cases e
      · rw [w] at n; cases n
    rw [upd_ne this]; exact R.kept b' u n e
  · by_cases hb' : b' = b
    · subst hb'; rw [upd_same]; simp
    · rw [upd_ne hb']; exact R.there b' z
  · by_cases hk : k = i
    · subst hk
      rw [List.getElem?_set_self hi] at e
      cases e
      refine ⟨_, hs, ?_⟩
      rw [ho]
      refine ⟨a, _, vs, rfl, rfl, q3, by rw [upd_ne nab]; exact ha, q5, by rw [List.length_set]; exact q6, fun l d' v' z1 z2 => ?_⟩
      by_cases hl : j = l
      · subst hl
        rw [List.getElem?_set_self jd] at z1
        cases z1
        rw [hb] at z2
        cases z2
        exact ⟨b, inner', vs', rfl, rfl, w3, upd_same, w5, hr.len, fun k d' v' z1 z2 => hr.both k d' v' z1 z2⟩
      · rw [List.getElem?_set_ne hl] at z1
        refine OwnR.updNe w3 (.inr fun z => ?_) (q7 l d' v' z1 z2)
        have z : [l] <+: [j] := z
        obtain ⟨t, ht⟩ := z
        cases ht
        exact hl rfl
    · rw [List.getElem?_set_ne (Ne.symm hk)] at e
      obtain ⟨v, e1, o⟩ := R.slot k d e
      exact ⟨v, e1, OwnR.updNe w3 (.inl hk) o⟩
noncomputable def dMutA (ow : List Nat) (i : Nat) (fk : M D) (op : List D → List D → Option (D × List D)) (fs : List (M D)) : M D := fun δ => match δ[i]? with
  | some (some (.list ds)) => (match fk δ with
    | .ok (.int k) _ => (match ixN ds.length k with
      | some j => (match ds[j]? with
        | some (.list inner) => (match dVals fs (hid ow δ) with
          | .ok args _ => (match op inner args with
            | some (ret, inner') => .ok ret (δ.set i (some (.list (ds.set j (.list inner')))))
            | none => .stuck)
          | _ => .stuck)
        | _ => .stuck)
      | none => .stuck)
    | _ => .stuck)
  | _ => .stuck
theorem dMutA_ok {i : Nat} {fk : M D} {op : List D → List D → Option (D × List D)} {fs : List (M D)} {d : D} {δ1 : DS} (h : dMutA ow i fk op fs δ = .ok d δ1) :
    ∃ ds k δ2 j inner args δ3 inner', δ[i]? = some (some (.list ds)) ∧ fk δ = .ok (.int k) δ2 ∧ ixN ds.length k = some j ∧ ds[j]? = some (.list inner) ∧ dVals fs (hid ow δ) = .ok args δ3 ∧ op inner args = some (d, inner') ∧ δ1 = δ.set i (some (.list (ds.set j (.list inner')))) := by
  unfold dMutA at h
  split at h
  · rename_i ds e1
    split at h
    · rename_i k δ2 e2
      split at h
      · rename_i j e3
        split at h
        · rename_i inner e4
          split at h
          · rename_i args δ3 e5
            split at h
            · rename_i ret inner' e6
              cases h
              exact ⟨ds, k, δ2, j, inner, args, δ3, inner', e1, e2, e3, e4, e5, e6, rfl⟩
            · cases h
          · cases h
        · cases h
      · cases h
    · cases h
  · cases h
theorem dMutA_no {i : Nat} {fk : M D} {op : List D → List D → Option (D × List D)} {fs : List (M D)} {x : D} {δ1 : DS} (h : dMutA ow i fk op fs δ = .err x δ1) : False := by
  unfold dMutA at h
  split at h
  · split at h
    · split at h
      · split at h
        · split at h
          · split at h <;> cases h
          · cases h
        · cases h
      · cases h
    · cases h
  · cases h
theorem de_bIx {ek : Expr} {fk : M D} (m : Nat) (h : ∀ F H σ, DE X (borZ F H σ m) (List.replicate m 0) 0 ek fk) : PE X ek (fun σ H Q => ∃ F0, tD X (borZ F0 H σ m) (List.replicate m 0) 0 fk σ H Q) := fun pins s σ H Q I ⟨F0, q⟩ => h F0 H σ pins s σ H Q I q
theorem dv_bor {es : List Expr} {fs : List (M D)} (m : Nat) (h : ∀ F H σ, DV X (borZ F H σ m) (List.replicate m 0) es fs) : PA X es (fun σ H Q => ∃ F0, tV X (borZ F0 H σ m) (List.replicate m 0) fs σ H Q) := fun cp pins s σ H Q I ⟨F0, q⟩ => h F0 H σ cp pins s σ H Q I q
theorem tMutA_of {i : Nat} {r : V → List V → Hp → VK → Prop} {op : List D → List D → Option (D × List D)} {fk : M D} {fs : List (M D)} {Q : VK} (m : Nat) (ho : ow.getD i 0 = 2) (hm : MutS X r op) (h : tD X Z ow 0 (dMutA ow i fk op fs) σ H Q) :
    tVar i σ H fun x H1 => ∃ F0, tD X (borZ F0 H1 σ m) (List.replicate m 0) 0 fk σ H1 fun y H2 => rIxL X.K x y H2 fun v H3 => tyV X.K "list" v H3 ∧ ∃ F1, tV X (borZ F1 H3 σ m) (List.replicate m 0) fs σ H3 fun xs H4 => r v xs H4 Q := by
  obtain ⟨F, δ, ⟨g, R⟩, h⟩ := h
  cases e : dMutA ow i fk op fs δ with
  | stuck => rw [e] at h; exact h.elim
  | err x δ1 => exact (dMutA_no e).elim
  | ok d δ1 =>
    rw [e] at h
    obtain ⟨ds, k, δ2, j, inner, args, δ3, inner', e1, e2, e3, e4, e5, e6, rfl⟩ := dMutA_ok e
    obtain ⟨a, vs, b, ws, q1, q2, q3, q4, q5, q6⟩ := R.at2 ho e1 e4
    refine ⟨_, q1, fzA g F H, fzA g F H, δ, R.bor, ?_⟩
    rw [e2]
    rintro v H1 F1 ⟨g1, R1, o1⟩ s1
    have ev : v = .int k := by
      have o1 : Rep X.K F1 (.int k) v := o1
      unfold Rep at o1
      exact o1
    subst ev
    have hk : Same H H1 := fun b o e => R1.kept b o rfl e
    have R2 := R.grow hk
    refine ⟨a, vs, k, .ref b, rfl, rfl, SqL.of (hk _ _ q2), ?_, .inl ⟨rfl, ws, SqL.of (hk _ _ q5)⟩, F, F, hid ow δ, R2.hide, ?_⟩
    · unfold atI
      rw [← q3, e3]
      exact q4
    · rw [e5]
      rintro us H2 F2 ⟨g3, R3⟩ s3 ra
      have hk2 : Same H1 H2 := fun b o e => R3.kept b o rfl e
      have R4 := R2.back R3
      obtain ⟨xs', rv, w1, w2, w3⟩ := hm F2 H2 b ws us inner args d inner' (hk2 _ _ (hk _ _ q5)) R4.sub (s3.repAll _ _ q6) ra e6
      exact w3 Q (h rv _ F2 ⟨g, R4.rewrite2 ho e1 q1 (hk2 _ _ (hk _ _ q2)) q4 w1, w2⟩ s3)
theorem de_mutA (i m : Nat) {x : Str} {p p2 q : Pos} {name : Str} {id : String} {ek : Expr} {es : List Expr} {r : V → List V → Hp → VK → Prop} {op : List D → List D → Option (D × List D)} {fk : M D} {fs : List (M D)} (slot : Slot "list" name id) (hty : typeOf (.builtin id) = pure (.type "method_descriptor")) (hmr : MtR X id r) (hm : MutS X r op)
    (hk : ∀ F H σ, DE X (borZ F H σ m) (List.replicate m 0) 0 ek fk) (ha : ∀ F H σ, DV X (borZ F H σ m) (List.replicate m 0) (e :: es) fs) (ho : ow.getD i 0 = 2 := by rfl) (hN : X.N[i]? = some x := by rfl) (hv : Vis X.env.scope x := by first | exact Or.inl rfl | exact Or.inr (Or.inl rfl) | exact Or.inr (Or.inr rfl)) (hd : (x == ("__debug__" : Str)) = false := by decide) (hcd : (x == ("__classdict__" : Str)) = false := by decide) (hp : PlainIx ek := by exact fun _ _ => rfl)
    (hbase : attributeBase (.Subscript (.Name x p) ek p2) name X.env (eval (.Subscript (.Name x p) ek p2) X.env) = eval (.Subscript (.Name x p) ek p2) X.env := by rfl)
    (hfew : ((backTo pos (starEach (e :: es) X.env)).all (fun x => !x.1) && (backToKw pos (keywordEach [] X.env)).all (fun x => x.1.isSome)
      && decide ((e :: es).length + ([] : List Keyword).length + (if ([] : List Keyword).isEmpty then 0 else 1) < 30)) = true := by rfl)
    (hline : (q.endLine == pos.line) = true := by rfl) (hs : starEach (e :: es) X.env = (false, eval e X.env) :: starEach es X.env := by rfl) (hplain : (backTo pos (starEach es X.env)).any (·.1) = false := by rfl) :
    DE X Z ow 0 (.Call (.Attribute (.Subscript (.Name x p) ek p2) name q) (e :: es) [] pos) (dMutA ow i fk op fs) := PE.mono (pe_bm PySem.F.plainAttrs_list slot hty hmr (pe_ix ix_list (pe_var hN hv hd hcd) (de_bIx m hk) hp) (dv_bor m ha) hbase hfew hline hs hplain) fun _ _ _ h => tMutA_of m ho hm h
theorem Rel.enter (hz : ∀ i, ow.getD i 0 = 0) (R : Rel K Z ow F H σ δ) : Rel K (borZ F H σ m) (List.replicate m 0) F H σ δ := by
  obtain ⟨g, R⟩ := R
  exact ⟨fun _ => none, R.sub, fun _ _ z => z, fun _ _ _ e => e, fun _ h _ => h, fun _ h => h, fun _ _ _ e => (by cases e), R.len, fun i hi => (by cases hi), fun i d e => by
    obtain ⟨v, e1, o⟩ := R.slot i d e
    rw [hz] at o
    exact ⟨v, e1, by rw [zeros_getD]; exact o⟩⟩
theorem Rel.leave (hz : ∀ i, ow.getD i 0 = 0) (R : Rel K Z ow F H σ δ) (R' : RelG K (borZ F H σ m) (List.replicate m 0) g' F' H' σ δ') : Rel K Z ow F' H' σ δ' := by
  obtain ⟨g, R⟩ := R
  have hk : ∀ b o, H b = some o → H' b = some o := fun b o e => R'.kept b o rfl e
  refine ⟨fun _ => none, R'.sub, R.f0.trans' R'.f0, fun b o n e => hk b o (R.kept b o n e), fun a h1 h2 => R'.new a (R.new a h1 h2) (R.there a h2), fun b h => ?_, fun _ _ _ e => (by cases e), R'.len, R.par, fun i d e => ?_⟩
  · cases e : H b with
    | none => exact absurd e (R.there b h)
    | some o => rw [hk b o e]; simp
  · obtain ⟨v, e1, o⟩ := R'.slot i d e
    rw [zeros_getD] at o
    exact ⟨v, e1, by rw [hz]; exact o⟩
theorem Rel.reg (hz : ∀ i, ow.getD i 0 = 0) (R : Rel K Z ow F H σ δ) (hl : ∀ a i p, g a = some (i, p) → Z.H0 a = none) : RelG K Z ow g F H σ δ := by
  obtain ⟨g0, R⟩ := R
  exact ⟨R.sub, R.f0, R.kept, R.new, R.there, fun a i p e => .inl (hl a i p e), R.len, R.par, fun i d e => by
    obtain ⟨v, e1, o⟩ := R.slot i d e
    rw [hz] at o
    exact ⟨v, e1, by rw [hz]; exact o⟩⟩
structure Accs (K : PySem.W.Frag) (H0 F H : Hp) (ga : Addr → Option Lab) (n : Nat) (acc : List D) (ys : List V) : Prop where
  len : acc.length = ys.length
  own : ∀ (k : Nat) (d : D) (v : V), acc[k]? = some d → ys[k]? = some v → OwnR K F H ga 1000 n [k] d v
  lab : ∀ a i p, ga a = some (i, p) → H0 a = none
theorem Accs.keep {H0 : Hp} {acc : List D} {ys : List V} (A : Accs K H0 F H g n acc ys) (hF : Same F F') (h : ∀ a o, H a = some o → F a = none → H' a = some o ∧ F' a = none) : Accs K H0 F' H' g n acc ys :=
  ⟨A.len, fun k d v e1 e2 => (A.own k d v e1 e2).keep hF fun a p o z1 z2 z3 => ⟨z1, h a o z2 z3⟩, A.lab⟩
theorem Accs.add {H0 : Hp} {acc : List D} {ys : List V} {d : D} {v : V} (A : Accs K H0 F H g n acc ys) (R' : RelG K (borZ F H σ m) (List.replicate m 0) g' F' H' σ δ') (o : OwnR K F' H' g' 1000 n [] d v) (h0 : ∀ a, H a = none → H0 a = none) :
    ∃ ga, Accs K H0 F' H' ga n (acc ++ [d]) (ys ++ [v]) := by
  have hn : ∀ a l, g' a = some l → H a = none := fun a l e => by
    obtain ⟨i, p⟩ := l
    rcases R'.lab a i p e with z | ⟨q, z⟩
    · exact z
    · cases z
  refine ⟨fun b => match g' b with | some (i, p) => if i = 1000 then some (1000, ys.length :: p) else none | none => g b, by simp [A.len], fun k d' v' e1 e2 => ?_, fun a i p e => ?_⟩
  · by_cases hk : k < ys.length
    · rw [List.getElem?_append_left (by rw [A.len]; exact hk)] at e1
      rw [List.getElem?_append_left hk] at e2
      refine (A.own k d' v' e1 e2).keep (H := H) (H' := H') (show Same F F' from R'.f0) fun a p o z1 (z2 : H a = some o) z3 => ⟨?_, R'.kept a o rfl z2, R'.new a z3 (show H a ≠ none by rw [z2]; simp)⟩
      cases z4 : g' a with
      | none => exact z1
      | some l => rw [hn a l z4] at z2; cases z2
    · have hk' : k = ys.length := by
        have := (List.getElem?_eq_some_iff.mp e2).1
        rw [List.length_append, List.length_singleton] at this
        omega
      subst hk'
      rw [List.getElem?_append_right (Nat.le_refl _), Nat.sub_self] at e2
      rw [← A.len, List.getElem?_append_right (Nat.le_refl _), Nat.sub_self] at e1
      cases e1
      cases e2
      have := OwnR.relabP (g' := fun b => match g' b with | some (i, p) => if i = 1000 then some (1000, ys.length :: p) else none | none => g b) (j := 1000) (q := [ys.length]) (fun a p e => by
        show (match g' a with | some (i, p) => if i = 1000 then some (1000, ys.length :: p) else none | none => g a) = _
        rw [e]
        exact if_pos rfl) o
      exact this
  · cases z : g' a with
    | none => rw [z] at e; exact A.lab a i p e
    | some l => exact h0 a (hn a l z)
theorem ItS.turn2 {J : It} {ds : List D} {F1 : Hp} {i : Nat} {x : V} {d : D} (T : ItS X.K F1 J ds) (R : Rel X.K Z ow F H σ δ) (s : Same F1 F) (y : J.yld i H x H') (e : ds[i]? = some d) : ∃ F', Same F F' ∧ Rel X.K Z ow F' H' σ δ ∧ Rep X.K F' d x ∧ ∀ a o, H a = some o → F a = none → H' a = some o ∧ F' a = none := by
  rcases T.yld i H x H' d (s.trans' R.sub) y e with ⟨rfl, r⟩ | ⟨p, o, hp, rfl, r⟩
  · exact ⟨F, Same.refl _, R, s.rep _ _ r, fun a o z1 z2 => ⟨z1, z2⟩⟩
  · have fp := R.fnone hp
    refine ⟨upd F p o, same_new fp o, R.laid hp, r F s fp, fun a u z1 z2 => ?_⟩
    have : a ≠ p := fun z => by rw [z, hp] at z1; cases z1
    rw [upd_ne this, upd_ne this]
    exact ⟨z1, z2⟩
theorem zeros_app {k : Nat} (hz : ∀ i, ow.getD i 0 = 0) (i : Nat) : (List.replicate k 0 ++ ow).getD i 0 = 0 := by
  by_cases h : i < k
  · rw [List.getD_eq_getElem?_getD, List.getElem?_append_left (by simpa using h), List.getElem?_replicate]
    split <;> rfl
  · obtain ⟨j, rfl⟩ : ∃ j, i = j + k := ⟨i - k, by omega⟩
    rw [getD_sh]
    exact hz j
theorem zeros_of (h : ow.all (· == 0) = true) (i : Nat) : ow.getD i 0 = 0 := by
  by_cases hl : i < ow.length
  · have := List.all_eq_true.mp h ow[i] (List.getElem_mem hl)
    rw [List.getD_eq_getElem?_getD, List.getElem?_eq_getElem hl]
    simpa using this
  · rw [List.getD_eq_getElem?_getD, List.getElem?_eq_none (by omega)]; rfl
theorem tCompN_of {k : Nat} {gt : TG} {set : D → DS → Option DS} {fi : M (List D)} {fe : M D} {Q : VK} (m : Nat) (S : Small Z ow) (Sk : Small (Z.sh k) (List.replicate k 0 ++ ow)) (hz : ∀ i, ow.getD i 0 = 0) (hs : TgC X (Z.sh k) (List.replicate k 0 ++ ow) k gt set)
    (q : tD X Z ow (n + 1) (dComp k set fi dTrue fe) σ H Q) : tComp k (tI X Z ow fi) gt (fun _ H Q => Q true H) (fun σ H Q => ∃ F0, tD0 X (borZ F0 H σ m) (List.replicate m 0) n fe σ H Q) σ H Q := by
  obtain ⟨F, δ, R, q⟩ := q
  unfold dComp at q
  refine ⟨F, δ, R, ?_⟩
  cases e1 : fi δ with
  | stuck => rw [e1] at q; exact q.elim
  | err x δ1 => rw [e1] at q; exact q
  | ok ds δ1 =>
    rw [e1] at q
    simp only [Res.bind] at q
    intro J H1 F1 R1 s1 T
    have hcase : ∃ acc δ2, dCompL set dTrue fe ds [] (List.replicate k none ++ δ1) = .ok acc δ2 ∧ k ≤ δ2.length ∧ kD X Z ow (n + 1) (.ok (.list acc) (δ2.drop k)) F σ Q := by
      cases e2 : dCompL set dTrue fe ds [] (List.replicate k none ++ δ1) with
      | stuck => rw [e2] at q; exact q.elim
      | err x δ2 => rw [e2] at q; exact q.elim
      | ok acc δ2 =>
        rw [e2] at q
        dsimp only at q
        split at q
        · rename_i hk; exact ⟨acc, δ2, rfl, hk, q⟩
        · exact q.elim
    obtain ⟨acc, δ2, e2, hk2, q⟩ := hcase
    have hz' : ∀ i, (List.replicate k 0 ++ ow).getD i 0 = 0 := zeros_app hz
    refine ⟨fun i m ys σ' H' => m = ds.length - i ∧ i ≤ ds.length ∧ σ'.length = σ.length + k ∧ (∀ i, σ'[i + k]? = σ[i]?) ∧ ∃ F2 δ' acc' ga, Rel X.K (Z.sh k) (List.replicate k 0 ++ ow) F2 H' σ' δ' ∧ Same F1 F2 ∧ Accs X.K Z.H0 F2 H' ga n acc' ys ∧ dCompL set dTrue fe (ds.drop i) acc' δ' = .ok acc δ2,
      ⟨ds.length, rfl, Nat.zero_le _, by simp; omega, fun i => by rw [List.getElem?_append_right (by simp), List.length_replicate, Nat.add_sub_cancel], F1, _, [], fun _ => none, R1.sh S, Same.refl _, ⟨rfl, fun k d v e => (by cases e), fun a i p e => (by cases e)⟩, e2⟩, ?_⟩
    rintro i m' ys σ2 H2 ⟨rfl, hi, hl2, hσ2, F2, δ', acc', ga, R2, s2, A2, e3⟩
    by_cases hlt : i < ds.length
    · have ed := List.getElem?_eq_getElem hlt
      have ee : ds.drop i = ds[i] :: ds.drop (i + 1) := List.drop_eq_getElem_cons hlt
      rw [ee] at e3
      unfold dCompL at e3
      cases e4 : set ds[i] δ' with
      | none => simp only [e4] at e3; cases e3
      | some δ3 =>
        simp only [e4] at e3
        have e3' : ((fe δ3).bind fun y δ3 => if acc'.length < sizeLine then dCompL set dTrue fe (ds.drop (i + 1)) (acc' ++ [y]) δ3 else .stuck) = .ok acc δ2 := e3
        cases e6 : fe δ3 with
        | stuck => rw [e6] at e3'; cases e3'
        | err x δ5 => rw [e6] at e3'; cases e3'
        | ok yd δ5 =>
          rw [e6] at e3'
          simp only [Res.bind] at e3'
          split at e3'
          · rename_i small
            refine .inr ⟨T.go i H2 (s2.trans' R2.sub) hlt, by rw [← A2.len]; exact small, fun zs σ'' H'' => σ''.length = σ.length + k ∧ (∀ i, σ''[i + k]? = σ[i]?) ∧ ∃ F3 δ' acc' ga, Rel X.K (Z.sh k) (List.replicate k 0 ++ ow) F3 H'' σ'' δ' ∧ Same F1 F3 ∧ Accs X.K Z.H0 F3 H'' ga n acc' zs ∧ dCompL set dTrue fe (ds.drop (i + 1)) acc' δ' = .ok acc δ2, fun zs σ'' H'' z => ⟨ds.length - (i + 1), by omega, rfl, hlt, z⟩, fun x H3 y => ?_⟩
            obtain ⟨F3, s3, R3, r3, k3⟩ := T.turn2 R2 s2 y ed
            refine hs F3 H3 σ2 δ' δ3 ds[i] x _ R3 r3 e4 fun σ3 R4 l3 _ hσ3 => ?_
            dsimp only
            rw [if_pos rfl]
            refine ⟨F3, F3, δ3, R4.enter hz', ?_⟩
            rw [e6]
            rintro yv H6 F6 ⟨g6, R6, o6⟩ s6
            have hl3 : σ3.length = σ.length + k := by omega
            have hσ4 : ∀ i, σ3[i + k]? = σ[i]? := fun i => (hσ3 i).trans (hσ2 i)
            have A3 := A2.keep s3 k3
            obtain ⟨ga', A4⟩ := A3.add R6 o6 fun a ha => by
              cases z : Z.H0 a with
              | none => rfl
              | some u =>
                obtain ⟨g4, R4⟩ := R4
                exact absurd ha (R4.there a (by show Z.H0 a ≠ none; rw [z]; simp))
            exact ⟨hl3, hσ4, F6, δ5, acc' ++ [yd], ga', R4.leave hz' R6, s2.trans' (s3.trans' s6), A4, e3'⟩
          · cases e3'
    · have e : i = ds.length := by omega
      subst e
      rw [List.drop_length] at e3
      unfold dCompL at e3
      cases e3
      refine .inl ⟨T.stop H2 (s2.trans' R2.sub), fun p hp => ?_⟩
      have R7 : Rel X.K Z ow F2 H2 σ (δ2.drop k) := R2.unsh S Sk hσ2 hl2 hk2
      have fp := R7.fnone hp
      have zp : Z.H0 p = none := by
        cases z : Z.H0 p with
        | none => rfl
        | some u =>
          obtain ⟨g4, R4⟩ := R7
          exact absurd hp (R4.there p (by rw [z]; simp))
      refine q _ _ F2 ⟨fun b => if b = p then some (1000, []) else ga b, (R7.reg hz fun a i q e => ?_).grow (same_new hp _), ?_⟩ (s1.trans' s2)
      · split at e
        · rename_i z; rw [z]; exact zp
        · exact A2.lab a i q e
      · refine ⟨p, acc, ys, rfl, rfl, if_pos rfl, upd_same, fp, A2.len, fun k d v z1 z2 => ?_⟩
        refine OwnR.keep (Same.refl _) (fun a q o y1 y2 y3 => ?_) (A2.own k d v z1 z2)
        have : a ≠ p := fun z => by rw [z, hp] at y2; cases y2
        rw [upd_ne this]
        exact ⟨by rw [if_neg this]; exact y1, y2, y3⟩
theorem ds_set_lcompN (i : Nat) {x : Str} {pos' spos : Pos} {elt iter : Expr} {scope : Scope} {xs : List Str} {gt : TG} {set : D → DS → Option DS} {fi : M (List D)} {fe : M D} (m : Nat) (S : Small Z ow) (Sk : Small (Z.sh xs.length) (List.replicate xs.length 0 ++ ow)) (hc : X.calm = true) (hN : X.N.Nodup) (hi : DI X Z ow tg iter fi)
    (hg : ∀ C fp s H, PG (blockCx X xs scope C fp s H) tg gt) (hs : TgC X (Z.sh xs.length) (List.replicate xs.length 0 ++ ow) xs.length gt set)
    (he : ∀ C fp s H, ∀ F1 H1 σ1, DE (blockCx X xs scope C fp s H) (borZ F1 H1 σ1 m) (List.replicate m 0) n elt fe) (hz : ow.all (· == 0) = true := by rfl) (hx : X.N[i]? = some x := by rfl) (hl : X.env.scope.names.lookup x = some .local := by rfl) (hps : Z.ps.contains i = false := by rfl) (hlo : i < ow.length := by decide)
    (hsw : swapsWith (.ListComp elt [⟨tg, iter, [], 0⟩] scope pos) (some (.Name x pos')) spos.line X.env = pure true := by rfl)
    (hk : scope.kind = .function := by rfl) (hok : compOk X.N xs scope.names X.env.scope.names = true := by rfl) (hfs : ∀ x, foldedSetIterable iter X.env x = pure x := by intro _; rfl) :
    DS1 X Z ow (ow.set i (n + 1)) ol ox rm (.Assign [.Name x pos'] (.ListComp elt [⟨tg, iter, [], 0⟩] scope pos) spos) (dSet i (dComp xs.length set fi dTrue fe)) :=
  PS.mono (ps_set_lcomp (ti := fun _ H Q => Q true H) (te := fun σ H Q => ∃ F0, tD0 X (borZ F0 H σ m) (List.replicate m 0) n fe σ H Q) hc hN hx hl hi hg (fun C fp s H => pif_nil) (fun C fp s H pins s' σ H' Q I ⟨F0, h⟩ => he C fp s H F0 H' σ pins s' σ H' Q I (tD_to (X := X) (X' := blockCx X xs scope C fp s H) rfl h)) hsw hk hok hfs)
    fun Dn σ H h => tCompN_of m S Sk (zeros_of hz) hs (tSet_of S (notIn hps) hlo h)
end
end L2
namespace L2
open PySem PySem.Spec
section
variable {ow : List Nat} {i : Nat} {fk f k : M D} {op : List D → List D → Option (D × List D)} {fs : List (M D)} {δ : DS} {Q : D → DS → Prop}
noncomputable def mutAK (ow : List Nat) (i : Nat) (o : Option (Option D)) (k : D) (op : List D → List D → Option (D × List D)) (fs : List (M D)) (δ : DS) (Q : D → DS → Prop) (_w : Wt Q := ⟨⟩) : Prop :=
  ∃ ds n j inner, o = some (some (.list ds)) ∧ k = .int n ∧ ixN ds.length n = some j ∧ ds[j]? = some (.list inner) ∧ wpV (dVals fs) (hid ow δ) fun args _ => ∃ ret inner', op inner args = some (ret, inner') ∧ Q ret (δ.set i (some (.list (ds.set j (.list inner')))))
theorem v_mutA : wpV (dMutA ow i fk op fs) δ Q = wpV fk δ fun k _ => mutAK ow i δ[i]? k op fs δ Q := by
  refine propext ⟨fun h => ?_, fun h => ?_⟩
  · obtain ⟨d, δ1, e, q⟩ := h.ex
    obtain ⟨ds, n, δ2, j, inner, args, δ3, inner', e1, e2, e3, e4, e5, e6, rfl⟩ := dMutA_ok e
    exact wpV.of e2 ⟨ds, n, j, inner, e1, rfl, e3, e4, wpV.of e5 ⟨d, inner', e6, q⟩⟩
  · obtain ⟨k, δ2, e2, q⟩ := h.ex
    obtain ⟨ds, n, j, inner, e1, rfl, e3, e4, w⟩ := q
    obtain ⟨args, δ3, e5, ret, inner', e6, q⟩ := w.ex
    refine wpV.of (a := ret) (δ1 := δ.set i (some (.list (ds.set j (.list inner'))))) ?_ q
    unfold dMutA
    rw [e1]
    dsimp only
    rw [e2]
    dsimp only
    rw [e3]
    dsimp only
    rw [e4]
    dsimp only
    rw [e5]
    dsimp only
    rw [e6]
noncomputable def mop2K (o : Option (D × List D)) (ds : List D) (j i : Nat) (δ : DS) (Q : D → DS → Prop) (_w : Wt Q := ⟨⟩) : Prop := ∃ ret inner', o = some (ret, inner') ∧ Q ret (δ.set i (some (.list (ds.set j (.list inner')))))
theorem k_mutA {ds inner : List D} {n : Int} {j : Nat} (e3 : ixN ds.length n = some j) (e4 : ds[j]? = some (.list inner)) : mutAK ow i (some (some (.list ds))) (.int n) op fs δ Q = wpV (dVals fs) (hid ow δ) fun args _ => mop2K (op inner args) ds j i δ Q := by
  unfold mutAK mop2K
  refine propext ⟨fun h => ?_, fun h => ?_⟩
  · obtain ⟨ds', n', j', inner', h1, h2, h3, h4, w⟩ := h
    cases h1
    cases h2
    rw [e3] at h3
    cases h3
    rw [e4] at h4
    cases h4
    exact w
  · exact ⟨ds, n, j, inner, rfl, rfl, e3, e4, h⟩
theorem k_app2 {ds l : List D} {d : D} {j : Nat} : mop2K (appD l [d]) ds j i δ Q = (l.length < sizeLine ∧ Q .none (δ.set i (some (.list (ds.set j (.list (l ++ [d]))))))) := by
  refine propext ⟨fun ⟨r, d2, h, p⟩ => ?_, fun ⟨h, p⟩ => ⟨_, _, if_pos h, p⟩⟩
  unfold appD at h
  dsimp only at h
  split at h
  · rename_i hc; cases h; exact ⟨hc, p⟩
  · cases h
end
end L2
namespace L2
open PySem PySem.Spec PyProof.Rows
end L2
namespace L2
open PySem PySem.Spec
theorem v_bor {f : M D} {δ : DS} {Q : D → DS → Prop} : wpV (dBor f) δ Q = wpV f δ fun d _ => (vOf d).isSome = true ∧ Q d δ := by
  unfold wpV dBor
  cases f δ with
  | stuck => rfl
  | err x d => rfl
  | ok a d =>
    dsimp only
    cases vOf a <;> simp
end L2
namespace L2
open PySem PySem.Spec PyProof.Rows
section
variable {X : Cx} {Z : Ent} {ow : List Nat} {a b : Expr} {f k : M D} {pos : Pos}
end
end L2
namespace L2
open PySem PySem.Spec
end L2
namespace L2
open PySem PySem.Spec PyProof.Rows
section
variable {X : Cx} {Z : Ent} {ow : List Nat} {e : Expr} {f : M D} {pos : Pos}
end
end L2
namespace L2
open PySem PySem.Spec PyProof.Rows
section
variable {X : Cx} {Z : Ent} {ow : List Nat} {a b : Expr} {f h : M D} {pos : Pos}
end
end L2
namespace L2
open PySem PySem.Spec PyProof.Rows
section
variable {X : Cx} {tg : Expr}
end
section
variable {X : Cx} {Z : Ent} {ow : List Nat} {tg a : Expr} {f : M D}
end
end L2
namespace L2
open PySem PySem.Spec PyProof.Rows
section
variable {X : Cx} {Z : Ent} {ow ol ox : List Nat} {rm : Nat} {pos : Pos} {F H : Hp} {σ : St} {δ : DS} {g : Addr → Option Lab} {K : PySem.W.Frag}
end
end L2
namespace L2
open PySem PySem.Spec PyProof.Rows
section
variable {X : Cx}
noncomputable def rSlS : V → Option Int → Option Int → Hp → VK → Prop := fun x lo hi H Q => ∃ z, x = .str z ∧ z.length ≤ sizeLine ∧ Q (.str (Txt.slice z lo hi)) H
theorem sl_str : SlR X rSlS := by
  intro pins s σ H x v vl vu lo hi sl Q I rx hs pl pu h
  obtain ⟨z, rfl, hz, q⟩ := h
  obtain ⟨t, rfl⟩ := rx
  refine ⟨"str", _, PySem.F.slot_str_getitem.lookup, typeIs_str _ _ _, ?_⟩
  obtain ⟨l, el, hl⟩ : ∃ l : Option (Int × Tok), vl = partValue l ∧ l.map (·.1) = lo := by
    cases pl with
    | none => exact ⟨none, rfl, rfl⟩
    | int i t => exact ⟨some (i, t), rfl, rfl⟩
  obtain ⟨u, eu, hu⟩ : ∃ u : Option (Int × Tok), vu = partValue u ∧ u.map (·.1) = hi := by
    cases pu with
    | none => exact ⟨none, rfl, rfl⟩
    | int i t => exact ⟨some (i, t), rfl, rfl⟩
  subst el eu hl hu
  obtain ⟨o, h1, h2, h3⟩ := hs
  refine wpAny_getItem_str_slice (l := l) (u := u) (st := none) ⟨o, h1, h2, h3⟩ rfl ?_
  exact post_val_or_str ⟨Nat.le_trans (Txt.slice_le z _ _) hz, fun t' k => ⟨.str (Txt.slice z (l.map (·.1)) (u.map (·.1))), H, I.tok k, ⟨_, rfl⟩, q⟩⟩
noncomputable def cutS : D → Option Int → Option Int → Option D
  | .str z, l, u => if z.length ≤ sizeLine then some (.str (Txt.slice z l u)) else none
  | _, _, _ => none
theorem ss_str : SlS X rSlS 0 cutS := fun Z ow F H σ δ a x l u d Q S R ra e q => by
  unfold cutS at e
  split at e
  · split at e
    · rename_i hz
      cases e
      exact ⟨_, repStr ra, hz, q _ H F (R.x mkStr) (Same.refl _)⟩
    · cases e
  · cases e
end
end L2
set_option maxRecDepth 100000
set_option maxHeartbeats 4000000
open L2 in
seal DE DT DS1 DSs DV DA DI DO PIf PG TgS TgC PGs PW
namespace Toy
open PySem L2
noncomputable def top (i : Nat) : Stmt := PySem.Challenge.pw_keel_k41_within_and_breaking.main.body.getD i (.Pass ⟨0, 0, 0, 0⟩)
noncomputable abbrev s_greatest_divisor : Stmt := top 4
theorem sc_greatest_divisor : FnScope ["one", "other", "rest"] ["one", "other"] (defScope s_greatest_divisor) := ⟨rfl, rfl, rfl, by decide +kernel, rfl, by decide +kernel, by decide +kernel⟩
noncomputable abbrev s_fraction : Stmt := top 5
theorem sc_fraction : FnScope ["top", "bottom", "divisor"] ["top", "bottom"] (defScope s_fraction) := ⟨rfl, rfl, rfl, by decide +kernel, rfl, by decide +kernel, by decide +kernel⟩
noncomputable abbrev s_plus : Stmt := top 6
theorem sc_plus : FnScope ["one", "other"] ["one", "other"] (defScope s_plus) := ⟨rfl, rfl, rfl, by decide +kernel, rfl, by decide +kernel, by decide +kernel⟩
noncomputable abbrev s_times : Stmt := top 7
theorem sc_times : FnScope ["one", "other"] ["one", "other"] (defScope s_times) := ⟨rfl, rfl, rfl, by decide +kernel, rfl, by decide +kernel, by decide +kernel⟩
noncomputable abbrev s_under : Stmt := top 8
theorem sc_under : FnScope ["one", "other"] ["one", "other"] (defScope s_under) := ⟨rfl, rfl, rfl, by decide +kernel, rfl, by decide +kernel, by decide +kernel⟩
noncomputable abbrev s_come_to : Stmt := top 11
theorem sc_come_to : FnScope ["numbers", "parts", "reached", "number", "part"] ["numbers", "parts"] (defScope s_come_to) := ⟨rfl, rfl, rfl, by decide +kernel, rfl, by decide +kernel, by decide +kernel⟩
noncomputable abbrev s_right_fills : Stmt := top 12
theorem sc_right_fills : FnScope ["rows", "rooms", "fills", "room", "fill", "row", "top"] ["rows", "rooms", "fills"] (defScope s_right_fills) := ⟨rfl, rfl, rfl, by decide +kernel, rfl, by decide +kernel, by decide +kernel⟩
noncomputable abbrev s_added : Stmt := top 17
theorem sc_added : FnScope ["sums", "weight", "place"] ["sums", "weight", "place"] (defScope s_added) := ⟨rfl, rfl, rfl, by decide +kernel, rfl, by decide +kernel, by decide +kernel⟩
noncomputable abbrev s_weights : Stmt := top 18
theorem sc_weights : FnScope ["ship", "cargo", "own", "sums", "stack", "boxes", "t", "box", "place"] ["ship", "cargo"] (defScope s_weights) := ⟨rfl, rfl, rfl, by decide +kernel, rfl, by decide +kernel, by decide +kernel⟩
noncomputable abbrev s_row_of_high : Stmt := top 19
theorem sc_row_of_high : FnScope ["tanks", "axis", "high", "sums"] ["tanks", "axis", "high", "sums"] (defScope s_row_of_high) := ⟨rfl, rfl, rfl, by decide +kernel, rfl, by decide +kernel, by decide +kernel⟩
theorem nd_row_of_high_1 : (["tank", "tanks", "axis", "high", "sums"] : List Str).Nodup := by decide +kernel
noncomputable abbrev s_row_of_low : Stmt := top 20
theorem sc_row_of_low : FnScope ["tanks", "axis", "low", "sums"] ["tanks", "axis", "low", "sums"] (defScope s_row_of_low) := ⟨rfl, rfl, rfl, by decide +kernel, rfl, by decide +kernel, by decide +kernel⟩
theorem nd_row_of_low_1 : (["tank", "tanks", "axis", "low", "sums"] : List Str).Nodup := by decide +kernel
noncomputable abbrev s_rows_of : Stmt := top 21
theorem sc_rows_of : FnScope ["ship", "cargo", "bounds", "tanks", "sums"] ["ship", "cargo"] (defScope s_rows_of) := ⟨rfl, rfl, rfl, by decide +kernel, rfl, by decide +kernel, by decide +kernel⟩
theorem nd_rows_of_1 : (["tank", "ship", "cargo", "bounds", "tanks", "sums"] : List Str).Nodup := by decide +kernel
noncomputable abbrev s_rooms_of : Stmt := top 23
theorem sc_rooms_of : FnScope ["ship"] ["ship"] (defScope s_rooms_of) := ⟨rfl, rfl, rfl, by decide +kernel, rfl, by decide +kernel, by decide +kernel⟩
theorem nd_rooms_of_1 : (["tank", "ship"] : List Str).Nodup := by decide +kernel
noncomputable abbrev s_breaking : Stmt := top 24
theorem sc_breaking : FnScope ["mix"] ["mix"] (defScope s_breaking) := ⟨rfl, rfl, rfl, by decide +kernel, rfl, by decide +kernel, by decide +kernel⟩
theorem nd_breaking_1 : (["number", "part", "mix"] : List Str).Nodup := by decide +kernel
noncomputable abbrev s_within : Stmt := top 25
theorem sc_within : FnScope ["ship", "cargo", "fills"] ["ship", "cargo", "fills"] (defScope s_within) := ⟨rfl, rfl, rfl, by decide +kernel, rfl, by decide +kernel, by decide +kernel⟩
noncomputable abbrev s_l_cell_at : Stmt := top 27
theorem sc_l_cell_at : FnScope ["_law_script", "_law_k"] ["_law_script", "_law_k"] (defScope s_l_cell_at) := ⟨rfl, rfl, rfl, by decide +kernel, rfl, by decide +kernel, by decide +kernel⟩
noncomputable abbrev s_l_shared : Stmt := top 28
theorem sc_l_shared : FnScope ["_law_one", "_law_other", "_law_rest"] ["_law_one", "_law_other"] (defScope s_l_shared) := ⟨rfl, rfl, rfl, by decide +kernel, rfl, by decide +kernel, by decide +kernel⟩
noncomputable abbrev s_l_low : Stmt := top 29
theorem sc_l_low : FnScope ["_law_one", "_law_by"] ["_law_one"] (defScope s_l_low) := ⟨rfl, rfl, rfl, by decide +kernel, rfl, by decide +kernel, by decide +kernel⟩
noncomputable abbrev s_l_sum : Stmt := top 30
theorem sc_l_sum : FnScope ["_law_numbers", "_law_parts", "_law_top", "_law_bottom", "_law_k"] ["_law_numbers", "_law_parts"] (defScope s_l_sum) := ⟨rfl, rfl, rfl, by decide +kernel, rfl, by decide +kernel, by decide +kernel⟩
noncomputable abbrev s_l_number : Stmt := top 31
theorem sc_l_number : FnScope ["_law_script", "_law_k", "_law_many", "_law_cell"] ["_law_script", "_law_k", "_law_many"] (defScope s_l_number) := ⟨rfl, rfl, rfl, by decide +kernel, rfl, by decide +kernel, by decide +kernel⟩
noncomputable abbrev s_l_word : Stmt := top 32
theorem sc_l_word : FnScope ["_law_cell", "_law_k"] ["_law_cell", "_law_k"] (defScope s_l_word) := ⟨rfl, rfl, rfl, by decide +kernel, rfl, by decide +kernel, by decide +kernel⟩
noncomputable abbrev s_l_clipped : Stmt := top 33
theorem sc_l_clipped : FnScope ["_law_number_here"] ["_law_number_here"] (defScope s_l_clipped) := ⟨rfl, rfl, rfl, by decide +kernel, rfl, by decide +kernel, by decide +kernel⟩
noncomputable abbrev s_l_loaded : Stmt := top 34
theorem sc_l_loaded : FnScope ["_law_script", "_law_size", "_law_stacks", "_law_cargo", "_law_count", "_law_k", "_law_number_here", "_law_name", "_law_box"] ["_law_script", "_law_size", "_law_stacks"] (defScope s_l_loaded) := ⟨rfl, rfl, rfl, by decide +kernel, rfl, by decide +kernel, by decide +kernel⟩
theorem nd_l_loaded_1 : (["_law_stack", "_law_script", "_law_size", "_law_stacks", "_law_cargo", "_law_count", "_law_k", "_law_number_here", "_law_name", "_law_box"] : List Str).Nodup := by decide +kernel
noncomputable abbrev s_l_weighed : Stmt := top 35
theorem sc_l_weighed : FnScope ["_law_own", "_law_stacks", "_law_cargo", "_law_told", "_law_k", "_law_t", "_law_weight"] ["_law_own", "_law_stacks", "_law_cargo"] (defScope s_l_weighed) := ⟨rfl, rfl, rfl, by decide +kernel, rfl, by decide +kernel, by decide +kernel⟩
noncomputable abbrev s_l_bounds : Stmt := top 36
theorem sc_l_bounds : FnScope ["_law_script", "_law_size", "_law_told", "_law_unit", "_law_bounds_here", "_law_k", "_law_step", "_law_low_here"] ["_law_script", "_law_size", "_law_told"] (defScope s_l_bounds) := ⟨rfl, rfl, rfl, by decide +kernel, rfl, by decide +kernel, by decide +kernel⟩
noncomputable abbrev s_l_paired : Stmt := top 37
theorem sc_l_paired : FnScope ["_law_some", "_law_told", "_law_k", "_law_one"] ["_law_some"] (defScope s_l_paired) := ⟨rfl, rfl, rfl, by decide +kernel, rfl, by decide +kernel, by decide +kernel⟩
noncomputable abbrev s_l_ship : Stmt := top 38
theorem sc_l_ship : FnScope ["_law_script", "_law_size", "_law_own", "_law_k", "_law_stacks", "_law_place", "_law_tall", "_law_tanks", "_law_room", "_law_even", "_law_cargo", "_law_bounds_here", "_law_far"] ["_law_script"] (defScope s_l_ship) := ⟨rfl, rfl, rfl, by decide +kernel, rfl, by decide +kernel, by decide +kernel⟩
theorem nd_l_ship_1 : (["_law_j", "_law_script", "_law_size", "_law_own", "_law_k", "_law_stacks", "_law_place", "_law_tall", "_law_tanks", "_law_room", "_law_even", "_law_cargo", "_law_bounds_here", "_law_far"] : List Str).Nodup := by decide +kernel
theorem nd_l_ship_2 : (["_law_j", "_law_script", "_law_size", "_law_own", "_law_k", "_law_stacks", "_law_place", "_law_tall", "_law_tanks", "_law_room", "_law_even", "_law_cargo", "_law_bounds_here", "_law_far"] : List Str).Nodup := by decide +kernel
noncomputable abbrev s_l_copied : Stmt := top 39
theorem sc_l_copied : FnScope ["_law_ship_here", "_law_cargo"] ["_law_ship_here", "_law_cargo"] (defScope s_l_copied) := ⟨rfl, rfl, rfl, by decide +kernel, rfl, by decide +kernel, by decide +kernel⟩
theorem nd_l_copied_1 : (["_law_boxes", "_law_ship_here", "_law_cargo"] : List Str).Nodup := by decide +kernel
noncomputable abbrev s_l_upright : Stmt := top 40
theorem sc_l_upright : FnScope ["_law_ship_here", "_law_cargo", "_law_fills_here", "_law_k", "_law_told", "_law_parts", "_law_sums", "_law_by", "_law_bounds_here", "_law_top"] ["_law_ship_here", "_law_cargo", "_law_fills_here"] (defScope s_l_upright) := ⟨rfl, rfl, rfl, by decide +kernel, rfl, by decide +kernel, by decide +kernel⟩
theorem nd_l_upright_1 : (["_law_number_here", "_law_ship_here", "_law_cargo", "_law_fills_here", "_law_k", "_law_told", "_law_parts", "_law_sums", "_law_by", "_law_bounds_here", "_law_top"] : List Str).Nodup := by decide +kernel
theorem nd_l_upright_2 : (["_law_tank", "_law_ship_here", "_law_cargo", "_law_fills_here", "_law_k", "_law_told", "_law_parts", "_law_sums", "_law_by", "_law_bounds_here", "_law_top"] : List Str).Nodup := by decide +kernel
theorem nd_l_upright_4 : (["_law_tank", "_law_ship_here", "_law_cargo", "_law_fills_here", "_law_k", "_law_told", "_law_parts", "_law_sums", "_law_by", "_law_bounds_here", "_law_top"] : List Str).Nodup := by decide +kernel
noncomputable abbrev s_l_fills : Stmt := top 41
theorem sc_l_fills : FnScope ["_law_ship_here", "_law_cell", "_law_told", "_law_k", "_law_room", "_law_number_here"] ["_law_ship_here", "_law_cell"] (defScope s_l_fills) := ⟨rfl, rfl, rfl, by decide +kernel, rfl, by decide +kernel, by decide +kernel⟩
noncomputable abbrev s_l_broken : Stmt := top 42
theorem sc_l_broken : FnScope ["_law_cell", "_law_many", "_law_first", "_law_due", "_law_k", "_law_number_here", "_law_handed", "_law_found"] ["_law_cell", "_law_many"] (defScope s_l_broken) := ⟨rfl, rfl, rfl, by decide +kernel, rfl, by decide +kernel, by decide +kernel⟩
theorem nd_l_broken_1 : (["_law_one", "_law_cell", "_law_many", "_law_first", "_law_due", "_law_k", "_law_number_here", "_law_handed", "_law_found"] : List Str).Nodup := by decide +kernel
noncomputable abbrev s_law : Stmt := top 43
theorem sc_law : FnScope ["_law_script", "_law_ship_here", "_law_cargo", "_law_handed", "_law_cell", "_law_fills_here", "_law_given", "_law_found"] ["_law_script"] (defScope s_law) := ⟨rfl, rfl, rfl, by decide +kernel, rfl, by decide +kernel, by decide +kernel⟩
set_option genInjectivity false in
set_option genSizeOf false in
structure Txt (K : PySem.W.Frag) (mg : Str → Option Value) where
  f_greatest_divisor : Addr
  fd_greatest_divisor : FuncData
  F_greatest_divisor : Fun K "greatest_divisor" "greatest_divisor" s_greatest_divisor f_greatest_divisor fd_greatest_divisor
  b_greatest_divisor : Binds K fd_greatest_divisor ["one", "other"] []
  m_greatest_divisor : mg "greatest_divisor" = some (.ref f_greatest_divisor)
  f_fraction : Addr
  fd_fraction : FuncData
  F_fraction : Fun K "fraction" "fraction" s_fraction f_fraction fd_fraction
  b_fraction : Binds K fd_fraction ["top", "bottom"] []
  m_fraction : mg "fraction" = some (.ref f_fraction)
  f_plus : Addr
  fd_plus : FuncData
  F_plus : Fun K "plus" "plus" s_plus f_plus fd_plus
  b_plus : Binds K fd_plus ["one", "other"] []
  m_plus : mg "plus" = some (.ref f_plus)
  f_times : Addr
  fd_times : FuncData
  F_times : Fun K "times" "times" s_times f_times fd_times
  b_times : Binds K fd_times ["one", "other"] []
  m_times : mg "times" = some (.ref f_times)
  f_under : Addr
  fd_under : FuncData
  F_under : Fun K "under" "under" s_under f_under fd_under
  b_under : Binds K fd_under ["one", "other"] []
  m_under : mg "under" = some (.ref f_under)
  f_come_to : Addr
  fd_come_to : FuncData
  F_come_to : Fun K "come_to" "come_to" s_come_to f_come_to fd_come_to
  b_come_to : Binds K fd_come_to ["numbers", "parts"] []
  m_come_to : mg "come_to" = some (.ref f_come_to)
  f_right_fills : Addr
  fd_right_fills : FuncData
  F_right_fills : Fun K "right_fills" "right_fills" s_right_fills f_right_fills fd_right_fills
  b_right_fills : Binds K fd_right_fills ["rows", "rooms", "fills"] []
  m_right_fills : mg "right_fills" = some (.ref f_right_fills)
  f_added : Addr
  fd_added : FuncData
  F_added : Fun K "added" "added" s_added f_added fd_added
  b_added : Binds K fd_added ["sums", "weight", "place"] []
  m_added : mg "added" = some (.ref f_added)
  f_weights : Addr
  fd_weights : FuncData
  F_weights : Fun K "weights" "weights" s_weights f_weights fd_weights
  b_weights : Binds K fd_weights ["ship", "cargo"] []
  m_weights : mg "weights" = some (.ref f_weights)
  f_row_of_high : Addr
  fd_row_of_high : FuncData
  F_row_of_high : Fun K "row_of_high" "row_of_high" s_row_of_high f_row_of_high fd_row_of_high
  b_row_of_high : Binds K fd_row_of_high ["tanks", "axis", "high", "sums"] []
  m_row_of_high : mg "row_of_high" = some (.ref f_row_of_high)
  f_row_of_low : Addr
  fd_row_of_low : FuncData
  F_row_of_low : Fun K "row_of_low" "row_of_low" s_row_of_low f_row_of_low fd_row_of_low
  b_row_of_low : Binds K fd_row_of_low ["tanks", "axis", "low", "sums"] []
  m_row_of_low : mg "row_of_low" = some (.ref f_row_of_low)
  f_rows_of : Addr
  fd_rows_of : FuncData
  F_rows_of : Fun K "rows_of" "rows_of" s_rows_of f_rows_of fd_rows_of
  b_rows_of : Binds K fd_rows_of ["ship", "cargo"] []
  m_rows_of : mg "rows_of" = some (.ref f_rows_of)
  f_rooms_of : Addr
  fd_rooms_of : FuncData
  F_rooms_of : Fun K "rooms_of" "rooms_of" s_rooms_of f_rooms_of fd_rooms_of
  b_rooms_of : Binds K fd_rooms_of ["ship"] []
  m_rooms_of : mg "rooms_of" = some (.ref f_rooms_of)
  f_breaking : Addr
  fd_breaking : FuncData
  F_breaking : Fun K "breaking" "breaking" s_breaking f_breaking fd_breaking
  b_breaking : Binds K fd_breaking ["mix"] []
  m_breaking : mg "breaking" = some (.ref f_breaking)
  f_within : Addr
  fd_within : FuncData
  F_within : Fun K "within" "within" s_within f_within fd_within
  b_within : Binds K fd_within ["ship", "cargo", "fills"] []
  m_within : mg "within" = some (.ref f_within)
  f_l_cell_at : Addr
  fd_l_cell_at : FuncData
  F_l_cell_at : Fun K "_law_cell_at" "_law_cell_at" s_l_cell_at f_l_cell_at fd_l_cell_at
  b_l_cell_at : Binds K fd_l_cell_at ["_law_script", "_law_k"] []
  m_l_cell_at : mg "_law_cell_at" = some (.ref f_l_cell_at)
  f_l_shared : Addr
  fd_l_shared : FuncData
  F_l_shared : Fun K "_law_shared" "_law_shared" s_l_shared f_l_shared fd_l_shared
  b_l_shared : Binds K fd_l_shared ["_law_one", "_law_other"] []
  m_l_shared : mg "_law_shared" = some (.ref f_l_shared)
  f_l_low : Addr
  fd_l_low : FuncData
  F_l_low : Fun K "_law_low" "_law_low" s_l_low f_l_low fd_l_low
  b_l_low : Binds K fd_l_low ["_law_one"] []
  m_l_low : mg "_law_low" = some (.ref f_l_low)
  f_l_sum : Addr
  fd_l_sum : FuncData
  F_l_sum : Fun K "_law_sum" "_law_sum" s_l_sum f_l_sum fd_l_sum
  b_l_sum : Binds K fd_l_sum ["_law_numbers", "_law_parts"] []
  m_l_sum : mg "_law_sum" = some (.ref f_l_sum)
  f_l_number : Addr
  fd_l_number : FuncData
  F_l_number : Fun K "_law_number" "_law_number" s_l_number f_l_number fd_l_number
  b_l_number : Binds K fd_l_number ["_law_script", "_law_k", "_law_many"] []
  m_l_number : mg "_law_number" = some (.ref f_l_number)
  f_l_word : Addr
  fd_l_word : FuncData
  F_l_word : Fun K "_law_word" "_law_word" s_l_word f_l_word fd_l_word
  b_l_word : Binds K fd_l_word ["_law_cell", "_law_k"] []
  m_l_word : mg "_law_word" = some (.ref f_l_word)
  f_l_clipped : Addr
  fd_l_clipped : FuncData
  F_l_clipped : Fun K "_law_clipped" "_law_clipped" s_l_clipped f_l_clipped fd_l_clipped
  b_l_clipped : Binds K fd_l_clipped ["_law_number_here"] []
  m_l_clipped : mg "_law_clipped" = some (.ref f_l_clipped)
  f_l_loaded : Addr
  fd_l_loaded : FuncData
  F_l_loaded : Fun K "_law_loaded" "_law_loaded" s_l_loaded f_l_loaded fd_l_loaded
  b_l_loaded : Binds K fd_l_loaded ["_law_script", "_law_size", "_law_stacks"] []
  m_l_loaded : mg "_law_loaded" = some (.ref f_l_loaded)
  f_l_weighed : Addr
  fd_l_weighed : FuncData
  F_l_weighed : Fun K "_law_weighed" "_law_weighed" s_l_weighed f_l_weighed fd_l_weighed
  b_l_weighed : Binds K fd_l_weighed ["_law_own", "_law_stacks", "_law_cargo"] []
  m_l_weighed : mg "_law_weighed" = some (.ref f_l_weighed)
  f_l_bounds : Addr
  fd_l_bounds : FuncData
  F_l_bounds : Fun K "_law_bounds" "_law_bounds" s_l_bounds f_l_bounds fd_l_bounds
  b_l_bounds : Binds K fd_l_bounds ["_law_script", "_law_size", "_law_told"] []
  m_l_bounds : mg "_law_bounds" = some (.ref f_l_bounds)
  f_l_paired : Addr
  fd_l_paired : FuncData
  F_l_paired : Fun K "_law_paired" "_law_paired" s_l_paired f_l_paired fd_l_paired
  b_l_paired : Binds K fd_l_paired ["_law_some"] []
  m_l_paired : mg "_law_paired" = some (.ref f_l_paired)
  f_l_ship : Addr
  fd_l_ship : FuncData
  F_l_ship : Fun K "_law_ship" "_law_ship" s_l_ship f_l_ship fd_l_ship
  b_l_ship : Binds K fd_l_ship ["_law_script"] []
  m_l_ship : mg "_law_ship" = some (.ref f_l_ship)
  f_l_copied : Addr
  fd_l_copied : FuncData
  F_l_copied : Fun K "_law_copied" "_law_copied" s_l_copied f_l_copied fd_l_copied
  b_l_copied : Binds K fd_l_copied ["_law_ship_here", "_law_cargo"] []
  m_l_copied : mg "_law_copied" = some (.ref f_l_copied)
  f_l_upright : Addr
  fd_l_upright : FuncData
  F_l_upright : Fun K "_law_upright" "_law_upright" s_l_upright f_l_upright fd_l_upright
  b_l_upright : Binds K fd_l_upright ["_law_ship_here", "_law_cargo", "_law_fills_here"] []
  m_l_upright : mg "_law_upright" = some (.ref f_l_upright)
  f_l_fills : Addr
  fd_l_fills : FuncData
  F_l_fills : Fun K "_law_fills" "_law_fills" s_l_fills f_l_fills fd_l_fills
  b_l_fills : Binds K fd_l_fills ["_law_ship_here", "_law_cell"] []
  m_l_fills : mg "_law_fills" = some (.ref f_l_fills)
  f_l_broken : Addr
  fd_l_broken : FuncData
  F_l_broken : Fun K "_law_broken" "_law_broken" s_l_broken f_l_broken fd_l_broken
  b_l_broken : Binds K fd_l_broken ["_law_cell", "_law_many"] []
  m_l_broken : mg "_law_broken" = some (.ref f_l_broken)
  f_law : Addr
  fd_law : FuncData
  F_law : Fun K "law" "law" s_law f_law fd_law
  b_law : Binds K fd_law ["_law_script"] []
  m_law : mg "law" = some (.ref f_law)
  z_abs : mg "abs" = none
  z_bool : mg "bool" = none
  z_enumerate : mg "enumerate" = none
  z_isinstance : mg "isinstance" = none
  z_len : mg "len" = none
  z_list : mg "list" = none
  z_max : mg "max" = none
  z_min : mg "min" = none
  z_range : mg "range" = none
  z_tuple : mg "tuple" = none
  z_zip : mg "zip" = none
  g_ABOVE : ∃ t, mg "ABOVE" = some (.int 3 t)
  g_ACROSS : ∃ t, mg "ACROSS" = some (.int 2 t)
  g_ALONG : ∃ t, mg "ALONG" = some (.int 1 t)
  p_NOUGHT : ∃ a o t u n, mg "NOUGHT" = some (.ref a) ∧ K.lookup a = some o ∧ o.cls = .type "tuple" ∧ o.data = .seq #[.int 0 t, .int 1 u] n
noncomputable def b_greatest_divisor : M Fl :=
    (dSeq (dWhile (dB (dOp neD (dVar 1) (dC (.int 0))))
      (dSeq (dSet 2 (dOp modD (dVar 0) (dVar 1)))
      (dSeq (dSet 0 (dVar 1))
      (dSet 1 (dVar 2)))))
    (dRet (dVar 0)))
noncomputable def d_greatest_divisor : List D → Res D := runFn 3 [] 0 b_greatest_divisor
noncomputable def b_fraction : M Fl :=
    (dSeq (dIfS (dB (dOp eqD (dVar 1) (dC (.int 0))))
      dNever
      dNext)
    (dSeq (dSet 2 (dCall d_greatest_divisor [.val (dFn absD [(dVar 0)]), .val (dFn absD [(dVar 1)])]))
    (dSeq (dIfS (dB (dOp ltD (dVar 1) (dC (.int 0))))
      (dSet 2 (dUn negD (dVar 2)))
      dNext)
    (dRet (dTup [(dOp fdivD (dVar 0) (dVar 2)), (dOp fdivD (dVar 1) (dVar 2))])))))
noncomputable def d_fraction : List D → Res D := runFn 3 [] 0 b_fraction
noncomputable def b_plus : M Fl :=
    (dRet (dCall d_fraction [.val (dOp addD (dOp mulD (dOp ixD (dVar 0) (dC (.int 0))) (dOp ixD (dVar 1) (dC (.int 1)))) (dOp mulD (dOp ixD (dVar 1) (dC (.int 0))) (dOp ixD (dVar 0) (dC (.int 1))))), .val (dOp mulD (dOp ixD (dVar 0) (dC (.int 1))) (dOp ixD (dVar 1) (dC (.int 1))))]))
noncomputable def d_plus : List D → Res D := runFn 2 [] 0 b_plus
noncomputable def b_times : M Fl :=
    (dRet (dCall d_fraction [.val (dOp mulD (dOp ixD (dVar 0) (dC (.int 0))) (dOp ixD (dVar 1) (dC (.int 0)))), .val (dOp mulD (dOp ixD (dVar 0) (dC (.int 1))) (dOp ixD (dVar 1) (dC (.int 1))))]))
noncomputable def d_times : List D → Res D := runFn 2 [] 0 b_times
noncomputable def b_under : M Fl :=
    (dRet (dOp ltD (dOp mulD (dOp ixD (dVar 0) (dC (.int 0))) (dOp ixD (dVar 1) (dC (.int 1)))) (dOp mulD (dOp ixD (dVar 1) (dC (.int 0))) (dOp ixD (dVar 0) (dC (.int 1))))))
noncomputable def d_under : List D → Res D := runFn 2 [] 0 b_under
noncomputable def b_come_to : M Fl :=
    (dSeq (dSet 2 (dC (.tuple [.int 0, .int 1])))
    (dSeq (dForI (setT [3, 4]) (dZip (dVar 0) (dVar 1))
      (dSet 2 (dCall d_plus [.val (dVar 2), .val (dCall d_times [.val (dTup [(dVar 3), (dC (.int 1))]), .val (dVar 4)])])))
    (dRet (dVar 2))))
noncomputable def d_come_to : List D → Res D := runFn 5 [] 0 b_come_to
noncomputable def b_right_fills : M Fl :=
    (dSeq (dForI (setT [3, 4]) (dZip (dVar 1) (dVar 2))
      (dIfS (dOrT (dB (dCall d_under [.val (dVar 4), .val (dC (.tuple [.int 0, .int 1]))])) (dB (dCall d_under [.val (dTup [(dVar 3), (dC (.int 1))]), .val (dVar 4)])))
        (dRet (dC (.bool false)))
        dNext))
    (dSeq (dForI (setT [5, 6]) (dItems (dVar 0))
      (dIfS (dB (dCall d_under [.val (dTup [(dVar 6), (dC (.int 1))]), .val (dCall d_come_to [.val (dVar 5), .val (dVar 2)])]))
        (dRet (dC (.bool false)))
        dNext))
    (dRet (dC (.bool true)))))
noncomputable def d_right_fills : List D → Res D := runFn 7 [] 0 b_right_fills
noncomputable def b_added : M Fl :=
    (dRet (dTup [(dOp addD (dOp ixD (dVar 0) (dC (.int 0))) (dVar 1)), (dOp addD (dOp ixD (dVar 0) (dC (.int 1))) (dOp mulD (dVar 1) (dOp ixD (dVar 2) (dC (.int 0))))), (dOp addD (dOp ixD (dVar 0) (dC (.int 2))) (dOp mulD (dVar 1) (dOp ixD (dVar 2) (dC (.int 1))))), (dOp addD (dOp ixD (dVar 0) (dC (.int 3))) (dOp mulD (dVar 1) (dOp ixD (dVar 2) (dC (.int 2)))))]))
noncomputable def d_added : List D → Res D := runFn 3 [] 0 b_added
noncomputable def b_weights : M Fl :=
    (dSeq (dSet 2 (dOp ixD (dVar 0) (dC (.int 0))))
    (dSeq (dSet 3 (dCall d_added [.val (dTup [(dC (.int 0)), (dC (.int 0)), (dC (.int 0)), (dC (.int 0))]), .val (dOp ixD (dVar 2) (dC (.int 0))), .val (dSl cutT (dVar 2) (some (dC (.int 1))) none)]))
    (dSeq (dForI (setT [4, 5]) (dZip (dOp ixD (dVar 0) (dC (.int 2))) (dVar 1))
      (dForI (setT [6, 7]) (dEnum (dVar 5))
        (dSeq (dSet 8 (dTup [(dOp ixD (dVar 4) (dC (.int 1))), (dOp ixD (dVar 4) (dC (.int 2))), (dOp addD (dOp ixD (dVar 4) (dC (.int 3))) (dOp mulD (dVar 6) (dOp ixD (dVar 4) (dC (.int 4)))))]))
        (dSet 3 (dCall d_added [.val (dVar 3), .val (dOp ixD (dVar 7) (dC (.int 1))), .val (dVar 8)])))))
    (dRet (dVar 3)))))
noncomputable def d_weights : List D → Res D := runFn 9 [] 0 b_weights
noncomputable def b_row_of_high : M Fl :=
    (dRet (dTup [(dComp 1 (setN 0) (dItems (dVar 0)) dTrue (dOp subD (dOp ixD (dVar 0) (dVar 2)) (dVar 3))), (dOp subD (dOp mulD (dVar 2) (dOp ixD (dVar 3) (dC (.int 0)))) (dOp ixD (dVar 3) (dVar 1)))]))
noncomputable def d_row_of_high : List D → Res D := runFn 4 [] 0 b_row_of_high
noncomputable def b_row_of_low : M Fl :=
    (dRet (dTup [(dComp 1 (setN 0) (dItems (dVar 0)) dTrue (dOp subD (dVar 3) (dOp ixD (dVar 0) (dVar 2)))), (dOp subD (dOp ixD (dVar 3) (dVar 1)) (dOp mulD (dVar 2) (dOp ixD (dVar 3) (dC (.int 0)))))]))
noncomputable def d_row_of_low : List D → Res D := runFn 4 [] 0 b_row_of_low
noncomputable def b_rows_of : M Fl :=
    (dSeq (dSet 2 (dOp ixD (dVar 0) (dC (.int 1))))
    (dSeq (dSet 3 (dOp ixD (dVar 0) (dC (.int 3))))
    (dSeq (dSet 4 (dCall d_weights [.val (dVar 0), .val (dVar 1)]))
    (dRet (dLst [(dCall d_row_of_high [.val (dVar 3), .val (dC (.int 1)), .val (dOp ixD (dVar 2) (dC (.int 1))), .val (dVar 4)]), (dCall d_row_of_low [.val (dVar 3), .val (dC (.int 1)), .val (dOp ixD (dVar 2) (dC (.int 0))), .val (dVar 4)]), (dCall d_row_of_high [.val (dVar 3), .val (dC (.int 2)), .val (dOp ixD (dVar 2) (dC (.int 3))), .val (dVar 4)]), (dCall d_row_of_low [.val (dVar 3), .val (dC (.int 2)), .val (dOp ixD (dVar 2) (dC (.int 2))), .val (dVar 4)]), (dCall d_row_of_high [.val (dVar 3), .val (dC (.int 3)), .val (dOp ixD (dVar 2) (dC (.int 4))), .val (dVar 4)]), (dTup [(dComp 1 (setN 0) (dItems (dVar 3)) dTrue (dC (.int 1))), (dOp subD (dOp ixD (dVar 2) (dC (.int 5))) (dOp ixD (dVar 4) (dC (.int 0))))])])))))
noncomputable def d_rows_of : List D → Res D := runFn 5 [] 0 b_rows_of
noncomputable def b_rooms_of : M Fl :=
    (dRet (dComp 1 (setN 0) (dItems (dOp ixD (dVar 0) (dC (.int 3)))) dTrue (dOp ixD (dVar 0) (dC (.int 4)))))
noncomputable def d_rooms_of : List D → Res D := runFn 1 [] 0 b_rooms_of
noncomputable def b_breaking : M Fl :=
    (dRet (dComp 2 (setT [0, 1]) (dEnum (dOp ixD (dVar 0) (dC (.int 0)))) (dB (dCall d_under [.val (dTup [(dC (.int 0)), (dC (.int 1))]), .val (dVar 1)])) (dVar 0)))
noncomputable def d_breaking : List D → Res D := runFn 1 [] 0 b_breaking
noncomputable def b_within : M Fl :=
    (dRet (dCall d_right_fills [.val (dCall d_rows_of [.val (dVar 0), .val (dVar 1)]), .val (dCall d_rooms_of [.val (dVar 0)]), .val (dVar 2)]))
noncomputable def d_within : List D → Res D := runFn 3 [] 0 b_within
noncomputable def b_l_cell_at : M Fl :=
    (dSeq (dIfS (dB (dOp ltD (dVar 1) (dFn lenD [(dVar 0)])))
      (dRet (dOp ixD (dVar 0) (dVar 1)))
      dNext)
    (dRet (dC (.int 0))))
noncomputable def d_l_cell_at : List D → Res D := runFn 2 [] 0 b_l_cell_at
noncomputable def b_l_shared : M Fl :=
    (dSeq (dWhile (dB (dOp neD (dVar 1) (dC (.int 0))))
      (dSeq (dSet 2 (dOp modD (dVar 0) (dVar 1)))
      (dSeq (dSet 0 (dVar 1))
      (dSet 1 (dVar 2)))))
    (dRet (dVar 0)))
noncomputable def d_l_shared : List D → Res D := runFn 3 [] 0 b_l_shared
noncomputable def b_l_low : M Fl :=
    (dSeq (dSet 1 (dCall d_l_shared [.val (dFn absD [(dOp ixD (dVar 0) (dC (.int 0)))]), .val (dOp ixD (dVar 0) (dC (.int 1)))]))
    (dRet (dTup [(dOp fdivD (dOp ixD (dVar 0) (dC (.int 0))) (dVar 1)), (dOp fdivD (dOp ixD (dVar 0) (dC (.int 1))) (dVar 1))])))
noncomputable def d_l_low : List D → Res D := runFn 2 [] 0 b_l_low
noncomputable def b_l_sum : M Fl :=
    (dSeq (dSet 2 (dC (.int 0)))
    (dSeq (dSet 3 (dC (.int 1)))
    (dSeq (dForI (setN 4) (dRng [(dFn lenD [(dVar 1)])])
      (dSeq (dSet 2 (dOp addD (dOp mulD (dVar 2) (dOp ixD (dOp ixD (dVar 1) (dVar 4)) (dC (.int 1)))) (dOp mulD (dOp mulD (dOp ixD (dVar 0) (dVar 4)) (dOp ixD (dOp ixD (dVar 1) (dVar 4)) (dC (.int 0)))) (dVar 3))))
      (dSet 3 (dOp mulD (dVar 3) (dOp ixD (dOp ixD (dVar 1) (dVar 4)) (dC (.int 1)))))))
    (dRet (dTup [(dVar 2), (dVar 3)])))))
noncomputable def d_l_sum : List D → Res D := runFn 5 [] 0 b_l_sum
noncomputable def b_l_number : M Fl :=
    (dSeq (dSet 3 (dOp addD (dOp modD (dCall d_l_cell_at [.val (dVar 0), .val (dVar 1)]) (dOp powD (dC (.int 10)) (dC (.int 24)))) (dOp mulD (dOp addD (dOp addD (dOp mulD (dVar 1) (dVar 1)) (dOp mulD (dC (.int 3)) (dVar 1))) (dC (.int 1))) (dOp modD (dCall d_l_cell_at [.val (dVar 0), .val (dC (.int 0))]) (dOp powD (dC (.int 10)) (dC (.int 9)))))))
    (dRet (dOp modD (dOp modD (dOp mulD (dVar 3) (dC (.int 2862933555777941757))) (dOp addD (dOp powD (dC (.int 10)) (dC (.int 18))) (dC (.int 9)))) (dVar 2))))
noncomputable def d_l_number : List D → Res D := runFn 4 [] 0 b_l_number
noncomputable def b_l_word : M Fl :=
    (dRet (dOp addD (dOp addD (dSl cutS (dC (.str "qqq")) none (some (dOp modD (dVar 0) (dC (.int 4))))) (dOp ixD (dC (.str "abcdefghijklmnopqrstuvwxyz")) (dVar 1))) (dSl cutS (dC (.str "qqqq")) none (some (dOp modD (dOp fdivD (dVar 0) (dC (.int 4))) (dC (.int 5)))))))
noncomputable def d_l_word : List D → Res D := runFn 2 [] 0 b_l_word
noncomputable def b_l_clipped : M Fl :=
    (dRet (dFn max2D [(dOp subD (dC (.int 0)) (dOp powD (dC (.int 10)) (dC (.int 9)))), (dFn min2D [(dOp powD (dC (.int 10)) (dC (.int 9))), (dVar 0)])]))
noncomputable def d_l_clipped : List D → Res D := runFn 1 [] 0 b_l_clipped
noncomputable def b_l_loaded : M Fl :=
    (dSeq (dSet 3 (dComp 1 (setN 0) (dItems (dVar 2)) dTrue (dLst [])))
    (dSeq (dSet 4 (dOp modD (dCall d_l_cell_at [.val (dVar 0), .val (dC (.int 2))]) (dC (.int 9))))
    (dSeq (dIfS (dB (dOp eqD (dOp modD (dOp fdivD (dCall d_l_cell_at [.val (dVar 0), .val (dC (.int 2))]) (dC (.int 9))) (dC (.int 5))) (dC (.int 1))))
      (dSet 4 (dOp addD (dC (.int 16)) (dVar 4)))
      dNext)
    (dSeq (dForI (setN 5) (dRng [(dVar 4)])
      (dSeq (dSet 6 (dCall d_l_number [.val (dVar 0), .val (dOp addD (dC (.int 30)) (dVar 5)), .val (dOp powD (dC (.int 10)) (dC (.int 12)))]))
      (dSeq (dSet 7 (dCall d_l_word [.val (dOp fdivD (dCall d_l_cell_at [.val (dVar 0), .val (dC (.int 1))]) (dC (.int 30))), .val (dVar 5)]))
      (dSeq (dSet 8 (dTup [(dVar 7), (dOp addD (dC (.int 1)) (dOp modD (dVar 6) (dOp addD (dOp fdivD (dVar 1) (dC (.int 40))) (dC (.int 1))))), (dOp addD (dC (.str "p")) (dSl cutS (dVar 7) none (some (dC (.int 1))))), (dC (.str "k")), (dOp mulD (dOp modD (dVar 6) (dC (.int 7))) (dOp fdivD (dVar 1) (dC (.int 9))))]))
      (dDrop (dMutA [0, 0, 0, 2, 0, 0, 0, 0, 0] 3 (dOp modD (dOp fdivD (dVar 6) (dC (.int 7))) (dFn lenD [(dVar 2)])) appD [(dVar 8)]))))))
    (dRet (dVar 3))))))
noncomputable def d_l_loaded : List D → Res D := runFn 9 [] 0 b_l_loaded
noncomputable def b_l_weighed : M Fl :=
    (dSeq (dSet 3 (dLst [(dOp ixD (dVar 0) (dC (.int 0))), (dOp mulD (dOp ixD (dVar 0) (dC (.int 0))) (dOp ixD (dVar 0) (dC (.int 1)))), (dOp mulD (dOp ixD (dVar 0) (dC (.int 0))) (dOp ixD (dVar 0) (dC (.int 2)))), (dOp mulD (dOp ixD (dVar 0) (dC (.int 0))) (dOp ixD (dVar 0) (dC (.int 3))))]))
    (dSeq (dForI (setN 4) (dRng [(dFn lenD [(dVar 1)])])
      (dForI (setN 5) (dRng [(dFn lenD [(dOp ixD (dVar 2) (dVar 4))])])
        (dSeq (dSet 6 (dOp ixD (dOp ixD (dOp ixD (dVar 2) (dVar 4)) (dVar 5)) (dC (.int 1))))
        (dSeq (dPut 3 (dC (.int 0)) (dOp addD (dIxO 3 (dC (.int 0))) (dVar 6)))
        (dSeq (dPut 3 (dC (.int 1)) (dOp addD (dIxO 3 (dC (.int 1))) (dOp mulD (dVar 6) (dOp ixD (dOp ixD (dVar 1) (dVar 4)) (dC (.int 1))))))
        (dSeq (dPut 3 (dC (.int 2)) (dOp addD (dIxO 3 (dC (.int 2))) (dOp mulD (dVar 6) (dOp ixD (dOp ixD (dVar 1) (dVar 4)) (dC (.int 2))))))
        (dPut 3 (dC (.int 3)) (dOp addD (dIxO 3 (dC (.int 3))) (dOp mulD (dVar 6) (dOp addD (dOp ixD (dOp ixD (dVar 1) (dVar 4)) (dC (.int 3))) (dOp mulD (dVar 5) (dOp ixD (dOp ixD (dVar 1) (dVar 4)) (dC (.int 4))))))))))))))
    (dRet (dVar 3))))
noncomputable def d_l_weighed : List D → Res D := runFn 7 [] 0 b_l_weighed
noncomputable def b_l_bounds : M Fl :=
    (dSeq (dSet 3 (dOp addD (dC (.int 1)) (dOp fdivD (dVar 1) (dC (.int 20)))))
    (dSeq (dSet 4 (dLst []))
    (dSeq (dForI (setN 5) (dRng [(dC (.int 2))])
      (dSeq (dSet 6 (dOp subD (dCall d_l_number [.val (dVar 0), .val (dOp addD (dC (.int 55)) (dVar 5)), .val (dC (.int 7))]) (dC (.int 3))))
      (dSeq (dSet 7 (dOp addD (dOp fdivD (dOp ixD (dVar 2) (dOp addD (dC (.int 1)) (dVar 5))) (dOp ixD (dVar 2) (dC (.int 0)))) (dOp mulD (dVar 6) (dVar 3))))
      (dSeq (dDrop (dMut 4 appD [(dCall d_l_clipped [.val (dVar 7)])]))
      (dDrop (dMut 4 appD [(dCall d_l_clipped [.val (dOp addD (dVar 7) (dOp mulD (dCall d_l_number [.val (dVar 0), .val (dOp addD (dC (.int 57)) (dVar 5)), .val (dC (.int 4))]) (dVar 3)))])]))))))
    (dSeq (dSet 6 (dOp subD (dCall d_l_number [.val (dVar 0), .val (dC (.int 59)), .val (dC (.int 6))]) (dC (.int 1))))
    (dSeq (dDrop (dMut 4 appD [(dCall d_l_clipped [.val (dOp addD (dOp fdivD (dOp ixD (dVar 2) (dC (.int 3))) (dOp ixD (dVar 2) (dC (.int 0)))) (dOp mulD (dVar 6) (dVar 3)))])]))
    (dSeq (dSet 6 (dOp subD (dCall d_l_number [.val (dVar 0), .val (dC (.int 60)), .val (dC (.int 6))]) (dC (.int 1))))
    (dSeq (dDrop (dMut 4 appD [(dCall d_l_clipped [.val (dFn max2D [(dC (.int 1)), (dOp addD (dOp ixD (dVar 2) (dC (.int 0))) (dOp mulD (dVar 6) (dOp addD (dOp fdivD (dVar 1) (dC (.int 4))) (dC (.int 1)))))])])]))
    (dRet (dFn tupleD [(dVar 4)])))))))))
noncomputable def d_l_bounds : List D → Res D := runFn 8 [] 0 b_l_bounds
noncomputable def b_l_paired : M Fl :=
    (dSeq (dSet 1 (dLst []))
    (dSeq (dForI (setN 2) (dRng [(dFn lenD [(dVar 0)])])
      (dSeq (dSet 3 (dOp ixD (dVar 0) (dVar 2)))
      (dSeq (dIfS (dB (dOp eqD (dOp modD (dVar 2) (dC (.int 2))) (dC (.int 1))))
        (dSet 3 (dOp addD (dTup [(dOp ixD (dVar 3) (dC (.int 0))), (dOp ixD (dIxO 1 (dOp subD (dVar 2) (dC (.int 1)))) (dC (.int 1))), (dOp subD (dC (.int 0)) (dOp ixD (dIxO 1 (dOp subD (dVar 2) (dC (.int 1)))) (dC (.int 2))))]) (dSl cutT (dIxO 1 (dOp subD (dVar 2) (dC (.int 1)))) (some (dC (.int 3))) none)))
        dNext)
      (dDrop (dMut 1 appD [(dVar 3)])))))
    (dRet (dVar 1))))
noncomputable def d_l_paired : List D → Res D := runFn 4 [] 0 b_l_paired
noncomputable def b_l_ship : M Fl :=
    (dSeq (dSet 1 (dOp ixD (dLst [(dC (.int 60)), (dOp powD (dC (.int 10)) (dC (.int 4))), (dOp powD (dC (.int 10)) (dC (.int 9)))]) (dOp modD (dCall d_l_cell_at [.val (dVar 0), .val (dC (.int 0))]) (dC (.int 3)))))
    (dSeq (dSet 2 (dLst [(dOp addD (dC (.int 1)) (dCall d_l_number [.val (dVar 0), .val (dC (.int 3)), .val (dOp fdivD (dVar 1) (dC (.int 4)))]))]))
    (dSeq (dForI (setN 3) (dRng [(dC (.int 3))])
      (dDrop (dMut 2 appD [(dOp subD (dCall d_l_number [.val (dVar 0), .val (dOp addD (dC (.int 4)) (dVar 3)), .val (dOp addD (dOp mulD (dC (.int 2)) (dVar 1)) (dC (.int 1)))]) (dVar 1))])))
    (dSeq (dSet 4 (dLst []))
    (dSeq (dForI (setN 3) (dRng [(dOp addD (dC (.int 1)) (dOp modD (dCall d_l_cell_at [.val (dVar 0), .val (dC (.int 1))]) (dC (.int 6))))])
      (dSeq (dSet 5 (dComp 1 (setN 0) (dRng [(dC (.int 3))]) dTrue (dOp subD (dCall d_l_number [.val (dVar 1), .val (dOp addD (dOp addD (dC (.int 7)) (dOp mulD (dC (.int 2)) (dVar 4))) (dVar 0)), .val (dOp addD (dOp mulD (dC (.int 2)) (dVar 2)) (dC (.int 1)))]) (dVar 2))))
      (dSeq (dSet 6 (dOp addD (dC (.int 1)) (dCall d_l_number [.val (dVar 0), .val (dOp addD (dC (.int 8)) (dOp mulD (dC (.int 2)) (dVar 3))), .val (dOp fdivD (dVar 1) (dC (.int 30)))])))
      (dSeq (dDrop (dMut 4 appD [(dTup [(dCall d_l_word [.val (dVar 3), .val (dVar 3)]), (dIxO 5 (dC (.int 0))), (dIxO 5 (dC (.int 1))), (dIxO 5 (dC (.int 2))), (dVar 6), (dOp addD (dC (.int 1)) (dVar 3)), (dVar 1)])]))
      dNext))))
    (dSeq (dSet 7 (dLst []))
    (dSeq (dForI (setN 3) (dRng [(dOp modD (dOp fdivD (dCall d_l_cell_at [.val (dVar 0), .val (dC (.int 1))]) (dC (.int 6))) (dC (.int 5)))])
      (dSeq (dSet 5 (dComp 1 (setN 0) (dRng [(dC (.int 3))]) dTrue (dOp subD (dCall d_l_number [.val (dVar 1), .val (dOp addD (dOp addD (dC (.int 20)) (dOp mulD (dC (.int 2)) (dVar 4))) (dVar 0)), .val (dOp addD (dOp mulD (dC (.int 2)) (dVar 2)) (dC (.int 1)))]) (dVar 2))))
      (dSeq (dSet 8 (dOp addD (dC (.int 1)) (dCall d_l_number [.val (dVar 0), .val (dOp addD (dC (.int 21)) (dOp mulD (dC (.int 2)) (dVar 3))), .val (dOp fdivD (dVar 1) (dC (.int 2)))])))
      (dSeq (dDrop (dMut 7 appD [(dTup [(dCall d_l_word [.val (dC (.int 3)), .val (dVar 3)]), (dIxO 5 (dC (.int 0))), (dIxO 5 (dC (.int 1))), (dIxO 5 (dC (.int 2))), (dVar 8)])]))
      dNext))))
    (dSeq (dSet 9 (dOp eqD (dOp modD (dOp fdivD (dCall d_l_cell_at [.val (dVar 0), .val (dC (.int 2))]) (dC (.int 45))) (dC (.int 3))) (dC (.int 1))))
    (dSeq (dIfS (dB (dVar 9))
      (dSeq (dPut 2 (dC (.int 2)) (dC (.int 0)))
      (dSeq (dSet 4 (dCall d_l_paired [.val (dVar 4)]))
      (dSet 7 (dCall d_l_paired [.val (dVar 7)]))))
      dNext)
    (dSeq (dSet 10 (dCall d_l_loaded [.val (dVar 0), .val (dVar 1), .val (dVar 4)]))
    (dSeq (dSet 11 (dCall d_l_bounds [.val (dVar 0), .val (dVar 1), .val (dCall d_l_weighed [.val (dVar 2), .val (dVar 4), .val (dVar 10)])]))
    (dSeq (dIfS (dB (dVar 9))
      (dSeq (dSet 12 (dOp mulD (dCall d_l_number [.val (dVar 0), .val (dC (.int 54)), .val (dC (.int 3))]) (dOp addD (dC (.int 1)) (dOp fdivD (dVar 1) (dC (.int 20))))))
      (dSet 11 (dOp addD (dOp addD (dSl cutT (dVar 11) none (some (dC (.int 2)))) (dTup [(dOp subD (dC (.int 0)) (dVar 12)), (dVar 12)])) (dSl cutT (dVar 11) (some (dC (.int 4))) none))))
      dNext)
    (dRet (dTup [(dTup [(dFn tupleD [(dVar 2)]), (dVar 11), (dVar 4), (dVar 7), (dLst [(dTup [(dC (.str "k")), (dC (.str "k")), (dC (.int 1))])])]), (dVar 10)]))))))))))))))
noncomputable def d_l_ship : List D → Res D := runFn 13 [] 0 b_l_ship
noncomputable def b_l_copied : M Fl :=
    (dRet (dTup [(dTup [(dOp ixD (dVar 0) (dC (.int 0))), (dOp ixD (dVar 0) (dC (.int 1))), (dFn listD [(dOp ixD (dVar 0) (dC (.int 2)))]), (dFn listD [(dOp ixD (dVar 0) (dC (.int 3)))]), (dFn listD [(dOp ixD (dVar 0) (dC (.int 4)))])]), (dComp 1 (setN 0) (dItems (dVar 1)) dTrue (dFn listD [(dVar 0)]))]))
noncomputable def d_l_copied : List D → Res D := runFn 2 [] 0 b_l_copied
noncomputable def b_l_upright : M Fl :=
    (dSeq (dForI (setN 3) (dRng [(dFn lenD [(dVar 2)])])
      (dIfS (dOrT (dB (dOp ltD (dOp ixD (dOp ixD (dVar 2) (dVar 3)) (dC (.int 0))) (dC (.int 0)))) (dB (dOp gtD (dOp ixD (dOp ixD (dVar 2) (dVar 3)) (dC (.int 0))) (dOp mulD (dOp ixD (dOp ixD (dOp ixD (dVar 0) (dC (.int 3))) (dVar 3)) (dC (.int 4))) (dOp ixD (dOp ixD (dVar 2) (dVar 3)) (dC (.int 1)))))))
        (dRet (dC (.bool false)))
        dNext))
    (dSeq (dSet 4 (dCall d_l_weighed [.val (dOp ixD (dVar 0) (dC (.int 0))), .val (dOp ixD (dVar 0) (dC (.int 2))), .val (dVar 1)]))
    (dSeq (dSet 5 (dComp 1 (setN 0) (dItems (dVar 4)) dTrue (dTup [(dVar 0), (dC (.int 1))])))
    (dSeq (dSet 6 (dLst []))
    (dSeq (dForI (setN 3) (dRng [(dC (.int 4))])
      (dSeq (dSet 7 (dComp 1 (setN 0) (dItems (dOp ixD (dVar 0) (dC (.int 3)))) dTrue (dC (.int 1))))
      (dSeq (dIfS (dB (dOp gtD (dVar 3) (dC (.int 0))))
        (dSet 7 (dComp 1 (setN 0) (dItems (dOp ixD (dVar 0) (dC (.int 3)))) dTrue (dOp ixD (dVar 0) (dVar 4))))
        dNext)
      (dDrop (dMut 6 appD [(dCall d_l_sum [.val (dOp addD (dVar 7) (dLst [(dC (.int 1))])), .val (dOp addD (dVar 2) (dLst [(dIxO 5 (dVar 3))]))])])))))
    (dSeq (dSet 8 (dOp ixD (dVar 0) (dC (.int 1))))
    (dSeq (dForI (setN 3) (dRng [(dC (.int 2))])
      (dSeq (dSet 9 (dOp mulD (dOp ixD (dIxO 6 (dOp addD (dC (.int 1)) (dVar 3))) (dC (.int 0))) (dOp ixD (dIxO 6 (dC (.int 0))) (dC (.int 1)))))
      (dSeq (dSet 7 (dOp mulD (dOp ixD (dIxO 6 (dC (.int 0))) (dC (.int 0))) (dOp ixD (dIxO 6 (dOp addD (dC (.int 1)) (dVar 3))) (dC (.int 1)))))
      (dIfS (dOrT (dB (dOp ltD (dVar 9) (dOp mulD (dOp ixD (dVar 8) (dOp mulD (dC (.int 2)) (dVar 3))) (dVar 7)))) (dB (dOp gtD (dVar 9) (dOp mulD (dOp ixD (dVar 8) (dOp addD (dOp mulD (dC (.int 2)) (dVar 3)) (dC (.int 1)))) (dVar 7)))))
        (dRet (dC (.bool false)))
        dNext))))
    (dSeq (dIfS (dB (dOp gtD (dOp mulD (dOp ixD (dIxO 6 (dC (.int 3))) (dC (.int 0))) (dOp ixD (dIxO 6 (dC (.int 0))) (dC (.int 1)))) (dOp mulD (dOp mulD (dOp ixD (dVar 8) (dC (.int 4))) (dOp ixD (dIxO 6 (dC (.int 0))) (dC (.int 0)))) (dOp ixD (dIxO 6 (dC (.int 3))) (dC (.int 1))))))
      (dRet (dC (.bool false)))
      dNext)
    (dRet (dOp leD (dOp ixD (dIxO 6 (dC (.int 0))) (dC (.int 0))) (dOp mulD (dOp ixD (dVar 8) (dC (.int 5))) (dOp ixD (dIxO 6 (dC (.int 0))) (dC (.int 1))))))))))))))
noncomputable def d_l_upright : List D → Res D := runFn 10 [] 0 b_l_upright
noncomputable def b_l_fills : M Fl :=
    (dSeq (dSet 2 (dLst []))
    (dSeq (dForI (setN 3) (dRng [(dFn lenD [(dOp ixD (dVar 0) (dC (.int 3)))])])
      (dSeq (dSet 4 (dOp ixD (dOp ixD (dOp ixD (dVar 0) (dC (.int 3))) (dVar 3)) (dC (.int 4))))
      (dSeq (dSet 5 (dOp fdivD (dVar 1) (dOp addD (dVar 3) (dC (.int 2)))))
      (dIfS (dB (dOp eqD (dOp modD (dVar 5) (dC (.int 5))) (dC (.int 0))))
        (dDrop (dMut 2 appD [(dTup [(dC (.int 0)), (dC (.int 1))])]))
        (dIfS (dB (dOp eqD (dOp modD (dVar 5) (dC (.int 5))) (dC (.int 1))))
          (dDrop (dMut 2 appD [(dTup [(dVar 4), (dC (.int 1))])]))
          (dDrop (dMut 2 appD [(dCall d_l_low [.val (dTup [(dOp subD (dOp subD (dOp modD (dVar 5) (dOp addD (dOp mulD (dC (.int 12)) (dVar 4)) (dC (.int 3)))) (dC (.int 1))) (dVar 4)), (dC (.int 10))])])])))))))
    (dRet (dVar 2))))
noncomputable def d_l_fills : List D → Res D := runFn 6 [] 0 b_l_fills
noncomputable def b_l_broken : M Fl :=
    (dSeq (dSet 2 (dLst []))
    (dSeq (dSet 3 (dLst []))
    (dSeq (dForI (setN 4) (dRng [(dC (.int 6))])
      (dSeq (dSet 5 (dOp modD (dOp fdivD (dVar 0) (dOp addD (dVar 4) (dC (.int 3)))) (dC (.int 4))))
      (dSeq (dIfS (dB (dOp gtD (dVar 5) (dC (.int 1))))
        (dDrop (dMut 3 appD [(dVar 4)]))
        dNext)
      (dDrop (dMut 2 appD [(dOp ixD (dLst [(dTup [(dC (.int 0)), (dC (.int 1))]), (dTup [(dC (.int 0)), (dC (.int 1))]), (dTup [(dC (.int 1)), (dOp addD (dC (.int 1)) (dOp modD (dVar 0) (dC (.int 9))))]), (dTup [(dC (.int 7)), (dC (.int 5))])]) (dVar 5))])))))
    (dSeq (dSet 6 (dTup [(dFn listD [(dVar 2)]), (dOp manyD (dLst [(dTup [(dOp modD (dVar 0) (dC (.int 3))), (dC (.int 1))])]) (dVar 1))]))
    (dSeq (dSet 7 (dCall d_breaking [.val (dVar 6)]))
    (dSeq (dIfS (dB (dOp neD (dVar 6) (dTup [(dVar 2), (dOp manyD (dLst [(dTup [(dOp modD (dVar 0) (dC (.int 3))), (dC (.int 1))])]) (dVar 1))])))
      (dRet (dC (.bool false)))
      dNext)
    (dSeq (dIfS (dOrT (dNotT (dB (dUn (isiD .list) (dVar 7)))) (dB (dOp (inL false) (dC (.bool true)) (dComp 1 (setN 0) (dItems (dVar 7)) dTrue (dUn (isiD .bool) (dVar 0))))))
      (dRet (dC (.bool false)))
      dNext)
    (dRet (dBor (dOp eqD (dVar 7) (dVar 3)))))))))))
noncomputable def d_l_broken : List D → Res D := runFn 8 [] 0 b_l_broken
noncomputable def b_law : M Fl :=
    (dSeq (dAsg (setT [1, 2]) (dCall d_l_ship [.val (dVar 0)]))
    (dSeq (dSet 3 (dCall d_l_copied [.val (dVar 1), .val (dVar 2)]))
    (dSeq (dForI (setN 4) (dItems (dOp addD (dLst [(dC (.int 0))]) (dSl cutL (dVar 0) (some (dC (.int 3))) (some (dC (.int 19))))))
      (dSeq (dSet 5 (dCall d_l_fills [.val (dVar 1), .val (dOp modD (dVar 4) (dOp powD (dC (.int 10)) (dC (.int 30))))]))
      (dSeq (dSet 6 (dFn listD [(dVar 5)]))
      (dSeq (dSet 7 (dCall d_within [.val (dOp ixD (dVar 3) (dC (.int 0))), .val (dOp ixD (dVar 3) (dC (.int 1))), .val (dVar 6)]))
      (dSeq (dIfS (dOrT (dNotT (dB (dUn (isiD .bool) (dVar 7)))) (dOrT (dB (dOp neD (dVar 7) (dCall d_l_upright [.val (dVar 1), .val (dVar 2), .val (dVar 5)]))) (dB (dOp neD (dVar 6) (dVar 5)))))
        (dRet (dC (.bool false)))
        dNext)
      (dIfS (dNotT (dB (dCall d_l_broken [.val (dOp modD (dVar 4) (dOp powD (dC (.int 10)) (dC (.int 12)))), .val (dFn lenD [(dOp ixD (dVar 1) (dC (.int 3)))])])))
        (dRet (dC (.bool false)))
        dNext))))))
    (dRet (dOp eqD (dVar 3) (dTup [(dVar 1), (dVar 2)]))))))
noncomputable def d_law : List D → Res D := runFn 8 [] 0 b_law
section
variable {P : Program} {w : World} {K : PySem.W.Frag} {mg : Str → Option Value} {base : Heap}
theorem ok_greatest_divisor (T : Txt K mg) : FnOk P w K mg base (CXE P w K) 1 T.f_greatest_divisor T.fd_greatest_divisor ["one", "other"] (SpN K ["one", "other"] [] [0, 0, 0] 0 d_greatest_divisor) := by
  refine T.F_greatest_divisor.okD sc_greatest_divisor rfl fun cdv A outer s H E F0 g0 σ0 wf hr => ⟨[0, 0, 0], ?_⟩
  exact (dss_cons (ds_while PassesOwn.leaving (dt_cmp mkS (op_neD hr.units) os_ne (de_var 1) de_int (nomark _))
      (dss_cons (ds_set 2 mkS (de_mod mkS (de_var 0) (de_var 1)) sc_greatest_divisor.nd)
      (dss_cons (ds_set 0 mkS (de_var 1) sc_greatest_divisor.nd)
      (dss_one (ds_set 1 mkS (de_var 2) sc_greatest_divisor.nd)))))
    (dss_one (ds_ret (de_var 0))))
theorem ok_fraction (T : Txt K mg) : FnOk P w K mg base (CXE P w K) 2 T.f_fraction T.fd_fraction ["top", "bottom"] (SpN K ["top", "bottom"] [] [0, 0, 0] 0 d_fraction) := by
  have G_greatest_divisor := ok_greatest_divisor (P := P) (w := w) (base := base) T
  refine T.F_fraction.okD sc_fraction rfl fun cdv A outer s H E F0 g0 σ0 wf hr => ⟨[0, 0, 0], ?_⟩
  exact (dss_cons (ds_if (dt_cmp mkS (op_eqD hr.units) os_eq (de_var 1) de_int (nomark _))
      (dss_one ds_never)
      dss_nil)
    (dss_cons (ds_set 2 mkS (de_call mkS G_greatest_divisor (hr.mono (by decide)) rfl T.m_greatest_divisor T.F_greatest_divisor.kp T.b_greatest_divisor (da_val (de_callB mkS call_abs fs_abs rfl T.z_abs bt_abs (dv_cons (de_var 0) dv_nil)) (da_val (de_callB mkS call_abs fs_abs rfl T.z_abs bt_abs (dv_cons (de_var 1) dv_nil)) da_nil))) sc_fraction.nd)
    (dss_cons (ds_if (dt_cmp mkS op_lt os_lt (de_var 1) de_int (nomark _))
      (dss_one (ds_set 2 mkS (de_neg (de_var 2)) sc_fraction.nd))
      dss_nil)
    (dss_one (ds_ret (de_tup (dv_cons (de_fdiv mkS (de_var 0) (de_var 2)) (dv_cons (de_fdiv mkS (de_var 1) (de_var 2)) dv_nil))))))))
theorem ok_plus (T : Txt K mg) : FnOk P w K mg base (CXE P w K) 3 T.f_plus T.fd_plus ["one", "other"] (SpN K ["one", "other"] [] [0, 0] 0 d_plus) := by
  have G_fraction := ok_fraction (P := P) (w := w) (base := base) T
  refine T.F_plus.okD sc_plus rfl fun cdv A outer s H E F0 g0 σ0 wf hr => ⟨[0, 0], ?_⟩
  exact (dss_one (ds_ret (de_call mkS G_fraction (hr.mono (by decide)) rfl T.m_fraction T.F_fraction.kp T.b_fraction (da_val (de_add mkS (de_mul mkS (de_ix mkS (de_var 0) de_int) (de_ix mkS (de_var 1) de_int)) (de_mul mkS (de_ix mkS (de_var 1) de_int) (de_ix mkS (de_var 0) de_int))) (da_val (de_mul mkS (de_ix mkS (de_var 0) de_int) (de_ix mkS (de_var 1) de_int)) da_nil)))))
theorem ok_times (T : Txt K mg) : FnOk P w K mg base (CXE P w K) 3 T.f_times T.fd_times ["one", "other"] (SpN K ["one", "other"] [] [0, 0] 0 d_times) := by
  have G_fraction := ok_fraction (P := P) (w := w) (base := base) T
  refine T.F_times.okD sc_times rfl fun cdv A outer s H E F0 g0 σ0 wf hr => ⟨[0, 0], ?_⟩
  exact (dss_one (ds_ret (de_call mkS G_fraction (hr.mono (by decide)) rfl T.m_fraction T.F_fraction.kp T.b_fraction (da_val (de_mul mkS (de_ix mkS (de_var 0) de_int) (de_ix mkS (de_var 1) de_int)) (da_val (de_mul mkS (de_ix mkS (de_var 0) de_int) (de_ix mkS (de_var 1) de_int)) da_nil)))))
theorem ok_under (T : Txt K mg) : FnOk P w K mg base (CXE P w K) 1 T.f_under T.fd_under ["one", "other"] (SpN K ["one", "other"] [] [0, 0] 0 d_under) := by
  refine T.F_under.okD sc_under rfl fun cdv A outer s H E F0 g0 σ0 wf hr => ⟨[0, 0], ?_⟩
  exact (dss_one (ds_ret (de_cmp mkS op_lt os_lt (de_mul mkS (de_ix mkS (de_var 0) de_int) (de_ix mkS (de_var 1) de_int)) (de_mul mkS (de_ix mkS (de_var 1) de_int) (de_ix mkS (de_var 0) de_int)) (nomark _))))
theorem ok_come_to (T : Txt K mg) : FnOk P w K mg base (CXE P w K) 4 T.f_come_to T.fd_come_to ["numbers", "parts"] (SpN K ["numbers", "parts"] [] [0, 0, 0, 0, 0] 0 d_come_to) := by
  have G_plus := ok_plus (P := P) (w := w) (base := base) T
  have G_times := ok_times (P := P) (w := w) (base := base) T
  refine T.F_come_to.okD sc_come_to rfl fun cdv A outer s H E F0 g0 σ0 wf hr => ⟨[0, 0, 0, 0, 0], ?_⟩
  exact (dss_cons (ds_set 2 mkS (de_gpair rfl T.p_NOUGHT) sc_come_to.nd)
    (dss_cons (ds_forI PassesOwn.leaving rfl (di_zip rfl T.z_zip (de_var 0) (de_var 1)) (pg_tup rfl (pgs_cons (pg_name (i := 3) sc_come_to.nd rfl (by first | exact Or.inl rfl | exact Or.inr rfl)) (pgs_cons (pg_name (i := 4) sc_come_to.nd rfl (by first | exact Or.inl rfl | exact Or.inr rfl)) pgs_nil))) (tg_tup (is := [3, 4]) mkS (by intro i hi; simp only [List.mem_cons, List.not_mem_nil, or_false] at hi; rcases hi with rfl | rfl <;> exact ⟨notIn rfl, by decide, rfl⟩) rfl)
      (dss_one (ds_set 2 mkS (de_call mkS G_plus (hr.mono (by decide)) rfl T.m_plus T.F_plus.kp T.b_plus (da_val (de_var 2) (da_val (de_call mkS G_times (hr.mono (by decide)) rfl T.m_times T.F_times.kp T.b_times (da_val (de_tup (dv_cons (de_var 3) (dv_cons de_int dv_nil))) (da_val (de_var 4) da_nil))) da_nil))) sc_come_to.nd)))
    (dss_one (ds_ret (de_var 2)))))
theorem ok_right_fills (T : Txt K mg) : FnOk P w K mg base (CXE P w K) 5 T.f_right_fills T.fd_right_fills ["rows", "rooms", "fills"] (SpN K ["rows", "rooms", "fills"] [] [0, 0, 0, 0, 0, 0, 0] 0 d_right_fills) := by
  have G_come_to := ok_come_to (P := P) (w := w) (base := base) T
  have G_under := ok_under (P := P) (w := w) (base := base) T
  refine T.F_right_fills.okD sc_right_fills rfl fun cdv A outer s H E F0 g0 σ0 wf hr => ⟨[0, 0, 0, 0, 0, 0, 0], ?_⟩
  exact (dss_cons (ds_forI PassesOwn.leaving rfl (di_zip rfl T.z_zip (de_var 1) (de_var 2)) (pg_tup rfl (pgs_cons (pg_name (i := 3) sc_right_fills.nd rfl (by first | exact Or.inl rfl | exact Or.inr rfl)) (pgs_cons (pg_name (i := 4) sc_right_fills.nd rfl (by first | exact Or.inl rfl | exact Or.inr rfl)) pgs_nil))) (tg_tup (is := [3, 4]) mkS (by intro i hi; simp only [List.mem_cons, List.not_mem_nil, or_false] at hi; rcases hi with rfl | rfl <;> exact ⟨notIn rfl, by decide, rfl⟩) rfl)
      (dss_one (ds_if (dt_bool (dw_or (dt_val (de_call mkS G_under (hr.mono (by decide)) rfl T.m_under T.F_under.kp T.b_under (da_val (de_var 4) (da_val (de_gpair rfl T.p_NOUGHT) da_nil)))) (dw_or1 (dt_val (de_call mkS G_under (hr.mono (by decide)) rfl T.m_under T.F_under.kp T.b_under (da_val (de_tup (dv_cons (de_var 3) (dv_cons de_int dv_nil))) (da_val (de_var 4) da_nil)))))))
        (dss_one (ds_ret de_bl))
        dss_nil)))
    (dss_cons (ds_forI PassesOwn.leaving rfl (di_seq (de_var 0)) (pg_tup rfl (pgs_cons (pg_name (i := 5) sc_right_fills.nd rfl (by first | exact Or.inl rfl | exact Or.inr rfl)) (pgs_cons (pg_name (i := 6) sc_right_fills.nd rfl (by first | exact Or.inl rfl | exact Or.inr rfl)) pgs_nil))) (tg_tup (is := [5, 6]) mkS (by intro i hi; simp only [List.mem_cons, List.not_mem_nil, or_false] at hi; rcases hi with rfl | rfl <;> exact ⟨notIn rfl, by decide, rfl⟩) rfl)
      (dss_one (ds_if (dt_val (de_call mkS G_under (hr.mono (by decide)) rfl T.m_under T.F_under.kp T.b_under (da_val (de_tup (dv_cons (de_var 6) (dv_cons de_int dv_nil))) (da_val (de_call mkS G_come_to (hr.mono (by decide)) rfl T.m_come_to T.F_come_to.kp T.b_come_to (da_val (de_var 5) (da_val (de_var 2) da_nil))) da_nil))))
        (dss_one (ds_ret de_bl))
        dss_nil)))
    (dss_one (ds_ret de_bl))))
theorem ok_added (T : Txt K mg) : FnOk P w K mg base (CXE P w K) 1 T.f_added T.fd_added ["sums", "weight", "place"] (SpN K ["sums", "weight", "place"] [] [0, 0, 0] 0 d_added) := by
  refine T.F_added.okD sc_added rfl fun cdv A outer s H E F0 g0 σ0 wf hr => ⟨[0, 0, 0], ?_⟩
  exact (dss_one (ds_ret (de_tup (dv_cons (de_add mkS (de_ix mkS (de_var 0) de_int) (de_var 1)) (dv_cons (de_add mkS (de_ix mkS (de_var 0) de_int) (de_mul mkS (de_var 1) (de_ix mkS (de_var 2) de_int))) (dv_cons (de_add mkS (de_ix mkS (de_var 0) de_int) (de_mul mkS (de_var 1) (de_ix mkS (de_var 2) de_int))) (dv_cons (de_add mkS (de_ix mkS (de_var 0) de_int) (de_mul mkS (de_var 1) (de_ix mkS (de_var 2) de_int))) dv_nil)))))))
theorem ok_weights (T : Txt K mg) : FnOk P w K mg base (CXE P w K) 2 T.f_weights T.fd_weights ["ship", "cargo"] (SpN K ["ship", "cargo"] [] [0, 0, 0, 0, 0, 0, 0, 0, 0] 0 d_weights) := by
  have G_added := ok_added (P := P) (w := w) (base := base) T
  refine T.F_weights.okD sc_weights rfl fun cdv A outer s H E F0 g0 σ0 wf hr => ⟨[0, 0, 0, 0, 0, 0, 0, 0, 0], ?_⟩
  exact (dss_cons (ds_set 2 mkS (de_ix mkS (de_var 0) de_int) sc_weights.nd)
    (dss_cons (ds_set 3 mkS (de_call mkS G_added (hr.mono (by decide)) rfl T.m_added T.F_added.kp T.b_added (da_val (de_tup (dv_cons de_int (dv_cons de_int (dv_cons de_int (dv_cons de_int dv_nil))))) (da_val (de_ix mkS (de_var 2) de_int) (da_val (de_slice mkS sl_tup ss_tup (de_var 2) (do_some de_int) do_none) da_nil)))) sc_weights.nd)
    (dss_cons (ds_forI PassesOwn.leaving rfl (di_zip rfl T.z_zip (de_ix mkS (de_var 0) de_int) (de_var 1)) (pg_tup rfl (pgs_cons (pg_name (i := 4) sc_weights.nd rfl (by first | exact Or.inl rfl | exact Or.inr rfl)) (pgs_cons (pg_name (i := 5) sc_weights.nd rfl (by first | exact Or.inl rfl | exact Or.inr rfl)) pgs_nil))) (tg_tup (is := [4, 5]) mkS (by intro i hi; simp only [List.mem_cons, List.not_mem_nil, or_false] at hi; rcases hi with rfl | rfl <;> exact ⟨notIn rfl, by decide, rfl⟩) rfl)
      (dss_one (ds_forI PassesOwn.leaving rfl (di_enum rfl T.z_enumerate (de_var 5)) (pg_tup rfl (pgs_cons (pg_name (i := 6) sc_weights.nd rfl (by first | exact Or.inl rfl | exact Or.inr rfl)) (pgs_cons (pg_name (i := 7) sc_weights.nd rfl (by first | exact Or.inl rfl | exact Or.inr rfl)) pgs_nil))) (tg_tup (is := [6, 7]) mkS (by intro i hi; simp only [List.mem_cons, List.not_mem_nil, or_false] at hi; rcases hi with rfl | rfl <;> exact ⟨notIn rfl, by decide, rfl⟩) rfl)
        (dss_cons (ds_set 8 mkS (de_tup (dv_cons (de_ix mkS (de_var 4) de_int) (dv_cons (de_ix mkS (de_var 4) de_int) (dv_cons (de_add mkS (de_ix mkS (de_var 4) de_int) (de_mul mkS (de_var 6) (de_ix mkS (de_var 4) de_int))) dv_nil)))) sc_weights.nd)
        (dss_one (ds_set 3 mkS (de_call mkS G_added (hr.mono (by decide)) rfl T.m_added T.F_added.kp T.b_added (da_val (de_var 3) (da_val (de_ix mkS (de_var 7) de_int) (da_val (de_var 8) da_nil)))) sc_weights.nd))))))
    (dss_one (ds_ret (de_var 3))))))
theorem ok_row_of_high (T : Txt K mg) : FnOk P w K mg base (CXE P w K) 1 T.f_row_of_high T.fd_row_of_high ["tanks", "axis", "high", "sums"] (SpN K ["tanks", "axis", "high", "sums"] [] [0, 0, 0, 0] 0 d_row_of_high) := by
  refine T.F_row_of_high.okD sc_row_of_high rfl fun cdv A outer s H E F0 g0 σ0 wf hr => ⟨[0, 0, 0, 0], ?_⟩
  exact (dss_one (ds_ret (de_tup (dv_cons (de_fz mkS (de_lcomp (xs := ["tank"]) mkS mkS rfl (di_seq (de_var 0)) (fun C fp s H => (pg_name (i := 0) nd_row_of_high_1 rfl (Or.inl rfl))) (tgc_name mkS (by decide) (notIn rfl) (by decide) rfl) (fun C fp s H => dif_nil) (fun C fp s H => (de_sub mkS (de_ix mkS (de_var 0) (de_var 2)) (de_var 3))))) (dv_cons (de_sub mkS (de_mul mkS (de_var 2) (de_ix mkS (de_var 3) de_int)) (de_ix mkS (de_var 3) (de_var 1))) dv_nil)))))
theorem ok_row_of_low (T : Txt K mg) : FnOk P w K mg base (CXE P w K) 1 T.f_row_of_low T.fd_row_of_low ["tanks", "axis", "low", "sums"] (SpN K ["tanks", "axis", "low", "sums"] [] [0, 0, 0, 0] 0 d_row_of_low) := by
  refine T.F_row_of_low.okD sc_row_of_low rfl fun cdv A outer s H E F0 g0 σ0 wf hr => ⟨[0, 0, 0, 0], ?_⟩
  exact (dss_one (ds_ret (de_tup (dv_cons (de_fz mkS (de_lcomp (xs := ["tank"]) mkS mkS rfl (di_seq (de_var 0)) (fun C fp s H => (pg_name (i := 0) nd_row_of_low_1 rfl (Or.inl rfl))) (tgc_name mkS (by decide) (notIn rfl) (by decide) rfl) (fun C fp s H => dif_nil) (fun C fp s H => (de_sub mkS (de_var 3) (de_ix mkS (de_var 0) (de_var 2)))))) (dv_cons (de_sub mkS (de_ix mkS (de_var 3) (de_var 1)) (de_mul mkS (de_var 2) (de_ix mkS (de_var 3) de_int))) dv_nil)))))
theorem ok_rows_of (T : Txt K mg) : FnOk P w K mg base (CXE P w K) 3 T.f_rows_of T.fd_rows_of ["ship", "cargo"] (SpN K ["ship", "cargo"] [] [0, 0, 0, 0, 0] 0 d_rows_of) := by
  have G_row_of_high := ok_row_of_high (P := P) (w := w) (base := base) T
  have G_row_of_low := ok_row_of_low (P := P) (w := w) (base := base) T
  have G_weights := ok_weights (P := P) (w := w) (base := base) T
  refine T.F_rows_of.okD sc_rows_of rfl fun cdv A outer s H E F0 g0 σ0 wf hr => ⟨[0, 0, 0, 0, 0], ?_⟩
  exact (dss_cons (ds_set 2 mkS (de_ix mkS (de_var 0) de_int) sc_rows_of.nd)
    (dss_cons (ds_set 3 mkS (de_ix mkS (de_var 0) de_int) sc_rows_of.nd)
    (dss_cons (ds_set 4 mkS (de_call mkS G_weights (hr.mono (by decide)) rfl T.m_weights T.F_weights.kp T.b_weights (da_val (de_var 0) (da_val (de_var 1) da_nil))) sc_rows_of.nd)
    (dss_one (ds_ret (de_fz mkS (de_lst mkS (dv_cons (de_call mkS G_row_of_high (hr.mono (by decide)) rfl T.m_row_of_high T.F_row_of_high.kp T.b_row_of_high (da_val (de_var 3) (da_val (de_gint rfl T.g_ALONG) (da_val (de_ix mkS (de_var 2) de_int) (da_val (de_var 4) da_nil))))) (dv_cons (de_call mkS G_row_of_low (hr.mono (by decide)) rfl T.m_row_of_low T.F_row_of_low.kp T.b_row_of_low (da_val (de_var 3) (da_val (de_gint rfl T.g_ALONG) (da_val (de_ix mkS (de_var 2) de_int) (da_val (de_var 4) da_nil))))) (dv_cons (de_call mkS G_row_of_high (hr.mono (by decide)) rfl T.m_row_of_high T.F_row_of_high.kp T.b_row_of_high (da_val (de_var 3) (da_val (de_gint rfl T.g_ACROSS) (da_val (de_ix mkS (de_var 2) de_int) (da_val (de_var 4) da_nil))))) (dv_cons (de_call mkS G_row_of_low (hr.mono (by decide)) rfl T.m_row_of_low T.F_row_of_low.kp T.b_row_of_low (da_val (de_var 3) (da_val (de_gint rfl T.g_ACROSS) (da_val (de_ix mkS (de_var 2) de_int) (da_val (de_var 4) da_nil))))) (dv_cons (de_call mkS G_row_of_high (hr.mono (by decide)) rfl T.m_row_of_high T.F_row_of_high.kp T.b_row_of_high (da_val (de_var 3) (da_val (de_gint rfl T.g_ABOVE) (da_val (de_ix mkS (de_var 2) de_int) (da_val (de_var 4) da_nil))))) (dv_cons (de_tup (dv_cons (de_fz mkS (de_lcomp (xs := ["tank"]) mkS mkS rfl (di_seq (de_var 3)) (fun C fp s H => (pg_name (i := 0) nd_rows_of_1 rfl (Or.inl rfl))) (tgc_name mkS (by decide) (notIn rfl) (by decide) rfl) (fun C fp s H => dif_nil) (fun C fp s H => de_int))) (dv_cons (de_sub mkS (de_ix mkS (de_var 2) de_int) (de_ix mkS (de_var 4) de_int)) dv_nil))) dv_nil)))))))))))))
theorem ok_rooms_of (T : Txt K mg) : FnOk P w K mg base (CXE P w K) 1 T.f_rooms_of T.fd_rooms_of ["ship"] (SpN K ["ship"] [] [0] 0 d_rooms_of) := by
  refine T.F_rooms_of.okD sc_rooms_of rfl fun cdv A outer s H E F0 g0 σ0 wf hr => ⟨[0], ?_⟩
  exact (dss_one (ds_ret (de_fz mkS (de_lcomp (xs := ["tank"]) mkS mkS rfl (di_seq (de_ix mkS (de_var 0) de_int)) (fun C fp s H => (pg_name (i := 0) nd_rooms_of_1 rfl (Or.inl rfl))) (tgc_name mkS (by decide) (notIn rfl) (by decide) rfl) (fun C fp s H => dif_nil) (fun C fp s H => (de_ix mkS (de_var 0) de_int))))))
theorem ok_breaking (T : Txt K mg) : FnOk P w K mg base (CXE P w K) 2 T.f_breaking T.fd_breaking ["mix"] (SpN K ["mix"] [] [0] 0 d_breaking) := by
  have G_under := ok_under (P := P) (w := w) (base := base) T
  refine T.F_breaking.okD sc_breaking rfl fun cdv A outer s H E F0 g0 σ0 wf hr => ⟨[0], ?_⟩
  exact (dss_one (ds_ret (de_fz mkS (de_lcomp (xs := ["number", "part"]) mkS mkS rfl (di_enum rfl T.z_enumerate (de_ix mkS (de_var 0) de_int)) (fun C fp s H => (pg_tup rfl (pgs_cons (pg_name (i := 0) nd_breaking_1 rfl (Or.inl rfl)) (pgs_cons (pg_name (i := 1) nd_breaking_1 rfl (Or.inl rfl)) pgs_nil)))) (tgc_tup (is := [0, 1]) mkS (by intro i hi; simp only [List.mem_cons, List.not_mem_nil, or_false] at hi; rcases hi with rfl | rfl <;> exact ⟨by decide, notIn rfl, by decide, rfl⟩) rfl) (fun C fp s H => (dif_one (dt_val (de_call mkS G_under (hr.mono (by decide)) rfl T.m_under T.F_under.kp T.b_under (da_val (de_tup (dv_cons de_int (dv_cons de_int dv_nil))) (da_val (de_var 1) da_nil)))))) (fun C fp s H => (de_var 0))))))
theorem ok_within (T : Txt K mg) : FnOk P w K mg base (CXE P w K) 6 T.f_within T.fd_within ["ship", "cargo", "fills"] (SpN K ["ship", "cargo", "fills"] [] [0, 0, 0] 0 d_within) := by
  have G_right_fills := ok_right_fills (P := P) (w := w) (base := base) T
  have G_rooms_of := ok_rooms_of (P := P) (w := w) (base := base) T
  have G_rows_of := ok_rows_of (P := P) (w := w) (base := base) T
  refine T.F_within.okD sc_within rfl fun cdv A outer s H E F0 g0 σ0 wf hr => ⟨[0, 0, 0], ?_⟩
  exact (dss_one (ds_ret (de_call mkS G_right_fills (hr.mono (by decide)) rfl T.m_right_fills T.F_right_fills.kp T.b_right_fills (da_val (de_call mkS G_rows_of (hr.mono (by decide)) rfl T.m_rows_of T.F_rows_of.kp T.b_rows_of (da_val (de_var 0) (da_val (de_var 1) da_nil))) (da_val (de_call mkS G_rooms_of (hr.mono (by decide)) rfl T.m_rooms_of T.F_rooms_of.kp T.b_rooms_of (da_val (de_var 0) da_nil)) (da_val (de_var 2) da_nil))))))
theorem ok_l_cell_at (T : Txt K mg) : FnOk P w K mg base (CXE P w K) 1 T.f_l_cell_at T.fd_l_cell_at ["_law_script", "_law_k"] (SpN K ["_law_script", "_law_k"] [] [0, 0] 0 d_l_cell_at) := by
  refine T.F_l_cell_at.okD sc_l_cell_at rfl fun cdv A outer s H E F0 g0 σ0 wf hr => ⟨[0, 0], ?_⟩
  exact (dss_cons (ds_if (dt_cmp mkS op_lt os_lt (de_var 1) (de_len mkS rfl T.z_len (de_var 0)) (nomark _))
      (dss_one (ds_ret (de_ix mkS (de_var 0) (de_var 1))))
      dss_nil)
    (dss_one (ds_ret de_int)))
theorem ok_l_shared (T : Txt K mg) : FnOk P w K mg base (CXE P w K) 1 T.f_l_shared T.fd_l_shared ["_law_one", "_law_other"] (SpN K ["_law_one", "_law_other"] [] [0, 0, 0] 0 d_l_shared) := by
  refine T.F_l_shared.okD sc_l_shared rfl fun cdv A outer s H E F0 g0 σ0 wf hr => ⟨[0, 0, 0], ?_⟩
  exact (dss_cons (ds_while PassesOwn.leaving (dt_cmp mkS (op_neD hr.units) os_ne (de_var 1) de_int (nomark _))
      (dss_cons (ds_set 2 mkS (de_mod mkS (de_var 0) (de_var 1)) sc_l_shared.nd)
      (dss_cons (ds_set 0 mkS (de_var 1) sc_l_shared.nd)
      (dss_one (ds_set 1 mkS (de_var 2) sc_l_shared.nd)))))
    (dss_one (ds_ret (de_var 0))))
theorem ok_l_low (T : Txt K mg) : FnOk P w K mg base (CXE P w K) 2 T.f_l_low T.fd_l_low ["_law_one"] (SpN K ["_law_one"] [] [0, 0] 0 d_l_low) := by
  have G_l_shared := ok_l_shared (P := P) (w := w) (base := base) T
  refine T.F_l_low.okD sc_l_low rfl fun cdv A outer s H E F0 g0 σ0 wf hr => ⟨[0, 0], ?_⟩
  exact (dss_cons (ds_set 1 mkS (de_call mkS G_l_shared (hr.mono (by decide)) rfl T.m_l_shared T.F_l_shared.kp T.b_l_shared (da_val (de_callB mkS call_abs fs_abs rfl T.z_abs bt_abs (dv_cons (de_ix mkS (de_var 0) de_int) dv_nil)) (da_val (de_ix mkS (de_var 0) de_int) da_nil))) sc_l_low.nd)
    (dss_one (ds_ret (de_tup (dv_cons (de_fdiv mkS (de_ix mkS (de_var 0) de_int) (de_var 1)) (dv_cons (de_fdiv mkS (de_ix mkS (de_var 0) de_int) (de_var 1)) dv_nil))))))
theorem ok_l_sum (T : Txt K mg) : FnOk P w K mg base (CXE P w K) 1 T.f_l_sum T.fd_l_sum ["_law_numbers", "_law_parts"] (SpN K ["_law_numbers", "_law_parts"] [] [0, 0, 0, 0, 0] 0 d_l_sum) := by
  refine T.F_l_sum.okD sc_l_sum rfl fun cdv A outer s H E F0 g0 σ0 wf hr => ⟨[0, 0, 0, 0, 0], ?_⟩
  exact (dss_cons (ds_set 2 mkS de_int sc_l_sum.nd)
    (dss_cons (ds_set 3 mkS de_int sc_l_sum.nd)
    (dss_cons (ds_forI PassesOwn.leaving rfl (di_range1 rfl T.z_range (de_len mkS rfl T.z_len (de_var 1))) (pg_name (i := 4) sc_l_sum.nd rfl (by first | exact Or.inl rfl | exact Or.inr rfl)) (tg_name mkS (notIn rfl) (by decide) rfl)
      (dss_cons (ds_set 2 mkS (de_add mkS (de_mul mkS (de_var 2) (de_ix mkS (de_ix mkS (de_var 1) (de_var 4)) de_int)) (de_mul mkS (de_mul mkS (de_ix mkS (de_var 0) (de_var 4)) (de_ix mkS (de_ix mkS (de_var 1) (de_var 4)) de_int)) (de_var 3))) sc_l_sum.nd)
      (dss_one (ds_set 3 mkS (de_mul mkS (de_var 3) (de_ix mkS (de_ix mkS (de_var 1) (de_var 4)) de_int)) sc_l_sum.nd))))
    (dss_one (ds_ret (de_tup (dv_cons (de_var 2) (dv_cons (de_var 3) dv_nil))))))))
theorem ok_l_number (T : Txt K mg) : FnOk P w K mg base (CXE P w K) 2 T.f_l_number T.fd_l_number ["_law_script", "_law_k", "_law_many"] (SpN K ["_law_script", "_law_k", "_law_many"] [] [0, 0, 0, 0] 0 d_l_number) := by
  have G_l_cell_at := ok_l_cell_at (P := P) (w := w) (base := base) T
  refine T.F_l_number.okD sc_l_number rfl fun cdv A outer s H E F0 g0 σ0 wf hr => ⟨[0, 0, 0, 0], ?_⟩
  exact (dss_cons (ds_set 3 mkS (de_add mkS (de_mod mkS (de_call mkS G_l_cell_at (hr.mono (by decide)) rfl T.m_l_cell_at T.F_l_cell_at.kp T.b_l_cell_at (da_val (de_var 0) (da_val (de_var 1) da_nil))) (de_pow mkS de_int de_int)) (de_mul mkS (de_add mkS (de_add mkS (de_mul mkS (de_var 1) (de_var 1)) (de_mul mkS de_int (de_var 1))) de_int) (de_mod mkS (de_call mkS G_l_cell_at (hr.mono (by decide)) rfl T.m_l_cell_at T.F_l_cell_at.kp T.b_l_cell_at (da_val (de_var 0) (da_val de_int da_nil))) (de_pow mkS de_int de_int)))) sc_l_number.nd)
    (dss_one (ds_ret (de_mod mkS (de_mod mkS (de_mul mkS (de_var 3) de_int) (de_add mkS (de_pow mkS de_int de_int) de_int)) (de_var 2)))))
theorem ok_l_word (T : Txt K mg) : FnOk P w K mg base (CXE P w K) 1 T.f_l_word T.fd_l_word ["_law_cell", "_law_k"] (SpN K ["_law_cell", "_law_k"] [] [0, 0] 0 d_l_word) := by
  refine T.F_l_word.okD sc_l_word rfl fun cdv A outer s H E F0 g0 σ0 wf hr => ⟨[0, 0], ?_⟩
  exact (dss_one (ds_ret (de_add mkS (de_add mkS (de_slice mkS sl_str ss_str de_str do_none (do_some (de_mod mkS (de_var 0) de_int))) (de_ix mkS de_str (de_var 1))) (de_slice mkS sl_str ss_str de_str do_none (do_some (de_mod mkS (de_fdiv mkS (de_var 0) de_int) de_int))))))
theorem ok_l_clipped (T : Txt K mg) : FnOk P w K mg base (CXE P w K) 1 T.f_l_clipped T.fd_l_clipped ["_law_number_here"] (SpN K ["_law_number_here"] [] [0] 0 d_l_clipped) := by
  refine T.F_l_clipped.okD sc_l_clipped rfl fun cdv A outer s H E F0 g0 σ0 wf hr => ⟨[0], ?_⟩
  exact (dss_one (ds_ret (de_callB mkS (call_max2 rfl) fs_max2 rfl T.z_max bt_max (dv_cons (de_sub mkS de_int (de_pow mkS de_int de_int)) (dv_cons (de_callB mkS (call_min2 rfl) fs_min2 rfl T.z_min bt_min (dv_cons (de_pow mkS de_int de_int) (dv_cons (de_var 0) dv_nil))) dv_nil)))))
theorem ok_l_loaded (T : Txt K mg) : FnOk P w K mg base (CXE P w K) 3 T.f_l_loaded T.fd_l_loaded ["_law_script", "_law_size", "_law_stacks"] (SpN K ["_law_script", "_law_size", "_law_stacks"] [] [0, 0, 0, 0, 0, 0, 0, 0, 0] 0 d_l_loaded) := by
  have G_l_cell_at := ok_l_cell_at (P := P) (w := w) (base := base) T
  have G_l_number := ok_l_number (P := P) (w := w) (base := base) T
  have G_l_word := ok_l_word (P := P) (w := w) (base := base) T
  refine T.F_l_loaded.okD sc_l_loaded rfl fun cdv A outer s H E F0 g0 σ0 wf hr => ⟨[0, 0, 0, 0, 0, 0, 0, 0, 0], ?_⟩
  exact (dss_cons (ds_set_lcompN 3 (xs := ["_law_stack"]) 10 mkS mkS rfl sc_l_loaded.nd (di_seq (de_var 2)) (fun C fp s H => (pg_name (i := 0) nd_l_loaded_1 rfl (Or.inl rfl))) (tgc_name mkS (by decide) (notIn rfl) (by decide) rfl) (fun C fp s H F1 H1 σ1 => (de_lst mkS dv_nil)))
    (dss_cons (ds_set 4 mkS (de_mod mkS (de_call mkS G_l_cell_at (hr.mono (by decide)) rfl T.m_l_cell_at T.F_l_cell_at.kp T.b_l_cell_at (da_val (de_var 0) (da_val de_int da_nil))) de_int) sc_l_loaded.nd)
    (dss_cons (ds_if (dt_cmp mkS (op_eqD hr.units) os_eq (de_mod mkS (de_fdiv mkS (de_call mkS G_l_cell_at (hr.mono (by decide)) rfl T.m_l_cell_at T.F_l_cell_at.kp T.b_l_cell_at (da_val (de_var 0) (da_val de_int da_nil))) de_int) de_int) de_int (nomark _))
      (dss_one (ds_set 4 mkS (de_add mkS de_int (de_var 4)) sc_l_loaded.nd))
      dss_nil)
    (dss_cons (ds_forI PassesOwn.leaving rfl (di_range1 rfl T.z_range (de_var 4)) (pg_name (i := 5) sc_l_loaded.nd rfl (by first | exact Or.inl rfl | exact Or.inr rfl)) (tg_name mkS (notIn rfl) (by decide) rfl)
      (dss_cons (ds_set 6 mkS (de_call mkS G_l_number (hr.mono (by decide)) rfl T.m_l_number T.F_l_number.kp T.b_l_number (da_val (de_var 0) (da_val (de_add mkS de_int (de_var 5)) (da_val (de_pow mkS de_int de_int) da_nil)))) sc_l_loaded.nd)
      (dss_cons (ds_set 7 mkS (de_call mkS G_l_word (hr.mono (by decide)) rfl T.m_l_word T.F_l_word.kp T.b_l_word (da_val (de_fdiv mkS (de_call mkS G_l_cell_at (hr.mono (by decide)) rfl T.m_l_cell_at T.F_l_cell_at.kp T.b_l_cell_at (da_val (de_var 0) (da_val de_int da_nil))) de_int) (da_val (de_var 5) da_nil))) sc_l_loaded.nd)
      (dss_cons (ds_set 8 mkS (de_tup (dv_cons (de_var 7) (dv_cons (de_add mkS de_int (de_mod mkS (de_var 6) (de_add mkS (de_fdiv mkS (de_var 1) de_int) de_int))) (dv_cons (de_add mkS de_str (de_slice mkS sl_str ss_str (de_var 7) do_none (do_some de_int))) (dv_cons de_str (dv_cons (de_mul mkS (de_mod mkS (de_var 6) de_int) (de_fdiv mkS (de_var 1) de_int)) dv_nil)))))) sc_l_loaded.nd)
      (dss_one (ds_expr (de_mutA 3 9 PySem.F.slot_list_append PySem.F.type_list_append mt_append mut_append (fun F H σ => (de_mod mkS (de_fdiv mkS (de_var 6) de_int) (de_len mkS rfl T.z_len (de_var 2)))) (fun F H σ => (dv_cons (de_var 8) dv_nil)))))))))
    (dss_fz 3 (dss_one (ds_ret (de_var 3))))))))
theorem ok_l_weighed (T : Txt K mg) : FnOk P w K mg base (CXE P w K) 1 T.f_l_weighed T.fd_l_weighed ["_law_own", "_law_stacks", "_law_cargo"] (SpN K ["_law_own", "_law_stacks", "_law_cargo"] [] [0, 0, 0, 0, 0, 0, 0] 0 d_l_weighed) := by
  refine T.F_l_weighed.okD sc_l_weighed rfl fun cdv A outer s H E F0 g0 σ0 wf hr => ⟨[0, 0, 0, 0, 0, 0, 0], ?_⟩
  exact (dss_cons (ds_set 3 mkS (de_lst mkS (dv_cons (de_ix mkS (de_var 0) de_int) (dv_cons (de_mul mkS (de_ix mkS (de_var 0) de_int) (de_ix mkS (de_var 0) de_int)) (dv_cons (de_mul mkS (de_ix mkS (de_var 0) de_int) (de_ix mkS (de_var 0) de_int)) (dv_cons (de_mul mkS (de_ix mkS (de_var 0) de_int) (de_ix mkS (de_var 0) de_int)) dv_nil))))) sc_l_weighed.nd)
    (dss_cons (ds_forI PassesOwn.leaving rfl (di_range1 rfl T.z_range (de_len mkS rfl T.z_len (de_var 1))) (pg_name (i := 4) sc_l_weighed.nd rfl (by first | exact Or.inl rfl | exact Or.inr rfl)) (tg_name mkS (notIn rfl) (by decide) rfl)
      (dss_one (ds_forI PassesOwn.leaving rfl (di_range1 rfl T.z_range (de_len mkS rfl T.z_len (de_ix mkS (de_var 2) (de_var 4)))) (pg_name (i := 5) sc_l_weighed.nd rfl (by first | exact Or.inl rfl | exact Or.inr rfl)) (tg_name mkS (notIn rfl) (by decide) rfl)
        (dss_cons (ds_set 6 mkS (de_ix mkS (de_ix mkS (de_ix mkS (de_var 2) (de_var 4)) (de_var 5)) de_int) sc_l_weighed.nd)
        (dss_cons (ds_put 3 mkS (de_add mkS (de_ixo 3 de_int) (de_var 6)) de_int)
        (dss_cons (ds_put 3 mkS (de_add mkS (de_ixo 3 de_int) (de_mul mkS (de_var 6) (de_ix mkS (de_ix mkS (de_var 1) (de_var 4)) de_int))) de_int)
        (dss_cons (ds_put 3 mkS (de_add mkS (de_ixo 3 de_int) (de_mul mkS (de_var 6) (de_ix mkS (de_ix mkS (de_var 1) (de_var 4)) de_int))) de_int)
        (dss_one (ds_put 3 mkS (de_add mkS (de_ixo 3 de_int) (de_mul mkS (de_var 6) (de_add mkS (de_ix mkS (de_ix mkS (de_var 1) (de_var 4)) de_int) (de_mul mkS (de_var 5) (de_ix mkS (de_ix mkS (de_var 1) (de_var 4)) de_int))))) de_int)))))))))
    (dss_fz 3 (dss_one (ds_ret (de_var 3))))))
theorem ok_l_bounds (T : Txt K mg) : FnOk P w K mg base (CXE P w K) 3 T.f_l_bounds T.fd_l_bounds ["_law_script", "_law_size", "_law_told"] (SpN K ["_law_script", "_law_size", "_law_told"] [] [0, 0, 0, 0, 0, 0, 0, 0] 0 d_l_bounds) := by
  have G_l_clipped := ok_l_clipped (P := P) (w := w) (base := base) T
  have G_l_number := ok_l_number (P := P) (w := w) (base := base) T
  refine T.F_l_bounds.okD sc_l_bounds rfl fun cdv A outer s H E F0 g0 σ0 wf hr => ⟨[0, 0, 0, 0, 0, 0, 0, 0], ?_⟩
  exact (dss_cons (ds_set 3 mkS (de_add mkS de_int (de_fdiv mkS (de_var 1) de_int)) sc_l_bounds.nd)
    (dss_cons (ds_set 4 mkS (de_lst mkS dv_nil) sc_l_bounds.nd)
    (dss_cons (ds_forI PassesOwn.leaving rfl (di_range1 rfl T.z_range de_int) (pg_name (i := 5) sc_l_bounds.nd rfl (by first | exact Or.inl rfl | exact Or.inr rfl)) (tg_name mkS (notIn rfl) (by decide) rfl)
      (dss_cons (ds_set 6 mkS (de_sub mkS (de_call mkS G_l_number (hr.mono (by decide)) rfl T.m_l_number T.F_l_number.kp T.b_l_number (da_val (de_var 0) (da_val (de_add mkS de_int (de_var 5)) (da_val de_int da_nil)))) de_int) sc_l_bounds.nd)
      (dss_cons (ds_set 7 mkS (de_add mkS (de_fdiv mkS (de_ix mkS (de_var 2) (de_add mkS de_int (de_var 5))) (de_ix mkS (de_var 2) de_int)) (de_mul mkS (de_var 6) (de_var 3))) sc_l_bounds.nd)
      (dss_cons (ds_expr (de_append 4 mkS (de_call mkS G_l_clipped (hr.mono (by decide)) rfl T.m_l_clipped T.F_l_clipped.kp T.b_l_clipped (da_val (de_var 7) da_nil))))
      (dss_one (ds_expr (de_append 4 mkS (de_call mkS G_l_clipped (hr.mono (by decide)) rfl T.m_l_clipped T.F_l_clipped.kp T.b_l_clipped (da_val (de_add mkS (de_var 7) (de_mul mkS (de_call mkS G_l_number (hr.mono (by decide)) rfl T.m_l_number T.F_l_number.kp T.b_l_number (da_val (de_var 0) (da_val (de_add mkS de_int (de_var 5)) (da_val de_int da_nil)))) (de_var 3))) da_nil)))))))))
    (dss_cons (ds_set 6 mkS (de_sub mkS (de_call mkS G_l_number (hr.mono (by decide)) rfl T.m_l_number T.F_l_number.kp T.b_l_number (da_val (de_var 0) (da_val de_int (da_val de_int da_nil)))) de_int) sc_l_bounds.nd)
    (dss_cons (ds_expr (de_append 4 mkS (de_call mkS G_l_clipped (hr.mono (by decide)) rfl T.m_l_clipped T.F_l_clipped.kp T.b_l_clipped (da_val (de_add mkS (de_fdiv mkS (de_ix mkS (de_var 2) de_int) (de_ix mkS (de_var 2) de_int)) (de_mul mkS (de_var 6) (de_var 3))) da_nil))))
    (dss_cons (ds_set 6 mkS (de_sub mkS (de_call mkS G_l_number (hr.mono (by decide)) rfl T.m_l_number T.F_l_number.kp T.b_l_number (da_val (de_var 0) (da_val de_int (da_val de_int da_nil)))) de_int) sc_l_bounds.nd)
    (dss_cons (ds_expr (de_append 4 mkS (de_call mkS G_l_clipped (hr.mono (by decide)) rfl T.m_l_clipped T.F_l_clipped.kp T.b_l_clipped (da_val (de_callB mkS (call_max2 rfl) fs_max2 rfl T.z_max bt_max (dv_cons de_int (dv_cons (de_add mkS (de_ix mkS (de_var 2) de_int) (de_mul mkS (de_var 6) (de_add mkS (de_fdiv mkS (de_var 1) de_int) de_int))) dv_nil))) da_nil))))
    (dss_fz 4 (dss_one (ds_ret (de_callTy mkS call_tuple_of fs_tuple rfl T.z_tuple bt_tuple (dv_cons (de_var 4) dv_nil))))))))))))
theorem ok_l_paired (T : Txt K mg) : FnOk P w K mg base (CXE P w K) 1 T.f_l_paired T.fd_l_paired ["_law_some"] (SpN K ["_law_some"] [] [0, 0, 0, 0] 0 d_l_paired) := by
  refine T.F_l_paired.okD sc_l_paired rfl fun cdv A outer s H E F0 g0 σ0 wf hr => ⟨[0, 0, 0, 0], ?_⟩
  exact (dss_cons (ds_set 1 mkS (de_lst mkS dv_nil) sc_l_paired.nd)
    (dss_cons (ds_forI PassesOwn.leaving rfl (di_range1 rfl T.z_range (de_len mkS rfl T.z_len (de_var 0))) (pg_name (i := 2) sc_l_paired.nd rfl (by first | exact Or.inl rfl | exact Or.inr rfl)) (tg_name mkS (notIn rfl) (by decide) rfl)
      (dss_cons (ds_set 3 mkS (de_ix mkS (de_var 0) (de_var 2)) sc_l_paired.nd)
      (dss_cons (ds_if (dt_cmp mkS (op_eqD hr.units) os_eq (de_mod mkS (de_var 2) de_int) de_int (nomark _))
        (dss_one (ds_set 3 mkS (de_add mkS (de_tup (dv_cons (de_ix mkS (de_var 3) de_int) (dv_cons (de_ix mkS (de_ixo 1 (de_sub mkS (de_var 2) de_int)) de_int) (dv_cons (de_sub mkS de_int (de_ix mkS (de_ixo 1 (de_sub mkS (de_var 2) de_int)) de_int)) dv_nil)))) (de_slice mkS sl_tup ss_tup (de_ixo 1 (de_sub mkS (de_var 2) de_int)) (do_some de_int) do_none)) sc_l_paired.nd))
        dss_nil)
      (dss_one (ds_expr (de_append 1 mkS (de_var 3)))))))
    (dss_fz 1 (dss_one (ds_ret (de_var 1))))))
theorem ok_l_ship (T : Txt K mg) : FnOk P w K mg base (CXE P w K) 4 T.f_l_ship T.fd_l_ship ["_law_script"] (SpN K ["_law_script"] [] [0, 0, 0, 0, 0, 0, 0, 0, 0, 0, 0, 0, 0] 0 d_l_ship) := by
  have G_l_bounds := ok_l_bounds (P := P) (w := w) (base := base) T
  have G_l_cell_at := ok_l_cell_at (P := P) (w := w) (base := base) T
  have G_l_loaded := ok_l_loaded (P := P) (w := w) (base := base) T
  have G_l_number := ok_l_number (P := P) (w := w) (base := base) T
  have G_l_paired := ok_l_paired (P := P) (w := w) (base := base) T
  have G_l_weighed := ok_l_weighed (P := P) (w := w) (base := base) T
  have G_l_word := ok_l_word (P := P) (w := w) (base := base) T
  refine T.F_l_ship.okD sc_l_ship rfl fun cdv A outer s H E F0 g0 σ0 wf hr => ⟨[0, 0, 0, 0, 0, 0, 0, 0, 0, 0, 0, 0, 0], ?_⟩
  exact (dss_cons (ds_set 1 mkS (de_ix mkS (de_fz mkS (de_lst mkS (dv_cons de_int (dv_cons (de_pow mkS de_int de_int) (dv_cons (de_pow mkS de_int de_int) dv_nil))))) (de_mod mkS (de_call mkS G_l_cell_at (hr.mono (by decide)) rfl T.m_l_cell_at T.F_l_cell_at.kp T.b_l_cell_at (da_val (de_var 0) (da_val de_int da_nil))) de_int)) sc_l_ship.nd)
    (dss_cons (ds_set 2 mkS (de_lst mkS (dv_cons (de_add mkS de_int (de_call mkS G_l_number (hr.mono (by decide)) rfl T.m_l_number T.F_l_number.kp T.b_l_number (da_val (de_var 0) (da_val de_int (da_val (de_fdiv mkS (de_var 1) de_int) da_nil))))) dv_nil)) sc_l_ship.nd)
    (dss_cons (ds_forI PassesOwn.leaving rfl (di_range1 rfl T.z_range de_int) (pg_name (i := 3) sc_l_ship.nd rfl (by first | exact Or.inl rfl | exact Or.inr rfl)) (tg_name mkS (notIn rfl) (by decide) rfl)
      (dss_one (ds_expr (de_append 2 mkS (de_sub mkS (de_call mkS G_l_number (hr.mono (by decide)) rfl T.m_l_number T.F_l_number.kp T.b_l_number (da_val (de_var 0) (da_val (de_add mkS de_int (de_var 3)) (da_val (de_add mkS (de_mul mkS de_int (de_var 1)) de_int) da_nil)))) (de_var 1))))))
    (dss_cons (ds_set 4 mkS (de_lst mkS dv_nil) sc_l_ship.nd)
    (dss_cons (ds_forI PassesOwn.leaving rfl (di_range1 rfl T.z_range (de_add mkS de_int (de_mod mkS (de_call mkS G_l_cell_at (hr.mono (by decide)) rfl T.m_l_cell_at T.F_l_cell_at.kp T.b_l_cell_at (da_val (de_var 0) (da_val de_int da_nil))) de_int))) (pg_name (i := 3) sc_l_ship.nd rfl (by first | exact Or.inl rfl | exact Or.inr rfl)) (tg_name mkS (notIn rfl) (by decide) rfl)
      (dss_cons (ds_set_lcomp 5 (xs := ["_law_j"]) mkS mkS rfl sc_l_ship.nd (di_range1 rfl T.z_range de_int) (fun C fp s H => (pg_name (i := 0) nd_l_ship_1 rfl (Or.inl rfl))) (tgc_name mkS (by decide) (notIn rfl) (by decide) rfl) (fun C fp s H => dif_nil) (fun C fp s H => (de_sub mkS (de_call mkS G_l_number (hr.mono (by decide)) rfl T.m_l_number T.F_l_number.kp T.b_l_number (da_val (de_var 1) (da_val (de_add mkS (de_add mkS de_int (de_mul mkS de_int (de_var 4))) (de_var 0)) (da_val (de_add mkS (de_mul mkS de_int (de_var 2)) de_int) da_nil)))) (de_var 2))))
      (dss_cons (ds_set 6 mkS (de_add mkS de_int (de_call mkS G_l_number (hr.mono (by decide)) rfl T.m_l_number T.F_l_number.kp T.b_l_number (da_val (de_var 0) (da_val (de_add mkS de_int (de_mul mkS de_int (de_var 3))) (da_val (de_fdiv mkS (de_var 1) de_int) da_nil))))) sc_l_ship.nd)
      (dss_cons (ds_expr (de_append 4 mkS (de_tup (dv_cons (de_call mkS G_l_word (hr.mono (by decide)) rfl T.m_l_word T.F_l_word.kp T.b_l_word (da_val (de_var 3) (da_val (de_var 3) da_nil))) (dv_cons (de_ixo 5 de_int) (dv_cons (de_ixo 5 de_int) (dv_cons (de_ixo 5 de_int) (dv_cons (de_var 6) (dv_cons (de_add mkS de_int (de_var 3)) (dv_cons (de_var 1) dv_nil))))))))))
      (dss_fz 5 dss_nil)))))
    (dss_cons (ds_set 7 mkS (de_lst mkS dv_nil) sc_l_ship.nd)
    (dss_cons (ds_forI PassesOwn.leaving rfl (di_range1 rfl T.z_range (de_mod mkS (de_fdiv mkS (de_call mkS G_l_cell_at (hr.mono (by decide)) rfl T.m_l_cell_at T.F_l_cell_at.kp T.b_l_cell_at (da_val (de_var 0) (da_val de_int da_nil))) de_int) de_int)) (pg_name (i := 3) sc_l_ship.nd rfl (by first | exact Or.inl rfl | exact Or.inr rfl)) (tg_name mkS (notIn rfl) (by decide) rfl)
      (dss_cons (ds_set_lcomp 5 (xs := ["_law_j"]) mkS mkS rfl sc_l_ship.nd (di_range1 rfl T.z_range de_int) (fun C fp s H => (pg_name (i := 0) nd_l_ship_2 rfl (Or.inl rfl))) (tgc_name mkS (by decide) (notIn rfl) (by decide) rfl) (fun C fp s H => dif_nil) (fun C fp s H => (de_sub mkS (de_call mkS G_l_number (hr.mono (by decide)) rfl T.m_l_number T.F_l_number.kp T.b_l_number (da_val (de_var 1) (da_val (de_add mkS (de_add mkS de_int (de_mul mkS de_int (de_var 4))) (de_var 0)) (da_val (de_add mkS (de_mul mkS de_int (de_var 2)) de_int) da_nil)))) (de_var 2))))
      (dss_cons (ds_set 8 mkS (de_add mkS de_int (de_call mkS G_l_number (hr.mono (by decide)) rfl T.m_l_number T.F_l_number.kp T.b_l_number (da_val (de_var 0) (da_val (de_add mkS de_int (de_mul mkS de_int (de_var 3))) (da_val (de_fdiv mkS (de_var 1) de_int) da_nil))))) sc_l_ship.nd)
      (dss_cons (ds_expr (de_append 7 mkS (de_tup (dv_cons (de_call mkS G_l_word (hr.mono (by decide)) rfl T.m_l_word T.F_l_word.kp T.b_l_word (da_val de_int (da_val (de_var 3) da_nil))) (dv_cons (de_ixo 5 de_int) (dv_cons (de_ixo 5 de_int) (dv_cons (de_ixo 5 de_int) (dv_cons (de_var 8) dv_nil))))))))
      (dss_fz 5 dss_nil)))))
    (dss_cons (ds_set 9 mkS (de_cmp mkS (op_eqD hr.units) os_eq (de_mod mkS (de_fdiv mkS (de_call mkS G_l_cell_at (hr.mono (by decide)) rfl T.m_l_cell_at T.F_l_cell_at.kp T.b_l_cell_at (da_val (de_var 0) (da_val de_int da_nil))) de_int) de_int) de_int (nomark _)) sc_l_ship.nd)
    (dss_cons (ds_if (dt_val (de_var 9))
      (dss_cons (ds_put 2 mkS de_int de_int)
      (dss_fz 4 (dss_cons (ds_set 4 mkS (de_call mkS G_l_paired (hr.mono (by decide)) rfl T.m_l_paired T.F_l_paired.kp T.b_l_paired (da_val (de_var 4) da_nil)) sc_l_ship.nd)
      (dss_fz 7 (dss_one (ds_set 7 mkS (de_call mkS G_l_paired (hr.mono (by decide)) rfl T.m_l_paired T.F_l_paired.kp T.b_l_paired (da_val (de_var 7) da_nil)) sc_l_ship.nd))))))
      (dss_fz 7 (dss_fz 4 dss_nil)))
    (dss_cons (ds_set 10 mkS (de_call mkS G_l_loaded (hr.mono (by decide)) rfl T.m_l_loaded T.F_l_loaded.kp T.b_l_loaded (da_val (de_var 0) (da_val (de_var 1) (da_val (de_var 4) da_nil)))) sc_l_ship.nd)
    (dss_fz 2 (dss_cons (ds_set 11 mkS (de_call mkS G_l_bounds (hr.mono (by decide)) rfl T.m_l_bounds T.F_l_bounds.kp T.b_l_bounds (da_val (de_var 0) (da_val (de_var 1) (da_val (de_call mkS G_l_weighed (hr.mono (by decide)) rfl T.m_l_weighed T.F_l_weighed.kp T.b_l_weighed (da_val (de_var 2) (da_val (de_var 4) (da_val (de_var 10) da_nil)))) da_nil)))) sc_l_ship.nd)
    (dss_cons (ds_if (dt_val (de_var 9))
      (dss_cons (ds_set 12 mkS (de_mul mkS (de_call mkS G_l_number (hr.mono (by decide)) rfl T.m_l_number T.F_l_number.kp T.b_l_number (da_val (de_var 0) (da_val de_int (da_val de_int da_nil)))) (de_add mkS de_int (de_fdiv mkS (de_var 1) de_int))) sc_l_ship.nd)
      (dss_one (ds_set 11 mkS (de_add mkS (de_add mkS (de_slice mkS sl_tup ss_tup (de_var 11) do_none (do_some de_int)) (de_tup (dv_cons (de_sub mkS de_int (de_var 12)) (dv_cons (de_var 12) dv_nil)))) (de_slice mkS sl_tup ss_tup (de_var 11) (do_some de_int) do_none)) sc_l_ship.nd)))
      dss_nil)
    (dss_one (ds_ret (de_tup (dv_cons (de_tup (dv_cons (de_callTy mkS call_tuple_of fs_tuple rfl T.z_tuple bt_tuple (dv_cons (de_var 2) dv_nil)) (dv_cons (de_var 11) (dv_cons (de_var 4) (dv_cons (de_var 7) (dv_cons (de_fz mkS (de_lst mkS (dv_cons (de_tup (dv_cons de_str (dv_cons de_str (dv_cons de_int dv_nil)))) dv_nil))) dv_nil)))))) (dv_cons (de_var 10) dv_nil))))))))))))))))))
theorem ok_l_copied (T : Txt K mg) : FnOk P w K mg base (CXE P w K) 1 T.f_l_copied T.fd_l_copied ["_law_ship_here", "_law_cargo"] (SpN K ["_law_ship_here", "_law_cargo"] [] [0, 0] 0 d_l_copied) := by
  refine T.F_l_copied.okD sc_l_copied rfl fun cdv A outer s H E F0 g0 σ0 wf hr => ⟨[0, 0], ?_⟩
  exact (dss_one (ds_ret (de_tup (dv_cons (de_tup (dv_cons (de_ix mkS (de_var 0) de_int) (dv_cons (de_ix mkS (de_var 0) de_int) (dv_cons (de_fz mkS (de_callTy mkS call_list_of fs_list rfl T.z_list bt_list (dv_cons (de_ix mkS (de_var 0) de_int) dv_nil))) (dv_cons (de_fz mkS (de_callTy mkS call_list_of fs_list rfl T.z_list bt_list (dv_cons (de_ix mkS (de_var 0) de_int) dv_nil))) (dv_cons (de_fz mkS (de_callTy mkS call_list_of fs_list rfl T.z_list bt_list (dv_cons (de_ix mkS (de_var 0) de_int) dv_nil))) dv_nil)))))) (dv_cons (de_fz mkS (de_lcomp (xs := ["_law_boxes"]) mkS mkS rfl (di_seq (de_var 1)) (fun C fp s H => (pg_name (i := 0) nd_l_copied_1 rfl (Or.inl rfl))) (tgc_name mkS (by decide) (notIn rfl) (by decide) rfl) (fun C fp s H => dif_nil) (fun C fp s H => (de_fz mkS (de_callTy mkS call_list_of fs_list rfl T.z_list bt_list (dv_cons (de_var 0) dv_nil)))))) dv_nil)))))
theorem ok_l_upright (T : Txt K mg) : FnOk P w K mg base (CXE P w K) 2 T.f_l_upright T.fd_l_upright ["_law_ship_here", "_law_cargo", "_law_fills_here"] (SpN K ["_law_ship_here", "_law_cargo", "_law_fills_here"] [] [0, 0, 0, 0, 0, 0, 0, 0, 0, 0] 0 d_l_upright) := by
  have G_l_sum := ok_l_sum (P := P) (w := w) (base := base) T
  have G_l_weighed := ok_l_weighed (P := P) (w := w) (base := base) T
  refine T.F_l_upright.okD sc_l_upright rfl fun cdv A outer s H E F0 g0 σ0 wf hr => ⟨[0, 0, 0, 0, 0, 0, 0, 0, 0, 0], ?_⟩
  exact (dss_cons (ds_forI PassesOwn.leaving rfl (di_range1 rfl T.z_range (de_len mkS rfl T.z_len (de_var 2))) (pg_name (i := 3) sc_l_upright.nd rfl (by first | exact Or.inl rfl | exact Or.inr rfl)) (tg_name mkS (notIn rfl) (by decide) rfl)
      (dss_one (ds_if (dt_bool (dw_or (dt_cmp mkS op_lt os_lt (de_ix mkS (de_ix mkS (de_var 2) (de_var 3)) de_int) de_int (nomark _)) (dw_or1 (dt_cmp mkS op_gt os_gt (de_ix mkS (de_ix mkS (de_var 2) (de_var 3)) de_int) (de_mul mkS (de_ix mkS (de_ix mkS (de_ix mkS (de_var 0) de_int) (de_var 3)) de_int) (de_ix mkS (de_ix mkS (de_var 2) (de_var 3)) de_int)) (nomark _)))))
        (dss_one (ds_ret de_bl))
        dss_nil)))
    (dss_cons (ds_set 4 mkS (de_call mkS G_l_weighed (hr.mono (by decide)) rfl T.m_l_weighed T.F_l_weighed.kp T.b_l_weighed (da_val (de_ix mkS (de_var 0) de_int) (da_val (de_ix mkS (de_var 0) de_int) (da_val (de_var 1) da_nil)))) sc_l_upright.nd)
    (dss_cons (ds_set_lcomp 5 (xs := ["_law_number_here"]) mkS mkS rfl sc_l_upright.nd (di_seq (de_var 4)) (fun C fp s H => (pg_name (i := 0) nd_l_upright_1 rfl (Or.inl rfl))) (tgc_name mkS (by decide) (notIn rfl) (by decide) rfl) (fun C fp s H => dif_nil) (fun C fp s H => (de_tup (dv_cons (de_var 0) (dv_cons de_int dv_nil)))))
    (dss_cons (ds_set 6 mkS (de_lst mkS dv_nil) sc_l_upright.nd)
    (dss_cons (ds_forI PassesOwn.leaving rfl (di_range1 rfl T.z_range de_int) (pg_name (i := 3) sc_l_upright.nd rfl (by first | exact Or.inl rfl | exact Or.inr rfl)) (tg_name mkS (notIn rfl) (by decide) rfl)
      (dss_cons (ds_set_lcomp 7 (xs := ["_law_tank"]) mkS mkS rfl sc_l_upright.nd (di_seq (de_ix mkS (de_var 0) de_int)) (fun C fp s H => (pg_name (i := 0) nd_l_upright_2 rfl (Or.inl rfl))) (tgc_name mkS (by decide) (notIn rfl) (by decide) rfl) (fun C fp s H => dif_nil) (fun C fp s H => de_int))
      (dss_cons (ds_if (dt_cmp mkS op_gt os_gt (de_var 3) de_int (nomark _))
        (dss_one (ds_set_lcomp 7 (xs := ["_law_tank"]) mkS mkS rfl sc_l_upright.nd (di_seq (de_ix mkS (de_var 0) de_int)) (fun C fp s H => (pg_name (i := 0) nd_l_upright_4 rfl (Or.inl rfl))) (tgc_name mkS (by decide) (notIn rfl) (by decide) rfl) (fun C fp s H => dif_nil) (fun C fp s H => (de_ix mkS (de_var 0) (de_var 4)))))
        dss_nil)
      (dss_fz 7 (dss_one (ds_expr (de_append 6 mkS (de_call mkS G_l_sum (hr.mono (by decide)) rfl T.m_l_sum T.F_l_sum.kp T.b_l_sum (da_val (de_add mkS (de_var 7) (de_fz mkS (de_lst mkS (dv_cons de_int dv_nil)))) (da_val (de_add mkS (de_var 2) (de_fz mkS (de_lst mkS (dv_cons (de_ixo 5 (de_var 3)) dv_nil)))) da_nil))))))))))
    (dss_cons (ds_set 8 mkS (de_ix mkS (de_var 0) de_int) sc_l_upright.nd)
    (dss_cons (ds_forI PassesOwn.leaving rfl (di_range1 rfl T.z_range de_int) (pg_name (i := 3) sc_l_upright.nd rfl (by first | exact Or.inl rfl | exact Or.inr rfl)) (tg_name mkS (notIn rfl) (by decide) rfl)
      (dss_cons (ds_set 9 mkS (de_mul mkS (de_ix mkS (de_ixo 6 (de_add mkS de_int (de_var 3))) de_int) (de_ix mkS (de_ixo 6 de_int) de_int)) sc_l_upright.nd)
      (dss_cons (ds_set 7 mkS (de_mul mkS (de_ix mkS (de_ixo 6 de_int) de_int) (de_ix mkS (de_ixo 6 (de_add mkS de_int (de_var 3))) de_int)) sc_l_upright.nd)
      (dss_one (ds_if (dt_bool (dw_or (dt_cmp mkS op_lt os_lt (de_var 9) (de_mul mkS (de_ix mkS (de_var 8) (de_mul mkS de_int (de_var 3))) (de_var 7)) (nomark _)) (dw_or1 (dt_cmp mkS op_gt os_gt (de_var 9) (de_mul mkS (de_ix mkS (de_var 8) (de_add mkS (de_mul mkS de_int (de_var 3)) de_int)) (de_var 7)) (nomark _)))))
        (dss_one (ds_ret de_bl))
        dss_nil)))))
    (dss_cons (ds_if (dt_cmp mkS op_gt os_gt (de_mul mkS (de_ix mkS (de_ixo 6 de_int) de_int) (de_ix mkS (de_ixo 6 de_int) de_int)) (de_mul mkS (de_mul mkS (de_ix mkS (de_var 8) de_int) (de_ix mkS (de_ixo 6 de_int) de_int)) (de_ix mkS (de_ixo 6 de_int) de_int)) (nomark _))
      (dss_one (ds_ret de_bl))
      dss_nil)
    (dss_one (ds_ret (de_cmp mkS op_le os_le (de_ix mkS (de_ixo 6 de_int) de_int) (de_mul mkS (de_ix mkS (de_var 8) de_int) (de_ix mkS (de_ixo 6 de_int) de_int)) (nomark _))))))))))))
theorem ok_l_fills (T : Txt K mg) : FnOk P w K mg base (CXE P w K) 3 T.f_l_fills T.fd_l_fills ["_law_ship_here", "_law_cell"] (SpN K ["_law_ship_here", "_law_cell"] [] [0, 0, 0, 0, 0, 0] 0 d_l_fills) := by
  have G_l_low := ok_l_low (P := P) (w := w) (base := base) T
  refine T.F_l_fills.okD sc_l_fills rfl fun cdv A outer s H E F0 g0 σ0 wf hr => ⟨[0, 0, 0, 0, 0, 0], ?_⟩
  exact (dss_cons (ds_set 2 mkS (de_lst mkS dv_nil) sc_l_fills.nd)
    (dss_cons (ds_forI PassesOwn.leaving rfl (di_range1 rfl T.z_range (de_len mkS rfl T.z_len (de_ix mkS (de_var 0) de_int))) (pg_name (i := 3) sc_l_fills.nd rfl (by first | exact Or.inl rfl | exact Or.inr rfl)) (tg_name mkS (notIn rfl) (by decide) rfl)
      (dss_cons (ds_set 4 mkS (de_ix mkS (de_ix mkS (de_ix mkS (de_var 0) de_int) (de_var 3)) de_int) sc_l_fills.nd)
      (dss_cons (ds_set 5 mkS (de_fdiv mkS (de_var 1) (de_add mkS (de_var 3) de_int)) sc_l_fills.nd)
      (dss_one (ds_if (dt_cmp mkS (op_eqD hr.units) os_eq (de_mod mkS (de_var 5) de_int) de_int (nomark _))
        (dss_one (ds_expr (de_append 2 mkS (de_tup (dv_cons de_int (dv_cons de_int dv_nil))))))
        (dss_one (ds_if (dt_cmp mkS (op_eqD hr.units) os_eq (de_mod mkS (de_var 5) de_int) de_int (nomark _))
          (dss_one (ds_expr (de_append 2 mkS (de_tup (dv_cons (de_var 4) (dv_cons de_int dv_nil))))))
          (dss_one (ds_expr (de_append 2 mkS (de_call mkS G_l_low (hr.mono (by decide)) rfl T.m_l_low T.F_l_low.kp T.b_l_low (da_val (de_tup (dv_cons (de_sub mkS (de_sub mkS (de_mod mkS (de_var 5) (de_add mkS (de_mul mkS de_int (de_var 4)) de_int)) de_int) (de_var 4)) (dv_cons de_int dv_nil))) da_nil))))))))))))
    (dss_fz 2 (dss_one (ds_ret (de_var 2))))))
theorem ok_l_broken (T : Txt K mg) : FnOk P w K mg base (CXE P w K) 3 T.f_l_broken T.fd_l_broken ["_law_cell", "_law_many"] (SpN K ["_law_cell", "_law_many"] [] [0, 0, 0, 0, 0, 0, 0, 0] 0 d_l_broken) := by
  have G_breaking := ok_breaking (P := P) (w := w) (base := base) T
  refine T.F_l_broken.okD sc_l_broken rfl fun cdv A outer s H E F0 g0 σ0 wf hr => ⟨[0, 0, 0, 0, 0, 0, 0, 0], ?_⟩
  exact (dss_cons (ds_set 2 mkS (de_lst mkS dv_nil) sc_l_broken.nd)
    (dss_cons (ds_set 3 mkS (de_lst mkS dv_nil) sc_l_broken.nd)
    (dss_cons (ds_forI PassesOwn.leaving rfl (di_range1 rfl T.z_range de_int) (pg_name (i := 4) sc_l_broken.nd rfl (by first | exact Or.inl rfl | exact Or.inr rfl)) (tg_name mkS (notIn rfl) (by decide) rfl)
      (dss_cons (ds_set 5 mkS (de_mod mkS (de_fdiv mkS (de_var 0) (de_add mkS (de_var 4) de_int)) de_int) sc_l_broken.nd)
      (dss_cons (ds_if (dt_cmp mkS op_gt os_gt (de_var 5) de_int (nomark _))
        (dss_one (ds_expr (de_append 3 mkS (de_var 4))))
        dss_nil)
      (dss_one (ds_expr (de_append 2 mkS (de_ix mkS (de_fz mkS (de_lst mkS (dv_cons (de_tup (dv_cons de_int (dv_cons de_int dv_nil))) (dv_cons (de_tup (dv_cons de_int (dv_cons de_int dv_nil))) (dv_cons (de_tup (dv_cons de_int (dv_cons (de_add mkS de_int (de_mod mkS (de_var 0) de_int)) dv_nil))) (dv_cons (de_tup (dv_cons de_int (dv_cons de_int dv_nil))) dv_nil)))))) (de_var 5))))))))
    (dss_fz 2 (dss_cons (ds_set 6 mkS (de_tup (dv_cons (de_fz mkS (de_callTy mkS call_list_of fs_list rfl T.z_list bt_list (dv_cons (de_var 2) dv_nil))) (dv_cons (de_fz mkS (de_many mkS (de_fz mkS (de_lst mkS (dv_cons (de_tup (dv_cons (de_mod mkS (de_var 0) de_int) (dv_cons de_int dv_nil))) dv_nil))) (de_var 1))) dv_nil))) sc_l_broken.nd)
    (dss_cons (ds_set 7 mkS (de_call mkS G_breaking (hr.mono (by decide)) rfl T.m_breaking T.F_breaking.kp T.b_breaking (da_val (de_var 6) da_nil)) sc_l_broken.nd)
    (dss_cons (ds_if (dt_cmp mkS (op_neD hr.units) os_ne (de_var 6) (de_tup (dv_cons (de_var 2) (dv_cons (de_fz mkS (de_many mkS (de_fz mkS (de_lst mkS (dv_cons (de_tup (dv_cons (de_mod mkS (de_var 0) de_int) (dv_cons de_int dv_nil))) dv_nil))) (de_var 1))) dv_nil))) (nomark _))
      (dss_one (ds_ret de_bl))
      dss_nil)
    (dss_cons (ds_if (dt_bool (dw_or (dt_not (dt_val (de_isi .list rfl rfl T.z_isinstance rfl T.z_list bt_list (de_var 7)))) (dw_or1 (dt_cmp mkS op_in_seq os_inL de_bl (de_fz mkS (de_lcomp (xs := ["_law_one"]) mkS mkS rfl (di_seq (de_var 7)) (fun C fp s H => (pg_name (i := 0) nd_l_broken_1 rfl (Or.inl rfl))) (tgc_name mkS (by decide) (notIn rfl) (by decide) rfl) (fun C fp s H => dif_nil) (fun C fp s H => (de_isi .bool rfl rfl T.z_isinstance rfl T.z_bool bt_bool (de_var 0))))) (by with_unfolding_all rfl)))))
      (dss_one (ds_ret de_bl))
      dss_nil)
    (dss_one (ds_ret (de_bor 8 (fun F H σ => (de_cmp mkS (op_eqD hr.units) os_eq (de_var 7) (de_var 3) (nomark _))))))))))))))
theorem ok_law (T : Txt K mg) : FnOk P w K mg base (CXE P w K) 7 T.f_law T.fd_law ["_law_script"] (SpN K ["_law_script"] [] [0, 0, 0, 0, 0, 0, 0, 0] 0 d_law) := by
  have G_l_broken := ok_l_broken (P := P) (w := w) (base := base) T
  have G_l_copied := ok_l_copied (P := P) (w := w) (base := base) T
  have G_l_fills := ok_l_fills (P := P) (w := w) (base := base) T
  have G_l_ship := ok_l_ship (P := P) (w := w) (base := base) T
  have G_l_upright := ok_l_upright (P := P) (w := w) (base := base) T
  have G_within := ok_within (P := P) (w := w) (base := base) T
  refine T.F_law.okD sc_law rfl fun cdv A outer s H E F0 g0 σ0 wf hr => ⟨[0, 0, 0, 0, 0, 0, 0, 0], ?_⟩
  exact (dss_cons (ds_asg (de_call mkS G_l_ship (hr.mono (by decide)) rfl T.m_l_ship T.F_l_ship.kp T.b_l_ship (da_val (de_var 0) da_nil)) (pg_tup rfl (pgs_cons (pg_name (i := 1) sc_law.nd rfl (by first | exact Or.inl rfl | exact Or.inr rfl)) (pgs_cons (pg_name (i := 2) sc_law.nd rfl (by first | exact Or.inl rfl | exact Or.inr rfl)) pgs_nil))) (tg_tup (is := [1, 2]) mkS (by intro i hi; simp only [List.mem_cons, List.not_mem_nil, or_false] at hi; rcases hi with rfl | rfl <;> exact ⟨notIn rfl, by decide, rfl⟩) rfl))
    (dss_cons (ds_set 3 mkS (de_call mkS G_l_copied (hr.mono (by decide)) rfl T.m_l_copied T.F_l_copied.kp T.b_l_copied (da_val (de_var 1) (da_val (de_var 2) da_nil))) sc_law.nd)
    (dss_cons (ds_forI PassesOwn.leaving rfl (di_seq (de_add mkS (de_fz mkS (de_lst mkS (dv_cons de_int dv_nil))) (de_fz mkS (de_slice mkS sl_list ss_list (de_var 0) (do_some de_int) (do_some de_int))))) (pg_name (i := 4) sc_law.nd rfl (by first | exact Or.inl rfl | exact Or.inr rfl)) (tg_name mkS (notIn rfl) (by decide) rfl)
      (dss_cons (ds_set 5 mkS (de_call mkS G_l_fills (hr.mono (by decide)) rfl T.m_l_fills T.F_l_fills.kp T.b_l_fills (da_val (de_var 1) (da_val (de_mod mkS (de_var 4) (de_pow mkS de_int de_int)) da_nil))) sc_law.nd)
      (dss_cons (ds_set 6 mkS (de_fz mkS (de_callTy mkS call_list_of fs_list rfl T.z_list bt_list (dv_cons (de_var 5) dv_nil))) sc_law.nd)
      (dss_cons (ds_set 7 mkS (de_call mkS G_within (hr.mono (by decide)) rfl T.m_within T.F_within.kp T.b_within (da_val (de_ix mkS (de_var 3) de_int) (da_val (de_ix mkS (de_var 3) de_int) (da_val (de_var 6) da_nil)))) sc_law.nd)
      (dss_cons (ds_if (dt_bool (dw_or (dt_not (dt_val (de_isi .bool rfl rfl T.z_isinstance rfl T.z_bool bt_bool (de_var 7)))) (dw_or (dt_cmp mkS (op_neD hr.units) os_ne (de_var 7) (de_call mkS G_l_upright (hr.mono (by decide)) rfl T.m_l_upright T.F_l_upright.kp T.b_l_upright (da_val (de_var 1) (da_val (de_var 2) (da_val (de_var 5) da_nil)))) (nomark _)) (dw_or1 (dt_cmp mkS (op_neD hr.units) os_ne (de_var 6) (de_var 5) (nomark _))))))
        (dss_one (ds_ret de_bl))
        dss_nil)
      (dss_one (ds_if (dt_not (dt_val (de_call mkS G_l_broken (hr.mono (by decide)) rfl T.m_l_broken T.F_l_broken.kp T.b_l_broken (da_val (de_mod mkS (de_var 4) (de_pow mkS de_int de_int)) (da_val (de_len mkS rfl T.z_len (de_ix mkS (de_var 1) de_int)) da_nil)))))
        (dss_one (ds_ret de_bl))
        dss_nil)))))))
    (dss_one (ds_ret (de_cmp mkS (op_eqD hr.units) os_eq (de_var 3) (de_tup (dv_cons (de_var 1) (dv_cons (de_var 2) dv_nil))) (nomark _)))))))
end
end Toy
open L2 in
seal dFn dOp dUn dVar dC dVals dArgs dCall dTup dLst dIfS dSeq dSet dForI dComp dRng dItems dZip dEnum dMut dPut dIxO dLenO dB dNotT dOrT dAndT dNotV dOrV dAndV dIf dAsg dDrop dRet dWhile wpM wpV runFn dSl dOpt
namespace L2
open PySem PySem.Spec
theorem ixN_k {m k : Nat} : ixN (m + k + 1) (k : Int) = some k := by
  unfold ixN
  rw [if_pos (by omega), if_pos (by omega), Int.toNat_natCast]
theorem ixN_1 {m : Nat} : ixN (m + 1 + 1) 1 = some 1 := ixN_k (k := 1)
theorem ixN_0 {m : Nat} : ixN (m + 1) 0 = some 0 := ixN_k (k := 0)
theorem ixN_2 {m : Nat} : ixN (m + 1 + 1 + 1) 2 = some 2 := ixN_k (k := 2)
theorem ok_of_wp2 {f : M D} {δ δ2 : DS} {d : D} (h : wpV f δ fun a δ1 => a = d ∧ δ1 = δ2) : f δ = .ok d δ2 := by
  obtain ⟨a, δ1, e, rfl, rfl⟩ := h.ex
  exact e
end L2
namespace L2
open PySem PySem.Spec
section
variable {u : M Fl} {δ δ1 : DS} {N B C : DS → Prop} {R : D → DS → Prop} {set : D → DS → Option DS} {i : Nat} {d : D}
theorem v_loopN : wpM (dLoop set u []) δ N B C R = N δ := by
  unfold wpM
  rw [dLoop]
theorem v_loopC {ds : List D} : wpM (dLoop set u (d :: ds)) δ N B C R = setK (set d δ) fun δ1 => wpM u δ1 (fun δ2 => wpM (dLoop set u ds) δ2 N B C R) N (fun δ2 => wpM (dLoop set u ds) δ2 N B C R) R := by
  unfold wpM setK
  rw [dLoop]
  dsimp only
  cases e : set d δ with
  | none => simp
  | some δ1 =>
    simp only [Option.some.injEq, exists_eq_left']
    cases e2 : u δ1 with
    | stuck => rfl
    | err x d => rfl
    | ok fl δ2 => cases fl <;> rfl
theorem k_setN : setK (setN i d δ) N = stp i d δ N := by
  unfold setK stp setN
  split
  · rename_i h; simp [h]
  · rename_i h; simp [h]
theorem wm_unroll {f : M (List D)} {ds : List D} (hf : f δ = .ok ds δ1) (h : wpM (dLoop set u ds) δ1 N B C R) : wpM (dForI set f u) δ N B C R := by
  obtain ⟨fl, δ2, e, q⟩ := h.ex
  exact .of (by unfold dForI; rw [hf, bind_ok]; exact e) q
end
theorem items_okL {i : Nat} {δ : DS} {as : List D} (h1 : δ[i]? = some (some (.list as))) : dItems (dVar i) δ = .ok as δ := by
  simp only [dItems, dVar_ok h1, bind_ok]
theorem zip_wp {f g : M D} {δ : DS} {as bs : List D} (h : wpV (dVals [f, g]) δ fun ds δ1 => ds = [.list as, .list bs] ∧ δ1 = δ) : dZip f g δ = .ok (zipD as bs) δ := by
  obtain ⟨ds, δ1, e, rfl, rfl⟩ := h.ex
  unfold dZip
  rw [e, bind_ok]
theorem enum_ok {i : Nat} {δ : DS} {as : List D} (h1 : δ[i]? = some (some (.list as))) : dEnum (dVar i) δ = .ok (enumD as) δ := by
  simp only [dEnum, dVals, dVar_ok h1, bind_ok]
theorem zip_len {as bs : List D} (h : as.length = bs.length) : (zipD as bs).length = as.length := by simp [zipD, h]
theorem enum_len {as : List D} : (enumD as).length = as.length := by simp [enumD]
theorem rng3 {δ : DS} : dRng [dC (.int 3)] δ = .ok [.int 0, .int 1, .int 2] δ := by
  simp only [dRng, dVals, dC_ok, bind_ok, rng2]
  rw [if_pos ⟨by decide, by decide⟩]
  rfl
theorem rng2' {δ : DS} : dRng [dC (.int 2)] δ = .ok [.int 0, .int 1] δ := by
  simp only [dRng, dVals, dC_ok, bind_ok, rng2]
  rw [if_pos ⟨by decide, by decide⟩]
  rfl
theorem items2 {δ : DS} {a b : D} : dItems (dLst [dC a, dC b]) δ = .ok [a, b] δ := by
  simp only [dItems, dLst, dVals, dC_ok, bind_ok]
  rw [if_pos (show [a, b].length ≤ sizeLine from Nat.le_trans (show 2 ≤ 1000 by decide) (by decide))]
  rfl
end L2
namespace L2
open PySem PySem.Spec
theorem dCompL_enc {α : Type} {enc g : α → D} {e : M D} {δ : DS} : ∀ {xs : List α} {acc : List D} {o : Option D}, (∀ x ∈ xs, e (some (enc x) :: δ) = .ok (g x) (some (enc x) :: δ)) → acc.length + xs.length ≤ sizeLine → ∃ o', dCompL (setN 0) dTrue e (xs.map enc) acc (o :: δ) = .ok (acc ++ xs.map g) (o' :: δ)
  | [], acc, o, _, _ => ⟨o, by simp [dCompL]⟩
  | x :: xs, acc, o, h, hl => by
    have hd := h x List.mem_cons_self
    rw [List.length_cons] at hl
    obtain ⟨o', ih⟩ := dCompL_enc (xs := xs) (acc := acc ++ [g x]) (o := some (enc x)) (fun y hy => h y (List.mem_cons_of_mem _ hy)) (by simp; omega)
    refine ⟨o', ?_⟩
    rw [List.map_cons]
    unfold dCompL
    have e1 : setN 0 (enc x) (o :: δ) = some (some (enc x) :: δ) := by simp [setN]
    rw [e1]
    show Res.bind (dTrue (some (enc x) :: δ)) _ = _
    simp only [dTrue, Res.bind, if_true, hd]
    rw [if_pos (by omega), ih]
    simp
theorem comp_enc {α : Type} {enc g : α → D} {xs : List α} {f : M (List D)} {e : M D} {δ : DS} (hf : f δ = .ok (xs.map enc) δ) (hl : xs.length ≤ 1000) (he : ∀ x ∈ xs, wpV e (some (enc x) :: δ) fun a δ1 => a = g x ∧ δ1 = some (enc x) :: δ) : dComp 1 (setN 0) f dTrue e δ = .ok (.list (xs.map g)) δ := by
  unfold dComp
  rw [hf]
  obtain ⟨o', h⟩ := dCompL_enc (acc := []) (o := none) (fun x hx => ok_of_wp (he x hx)) (Nat.le_trans (by simpa using hl) (show 1000 ≤ sizeLine by decide))
  simp only [Res.bind]
  rw [show List.replicate 1 (none : Option D) ++ δ = none :: δ from rfl, h]
  simp
theorem items_wp {f : M D} {δ : DS} {ds : List D} (h : wpV f δ fun a δ1 => a = .list ds ∧ δ1 = δ) : dItems f δ = .ok ds δ := by
  unfold dItems
  rw [ok_of_wp h]
  rfl
end L2
namespace L2
open PySem PySem.Spec
end L2
namespace L2
open PySem PySem.Spec
theorem wm_cut {u v : M Fl} {δ : DS} {N B C : DS → Prop} {R : D → DS → Prop} (P : DS → Prop) (h1 : wpM u δ P B C R) (h2 : ∀ δ1, P δ1 → wpM v δ1 N B C R) : wpM (dSeq u v) δ N B C R := by
  rw [v_seq]
  obtain ⟨fl, δ1, e, q⟩ := h1.ex
  refine .of e ?_
  cases fl with
  | next => exact h2 _ q
  | _ => exact q
theorem seq_assoc {a b c : M Fl} : dSeq a (dSeq b c) = dSeq (dSeq a b) c := by
  funext δ
  unfold dSeq
  cases a δ with
  | stuck => rfl
  | err x d => rfl
  | ok fl d => cases fl <;> rfl
end L2
namespace L2
open PySem PySem.Spec
theorem ixN_i {n : Nat} {k : Int} (h0 : 0 ≤ k) (h1 : k < n) : ixN n k = some k.toNat := by
  unfold ixN
  rw [if_pos (by omega), if_pos (by omega)]
theorem strAdd_le {x y : Str} (h : x.length + y.length ≤ 1000) : addD (.str x) (.str y) = some (.str (x ++ y)) := by
  have hz : sizeLine = 2 ^ 24 := rfl
  have : strAdd (.str x) (.str y) = some (.str (x ++ y)) := if_pos (by omega)
  unfold addD
  rw [this]
  rfl
theorem str_app_len {x y : Str} : (x ++ y).length = x.length + y.length := by
  show (x.cps ++ y.cps).size = _
  rw [Array.size_append]
  rfl
theorem str_app_ok {x y : Str} (hx : PyData.strOk x = true) (hy : PyData.strOk y = true) : PyData.strOk (x ++ y) = true := by
  show (x.cps ++ y.cps).all (· < 0x110000) = true
  rw [Array.all_append, show x.cps.all (· < 0x110000) = true from hx, show y.cps.all (· < 0x110000) = true from hy]
  rfl
theorem ofString_ok (s : String) : PyData.strOk (Str.ofString s) = true := by
  rw [Str.ofString_eq_toList]
  show ((s.toList.map Char.toNat).toArray).all (· < 0x110000) = true
  rw [List.all_toArray, List.all_eq_true]
  intro x hx
  obtain ⟨c, _, rfl⟩ := List.mem_map.mp hx
  have := c.valid
  rw [decide_eq_true_eq]
  rcases this with h | h
  · exact Nat.lt_trans h (by decide)
  · exact h.2
structure GoodS (z : Str) : Prop where
  len : z.length ≤ 8
  ok : PyData.strOk z = true
theorem GoodS.sh {z : Str} (h : GoodS z) : Sh 1 (.str z) := by
  have hz : sizeLine = 2 ^ 24 := rfl
  have := h.len
  exact ⟨by simp [PyData.canLay0, h.ok], by simp [PyData.depth]⟩
end L2
noncomputable def SPq (ns : List Int) (ps : List (Int × Int)) : Nat → Int × Int
  | 0 => (0, 1)
  | k + 1 => ((SPq ns ps k).1 * (ps.getD k (0, 1)).2 + ns.getD k 0 * (ps.getD k (0, 1)).1 * (SPq ns ps k).2, (SPq ns ps k).2 * (ps.getD k (0, 1)).2)
theorem SP_pos {ns : List Int} {ps : List (Int × Int)} (h : ∀ p ∈ ps, 0 < p.2) : ∀ k, 0 < (SPq ns ps k).2
  | 0 => by show (0 : Int) < 1; decide
  | k + 1 => by
    have ih := SP_pos (ns := ns) h k
    refine Int.mul_pos ih ?_
    rw [List.getD_eq_getElem?_getD]
    cases e : ps[k]? with
    | none => decide
    | some p => exact h p (List.mem_of_getElem? e)
theorem SP_left {ns ms : List Int} {ps qs : List (Int × Int)} (hl : ns.length = ps.length) : ∀ k, k ≤ ns.length → SPq (ns ++ ms) (ps ++ qs) k = SPq ns ps k
  | 0, _ => rfl
  | k + 1, h => by
    rw [SPq, SPq, SP_left hl k (by omega)]
    simp only [List.getD_eq_getElem?_getD, List.getElem?_append_left (show k < ns.length by omega), List.getElem?_append_left (show k < ps.length by omega)]
theorem SP_app {ns ms : List Int} {ps qs : List (Int × Int)} (hl : ns.length = ps.length) : ∀ k, SPq (ns ++ ms) (ps ++ qs) (ns.length + k) = ((SPq ns ps ns.length).1 * (SPq ms qs k).2 + (SPq ms qs k).1 * (SPq ns ps ns.length).2, (SPq ns ps ns.length).2 * (SPq ms qs k).2)
  | 0 => by
    rw [Nat.add_zero, SP_left hl _ (Nat.le_refl _)]
    simp [SPq]
  | k + 1 => by
    rw [← Nat.add_assoc, SPq, SP_app hl k, SPq]
    have e1 : (ns ++ ms).getD (ns.length + k) 0 = ms.getD k 0 := by rw [List.getD_eq_getElem?_getD, List.getElem?_append_right (by omega), Nat.add_sub_cancel_left, List.getD_eq_getElem?_getD]
    have e2 : (ps ++ qs).getD (ns.length + k) (0, 1) = qs.getD k (0, 1) := by rw [hl, List.getD_eq_getElem?_getD, List.getElem?_append_right (by omega), Nat.add_sub_cancel_left, List.getD_eq_getElem?_getD]
    rw [e1, e2]
    refine Prod.ext ?_ ?_
    · dsimp only; grind
    · dsimp only; grind
theorem same_lt {t b x y c : Int} (hb : 0 < b) (hy : 0 < y) (e : x * b = t * y) : (c * y < x) ↔ (c * b < t) := by
  constructor
  · intro h
    have h1 : c * y * b < x * b := Int.mul_lt_mul_of_pos_right h hb
    rw [e] at h1
    have h2 : (c * b) * y < t * y := by have : c * b * y = c * y * b := by grind
                                        omega
    exact Int.lt_of_mul_lt_mul_right h2 (Int.le_of_lt hy)
  · intro h
    have h1 : c * b * y < t * y := Int.mul_lt_mul_of_pos_right h hy
    rw [← e] at h1
    have h2 : (c * y) * b < x * b := by have : c * b * y = c * y * b := by grind
                                        omega
    exact Int.lt_of_mul_lt_mul_right h2 (Int.le_of_lt hb)
theorem step_same {t b x y n p1 p2 u v r s : Int} (hy : 0 < y) (hv : 0 < v) (e : x * b = t * y) (e2 : u * (1 * p2) = n * p1 * v) (e3 : r * (y * v) = (x * v + u * y) * s) : r * (b * p2) = (t * p2 + n * p1 * b) * s := by
  have h0 : y * v ≠ 0 := Int.ne_of_gt (Int.mul_pos hy hv)
  apply Int.eq_of_mul_eq_mul_right h0
  have : r * (b * p2) * (y * v) = (r * (y * v)) * (b * p2) := by grind
  rw [this, e3]
  have : (x * v + u * y) * s * (b * p2) = ((x * b) * v * p2 + (u * (1 * p2)) * y * b) * s := by grind
  rw [this, e, e2]
  grind
namespace Toy
open PySem L2
theorem gcd_turn (a b : Nat) : Nat.gcd b (a % b) = Nat.gcd a b := by
  rw [Nat.gcd_comm b, ← Nat.gcd_rec, Nat.gcd_comm]
theorem mod_nat {a b : Nat} (h : 0 < b) : modD (.int a) (.int b) = some (.int ((a % b : Nat) : Int)) := by
  rw [modD_pos (by omega)]
  rfl
theorem gd_loop : ∀ (n a b : Nat) (o : Option D), b ≤ n → ∃ o', dWhile (dB (dOp neD (dVar 1) (dC (.int 0)))) (dSeq (dSet 2 (dOp modD (dVar 0) (dVar 1))) (dSeq (dSet 0 (dVar 1)) (dSet 1 (dVar 2)))) [some (.int a), some (.int b), o] = .ok .next [some (.int (Nat.gcd a b : Nat)), some (.int 0), o']
  | n, a, 0, o, _ => ⟨o, by
    rw [dWhile_step]
    have : dB (dOp neD (dVar 1) (dC (.int 0))) [some (.int a), some (.int (0 : Nat)), o] = .ok false [some (.int a), some (.int (0 : Nat)), o] := dB_ok (dOp_ok (dVar_ok rfl) dC_ok rfl)
    rw [this, Nat.gcd_zero_right]
    rfl⟩
  | 0, a, b + 1, o, h => absurd h (by omega)
  | n + 1, a, b + 1, o, h => by
    obtain ⟨o', ih⟩ := gd_loop n (b + 1) (a % (b + 1)) (some (.int ((a % (b + 1) : Nat) : Int))) (by have := Nat.mod_lt a (show 0 < b + 1 by omega); omega)
    refine ⟨o', ?_⟩
    rw [dWhile_step]
    have c : dB (dOp neD (dVar 1) (dC (.int 0))) [some (.int a), some (.int (b + 1 : Nat)), o] = .ok true [some (.int a), some (.int (b + 1 : Nat)), o] := by
      refine dB_ok (dOp_ok (dVar_ok rfl) dC_ok ?_)
      rw [neD_int]
      have : ¬ ((b + 1 : Nat) : Int) = 0 := by omega
      simp
      omega
    rw [c]
    simp only [bind_ok, if_true]
    have e : dSeq (dSet 2 (dOp modD (dVar 0) (dVar 1))) (dSeq (dSet 0 (dVar 1)) (dSet 1 (dVar 2))) [some (.int a), some (.int (b + 1 : Nat)), o] = .ok .next [some (.int (b + 1 : Nat)), some (.int ((a % (b + 1) : Nat) : Int)), some (.int ((a % (b + 1) : Nat) : Int))] := by
      simp only [dSeq, dSet, dOp, dVar, List.getElem?_cons_zero, List.getElem?_cons_succ, bind_ok, mod_nat (show 0 < b + 1 by omega)]
      rfl
    rw [e]
    simp only [bind_ok]
    rw [ih, gcd_turn]
theorem gd_run {body : M Fl} (hb : body = dSeq (dWhile (dB (dOp neD (dVar 1) (dC (.int 0)))) (dSeq (dSet 2 (dOp modD (dVar 0) (dVar 1))) (dSeq (dSet 0 (dVar 1)) (dSet 1 (dVar 2))))) (dRet (dVar 0))) (a b : Nat) : runFn 3 [] 0 body [.int a, .int b] = .ok (.int (Nat.gcd a b : Nat)) [] := by
  subst hb
  obtain ⟨o, h⟩ := gd_loop b a b none (Nat.le_refl _)
  refine fn_of_wp (os := []) ?_
  refine wm_seq (wpM.of (fl := .next) h ?_)
  dsimp only [endOf]
  exact wm_ret (wpV.of (dVar_ok rfl) ⟨rfl, rfl⟩)
theorem gd_ev (a b : Nat) : d_greatest_divisor [.int a, .int b] = .ok (.int (Nat.gcd a b : Nat)) [] := gd_run rfl a b
theorem sh_ev (a b : Nat) : d_l_shared [.int a, .int b] = .ok (.int (Nat.gcd a b : Nat)) [] := gd_run rfl a b
noncomputable def fr (p : Int × Int) : D := .tuple [.int p.1, .int p.2]
noncomputable abbrev frs (ps : List (Int × Int)) : D := .list (ps.map fr)
noncomputable abbrev iL (ns : List Int) : D := .list (ns.map PyData.int)
noncomputable def rowD (r : List Int × Int) : D := .tuple [iL r.1, .int r.2]
noncomputable abbrev rowsD (rs : List (List Int × Int)) : D := .list (rs.map rowD)
noncomputable def dv (t b : Int) : Int := if b < 0 then -(Nat.gcd t.natAbs b.natAbs : Int) else (Nat.gcd t.natAbs b.natAbs : Int)
theorem fraction_ev {t b : Int} (hb : b ≠ 0) (hl : (dv t b).natAbs.log2 < 9000) : d_fraction [.int t, .int b] = .ok (.tuple [.int (t.fdiv (dv t b)), .int (b.fdiv (dv t b))]) [] := by
  have hg : 0 < Nat.gcd t.natAbs b.natAbs := Nat.gcd_pos_of_pos_right _ (by omega)
  have h0 : dv t b ≠ 0 := by unfold dv; split <;> omega
  have f1 : ∀ i : Int, fdivD (.int i) (.int (dv t b)) = some (.int (i.fdiv (dv t b))) := fun i => if_pos ⟨h0, hl⟩
  refine fn_of_wp (os := []) ?_
  show wpM b_fraction [some (.int t), some (.int b), none] _ _ _ _
  unfold b_fraction
  simp only [vcs, fillA, ownSlots, putOuts, outsOf, Nat.reduceAdd, Nat.reduceLT, Nat.reduceLeDiff, ↓reduceIte, hb, gd_ev, decide_eq_true_eq]
  by_cases hn : b < 0
  · have e : dv t b = -(Nat.gcd t.natAbs b.natAbs : Int) := by unfold dv; rw [if_pos hn]
    rw [e] at f1 ⊢
    simp only [vcs, fillA, ownSlots, putOuts, outsOf, Nat.reduceAdd, Nat.reduceLT, Nat.reduceLeDiff, ↓reduceIte, hn, f1]
  · have e : dv t b = (Nat.gcd t.natAbs b.natAbs : Int) := by unfold dv; rw [if_neg hn]
    rw [e] at f1 ⊢
    simp only [vcs, fillA, ownSlots, putOuts, outsOf, Nat.reduceAdd, Nat.reduceLT, Nat.reduceLeDiff, ↓reduceIte, hn, f1]
theorem frac_ev {t b : Int} {n : Nat} (hb : b ≠ 0) (ft : Fit n t) (fb : Fit n b) (hn : n ≤ 9000) : ∃ x y, d_fraction [.int t, .int b] = .ok (fr (x, y)) [] ∧ 0 < y ∧ x * b = t * y ∧ Int.gcd x y = 1 ∧ Fit n x ∧ Fit n y := by
  have hd : dv t b = (if b < 0 then -(Int.gcd t b : Int) else (Int.gcd t b : Int)) := rfl
  have gl : (Int.gcd t b : Int).natAbs ≤ b.natAbs := by
    have := Int.gcd_le_natAbs_right (a := t) hb
    omega
  have hl : (dv t b).natAbs.log2 < 9000 := by
    have fg : Fit n (Int.gcd t b : Int) := fb.le gl
    rw [hd]
    split
    · exact fg.neg.log2 hn
    · exact fg.log2 hn
  have fe := fraction_ev hb hl
  refine ⟨nrm t b t, nrm t b b, ?_, nrm_pos hb, nrm_cross t b, nrm_gcd hb, ?_, ?_⟩
  · rw [fe, hd, fdiv_nrm (Int.gcd_dvd_left t b), fdiv_nrm (Int.gcd_dvd_right t b)]
    rfl
  · rw [← fdiv_nrm (Int.gcd_dvd_left t b)]; exact ft.fdiv
  · rw [← fdiv_nrm (Int.gcd_dvd_right t b)]; exact fb.fdiv
theorem plus_ev {a b c d : Int} {m n : Nat} (hb : 0 < b) (hd : 0 < d) (fa : Fit m a) (fb : Fit m b) (fc : Fit n c) (fd : Fit n d) (h : m + n + 1 ≤ 9000) :
    ∃ x y, d_plus [fr (a, b), fr (c, d)] = .ok (fr (x, y)) [] ∧ 0 < y ∧ x * (b * d) = (a * d + c * b) * y ∧ Int.gcd x y = 1 ∧ Fit (m + n + 1) x ∧ Fit (m + n + 1) y := by
  obtain ⟨x, y, e, r⟩ := frac_ev (t := a * d + c * b) (b := b * d) (n := m + n + 1) (Int.ne_of_gt (Int.mul_pos hb hd)) ((fa.mul fd (Nat.le_refl _)).add (fc.mul fb (Nat.le_refl _)) (by omega)) (fb.mul fd (by omega)) h
  refine ⟨x, y, fn_of_wp (os := []) ?_, r⟩
  show wpM b_plus [some (fr (a, b)), some (fr (c, d))] _ _ _ _
  unfold b_plus
  simp only [vcs, fillA, ownSlots, putOuts, outsOf, Nat.reduceAdd, Nat.reduceLT, Nat.reduceLeDiff, ↓reduceIte, e, fr]
  exact ⟨fa.mulOk fd (by omega), fc.mulOk fb (by omega), fb.mulOk fd (by omega)⟩
theorem times_ev {a b c d : Int} {m n : Nat} (hb : 0 < b) (hd : 0 < d) (fa : Fit m a) (fb : Fit m b) (fc : Fit n c) (fd : Fit n d) (h : m + n ≤ 9000) :
    ∃ x y, d_times [fr (a, b), fr (c, d)] = .ok (fr (x, y)) [] ∧ 0 < y ∧ x * (b * d) = (a * c) * y ∧ Int.gcd x y = 1 ∧ Fit (m + n) x ∧ Fit (m + n) y := by
  obtain ⟨x, y, e, r⟩ := frac_ev (t := a * c) (b := b * d) (n := m + n) (Int.ne_of_gt (Int.mul_pos hb hd)) (fa.mul fc (Nat.le_refl _)) (fb.mul fd (by omega)) h
  refine ⟨x, y, fn_of_wp (os := []) ?_, r⟩
  show wpM b_times [some (fr (a, b)), some (fr (c, d))] _ _ _ _
  unfold b_times
  simp only [vcs, fillA, ownSlots, putOuts, outsOf, Nat.reduceAdd, Nat.reduceLT, Nat.reduceLeDiff, ↓reduceIte, e, fr]
  exact ⟨fa.mulOk fc (by omega), fb.mulOk fd (by omega)⟩
theorem under_ev {a b c d : Int} {n : Nat} (fa : Fit n a) (fb : Fit n b) (fc : Fit n c) (fd : Fit n d) (h : n ≤ 60000000) : d_under [fr (a, b), fr (c, d)] = .ok (.bool (decide (a * d < c * b))) [] := by
  refine fn_of_wp (os := []) ?_
  show wpM b_under [some (fr (a, b)), some (fr (c, d))] _ _ _ _
  unfold b_under
  simp only [vcs, fillA, ownSlots, putOuts, outsOf, Nat.reduceAdd, Nat.reduceLT, Nat.reduceLeDiff, ↓reduceIte, fr]
  exact ⟨fa.mulOk fd (by omega), fc.mulOk fb (by omega)⟩
noncomputable def GoodP (b : Nat) (ps : List (Int × Int)) : Prop := ∀ p ∈ ps, 0 < p.2 ∧ Fit b p.1 ∧ Fit b p.2
noncomputable def GoodN (a : Nat) (ns : List Int) : Prop := ∀ n ∈ ns, Fit a n
theorem fit0 {n : Nat} : Fit n 0 := by show (0 : Int).natAbs < 2 ^ n; simp; exact Nat.two_pow_pos n
theorem fit1 {n : Nat} (h : 1 ≤ n) : Fit n 1 := by
  show (1 : Int).natAbs < 2 ^ n
  have : 2 ^ 1 ≤ 2 ^ n := Nat.pow_le_pow_right (by decide) h
  simp
  omega
theorem GoodP.at {b : Nat} {ps : List (Int × Int)} (h : GoodP b ps) (hb : 1 ≤ b) (k : Nat) : 0 < (ps.getD k (0, 1)).2 ∧ Fit b (ps.getD k (0, 1)).1 ∧ Fit b (ps.getD k (0, 1)).2 := by
  rw [List.getD_eq_getElem?_getD]
  cases e : ps[k]? with
  | none => exact ⟨by decide, fit0, fit1 hb⟩
  | some p => exact h p (List.mem_of_getElem? e)
theorem GoodN.at {a : Nat} {ns : List Int} (h : GoodN a ns) (k : Nat) : Fit a (ns.getD k 0) := by
  rw [List.getD_eq_getElem?_getD]
  cases e : ns[k]? with
  | none => exact fit0
  | some p => exact h p (List.mem_of_getElem? e)
theorem GoodP.pos {b : Nat} {ps : List (Int × Int)} (h : GoodP b ps) : ∀ p ∈ ps, 0 < p.2 := fun p hp => (h p hp).1
theorem GoodP.mono {a b : Nat} {ps : List (Int × Int)} (h : GoodP a ps) (e : a ≤ b) : GoodP b ps := fun p hp => ⟨(h p hp).1, (h p hp).2.1.mono e, (h p hp).2.2.mono e⟩
theorem GoodN.mono {a b : Nat} {ns : List Int} (h : GoodN a ns) (e : a ≤ b) : GoodN b ns := fun p hp => (h p hp).mono e
theorem at_ints {ns : List Int} {k : Nat} (h : k < ns.length) : atI (ns.map PyData.int) (k : Int) = some (.int (ns.getD k 0)) := by
  refine atI_nat ?_
  rw [List.getElem?_map, List.getElem?_eq_getElem h, List.getD_eq_getElem?_getD, List.getElem?_eq_getElem h]
  rfl
theorem at_frs {ps : List (Int × Int)} {k : Nat} (h : k < ps.length) : atI (ps.map fr) (k : Int) = some (fr (ps.getD k (0, 1))) := by
  refine atI_nat ?_
  rw [List.getElem?_map, List.getElem?_eq_getElem h, List.getD_eq_getElem?_getD, List.getElem?_eq_getElem h]
  rfl
theorem zip_get {ns : List Int} {ps : List (Int × Int)} {k : Nat} {d : D} (h : (zipD (ns.map PyData.int) (ps.map fr))[k]? = some d) : k < ns.length ∧ k < ps.length ∧ d = .tuple [.int (ns.getD k 0), fr (ps.getD k (0, 1))] := by
  have hi := (List.getElem?_eq_some_iff.mp h).1
  simp only [zipD, List.length_zipWith, List.length_map] at hi
  have h1 : k < ns.length := by omega
  have h2 : k < ps.length := by omega
  refine ⟨h1, h2, ?_⟩
  rw [zipD, List.getElem?_zipWith, List.getElem?_map, List.getElem?_map, List.getElem?_eq_getElem h1, List.getElem?_eq_getElem h2] at h
  simp only [Option.map_some, Option.some.injEq] at h
  rw [← h, List.getD_eq_getElem?_getD, List.getD_eq_getElem?_getD, List.getElem?_eq_getElem h1, List.getElem?_eq_getElem h2]
  rfl
theorem zip_ok {i j : Nat} {δ : DS} {as bs : List D} (h1 : δ[i]? = some (some (.list as))) (h2 : δ[j]? = some (some (.list bs))) : dZip (dVar i) (dVar j) δ = .ok (zipD as bs) δ := by
  simp only [dZip, dVals, dVar_ok h1, dVar_ok h2, bind_ok]
theorem items_ok {i : Nat} {δ : DS} {as : List D} (h1 : δ[i]? = some (some (.list as))) : dItems (dVar i) δ = .ok as δ := by
  simp only [dItems, dVar_ok h1, bind_ok]
theorem come_ev {a b : Nat} {ns : List Int} {ps : List (Int × Int)} (ha : 1 ≤ a) (hb : 1 ≤ b) (hl : ns.length = ps.length) (gn : GoodN a ns) (gp : GoodP b ps) (h : (a + b + 1) * ps.length ≤ 8000) (hab : a + b + 1 ≤ 900) :
    ∃ x y, d_come_to [iL ns, frs ps] = .ok (fr (x, y)) [] ∧ 0 < y ∧ x * (SPq ns ps ps.length).2 = (SPq ns ps ps.length).1 * y ∧ Int.gcd x y = 1 ∧ Fit (2 + (a + b + 1) * ps.length) x ∧ Fit (2 + (a + b + 1) * ps.length) y := by
  have main : ∃ r, d_come_to [iL ns, frs ps] = .ok r [] ∧ ∃ x y, r = fr (x, y) ∧ 0 < y ∧ x * (SPq ns ps ps.length).2 = (SPq ns ps ps.length).1 * y ∧ Int.gcd x y = 1 ∧ Fit (2 + (a + b + 1) * ps.length) x ∧ Fit (2 + (a + b + 1) * ps.length) y := by
    refine fn_ex ?_
    show wpM b_come_to [some (iL ns), some (frs ps), none, none, none] _ _ _ _
    unfold b_come_to
    simp only [vcs, fillA, ownSlots, putOuts, outsOf, Nat.reduceAdd, Nat.reduceLT, Nat.reduceLeDiff, ↓reduceIte]
    refine wm_for (ds := zipD (ns.map PyData.int) (ps.map fr)) (δ1 := [some (iL ns), some (frs ps), some (.tuple [.int 0, .int 1]), none, none]) (fun k δ => ∃ o3 o4 x y, δ = [some (iL ns), some (frs ps), some (fr (x, y)), o3, o4] ∧ 0 < y ∧ x * (SPq ns ps k).2 = (SPq ns ps k).1 * y ∧ Int.gcd x y = 1 ∧ Fit (2 + (a + b + 1) * k) x ∧ Fit (2 + (a + b + 1) * k) y) (zip_ok rfl rfl) ⟨_, _, 0, 1, rfl, by decide, by simp [SPq], by decide, fit0, fit1 (by omega)⟩ ?_ ?_
    · rintro k d δ hk ⟨o3, o4, x, y, rfl, hy, hx, hg, fx, fy⟩
      obtain ⟨k1, k2, rfl⟩ := zip_get hk
      obtain ⟨p0, p1, p2⟩ := gp.at hb k
      have n1 := gn.at k
      have hm : (a + b + 1) * k ≤ (a + b + 1) * ps.length := Nat.mul_le_mul_left _ (by omega)
      have hs : (a + b + 1) * (k + 1) = (a + b + 1) * k + (a + b + 1) := Nat.mul_succ _ _
      refine ⟨_, rfl, ?_⟩
      obtain ⟨u, v, e1, hv, hu, _, fu, fv⟩ := times_ev (a := ns.getD k 0) (b := 1) (c := (ps.getD k (0, 1)).1) (d := (ps.getD k (0, 1)).2) (by decide) p0 n1 (fit1 ha) p1 p2 (by omega)
      obtain ⟨r, s, e2, hs', hr, hg2, f1, f2⟩ := plus_ev (a := x) (b := y) (c := u) (d := v) hy hv fx fy fu fv (by omega)
      simp only [fr] at e1 e2
      simp only [vcs, fillA, ownSlots, putOuts, outsOf, Nat.reduceAdd, Nat.reduceLT, Nat.reduceLeDiff, ↓reduceIte, fr, e1, e2]
      exact ⟨_, _, r, s, rfl, hs', step_same hy hv hx hu hr, hg2, f1.mono (by omega), f2.mono (by omega)⟩
    · rintro δ ⟨o3, o4, x, y, rfl, q⟩
      simp only [vcs, fillA, ownSlots, putOuts, outsOf, Nat.reduceAdd, Nat.reduceLT, Nat.reduceLeDiff, ↓reduceIte]
      have el : (zipD (ns.map PyData.int) (ps.map fr)).length = ps.length := by simp [zipD]; omega
      rw [el] at q
      exact ⟨x, y, rfl, q⟩
  obtain ⟨r, e, x, y, rfl, q⟩ := main
  exact ⟨x, y, e, q⟩
end Toy
namespace Toy
open PySem L2
theorem rows_get {rs : List (List Int × Int)} {k : Nat} {d : D} (h : (rs.map rowD)[k]? = some d) : ∃ r, rs[k]? = some r ∧ r ∈ rs ∧ d = rowD r := by
  rw [List.getElem?_map] at h
  cases e : rs[k]? with
  | none => rw [e] at h; cases h
  | some r =>
    rw [e] at h
    cases h
    exact ⟨r, rfl, List.mem_of_getElem? e, rfl⟩
structure GoodR (n : Nat) (rows : List (List Int × Int)) : Prop where
  len : ∀ r ∈ rows, r.1.length = n
  nums : ∀ r ∈ rows, GoodN 70 r.1
  tops : ∀ r ∈ rows, Fit 900 r.2
end Toy
namespace Toy
open PySem L2
noncomputable def RoomsP (rooms : List Int) (ps : List (Int × Int)) (k : Nat) : Prop := 0 ≤ (ps.getD k (0, 1)).1 ∧ (ps.getD k (0, 1)).1 ≤ rooms.getD k 0 * (ps.getD k (0, 1)).2
noncomputable def RowP (ps : List (Int × Int)) (r : List Int × Int) : Prop := ¬ (r.2 * (SPq r.1 ps ps.length).2 < (SPq r.1 ps ps.length).1)
noncomputable def RightP (rows : List (List Int × Int)) (rooms : List Int) (ps : List (Int × Int)) : Prop := (∀ k, k < rooms.length → RoomsP rooms ps k) ∧ ∀ r ∈ rows, RowP ps r
open Classical in
theorem right_ev {rows : List (List Int × Int)} {rooms : List Int} {ps : List (Int × Int)} (hl : rooms.length = ps.length) (gr : GoodR ps.length rows) (gn : GoodN 70 rooms) (gp : GoodP 100 ps) (h : ps.length ≤ 20) :
    d_right_fills [rowsD rows, iL rooms, frs ps] = .ok (.bool (decide (RightP rows rooms ps))) [] := by
  refine fn_of_wp (os := []) ?_
  show wpM b_right_fills [some (rowsD rows), some (iL rooms), some (frs ps), none, none, none, none] _ _ _ _
  unfold b_right_fills
  simp only [vcs, fillA, ownSlots, putOuts, outsOf, Nat.reduceAdd, Nat.reduceLT, Nat.reduceLeDiff, ↓reduceIte]
  refine wm_for (ds := zipD (rooms.map PyData.int) (ps.map fr)) (fun k δ => ∃ o3 o4, δ = [some (rowsD rows), some (iL rooms), some (frs ps), o3, o4, none, none] ∧ ∀ j, j < k → RoomsP rooms ps j) (zip_ok rfl rfl) ⟨_, _, rfl, fun j hj => absurd hj (Nat.not_lt_zero j)⟩ ?_ ?_
  · rintro k d δ hk ⟨o3, o4, rfl, hall⟩
    obtain ⟨k1, k2, rfl⟩ := zip_get hk
    obtain ⟨p0, p1, p2⟩ := gp.at (by decide) k
    have n1 := gn.at k
    refine ⟨_, rfl, ?_⟩
    have e1 := under_ev (a := (ps.getD k (0, 1)).1) (b := (ps.getD k (0, 1)).2) (c := 0) (d := 1) p1 p2 fit0 (fit1 (by decide)) (by decide)
    have n1 : Fit 100 (rooms.getD k 0) := (gn.at k).mono (by decide)
    have e2 := under_ev (a := rooms.getD k 0) (b := 1) (c := (ps.getD k (0, 1)).1) (d := (ps.getD k (0, 1)).2) n1 (fit1 (by decide)) p1 p2 (by decide)
    simp only [fr] at e1 e2
    simp only [vcs, fillA, ownSlots, putOuts, outsOf, Nat.reduceAdd, Nat.reduceLT, Nat.reduceLeDiff, ↓reduceIte, fr, e1, e2, decide_eq_true_eq, Int.mul_one, Int.zero_mul]
    by_cases c1 : (ps.getD k (0, 1)).1 < 0
    · rw [if_pos c1]
      symm
      refine decide_eq_false fun z => ?_
      have := (z.1 k k1).1
      omega
    · rw [if_neg c1]
      by_cases c2 : rooms.getD k 0 * (ps.getD k (0, 1)).2 < (ps.getD k (0, 1)).1
      · rw [if_pos c2]
        symm
        refine decide_eq_false fun z => ?_
        have := (z.1 k k1).2
        omega
      · rw [if_neg c2]
        refine ⟨_, _, rfl, fun j hj => ?_⟩
        by_cases e : j = k
        · subst e; exact ⟨by omega, by omega⟩
        · exact hall j (by omega)
  · rintro δ ⟨o3, o4, rfl, hall⟩
    have hall : ∀ j, j < rooms.length → RoomsP rooms ps j := fun j hj => hall j (by simp [zipD]; omega)
    simp only [vcs, fillA, ownSlots, putOuts, outsOf, Nat.reduceAdd, Nat.reduceLT, Nat.reduceLeDiff, ↓reduceIte]
    refine wm_for (ds := rows.map rowD) (fun k δ => ∃ o3 o4 o5 o6, δ = [some (rowsD rows), some (iL rooms), some (frs ps), o3, o4, o5, o6] ∧ ∀ j r, j < k → rows[j]? = some r → RowP ps r) (items_ok rfl) ⟨_, _, _, _, rfl, fun j r hj => absurd hj (Nat.not_lt_zero j)⟩ ?_ ?_
    · rintro k d δ hk ⟨o3, o4, o5, o6, rfl, hrow⟩
      obtain ⟨r, er, mr, rfl⟩ := rows_get hk
      obtain ⟨x, y, e1, hy, hx, _, fx, fy⟩ := come_ev (ns := r.1) (ps := ps) (by decide) (by decide) (gr.len r mr) (gr.nums r mr) gp (by omega) (by decide)
      refine ⟨_, rfl, ?_⟩
      have ft := (gr.tops r mr).mono (n := 5000) (by decide)
      have e2 := under_ev (a := r.2) (b := 1) (c := x) (d := y) ft (fit1 (by decide)) (fx.mono (by omega)) (fy.mono (by omega)) (by decide)
      simp only [fr] at e1 e2
      simp only [vcs, fillA, ownSlots, putOuts, outsOf, Nat.reduceAdd, Nat.reduceLT, Nat.reduceLeDiff, ↓reduceIte, e1, e2, decide_eq_true_eq, Int.mul_one]
      have sm := same_lt (c := r.2) (SP_pos gp.pos ps.length) hy hx
      by_cases c : r.2 * y < x
      · rw [if_pos c]
        symm
        refine decide_eq_false fun z => ?_
        exact z.2 r mr (sm.mp c)
      · rw [if_neg c]
        refine ⟨_, _, _, _, rfl, fun j r' hj e' => ?_⟩
        by_cases ej : j = k
        · subst ej
          rw [er] at e'; cases e'
          exact fun z => c (sm.mpr z)
        · exact hrow j r' (by omega) e'
    · rintro δ ⟨o3, o4, o5, o6, rfl, hrow⟩
      simp only [vcs, fillA, ownSlots, putOuts, outsOf, Nat.reduceAdd, Nat.reduceLT, Nat.reduceLeDiff, ↓reduceIte]
      symm
      refine decide_eq_true ⟨hall, fun r mr => ?_⟩
      obtain ⟨j, hj, e⟩ := List.mem_iff_getElem.mp mr
      exact hrow j r (by rw [List.length_map]; exact hj) (by rw [List.getElem?_eq_getElem hj, e])
end Toy
namespace Toy
open PySem L2
structure St where
  nm : Str
  x : Int
  y : Int
  z : Int
  t : Int
  h : Int
  m : Int
structure Bx where
  nm : Str
  w : Int
  p : Str
  k : Str
  b : Int
structure Tk where
  nm : Str
  x : Int
  y : Int
  z : Int
  r : Int
noncomputable def stD (s : St) : D := .tuple [.str s.nm, .int s.x, .int s.y, .int s.z, .int s.t, .int s.h, .int s.m]
noncomputable def bxD (b : Bx) : D := .tuple [.str b.nm, .int b.w, .str b.p, .str b.k, .int b.b]
noncomputable def tkD (t : Tk) : D := .tuple [.str t.nm, .int t.x, .int t.y, .int t.z, .int t.r]
noncomputable def bxsD (bs : List Bx) : D := .list (bs.map bxD)
noncomputable def InB (x : Int) : Prop := -1000000000 ≤ x ∧ x ≤ 1000000000
structure GoodSt (s : St) : Prop where
  nm : GoodS s.nm
  x : InB s.x
  y : InB s.y
  z : InB s.z
  t : InB s.t
structure GoodTk (s : Tk) : Prop where
  nm : GoodS s.nm
  x : InB s.x
  y : InB s.y
  z : InB s.z
  r : 0 ≤ s.r ∧ s.r ≤ 1000000000
structure GoodBx (b : Bx) : Prop where
  nm : GoodS b.nm
  p : GoodS b.p
  k : GoodS b.k
  w : 1 ≤ b.w ∧ b.w ≤ 1000000000
structure Made (own : Int × Int × Int × Int) (ss : List St) (cs : List (List Bx)) (ts : List Tk) : Prop where
  o0 : 1 ≤ own.1 ∧ own.1 ≤ 1000000000
  o1 : InB own.2.1 ∧ InB own.2.2.1 ∧ InB own.2.2.2
  ls : ss.length ≤ 10
  lc : cs.length = ss.length
  lb : ∀ c ∈ cs, c.length ≤ 30
  lt : ts.length ≤ 10
  gs : ∀ s ∈ ss, GoodSt s
  gb : ∀ c ∈ cs, ∀ b ∈ c, GoodBx b
  gt : ∀ t ∈ ts, GoodTk t
noncomputable def ownD (o : Int × Int × Int × Int) : D := .tuple [.int o.1, .int o.2.1, .int o.2.2.1, .int o.2.2.2]
noncomputable abbrev Q4 := Int × Int × Int × Int
noncomputable def T4 : List Q4 → Q4
  | [] => (0, 0, 0, 0)
  | p :: l => (p.1 + (T4 l).1, p.1 * p.2.1 + (T4 l).2.1, p.1 * p.2.2.1 + (T4 l).2.2.1, p.1 * p.2.2.2 + (T4 l).2.2.2)
theorem T4_app : ∀ (l m : List Q4), T4 (l ++ m) = ((T4 l).1 + (T4 m).1, (T4 l).2.1 + (T4 m).2.1, (T4 l).2.2.1 + (T4 m).2.2.1, (T4 l).2.2.2 + (T4 m).2.2.2)
  | [], m => by simp [T4]
  | p :: l, m => by
    rw [List.cons_append, T4, T4_app l m, T4]
    simp only [Int.add_assoc]
theorem T4_snoc (l : List Q4) (p : Q4) : T4 (l ++ [p]) = ((T4 l).1 + p.1, (T4 l).2.1 + p.1 * p.2.1, (T4 l).2.2.1 + p.1 * p.2.2.1, (T4 l).2.2.2 + p.1 * p.2.2.2) := by
  rw [T4_app]
  simp [T4]
noncomputable def s00 : St := ⟨"", 0, 0, 0, 0, 0, 0⟩
noncomputable def b00 : Bx := ⟨"", 0, "", "", 0⟩
noncomputable def t00 : Tk := ⟨"", 0, 0, 0, 0⟩
noncomputable def inT (s : St) (bs : List Bx) (t : Nat) : List Q4 := (List.range t).map fun (j : Nat) => ((bs.getD j b00).w, s.x, s.y, s.z + (j : Int) * s.t)
noncomputable def plT (ss : List St) (cs : List (List Bx)) (k : Nat) : List Q4 := ((List.range k).map fun j => inT (ss.getD j s00) (cs.getD j []) (cs.getD j []).length).flatten
theorem inT_succ {s : St} {bs : List Bx} {t : Nat} : inT s bs (t + 1) = inT s bs t ++ [((bs.getD t b00).w, s.x, s.y, s.z + (t : Int) * s.t)] := by
  unfold inT
  rw [List.range_succ, List.map_append]
  rfl
theorem plT_succ {ss : List St} {cs : List (List Bx)} {k : Nat} : plT ss cs (k + 1) = plT ss cs k ++ inT (ss.getD k s00) (cs.getD k []) (cs.getD k []).length := by
  unfold plT
  rw [List.range_succ, List.map_append, List.flatten_append]
  simp
theorem getD_at {α : Type} {l : List α} {k : Nat} {d : α} (h : k < l.length) : l[k]? = some (l.getD k d) := by
  rw [List.getD_eq_getElem?_getD, List.getElem?_eq_getElem h]
  rfl
theorem getD_mem {α : Type} {l : List α} {k : Nat} {d : α} (h : k < l.length) : l.getD k d ∈ l := List.mem_of_getElem? (getD_at h)
theorem at_map {α : Type} {enc : α → D} {l : List α} {k : Nat} {d : α} (h : k < l.length) : atI (l.map enc) (k : Int) = some (enc (l.getD k d)) := by
  refine atI_nat ?_
  rw [List.getElem?_map, getD_at (d := d) h]
  rfl
noncomputable def q4D (q : Q4) : D := .tuple [.int q.1, .int q.2.1, .int q.2.2.1, .int q.2.2.2]
noncomputable def Sm (x : Int) : Prop := -18446744073709551616 < x ∧ x < 18446744073709551616
theorem added_ev {q : Q4} {w x y z : Int} (hw : Sm w) : d_added [q4D q, .int w, .tuple [.int x, .int y, .int z]] = .ok (q4D (q.1 + w, q.2.1 + w * x, q.2.2.1 + w * y, q.2.2.2 + w * z)) [] := by
  obtain ⟨h1, h2⟩ := hw
  refine fn_of_wp (os := []) ?_
  show wpM b_added [some (q4D q), some (.int w), some (.tuple [.int x, .int y, .int z])] _ _ _ _
  unfold b_added
  simp only [vcs, fillA, ownSlots, putOuts, outsOf, Nat.reduceAdd, Nat.reduceLT, Nat.reduceLeDiff, ↓reduceIte, q4D]
  exact ⟨by first | exact mok_l (by omega) (by omega) | exact mok_r (by omega) (by omega), by first | exact mok_l (by omega) (by omega) | exact mok_r (by omega) (by omega), by first | exact mok_l (by omega) (by omega) | exact mok_r (by omega) (by omega)⟩
theorem zipM_get {α β : Type} {f : α → D} {g : β → D} {as : List α} {bs : List β} {a0 : α} {b0 : β} {k : Nat} {d : D} (h : (zipD (as.map f) (bs.map g))[k]? = some d) : k < as.length ∧ k < bs.length ∧ d = .tuple [f (as.getD k a0), g (bs.getD k b0)] := by
  have hi := (List.getElem?_eq_some_iff.mp h).1
  simp only [zipD, List.length_zipWith, List.length_map] at hi
  have h1 : k < as.length := by omega
  have h2 : k < bs.length := by omega
  refine ⟨h1, h2, ?_⟩
  rw [zipD, List.getElem?_zipWith, List.getElem?_map, List.getElem?_map, getD_at (d := a0) h1, getD_at (d := b0) h2] at h
  simp only [Option.map_some, Option.some.injEq] at h
  rw [← h]
theorem enumM_get {α : Type} {f : α → D} {as : List α} {a0 : α} {k : Nat} {d : D} (h : (enumD (as.map f))[k]? = some d) : k < as.length ∧ d = .tuple [.int (k : Int), f (as.getD k a0)] := by
  have hi := (List.getElem?_eq_some_iff.mp h).1
  simp only [enumD, List.length_mapIdx, List.length_map] at hi
  refine ⟨hi, ?_⟩
  rw [enumD, List.getElem?_mapIdx, List.getElem?_map, getD_at (d := a0) hi] at h
  simp only [Option.map_some, Option.some.injEq] at h
  rw [← h]
theorem cutT1 {a : D} {l : List D} : cutT (.tuple (a :: l)) (some 1) none = some (.tuple l) := by
  show (if HT.sIx (l.length + 1) 0 (some ((1 : Nat) : Int)) = 0 ∧ HT.sIx (l.length + 1) (l.length + 1) none = l.length + 1 then none else some (PyData.tuple (cutD (a :: l) (some ((1 : Nat) : Int)) none))) = _
  rw [HT.sIx_nat, if_neg (by omega)]
  have := cut_from (ds := a :: l) (k := 1) (by simp)
  have := PyData.list.inj (Option.some.inj this)
  rw [this]
  rfl
section
variable {own : Q4} {ss : List St} {cs : List (List Bx)} {ts : List Tk} {bd ap tk : D}
theorem weights_ev (M : Made own ss cs ts) : d_weights [.tuple [ownD own, bd, .list (ss.map stD), tk, ap], .list (cs.map bxsD)] = .ok (q4D (T4 (own :: plT ss cs ss.length))) [] := by
  have lc := M.lc
  have ls := M.ls
  have o0 := M.o0
  refine fn_of_wp (os := []) ?_
  show wpM b_weights [some (.tuple [ownD own, bd, .list (ss.map stD), tk, ap]), some (.list (cs.map bxsD)), none, none, none, none, none, none, none] _ _ _ _
  unfold b_weights
  have e0 := added_ev (q := (0, 0, 0, 0)) (w := own.1) (x := own.2.1) (y := own.2.2.1) (z := own.2.2.2) (by unfold Sm; omega)
  have z0 : ((0 + own.1, 0 + own.1 * own.2.1, 0 + own.1 * own.2.2.1, 0 + own.1 * own.2.2.2) : Q4) = T4 [own] := by simp [T4]
  rw [z0] at e0
  have e0' : d_added [.tuple [.int 0, .int 0, .int 0, .int 0], .int own.1, .tuple [.int own.2.1, .int own.2.2.1, .int own.2.2.2]] = .ok (q4D (T4 [own])) [] := e0
  simp only [vcs, fillA, ownSlots, putOuts, outsOf, Nat.reduceAdd, Nat.reduceLT, Nat.reduceLeDiff, ↓reduceIte, ownD, v_sl, v_opt0, v_opt1, k_int, cutT1, e0']
  refine wm_for (ds := zipD (ss.map stD) (cs.map bxsD)) (δ1 := _) (fun k δ => ∃ o4 o5 o6 o7 o8, δ = [some (.tuple [.tuple [.int own.1, .int own.2.1, .int own.2.2.1, .int own.2.2.2], bd, .list (ss.map stD), tk, ap]), some (.list (cs.map bxsD)), some (.tuple [.int own.1, .int own.2.1, .int own.2.2.1, .int own.2.2.2]), some (q4D (T4 (own :: plT ss cs k))), o4, o5, o6, o7, o8]) (zip_wp (by simp only [vcs, fillA, ownSlots, putOuts, outsOf, Nat.reduceAdd, Nat.reduceLT, Nat.reduceLeDiff, ↓reduceIte])) ⟨_, _, _, _, _, by simp [plT]; exact ⟨rfl, rfl, rfl, rfl, rfl⟩⟩ ?_ ?_
  · rintro k d δ hk ⟨o4, o5, o6, o7, o8, rfl⟩
    obtain ⟨k1, k2, rfl⟩ := zipM_get (a0 := s00) (b0 := []) hk
    have gb := M.gb _ (getD_mem (d := []) k2)
    refine ⟨_, rfl, ?_⟩
    refine wm_for (ds := enumD ((cs.getD k []).map bxD)) (fun t δ => ∃ o6 o7 o8, δ = [some (.tuple [.tuple [.int own.1, .int own.2.1, .int own.2.2.1, .int own.2.2.2], bd, .list (ss.map stD), tk, ap]), some (.list (cs.map bxsD)), some (.tuple [.int own.1, .int own.2.1, .int own.2.2.1, .int own.2.2.2]), some (q4D (T4 (own :: plT ss cs k ++ inT (ss.getD k s00) (cs.getD k []) t))), some (stD (ss.getD k s00)), some (bxsD (cs.getD k [])), o6, o7, o8]) (enum_ok rfl) ⟨_, _, _, by simp [inT]; exact ⟨rfl, rfl, rfl⟩⟩ ?_ ?_
    · rintro t d δ ht ⟨o6, o7, o8, rfl⟩
      obtain ⟨t1, rfl⟩ := enumM_get (a0 := b00) ht
      have gw := gb _ (getD_mem (d := b00) t1)
      generalize hs : ss.getD k s00 = s at *
      generalize hb : (cs.getD k []).getD t b00 = b at *
      have e1 := added_ev (q := T4 (own :: plT ss cs k ++ inT s (cs.getD k []) t)) (w := b.w) (x := s.x) (y := s.y) (z := s.z + (t : Int) * s.t) (by unfold Sm; have := gw.w; omega)
      have lb := M.lb _ (getD_mem (d := []) k2)
      refine ⟨_, rfl, ?_⟩
      simp only [vcs, fillA, ownSlots, putOuts, outsOf, Nat.reduceAdd, Nat.reduceLT, Nat.reduceLeDiff, ↓reduceIte, stD, bxD, e1]
      have eT : T4 (own :: plT ss cs k ++ inT s (cs.getD k []) (t + 1)) = ((T4 (own :: plT ss cs k ++ inT s (cs.getD k []) t)).1 + b.w, (T4 (own :: plT ss cs k ++ inT s (cs.getD k []) t)).2.1 + b.w * s.x, (T4 (own :: plT ss cs k ++ inT s (cs.getD k []) t)).2.2.1 + b.w * s.y, (T4 (own :: plT ss cs k ++ inT s (cs.getD k []) t)).2.2.2 + b.w * (s.z + (t : Int) * s.t)) := by
        rw [inT_succ, ← List.append_assoc, T4_snoc, hb]
      rw [eT]
      exact ⟨by first | exact mok_l (by omega) (by omega) | exact mok_r (by omega) (by omega), _, _, _, rfl⟩
    · rintro δ ⟨o6, o7, o8, rfl⟩
      rw [enum_len, List.length_map, plT_succ]
      exact ⟨_, _, _, _, _, rfl⟩
  · rintro δ ⟨o4, o5, o6, o7, o8, rfl⟩
    rw [zip_len (by simp [lc]), List.length_map]
    simp only [vcs, fillA, ownSlots, putOuts, outsOf, Nat.reduceAdd, Nat.reduceLT, Nat.reduceLeDiff, ↓reduceIte]
end
end Toy
namespace Toy
open PySem L2
section
variable {own : Q4} {ss : List St} {cs : List (List Bx)} {ts : List Tk} {ps : List (Int × Int)}
theorem tkRow {f : Tk → Int} {ts : List Tk} : (ts.map fun t => PyData.int (f t)) = (ts.map f).map PyData.int := by simp
theorem high_ev {axis : Int} {g : Tk → Int} {q : Q4} {qa high : Int} (hl : ts.length ≤ 10) (hg : ∀ t : Tk, atI [PyData.str t.nm, .int t.x, .int t.y, .int t.z, .int t.r] axis = some (.int (g t))) (hq : atI [PyData.int q.1, .int q.2.1, .int q.2.2.1, .int q.2.2.2] axis = some (.int qa)) (hh : InB high) :
    d_row_of_high [.list (ts.map tkD), .int axis, .int high, q4D q] = .ok (rowD (ts.map fun t => g t - high, high * q.1 - qa)) [] := by
  unfold InB at hh
  refine fn_of_wp (os := []) ?_
  show wpM b_row_of_high [some (.list (ts.map tkD)), some (.int axis), some (.int high), some (q4D q)] _ _ _ _
  unfold b_row_of_high
  simp only [vcs, fillA, ownSlots, putOuts, outsOf, Nat.reduceAdd, Nat.reduceLT, Nat.reduceLeDiff, ↓reduceIte]
  refine wpV.of (comp_enc (enc := tkD) (xs := ts) (g := fun t => .int (g t - high)) (items_okL rfl) (by omega) fun t _ => ?_) ?_
  · simp only [vcs, fillA, ownSlots, putOuts, outsOf, Nat.reduceAdd, Nat.reduceLT, Nat.reduceLeDiff, ↓reduceIte, tkD, hg]
  · rw [tkRow]
    simp only [vcs, fillA, ownSlots, putOuts, outsOf, Nat.reduceAdd, Nat.reduceLT, Nat.reduceLeDiff, ↓reduceIte, q4D, hq, rowD]
    exact (by first | exact mok_l (by omega) (by omega) | exact mok_r (by omega) (by omega))
theorem low_ev {axis : Int} {g : Tk → Int} {q : Q4} {qa low : Int} (hl : ts.length ≤ 10) (hg : ∀ t : Tk, atI [PyData.str t.nm, .int t.x, .int t.y, .int t.z, .int t.r] axis = some (.int (g t))) (hq : atI [PyData.int q.1, .int q.2.1, .int q.2.2.1, .int q.2.2.2] axis = some (.int qa)) (hh : InB low) :
    d_row_of_low [.list (ts.map tkD), .int axis, .int low, q4D q] = .ok (rowD (ts.map fun t => low - g t, qa - low * q.1)) [] := by
  unfold InB at hh
  refine fn_of_wp (os := []) ?_
  show wpM b_row_of_low [some (.list (ts.map tkD)), some (.int axis), some (.int low), some (q4D q)] _ _ _ _
  unfold b_row_of_low
  simp only [vcs, fillA, ownSlots, putOuts, outsOf, Nat.reduceAdd, Nat.reduceLT, Nat.reduceLeDiff, ↓reduceIte]
  refine wpV.of (comp_enc (enc := tkD) (xs := ts) (g := fun t => .int (low - g t)) (items_okL rfl) (by omega) fun t _ => ?_) ?_
  · simp only [vcs, fillA, ownSlots, putOuts, outsOf, Nat.reduceAdd, Nat.reduceLT, Nat.reduceLeDiff, ↓reduceIte, tkD, hg]
  · rw [tkRow]
    simp only [vcs, fillA, ownSlots, putOuts, outsOf, Nat.reduceAdd, Nat.reduceLT, Nat.reduceLeDiff, ↓reduceIte, q4D, hq, rowD]
    exact (by first | exact mok_l (by omega) (by omega) | exact mok_r (by omega) (by omega))
structure Bds where
  b0 : Int
  b1 : Int
  b2 : Int
  b3 : Int
  b4 : Int
  b5 : Int
structure GoodBds (b : Bds) : Prop where
  b0 : InB b.b0
  b1 : InB b.b1
  b2 : InB b.b2
  b3 : InB b.b3
  b4 : InB b.b4
  b5 : InB b.b5
noncomputable def bdD (b : Bds) : D := .tuple [.int b.b0, .int b.b1, .int b.b2, .int b.b3, .int b.b4, .int b.b5]
noncomputable def rowsL (ts : List Tk) (b : Bds) (q : Q4) : List (List Int × Int) :=
  [(ts.map fun t => t.x - b.b1, b.b1 * q.1 - q.2.1), (ts.map fun t => b.b0 - t.x, q.2.1 - b.b0 * q.1), (ts.map fun t => t.y - b.b3, b.b3 * q.1 - q.2.2.1), (ts.map fun t => b.b2 - t.y, q.2.2.1 - b.b2 * q.1), (ts.map fun t => t.z - b.b4, b.b4 * q.1 - q.2.2.2), (ts.map fun _ => 1, b.b5 - q.1)]
theorem rows_ev {b : Bds} {ap : D} (M : Made own ss cs ts) (g : GoodBds b) : d_rows_of [.tuple [ownD own, bdD b, .list (ss.map stD), .list (ts.map tkD), ap], .list (cs.map bxsD)] = .ok (.list ((rowsL ts b (T4 (own :: plT ss cs ss.length))).map rowD)) [] := by
  have lt := M.lt
  have e0 := weights_ev (bd := bdD b) (tk := .list (ts.map tkD)) (ap := ap) M
  generalize T4 (own :: plT ss cs ss.length) = q at *
  have h1 := high_ev (ts := ts) (axis := 1) (g := fun t => t.x) (q := q) (qa := q.2.1) lt (fun _ => o_at1) o_at1 g.b1
  have h2 := low_ev (ts := ts) (axis := 1) (g := fun t => t.x) (q := q) (qa := q.2.1) lt (fun _ => o_at1) o_at1 g.b0
  have h3 := high_ev (ts := ts) (axis := 2) (g := fun t => t.y) (q := q) (qa := q.2.2.1) lt (fun _ => o_at2) o_at2 g.b3
  have h4 := low_ev (ts := ts) (axis := 2) (g := fun t => t.y) (q := q) (qa := q.2.2.1) lt (fun _ => o_at2) o_at2 g.b2
  have h5 := high_ev (ts := ts) (axis := 3) (g := fun t => t.z) (q := q) (qa := q.2.2.2) lt (fun _ => o_at3) o_at3 g.b4
  refine fn_of_wp (os := []) ?_
  show wpM b_rows_of [some (.tuple [ownD own, bdD b, .list (ss.map stD), .list (ts.map tkD), ap]), some (.list (cs.map bxsD)), none, none, none] _ _ _ _
  unfold b_rows_of
  simp only [vcs, fillA, ownSlots, putOuts, outsOf, Nat.reduceAdd, Nat.reduceLT, Nat.reduceLeDiff, ↓reduceIte, e0]
  simp only [bdD]
  simp only [vcs, fillA, ownSlots, putOuts, outsOf, Nat.reduceAdd, Nat.reduceLT, Nat.reduceLeDiff, ↓reduceIte, h1, h2, h3, h4, h5]
  refine wpV.of (comp_enc (enc := tkD) (xs := ts) (g := fun _ => .int 1) (items_okL rfl) (by omega) fun t _ => by simp only [vcs, fillA, ownSlots, putOuts, outsOf, Nat.reduceAdd, Nat.reduceLT, Nat.reduceLeDiff, ↓reduceIte]) ?_
  rw [tkRow (f := fun _ => 1)]
  simp only [vcs, fillA, ownSlots, putOuts, outsOf, Nat.reduceAdd, Nat.reduceLT, Nat.reduceLeDiff, ↓reduceIte, q4D]
  rfl
theorem rooms_ev {A B C E : D} (lt : ts.length ≤ 10) : d_rooms_of [.tuple [A, B, C, .list (ts.map tkD), E]] = .ok (iL (ts.map fun t => t.r)) [] := by
  refine fn_of_wp (os := []) ?_
  show wpM b_rooms_of [some (.tuple [A, B, C, .list (ts.map tkD), E])] _ _ _ _
  unfold b_rooms_of
  simp only [vcs, fillA, ownSlots, putOuts, outsOf, Nat.reduceAdd, Nat.reduceLT, Nat.reduceLeDiff, ↓reduceIte]
  refine wpV.of (comp_enc (enc := tkD) (xs := ts) (g := fun t => .int t.r) (items_wp (by simp only [vcs, fillA, ownSlots, putOuts, outsOf, Nat.reduceAdd, Nat.reduceLT, Nat.reduceLeDiff, ↓reduceIte])) (by omega) fun t _ => by simp only [vcs, fillA, ownSlots, putOuts, outsOf, Nat.reduceAdd, Nat.reduceLT, Nat.reduceLeDiff, ↓reduceIte, tkD]) ?_
  rw [tkRow]
  exact ⟨rfl, rfl⟩
end
end Toy
namespace Toy
open PySem L2
section
variable {own : Q4} {ss : List St} {cs : List (List Bx)} {ts : List Tk} {ps : List (Int × Int)}
theorem SP_bot {ns ms : List Int} : ∀ k, (SPq ns ps k).2 = (SPq ms ps k).2
  | 0 => rfl
  | k + 1 => by rw [SPq, SPq, SP_bot k]
theorem getD_tk {f : Tk → Int} {k : Nat} (h : k < ts.length) : (ts.map f).getD k 0 = f (ts.getD k t00) := by
  rw [List.getD_eq_getElem?_getD, List.getElem?_map, getD_at (d := t00) h]
  rfl
theorem SP_lin {f : Tk → Int} {c : Int} : ∀ k, k ≤ ts.length → (SPq (ts.map fun t => f t - c) ps k).1 = (SPq (ts.map f) ps k).1 - c * (SPq (ts.map fun _ => 1) ps k).1
  | 0, _ => by simp [SPq]
  | k + 1, h => by
    have ih := SP_lin (f := f) (c := c) k (by omega)
    have b1 := SP_bot (ps := ps) (ns := ts.map fun t => f t - c) (ms := ts.map f) k
    have b2 := SP_bot (ps := ps) (ns := ts.map fun _ => (1 : Int)) (ms := ts.map f) k
    rw [SPq, SPq, SPq, getD_tk (by omega), getD_tk (by omega), getD_tk (f := fun _ => 1) (by omega)]
    dsimp only
    rw [ih, b1, b2]
    grind
theorem SP_neg {f : Tk → Int} {c : Int} : ∀ k, k ≤ ts.length → (SPq (ts.map fun t => c - f t) ps k).1 = -(SPq (ts.map fun t => f t - c) ps k).1
  | 0, _ => by simp [SPq]
  | k + 1, h => by
    have ih := SP_neg (f := f) (c := c) k (by omega)
    have b1 := SP_bot (ps := ps) (ns := ts.map fun t => c - f t) (ms := ts.map fun t => f t - c) k
    rw [SPq, SPq, getD_tk (by omega), getD_tk (by omega)]
    dsimp only
    rw [ih, b1]
    grind
structure Up (b : Bds) (q : Q4) (W X Y Z B : Int) : Prop where
  x1 : X + q.2.1 * B ≤ b.b1 * (W + q.1 * B)
  x0 : b.b0 * (W + q.1 * B) ≤ X + q.2.1 * B
  y3 : Y + q.2.2.1 * B ≤ b.b3 * (W + q.1 * B)
  y2 : b.b2 * (W + q.1 * B) ≤ Y + q.2.2.1 * B
  z4 : Z + q.2.2.2 * B ≤ b.b4 * (W + q.1 * B)
  w5 : W + q.1 * B ≤ b.b5 * B
noncomputable def sW (ts : List Tk) (ps : List (Int × Int)) : Int := (SPq (ts.map fun _ => 1) ps ts.length).1
noncomputable def sX (ts : List Tk) (ps : List (Int × Int)) : Int := (SPq (ts.map fun t => t.x) ps ts.length).1
noncomputable def sY (ts : List Tk) (ps : List (Int × Int)) : Int := (SPq (ts.map fun t => t.y) ps ts.length).1
noncomputable def sZ (ts : List Tk) (ps : List (Int × Int)) : Int := (SPq (ts.map fun t => t.z) ps ts.length).1
noncomputable def sB (ts : List Tk) (ps : List (Int × Int)) : Int := (SPq (ts.map fun _ => 1) ps ts.length).2
theorem rows_iff {b : Bds} {q : Q4} (lp : ps.length = ts.length) : (∀ r ∈ rowsL ts b q, RowP ps r) ↔ Up b q (sW ts ps) (sX ts ps) (sY ts ps) (sZ ts ps) (sB ts ps) := by
  have l := Nat.le_refl ts.length
  have x1 := SP_lin (ps := ps) (f := fun t => t.x) (c := b.b1) ts.length l
  have x0 := SP_lin (ps := ps) (f := fun t => t.x) (c := b.b0) ts.length l
  have n0 := SP_neg (ps := ps) (f := fun t => t.x) (c := b.b0) ts.length l
  have y3 := SP_lin (ps := ps) (f := fun t => t.y) (c := b.b3) ts.length l
  have y2 := SP_lin (ps := ps) (f := fun t => t.y) (c := b.b2) ts.length l
  have n2 := SP_neg (ps := ps) (f := fun t => t.y) (c := b.b2) ts.length l
  have z4 := SP_lin (ps := ps) (f := fun t => t.z) (c := b.b4) ts.length l
  have bb : ∀ ns, (SPq ns ps ts.length).2 = sB ts ps := fun ns => SP_bot ts.length
  unfold rowsL
  simp only [List.forall_mem_cons, RowP, lp, bb]
  rw [n0, n2, x1, x0, y3, y2, z4]
  have ew : (SPq (ts.map fun _ => 1) ps ts.length).1 = sW ts ps := rfl
  have ex : (SPq (ts.map fun t => t.x) ps ts.length).1 = sX ts ps := rfl
  have ey : (SPq (ts.map fun t => t.y) ps ts.length).1 = sY ts ps := rfl
  have ez : (SPq (ts.map fun t => t.z) ps ts.length).1 = sZ ts ps := rfl
  rw [ew, ex, ey, ez]
  generalize sW ts ps = W
  generalize sX ts ps = X
  generalize sY ts ps = Y
  generalize sZ ts ps = Z
  generalize sB ts ps = B
  constructor
  · rintro ⟨h1, h2, h3, h4, h5, h6, _⟩
    exact ⟨by grind, by grind, by grind, by grind, by grind, by grind⟩
  · rintro ⟨h1, h2, h3, h4, h5, h6⟩
    exact ⟨by grind, by grind, by grind, by grind, by grind, by grind, by simp⟩
end
end Toy
namespace Toy
open PySem L2
section
variable {own : Q4} {ss : List St} {cs : List (List Bx)} {ts : List Tk} {ps : List (Int × Int)}
theorem fit30 {x : Int} (h1 : -1000000000 ≤ x) (h2 : x ≤ 1000000000) : Fit 30 x := by show x.natAbs < 2 ^ 30; omega
theorem InB.fit {x : Int} (h : InB x) : Fit 30 x := fit30 h.1 h.2
theorem sumFit {m : Nat} (hm : 1 ≤ m) : ∀ xs : List Int, (∀ x ∈ xs, Fit m x) → Fit (m + xs.length) xs.sum
  | [], _ => fit0
  | x :: xs, h => by
    have h1 := h x List.mem_cons_self
    have h2 := sumFit hm xs fun q hq => h q (List.mem_cons_of_mem _ hq)
    rw [List.sum_cons]
    exact h1.add h2 (by simp only [List.length_cons]; omega)
theorem T4_sums : ∀ l : List Q4, T4 l = ((l.map fun q => q.1).sum, (l.map fun q => q.1 * q.2.1).sum, (l.map fun q => q.1 * q.2.2.1).sum, (l.map fun q => q.1 * q.2.2.2).sum)
  | [] => rfl
  | p :: l => by rw [T4, T4_sums l]; simp
theorem plT_len (M : Made own ss cs ts) : ∀ k, k ≤ ss.length → (plT ss cs k).length ≤ 30 * k
  | 0, _ => by simp [plT]
  | k + 1, hk => by
    have ih := plT_len M k (by omega)
    have lc := M.lc
    have lb := M.lb _ (getD_mem (d := []) (show k < cs.length by omega))
    rw [plT_succ, List.length_append]
    have : (inT (ss.getD k s00) (cs.getD k []) (cs.getD k []).length).length = (cs.getD k []).length := by simp [inT]
    omega
structure Q40 (p : Q4) : Prop where
  w : 1 ≤ p.1 ∧ p.1 ≤ 1000000000
  x : Fit 40 p.2.1
  y : Fit 40 p.2.2.1
  z : Fit 40 p.2.2.2
theorem pl_all (M : Made own ss cs ts) : ∀ p ∈ own :: plT ss cs ss.length, Q40 p := fun p hp => by
  rcases List.mem_cons.mp hp with rfl | hp
  · have := M.o1
    exact ⟨M.o0, this.1.fit.mono (by decide), this.2.1.fit.mono (by decide), this.2.2.fit.mono (by decide)⟩
  · unfold plT at hp
    obtain ⟨l, hl, hq⟩ := List.mem_flatten.mp hp
    obtain ⟨j, hj, rfl⟩ := List.mem_map.mp hl
    have hj := List.mem_range.mp hj
    unfold inT at hq
    obtain ⟨t, ht, rfl⟩ := List.mem_map.mp hq
    have ht := List.mem_range.mp ht
    have lc := M.lc
    have hc : j < cs.length := by omega
    have gb := M.gb _ (getD_mem (d := []) hc) _ (getD_mem (d := b00) ht)
    have lb := M.lb _ (getD_mem (d := []) hc)
    have gs := M.gs _ (getD_mem (d := s00) hj)
    refine ⟨gb.w, gs.x.fit.mono (by decide), gs.y.fit.mono (by decide), ?_⟩
    have h1 := gs.z
    have h2 := gs.t
    unfold InB at h1 h2
    have ht' : (t : Int) ≤ 30 := by omega
    have e1 : (t : Int) * (ss.getD j s00).t ≤ 30 * 1000000000 := by
      have a1 := Int.mul_le_mul_of_nonneg_left h2.2 (show (0 : Int) ≤ (t : Int) by omega)
      omega
    have e2 : -(30 * 1000000000) ≤ (t : Int) * (ss.getD j s00).t := by
      have a1 := Int.mul_le_mul_of_nonneg_left h2.1 (show (0 : Int) ≤ (t : Int) by omega)
      omega
    show ((ss.getD j s00).z + (t : Int) * (ss.getD j s00).t).natAbs < 2 ^ 40
    omega
theorem q_fit (M : Made own ss cs ts) : Fit 450 (T4 (own :: plT ss cs ss.length)).1 ∧ Fit 450 (T4 (own :: plT ss cs ss.length)).2.1 ∧ Fit 450 (T4 (own :: plT ss cs ss.length)).2.2.1 ∧ Fit 450 (T4 (own :: plT ss cs ss.length)).2.2.2 := by
  have ls := M.ls
  have len := plT_len M ss.length (Nat.le_refl _)
  have al := pl_all M
  rw [T4_sums]
  have l1 : (own :: plT ss cs ss.length).length ≤ 301 := by rw [List.length_cons]; omega
  generalize own :: plT ss cs ss.length = L at *
  have w : ∀ p ∈ L, Fit 30 p.1 := fun p hp => fit30 (by have := (al p hp).w; omega) (al p hp).w.2
  refine ⟨?_, ?_, ?_, ?_⟩
  · refine (sumFit (m := 70) (by decide) _ fun x hx => ?_).mono (by rw [List.length_map]; omega)
    obtain ⟨p, hp, rfl⟩ := List.mem_map.mp hx
    exact (w p hp).mono (by decide)
  · refine (sumFit (m := 70) (by decide) _ fun x hx => ?_).mono (by rw [List.length_map]; omega)
    obtain ⟨p, hp, rfl⟩ := List.mem_map.mp hx
    exact (w p hp).mul (al p hp).x (by decide)
  · refine (sumFit (m := 70) (by decide) _ fun x hx => ?_).mono (by rw [List.length_map]; omega)
    obtain ⟨p, hp, rfl⟩ := List.mem_map.mp hx
    exact (w p hp).mul (al p hp).y (by decide)
  · refine (sumFit (m := 70) (by decide) _ fun x hx => ?_).mono (by rw [List.length_map]; omega)
    obtain ⟨p, hp, rfl⟩ := List.mem_map.mp hx
    exact (w p hp).mul (al p hp).z (by decide)
theorem T4_pos : ∀ l : List Q4, (∀ p ∈ l, 1 ≤ p.1) → (l.length : Int) ≤ (T4 l).1
  | [], _ => by simp [T4]
  | p :: l, h => by
    have h1 := h p List.mem_cons_self
    have h2 := T4_pos l fun q hq => h q (List.mem_cons_of_mem _ hq)
    rw [T4, List.length_cons]
    push_cast
    omega
theorem q_pos (M : Made own ss cs ts) : 0 < (T4 (own :: plT ss cs ss.length)).1 := by
  have := T4_pos (own :: plT ss cs ss.length) fun p hp => (pl_all M p hp).w.1
  rw [List.length_cons] at this
  push_cast at this
  omega
theorem rows_good {b : Bds} {q : Q4} (M : Made own ss cs ts) (g : GoodBds b) (f : Fit 450 q.1 ∧ Fit 450 q.2.1 ∧ Fit 450 q.2.2.1 ∧ Fit 450 q.2.2.2) : GoodR ts.length (rowsL ts b q) := by
  have mp : ∀ (h : Tk → Int), (∀ t ∈ ts, Fit 40 (h t)) → GoodN 70 (ts.map h) := fun h hh x hx => by
    obtain ⟨t, ht, rfl⟩ := List.mem_map.mp hx
    exact (hh t ht).mono (by decide)
  obtain ⟨f0, f1, f2, f3⟩ := f
  have main : ∀ r ∈ rowsL ts b q, r.1.length = ts.length ∧ GoodN 70 r.1 ∧ Fit 900 r.2 := fun r hr => by
    unfold rowsL at hr
    simp only [List.mem_cons, List.not_mem_nil, or_false] at hr
    rcases hr with rfl | rfl | rfl | rfl | rfl | rfl
    · exact ⟨by simp, mp _ fun t ht => (M.gt t ht).x.fit.sub g.b1.fit (by decide), (g.b1.fit.mul f0 (k := 480) (by decide)).sub f1 (by decide)⟩
    · exact ⟨by simp, mp _ fun t ht => g.b0.fit.sub (M.gt t ht).x.fit (by decide), f1.sub (g.b0.fit.mul f0 (k := 480) (by decide)) (by decide)⟩
    · exact ⟨by simp, mp _ fun t ht => (M.gt t ht).y.fit.sub g.b3.fit (by decide), (g.b3.fit.mul f0 (k := 480) (by decide)).sub f2 (by decide)⟩
    · exact ⟨by simp, mp _ fun t ht => g.b2.fit.sub (M.gt t ht).y.fit (by decide), f2.sub (g.b2.fit.mul f0 (k := 480) (by decide)) (by decide)⟩
    · exact ⟨by simp, mp _ fun t ht => (M.gt t ht).z.fit.sub g.b4.fit (by decide), (g.b4.fit.mul f0 (k := 480) (by decide)).sub f3 (by decide)⟩
    · exact ⟨by simp, mp _ fun t ht => fit1 (by decide), g.b5.fit.sub f0 (by decide)⟩
  exact ⟨fun r hr => (main r hr).1, fun r hr => (main r hr).2.1, fun r hr => (main r hr).2.2⟩
open Classical in
theorem within_ev {b : Bds} {ap : D} (M : Made own ss cs ts) (g : GoodBds b) (gp : GoodP 100 ps) (lp : ps.length = ts.length) :
    d_within [.tuple [ownD own, bdD b, .list (ss.map stD), .list (ts.map tkD), ap], .list (cs.map bxsD), frs ps] = .ok (.bool (decide (RightP (rowsL ts b (T4 (own :: plT ss cs ss.length))) (ts.map fun t => t.r) ps))) [] := by
  have lt := M.lt
  have e0 := rows_ev (ap := ap) M g
  have e1 := rooms_ev (A := ownD own) (B := bdD b) (C := .list (ss.map stD)) (E := ap) lt
  have gr := rows_good M g (q_fit M)
  have e2 := right_ev (rows := rowsL ts b (T4 (own :: plT ss cs ss.length))) (rooms := ts.map fun t => t.r) (ps := ps) (by simp [lp]) (by rw [lp]; exact gr) (fun n hn => by
    obtain ⟨t, ht, rfl⟩ := List.mem_map.mp hn
    have := (M.gt t ht).r
    exact (fit30 (by omega) this.2).mono (by decide)) gp (by omega)
  refine fn_of_wp (os := []) ?_
  show wpM b_within [some (.tuple [ownD own, bdD b, .list (ss.map stD), .list (ts.map tkD), ap]), some (.list (cs.map bxsD)), some (frs ps)] _ _ _ _
  unfold b_within
  simp only [vcs, fillA, ownSlots, putOuts, outsOf, Nat.reduceAdd, Nat.reduceLT, Nat.reduceLeDiff, ↓reduceIte, e0, e1, e2]
end
end Toy
namespace L2
open PySem PySem.Spec
theorem o_cutS {z : Str} {l u : Option Int} (h : z.length ≤ 1000) : cutS (.str z) l u = some (.str (Txt.slice z l u)) := if_pos (Nat.le_trans h (by decide))
theorem slice_ok {z : Str} {l u : Option Int} (h : PyData.strOk z = true) : PyData.strOk (Txt.slice z l u) = true := by
  unfold Txt.slice
  split
  · exact h
  · show ((List.filterMap (fun x => z.cps[x]?) (Builtin.Str.strSliceIndices l u 1 z.length)).toArray).all (· < 0x110000) = true
    rw [List.all_toArray, List.all_eq_true]
    intro x hx
    obtain ⟨i, _, e⟩ := List.mem_filterMap.mp hx
    have h : z.cps.all (· < 0x110000) = true := h
    rw [Array.all_eq_true] at h
    obtain ⟨hi, rfl⟩ := Array.getElem?_eq_some_iff.mp e
    exact h i hi
theorem o_max {i j : Int} : max2D [.int i, .int j] = some (.int (if j > i then j else i)) := rfl
theorem o_min {i j : Int} : min2D [.int i, .int j] = some (.int (if j < i then j else i)) := rfl
theorem o_tupL {ds : List D} : tupleD [.list ds] = some (.tuple ds) := rfl
theorem o_tupAdd {a : D} {as bs : List D} (h1 : as.length ≤ 1000) (h2 : bs.length ≤ 1000) : addD (.tuple (a :: as)) (.tuple bs) = some (.tuple (a :: as ++ bs)) := by
  show ((none : Option D).or ((none : Option D).or ((if (a :: as) ≠ [] ∧ (a :: as).length + bs.length ≤ sizeLine then some (PyData.tuple (a :: as ++ bs)) else none).or _))) = _
  rw [if_pos ⟨by simp, Nat.le_trans (show (a :: as).length + bs.length ≤ 3000 by simp; omega) (by decide)⟩]
  rfl
end L2
namespace Toy
open PySem L2
section
variable {ns : List Int} {k m : Int}
noncomputable def cell (ns : List Int) (k : Int) : Int := ns.getD k.toNat 0
theorem cell_ev (h0 : 0 ≤ k) : d_l_cell_at [iL ns, .int k] = .ok (.int (cell ns k)) [] := by
  refine fn_of_wp (os := []) ?_
  show wpM b_l_cell_at [some (iL ns), some (.int k)] _ _ _ _
  unfold b_l_cell_at
  by_cases h : k < (ns.length : Int)
  · have e : k = (k.toNat : Int) := by omega
    have e2 := at_ints (ns := ns) (k := k.toNat) (by omega)
    rw [← e] at e2
    simp only [vcs, fillA, ownSlots, putOuts, outsOf, Nat.reduceAdd, Nat.reduceLT, Nat.reduceLeDiff, ↓reduceIte, List.length_map, h, decide_true, e2, cell]
  · have e : cell ns k = 0 := by unfold cell; rw [List.getD_eq_getElem?_getD, List.getElem?_eq_none (by omega)]; rfl
    simp only [vcs, fillA, ownSlots, putOuts, outsOf, Nat.reduceAdd, Nat.reduceLT, Nat.reduceLeDiff, ↓reduceIte, List.length_map, h, decide_false, Bool.false_eq_true, e]
theorem pw (j : Nat) (h : j ≤ 1000) : powD (.int 10) (.int (j : Int)) = some (.int (10 ^ j)) := by
  rw [powD_ok (cpw (by omega) (by omega) (by decide))]
  rfl
theorem pw4 : powD (.int 10) (.int 4) = some (.int 10000) := pw 4 (by decide)
theorem pw9 : powD (.int 10) (.int 9) = some (.int 1000000000) := pw 9 (by decide)
theorem pw12 : powD (.int 10) (.int 12) = some (.int 1000000000000) := pw 12 (by decide)
theorem pw18 : powD (.int 10) (.int 18) = some (.int 1000000000000000000) := pw 18 (by decide)
theorem pw24 : powD (.int 10) (.int 24) = some (.int 1000000000000000000000000) := pw 24 (by decide)
theorem pw30 : powD (.int 10) (.int 30) = some (.int 1000000000000000000000000000000) := pw 30 (by decide)
noncomputable def num (ns : List Int) (k m : Int) : Int := (cell ns k % 1000000000000000000000000 + (k * k + 3 * k + 1) * (cell ns 0 % 1000000000)) * 2862933555777941757 % 1000000000000000009 % m
theorem num_lt (h : 0 < m) : 0 ≤ num ns k m ∧ num ns k m < m := ⟨Int.emod_nonneg _ (by omega), Int.emod_lt_of_pos _ h⟩
theorem num_ev (h0 : 0 ≤ k) (h1 : k ≤ 1000) (h : 0 < m) : d_l_number [iL ns, .int k, .int m] = .ok (.int (num ns k m)) [] := by
  refine fn_of_wp (os := []) ?_
  show wpM b_l_number [some (iL ns), some (.int k), some (.int m), none] _ _ _ _
  unfold b_l_number
  simp only [vcs, fillA, ownSlots, putOuts, outsOf, Nat.reduceAdd, Nat.reduceLT, Nat.reduceLeDiff, ↓reduceIte, cell_ev h0, cell_ev (ns := ns) (k := 0) (by decide), pw24, pw9, pw18, o_mod, Int.reduceLT, Int.reduceAdd, h, num]
  exact ⟨by first | exact mok_l (by omega) (by omega) | exact mok_r (by omega) (by omega), by first | exact mok_l (by omega) (by omega) | exact mok_r (by omega) (by omega), by first | exact mok_l (by omega) (by omega) | exact mok_r (by omega) (by omega), by first | exact mok_l (by omega) (by omega) | exact mok_r (by omega) (by omega)⟩
theorem pick26 {i : Int} (h0 : 0 ≤ i) (h1 : i < 26) : ∃ z : Str, ixD (.str "abcdefghijklmnopqrstuvwxyz") (.int i) = some (.str z) ∧ z.length = 1 ∧ PyData.strOk z = true := by
  have k : ∀ n : Fin 26, (match ixD (.str "abcdefghijklmnopqrstuvwxyz") (.int (n.val : Int)) with | some (.str z) => decide (z.length = 1) && PyData.strOk z | _ => false) = true := by decide +kernel
  obtain ⟨n, rfl⟩ := Int.eq_ofNat_of_zero_le h0
  have q := k ⟨n, by omega⟩
  dsimp only at q
  split at q
  · rename_i z e
    rw [Bool.and_eq_true, decide_eq_true_iff] at q
    exact ⟨z, e, q.1, q.2⟩
  · cases q
theorem word_ev {c : Int} (h0 : 0 ≤ k) (h1 : k < 26) : ∃ z, d_l_word [.int c, .int k] = .ok (.str z) [] ∧ GoodS z := by
  obtain ⟨y, ey, ly, oy⟩ := pick26 h0 h1
  have s1 := Txt.slice_le "qqq" none (some (c % 4))
  have s2 := Txt.slice_le "qqqq" none (some (c / 4 % 5))
  have o1 := slice_ok (z := "qqq") (l := none) (u := some (c % 4)) (ofString_ok _)
  have o2 := slice_ok (z := "qqqq") (l := none) (u := some (c / 4 % 5)) (ofString_ok _)
  have q1 : ("qqq" : Str).length = 3 := by decide
  have q2 : ("qqqq" : Str).length = 4 := by decide
  have c1 := o_cutS (z := "qqq") (l := none) (u := some (c % 4)) (by omega)
  have c2 := o_cutS (z := "qqqq") (l := none) (u := some (c / 4 % 5)) (by omega)
  have f5 := o_fdiv (i := c) (j := 4) (by decide) (by decide)
  refine ⟨Txt.slice "qqq" none (some (c % 4)) ++ y ++ Txt.slice "qqqq" none (some (c / 4 % 5)), fn_of_wp (os := []) ?_, ?_⟩
  · show wpM b_l_word [some (.int c), some (.int k)] _ _ _ _
    unfold b_l_word
    generalize Txt.slice "qqq" none (some (c % 4)) = x at *
    generalize Txt.slice "qqqq" none (some (c / 4 % 5)) = z at *
    have a1 := strAdd_le (x := x) (y := y) (by omega)
    have l3 : (x ++ y).length = x.length + y.length := str_app_len
    have a2 := strAdd_le (x := x ++ y) (y := z) (by omega)
    simp only [vcs, fillA, ownSlots, putOuts, outsOf, Nat.reduceAdd, Nat.reduceLT, Nat.reduceLeDiff, ↓reduceIte, v_sl, v_opt0, v_opt1, k_int, o_mod, f5, Int.reduceLT, c1, c2, ey, a1, a2]
  · generalize Txt.slice "qqq" none (some (c % 4)) = x at *
    generalize Txt.slice "qqqq" none (some (c / 4 % 5)) = z at *
    refine ⟨?_, str_app_ok (str_app_ok o1 oy) o2⟩
    rw [str_app_len, str_app_len]
    omega
theorem clip_ev {n : Int} : ∃ r, d_l_clipped [.int n] = .ok (.int r) [] ∧ InB r := by
  refine ⟨if (if n < 1000000000 then n else 1000000000) > 0 - 1000000000 then (if n < 1000000000 then n else 1000000000) else 0 - 1000000000, fn_of_wp (os := []) ?_, ?_⟩
  · show wpM b_l_clipped [some (.int n)] _ _ _ _
    unfold b_l_clipped
    simp only [vcs, fillA, ownSlots, putOuts, outsOf, Nat.reduceAdd, Nat.reduceLT, Nat.reduceLeDiff, ↓reduceIte, pw9, o_max, o_min]
  · unfold InB
    split <;> (try split) <;> omega
end
end Toy
namespace Toy
open PySem L2
section
variable {ns : List Int} {own : Q4} {ss : List St} {cs : List (List Bx)} {ts : List Tk}
noncomputable def GoodC (cs : List (List Bx)) (m : Nat) : Prop := ∀ c ∈ cs, c.length ≤ m ∧ ∀ b ∈ c, GoodBx b
theorem loaded_ev {size : Int} (z0 : 60 ≤ size) (z1 : size ≤ 1000000000) (s0 : 1 ≤ ss.length) (s1 : ss.length ≤ 6) : ∃ cs : List (List Bx), d_l_loaded [iL ns, .int size, .list (ss.map stD)] = .ok (.list (cs.map bxsD)) [] ∧ cs.length = ss.length ∧ GoodC cs 24 := by
  have hz : sizeLine = 2 ^ 24 := rfl
  have main : ∃ r, d_l_loaded [iL ns, .int size, .list (ss.map stD)] = .ok r [] ∧ ∃ cs : List (List Bx), r = .list (cs.map bxsD) ∧ cs.length = ss.length ∧ GoodC cs 24 := by
    refine fn_ex ?_
    show wpM b_l_loaded [some (iL ns), some (.int size), some (.list (ss.map stD)), none, none, none, none, none, none] _ _ _ _
    unfold b_l_loaded
    have c2 := cell_ev (ns := ns) (k := 2) (by decide)
    have c1 := cell_ev (ns := ns) (k := 1) (by decide)
    have f9 := o_fdiv (i := cell ns 2) (j := 9) (by decide) (by decide)
    refine wm_cut (fun δ => δ = [some (iL ns), some (.int size), some (.list (ss.map stD)), some (.list (ss.map fun _ => .list [])), none, none, none, none, none]) ?_ ?_
    · simp only [vcs, fillA, ownSlots, putOuts, outsOf, Nat.reduceAdd, Nat.reduceLT, Nat.reduceLeDiff, ↓reduceIte]
      refine wpV.of (comp_enc (enc := stD) (xs := ss) (g := fun _ => .list []) (items_okL rfl) (by omega) fun x _ => by simp only [vcs, fillA, ownSlots, putOuts, outsOf, Nat.reduceAdd, Nat.reduceLT, Nat.reduceLeDiff, ↓reduceIte]) ?_
      simp only [vcs, fillA, ownSlots, putOuts, outsOf, Nat.reduceAdd, Nat.reduceLT, Nat.reduceLeDiff, ↓reduceIte]
    rintro δ rfl
    rw [seq_assoc]
    refine wm_cut (fun δ => ∃ n : Int, 0 ≤ n ∧ n ≤ 24 ∧ δ = [some (iL ns), some (.int size), some (.list (ss.map stD)), some (.list (ss.map fun _ => .list [])), some (.int n), none, none, none, none]) ?_ ?_
    · by_cases c : cell ns 2 / 9 % 5 = 1
      · simp only [vcs, fillA, ownSlots, putOuts, outsOf, Nat.reduceAdd, Nat.reduceLT, Nat.reduceLeDiff, ↓reduceIte, c2, o_mod, f9, Int.reduceLT, c, decide_true]
        exact ⟨16 + cell ns 2 % 9, by omega, by omega, rfl⟩
      · simp only [vcs, fillA, ownSlots, putOuts, outsOf, Nat.reduceAdd, Nat.reduceLT, Nat.reduceLeDiff, ↓reduceIte, c2, o_mod, f9, Int.reduceLT, c, decide_false]
        exact ⟨cell ns 2 % 9, by omega, by omega, rfl⟩
    rintro δ ⟨n, n0, n1, rfl⟩
    simp only [vcs, fillA, ownSlots, putOuts, outsOf, Nat.reduceAdd, Nat.reduceLT, Nat.reduceLeDiff, ↓reduceIte]
    refine wm_rngI (j := n) (δ1 := _) (fun k δ => ∃ (cs : List (List Bx)) (o5 o6 o7 o8 : Option D), δ = [some (iL ns), some (.int size), some (.list (ss.map stD)), some (.list (cs.map bxsD)), some (.int n), o5, o6, o7, o8] ∧ cs.length = ss.length ∧ GoodC cs k) (ok_of_wp2 (by simp only [vcs, fillA, ownSlots, putOuts, outsOf, Nat.reduceAdd, Nat.reduceLT, Nat.reduceLeDiff, ↓reduceIte]; rfl)) (by omega) (by omega) ⟨ss.map fun _ => [], none, none, none, none, by simp [bxsD], by simp, fun c hc => ?_⟩ ?_ ?_
    · obtain ⟨_, _, rfl⟩ := List.mem_map.mp hc
      exact ⟨by simp, fun b hb => by cases hb⟩
    · rintro k δ hk ⟨cs, o5, o6, o7, o8, rfl, lc, gc⟩
      refine ⟨_, rfl, ?_⟩
      have t1 := num_lt (ns := ns) (k := 30 + (k : Int)) (m := 1000000000000) (by decide)
      have e1 := num_ev (ns := ns) (k := 30 + (k : Int)) (m := 1000000000000) (by omega) (by omega) (by decide)
      have f30 := o_fdiv (i := cell ns 1) (j := 30) (by decide) (by decide)
      obtain ⟨z, ez, gz⟩ := word_ev (c := cell ns 1 / 30) (k := (k : Int)) (by omega) (by omega)
      generalize num ns (30 + (k : Int)) 1000000000000 = nn at *
      have f40 := o_fdiv (i := size) (j := 40) (by decide) (by decide)
      have fs9 := o_fdiv (i := size) (j := 9) (by decide) (by decide)
      have f7 := o_fdiv (i := nn) (j := 7) (by decide) (by decide)
      have m40 := o_mod (i := nn) (j := size / 40 + 1) (by omega)
      have ml := o_mod (i := nn / 7) (j := (ss.length : Int)) (by omega)
      have cz := o_cutS (z := z) (l := none) (u := some 1) (by have := gz.len; omega)
      have ls := Txt.slice_le z none (some 1)
      have lz := gz.len
      have os := slice_ok (z := z) (l := none) (u := some 1) gz.ok
      have lp : ("p" : Str).length = 1 := by decide
      have l1 : (Txt.slice z none (some 1)).length ≤ 7 := by
        have h1 : (Builtin.Str.strSliceIndices none (some 1) 1 z.length).length ≤ 1 := by
          unfold Builtin.Str.strSliceIndices sliceRange
          simp only [show (1 : Int) > 0 by decide, if_true, List.length_map, List.length_range]
          split <;> (try simp only [Int.ediv_one]) <;> omega
        unfold Txt.slice
        split
        · rename_i hq
          simp only [beq_self_eq_true, Bool.true_and, beq_iff_eq] at hq
          omega
        · show (List.filterMap _ _).toArray.size ≤ 7
          rw [List.size_toArray]
          exact Nat.le_trans (List.length_filterMap_le _ _) (by omega)
      have ap := strAdd_le (x := "p") (y := Txt.slice z none (some 1)) (by omega)
      generalize hy : Txt.slice z none (some 1) = y at *
      have gp : GoodS ("p" ++ y) := ⟨by rw [str_app_len]; omega, str_app_ok (ofString_ok _) os⟩
      have gk : GoodS "k" := ⟨by decide, ofString_ok _⟩
      have hj0 : 0 ≤ nn / 7 % (ss.length : Int) := Int.emod_nonneg _ (by omega)
      have hj1 : nn / 7 % (ss.length : Int) < (ss.length : Int) := Int.emod_lt_of_pos _ (by omega)
      generalize nn / 7 % (ss.length : Int) = j at *
      have hj : j.toNat < cs.length := by omega
      have ea : (cs.map bxsD)[j.toNat]? = some (.list ((cs[j.toNat]).map bxD)) := by rw [List.getElem?_map, List.getElem?_eq_getElem hj]; rfl
      have gj := gc _ (List.getElem_mem hj)
      have eh : ∀ a0 a1 a2 a3 a4 a5 a6 a7 a8 : Option D, hid [0, 0, 0, 2, 0, 0, 0, 0, 0] [a0, a1, a2, a3, a4, a5, a6, a7, a8] = [a0, a1, a2, none, a4, a5, a6, a7, a8] := fun _ _ _ _ _ _ _ _ _ => rfl
      have i1 := ixN_i (n := (cs.map bxsD).length) (k := j) hj0 (by rw [List.length_map]; omega)
      have wm0 : 0 ≤ nn % (size / 40 + 1) := Int.emod_nonneg _ (by omega)
      have wm1 : nn % (size / 40 + 1) < size / 40 + 1 := Int.emod_lt_of_pos _ (by omega)
      simp only [vcs, fillA, ownSlots, putOuts, outsOf, Nat.reduceAdd, Nat.reduceLT, Nat.reduceLeDiff, ↓reduceIte, pw12, e1, c1, f30, ez, f40, m40, v_sl, v_opt0, v_opt1, k_int, cz, ap, o_mod, Int.reduceLT, fs9, v_mutA, f7, List.length_map, ml, k_mutA i1 ea, eh, k_app2]
      refine ⟨by first | exact mok_l (by omega) (by omega) | exact mok_r (by omega) (by omega), by omega, cs.set j.toNat (cs[j.toNat] ++ [⟨z, 1 + nn % (size / 40 + 1), "p" ++ y, "k", nn % 7 * (size / 9)⟩]), some (.int (k : Int)), some (.int nn), some (.str z), some (.tuple [.str z, .int (1 + nn % (size / 40 + 1)), .str ("p" ++ y), .str "k", .int (nn % 7 * (size / 9))]), ?_, by rw [List.length_set]; exact lc, fun c hc => ?_⟩
      · simp [List.map_set, bxsD, bxD]
      · rcases List.mem_or_eq_of_mem_set hc with h | rfl
        · exact ⟨by have := (gc c h).1; omega, (gc c h).2⟩
        · refine ⟨by rw [List.length_append, List.length_singleton]; omega, fun b hb => ?_⟩
          rcases List.mem_append.mp hb with h | h
          · exact gj.2 b h
          · rw [List.mem_singleton.mp h]
            exact ⟨gz, gp, gk, by show 1 ≤ 1 + nn % (size / 40 + 1) ∧ 1 + nn % (size / 40 + 1) ≤ 1000000000; omega⟩
    · rintro δ ⟨cs, o5, o6, o7, o8, rfl, lc, gc⟩
      simp only [vcs, fillA, ownSlots, putOuts, outsOf, Nat.reduceAdd, Nat.reduceLT, Nat.reduceLeDiff, ↓reduceIte]
      exact ⟨cs, rfl, lc, fun c hc => ⟨by have := (gc c hc).1; omega, (gc c hc).2⟩⟩
  obtain ⟨r, e, cs, rfl, h⟩ := main
  exact ⟨cs, e, h⟩
noncomputable def q4L (q : Q4) : D := .list [.int q.1, .int q.2.1, .int q.2.2.1, .int q.2.2.2]
theorem ixN_3 {m : Nat} : ixN (m + 1 + 1 + 1 + 1) 3 = some 3 := ixN_k (k := 3)
theorem weighed_ev {o : D} (M : Made own ss cs ts) (h0 : ixD o (.int 0) = some (.int own.1)) (h1 : ixD o (.int 1) = some (.int own.2.1)) (h2 : ixD o (.int 2) = some (.int own.2.2.1)) (h3 : ixD o (.int 3) = some (.int own.2.2.2)) : d_l_weighed [o, .list (ss.map stD), .list (cs.map bxsD)] = .ok (q4L (T4 (own :: plT ss cs ss.length))) [] := by
  have lc := M.lc
  have ls := M.ls
  have o0 := M.o0
  refine fn_of_wp (os := []) ?_
  show wpM b_l_weighed [some o, some (.list (ss.map stD)), some (.list (cs.map bxsD)), none, none, none, none] _ _ _ _
  unfold b_l_weighed
  have z0 : q4L (T4 [own]) = .list [.int own.1, .int (own.1 * own.2.1), .int (own.1 * own.2.2.1), .int (own.1 * own.2.2.2)] := by simp [T4, q4L]
  simp only [vcs, fillA, ownSlots, putOuts, outsOf, Nat.reduceAdd, Nat.reduceLT, Nat.reduceLeDiff, ↓reduceIte, h0, h1, h2, h3]
  refine ⟨by first | exact mok_l (by omega) (by omega) | exact mok_r (by omega) (by omega), by first | exact mok_l (by omega) (by omega) | exact mok_r (by omega) (by omega), by first | exact mok_l (by omega) (by omega) | exact mok_r (by omega) (by omega), ?_⟩
  rw [← z0]
  refine wm_rng (j := ss.length) (δ1 := _) (fun k δ => ∃ o4 o5 o6, δ = [some o, some (.list (ss.map stD)), some (.list (cs.map bxsD)), some (q4L (T4 (own :: plT ss cs k))), o4, o5, o6]) (ok_of_wp2 (by simp only [vcs, fillA, ownSlots, putOuts, outsOf, Nat.reduceAdd, Nat.reduceLT, Nat.reduceLeDiff, ↓reduceIte, List.length_map]; rfl)) (by omega) ⟨none, none, none, by simp [plT]⟩ ?_ ?_
  · rintro k δ hk ⟨o4, o5, o6, rfl⟩
    have hk2 : k < cs.length := by omega
    have gb := M.gb _ (getD_mem (d := []) hk2)
    have lb := M.lb _ (getD_mem (d := []) hk2)
    have ec := at_map (enc := bxsD) (l := cs) (d := []) hk2
    have es := at_map (enc := stD) (l := ss) (d := s00) hk
    refine ⟨_, rfl, ?_⟩
    rw [plT_succ]
    generalize cs.getD k [] = bs at *
    generalize ss.getD k s00 = s at *
    refine wm_rng (j := bs.length) (δ1 := _) (fun t δ => ∃ o5 o6, δ = [some o, some (.list (ss.map stD)), some (.list (cs.map bxsD)), some (q4L (T4 (own :: plT ss cs k ++ inT s bs t))), some (.int k), o5, o6]) (ok_of_wp2 (by simp only [vcs, fillA, ownSlots, putOuts, outsOf, Nat.reduceAdd, Nat.reduceLT, Nat.reduceLeDiff, ↓reduceIte, ec, bxsD, List.length_map]; rfl)) (by omega) ⟨o5, o6, by simp [inT]⟩ ?_ ?_
    · rintro t δ ht ⟨o5, o6, rfl⟩
      have eb := at_map (enc := bxD) (l := bs) (d := b00) ht
      have gw := gb _ (getD_mem (d := b00) ht)
      refine ⟨_, rfl, ?_⟩
      have eT : T4 (own :: plT ss cs k ++ inT s bs (t + 1)) = ((T4 (own :: plT ss cs k ++ inT s bs t)).1 + (bs.getD t b00).w, (T4 (own :: plT ss cs k ++ inT s bs t)).2.1 + (bs.getD t b00).w * s.x, (T4 (own :: plT ss cs k ++ inT s bs t)).2.2.1 + (bs.getD t b00).w * s.y, (T4 (own :: plT ss cs k ++ inT s bs t)).2.2.2 + (bs.getD t b00).w * (s.z + (t : Int) * s.t)) := by
        rw [inT_succ, ← List.append_assoc, T4_snoc]
      rw [eT]
      generalize bs.getD t b00 = b at *
      generalize T4 (own :: plT ss cs k ++ inT s bs t) = q at *
      have w := gw.w
      simp only [vcs, fillA, ownSlots, putOuts, outsOf, Nat.reduceAdd, Nat.reduceLT, Nat.reduceLeDiff, ↓reduceIte, ec, bxsD, eb, bxD, q4L, es, stD, ixN_0, ixN_1, ixN_2, ixN_3]
      exact ⟨by first | exact mok_l (by omega) (by omega) | exact mok_r (by omega) (by omega), by first | exact mok_l (by omega) (by omega) | exact mok_r (by omega) (by omega), by first | exact mok_l (by omega) (by omega) | exact mok_r (by omega) (by omega), by first | exact mok_l (by omega) (by omega) | exact mok_r (by omega) (by omega), _, _, rfl⟩
    · rintro δ ⟨o5, o6, rfl⟩
      exact ⟨_, _, _, rfl⟩
  · rintro δ ⟨o4, o5, o6, rfl⟩
    simp only [vcs, fillA, ownSlots, putOuts, outsOf, Nat.reduceAdd, Nat.reduceLT, Nat.reduceLeDiff, ↓reduceIte]
end
end Toy
namespace Toy
open PySem L2
section
variable {ns : List Int} {own : Q4} {ss : List St} {cs : List (List Bx)} {ts : List Tk}
noncomputable def clipV (n : Int) : Int := (clip_ev (n := n)).choose
theorem clip_at {n : Int} : d_l_clipped [.int n] = .ok (.int (clipV n)) [] := (clip_ev (n := n)).choose_spec.1
theorem clip_in {n : Int} : InB (clipV n) := (clip_ev (n := n)).choose_spec.2
theorem bounds_ev {size : Int} {q : Q4} (z0 : 60 ≤ size) (z1 : size ≤ 1000000000) (q0 : 0 < q.1) (fq : Fit 450 q.1) : ∃ r, d_l_bounds [iL ns, .int size, q4L q] = .ok r [] ∧ ∃ b, r = bdD b ∧ GoodBds b := by
  have hz : sizeLine = 2 ^ 24 := rfl
  refine fn_ex ?_
  show wpM b_l_bounds [some (iL ns), some (.int size), some (q4L q), none, none, none, none, none] _ _ _ _
  unfold b_l_bounds
  have f20 := o_fdiv (i := size) (j := 20) (by decide) (by decide)
  have f4 := o_fdiv (i := size) (j := 4) (by decide) (by decide)
  have fd := fun i => o_fdivF (i := i) (j := q.1) q0 (fq.mono (by decide))
  have n55 := num_lt (ns := ns) (k := 55) (m := 7) (by decide)
  have n56 := num_lt (ns := ns) (k := 56) (m := 7) (by decide)
  have n57 := num_lt (ns := ns) (k := 57) (m := 4) (by decide)
  have n58 := num_lt (ns := ns) (k := 58) (m := 4) (by decide)
  have n59 := num_lt (ns := ns) (k := 59) (m := 6) (by decide)
  have n60 := num_lt (ns := ns) (k := 60) (m := 6) (by decide)
  simp only [vcs, fillA, ownSlots, putOuts, outsOf, Nat.reduceAdd, Nat.reduceLT, Nat.reduceLeDiff, ↓reduceIte, f20]
  refine wm_unroll rng2' ?_
  simp only [vcs, fillA, ownSlots, putOuts, outsOf, Nat.reduceAdd, Nat.reduceLT, Nat.reduceLeDiff, ↓reduceIte, v_loopC, v_loopN, k_setN, num_ev, Int.reduceLE, Int.reduceLT, Int.reduceAdd, q4L, fd, clip_at, f4, o_max, o_tupL, List.length_append, List.length_cons, List.length_nil, List.nil_append, List.cons_append]
  refine ⟨by first | exact mok_l (by omega) (by omega) | exact mok_r (by omega) (by omega), by omega, by first | exact mok_l (by omega) (by omega) | exact mok_r (by omega) (by omega), by omega, by first | exact mok_l (by omega) (by omega) | exact mok_r (by omega) (by omega), by omega, by first | exact mok_l (by omega) (by omega) | exact mok_r (by omega) (by omega), by omega, by first | exact mok_l (by omega) (by omega) | exact mok_r (by omega) (by omega), by omega, by first | exact mok_l (by omega) (by omega) | exact mok_r (by omega) (by omega), by omega, ⟨_, _, _, _, _, _⟩, rfl, ⟨clip_in, clip_in, clip_in, clip_in, clip_in, clip_in⟩⟩
theorem pairS_ev (l : ss.length ≤ 100) (g : ∀ s ∈ ss, GoodSt s) : ∃ r, d_l_paired [.list (ss.map stD)] = .ok r [] ∧ ∃ ss' : List St, r = .list (ss'.map stD) ∧ ss'.length = ss.length ∧ ∀ s ∈ ss', GoodSt s := by
  have hz : sizeLine = 2 ^ 24 := rfl
  refine fn_ex ?_
  show wpM b_l_paired [some (.list (ss.map stD)), none, none, none] _ _ _ _
  unfold b_l_paired
  simp only [vcs, fillA, ownSlots, putOuts, outsOf, Nat.reduceAdd, Nat.reduceLT, Nat.reduceLeDiff, ↓reduceIte]
  refine wm_rng (j := ss.length) (δ1 := _) (fun k δ => ∃ (ss' : List St) (o2 o3 : Option D), δ = [some (.list (ss.map stD)), some (.list (ss'.map stD)), o2, o3] ∧ ss'.length = k ∧ ∀ s ∈ ss', GoodSt s) (ok_of_wp2 (by simp only [vcs, fillA, ownSlots, putOuts, outsOf, Nat.reduceAdd, Nat.reduceLT, Nat.reduceLeDiff, ↓reduceIte, List.length_map]; rfl)) (by omega) ⟨[], none, none, rfl, rfl, fun s hs => by cases hs⟩ ?_ ?_
  · rintro k δ hk ⟨ss', o2, o3, rfl, ls, gs⟩
    refine ⟨_, rfl, ?_⟩
    have e1 := at_map (enc := stD) (l := ss) (d := s00) hk
    have g1 := g _ (getD_mem (d := s00) hk)
    generalize ss.getD k s00 = s at *
    by_cases c : (k : Int) % 2 = 1
    · have k1 : k - 1 < ss'.length := by omega
      have e2 := at_map (enc := stD) (l := ss') (d := s00) k1
      have g2 := gs _ (getD_mem (d := s00) k1)
      rw [show ((k - 1 : Nat) : Int) = (k : Int) - 1 by omega] at e2
      generalize ss'.getD (k - 1) s00 = p at *
      have ct : cutT (stD p) (some 3) none = some (.tuple [.int p.z, .int p.t, .int p.h, .int p.m]) := rfl
      have i1 : ixD (stD p) (.int 1) = some (.int p.x) := rfl
      have i2 : ixD (stD p) (.int 2) = some (.int p.y) := rfl
      have i0 : ixD (stD s) (.int 0) = some (.str s.nm) := rfl
      have ta := o_tupAdd (a := .str s.nm) (as := [.int p.x, .int (0 - p.y)]) (bs := [.int p.z, .int p.t, .int p.h, .int p.m]) (show 2 ≤ 1000 by decide) (show 4 ≤ 1000 by decide)
      simp only [vcs, fillA, ownSlots, putOuts, outsOf, Nat.reduceAdd, Nat.reduceLT, Nat.reduceLeDiff, ↓reduceIte, e1, o_mod, Int.reduceLT, c, decide_true, e2, i0, i1, i2, v_sl, v_opt0, v_opt1, k_int, ct, ta, List.length_map]
      refine ⟨by omega, ss' ++ [⟨s.nm, p.x, 0 - p.y, p.z, p.t, p.h, p.m⟩], some (.int (k : Int)), some (.tuple [.str s.nm, .int p.x, .int (0 - p.y), .int p.z, .int p.t, .int p.h, .int p.m]), by simp [stD], by rw [List.length_append, ls]; rfl, fun x hx => ?_⟩
      rcases List.mem_append.mp hx with h | h
      · exact gs x h
      · rw [List.mem_singleton.mp h]
        have := g2.y
        exact ⟨g1.nm, g2.x, by unfold InB at *; show -1000000000 ≤ 0 - p.y ∧ 0 - p.y ≤ 1000000000; omega, g2.z, g2.t⟩
    · simp only [vcs, fillA, ownSlots, putOuts, outsOf, Nat.reduceAdd, Nat.reduceLT, Nat.reduceLeDiff, ↓reduceIte, e1, o_mod, Int.reduceLT, c, decide_false, List.length_map]
      refine ⟨by omega, ss' ++ [s], some (.int (k : Int)), some (stD s), by simp, by rw [List.length_append, ls]; rfl, fun x hx => ?_⟩
      rcases List.mem_append.mp hx with h | h
      · exact gs x h
      · rw [List.mem_singleton.mp h]
        exact g1
  · rintro δ ⟨ss', o2, o3, rfl, ls, gs⟩
    simp only [vcs, fillA, ownSlots, putOuts, outsOf, Nat.reduceAdd, Nat.reduceLT, Nat.reduceLeDiff, ↓reduceIte]
    exact ⟨ss', rfl, ls, gs⟩
theorem pairT_ev (l : ts.length ≤ 100) (g : ∀ s ∈ ts, GoodTk s) : ∃ r, d_l_paired [.list (ts.map tkD)] = .ok r [] ∧ ∃ ts' : List Tk, r = .list (ts'.map tkD) ∧ ts'.length = ts.length ∧ ∀ s ∈ ts', GoodTk s := by
  have hz : sizeLine = 2 ^ 24 := rfl
  refine fn_ex ?_
  show wpM b_l_paired [some (.list (ts.map tkD)), none, none, none] _ _ _ _
  unfold b_l_paired
  simp only [vcs, fillA, ownSlots, putOuts, outsOf, Nat.reduceAdd, Nat.reduceLT, Nat.reduceLeDiff, ↓reduceIte]
  refine wm_rng (j := ts.length) (δ1 := _) (fun k δ => ∃ (ts' : List Tk) (o2 o3 : Option D), δ = [some (.list (ts.map tkD)), some (.list (ts'.map tkD)), o2, o3] ∧ ts'.length = k ∧ ∀ s ∈ ts', GoodTk s) (ok_of_wp2 (by simp only [vcs, fillA, ownSlots, putOuts, outsOf, Nat.reduceAdd, Nat.reduceLT, Nat.reduceLeDiff, ↓reduceIte, List.length_map]; rfl)) (by omega) ⟨[], none, none, rfl, rfl, fun s hs => by cases hs⟩ ?_ ?_
  · rintro k δ hk ⟨ts', o2, o3, rfl, ls, gs⟩
    refine ⟨_, rfl, ?_⟩
    have e1 := at_map (enc := tkD) (l := ts) (d := t00) hk
    have g1 := g _ (getD_mem (d := t00) hk)
    generalize ts.getD k t00 = s at *
    by_cases c : (k : Int) % 2 = 1
    · have k1 : k - 1 < ts'.length := by omega
      have e2 := at_map (enc := tkD) (l := ts') (d := t00) k1
      have g2 := gs _ (getD_mem (d := t00) k1)
      rw [show ((k - 1 : Nat) : Int) = (k : Int) - 1 by omega] at e2
      generalize ts'.getD (k - 1) t00 = p at *
      have ct : cutT (tkD p) (some 3) none = some (.tuple [.int p.z, .int p.r]) := rfl
      have i1 : ixD (tkD p) (.int 1) = some (.int p.x) := rfl
      have i2 : ixD (tkD p) (.int 2) = some (.int p.y) := rfl
      have i0 : ixD (tkD s) (.int 0) = some (.str s.nm) := rfl
      have ta := o_tupAdd (a := .str s.nm) (as := [.int p.x, .int (0 - p.y)]) (bs := [.int p.z, .int p.r]) (show 2 ≤ 1000 by decide) (show 2 ≤ 1000 by decide)
      simp only [vcs, fillA, ownSlots, putOuts, outsOf, Nat.reduceAdd, Nat.reduceLT, Nat.reduceLeDiff, ↓reduceIte, e1, o_mod, Int.reduceLT, c, decide_true, e2, i0, i1, i2, v_sl, v_opt0, v_opt1, k_int, ct, ta, List.length_map]
      refine ⟨by omega, ts' ++ [⟨s.nm, p.x, 0 - p.y, p.z, p.r⟩], some (.int (k : Int)), some (.tuple [.str s.nm, .int p.x, .int (0 - p.y), .int p.z, .int p.r]), by simp [tkD], by rw [List.length_append, ls]; rfl, fun x hx => ?_⟩
      rcases List.mem_append.mp hx with h | h
      · exact gs x h
      · rw [List.mem_singleton.mp h]
        have := g2.y
        exact ⟨g1.nm, g2.x, by unfold InB at *; show -1000000000 ≤ 0 - p.y ∧ 0 - p.y ≤ 1000000000; omega, g2.z, g2.r⟩
    · simp only [vcs, fillA, ownSlots, putOuts, outsOf, Nat.reduceAdd, Nat.reduceLT, Nat.reduceLeDiff, ↓reduceIte, e1, o_mod, Int.reduceLT, c, decide_false, List.length_map]
      refine ⟨by omega, ts' ++ [s], some (.int (k : Int)), some (tkD s), by simp, by rw [List.length_append, ls]; rfl, fun x hx => ?_⟩
      rcases List.mem_append.mp hx with h | h
      · exact gs x h
      · rw [List.mem_singleton.mp h]
        exact g1
  · rintro δ ⟨ts', o2, o3, rfl, ls, gs⟩
    simp only [vcs, fillA, ownSlots, putOuts, outsOf, Nat.reduceAdd, Nat.reduceLT, Nat.reduceLeDiff, ↓reduceIte]
    exact ⟨ts', rfl, ls, gs⟩
end
end Toy
namespace Toy
open PySem L2
section
variable {ns : List Int}
open Classical in
noncomputable def wordV (c k : Int) : Str := if h : 0 ≤ k ∧ k < 26 then (word_ev (c := c) h.1 h.2).choose else ""
theorem word_at {c k : Int} (h0 : 0 ≤ k) (h1 : k < 26) : d_l_word [.int c, .int k] = .ok (.str (wordV c k)) [] ∧ GoodS (wordV c k) := by
  unfold wordV
  rw [dif_pos ⟨h0, h1⟩]
  exact (word_ev (c := c) h0 h1).choose_spec
noncomputable abbrev apD : D := .list [.tuple [.str "k", .str "k", .int 1]]
noncomputable abbrev shipD (own : Q4) (b : Bds) (ss : List St) (ts : List Tk) : D := .tuple [ownD own, bdD b, .list (ss.map stD), .list (ts.map tkD), apD]
theorem place_ev {δ : DS} {size a k : Int} (h1 : δ[0]? = some (some (iL ns))) (h2 : δ[1]? = some (some (.int size))) (h3 : δ[3]? = some (some (.int k))) (z0 : 60 ≤ size) (z1 : size ≤ 1000000000) (k0 : 0 ≤ k) (k1 : k ≤ 100) (a0 : 0 ≤ a) (a1 : a ≤ 100) :
    dComp 1 (setN 0) (dRng [(dC (.int 3))]) dTrue (dOp subD (dCall d_l_number [.val (dVar 1), .val (dOp addD (dOp addD (dC (.int a)) (dOp mulD (dC (.int 2)) (dVar 4))) (dVar 0)), .val (dOp addD (dOp mulD (dC (.int 2)) (dVar 2)) (dC (.int 1)))]) (dVar 2)) δ = .ok (.list [.int (num ns (a + 2 * k + 0) (2 * size + 1) - size), .int (num ns (a + 2 * k + 1) (2 * size + 1) - size), .int (num ns (a + 2 * k + 2) (2 * size + 1) - size)]) δ := by
  have := comp_rng (f := dC (.int 3)) (e := dOp subD (dCall d_l_number [.val (dVar 1), .val (dOp addD (dOp addD (dC (.int a)) (dOp mulD (dC (.int 2)) (dVar 4))) (dVar 0)), .val (dOp addD (dOp mulD (dC (.int 2)) (dVar 2)) (dC (.int 1)))]) (dVar 2)) (δ := δ) (n := 3) (g := fun j => .int (num ns (a + 2 * k + (j : Int)) (2 * size + 1) - size)) (ok_of_wp (by simp only [vcs, fillA, ownSlots, putOuts, outsOf, Nat.reduceAdd, Nat.reduceLT, Nat.reduceLeDiff, ↓reduceIte])) (by decide) (by decide) fun j hj => by
    have e1 := num_ev (ns := ns) (k := a + 2 * k + (j : Int)) (m := 2 * size + 1) (by omega) (by omega) (by omega)
    simp only [vcs, fillA, ownSlots, putOuts, outsOf, Nat.reduceAdd, Nat.reduceLT, Nat.reduceLeDiff, ↓reduceIte, h1, h2, h3, e1]
    exact ⟨by first | exact mok_l (by omega) (by omega) | exact mok_r (by omega) (by omega), by first | exact mok_l (by omega) (by omega) | exact mok_r (by omega) (by omega)⟩
  rw [this]
  rfl
theorem ship_ev : ∃ r, d_l_ship [iL ns] = .ok r [] ∧ ∃ own b ss ts cs, r = .tuple [shipD own b ss ts, .list (cs.map bxsD)] ∧ Made own ss cs ts ∧ GoodBds b := by
  have hz : sizeLine = 2 ^ 24 := rfl
  refine fn_ex ?_
  show wpM b_l_ship [some (iL ns), none, none, none, none, none, none, none, none, none, none, none, none] _ _ _ _
  unfold b_l_ship
  have c0 := cell_ev (ns := ns) (k := 0) (by decide)
  have c1 := cell_ev (ns := ns) (k := 1) (by decide)
  have c2 := cell_ev (ns := ns) (k := 2) (by decide)
  refine wm_cut (fun δ => ∃ size : Int, 60 ≤ size ∧ size ≤ 1000000000 ∧ δ = [some (iL ns), some (.int size), none, none, none, none, none, none, none, none, none, none, none]) ?_ ?_
  · obtain ⟨z, ez, z0, z1⟩ : ∃ z : Int, atI [PyData.int 60, .int 10000, .int 1000000000] (cell ns 0 % 3) = some (.int z) ∧ 60 ≤ z ∧ z ≤ 1000000000 := by
      have : cell ns 0 % 3 = 0 ∨ cell ns 0 % 3 = 1 ∨ cell ns 0 % 3 = 2 := by omega
      rcases this with z | z | z <;> rw [z] <;> exact ⟨_, rfl, by decide, by decide⟩
    simp only [vcs, fillA, ownSlots, putOuts, outsOf, Nat.reduceAdd, Nat.reduceLT, Nat.reduceLeDiff, ↓reduceIte, pw4, pw9, c0, o_mod, Int.reduceLT, ez]
    exact ⟨z, z0, z1, rfl⟩
  rintro δ ⟨size, z0, z1, rfl⟩
  have hm : 0 < 2 * size + 1 := by omega
  have hm4 : 0 < size / 4 := by omega
  have hm30 : 0 < size / 30 := by omega
  have hm2 : 0 < size / 2 := by omega
  have f4 := o_fdiv (i := size) (j := 4) (by decide) (by decide)
  have f30 := o_fdiv (i := size) (j := 30) (by decide) (by decide)
  have f2 := o_fdiv (i := size) (j := 2) (by decide) (by decide)
  have f20 := o_fdiv (i := size) (j := 20) (by decide) (by decide)
  rw [seq_assoc]
  refine wm_cut (fun δ => ∃ own : Q4, (1 ≤ own.1 ∧ own.1 ≤ 1000000000) ∧ (InB own.2.1 ∧ InB own.2.2.1 ∧ InB own.2.2.2) ∧ δ = [some (iL ns), some (.int size), some (q4L own), some (.int 2), none, none, none, none, none, none, none, none, none]) ?_ ?_
  · have n3 := num_lt (ns := ns) (k := 3) (m := size / 4) hm4
    have n4 := num_lt (ns := ns) (k := 4) (m := 2 * size + 1) hm
    have n5 := num_lt (ns := ns) (k := 5) (m := 2 * size + 1) hm
    have n6 := num_lt (ns := ns) (k := 6) (m := 2 * size + 1) hm
    simp only [vcs, fillA, ownSlots, putOuts, outsOf, Nat.reduceAdd, Nat.reduceLT, Nat.reduceLeDiff, ↓reduceIte, f4, num_ev, Int.reduceLE, Int.reduceLT, hm4]
    refine wm_unroll rng3 ?_
    simp only [vcs, fillA, ownSlots, putOuts, outsOf, Nat.reduceAdd, Nat.reduceLT, Nat.reduceLeDiff, ↓reduceIte, v_loopC, v_loopN, k_setN, num_ev, Int.reduceLE, Int.reduceLT, Int.reduceAdd, hm, List.length_append, List.length_cons, List.length_nil, List.nil_append, List.cons_append]
    refine ⟨by first | exact mok_l (by omega) (by omega) | exact mok_r (by omega) (by omega), by omega, by first | exact mok_l (by omega) (by omega) | exact mok_r (by omega) (by omega), by omega, by first | exact mok_l (by omega) (by omega) | exact mok_r (by omega) (by omega), by omega, (1 + num ns 3 (size / 4), num ns 4 (2 * size + 1) - size, num ns 5 (2 * size + 1) - size, num ns 6 (2 * size + 1) - size), by dsimp only; omega, ⟨?_, ?_, ?_⟩, rfl⟩
    · show -1000000000 ≤ _ ∧ _ ≤ (1000000000 : Int); dsimp only; omega
    · show -1000000000 ≤ _ ∧ _ ≤ (1000000000 : Int); dsimp only; omega
    · show -1000000000 ≤ _ ∧ _ ≤ (1000000000 : Int); dsimp only; omega
  rintro δ ⟨own, o0, o1, rfl⟩
  rw [seq_assoc]
  refine wm_cut (fun δ => ∃ (ss : List St) (o3 o5 o6 : Option D), 1 ≤ ss.length ∧ ss.length ≤ 6 ∧ (∀ s ∈ ss, GoodSt s) ∧ δ = [some (iL ns), some (.int size), some (q4L own), o3, some (.list (ss.map stD)), o5, o6, none, none, none, none, none, none]) ?_ ?_
  · simp only [vcs, fillA, ownSlots, putOuts, outsOf, Nat.reduceAdd, Nat.reduceLT, Nat.reduceLeDiff, ↓reduceIte]
    refine wm_rngI (j := 1 + cell ns 1 % 6) (δ1 := _) (fun k δ => ∃ (ss : List St) (o3 o5 o6 : Option D), δ = [some (iL ns), some (.int size), some (q4L own), o3, some (.list (ss.map stD)), o5, o6, none, none, none, none, none, none] ∧ ss.length = k ∧ ∀ s ∈ ss, GoodSt s) (ok_of_wp2 (by simp only [vcs, fillA, ownSlots, putOuts, outsOf, Nat.reduceAdd, Nat.reduceLT, Nat.reduceLeDiff, ↓reduceIte, c1, o_mod, Int.reduceLT]; rfl)) (by omega) (by omega) ⟨[], _, _, _, rfl, rfl, fun s hs => by cases hs⟩ ?_ ?_
    · rintro k δ hk ⟨ss, o3, o5, o6, rfl, ls, gs⟩
      refine ⟨_, rfl, ?_⟩
      simp only [vcs, fillA, ownSlots, putOuts, outsOf, Nat.reduceAdd, Nat.reduceLT, Nat.reduceLeDiff, ↓reduceIte]
      refine wpV.of (place_ev (ns := ns) (size := size) (a := 7) (k := (k : Int)) rfl rfl rfl z0 z1 (by omega) (by omega) (by decide) (by decide)) ?_
      have e1 := num_ev (ns := ns) (k := 8 + 2 * (k : Int)) (m := size / 30) (by omega) (by omega) hm30
      have l1 := num_lt (ns := ns) (k := 8 + 2 * (k : Int)) (m := size / 30) hm30
      have p0 := num_lt (ns := ns) (k := 7 + 2 * (k : Int) + 0) (m := 2 * size + 1) hm
      have p1 := num_lt (ns := ns) (k := 7 + 2 * (k : Int) + 1) (m := 2 * size + 1) hm
      have p2 := num_lt (ns := ns) (k := 7 + 2 * (k : Int) + 2) (m := 2 * size + 1) hm
      obtain ⟨ew, gw⟩ := word_at (c := (k : Int)) (k := (k : Int)) (by omega) (by omega)
      generalize num ns (7 + 2 * (k : Int) + 0) (2 * size + 1) = x at *
      generalize num ns (7 + 2 * (k : Int) + 1) (2 * size + 1) = y at *
      generalize num ns (7 + 2 * (k : Int) + 2) (2 * size + 1) = z at *
      simp only [vcs, fillA, ownSlots, putOuts, outsOf, Nat.reduceAdd, Nat.reduceLT, Nat.reduceLeDiff, ↓reduceIte, f30, e1, ew, List.length_map]
      refine ⟨by first | exact mok_l (by omega) (by omega) | exact mok_r (by omega) (by omega), by omega, ss ++ [⟨wordV (k : Int) (k : Int), x - size, y - size, z - size, 1 + num ns (8 + 2 * (k : Int)) (size / 30), 1 + (k : Int), size⟩], some (.int (k : Int)), some (.list [.int (x - size), .int (y - size), .int (z - size)]), some (.int (1 + num ns (8 + 2 * (k : Int)) (size / 30))), by simp [stD], by rw [List.length_append, ls]; rfl, fun s hs => ?_⟩
      rcases List.mem_append.mp hs with h | h
      · exact gs s h
      · rw [List.mem_singleton.mp h]
        refine ⟨gw, ?_, ?_, ?_, ?_⟩
        · show -1000000000 ≤ x - size ∧ x - size ≤ 1000000000; omega
        · show -1000000000 ≤ y - size ∧ y - size ≤ 1000000000; omega
        · show -1000000000 ≤ z - size ∧ z - size ≤ 1000000000; omega
        · show -1000000000 ≤ 1 + num ns (8 + 2 * (k : Int)) (size / 30) ∧ 1 + num ns (8 + 2 * (k : Int)) (size / 30) ≤ 1000000000; omega
    · rintro δ ⟨ss, o3, o5, o6, rfl, ls, gs⟩
      exact ⟨ss, o3, o5, o6, by omega, by omega, gs, rfl⟩
  rintro δ ⟨ss, o3, o5, o6, s0, s1, gs, rfl⟩
  rw [seq_assoc]
  refine wm_cut (fun δ => ∃ (ts : List Tk) (o3 o5 o8 : Option D), ts.length ≤ 4 ∧ (∀ s ∈ ts, GoodTk s) ∧ δ = [some (iL ns), some (.int size), some (q4L own), o3, some (.list (ss.map stD)), o5, o6, some (.list (ts.map tkD)), o8, none, none, none, none]) ?_ ?_
  · have f6 := o_fdiv (i := cell ns 1) (j := 6) (by decide) (by decide)
    simp only [vcs, fillA, ownSlots, putOuts, outsOf, Nat.reduceAdd, Nat.reduceLT, Nat.reduceLeDiff, ↓reduceIte]
    refine wm_rngI (j := cell ns 1 / 6 % 5) (δ1 := _) (fun k δ => ∃ (ts : List Tk) (o3 o5 o8 : Option D), δ = [some (iL ns), some (.int size), some (q4L own), o3, some (.list (ss.map stD)), o5, o6, some (.list (ts.map tkD)), o8, none, none, none, none] ∧ ts.length = k ∧ ∀ s ∈ ts, GoodTk s) (ok_of_wp2 (by simp only [vcs, fillA, ownSlots, putOuts, outsOf, Nat.reduceAdd, Nat.reduceLT, Nat.reduceLeDiff, ↓reduceIte, c1, o_mod, f6, Int.reduceLT]; rfl)) (by omega) (by omega) ⟨[], _, _, _, rfl, rfl, fun s hs => by cases hs⟩ ?_ ?_
    · rintro k δ hk ⟨ts, o3, o5, o8, rfl, ls, gt⟩
      refine ⟨_, rfl, ?_⟩
      simp only [vcs, fillA, ownSlots, putOuts, outsOf, Nat.reduceAdd, Nat.reduceLT, Nat.reduceLeDiff, ↓reduceIte]
      refine wpV.of (place_ev (ns := ns) (size := size) (a := 20) (k := (k : Int)) rfl rfl rfl z0 z1 (by omega) (by omega) (by decide) (by decide)) ?_
      have e1 := num_ev (ns := ns) (k := 21 + 2 * (k : Int)) (m := size / 2) (by omega) (by omega) hm2
      have l1 := num_lt (ns := ns) (k := 21 + 2 * (k : Int)) (m := size / 2) hm2
      have p0 := num_lt (ns := ns) (k := 20 + 2 * (k : Int) + 0) (m := 2 * size + 1) hm
      have p1 := num_lt (ns := ns) (k := 20 + 2 * (k : Int) + 1) (m := 2 * size + 1) hm
      have p2 := num_lt (ns := ns) (k := 20 + 2 * (k : Int) + 2) (m := 2 * size + 1) hm
      obtain ⟨ew, gw⟩ := word_at (c := 3) (k := (k : Int)) (by omega) (by omega)
      generalize num ns (20 + 2 * (k : Int) + 0) (2 * size + 1) = x at *
      generalize num ns (20 + 2 * (k : Int) + 1) (2 * size + 1) = y at *
      generalize num ns (20 + 2 * (k : Int) + 2) (2 * size + 1) = z at *
      simp only [vcs, fillA, ownSlots, putOuts, outsOf, Nat.reduceAdd, Nat.reduceLT, Nat.reduceLeDiff, ↓reduceIte, f2, e1, ew, List.length_map]
      refine ⟨by first | exact mok_l (by omega) (by omega) | exact mok_r (by omega) (by omega), by omega, ts ++ [⟨wordV 3 (k : Int), x - size, y - size, z - size, 1 + num ns (21 + 2 * (k : Int)) (size / 2)⟩], some (.int (k : Int)), some (.list [.int (x - size), .int (y - size), .int (z - size)]), some (.int (1 + num ns (21 + 2 * (k : Int)) (size / 2))), by simp [tkD], by rw [List.length_append, ls]; rfl, fun s hs => ?_⟩
      rcases List.mem_append.mp hs with h | h
      · exact gt s h
      · rw [List.mem_singleton.mp h]
        refine ⟨gw, ?_, ?_, ?_, ?_⟩
        · show -1000000000 ≤ x - size ∧ x - size ≤ 1000000000; omega
        · show -1000000000 ≤ y - size ∧ y - size ≤ 1000000000; omega
        · show -1000000000 ≤ z - size ∧ z - size ≤ 1000000000; omega
        · show 0 ≤ 1 + num ns (21 + 2 * (k : Int)) (size / 2) ∧ 1 + num ns (21 + 2 * (k : Int)) (size / 2) ≤ 1000000000; omega
    · rintro δ ⟨ts, o3, o5, o8, rfl, ls, gt⟩
      exact ⟨ts, o3, o5, o8, by omega, gt, rfl⟩
  rintro δ ⟨ts, o3, o5, o8, t1, gt, rfl⟩
  have f45 := o_fdiv (i := cell ns 2) (j := 45) (by decide) (by decide)
  obtain ⟨ev, hev⟩ : ∃ ev : Bool, ev = decide (cell ns 2 / 45 % 3 = 1) := ⟨_, rfl⟩
  rw [seq_assoc]
  refine wm_cut (fun δ => ∃ (own : Q4) (ss : List St) (ts : List Tk), (1 ≤ own.1 ∧ own.1 ≤ 1000000000) ∧ (InB own.2.1 ∧ InB own.2.2.1 ∧ InB own.2.2.2) ∧ 1 ≤ ss.length ∧ ss.length ≤ 6 ∧ (∀ s ∈ ss, GoodSt s) ∧ ts.length ≤ 4 ∧ (∀ s ∈ ts, GoodTk s) ∧ δ = [some (iL ns), some (.int size), some (q4L own), o3, some (.list (ss.map stD)), o5, o6, some (.list (ts.map tkD)), o8, some (.bool ev), none, none, none]) ?_ ?_
  · simp only [vcs, fillA, ownSlots, putOuts, outsOf, Nat.reduceAdd, Nat.reduceLT, Nat.reduceLeDiff, ↓reduceIte, c2, o_mod, f45, Int.reduceLT, ← hev]
    cases ev with
    | true =>
      obtain ⟨r1, e1, ss', rfl, ls', gs'⟩ := pairS_ev (ss := ss) (by omega) gs
      obtain ⟨r2, e2, ts', rfl, lt', gt'⟩ := pairT_ev (ts := ts) (by omega) gt
      simp only [vcs, fillA, ownSlots, putOuts, outsOf, Nat.reduceAdd, Nat.reduceLT, Nat.reduceLeDiff, ↓reduceIte, q4L, ixN_2, e1, e2]
      exact ⟨(own.1, own.2.1, 0, own.2.2.2), ss', ts', o0, ⟨o1.1, by unfold InB; dsimp only; omega, o1.2.2⟩, by omega, by omega, gs', by omega, gt', rfl⟩
    | false =>
      simp only [vcs, fillA, ownSlots, putOuts, outsOf, Nat.reduceAdd, Nat.reduceLT, Nat.reduceLeDiff, ↓reduceIte]
      exact ⟨own, ss, ts, o0, o1, s0, s1, gs, t1, gt, rfl⟩
  clear o0 o1 s0 s1 gs t1 gt own ss ts
  rintro δ ⟨own, ss, ts, o0, o1, s0, s1, gs, t1, gt, rfl⟩
  obtain ⟨cs, el, lc, gc⟩ := loaded_ev (ns := ns) (ss := ss) z0 z1 s0 s1
  have M : Made own ss cs ts := ⟨o0, o1, by omega, lc, fun c hc => by have := (gc c hc).1; omega, by omega, gs, fun c hc => (gc c hc).2, gt⟩
  have ew := weighed_ev (o := q4L own) M rfl rfl rfl rfl
  obtain ⟨r, eb, b, rfl, gb⟩ := bounds_ev (ns := ns) (q := T4 (own :: plT ss cs ss.length)) z0 z1 (q_pos M) (q_fit M).1
  have n54 := num_lt (ns := ns) (k := 54) (m := 3) (by decide)
  have et : tupleD [q4L own] = some (ownD own) := rfl
  rw [seq_assoc, seq_assoc]
  refine wm_cut (fun δ => ∃ (b : Bds) (o12 : Option D), GoodBds b ∧ δ = [some (iL ns), some (.int size), some (q4L own), o3, some (.list (ss.map stD)), o5, o6, some (.list (ts.map tkD)), o8, some (.bool ev), some (.list (cs.map bxsD)), some (bdD b), o12]) ?_ ?_
  · cases ev with
    | true =>
      have u1 : cutT (bdD b) none (some 2) = some (.tuple [.int b.b0, .int b.b1]) := rfl
      have u2 : cutT (bdD b) (some 4) none = some (.tuple [.int b.b4, .int b.b5]) := rfl
      generalize hfar : num ns 54 3 * (1 + size / 20) = far
      have hf : 0 ≤ far ∧ far ≤ 1000000000 := by
        have : num ns 54 3 = 0 ∨ num ns 54 3 = 1 ∨ num ns 54 3 = 2 := by omega
        rcases this with z | z | z <;> rw [z] at hfar <;> omega
      have a1 := o_tupAdd (a := .int b.b0) (as := [.int b.b1]) (bs := [.int (0 - far), .int far]) (show 1 ≤ 1000 by decide) (show 2 ≤ 1000 by decide)
      have a2 := o_tupAdd (a := .int b.b0) (as := [.int b.b1, .int (0 - far), .int far]) (bs := [.int b.b4, .int b.b5]) (show 3 ≤ 1000 by decide) (show 2 ≤ 1000 by decide)
      simp only [List.cons_append, List.nil_append] at a1 a2
      simp only [vcs, fillA, ownSlots, putOuts, outsOf, Nat.reduceAdd, Nat.reduceLT, Nat.reduceLeDiff, ↓reduceIte, el, ew, eb, num_ev, Int.reduceLE, Int.reduceLT, f20, hfar, v_sl, v_opt0, v_opt1, k_int, u1, u2, a1, a2]
      refine ⟨by first | exact mok_l (by omega) (by omega) | exact mok_r (by omega) (by omega), ⟨b.b0, b.b1, 0 - far, far, b.b4, b.b5⟩, some (.int far), ⟨gb.b0, gb.b1, ?_, ?_, gb.b4, gb.b5⟩, rfl⟩
      · show -1000000000 ≤ 0 - far ∧ 0 - far ≤ 1000000000; omega
      · show -1000000000 ≤ far ∧ far ≤ 1000000000; omega
    | false =>
      simp only [vcs, fillA, ownSlots, putOuts, outsOf, Nat.reduceAdd, Nat.reduceLT, Nat.reduceLeDiff, ↓reduceIte, el, ew, eb]
      exact ⟨b, none, gb, rfl⟩
  rintro δ ⟨b, o12, gb, rfl⟩
  simp only [vcs, fillA, ownSlots, putOuts, outsOf, Nat.reduceAdd, Nat.reduceLT, Nat.reduceLeDiff, ↓reduceIte, et]
  exact ⟨own, b, ss, ts, cs, rfl, M, gb⟩
end
end Toy
namespace Toy
open PySem L2
theorem SP_fit {a b : Nat} {ns : List Int} {ps : List (Int × Int)} (hb : 1 ≤ b) (gn : GoodN a ns) (gp : GoodP b ps) : ∀ k, Fit (2 + (a + b + 1) * k) (SPq ns ps k).1 ∧ Fit (2 + (a + b + 1) * k) (SPq ns ps k).2
  | 0 => ⟨fit0, fit1 (by omega)⟩
  | k + 1 => by
    obtain ⟨h1, h2⟩ := SP_fit hb gn gp k
    obtain ⟨_, p1, p2⟩ := gp.at hb k
    have n1 := gn.at k
    have hs : (a + b + 1) * (k + 1) = (a + b + 1) * k + (a + b + 1) := Nat.mul_succ _ _
    exact ⟨(h1.mul p2 (Nat.le_refl _)).add ((n1.mul p1 (Nat.le_refl _)).mul h2 (Nat.le_refl _)) (by omega), h2.mul p2 (by omega)⟩
theorem sum_ev {a b : Nat} {ns : List Int} {ps : List (Int × Int)} (hb : 1 ≤ b) (hl : ns.length = ps.length) (gn : GoodN a ns) (gp : GoodP b ps) (h : ps.length ≤ 20) (hab : a + b ≤ 10000) : d_l_sum [iL ns, frs ps] = .ok (fr (SPq ns ps ps.length)) [] := by
  refine fn_of_wp (os := []) ?_
  show wpM b_l_sum [some (iL ns), some (frs ps), none, none, none] _ _ _ _
  unfold b_l_sum
  simp only [vcs, fillA, ownSlots, putOuts, outsOf, Nat.reduceAdd, Nat.reduceLT, Nat.reduceLeDiff, ↓reduceIte]
  refine wm_rng (j := ps.length) (δ1 := [some (iL ns), some (frs ps), some (.int 0), some (.int 1), none]) (fun k δ => ∃ o, δ = [some (iL ns), some (frs ps), some (.int (SPq ns ps k).1), some (.int (SPq ns ps k).2), o]) (dFn1_ok (dVar_ok rfl) (by rw [o_lenL, List.length_map])) (by omega) ⟨none, by rw [SPq]⟩ ?_ ?_
  · rintro k δ hk ⟨o, rfl⟩
    obtain ⟨f1, f2⟩ := SP_fit hb gn gp k
    obtain ⟨_, p1, p2⟩ := gp.at hb k
    have n1 := gn.at k
    have hm : (a + b + 1) * k ≤ 10001 * 20 := Nat.mul_le_mul (by omega) (by omega)
    refine ⟨_, rfl, ?_⟩
    simp only [vcs, fillA, ownSlots, putOuts, outsOf, Nat.reduceAdd, Nat.reduceLT, Nat.reduceLeDiff, ↓reduceIte, at_ints (show k < ns.length by omega), at_frs (show k < ps.length by omega), fr]
    refine ⟨f1.mulOk p2 (by omega), n1.mulOk p1 (by omega), (n1.mul p1 (Nat.le_refl _)).mulOk f2 (by omega), f2.mulOk p2 (by omega), _, rfl⟩
  · rintro δ ⟨o, rfl⟩
    simp only [vcs, fillA, ownSlots, putOuts, outsOf, Nat.reduceAdd, Nat.reduceLT, Nat.reduceLeDiff, ↓reduceIte, fr]
theorem low_ev2 {t b : Int} {m n : Nat} (hb : 0 < b) (ft : Fit m t) (fb : Fit n b) (hn : n ≤ 9000) : ∃ x y, d_l_low [fr (t, b)] = .ok (fr (x, y)) [] ∧ 0 < y ∧ Fit m x ∧ Fit n y := by
  have hg : 0 < Nat.gcd t.natAbs b.natAbs := Nat.gcd_pos_of_pos_right _ (by omega)
  have hg' : (0 : Int) < (Nat.gcd t.natAbs b.natAbs : Nat) := by omega
  have gl : Nat.gcd t.natAbs b.natAbs ≤ b.natAbs := Nat.gcd_le_right _ (by omega)
  have fg : Fit 9000 ((Nat.gcd t.natAbs b.natAbs : Nat) : Int) := (fb.le (by omega)).mono hn
  have eb : ((b.natAbs : Nat) : Int) = b := by omega
  have es := sh_ev t.natAbs b.natAbs
  rw [eb] at es
  have dvd : ((Nat.gcd t.natAbs b.natAbs : Nat) : Int) ∣ b := Int.gcd_dvd_right t b
  refine ⟨t / (Nat.gcd t.natAbs b.natAbs : Nat), b / (Nat.gcd t.natAbs b.natAbs : Nat), fn_of_wp (os := []) ?_, ?_, ft.div, fb.div⟩
  · show wpM b_l_low [some (fr (t, b)), none] _ _ _ _
    unfold b_l_low
    simp only [vcs, fillA, ownSlots, putOuts, outsOf, Nat.reduceAdd, Nat.reduceLT, Nat.reduceLeDiff, ↓reduceIte, fr, es, o_fdivF hg' fg]
  · exact Int.ediv_pos_of_pos_of_dvd hb (by omega) dvd
end Toy
namespace L2
open PySem PySem.Spec
theorem comp2_fe {α : Type} {enc A B g : α → D} {h : α → Bool} {xs : List α} {f : M (List D)} {t : M Bool} {e : M D} {δ : DS} (hE : ∀ x, enc x = .tuple [A x, B x]) (hf : f δ = .ok (xs.map enc) δ) (hl : xs.length ≤ 1000) (ht : ∀ x ∈ xs, wpV t (some (A x) :: some (B x) :: δ) fun b δ1 => b = h x ∧ δ1 = some (A x) :: some (B x) :: δ) (he : ∀ x ∈ xs, wpV e (some (A x) :: some (B x) :: δ) fun v δ1 => v = g x ∧ δ1 = some (A x) :: some (B x) :: δ) : dComp 2 (setT [0, 1]) f t e δ = .ok (.list ((xs.filter h).map g)) δ := by
  have main : ∀ (xs : List α) (acc : List D) (o1 o2 : Option D), (∀ x ∈ xs, t (some (A x) :: some (B x) :: δ) = .ok (h x) (some (A x) :: some (B x) :: δ)) → (∀ x ∈ xs, e (some (A x) :: some (B x) :: δ) = .ok (g x) (some (A x) :: some (B x) :: δ)) → acc.length + xs.length ≤ sizeLine → ∃ o1' o2', dCompL (setT [0, 1]) t e (xs.map enc) acc (o1 :: o2 :: δ) = .ok (acc ++ (xs.filter h).map g) (o1' :: o2' :: δ) := by
    intro xs
    induction xs with
    | nil => exact fun acc o1 o2 _ _ _ => ⟨o1, o2, by simp [dCompL]⟩
    | cons x xs ih =>
      intro acc o1 o2 ht he hl
      have hd := ht x List.mem_cons_self
      have hv := he x List.mem_cons_self
      rw [List.length_cons] at hl
      have e1 : setT [0, 1] (enc x) (o1 :: o2 :: δ) = some (some (A x) :: some (B x) :: δ) := by rw [hE]; simp [setT, setN]
      cases hk : h x with
      | true =>
        obtain ⟨o1', o2', ih⟩ := ih (acc ++ [g x]) (some (A x)) (some (B x)) (fun y hy => ht y (List.mem_cons_of_mem _ hy)) (fun y hy => he y (List.mem_cons_of_mem _ hy)) (by simp; omega)
        refine ⟨o1', o2', ?_⟩
        rw [List.map_cons]
        unfold dCompL
        rw [e1]
        simp only [hd, hk, Res.bind, if_true, hv]
        rw [if_pos (by omega), ih]
        simp [hk]
      | false =>
        obtain ⟨o1', o2', ih⟩ := ih acc (some (A x)) (some (B x)) (fun y hy => ht y (List.mem_cons_of_mem _ hy)) (fun y hy => he y (List.mem_cons_of_mem _ hy)) (by omega)
        refine ⟨o1', o2', ?_⟩
        rw [List.map_cons]
        unfold dCompL
        rw [e1]
        simp only [hd, hk, Res.bind, Bool.false_eq_true, if_false]
        rw [if_pos (by omega), ih]
        simp [hk]
  unfold dComp
  rw [hf]
  obtain ⟨o1, o2, q⟩ := main xs [] none none (fun x hx => by
    obtain ⟨b, δ1, e, rfl, rfl⟩ := (ht x hx).ex
    exact e) (fun x hx => ok_of_wp (he x hx)) (Nat.le_trans (by simpa using hl) (show 1000 ≤ sizeLine by decide))
  simp only [Res.bind]
  rw [show List.replicate 2 (none : Option D) ++ δ = none :: none :: δ from rfl, q]
  simp
end L2
namespace Toy
open PySem L2
section
variable {own : Q4} {ss : List St} {cs : List (List Bx)} {ts : List Tk} {ps : List (Int × Int)} {b : Bds}
noncomputable def byF (i : Nat) (t : Tk) : Int := if i = 0 then 1 else if i = 1 then t.x else if i = 2 then t.y else t.z
noncomputable def toldQ (q : Q4) (i : Nat) : Int := if i = 0 then q.1 else if i = 1 then q.2.1 else if i = 2 then q.2.2.1 else q.2.2.2
noncomputable def SmI (ts : List Tk) (ps : List (Int × Int)) (q : Q4) (i : Nat) : Int × Int := ((SPq (ts.map (byF i)) ps ts.length).1 + toldQ q i * sB ts ps, sB ts ps)
theorem byF_at {i : Nat} {t : Tk} (h0 : 1 ≤ i) (h : i < 4) : atI [PyData.str t.nm, .int t.x, .int t.y, .int t.z, .int t.r] (i : Int) = some (.int (byF i t)) := by
  have : i = 1 ∨ i = 2 ∨ i = 3 := by omega
  rcases this with rfl | rfl | rfl <;> rfl
theorem by_good {i : Nat} (M : Made own ss cs ts) : GoodN 40 (ts.map (byF i)) := fun x hx => by
  obtain ⟨t, ht, rfl⟩ := List.mem_map.mp hx
  have g := M.gt t ht
  unfold byF
  split
  · exact fit1 (by decide)
  · split
    · exact g.x.fit.mono (by decide)
    · split
      · exact g.y.fit.mono (by decide)
      · exact g.z.fit.mono (by decide)
theorem told_fit {q : Q4} (f : Fit 450 q.1 ∧ Fit 450 q.2.1 ∧ Fit 450 q.2.2.1 ∧ Fit 450 q.2.2.2) (i : Nat) : Fit 450 (toldQ q i) := by
  unfold toldQ
  split
  · exact f.1
  · split
    · exact f.2.1
    · split
      · exact f.2.2.1
      · exact f.2.2.2
theorem sumI_ev {q : Q4} {i : Nat} (M : Made own ss cs ts) (f : Fit 450 q.1 ∧ Fit 450 q.2.1 ∧ Fit 450 q.2.2.1 ∧ Fit 450 q.2.2.2) (gp : GoodP 100 ps) (lp : ps.length = ts.length) : d_l_sum [iL (ts.map (byF i) ++ [1]), frs (ps ++ [(toldQ q i, 1)])] = .ok (fr (SmI ts ps q i)) [] := by
  have lt := M.lt
  have e := sum_ev (a := 40) (b := 450) (ns := ts.map (byF i) ++ [1]) (ps := ps ++ [(toldQ q i, 1)]) (by decide) (by simp [lp]) (fun x hx => by
    rcases List.mem_append.mp hx with h | h
    · exact by_good M x h
    · rw [List.mem_singleton.mp h]; exact fit1 (by decide)) (fun p hp => by
    rcases List.mem_append.mp hp with h | h
    · have := gp p h
      exact ⟨this.1, this.2.1.mono (by decide), this.2.2.mono (by decide)⟩
    · rw [List.mem_singleton.mp h]; exact ⟨show (0 : Int) < 1 by decide, told_fit f i, fit1 (by decide)⟩) (by rw [List.length_append, List.length_singleton]; omega) (by decide)
  rw [e]
  have l : (ps ++ [(toldQ q i, 1)]).length = (ts.map (byF i)).length + 1 := by simp [lp]
  rw [l, SP_app (by simp [lp])]
  have e1 : SPq [1] [(toldQ q i, 1)] 1 = (toldQ q i, 1) := by simp [SPq]
  rw [e1, List.length_map]
  have e2 : (SPq (ts.map (byF i)) ps ts.length).2 = sB ts ps := SP_bot ts.length
  unfold SmI
  simp only [e2, Int.mul_one]
theorem ltB {a c d B : Int} (h : 0 < B) : (a * B < c * (d * B)) ↔ a < c * d := by
  rw [← Int.mul_assoc]
  exact ⟨fun z => Int.lt_of_mul_lt_mul_right z (by omega), fun z => Int.mul_lt_mul_of_pos_right z h⟩
theorem gtB {a c d B : Int} (h : 0 < B) : (c * (d * B) < a * B) ↔ c * d < a := by
  rw [← Int.mul_assoc]
  exact ⟨fun z => Int.lt_of_mul_lt_mul_right z (by omega), fun z => Int.mul_lt_mul_of_pos_right z h⟩
theorem gtC {a c d B : Int} (h : 0 < B) : (c * d * B < a * B) ↔ c * d < a := ⟨fun z => Int.lt_of_mul_lt_mul_right z (by omega), fun z => Int.mul_lt_mul_of_pos_right z h⟩
theorem sm_fit {q : Q4} {i : Nat} (M : Made own ss cs ts) (f : Fit 450 q.1 ∧ Fit 450 q.2.1 ∧ Fit 450 q.2.2.1 ∧ Fit 450 q.2.2.2) (gp : GoodP 100 ps) : Fit 2000 (SmI ts ps q i).1 ∧ Fit 1500 (sB ts ps) := by
  have lt := M.lt
  obtain ⟨h1, h2⟩ := SP_fit (a := 40) (b := 100) (by decide) (by_good (i := i) M) gp ts.length
  have e2 : (SPq (ts.map (byF i)) ps ts.length).2 = sB ts ps := SP_bot ts.length
  rw [e2] at h2
  have hb : 2 + (40 + 100 + 1) * ts.length ≤ 1412 := by omega
  have h1 := h1.mono hb
  have h2 := h2.mono hb
  exact ⟨h1.add ((told_fit f i).mul h2 (Nat.le_refl _)) (by omega), h2.mono (by decide)⟩
open Classical in
theorem upright_ev (M : Made own ss cs ts) (g : GoodBds b) (gp : GoodP 100 ps) (lp : ps.length = ts.length) :
    d_l_upright [shipD own b ss ts, .list (cs.map bxsD), frs ps] = .ok (.bool (decide (RightP (rowsL ts b (T4 (own :: plT ss cs ss.length))) (ts.map fun t => t.r) ps))) [] := by
  have hz : sizeLine = 2 ^ 24 := rfl
  have lt := M.lt
  have ew := weighed_ev (o := ownD own) M rfl rfl rfl rfl
  have fq := q_fit M
  generalize hP : RightP (rowsL ts b (T4 (own :: plT ss cs ss.length))) (ts.map fun t => t.r) ps = P
  generalize T4 (own :: plT ss cs ss.length) = q at *
  have sm := fun i => sumI_ev (i := i) M fq gp lp
  have fs := fun i => (sm_fit (i := i) M fq gp).1
  have fb := (sm_fit (i := 0) M fq gp).2
  have pB : 0 < sB ts ps := SP_pos gp.pos ts.length
  refine fn_of_wp (os := []) ?_
  show wpM b_l_upright [some (shipD own b ss ts), some (.list (cs.map bxsD)), some (frs ps), none, none, none, none, none, none, none] _ _ _ _
  unfold b_l_upright
  refine wm_cut (fun δ => ∃ o3 : Option D, (∀ j, j < ts.length → RoomsP (ts.map fun t => t.r) ps j) ∧ δ = [some (shipD own b ss ts), some (.list (cs.map bxsD)), some (frs ps), o3, none, none, none, none, none, none]) ?_ ?_
  · refine wm_rng (j := ps.length) (δ1 := _) (fun k δ => ∃ o3 : Option D, (∀ j, j < k → RoomsP (ts.map fun t => t.r) ps j) ∧ δ = [some (shipD own b ss ts), some (.list (cs.map bxsD)), some (frs ps), o3, none, none, none, none, none, none]) (ok_of_wp2 (by simp only [vcs, fillA, ownSlots, putOuts, outsOf, Nat.reduceAdd, Nat.reduceLT, Nat.reduceLeDiff, ↓reduceIte, List.length_map])) (by omega) ⟨none, fun j hj => by omega, rfl⟩ ?_ ?_
    · rintro k δ hk ⟨o3, hall, rfl⟩
      refine ⟨_, rfl, ?_⟩
      have kt : k < ts.length := by omega
      have e1 := at_frs (ps := ps) hk
      have e2 := at_map (enc := tkD) (l := ts) (d := t00) kt
      have gt := M.gt _ (getD_mem (d := t00) kt)
      have er : (ts.map fun t => t.r).getD k 0 = (ts.getD k t00).r := getD_tk kt
      have hR : RoomsP (ts.map fun t => t.r) ps k ↔ (0 ≤ (ps.getD k (0, 1)).1 ∧ (ps.getD k (0, 1)).1 ≤ (ts.getD k t00).r * (ps.getD k (0, 1)).2) := by unfold RoomsP; rw [er]
      have hno : ¬ RoomsP (ts.map fun t => t.r) ps k → ¬ P := fun h z => h (by rw [← hP] at z; exact z.1 k (by rw [List.length_map]; exact kt))
      rw [hR] at hno
      have gr := gt.r
      generalize ps.getD k (0, 1) = p at *
      generalize ts.getD k t00 = t at *
      have i4 : ixD (tkD t) (.int 4) = some (.int t.r) := rfl
      by_cases c1 : p.1 < 0
      · simp only [vcs, fillA, ownSlots, putOuts, outsOf, Nat.reduceAdd, Nat.reduceLT, Nat.reduceLeDiff, ↓reduceIte, e1, fr, c1, decide_true]
        exact (decide_eq_false (hno (by omega))).symm
      · by_cases c2 : t.r * p.2 < p.1
        · simp only [vcs, fillA, ownSlots, putOuts, outsOf, Nat.reduceAdd, Nat.reduceLT, Nat.reduceLeDiff, ↓reduceIte, e1, fr, c1, decide_false, e2, i4, c2, decide_true]
          exact ⟨by first | exact mok_l (by omega) (by omega) | exact mok_r (by omega) (by omega), (decide_eq_false (hno (by omega))).symm⟩
        · simp only [vcs, fillA, ownSlots, putOuts, outsOf, Nat.reduceAdd, Nat.reduceLT, Nat.reduceLeDiff, ↓reduceIte, e1, fr, c1, decide_false, e2, i4, c2]
          refine ⟨by first | exact mok_l (by omega) (by omega) | exact mok_r (by omega) (by omega), _, fun j hj => ?_, rfl⟩
          by_cases ej : j = k
          · subst ej
            rw [hR]
            omega
          · exact hall j (by omega)
    · rintro δ ⟨o3, hall, rfl⟩
      exact ⟨o3, fun j hj => hall j (by omega), rfl⟩
  rintro δ ⟨o3, hrooms, rfl⟩
  have hPU : P ↔ Up b q (sW ts ps) (sX ts ps) (sY ts ps) (sZ ts ps) (sB ts ps) := by
    rw [← hP, ← rows_iff lp]
    exact ⟨fun z => z.2, fun z => ⟨fun k hk => hrooms k (by rwa [List.length_map] at hk), z⟩⟩
  have i3 : ixD (shipD own b ss ts) (.int 3) = some (.list (ts.map tkD)) := rfl
  have i0 : ixD (shipD own b ss ts) (.int 0) = some (ownD own) := rfl
  have i2 : ixD (shipD own b ss ts) (.int 2) = some (.list (ss.map stD)) := rfl
  have i1 : ixD (shipD own b ss ts) (.int 1) = some (bdD b) := rfl
  simp only [vcs, fillA, ownSlots, putOuts, outsOf, Nat.reduceAdd, Nat.reduceLT, Nat.reduceLeDiff, ↓reduceIte, i0, i2, ew]
  refine wpV.of (comp_enc (enc := PyData.int) (xs := [q.1, q.2.1, q.2.2.1, q.2.2.2]) (g := fun n => fr (n, 1)) (items_wp (by simp only [vcs, fillA, ownSlots, putOuts, outsOf, Nat.reduceAdd, Nat.reduceLT, Nat.reduceLeDiff, ↓reduceIte, q4L]; rfl)) (show 4 ≤ 1000 by decide) fun x _ => by simp only [vcs, fillA, ownSlots, putOuts, outsOf, Nat.reduceAdd, Nat.reduceLT, Nat.reduceLeDiff, ↓reduceIte, fr]) ?_
  simp only [vcs, fillA, ownSlots, putOuts, outsOf, Nat.reduceAdd, Nat.reduceLT, Nat.reduceLeDiff, ↓reduceIte]
  refine wm_rng (j := 4) (δ1 := _) (fun k δ => ∃ o3 o7 : Option D, δ = [some (shipD own b ss ts), some (.list (cs.map bxsD)), some (frs ps), o3, some (q4L q), some (.list ([q.1, q.2.1, q.2.2.1, q.2.2.2].map fun n => fr (n, 1))), some (.list ((List.range k).map fun i => fr (SmI ts ps q i))), o7, none, none]) (ok_of_wp2 (by simp only [vcs, fillA, ownSlots, putOuts, outsOf, Nat.reduceAdd, Nat.reduceLT, Nat.reduceLeDiff, ↓reduceIte]; exact ⟨rfl, rfl⟩)) (by decide) ⟨o3, none, rfl⟩ ?_ ?_
  · rintro k δ hk ⟨o3, o7, rfl⟩
    refine ⟨_, rfl, ?_⟩
    have et : atI ([q.1, q.2.1, q.2.2.1, q.2.2.2].map fun n => fr (n, 1)) (k : Int) = some (fr (toldQ q k, 1)) := by
      have : k = 0 ∨ k = 1 ∨ k = 2 ∨ k = 3 := by omega
      rcases this with rfl | rfl | rfl | rfl <;> rfl
    have eb : (ts.map fun t => PyData.int (byF k t)) = (ts.map (byF k)).map PyData.int := by simp
    have er : (List.range (k + 1)).map (fun i => fr (SmI ts ps q i)) = (List.range k).map (fun i => fr (SmI ts ps q i)) ++ [fr (SmI ts ps q k)] := by rw [List.range_succ, List.map_append]; rfl
    have esum : d_l_sum [.list ((ts.map (byF k)).map PyData.int ++ [.int 1]), .list (ps.map fr ++ [fr (toldQ q k, 1)])] = .ok (fr (SmI ts ps q k)) [] := by
      have := sm k
      simp only [iL, frs, List.map_append, List.map_cons, List.map_nil] at this
      exact this
    rw [er]
    simp only [vcs, fillA, ownSlots, putOuts, outsOf, Nat.reduceAdd, Nat.reduceLT, Nat.reduceLeDiff, ↓reduceIte]
    refine wpV.of (comp_enc (enc := tkD) (xs := ts) (g := fun _ => .int 1) (items_wp (by simp only [vcs, fillA, ownSlots, putOuts, outsOf, Nat.reduceAdd, Nat.reduceLT, Nat.reduceLeDiff, ↓reduceIte, i3])) (by omega) fun x _ => by simp only [vcs, fillA, ownSlots, putOuts, outsOf, Nat.reduceAdd, Nat.reduceLT, Nat.reduceLeDiff, ↓reduceIte]) ?_
    by_cases c : k = 0
    · subst c
      have e1 : (ts.map fun _ => PyData.int 1) = (ts.map (byF 0)).map PyData.int := by rw [← eb]; rfl
      have c0 : ¬ (0 : Int) < ((0 : Nat) : Int) := by simp
      rw [e1]
      simp only [vcs, fillA, ownSlots, putOuts, outsOf, Nat.reduceAdd, Nat.reduceLT, Nat.reduceLeDiff, ↓reduceIte, c0, decide_false, et, esum, List.length_map, List.length_cons, List.length_nil, List.length_range]
      exact ⟨by omega, by omega, by omega, _, _, rfl⟩
    · have c0 : (0 : Int) < (k : Int) := by omega
      simp only [vcs, fillA, ownSlots, putOuts, outsOf, Nat.reduceAdd, Nat.reduceLT, Nat.reduceLeDiff, ↓reduceIte, c0, decide_true]
      refine wpV.of (comp_enc (enc := tkD) (xs := ts) (g := fun t => .int (byF k t)) (items_wp (by simp only [vcs, fillA, ownSlots, putOuts, outsOf, Nat.reduceAdd, Nat.reduceLT, Nat.reduceLeDiff, ↓reduceIte, i3])) (by omega) fun t _ => by simp only [vcs, fillA, ownSlots, putOuts, outsOf, Nat.reduceAdd, Nat.reduceLT, Nat.reduceLeDiff, ↓reduceIte, tkD, byF_at (t := t) (show 1 ≤ k by omega) hk]) ?_
      rw [eb]
      simp only [vcs, fillA, ownSlots, putOuts, outsOf, Nat.reduceAdd, Nat.reduceLT, Nat.reduceLeDiff, ↓reduceIte, et, esum, List.length_map, List.length_cons, List.length_nil, List.length_range]
      exact ⟨by omega, by omega, by omega, _, _, rfl⟩
  rintro δ ⟨o3, o7, rfl⟩
  have el : (List.range 4).map (fun i => fr (SmI ts ps q i)) = [fr (SmI ts ps q 0), fr (SmI ts ps q 1), fr (SmI ts ps q 2), fr (SmI ts ps q 3)] := rfl
  rw [el]
  have m0 : SmI ts ps q 0 = (sW ts ps + q.1 * sB ts ps, sB ts ps) := rfl
  have m1 : SmI ts ps q 1 = (sX ts ps + q.2.1 * sB ts ps, sB ts ps) := rfl
  have m2 : SmI ts ps q 2 = (sY ts ps + q.2.2.1 * sB ts ps, sB ts ps) := rfl
  have m3 : SmI ts ps q 3 = (sZ ts ps + q.2.2.2 * sB ts ps, sB ts ps) := rfl
  have f0 := fs 0
  have f1 := fs 1
  have f2 := fs 2
  have f3 := fs 3
  rw [m0] at f0 ⊢
  rw [m1] at f1 ⊢
  rw [m2] at f2 ⊢
  rw [m3] at f3 ⊢
  have hU : Up b q (sW ts ps) (sX ts ps) (sY ts ps) (sZ ts ps) (sB ts ps) ↔ (sX ts ps + q.2.1 * sB ts ps ≤ b.b1 * (sW ts ps + q.1 * sB ts ps) ∧ b.b0 * (sW ts ps + q.1 * sB ts ps) ≤ sX ts ps + q.2.1 * sB ts ps ∧ sY ts ps + q.2.2.1 * sB ts ps ≤ b.b3 * (sW ts ps + q.1 * sB ts ps) ∧ b.b2 * (sW ts ps + q.1 * sB ts ps) ≤ sY ts ps + q.2.2.1 * sB ts ps ∧ sZ ts ps + q.2.2.2 * sB ts ps ≤ b.b4 * (sW ts ps + q.1 * sB ts ps) ∧ sW ts ps + q.1 * sB ts ps ≤ b.b5 * sB ts ps) := ⟨fun h => ⟨h.x1, h.x0, h.y3, h.y2, h.z4, h.w5⟩, fun h => ⟨h.1, h.2.1, h.2.2.1, h.2.2.2.1, h.2.2.2.2.1, h.2.2.2.2.2⟩⟩
  rw [hU] at hPU
  clear hU hP sm fs m0 m1 m2 m3 el
  dsimp only at f0 f1 f2 f3
  generalize sX ts ps + q.2.1 * sB ts ps = X at *
  generalize sY ts ps + q.2.2.1 * sB ts ps = Y at *
  generalize sZ ts ps + q.2.2.2 * sB ts ps = Z at *
  generalize sW ts ps + q.1 * sB ts ps = W at *
  generalize sB ts ps = B at *
  have g0 := g.b0.fit
  have g1 := g.b1.fit
  have g2 := g.b2.fit
  have g3 := g.b3.fit
  have g4 := g.b4.fit
  have g5 := g.b5.fit
  have fWB : Fit 3500 (W * B) := f0.mul fb (by decide)
  have o1 := f1.mulOk fb (by decide)
  have o2 := f0.mulOk fb (by decide)
  have o3' := g0.mulOk fWB (by decide)
  have o4 := g1.mulOk fWB (by decide)
  have o5 := f2.mulOk fb (by decide)
  have o6 := g2.mulOk fWB (by decide)
  have o7' := g3.mulOk fWB (by decide)
  have o8 := f3.mulOk fb (by decide)
  have o9 := g4.mulOk f0 (by decide)
  have o10 := (g4.mul f0 (k := 2030) (by decide)).mulOk fb (by decide)
  have o11 := g5.mulOk fb (by decide)
  have k20 : IntMulOk 2 0 := by first | exact mok_l (by omega) (by omega) | exact mok_r (by omega) (by omega)
  have k21 : IntMulOk 2 1 := by first | exact mok_l (by omega) (by omega) | exact mok_r (by omega) (by omega)
  simp only [vcs, fillA, ownSlots, putOuts, outsOf, Nat.reduceAdd, Nat.reduceLT, Nat.reduceLeDiff, ↓reduceIte, i1]
  refine wm_unroll rng2' ?_
  simp only [vcs, fillA, ownSlots, putOuts, outsOf, Nat.reduceAdd, Nat.reduceLT, Nat.reduceLeDiff, ↓reduceIte, v_loopC, v_loopN, k_setN, Int.reduceAdd, Int.reduceMul, k20, k21, fr, bdD, o1, o2, o3', o4, o5, o6, o7', o8, o9, o10, o11]
  have no : ∀ {A : Prop}, (P → ¬ A) → A → false = decide P := fun h a => (decide_eq_false fun z => h z a).symm
  have e1 : X * B < b.b0 * (W * B) ↔ X < b.b0 * W := ltB pB
  have e2 : b.b1 * (W * B) < X * B ↔ b.b1 * W < X := gtB pB
  have e3 : Y * B < b.b2 * (W * B) ↔ Y < b.b2 * W := ltB pB
  have e4 : b.b3 * (W * B) < Y * B ↔ b.b3 * W < Y := gtB pB
  have e5 : b.b4 * W * B < Z * B ↔ b.b4 * W < Z := gtC pB
  clear o1 o2 o3' o4 o5 o6 o7' o8 o9 o10 o11 f0 f1 f2 f3 fb g0 g1 g2 g3 g4 g5 fWB k20 k21
  split
  · rename_i h; exact no (fun z => by have := (hPU.mp z).2.1; omega) (e1.mp (decide_eq_true_iff.mp h))
  rename_i h1
  split
  · rename_i h; exact no (fun z => by have := (hPU.mp z).1; omega) (e2.mp (decide_eq_true_iff.mp h))
  rename_i h2
  split
  · rename_i h; exact no (fun z => by have := (hPU.mp z).2.2.2.1; omega) (e3.mp (decide_eq_true_iff.mp h))
  rename_i h3
  split
  · rename_i h; exact no (fun z => by have := (hPU.mp z).2.2.1; omega) (e4.mp (decide_eq_true_iff.mp h))
  rename_i h4
  split
  · rename_i h; exact no (fun z => by have := (hPU.mp z).2.2.2.2.1; omega) (e5.mp (decide_eq_true_iff.mp h))
  rename_i h5
  rw [decide_eq_true_iff, e1] at h1
  rw [decide_eq_true_iff, e2] at h2
  rw [decide_eq_true_iff, e3] at h3
  rw [decide_eq_true_iff, e4] at h4
  rw [decide_eq_true_iff, e5] at h5
  rw [decide_eq_decide, hPU]
  omega
end
end Toy
namespace Toy
open PySem L2
section
variable {own : Q4} {ss : List St} {cs : List (List Bx)} {ts : List Tk} {ps : List (Int × Int)} {b : Bds}
theorem fills_ev {c : Int} (c0 : 0 ≤ c) (lt : ts.length ≤ 10) (gt : ∀ t ∈ ts, GoodTk t) : ∃ ps : List (Int × Int), d_l_fills [shipD own b ss ts, .int c] = .ok (frs ps) [] ∧ ps.length = ts.length ∧ GoodP 100 ps := by
  have hz : sizeLine = 2 ^ 24 := rfl
  have main : ∃ r, d_l_fills [shipD own b ss ts, .int c] = .ok r [] ∧ ∃ ps : List (Int × Int), r = frs ps ∧ ps.length = ts.length ∧ GoodP 100 ps := by
    refine fn_ex ?_
    show wpM b_l_fills [some (shipD own b ss ts), some (.int c), none, none, none, none] _ _ _ _
    unfold b_l_fills
    have i3 : ixD (shipD own b ss ts) (.int 3) = some (.list (ts.map tkD)) := rfl
    simp only [vcs, fillA, ownSlots, putOuts, outsOf, Nat.reduceAdd, Nat.reduceLT, Nat.reduceLeDiff, ↓reduceIte]
    refine wm_rng (j := ts.length) (δ1 := _) (fun k δ => ∃ (ps : List (Int × Int)) (o3 o4 o5 : Option D), δ = [some (shipD own b ss ts), some (.int c), some (frs ps), o3, o4, o5] ∧ ps.length = k ∧ GoodP 100 ps) (ok_of_wp2 (by simp only [vcs, fillA, ownSlots, putOuts, outsOf, Nat.reduceAdd, Nat.reduceLT, Nat.reduceLeDiff, ↓reduceIte, i3, List.length_map]; rfl)) (by omega) ⟨[], none, none, none, rfl, rfl, fun p hp => by cases hp⟩ ?_ ?_
    · rintro k δ hk ⟨ps, o3, o4, o5, rfl, lp, gp⟩
      refine ⟨_, rfl, ?_⟩
      have e2 := at_map (enc := tkD) (l := ts) (d := t00) hk
      have g1 := (gt _ (getD_mem (d := t00) hk)).r
      generalize ts.getD k t00 = t at *
      have i4 : ixD (tkD t) (.int 4) = some (.int t.r) := rfl
      have fd := o_fdiv (i := c) (j := (k : Int) + 2) (by omega) (by omega)
      have mm := o_mod (i := c / ((k : Int) + 2)) (j := 12 * t.r + 3) (by omega)
      have add : ∀ p : Int × Int, (0 < p.2 ∧ Fit 100 p.1 ∧ Fit 100 p.2) → ∃ (ps' : List (Int × Int)) (o3 o4 o5 : Option D), ([some (shipD own b ss ts), some (.int c), some (.list (ps.map fr ++ [fr p])), some (.int (k : Int)), some (.int t.r), some (.int (c / ((k : Int) + 2)))] : DS) = [some (shipD own b ss ts), some (.int c), some (frs ps'), o3, o4, o5] ∧ ps'.length = k + 1 ∧ GoodP 100 ps' := fun p hp => ⟨ps ++ [p], _, _, _, by rw [frs, List.map_append]; rfl, by rw [List.length_append, lp]; rfl, fun x hx => by
        rcases List.mem_append.mp hx with h | h
        · exact gp x h
        · rw [List.mem_singleton.mp h]; exact hp⟩
      have fr30 : Fit 30 t.r := fit30 (by omega) g1.2
      by_cases c1 : c / ((k : Int) + 2) % 5 = 0
      · simp only [vcs, fillA, ownSlots, putOuts, outsOf, Nat.reduceAdd, Nat.reduceLT, Nat.reduceLeDiff, ↓reduceIte, i3, e2, i4, fd, o_mod, Int.reduceLT, c1, decide_true, List.length_map]
        exact ⟨by omega, add (0, 1) ⟨by decide, fit0, fit1 (by decide)⟩⟩
      · by_cases c2 : c / ((k : Int) + 2) % 5 = 1
        · simp only [vcs, fillA, ownSlots, putOuts, outsOf, Nat.reduceAdd, Nat.reduceLT, Nat.reduceLeDiff, ↓reduceIte, i3, e2, i4, fd, o_mod, Int.reduceLT, c1, c2, decide_true, decide_false, Int.reduceEq, List.length_map]
          exact ⟨by omega, add (t.r, 1) ⟨show (0 : Int) < 1 by decide, fr30.mono (by decide), fit1 (by decide)⟩⟩
        · have n0 : 0 ≤ c / ((k : Int) + 2) % (12 * t.r + 3) := Int.emod_nonneg _ (by omega)
          have n1 : c / ((k : Int) + 2) % (12 * t.r + 3) < 12 * t.r + 3 := Int.emod_lt_of_pos _ (by omega)
          obtain ⟨x, y, el, hy, fx, fy⟩ := low_ev2 (t := c / ((k : Int) + 2) % (12 * t.r + 3) - 1 - t.r) (b := 10) (m := 40) (n := 40) (by decide) (by show Int.natAbs _ < 2 ^ 40; omega) (by show Int.natAbs _ < 2 ^ 40; decide) (by decide)
          rw [fr] at el
          simp only [vcs, fillA, ownSlots, putOuts, outsOf, Nat.reduceAdd, Nat.reduceLT, Nat.reduceLeDiff, ↓reduceIte, i3, e2, i4, fd, o_mod, Int.reduceLT, c1, c2, decide_false, mm, el, List.length_map]
          exact ⟨by first | exact mok_l (by omega) (by omega) | exact mok_r (by omega) (by omega), by omega, add (x, y) ⟨hy, fx.mono (by decide), fy.mono (by decide)⟩⟩
    · rintro δ ⟨ps, o3, o4, o5, rfl, lp, gp⟩
      simp only [vcs, fillA, ownSlots, putOuts, outsOf, Nat.reduceAdd, Nat.reduceLT, Nat.reduceLeDiff, ↓reduceIte]
      exact ⟨ps, rfl, lp, gp⟩
  obtain ⟨r, e, ps, rfl, h⟩ := main
  exact ⟨ps, e, h⟩
noncomputable def nB (c : Int) (k : Nat) : Int := c / ((k : Int) + 3) % 4
noncomputable def fB (c : Int) (k : Nat) : Int × Int := if nB c k = 2 then (1, 1 + c % 9) else if nB c k = 3 then (7, 5) else (0, 1)
noncomputable def gB (c : Int) (k : Nat) : Bool := decide (1 < nB c k)
theorem fB_good {c : Int} {k : Nat} : 0 < (fB c k).2 ∧ Fit 100 (fB c k).1 ∧ Fit 100 (fB c k).2 := by
  unfold fB
  split
  · exact ⟨by show 0 < 1 + c % 9; omega, fit1 (by decide), by show Int.natAbs (1 + c % 9) < 2 ^ 100; omega⟩
  · split
    · exact ⟨by decide, by show Int.natAbs 7 < 2 ^ 100; decide, by show Int.natAbs 5 < 2 ^ 100; decide⟩
    · exact ⟨by decide, fit0, fit1 (by decide)⟩
theorem enum_rng {f : Nat → D} {n : Nat} : enumD ((List.range n).map f) = (List.range n).map fun k => .tuple [.int (k : Int), f k] := by
  apply List.ext_getElem?
  intro i
  rw [enumD, List.getElem?_mapIdx, List.getElem?_map, List.getElem?_map]
  by_cases h : i < n
  · rw [List.getElem?_range h]; rfl
  · rw [List.getElem?_eq_none (by simp; omega)]; rfl
theorem breaking_ev {c : Int} {d : D} : d_breaking [.tuple [.list ((List.range 6).map fun k => fr (fB c k)), d]] = .ok (.list (((List.range 6).filter (gB c)).map fun (k : Nat) => .int (k : Int))) [] := by
  refine fn_of_wp (os := []) ?_
  show wpM b_breaking [some (.tuple [.list ((List.range 6).map fun k => fr (fB c k)), d])] _ _ _ _
  unfold b_breaking
  simp only [vcs, fillA, ownSlots, putOuts, outsOf, Nat.reduceAdd, Nat.reduceLT, Nat.reduceLeDiff, ↓reduceIte]
  refine wpV.of (comp2_fe (enc := fun (k : Nat) => .tuple [.int (k : Int), fr (fB c k)]) (A := fun (k : Nat) => .int (k : Int)) (B := fun k => fr (fB c k)) (xs := List.range 6) (h := gB c) (g := fun (k : Nat) => .int (k : Int)) (fun x => rfl) ?_ (by decide) (fun k hk => ?_) fun k _ => by simp only [vcs, fillA, ownSlots, putOuts, outsOf, Nat.reduceAdd, Nat.reduceLT, Nat.reduceLeDiff, ↓reduceIte]) ?_
  · have e : dVals [(dOp ixD (dVar 0) (dC (.int 0)))] [some (.tuple [.list ((List.range 6).map fun k => fr (fB c k)), d])] = .ok [.list ((List.range 6).map fun k => fr (fB c k))] [some (.tuple [.list ((List.range 6).map fun k => fr (fB c k)), d])] := by
      obtain ⟨ds, δ1, e, rfl, rfl⟩ := (show wpV (dVals [(dOp ixD (dVar 0) (dC (.int 0)))]) [some (.tuple [.list ((List.range 6).map fun k => fr (fB c k)), d])] fun ds δ1 => ds = [.list ((List.range 6).map fun k => fr (fB c k))] ∧ δ1 = [some (.tuple [.list ((List.range 6).map fun k => fr (fB c k)), d])] by simp only [vcs, fillA, ownSlots, putOuts, outsOf, Nat.reduceAdd, Nat.reduceLT, Nat.reduceLeDiff, ↓reduceIte]).ex
      exact e
    unfold dEnum
    rw [e, bind_ok]
    dsimp only
    rw [enum_rng]
  · have g1 := fB_good (c := c) (k := k)
    have eu := under_ev (n := 100) (a := 0) (b := 1) (c := (fB c k).1) (d := (fB c k).2) fit0 (fit1 (by decide)) g1.2.1 g1.2.2 (by decide)
    have eg : decide (0 * (fB c k).2 < (fB c k).1 * 1) = gB c k := by
      unfold gB
      rw [decide_eq_decide, Int.zero_mul, Int.mul_one]
      have h4 : 0 ≤ nB c k ∧ nB c k < 4 := by unfold nB; omega
      unfold fB
      split
      · rename_i h; rw [h]; show (0 : Int) < 1 ↔ _; decide
      · split
        · rename_i h; rw [h]; show (0 : Int) < 7 ↔ _; decide
        · show (0 : Int) < 0 ↔ _; omega
    rw [eg] at eu
    simp only [fr] at eu ⊢
    simp only [vcs, fillA, ownSlots, putOuts, outsOf, Nat.reduceAdd, Nat.reduceLT, Nat.reduceLeDiff, ↓reduceIte, eu]
  · exact ⟨rfl, rfl⟩
theorem in_false {α : Type} : ∀ xs : List α, inL false (.bool true) (.list (xs.map fun _ => .bool false)) = some (.bool false) := fun xs => by
  have e : vsOf (xs.map fun _ => PyData.bool false) = some (xs.map fun _ => V.bl false) := by
    induction xs with
    | nil => rfl
    | cons x xs ih =>
      show (match vOf (.bool false), vsOf (xs.map fun _ => PyData.bool false) with | some v, some vs => some (v :: vs) | _, _ => none) = _
      rw [ih]
      rfl
  unfold inL
  dsimp only
  rw [e]
  show some (PyData.bool (inV (.bl true) (xs.map fun _ => V.bl false))) = _
  unfold inV
  rw [List.any_map]
  congr 2
  rw [List.any_eq_false]
  intro x _
  exact Bool.false_ne_true
theorem broken_ev {c : Int} {n : Nat} (c0 : 0 ≤ c) (hn : n ≤ 100) : d_l_broken [.int c, .int (n : Int)] = .ok (.bool true) [] := by
  have hz : sizeLine = 2 ^ 24 := rfl
  refine fn_of_wp (os := []) ?_
  show wpM b_l_broken [some (.int c), some (.int (n : Int)), none, none, none, none, none, none] _ _ _ _
  unfold b_l_broken
  simp only [vcs, fillA, ownSlots, putOuts, outsOf, Nat.reduceAdd, Nat.reduceLT, Nat.reduceLeDiff, ↓reduceIte]
  refine wm_rng (j := 6) (δ1 := _) (fun k δ => ∃ o4 o5 : Option D, δ = [some (.int c), some (.int (n : Int)), some (.list ((List.range k).map fun k => fr (fB c k))), some (.list (((List.range k).filter (gB c)).map fun (k : Nat) => .int (k : Int))), o4, o5, none, none]) (ok_of_wp2 (by simp only [vcs, fillA, ownSlots, putOuts, outsOf, Nat.reduceAdd, Nat.reduceLT, Nat.reduceLeDiff, ↓reduceIte]; exact ⟨rfl, rfl⟩)) (by decide) ⟨none, none, rfl⟩ ?_ ?_
  · rintro k δ hk ⟨o4, o5, rfl⟩
    refine ⟨_, rfl, ?_⟩
    have fd := o_fdiv (i := c) (j := (k : Int) + 3) (by omega) (by omega)
    have hN : c / ((k : Int) + 3) % 4 = nB c k := rfl
    have h4 : 0 ≤ nB c k ∧ nB c k < 4 := by unfold nB; omega
    have ef : atI [PyData.tuple [.int 0, .int 1], .tuple [.int 0, .int 1], .tuple [.int 1, .int (1 + c % 9)], .tuple [.int 7, .int 5]] (nB c k) = some (fr (fB c k)) := by
      unfold fB
      have : nB c k = 0 ∨ nB c k = 1 ∨ nB c k = 2 ∨ nB c k = 3 := by omega
      rcases this with z | z | z | z <;> rw [z] <;> rfl
    have l1 := List.length_filter_le (gB c) (List.range k)
    rw [List.length_range] at l1
    have er : (List.range (k + 1)).map (fun k => fr (fB c k)) = (List.range k).map (fun k => fr (fB c k)) ++ [fr (fB c k)] := by rw [List.range_succ, List.map_append]; rfl
    rw [er, List.range_succ, List.filter_append, List.map_append]
    by_cases cc : 1 < nB c k
    · have eg : gB c k = true := decide_eq_true cc
      simp only [vcs, fillA, ownSlots, putOuts, outsOf, Nat.reduceAdd, Nat.reduceLT, Nat.reduceLeDiff, ↓reduceIte, fd, o_mod, Int.reduceLT, hN, cc, decide_true, ef, List.length_map, List.length_range, List.filter_cons, eg, List.filter_nil, List.map_cons, List.map_nil]
      exact ⟨by omega, by omega, _, _, rfl⟩
    · have eg : gB c k = false := decide_eq_false cc
      simp only [vcs, fillA, ownSlots, putOuts, outsOf, Nat.reduceAdd, Nat.reduceLT, Nat.reduceLeDiff, ↓reduceIte, fd, o_mod, Int.reduceLT, hN, cc, decide_false, ef, List.length_map, List.length_range, List.filter_cons, eg, List.filter_nil, List.map_nil, List.append_nil]
      exact ⟨by omega, _, _, rfl⟩
  rintro δ ⟨o4, o5, rfl⟩
  have em := o_many (ds := [PyData.tuple [.int (c % 3), .int 1]]) (n := n) (by simp; omega) (by omega)
  rw [many1] at em
  have sF : Sh 5 (.tuple [.list ((List.range 6).map fun k => fr (fB c k)), .list (List.replicate n (.tuple [.int (c % 3), .int 1]))]) := by
    have s1 : ∀ x y : Int, Sh 2 (.tuple [.int x, .int y]) := fun x y => sh_tup fun d hd => by
      simp only [List.mem_cons, List.not_mem_nil, or_false] at hd
      rcases hd with rfl | rfl <;> exact sh_int
    refine (sh_tup (k := 3) fun d hd => ?_).mono (by decide)
    simp only [List.mem_cons, List.not_mem_nil, or_false] at hd
    rcases hd with rfl | rfl
    · refine sh_list fun d hd => ?_
      obtain ⟨k, _, rfl⟩ := List.mem_map.mp hd
      exact s1 _ _
    · refine sh_list fun d hd => ?_
      rw [(List.mem_replicate.mp hd).2]
      exact s1 _ _
  have eL : isiD .list (.list (((List.range 6).filter (gB c)).map fun (k : Nat) => .int (k : Int))) = some (.bool true) := rfl
  have eB : ∀ i : Int, isiD .bool (.int i) = some (.bool false) := fun _ => rfl
  have sI : Sh 2 (.list (((List.range 6).filter (gB c)).map fun (k : Nat) => .int (k : Int))) := sh_list fun d hd => by
    obtain ⟨k, _, rfl⟩ := List.mem_map.mp hd
    exact sh_int
  have bk := breaking_ev (c := c) (d := .list (List.replicate n (.tuple [.int (c % 3), .int 1])))
  have nr := ne_refl sF (by decide)
  have er := eq_refl sI (by decide)
  generalize (List.range 6).map (fun k => fr (fB c k)) = L1 at *
  generalize hL2 : (List.range 6).filter (gB c) = L2 at *
  have lL : L2.length ≤ 6 := by rw [← hL2]; exact Nat.le_trans (List.length_filter_le _ _) (by decide)
  simp only [vcs, fillA, ownSlots, putOuts, outsOf, Nat.reduceAdd, Nat.reduceLT, Nat.reduceLeDiff, ↓reduceIte, o_listL, o_mod, Int.reduceLT, em, bk, nr, eL]
  refine wpV.of (comp_enc (enc := fun (k : Nat) => PyData.int (k : Int)) (xs := L2) (g := fun _ => .bool false) (items_wp (by simp only [vcs, fillA, ownSlots, putOuts, outsOf, Nat.reduceAdd, Nat.reduceLT, Nat.reduceLeDiff, ↓reduceIte])) (by omega) fun x _ => by simp only [vcs, fillA, ownSlots, putOuts, outsOf, Nat.reduceAdd, Nat.reduceLT, Nat.reduceLeDiff, ↓reduceIte, eB]) ?_
  simp only [vcs, fillA, ownSlots, putOuts, outsOf, Nat.reduceAdd, Nat.reduceLT, Nat.reduceLeDiff, ↓reduceIte, in_false, v_bor, er, vOf, Option.isSome]
theorem ship_sh (M : Made own ss cs ts) : Sh 6 (.tuple [shipD own b ss ts, .list (cs.map bxsD)]) := by
  have sI : ∀ l : List Int, Sh 2 (.tuple (l.map PyData.int)) := fun l => sh_tup fun d hd => by
    obtain ⟨i, _, rfl⟩ := List.mem_map.mp hd
    exact sh_int
  have gk : GoodS "k" := ⟨by decide, ofString_ok _⟩
  refine sh_tup (k := 5) fun d hd => ?_
  simp only [List.mem_cons, List.not_mem_nil, or_false] at hd
  rcases hd with rfl | rfl
  · refine sh_tup (k := 4) fun d hd => ?_
    simp only [List.mem_cons, List.not_mem_nil, or_false] at hd
    rcases hd with rfl | rfl | rfl | rfl | rfl
    · exact (sI [own.1, own.2.1, own.2.2.1, own.2.2.2]).mono (by decide)
    · exact (sI [b.b0, b.b1, b.b2, b.b3, b.b4, b.b5]).mono (by decide)
    · refine (sh_list (k := 2) fun d hd => ?_).mono (by decide)
      obtain ⟨s, hs, rfl⟩ := List.mem_map.mp hd
      refine sh_tup fun d hd => ?_
      simp only [List.mem_cons, List.not_mem_nil, or_false] at hd
      rcases hd with rfl | rfl | rfl | rfl | rfl | rfl | rfl
      · exact (M.gs s hs).nm.sh
      all_goals exact sh_int
    · refine (sh_list (k := 2) fun d hd => ?_).mono (by decide)
      obtain ⟨s, hs, rfl⟩ := List.mem_map.mp hd
      refine sh_tup fun d hd => ?_
      simp only [List.mem_cons, List.not_mem_nil, or_false] at hd
      rcases hd with rfl | rfl | rfl | rfl | rfl
      · exact (M.gt s hs).nm.sh
      all_goals exact sh_int
    · refine (sh_list (k := 2) fun d hd => ?_).mono (by decide)
      simp only [List.mem_cons, List.not_mem_nil, or_false] at hd
      rcases hd with rfl
      refine sh_tup fun d hd => ?_
      simp only [List.mem_cons, List.not_mem_nil, or_false] at hd
      rcases hd with rfl | rfl | rfl
      · exact gk.sh
      · exact gk.sh
      · exact sh_int
  · refine (sh_list (k := 3) fun d hd => ?_).mono (by decide)
    obtain ⟨c, hc, rfl⟩ := List.mem_map.mp hd
    refine sh_list fun d hd => ?_
    obtain ⟨x, hx, rfl⟩ := List.mem_map.mp hd
    have g := M.gb c hc x hx
    refine sh_tup fun d hd => ?_
    simp only [List.mem_cons, List.not_mem_nil, or_false] at hd
    rcases hd with rfl | rfl | rfl | rfl | rfl
    · exact g.nm.sh
    · exact sh_int
    · exact g.p.sh
    · exact g.k.sh
    · exact sh_int
theorem copied_ev (lc : cs.length ≤ 10) : d_l_copied [shipD own b ss ts, .list (cs.map bxsD)] = .ok (.tuple [shipD own b ss ts, .list (cs.map bxsD)]) [] := by
  refine fn_of_wp (os := []) ?_
  show wpM b_l_copied [some (shipD own b ss ts), some (.list (cs.map bxsD))] _ _ _ _
  unfold b_l_copied
  simp only [vcs, fillA, ownSlots, putOuts, outsOf, Nat.reduceAdd, Nat.reduceLT, Nat.reduceLeDiff, ↓reduceIte, o_listL]
  refine wpV.of (comp_enc (enc := bxsD) (xs := cs) (g := bxsD) (items_okL rfl) (by omega) fun x _ => by simp only [vcs, fillA, ownSlots, putOuts, outsOf, Nat.reduceAdd, Nat.reduceLT, Nat.reduceLeDiff, ↓reduceIte, bxsD, o_listL]) ?_
  simp only [vcs, fillA, ownSlots, putOuts, outsOf, Nat.reduceAdd, Nat.reduceLT, Nat.reduceLeDiff, ↓reduceIte]
theorem cut319 {ds : List D} : cutL (.list ds) (some 3) (some 19) = some (.list ((ds.drop (min 3 ds.length)).take (min 19 ds.length - min 3 ds.length))) := by
  show some (PyData.list (cutD ds (some ((3 : Nat) : Int)) (some ((19 : Nat) : Int)))) = _
  unfold cutD
  rw [HT.sIx_nat, HT.sIx_nat]
open Classical in
theorem law_true (ns : List Int) (hn : ns.length ≤ 63) : d_law [.list (ns.map .int)] = .ok (.bool true) [] := by
  have hz : sizeLine = 2 ^ 24 := rfl
  obtain ⟨r, er, own, b, ss, ts, cs, rfl, M, gb⟩ := ship_ev (ns := ns)
  have lc := M.lc
  have ls := M.ls
  have lt := M.lt
  refine fn_of_wp (os := []) ?_
  show wpM b_law [some (iL ns), none, none, none, none, none, none, none] _ _ _ _
  unfold b_law
  have e3 := copied_ev (own := own) (b := b) (ss := ss) (ts := ts) (cs := cs) (by omega)
  have i3 : ixD (shipD own b ss ts) (.int 3) = some (.list (ts.map tkD)) := rfl
  have sa : setT [1, 2] (.tuple [shipD own b ss ts, .list (cs.map bxsD)]) [some (iL ns), none, none, none, none, none, none, none] = some [some (iL ns), some (shipD own b ss ts), some (.list (cs.map bxsD)), none, none, none, none, none] := rfl
  obtain ⟨xs, hxs, lxs⟩ : ∃ xs : List Int, ((ns.map PyData.int).drop (min 3 ns.length)).take (min 19 ns.length - min 3 ns.length) = xs.map PyData.int ∧ xs.length ≤ 19 := by
    refine ⟨(ns.drop (min 3 ns.length)).take (min 19 ns.length - min 3 ns.length), by rw [List.map_take, List.map_drop], ?_⟩
    rw [List.length_take]
    omega
  simp only [vcs, fillA, ownSlots, putOuts, outsOf, Nat.reduceAdd, Nat.reduceLT, Nat.reduceLeDiff, ↓reduceIte, er, sa, e3]
  refine wm_for (ds := (0 :: xs).map PyData.int) (δ1 := _) (fun k δ => ∃ o4 o5 o6 o7 : Option D, δ = [some (iL ns), some (shipD own b ss ts), some (.list (cs.map bxsD)), some (.tuple [shipD own b ss ts, .list (cs.map bxsD)]), o4, o5, o6, o7]) (items_wp (by
    simp only [vcs, fillA, ownSlots, putOuts, outsOf, Nat.reduceAdd, Nat.reduceLT, Nat.reduceLeDiff, ↓reduceIte, v_sl, v_opt1, k_int, cut319, hxs, List.length_map, List.length_cons, List.length_nil]
    exact ⟨by omega, rfl⟩)) ⟨none, none, none, none, rfl⟩ ?_ ?_
  · rintro k d δ hk ⟨o4, o5, o6, o7, rfl⟩
    obtain ⟨x, rfl⟩ : ∃ x : Int, d = .int x := by
      obtain ⟨x, _, rfl⟩ := List.mem_map.mp (List.mem_of_getElem? hk)
      exact ⟨x, rfl⟩
    refine ⟨_, rfl, ?_⟩
    obtain ⟨ps, ef, lp, gp⟩ := fills_ev (own := own) (b := b) (ss := ss) (ts := ts) (c := x % 1000000000000000000000000000000) (Int.emod_nonneg _ (by decide)) lt M.gt
    have ew := within_ev (ap := apD) M gb gp lp
    have eu := upright_ev M gb gp lp
    have ebr := broken_ev (c := x % 1000000000000) (n := ts.length) (Int.emod_nonneg _ (by decide)) (by omega)
    have eB : isiD .bool (.bool (decide (RightP (rowsL ts b (T4 (own :: plT ss cs ss.length))) (ts.map fun t => t.r) ps))) = some (.bool true) := rfl
    have sp : Sh 3 (frs ps) := sh_list fun d hd => by
      obtain ⟨p, _, rfl⟩ := List.mem_map.mp hd
      refine sh_tup fun d hd => ?_
      simp only [List.mem_cons, List.not_mem_nil, or_false] at hd
      rcases hd with rfl | rfl <;> exact sh_int
    have nr := ne_refl sp (by decide)
    have elf : listD [frs ps] = some (frs ps) := rfl
    generalize decide (RightP (rowsL ts b (T4 (own :: plT ss cs ss.length))) (ts.map fun t => t.r) ps) = bb at *
    have enb : decide (bb ≠ bb) = false := by simp
    simp only [vcs, fillA, ownSlots, putOuts, outsOf, Nat.reduceAdd, Nat.reduceLT, Nat.reduceLeDiff, ↓reduceIte, pw30, pw12, o_mod, Int.reduceLT, ef, elf, ew, eB, eu, enb, nr, i3, List.length_map, ebr]
    exact ⟨_, _, _, _, rfl⟩
  · rintro δ ⟨o4, o5, o6, o7, rfl⟩
    simp only [vcs, fillA, ownSlots, putOuts, outsOf, Nat.reduceAdd, Nat.reduceLT, Nat.reduceLeDiff, ↓reduceIte, eq_refl (ship_sh M) (by decide)]
end
end Toy
namespace Toy
open PySem L2
end Toy
namespace Toy
open PySem
theorem us1 {P : List Value → Prop} {us : List Value} (hl : us.length = 1) (h : ∀ x0, P [x0]) : P us := match us, hl with | [x0], _ => h x0
theorem us2 {P : List Value → Prop} {us : List Value} (hl : us.length = 2) (h : ∀ x0 x1, P [x0, x1]) : P us := match us, hl with | [x0, x1], _ => h x0 x1
theorem us3 {P : List Value → Prop} {us : List Value} (hl : us.length = 3) (h : ∀ x0 x1 x2, P [x0, x1, x2]) : P us := match us, hl with | [x0, x1, x2], _ => h x0 x1 x2
theorem us4 {P : List Value → Prop} {us : List Value} (hl : us.length = 4) (h : ∀ x0 x1 x2 x3, P [x0, x1, x2, x3]) : P us := match us, hl with | [x0, x1, x2, x3], _ => h x0 x1 x2 x3
end Toy
namespace Toy
open PySem L2
noncomputable def txt_mk {K : PySem.W.Frag} {h : Heap} {mg : Str → Option Value} {f1 f2 f3 f4 f5 f6 f7 f8 f9 f10 f11 f12 f13 f14 f15 f16 f17 f18 f19 f20 f21 f22 f23 f24 f25 f26 f27 f28 f29 f30 f31 f32 : Addr} (X : K.In h) (G : h.Ns mainGlobals mg)
    {od1 an1 od2 an2 od3 an3 od4 an4 od5 an5 od6 an6 od7 an7 od8 an8 od9 an9 od10 an10 od11 an11 od12 an12 od13 an13 od14 an14 od15 an15 od16 an16 od17 an17 od18 an18 od19 an19 od20 an20 od21 an21 od22 an22 od23 an23 od24 an24 od25 an25 od26 an26 od27 an27 od28 an28 od29 an29 od30 an30 od31 an31 od32 an32 : Option Addr} {sl1 sl2 sl3 sl4 sl5 sl6 sl7 sl8 sl9 sl10 sl11 sl12 sl13 sl14 sl15 sl16 sl17 sl18 sl19 sl20 sl21 sl22 sl23 sl24 sl25 sl26 sl27 sl28 sl29 sl30 sl31 sl32 : Array (Option Value)} {oc1 kV1 dc1 pm1 cd1 ct1 oc2 kV2 dc2 pm2 cd2 ct2 oc3 kV3 dc3 pm3 cd3 ct3 oc4 kV4 dc4 pm4 cd4 ct4 oc5 kV5 dc5 pm5 cd5 ct5 oc6 kV6 dc6 pm6 cd6 ct6 oc7 kV7 dc7 pm7 cd7 ct7 oc8 kV8 dc8 pm8 cd8 ct8 oc9 kV9 dc9 pm9 cd9 ct9 oc10 kV10 dc10 pm10 cd10 ct10 oc11 kV11 dc11 pm11 cd11 ct11 oc12 kV12 dc12 pm12 cd12 ct12 oc13 kV13 dc13 pm13 cd13 ct13 oc14 kV14 dc14 pm14 cd14 ct14 oc15 kV15 dc15 pm15 cd15 ct15 oc16 kV16 dc16 pm16 cd16 ct16 oc17 kV17 dc17 pm17 cd17 ct17 oc18 kV18 dc18 pm18 cd18 ct18 oc19 kV19 dc19 pm19 cd19 ct19 oc20 kV20 dc20 pm20 cd20 ct20 oc21 kV21 dc21 pm21 cd21 ct21 oc22 kV22 dc22 pm22 cd22 ct22 oc23 kV23 dc23 pm23 cd23 ct23 oc24 kV24 dc24 pm24 cd24 ct24 oc25 kV25 dc25 pm25 cd25 ct25 oc26 kV26 dc26 pm26 cd26 ct26 oc27 kV27 dc27 pm27 cd27 ct27 oc28 kV28 dc28 pm28 cd28 ct28 oc29 kV29 dc29 pm29 cd29 ct29 oc30 kV30 dc30 pm30 cd30 ct30 oc31 kV31 dc31 pm31 cd31 ct31 oc32 kV32 dc32 pm32 cd32 ct32 : Value} {t0 t1 t2 : Tok} {pa0 : Addr} {pod0 : Option Addr} {pt0 pu0 : Tok} {pn0 : Nat} {psl0 : Array (Option Value)}
    (a1 : PySem.W.nsIn K mainGlobals "greatest_divisor" = some (some (.ref f1))) (l1 : K.lookup f1 = some ⟨oc1, od1, .func (PySem.W.fnOf "greatest_divisor" "greatest_divisor" (defArgs s_greatest_divisor) (defBody s_greatest_divisor) (defScope s_greatest_divisor) .none kV1 dc1 pm1 an1 cd1 ct1), sl1⟩) (c1 : PySem.W.codeIn K cd1 "greatest_divisor" = true) (k1 : PySem.W.keepIn K (.ref f1) = true)
    (a2 : PySem.W.nsIn K mainGlobals "fraction" = some (some (.ref f2))) (l2 : K.lookup f2 = some ⟨oc2, od2, .func (PySem.W.fnOf "fraction" "fraction" (defArgs s_fraction) (defBody s_fraction) (defScope s_fraction) .none kV2 dc2 pm2 an2 cd2 ct2), sl2⟩) (c2 : PySem.W.codeIn K cd2 "fraction" = true) (k2 : PySem.W.keepIn K (.ref f2) = true)
    (a3 : PySem.W.nsIn K mainGlobals "plus" = some (some (.ref f3))) (l3 : K.lookup f3 = some ⟨oc3, od3, .func (PySem.W.fnOf "plus" "plus" (defArgs s_plus) (defBody s_plus) (defScope s_plus) .none kV3 dc3 pm3 an3 cd3 ct3), sl3⟩) (c3 : PySem.W.codeIn K cd3 "plus" = true) (k3 : PySem.W.keepIn K (.ref f3) = true)
    (a4 : PySem.W.nsIn K mainGlobals "times" = some (some (.ref f4))) (l4 : K.lookup f4 = some ⟨oc4, od4, .func (PySem.W.fnOf "times" "times" (defArgs s_times) (defBody s_times) (defScope s_times) .none kV4 dc4 pm4 an4 cd4 ct4), sl4⟩) (c4 : PySem.W.codeIn K cd4 "times" = true) (k4 : PySem.W.keepIn K (.ref f4) = true)
    (a5 : PySem.W.nsIn K mainGlobals "under" = some (some (.ref f5))) (l5 : K.lookup f5 = some ⟨oc5, od5, .func (PySem.W.fnOf "under" "under" (defArgs s_under) (defBody s_under) (defScope s_under) .none kV5 dc5 pm5 an5 cd5 ct5), sl5⟩) (c5 : PySem.W.codeIn K cd5 "under" = true) (k5 : PySem.W.keepIn K (.ref f5) = true)
    (a6 : PySem.W.nsIn K mainGlobals "come_to" = some (some (.ref f6))) (l6 : K.lookup f6 = some ⟨oc6, od6, .func (PySem.W.fnOf "come_to" "come_to" (defArgs s_come_to) (defBody s_come_to) (defScope s_come_to) .none kV6 dc6 pm6 an6 cd6 ct6), sl6⟩) (c6 : PySem.W.codeIn K cd6 "come_to" = true) (k6 : PySem.W.keepIn K (.ref f6) = true)
    (a7 : PySem.W.nsIn K mainGlobals "right_fills" = some (some (.ref f7))) (l7 : K.lookup f7 = some ⟨oc7, od7, .func (PySem.W.fnOf "right_fills" "right_fills" (defArgs s_right_fills) (defBody s_right_fills) (defScope s_right_fills) .none kV7 dc7 pm7 an7 cd7 ct7), sl7⟩) (c7 : PySem.W.codeIn K cd7 "right_fills" = true) (k7 : PySem.W.keepIn K (.ref f7) = true)
    (a8 : PySem.W.nsIn K mainGlobals "added" = some (some (.ref f8))) (l8 : K.lookup f8 = some ⟨oc8, od8, .func (PySem.W.fnOf "added" "added" (defArgs s_added) (defBody s_added) (defScope s_added) .none kV8 dc8 pm8 an8 cd8 ct8), sl8⟩) (c8 : PySem.W.codeIn K cd8 "added" = true) (k8 : PySem.W.keepIn K (.ref f8) = true)
    (a9 : PySem.W.nsIn K mainGlobals "weights" = some (some (.ref f9))) (l9 : K.lookup f9 = some ⟨oc9, od9, .func (PySem.W.fnOf "weights" "weights" (defArgs s_weights) (defBody s_weights) (defScope s_weights) .none kV9 dc9 pm9 an9 cd9 ct9), sl9⟩) (c9 : PySem.W.codeIn K cd9 "weights" = true) (k9 : PySem.W.keepIn K (.ref f9) = true)
    (a10 : PySem.W.nsIn K mainGlobals "row_of_high" = some (some (.ref f10))) (l10 : K.lookup f10 = some ⟨oc10, od10, .func (PySem.W.fnOf "row_of_high" "row_of_high" (defArgs s_row_of_high) (defBody s_row_of_high) (defScope s_row_of_high) .none kV10 dc10 pm10 an10 cd10 ct10), sl10⟩) (c10 : PySem.W.codeIn K cd10 "row_of_high" = true) (k10 : PySem.W.keepIn K (.ref f10) = true)
    (a11 : PySem.W.nsIn K mainGlobals "row_of_low" = some (some (.ref f11))) (l11 : K.lookup f11 = some ⟨oc11, od11, .func (PySem.W.fnOf "row_of_low" "row_of_low" (defArgs s_row_of_low) (defBody s_row_of_low) (defScope s_row_of_low) .none kV11 dc11 pm11 an11 cd11 ct11), sl11⟩) (c11 : PySem.W.codeIn K cd11 "row_of_low" = true) (k11 : PySem.W.keepIn K (.ref f11) = true)
    (a12 : PySem.W.nsIn K mainGlobals "rows_of" = some (some (.ref f12))) (l12 : K.lookup f12 = some ⟨oc12, od12, .func (PySem.W.fnOf "rows_of" "rows_of" (defArgs s_rows_of) (defBody s_rows_of) (defScope s_rows_of) .none kV12 dc12 pm12 an12 cd12 ct12), sl12⟩) (c12 : PySem.W.codeIn K cd12 "rows_of" = true) (k12 : PySem.W.keepIn K (.ref f12) = true)
    (a13 : PySem.W.nsIn K mainGlobals "rooms_of" = some (some (.ref f13))) (l13 : K.lookup f13 = some ⟨oc13, od13, .func (PySem.W.fnOf "rooms_of" "rooms_of" (defArgs s_rooms_of) (defBody s_rooms_of) (defScope s_rooms_of) .none kV13 dc13 pm13 an13 cd13 ct13), sl13⟩) (c13 : PySem.W.codeIn K cd13 "rooms_of" = true) (k13 : PySem.W.keepIn K (.ref f13) = true)
    (a14 : PySem.W.nsIn K mainGlobals "breaking" = some (some (.ref f14))) (l14 : K.lookup f14 = some ⟨oc14, od14, .func (PySem.W.fnOf "breaking" "breaking" (defArgs s_breaking) (defBody s_breaking) (defScope s_breaking) .none kV14 dc14 pm14 an14 cd14 ct14), sl14⟩) (c14 : PySem.W.codeIn K cd14 "breaking" = true) (k14 : PySem.W.keepIn K (.ref f14) = true)
    (a15 : PySem.W.nsIn K mainGlobals "within" = some (some (.ref f15))) (l15 : K.lookup f15 = some ⟨oc15, od15, .func (PySem.W.fnOf "within" "within" (defArgs s_within) (defBody s_within) (defScope s_within) .none kV15 dc15 pm15 an15 cd15 ct15), sl15⟩) (c15 : PySem.W.codeIn K cd15 "within" = true) (k15 : PySem.W.keepIn K (.ref f15) = true)
    (a16 : PySem.W.nsIn K mainGlobals "_law_cell_at" = some (some (.ref f16))) (l16 : K.lookup f16 = some ⟨oc16, od16, .func (PySem.W.fnOf "_law_cell_at" "_law_cell_at" (defArgs s_l_cell_at) (defBody s_l_cell_at) (defScope s_l_cell_at) .none kV16 dc16 pm16 an16 cd16 ct16), sl16⟩) (c16 : PySem.W.codeIn K cd16 "_law_cell_at" = true) (k16 : PySem.W.keepIn K (.ref f16) = true)
    (a17 : PySem.W.nsIn K mainGlobals "_law_shared" = some (some (.ref f17))) (l17 : K.lookup f17 = some ⟨oc17, od17, .func (PySem.W.fnOf "_law_shared" "_law_shared" (defArgs s_l_shared) (defBody s_l_shared) (defScope s_l_shared) .none kV17 dc17 pm17 an17 cd17 ct17), sl17⟩) (c17 : PySem.W.codeIn K cd17 "_law_shared" = true) (k17 : PySem.W.keepIn K (.ref f17) = true)
    (a18 : PySem.W.nsIn K mainGlobals "_law_low" = some (some (.ref f18))) (l18 : K.lookup f18 = some ⟨oc18, od18, .func (PySem.W.fnOf "_law_low" "_law_low" (defArgs s_l_low) (defBody s_l_low) (defScope s_l_low) .none kV18 dc18 pm18 an18 cd18 ct18), sl18⟩) (c18 : PySem.W.codeIn K cd18 "_law_low" = true) (k18 : PySem.W.keepIn K (.ref f18) = true)
    (a19 : PySem.W.nsIn K mainGlobals "_law_sum" = some (some (.ref f19))) (l19 : K.lookup f19 = some ⟨oc19, od19, .func (PySem.W.fnOf "_law_sum" "_law_sum" (defArgs s_l_sum) (defBody s_l_sum) (defScope s_l_sum) .none kV19 dc19 pm19 an19 cd19 ct19), sl19⟩) (c19 : PySem.W.codeIn K cd19 "_law_sum" = true) (k19 : PySem.W.keepIn K (.ref f19) = true)
    (a20 : PySem.W.nsIn K mainGlobals "_law_number" = some (some (.ref f20))) (l20 : K.lookup f20 = some ⟨oc20, od20, .func (PySem.W.fnOf "_law_number" "_law_number" (defArgs s_l_number) (defBody s_l_number) (defScope s_l_number) .none kV20 dc20 pm20 an20 cd20 ct20), sl20⟩) (c20 : PySem.W.codeIn K cd20 "_law_number" = true) (k20 : PySem.W.keepIn K (.ref f20) = true)
    (a21 : PySem.W.nsIn K mainGlobals "_law_word" = some (some (.ref f21))) (l21 : K.lookup f21 = some ⟨oc21, od21, .func (PySem.W.fnOf "_law_word" "_law_word" (defArgs s_l_word) (defBody s_l_word) (defScope s_l_word) .none kV21 dc21 pm21 an21 cd21 ct21), sl21⟩) (c21 : PySem.W.codeIn K cd21 "_law_word" = true) (k21 : PySem.W.keepIn K (.ref f21) = true)
    (a22 : PySem.W.nsIn K mainGlobals "_law_clipped" = some (some (.ref f22))) (l22 : K.lookup f22 = some ⟨oc22, od22, .func (PySem.W.fnOf "_law_clipped" "_law_clipped" (defArgs s_l_clipped) (defBody s_l_clipped) (defScope s_l_clipped) .none kV22 dc22 pm22 an22 cd22 ct22), sl22⟩) (c22 : PySem.W.codeIn K cd22 "_law_clipped" = true) (k22 : PySem.W.keepIn K (.ref f22) = true)
    (a23 : PySem.W.nsIn K mainGlobals "_law_loaded" = some (some (.ref f23))) (l23 : K.lookup f23 = some ⟨oc23, od23, .func (PySem.W.fnOf "_law_loaded" "_law_loaded" (defArgs s_l_loaded) (defBody s_l_loaded) (defScope s_l_loaded) .none kV23 dc23 pm23 an23 cd23 ct23), sl23⟩) (c23 : PySem.W.codeIn K cd23 "_law_loaded" = true) (k23 : PySem.W.keepIn K (.ref f23) = true)
    (a24 : PySem.W.nsIn K mainGlobals "_law_weighed" = some (some (.ref f24))) (l24 : K.lookup f24 = some ⟨oc24, od24, .func (PySem.W.fnOf "_law_weighed" "_law_weighed" (defArgs s_l_weighed) (defBody s_l_weighed) (defScope s_l_weighed) .none kV24 dc24 pm24 an24 cd24 ct24), sl24⟩) (c24 : PySem.W.codeIn K cd24 "_law_weighed" = true) (k24 : PySem.W.keepIn K (.ref f24) = true)
    (a25 : PySem.W.nsIn K mainGlobals "_law_bounds" = some (some (.ref f25))) (l25 : K.lookup f25 = some ⟨oc25, od25, .func (PySem.W.fnOf "_law_bounds" "_law_bounds" (defArgs s_l_bounds) (defBody s_l_bounds) (defScope s_l_bounds) .none kV25 dc25 pm25 an25 cd25 ct25), sl25⟩) (c25 : PySem.W.codeIn K cd25 "_law_bounds" = true) (k25 : PySem.W.keepIn K (.ref f25) = true)
    (a26 : PySem.W.nsIn K mainGlobals "_law_paired" = some (some (.ref f26))) (l26 : K.lookup f26 = some ⟨oc26, od26, .func (PySem.W.fnOf "_law_paired" "_law_paired" (defArgs s_l_paired) (defBody s_l_paired) (defScope s_l_paired) .none kV26 dc26 pm26 an26 cd26 ct26), sl26⟩) (c26 : PySem.W.codeIn K cd26 "_law_paired" = true) (k26 : PySem.W.keepIn K (.ref f26) = true)
    (a27 : PySem.W.nsIn K mainGlobals "_law_ship" = some (some (.ref f27))) (l27 : K.lookup f27 = some ⟨oc27, od27, .func (PySem.W.fnOf "_law_ship" "_law_ship" (defArgs s_l_ship) (defBody s_l_ship) (defScope s_l_ship) .none kV27 dc27 pm27 an27 cd27 ct27), sl27⟩) (c27 : PySem.W.codeIn K cd27 "_law_ship" = true) (k27 : PySem.W.keepIn K (.ref f27) = true)
    (a28 : PySem.W.nsIn K mainGlobals "_law_copied" = some (some (.ref f28))) (l28 : K.lookup f28 = some ⟨oc28, od28, .func (PySem.W.fnOf "_law_copied" "_law_copied" (defArgs s_l_copied) (defBody s_l_copied) (defScope s_l_copied) .none kV28 dc28 pm28 an28 cd28 ct28), sl28⟩) (c28 : PySem.W.codeIn K cd28 "_law_copied" = true) (k28 : PySem.W.keepIn K (.ref f28) = true)
    (a29 : PySem.W.nsIn K mainGlobals "_law_upright" = some (some (.ref f29))) (l29 : K.lookup f29 = some ⟨oc29, od29, .func (PySem.W.fnOf "_law_upright" "_law_upright" (defArgs s_l_upright) (defBody s_l_upright) (defScope s_l_upright) .none kV29 dc29 pm29 an29 cd29 ct29), sl29⟩) (c29 : PySem.W.codeIn K cd29 "_law_upright" = true) (k29 : PySem.W.keepIn K (.ref f29) = true)
    (a30 : PySem.W.nsIn K mainGlobals "_law_fills" = some (some (.ref f30))) (l30 : K.lookup f30 = some ⟨oc30, od30, .func (PySem.W.fnOf "_law_fills" "_law_fills" (defArgs s_l_fills) (defBody s_l_fills) (defScope s_l_fills) .none kV30 dc30 pm30 an30 cd30 ct30), sl30⟩) (c30 : PySem.W.codeIn K cd30 "_law_fills" = true) (k30 : PySem.W.keepIn K (.ref f30) = true)
    (a31 : PySem.W.nsIn K mainGlobals "_law_broken" = some (some (.ref f31))) (l31 : K.lookup f31 = some ⟨oc31, od31, .func (PySem.W.fnOf "_law_broken" "_law_broken" (defArgs s_l_broken) (defBody s_l_broken) (defScope s_l_broken) .none kV31 dc31 pm31 an31 cd31 ct31), sl31⟩) (c31 : PySem.W.codeIn K cd31 "_law_broken" = true) (k31 : PySem.W.keepIn K (.ref f31) = true)
    (a32 : PySem.W.nsIn K mainGlobals "law" = some (some (.ref f32))) (l32 : K.lookup f32 = some ⟨oc32, od32, .func (PySem.W.fnOf "law" "law" (defArgs s_law) (defBody s_law) (defScope s_law) .none kV32 dc32 pm32 an32 cd32 ct32), sl32⟩) (c32 : PySem.W.codeIn K cd32 "law" = true) (k32 : PySem.W.keepIn K (.ref f32) = true)
    (z0 : PySem.W.nsIn K mainGlobals "abs" = some none)
    (z1 : PySem.W.nsIn K mainGlobals "bool" = some none)
    (z2 : PySem.W.nsIn K mainGlobals "enumerate" = some none)
    (z3 : PySem.W.nsIn K mainGlobals "isinstance" = some none)
    (z4 : PySem.W.nsIn K mainGlobals "len" = some none)
    (z5 : PySem.W.nsIn K mainGlobals "list" = some none)
    (z6 : PySem.W.nsIn K mainGlobals "max" = some none)
    (z7 : PySem.W.nsIn K mainGlobals "min" = some none)
    (z8 : PySem.W.nsIn K mainGlobals "range" = some none)
    (z9 : PySem.W.nsIn K mainGlobals "tuple" = some none)
    (z10 : PySem.W.nsIn K mainGlobals "zip" = some none)
    (yp0 : PySem.W.nsIn K mainGlobals "NOUGHT" = some (some (.ref pa0))) (lp0 : K.lookup pa0 = some ⟨.type "tuple", pod0, .seq #[.int 0 pt0, .int 1 pu0] pn0, psl0⟩)
    (y0 : PySem.W.nsIn K mainGlobals "ABOVE" = some (some (.int 3 t0)))
    (y1 : PySem.W.nsIn K mainGlobals "ACROSS" = some (some (.int 2 t1)))
    (y2 : PySem.W.nsIn K mainGlobals "ALONG" = some (some (.int 1 t2))) : Txt K mg where
    f_greatest_divisor := f1
    fd_greatest_divisor := _
    F_greatest_divisor := fun_mk (st := s_greatest_divisor) l1 c1 k1
    b_greatest_divisor := (fun_mk (st := s_greatest_divisor) l1 c1 k1).binds (ps := ["one", "other"]) fun _ _ _ _ _ _ us hl => us2 (P := fun us => bindArgs _ { pos := us } = pure (List.zip _ us)) hl (fun _ _ => rfl)
    m_greatest_divisor := PySem.W.mg_of X G a1
    f_fraction := f2
    fd_fraction := _
    F_fraction := fun_mk (st := s_fraction) l2 c2 k2
    b_fraction := (fun_mk (st := s_fraction) l2 c2 k2).binds (ps := ["top", "bottom"]) fun _ _ _ _ _ _ us hl => us2 (P := fun us => bindArgs _ { pos := us } = pure (List.zip _ us)) hl (fun _ _ => rfl)
    m_fraction := PySem.W.mg_of X G a2
    f_plus := f3
    fd_plus := _
    F_plus := fun_mk (st := s_plus) l3 c3 k3
    b_plus := (fun_mk (st := s_plus) l3 c3 k3).binds (ps := ["one", "other"]) fun _ _ _ _ _ _ us hl => us2 (P := fun us => bindArgs _ { pos := us } = pure (List.zip _ us)) hl (fun _ _ => rfl)
    m_plus := PySem.W.mg_of X G a3
    f_times := f4
    fd_times := _
    F_times := fun_mk (st := s_times) l4 c4 k4
    b_times := (fun_mk (st := s_times) l4 c4 k4).binds (ps := ["one", "other"]) fun _ _ _ _ _ _ us hl => us2 (P := fun us => bindArgs _ { pos := us } = pure (List.zip _ us)) hl (fun _ _ => rfl)
    m_times := PySem.W.mg_of X G a4
    f_under := f5
    fd_under := _
    F_under := fun_mk (st := s_under) l5 c5 k5
    b_under := (fun_mk (st := s_under) l5 c5 k5).binds (ps := ["one", "other"]) fun _ _ _ _ _ _ us hl => us2 (P := fun us => bindArgs _ { pos := us } = pure (List.zip _ us)) hl (fun _ _ => rfl)
    m_under := PySem.W.mg_of X G a5
    f_come_to := f6
    fd_come_to := _
    F_come_to := fun_mk (st := s_come_to) l6 c6 k6
    b_come_to := (fun_mk (st := s_come_to) l6 c6 k6).binds (ps := ["numbers", "parts"]) fun _ _ _ _ _ _ us hl => us2 (P := fun us => bindArgs _ { pos := us } = pure (List.zip _ us)) hl (fun _ _ => rfl)
    m_come_to := PySem.W.mg_of X G a6
    f_right_fills := f7
    fd_right_fills := _
    F_right_fills := fun_mk (st := s_right_fills) l7 c7 k7
    b_right_fills := (fun_mk (st := s_right_fills) l7 c7 k7).binds (ps := ["rows", "rooms", "fills"]) fun _ _ _ _ _ _ us hl => us3 (P := fun us => bindArgs _ { pos := us } = pure (List.zip _ us)) hl (fun _ _ _ => rfl)
    m_right_fills := PySem.W.mg_of X G a7
    f_added := f8
    fd_added := _
    F_added := fun_mk (st := s_added) l8 c8 k8
    b_added := (fun_mk (st := s_added) l8 c8 k8).binds (ps := ["sums", "weight", "place"]) fun _ _ _ _ _ _ us hl => us3 (P := fun us => bindArgs _ { pos := us } = pure (List.zip _ us)) hl (fun _ _ _ => rfl)
    m_added := PySem.W.mg_of X G a8
    f_weights := f9
    fd_weights := _
    F_weights := fun_mk (st := s_weights) l9 c9 k9
    b_weights := (fun_mk (st := s_weights) l9 c9 k9).binds (ps := ["ship", "cargo"]) fun _ _ _ _ _ _ us hl => us2 (P := fun us => bindArgs _ { pos := us } = pure (List.zip _ us)) hl (fun _ _ => rfl)
    m_weights := PySem.W.mg_of X G a9
    f_row_of_high := f10
    fd_row_of_high := _
    F_row_of_high := fun_mk (st := s_row_of_high) l10 c10 k10
    b_row_of_high := (fun_mk (st := s_row_of_high) l10 c10 k10).binds (ps := ["tanks", "axis", "high", "sums"]) fun _ _ _ _ _ _ us hl => us4 (P := fun us => bindArgs _ { pos := us } = pure (List.zip _ us)) hl (fun _ _ _ _ => rfl)
    m_row_of_high := PySem.W.mg_of X G a10
    f_row_of_low := f11
    fd_row_of_low := _
    F_row_of_low := fun_mk (st := s_row_of_low) l11 c11 k11
    b_row_of_low := (fun_mk (st := s_row_of_low) l11 c11 k11).binds (ps := ["tanks", "axis", "low", "sums"]) fun _ _ _ _ _ _ us hl => us4 (P := fun us => bindArgs _ { pos := us } = pure (List.zip _ us)) hl (fun _ _ _ _ => rfl)
    m_row_of_low := PySem.W.mg_of X G a11
    f_rows_of := f12
    fd_rows_of := _
    F_rows_of := fun_mk (st := s_rows_of) l12 c12 k12
    b_rows_of := (fun_mk (st := s_rows_of) l12 c12 k12).binds (ps := ["ship", "cargo"]) fun _ _ _ _ _ _ us hl => us2 (P := fun us => bindArgs _ { pos := us } = pure (List.zip _ us)) hl (fun _ _ => rfl)
    m_rows_of := PySem.W.mg_of X G a12
    f_rooms_of := f13
    fd_rooms_of := _
    F_rooms_of := fun_mk (st := s_rooms_of) l13 c13 k13
    b_rooms_of := (fun_mk (st := s_rooms_of) l13 c13 k13).binds (ps := ["ship"]) fun _ _ _ _ _ _ us hl => us1 (P := fun us => bindArgs _ { pos := us } = pure (List.zip _ us)) hl (fun _ => rfl)
    m_rooms_of := PySem.W.mg_of X G a13
    f_breaking := f14
    fd_breaking := _
    F_breaking := fun_mk (st := s_breaking) l14 c14 k14
    b_breaking := (fun_mk (st := s_breaking) l14 c14 k14).binds (ps := ["mix"]) fun _ _ _ _ _ _ us hl => us1 (P := fun us => bindArgs _ { pos := us } = pure (List.zip _ us)) hl (fun _ => rfl)
    m_breaking := PySem.W.mg_of X G a14
    f_within := f15
    fd_within := _
    F_within := fun_mk (st := s_within) l15 c15 k15
    b_within := (fun_mk (st := s_within) l15 c15 k15).binds (ps := ["ship", "cargo", "fills"]) fun _ _ _ _ _ _ us hl => us3 (P := fun us => bindArgs _ { pos := us } = pure (List.zip _ us)) hl (fun _ _ _ => rfl)
    m_within := PySem.W.mg_of X G a15
    f_l_cell_at := f16
    fd_l_cell_at := _
    F_l_cell_at := fun_mk (st := s_l_cell_at) l16 c16 k16
    b_l_cell_at := (fun_mk (st := s_l_cell_at) l16 c16 k16).binds (ps := ["_law_script", "_law_k"]) fun _ _ _ _ _ _ us hl => us2 (P := fun us => bindArgs _ { pos := us } = pure (List.zip _ us)) hl (fun _ _ => rfl)
    m_l_cell_at := PySem.W.mg_of X G a16
    f_l_shared := f17
    fd_l_shared := _
    F_l_shared := fun_mk (st := s_l_shared) l17 c17 k17
    b_l_shared := (fun_mk (st := s_l_shared) l17 c17 k17).binds (ps := ["_law_one", "_law_other"]) fun _ _ _ _ _ _ us hl => us2 (P := fun us => bindArgs _ { pos := us } = pure (List.zip _ us)) hl (fun _ _ => rfl)
    m_l_shared := PySem.W.mg_of X G a17
    f_l_low := f18
    fd_l_low := _
    F_l_low := fun_mk (st := s_l_low) l18 c18 k18
    b_l_low := (fun_mk (st := s_l_low) l18 c18 k18).binds (ps := ["_law_one"]) fun _ _ _ _ _ _ us hl => us1 (P := fun us => bindArgs _ { pos := us } = pure (List.zip _ us)) hl (fun _ => rfl)
    m_l_low := PySem.W.mg_of X G a18
    f_l_sum := f19
    fd_l_sum := _
    F_l_sum := fun_mk (st := s_l_sum) l19 c19 k19
    b_l_sum := (fun_mk (st := s_l_sum) l19 c19 k19).binds (ps := ["_law_numbers", "_law_parts"]) fun _ _ _ _ _ _ us hl => us2 (P := fun us => bindArgs _ { pos := us } = pure (List.zip _ us)) hl (fun _ _ => rfl)
    m_l_sum := PySem.W.mg_of X G a19
    f_l_number := f20
    fd_l_number := _
    F_l_number := fun_mk (st := s_l_number) l20 c20 k20
    b_l_number := (fun_mk (st := s_l_number) l20 c20 k20).binds (ps := ["_law_script", "_law_k", "_law_many"]) fun _ _ _ _ _ _ us hl => us3 (P := fun us => bindArgs _ { pos := us } = pure (List.zip _ us)) hl (fun _ _ _ => rfl)
    m_l_number := PySem.W.mg_of X G a20
    f_l_word := f21
    fd_l_word := _
    F_l_word := fun_mk (st := s_l_word) l21 c21 k21
    b_l_word := (fun_mk (st := s_l_word) l21 c21 k21).binds (ps := ["_law_cell", "_law_k"]) fun _ _ _ _ _ _ us hl => us2 (P := fun us => bindArgs _ { pos := us } = pure (List.zip _ us)) hl (fun _ _ => rfl)
    m_l_word := PySem.W.mg_of X G a21
    f_l_clipped := f22
    fd_l_clipped := _
    F_l_clipped := fun_mk (st := s_l_clipped) l22 c22 k22
    b_l_clipped := (fun_mk (st := s_l_clipped) l22 c22 k22).binds (ps := ["_law_number_here"]) fun _ _ _ _ _ _ us hl => us1 (P := fun us => bindArgs _ { pos := us } = pure (List.zip _ us)) hl (fun _ => rfl)
    m_l_clipped := PySem.W.mg_of X G a22
    f_l_loaded := f23
    fd_l_loaded := _
    F_l_loaded := fun_mk (st := s_l_loaded) l23 c23 k23
    b_l_loaded := (fun_mk (st := s_l_loaded) l23 c23 k23).binds (ps := ["_law_script", "_law_size", "_law_stacks"]) fun _ _ _ _ _ _ us hl => us3 (P := fun us => bindArgs _ { pos := us } = pure (List.zip _ us)) hl (fun _ _ _ => rfl)
    m_l_loaded := PySem.W.mg_of X G a23
    f_l_weighed := f24
    fd_l_weighed := _
    F_l_weighed := fun_mk (st := s_l_weighed) l24 c24 k24
    b_l_weighed := (fun_mk (st := s_l_weighed) l24 c24 k24).binds (ps := ["_law_own", "_law_stacks", "_law_cargo"]) fun _ _ _ _ _ _ us hl => us3 (P := fun us => bindArgs _ { pos := us } = pure (List.zip _ us)) hl (fun _ _ _ => rfl)
    m_l_weighed := PySem.W.mg_of X G a24
    f_l_bounds := f25
    fd_l_bounds := _
    F_l_bounds := fun_mk (st := s_l_bounds) l25 c25 k25
    b_l_bounds := (fun_mk (st := s_l_bounds) l25 c25 k25).binds (ps := ["_law_script", "_law_size", "_law_told"]) fun _ _ _ _ _ _ us hl => us3 (P := fun us => bindArgs _ { pos := us } = pure (List.zip _ us)) hl (fun _ _ _ => rfl)
    m_l_bounds := PySem.W.mg_of X G a25
    f_l_paired := f26
    fd_l_paired := _
    F_l_paired := fun_mk (st := s_l_paired) l26 c26 k26
    b_l_paired := (fun_mk (st := s_l_paired) l26 c26 k26).binds (ps := ["_law_some"]) fun _ _ _ _ _ _ us hl => us1 (P := fun us => bindArgs _ { pos := us } = pure (List.zip _ us)) hl (fun _ => rfl)
    m_l_paired := PySem.W.mg_of X G a26
    f_l_ship := f27
    fd_l_ship := _
    F_l_ship := fun_mk (st := s_l_ship) l27 c27 k27
    b_l_ship := (fun_mk (st := s_l_ship) l27 c27 k27).binds (ps := ["_law_script"]) fun _ _ _ _ _ _ us hl => us1 (P := fun us => bindArgs _ { pos := us } = pure (List.zip _ us)) hl (fun _ => rfl)
    m_l_ship := PySem.W.mg_of X G a27
    f_l_copied := f28
    fd_l_copied := _
    F_l_copied := fun_mk (st := s_l_copied) l28 c28 k28
    b_l_copied := (fun_mk (st := s_l_copied) l28 c28 k28).binds (ps := ["_law_ship_here", "_law_cargo"]) fun _ _ _ _ _ _ us hl => us2 (P := fun us => bindArgs _ { pos := us } = pure (List.zip _ us)) hl (fun _ _ => rfl)
    m_l_copied := PySem.W.mg_of X G a28
    f_l_upright := f29
    fd_l_upright := _
    F_l_upright := fun_mk (st := s_l_upright) l29 c29 k29
    b_l_upright := (fun_mk (st := s_l_upright) l29 c29 k29).binds (ps := ["_law_ship_here", "_law_cargo", "_law_fills_here"]) fun _ _ _ _ _ _ us hl => us3 (P := fun us => bindArgs _ { pos := us } = pure (List.zip _ us)) hl (fun _ _ _ => rfl)
    m_l_upright := PySem.W.mg_of X G a29
    f_l_fills := f30
    fd_l_fills := _
    F_l_fills := fun_mk (st := s_l_fills) l30 c30 k30
    b_l_fills := (fun_mk (st := s_l_fills) l30 c30 k30).binds (ps := ["_law_ship_here", "_law_cell"]) fun _ _ _ _ _ _ us hl => us2 (P := fun us => bindArgs _ { pos := us } = pure (List.zip _ us)) hl (fun _ _ => rfl)
    m_l_fills := PySem.W.mg_of X G a30
    f_l_broken := f31
    fd_l_broken := _
    F_l_broken := fun_mk (st := s_l_broken) l31 c31 k31
    b_l_broken := (fun_mk (st := s_l_broken) l31 c31 k31).binds (ps := ["_law_cell", "_law_many"]) fun _ _ _ _ _ _ us hl => us2 (P := fun us => bindArgs _ { pos := us } = pure (List.zip _ us)) hl (fun _ _ => rfl)
    m_l_broken := PySem.W.mg_of X G a31
    f_law := f32
    fd_law := _
    F_law := fun_mk (st := s_law) l32 c32 k32
    b_law := (fun_mk (st := s_law) l32 c32 k32).binds (ps := ["_law_script"]) fun _ _ _ _ _ _ us hl => us1 (P := fun us => bindArgs _ { pos := us } = pure (List.zip _ us)) hl (fun _ => rfl)
    m_law := PySem.W.mg_of X G a32
    z_abs := PySem.W.mg_none_of X G z0
    z_bool := PySem.W.mg_none_of X G z1
    z_enumerate := PySem.W.mg_none_of X G z2
    z_isinstance := PySem.W.mg_none_of X G z3
    z_len := PySem.W.mg_none_of X G z4
    z_list := PySem.W.mg_none_of X G z5
    z_max := PySem.W.mg_none_of X G z6
    z_min := PySem.W.mg_none_of X G z7
    z_range := PySem.W.mg_none_of X G z8
    z_tuple := PySem.W.mg_none_of X G z9
    z_zip := PySem.W.mg_none_of X G z10
    p_NOUGHT := ⟨_, _, _, _, _, PySem.W.mg_of X G yp0, lp0, rfl, rfl⟩
    g_ABOVE := ⟨_, PySem.W.mg_of X G y0⟩
    g_ACROSS := ⟨_, PySem.W.mg_of X G y1⟩
    g_ALONG := ⟨_, PySem.W.mg_of X G y2⟩
theorem all_mk {l : PySem.W.OpenLaw} {w : World} {fa : Addr} {K : PySem.W.Frag} {h : Heap} {mg : Str → Option Value} {f1 f2 f3 f4 f5 f6 f7 f8 f9 f10 f11 f12 f13 f14 f15 f16 f17 f18 f19 f20 f21 f22 f23 f24 f25 f26 f27 f28 f29 f30 f31 f32 : Addr} (X : K.In h) (G : h.Ns mainGlobals mg)
    {od1 an1 od2 an2 od3 an3 od4 an4 od5 an5 od6 an6 od7 an7 od8 an8 od9 an9 od10 an10 od11 an11 od12 an12 od13 an13 od14 an14 od15 an15 od16 an16 od17 an17 od18 an18 od19 an19 od20 an20 od21 an21 od22 an22 od23 an23 od24 an24 od25 an25 od26 an26 od27 an27 od28 an28 od29 an29 od30 an30 od31 an31 od32 an32 : Option Addr} {sl1 sl2 sl3 sl4 sl5 sl6 sl7 sl8 sl9 sl10 sl11 sl12 sl13 sl14 sl15 sl16 sl17 sl18 sl19 sl20 sl21 sl22 sl23 sl24 sl25 sl26 sl27 sl28 sl29 sl30 sl31 sl32 : Array (Option Value)} {oc1 kV1 dc1 pm1 cd1 ct1 oc2 kV2 dc2 pm2 cd2 ct2 oc3 kV3 dc3 pm3 cd3 ct3 oc4 kV4 dc4 pm4 cd4 ct4 oc5 kV5 dc5 pm5 cd5 ct5 oc6 kV6 dc6 pm6 cd6 ct6 oc7 kV7 dc7 pm7 cd7 ct7 oc8 kV8 dc8 pm8 cd8 ct8 oc9 kV9 dc9 pm9 cd9 ct9 oc10 kV10 dc10 pm10 cd10 ct10 oc11 kV11 dc11 pm11 cd11 ct11 oc12 kV12 dc12 pm12 cd12 ct12 oc13 kV13 dc13 pm13 cd13 ct13 oc14 kV14 dc14 pm14 cd14 ct14 oc15 kV15 dc15 pm15 cd15 ct15 oc16 kV16 dc16 pm16 cd16 ct16 oc17 kV17 dc17 pm17 cd17 ct17 oc18 kV18 dc18 pm18 cd18 ct18 oc19 kV19 dc19 pm19 cd19 ct19 oc20 kV20 dc20 pm20 cd20 ct20 oc21 kV21 dc21 pm21 cd21 ct21 oc22 kV22 dc22 pm22 cd22 ct22 oc23 kV23 dc23 pm23 cd23 ct23 oc24 kV24 dc24 pm24 cd24 ct24 oc25 kV25 dc25 pm25 cd25 ct25 oc26 kV26 dc26 pm26 cd26 ct26 oc27 kV27 dc27 pm27 cd27 ct27 oc28 kV28 dc28 pm28 cd28 ct28 oc29 kV29 dc29 pm29 cd29 ct29 oc30 kV30 dc30 pm30 cd30 ct30 oc31 kV31 dc31 pm31 cd31 ct31 oc32 kV32 dc32 pm32 cd32 ct32 : Value} {t0 t1 t2 : Tok} {pa0 : Addr} {pod0 : Option Addr} {pt0 pu0 : Tok} {pn0 : Nat} {psl0 : Array (Option Value)}
    (a1 : PySem.W.nsIn K mainGlobals "greatest_divisor" = some (some (.ref f1))) (l1 : K.lookup f1 = some ⟨oc1, od1, .func (PySem.W.fnOf "greatest_divisor" "greatest_divisor" (defArgs s_greatest_divisor) (defBody s_greatest_divisor) (defScope s_greatest_divisor) .none kV1 dc1 pm1 an1 cd1 ct1), sl1⟩) (c1 : PySem.W.codeIn K cd1 "greatest_divisor" = true) (k1 : PySem.W.keepIn K (.ref f1) = true)
    (a2 : PySem.W.nsIn K mainGlobals "fraction" = some (some (.ref f2))) (l2 : K.lookup f2 = some ⟨oc2, od2, .func (PySem.W.fnOf "fraction" "fraction" (defArgs s_fraction) (defBody s_fraction) (defScope s_fraction) .none kV2 dc2 pm2 an2 cd2 ct2), sl2⟩) (c2 : PySem.W.codeIn K cd2 "fraction" = true) (k2 : PySem.W.keepIn K (.ref f2) = true)
    (a3 : PySem.W.nsIn K mainGlobals "plus" = some (some (.ref f3))) (l3 : K.lookup f3 = some ⟨oc3, od3, .func (PySem.W.fnOf "plus" "plus" (defArgs s_plus) (defBody s_plus) (defScope s_plus) .none kV3 dc3 pm3 an3 cd3 ct3), sl3⟩) (c3 : PySem.W.codeIn K cd3 "plus" = true) (k3 : PySem.W.keepIn K (.ref f3) = true)
    (a4 : PySem.W.nsIn K mainGlobals "times" = some (some (.ref f4))) (l4 : K.lookup f4 = some ⟨oc4, od4, .func (PySem.W.fnOf "times" "times" (defArgs s_times) (defBody s_times) (defScope s_times) .none kV4 dc4 pm4 an4 cd4 ct4), sl4⟩) (c4 : PySem.W.codeIn K cd4 "times" = true) (k4 : PySem.W.keepIn K (.ref f4) = true)
    (a5 : PySem.W.nsIn K mainGlobals "under" = some (some (.ref f5))) (l5 : K.lookup f5 = some ⟨oc5, od5, .func (PySem.W.fnOf "under" "under" (defArgs s_under) (defBody s_under) (defScope s_under) .none kV5 dc5 pm5 an5 cd5 ct5), sl5⟩) (c5 : PySem.W.codeIn K cd5 "under" = true) (k5 : PySem.W.keepIn K (.ref f5) = true)
    (a6 : PySem.W.nsIn K mainGlobals "come_to" = some (some (.ref f6))) (l6 : K.lookup f6 = some ⟨oc6, od6, .func (PySem.W.fnOf "come_to" "come_to" (defArgs s_come_to) (defBody s_come_to) (defScope s_come_to) .none kV6 dc6 pm6 an6 cd6 ct6), sl6⟩) (c6 : PySem.W.codeIn K cd6 "come_to" = true) (k6 : PySem.W.keepIn K (.ref f6) = true)
    (a7 : PySem.W.nsIn K mainGlobals "right_fills" = some (some (.ref f7))) (l7 : K.lookup f7 = some ⟨oc7, od7, .func (PySem.W.fnOf "right_fills" "right_fills" (defArgs s_right_fills) (defBody s_right_fills) (defScope s_right_fills) .none kV7 dc7 pm7 an7 cd7 ct7), sl7⟩) (c7 : PySem.W.codeIn K cd7 "right_fills" = true) (k7 : PySem.W.keepIn K (.ref f7) = true)
    (a8 : PySem.W.nsIn K mainGlobals "added" = some (some (.ref f8))) (l8 : K.lookup f8 = some ⟨oc8, od8, .func (PySem.W.fnOf "added" "added" (defArgs s_added) (defBody s_added) (defScope s_added) .none kV8 dc8 pm8 an8 cd8 ct8), sl8⟩) (c8 : PySem.W.codeIn K cd8 "added" = true) (k8 : PySem.W.keepIn K (.ref f8) = true)
    (a9 : PySem.W.nsIn K mainGlobals "weights" = some (some (.ref f9))) (l9 : K.lookup f9 = some ⟨oc9, od9, .func (PySem.W.fnOf "weights" "weights" (defArgs s_weights) (defBody s_weights) (defScope s_weights) .none kV9 dc9 pm9 an9 cd9 ct9), sl9⟩) (c9 : PySem.W.codeIn K cd9 "weights" = true) (k9 : PySem.W.keepIn K (.ref f9) = true)
    (a10 : PySem.W.nsIn K mainGlobals "row_of_high" = some (some (.ref f10))) (l10 : K.lookup f10 = some ⟨oc10, od10, .func (PySem.W.fnOf "row_of_high" "row_of_high" (defArgs s_row_of_high) (defBody s_row_of_high) (defScope s_row_of_high) .none kV10 dc10 pm10 an10 cd10 ct10), sl10⟩) (c10 : PySem.W.codeIn K cd10 "row_of_high" = true) (k10 : PySem.W.keepIn K (.ref f10) = true)
    (a11 : PySem.W.nsIn K mainGlobals "row_of_low" = some (some (.ref f11))) (l11 : K.lookup f11 = some ⟨oc11, od11, .func (PySem.W.fnOf "row_of_low" "row_of_low" (defArgs s_row_of_low) (defBody s_row_of_low) (defScope s_row_of_low) .none kV11 dc11 pm11 an11 cd11 ct11), sl11⟩) (c11 : PySem.W.codeIn K cd11 "row_of_low" = true) (k11 : PySem.W.keepIn K (.ref f11) = true)
    (a12 : PySem.W.nsIn K mainGlobals "rows_of" = some (some (.ref f12))) (l12 : K.lookup f12 = some ⟨oc12, od12, .func (PySem.W.fnOf "rows_of" "rows_of" (defArgs s_rows_of) (defBody s_rows_of) (defScope s_rows_of) .none kV12 dc12 pm12 an12 cd12 ct12), sl12⟩) (c12 : PySem.W.codeIn K cd12 "rows_of" = true) (k12 : PySem.W.keepIn K (.ref f12) = true)
    (a13 : PySem.W.nsIn K mainGlobals "rooms_of" = some (some (.ref f13))) (l13 : K.lookup f13 = some ⟨oc13, od13, .func (PySem.W.fnOf "rooms_of" "rooms_of" (defArgs s_rooms_of) (defBody s_rooms_of) (defScope s_rooms_of) .none kV13 dc13 pm13 an13 cd13 ct13), sl13⟩) (c13 : PySem.W.codeIn K cd13 "rooms_of" = true) (k13 : PySem.W.keepIn K (.ref f13) = true)
    (a14 : PySem.W.nsIn K mainGlobals "breaking" = some (some (.ref f14))) (l14 : K.lookup f14 = some ⟨oc14, od14, .func (PySem.W.fnOf "breaking" "breaking" (defArgs s_breaking) (defBody s_breaking) (defScope s_breaking) .none kV14 dc14 pm14 an14 cd14 ct14), sl14⟩) (c14 : PySem.W.codeIn K cd14 "breaking" = true) (k14 : PySem.W.keepIn K (.ref f14) = true)
    (a15 : PySem.W.nsIn K mainGlobals "within" = some (some (.ref f15))) (l15 : K.lookup f15 = some ⟨oc15, od15, .func (PySem.W.fnOf "within" "within" (defArgs s_within) (defBody s_within) (defScope s_within) .none kV15 dc15 pm15 an15 cd15 ct15), sl15⟩) (c15 : PySem.W.codeIn K cd15 "within" = true) (k15 : PySem.W.keepIn K (.ref f15) = true)
    (a16 : PySem.W.nsIn K mainGlobals "_law_cell_at" = some (some (.ref f16))) (l16 : K.lookup f16 = some ⟨oc16, od16, .func (PySem.W.fnOf "_law_cell_at" "_law_cell_at" (defArgs s_l_cell_at) (defBody s_l_cell_at) (defScope s_l_cell_at) .none kV16 dc16 pm16 an16 cd16 ct16), sl16⟩) (c16 : PySem.W.codeIn K cd16 "_law_cell_at" = true) (k16 : PySem.W.keepIn K (.ref f16) = true)
    (a17 : PySem.W.nsIn K mainGlobals "_law_shared" = some (some (.ref f17))) (l17 : K.lookup f17 = some ⟨oc17, od17, .func (PySem.W.fnOf "_law_shared" "_law_shared" (defArgs s_l_shared) (defBody s_l_shared) (defScope s_l_shared) .none kV17 dc17 pm17 an17 cd17 ct17), sl17⟩) (c17 : PySem.W.codeIn K cd17 "_law_shared" = true) (k17 : PySem.W.keepIn K (.ref f17) = true)
    (a18 : PySem.W.nsIn K mainGlobals "_law_low" = some (some (.ref f18))) (l18 : K.lookup f18 = some ⟨oc18, od18, .func (PySem.W.fnOf "_law_low" "_law_low" (defArgs s_l_low) (defBody s_l_low) (defScope s_l_low) .none kV18 dc18 pm18 an18 cd18 ct18), sl18⟩) (c18 : PySem.W.codeIn K cd18 "_law_low" = true) (k18 : PySem.W.keepIn K (.ref f18) = true)
    (a19 : PySem.W.nsIn K mainGlobals "_law_sum" = some (some (.ref f19))) (l19 : K.lookup f19 = some ⟨oc19, od19, .func (PySem.W.fnOf "_law_sum" "_law_sum" (defArgs s_l_sum) (defBody s_l_sum) (defScope s_l_sum) .none kV19 dc19 pm19 an19 cd19 ct19), sl19⟩) (c19 : PySem.W.codeIn K cd19 "_law_sum" = true) (k19 : PySem.W.keepIn K (.ref f19) = true)
    (a20 : PySem.W.nsIn K mainGlobals "_law_number" = some (some (.ref f20))) (l20 : K.lookup f20 = some ⟨oc20, od20, .func (PySem.W.fnOf "_law_number" "_law_number" (defArgs s_l_number) (defBody s_l_number) (defScope s_l_number) .none kV20 dc20 pm20 an20 cd20 ct20), sl20⟩) (c20 : PySem.W.codeIn K cd20 "_law_number" = true) (k20 : PySem.W.keepIn K (.ref f20) = true)
    (a21 : PySem.W.nsIn K mainGlobals "_law_word" = some (some (.ref f21))) (l21 : K.lookup f21 = some ⟨oc21, od21, .func (PySem.W.fnOf "_law_word" "_law_word" (defArgs s_l_word) (defBody s_l_word) (defScope s_l_word) .none kV21 dc21 pm21 an21 cd21 ct21), sl21⟩) (c21 : PySem.W.codeIn K cd21 "_law_word" = true) (k21 : PySem.W.keepIn K (.ref f21) = true)
    (a22 : PySem.W.nsIn K mainGlobals "_law_clipped" = some (some (.ref f22))) (l22 : K.lookup f22 = some ⟨oc22, od22, .func (PySem.W.fnOf "_law_clipped" "_law_clipped" (defArgs s_l_clipped) (defBody s_l_clipped) (defScope s_l_clipped) .none kV22 dc22 pm22 an22 cd22 ct22), sl22⟩) (c22 : PySem.W.codeIn K cd22 "_law_clipped" = true) (k22 : PySem.W.keepIn K (.ref f22) = true)
    (a23 : PySem.W.nsIn K mainGlobals "_law_loaded" = some (some (.ref f23))) (l23 : K.lookup f23 = some ⟨oc23, od23, .func (PySem.W.fnOf "_law_loaded" "_law_loaded" (defArgs s_l_loaded) (defBody s_l_loaded) (defScope s_l_loaded) .none kV23 dc23 pm23 an23 cd23 ct23), sl23⟩) (c23 : PySem.W.codeIn K cd23 "_law_loaded" = true) (k23 : PySem.W.keepIn K (.ref f23) = true)
    (a24 : PySem.W.nsIn K mainGlobals "_law_weighed" = some (some (.ref f24))) (l24 : K.lookup f24 = some ⟨oc24, od24, .func (PySem.W.fnOf "_law_weighed" "_law_weighed" (defArgs s_l_weighed) (defBody s_l_weighed) (defScope s_l_weighed) .none kV24 dc24 pm24 an24 cd24 ct24), sl24⟩) (c24 : PySem.W.codeIn K cd24 "_law_weighed" = true) (k24 : PySem.W.keepIn K (.ref f24) = true)
    (a25 : PySem.W.nsIn K mainGlobals "_law_bounds" = some (some (.ref f25))) (l25 : K.lookup f25 = some ⟨oc25, od25, .func (PySem.W.fnOf "_law_bounds" "_law_bounds" (defArgs s_l_bounds) (defBody s_l_bounds) (defScope s_l_bounds) .none kV25 dc25 pm25 an25 cd25 ct25), sl25⟩) (c25 : PySem.W.codeIn K cd25 "_law_bounds" = true) (k25 : PySem.W.keepIn K (.ref f25) = true)
    (a26 : PySem.W.nsIn K mainGlobals "_law_paired" = some (some (.ref f26))) (l26 : K.lookup f26 = some ⟨oc26, od26, .func (PySem.W.fnOf "_law_paired" "_law_paired" (defArgs s_l_paired) (defBody s_l_paired) (defScope s_l_paired) .none kV26 dc26 pm26 an26 cd26 ct26), sl26⟩) (c26 : PySem.W.codeIn K cd26 "_law_paired" = true) (k26 : PySem.W.keepIn K (.ref f26) = true)
    (a27 : PySem.W.nsIn K mainGlobals "_law_ship" = some (some (.ref f27))) (l27 : K.lookup f27 = some ⟨oc27, od27, .func (PySem.W.fnOf "_law_ship" "_law_ship" (defArgs s_l_ship) (defBody s_l_ship) (defScope s_l_ship) .none kV27 dc27 pm27 an27 cd27 ct27), sl27⟩) (c27 : PySem.W.codeIn K cd27 "_law_ship" = true) (k27 : PySem.W.keepIn K (.ref f27) = true)
    (a28 : PySem.W.nsIn K mainGlobals "_law_copied" = some (some (.ref f28))) (l28 : K.lookup f28 = some ⟨oc28, od28, .func (PySem.W.fnOf "_law_copied" "_law_copied" (defArgs s_l_copied) (defBody s_l_copied) (defScope s_l_copied) .none kV28 dc28 pm28 an28 cd28 ct28), sl28⟩) (c28 : PySem.W.codeIn K cd28 "_law_copied" = true) (k28 : PySem.W.keepIn K (.ref f28) = true)
    (a29 : PySem.W.nsIn K mainGlobals "_law_upright" = some (some (.ref f29))) (l29 : K.lookup f29 = some ⟨oc29, od29, .func (PySem.W.fnOf "_law_upright" "_law_upright" (defArgs s_l_upright) (defBody s_l_upright) (defScope s_l_upright) .none kV29 dc29 pm29 an29 cd29 ct29), sl29⟩) (c29 : PySem.W.codeIn K cd29 "_law_upright" = true) (k29 : PySem.W.keepIn K (.ref f29) = true)
    (a30 : PySem.W.nsIn K mainGlobals "_law_fills" = some (some (.ref f30))) (l30 : K.lookup f30 = some ⟨oc30, od30, .func (PySem.W.fnOf "_law_fills" "_law_fills" (defArgs s_l_fills) (defBody s_l_fills) (defScope s_l_fills) .none kV30 dc30 pm30 an30 cd30 ct30), sl30⟩) (c30 : PySem.W.codeIn K cd30 "_law_fills" = true) (k30 : PySem.W.keepIn K (.ref f30) = true)
    (a31 : PySem.W.nsIn K mainGlobals "_law_broken" = some (some (.ref f31))) (l31 : K.lookup f31 = some ⟨oc31, od31, .func (PySem.W.fnOf "_law_broken" "_law_broken" (defArgs s_l_broken) (defBody s_l_broken) (defScope s_l_broken) .none kV31 dc31 pm31 an31 cd31 ct31), sl31⟩) (c31 : PySem.W.codeIn K cd31 "_law_broken" = true) (k31 : PySem.W.keepIn K (.ref f31) = true)
    (a32 : PySem.W.nsIn K mainGlobals "law" = some (some (.ref f32))) (l32 : K.lookup f32 = some ⟨oc32, od32, .func (PySem.W.fnOf "law" "law" (defArgs s_law) (defBody s_law) (defScope s_law) .none kV32 dc32 pm32 an32 cd32 ct32), sl32⟩) (c32 : PySem.W.codeIn K cd32 "law" = true) (k32 : PySem.W.keepIn K (.ref f32) = true)
    (z0 : PySem.W.nsIn K mainGlobals "abs" = some none)
    (z1 : PySem.W.nsIn K mainGlobals "bool" = some none)
    (z2 : PySem.W.nsIn K mainGlobals "enumerate" = some none)
    (z3 : PySem.W.nsIn K mainGlobals "isinstance" = some none)
    (z4 : PySem.W.nsIn K mainGlobals "len" = some none)
    (z5 : PySem.W.nsIn K mainGlobals "list" = some none)
    (z6 : PySem.W.nsIn K mainGlobals "max" = some none)
    (z7 : PySem.W.nsIn K mainGlobals "min" = some none)
    (z8 : PySem.W.nsIn K mainGlobals "range" = some none)
    (z9 : PySem.W.nsIn K mainGlobals "tuple" = some none)
    (z10 : PySem.W.nsIn K mainGlobals "zip" = some none)
    (yp0 : PySem.W.nsIn K mainGlobals "NOUGHT" = some (some (.ref pa0))) (lp0 : K.lookup pa0 = some ⟨.type "tuple", pod0, .seq #[.int 0 pt0, .int 1 pu0] pn0, psl0⟩)
    (y0 : PySem.W.nsIn K mainGlobals "ABOVE" = some (some (.int 3 t0)))
    (y1 : PySem.W.nsIn K mainGlobals "ACROSS" = some (some (.int 2 t1)))
    (y2 : PySem.W.nsIn K mainGlobals "ALONG" = some (some (.int 1 t2)))
    (hfa : mg "law" = some (.ref fa)) :
    ∃ fd : FuncData, (∀ (s : Shared) (v : Value), BindsTo s fd ⟨[v], []⟩ [("_law_script", v)]) ∧ ∀ base : Heap, K.In base → base.Ns mainGlobals mg → FnOk l.prog w K mg base (CXE l.prog w K) 7 fa fd ["_law_script"] (SpN K ["_law_script"] [] [0, 0, 0, 0, 0, 0, 0, 0] 0 d_law) := by
  have e := hfa.symm.trans (PySem.W.mg_of X G a32)
  cases e
  exact ⟨PySem.W.fnOf "law" "law" (defArgs s_law) (defBody s_law) (defScope s_law) .none kV32 dc32 pm32 an32 cd32 ct32, fun s v => .of_eq rfl, fun base _ _ => ok_law (txt_mk X G a1 l1 c1 k1 a2 l2 c2 k2 a3 l3 c3 k3 a4 l4 c4 k4 a5 l5 c5 k5 a6 l6 c6 k6 a7 l7 c7 k7 a8 l8 c8 k8 a9 l9 c9 k9 a10 l10 c10 k10 a11 l11 c11 k11 a12 l12 c12 k12 a13 l13 c13 k13 a14 l14 c14 k14 a15 l15 c15 k15 a16 l16 c16 k16 a17 l17 c17 k17 a18 l18 c18 k18 a19 l19 c19 k19 a20 l20 c20 k20 a21 l21 c21 k21 a22 l22 c22 k22 a23 l23 c23 k23 a24 l24 c24 k24 a25 l25 c25 k25 a26 l26 c26 k26 a27 l27 c27 k27 a28 l28 c28 k28 a29 l29 c29 k29 a30 l30 c30 k30 a31 l31 c31 k31 a32 l32 c32 k32 z0 z1 z2 z3 z4 z5 z6 z7 z8 z9 z10 yp0 lp0 y0 y1 y2)⟩
theorem walk {l : PySem.W.OpenLaw} {q : Program} {loose : List Str} {XP : (Str → Option Value) → Heap → Prop} {YP : World → Heap → Prop} {d : DefRec} {K : Params → PySem.W.Frag} (hn : l.most = some 63) (hdf : d.params.defaults = [])
    (hY : ∀ (w : World) (h : Heap), YP w h → (K w.params).In h)
    (F : ∀ (w : World) (mg : Str → Option Value) (fa : Addr) (h : Heap), (K w.params).In h → h.Ns mainGlobals mg → mg d.name = some (.ref fa) →
      ∃ fd : FuncData, (∀ (s : Shared) (u : Value), BindsTo s fd ⟨[u], []⟩ [("_law_script", u)]) ∧ ∀ base : Heap, (K w.params).In base → base.Ns mainGlobals mg → FnOk l.prog w (K w.params) mg base (CXE l.prog w (K w.params)) 7 fa fd ["_law_script"] (SpN (K w.params) ["_law_script"] [] [0, 0, 0, 0, 0, 0, 0, 0] 0 d_law)) :
    PySem.W.WalkO q loose XP YP l.row.toRowW d [] (fun f vs => PySem.call f vs) :=
  L2.walk_of (n := 63) (k := 7) (x := "_law_script") (CX := fun w => CXE l.prog w (K w.params)) (sp := fun w => SpN (K w.params) ["_law_script"] [] [0, 0, 0, 0, 0, 0, 0, 0] 0 d_law) hn (by decide) hdf ⟨rfl, by decide, by decide⟩ hY F (fun _ _ a ns hl _ hS => law_start hS (law_true ns hl)) fun _ _ _ _ _ z => cxe_false z
end Toy
open PySem PySem.W PyProof.Rows
set_option maxRecDepth 100000 in
set_option maxHeartbeats 0 in
theorem PySem.Challenge.cw_keel_k41_within_and_breaking_holds : PySem.Challenge.rw_keel_k41_within_and_breaking.Holds := by
  w_on; o_law; k_head; (case hw => w_witness2)
  k_fill
  refine Toy.walk (l := PySem.Challenge.rw_keel_k41_within_and_breaking) rfl rfl (fun w h Y => PySem.W.kIn_of Y) ?F
  case F =>
    intro w mg fa h KX G hmg
    refine' Toy.all_mk KX G ?a1 ?l1 ?c1 ?k1 ?a2 ?l2 ?c2 ?k2 ?a3 ?l3 ?c3 ?k3 ?a4 ?l4 ?c4 ?k4 ?a5 ?l5 ?c5 ?k5 ?a6 ?l6 ?c6 ?k6 ?a7 ?l7 ?c7 ?k7 ?a8 ?l8 ?c8 ?k8 ?a9 ?l9 ?c9 ?k9 ?a10 ?l10 ?c10 ?k10 ?a11 ?l11 ?c11 ?k11 ?a12 ?l12 ?c12 ?k12 ?a13 ?l13 ?c13 ?k13 ?a14 ?l14 ?c14 ?k14 ?a15 ?l15 ?c15 ?k15 ?a16 ?l16 ?c16 ?k16 ?a17 ?l17 ?c17 ?k17 ?a18 ?l18 ?c18 ?k18 ?a19 ?l19 ?c19 ?k19 ?a20 ?l20 ?c20 ?k20 ?a21 ?l21 ?c21 ?k21 ?a22 ?l22 ?c22 ?k22 ?a23 ?l23 ?c23 ?k23 ?a24 ?l24 ?c24 ?k24 ?a25 ?l25 ?c25 ?k25 ?a26 ?l26 ?c26 ?k26 ?a27 ?l27 ?c27 ?k27 ?a28 ?l28 ?c28 ?k28 ?a29 ?l29 ?c29 ?k29 ?a30 ?l30 ?c30 ?k30 ?a31 ?l31 ?c31 ?k31 ?a32 ?l32 ?c32 ?k32 ?z0 ?z1 ?z2 ?z3 ?z4 ?z5 ?z6 ?z7 ?z8 ?z9 ?z10 ?yp0 ?lp0 ?y0 ?y1 ?y2 hmg
    (case a1 => k_is); (case l1 => k_is); (case c1 => k_is); (case k1 => k_is)
    (case a2 => k_is); (case l2 => k_is); (case c2 => k_is); (case k2 => k_is)
    (case a3 => k_is); (case l3 => k_is); (case c3 => k_is); (case k3 => k_is)
    (case a4 => k_is); (case l4 => k_is); (case c4 => k_is); (case k4 => k_is)
    (case a5 => k_is); (case l5 => k_is); (case c5 => k_is); (case k5 => k_is)
    (case a6 => k_is); (case l6 => k_is); (case c6 => k_is); (case k6 => k_is)
    (case a7 => k_is); (case l7 => k_is); (case c7 => k_is); (case k7 => k_is)
    (case a8 => k_is); (case l8 => k_is); (case c8 => k_is); (case k8 => k_is)
    (case a9 => k_is); (case l9 => k_is); (case c9 => k_is); (case k9 => k_is)
    (case a10 => k_is); (case l10 => k_is); (case c10 => k_is); (case k10 => k_is)
    (case a11 => k_is); (case l11 => k_is); (case c11 => k_is); (case k11 => k_is)
    (case a12 => k_is); (case l12 => k_is); (case c12 => k_is); (case k12 => k_is)
    (case a13 => k_is); (case l13 => k_is); (case c13 => k_is); (case k13 => k_is)
    (case a14 => k_is); (case l14 => k_is); (case c14 => k_is); (case k14 => k_is)
    (case a15 => k_is); (case l15 => k_is); (case c15 => k_is); (case k15 => k_is)
    (case a16 => k_is); (case l16 => k_is); (case c16 => k_is); (case k16 => k_is)
    (case a17 => k_is); (case l17 => k_is); (case c17 => k_is); (case k17 => k_is)
    (case a18 => k_is); (case l18 => k_is); (case c18 => k_is); (case k18 => k_is)
    (case a19 => k_is); (case l19 => k_is); (case c19 => k_is); (case k19 => k_is)
    (case a20 => k_is); (case l20 => k_is); (case c20 => k_is); (case k20 => k_is)
    (case a21 => k_is); (case l21 => k_is); (case c21 => k_is); (case k21 => k_is)
    (case a22 => k_is); (case l22 => k_is); (case c22 => k_is); (case k22 => k_is)
    (case a23 => k_is); (case l23 => k_is); (case c23 => k_is); (case k23 => k_is)
    (case a24 => k_is); (case l24 => k_is); (case c24 => k_is); (case k24 => k_is)
    (case a25 => k_is); (case l25 => k_is); (case c25 => k_is); (case k25 => k_is)
    (case a26 => k_is); (case l26 => k_is); (case c26 => k_is); (case k26 => k_is)
    (case a27 => k_is); (case l27 => k_is); (case c27 => k_is); (case k27 => k_is)
    (case a28 => k_is); (case l28 => k_is); (case c28 => k_is); (case k28 => k_is)
    (case a29 => k_is); (case l29 => k_is); (case c29 => k_is); (case k29 => k_is)
    (case a30 => k_is); (case l30 => k_is); (case c30 => k_is); (case k30 => k_is)
    (case a31 => k_is); (case l31 => k_is); (case c31 => k_is); (case k31 => k_is)
    (case a32 => k_is); (case l32 => k_is); (case c32 => k_is); (case k32 => k_is)
    (case z0 => k_is)
    (case z1 => k_is)
    (case z2 => k_is)
    (case z3 => k_is)
    (case z4 => k_is)
    (case z5 => k_is)
    (case z6 => k_is)
    (case z7 => k_is)
    (case z8 => k_is)
    (case z9 => k_is)
    (case z10 => k_is)
    (case yp0 => k_is); (case lp0 => k_is)
    (case y0 => k_is)
    (case y1 => k_is)
    (case y2 => k_is)
