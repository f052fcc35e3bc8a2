import PyProof.Rows.All
import Wide.All
import OpenK.AllK
import Wide.FinOn
import Lean
import PyProof.EqAt
import PyProof.EqKinds
import PyProof.TupleCall
import PyProof.ZipIter
import PyProof.EnumMake
import PyProof.EnumFor
import PyProof.Rows.FactsT2
import PyProof.Rows.EnumRows
import PyProof.ConsumeWalk
import PyProof.ListMulRoad
import PyProof.AutoListH
import PyProof.MinMaxWalk
import PyProof.WalkInts
import PyProof.Rows.CallKwBuiltin
import PyProof.Rows.Range3
import PyProof.P3In
import PyProof.FactsAll.list_3
import PyProof.EqAt
import PyProof.StrOps2
import KE.KRevIter
import PyProof.StrBlockI
import PySem.Challenge.RW_keel_k10_weights_and_rows
set_option Elab.async false
set_option linter.all false
set_option maxRecDepth 100000
namespace L2
open PySem PySem.Spec PyProof.Rows
noncomputable abbrev Key := Sum Int Str
noncomputable def keyIs : Key → Value → Bool
  | .inl k, v => Value.isInt k v
  | .inr x, v => Value.isStrOf x v
noncomputable def keyH (w : World) : Key → Int
  | .inl k => hashInt k
  | .inr x => hashStr w x
theorem keyIs_shape : ∀ {k : Key} {v : Value}, keyIs k v = true → (∃ i t, k = Sum.inl i ∧ v = Value.int i t) ∨ (∃ x t, k = Sum.inr x ∧ v = Value.str x t)
  | .inl i, v, h => by
    obtain ⟨t, e⟩ := Value.isInt_shape (k := i) (v := v) h
    exact .inl ⟨i, t, rfl, e⟩
  | .inr x, v, h => by
    obtain ⟨t, e⟩ := Value.isStrOf_shape (x := x) (v := v) h
    exact .inr ⟨x, t, rfl, e⟩
theorem key_ll (a b : Int) : decide ((Sum.inl a : Key) = Sum.inl b) = (a == b) := by
  by_cases e : a = b
  · subst e; simp
  · have h : ¬ (Sum.inl a : Key) = Sum.inl b := fun q => e (Sum.inl.inj q)
    rw [decide_eq_false h]
    exact (beq_eq_false_iff_ne.mpr e).symm
theorem key_rr (a b : Str) : decide ((Sum.inr a : Key) = Sum.inr b) = decide (a = b) := by
  by_cases e : a = b
  · subst e; simp
  · have h : ¬ (Sum.inr a : Key) = Sum.inr b := fun q => e (Sum.inr.inj q)
    rw [decide_eq_false h, decide_eq_false e]
theorem key_lr (a : Int) (b : Str) : decide ((Sum.inl a : Key) = Sum.inr b) = false := decide_eq_false (fun q => nomatch q)
theorem key_rl (a : Str) (b : Int) : decide ((Sum.inr a : Key) = Sum.inl b) = false := decide_eq_false (fun q => nomatch q)
noncomputable def mixKind (prog : Program) (w : World) : PySem.KeyKind prog w Key where
  is := keyIs
  hash := keyH w
  inj := fun v a b ha hb => by
    rcases keyIs_shape ha with ⟨i, t, rfl, rfl⟩ | ⟨x, t, rfl, rfl⟩
    · rcases keyIs_shape hb with ⟨j, u, rfl, e⟩ | ⟨y, u, rfl, e⟩
      · injection e with e1 _; rw [e1]
      · exact nomatch e
    · rcases keyIs_shape hb with ⟨j, u, rfl, e⟩ | ⟨y, u, rfl, e⟩
      · exact nomatch e
      · injection e with e1 _; rw [e1]
  byValue := fun k v h => by
    rcases keyIs_shape h with ⟨i, t, rfl, rfl⟩ | ⟨x, t, rfl, rfl⟩ <;> rfl
  pyHash := fun hv h => by
    rcases keyIs_shape hv with ⟨i, t, rfl, rfl⟩ | ⟨x, t, rfl, rfl⟩
    · exact wpAny_pyHash_int h
    · exact wpAny_pyHash_str h
  eqBool := fun hu hv h => by
    rcases keyIs_shape hu with ⟨i, t, rfl, rfl⟩ | ⟨x, t, rfl, rfl⟩
    · rcases keyIs_shape hv with ⟨j, u, rfl, rfl⟩ | ⟨y, u, rfl, rfl⟩
      · rw [key_ll] at h; exact wpAny_eqBool_int h
      · rw [key_lr] at h; exact SeqAt.EqAt.int_str i t y u _ _ _ _ h
    · rcases keyIs_shape hv with ⟨j, u, rfl, rfl⟩ | ⟨y, u, rfl, rfl⟩
      · rw [key_rl] at h; exact SeqAt.EqAt.str_int x t j u _ _ _ _ h
      · rw [key_rr] at h; exact wpAny_eqBool_str h
  «strs» := fun k x t v h => by
    rcases keyIs_shape h with ⟨i, u, rfl, e⟩ | ⟨y, u, rfl, e⟩
    · exact nomatch e
    · injection e with e1 _
      subst e1
      cases v <;> rfl
end L2
namespace L2
open PySem PySem.Spec PyProof.Rows
inductive V where
  | non | bl (b : Bool) | int (i : Int) | str (x : Str) | byt (b : Array UInt8) | flt (b : UInt64) | ref (a : Addr) | ty (n : String)
  deriving DecidableEq
noncomputable def RelV : V → Value → Prop
  | .non, u => u = Value.none
  | .bl b, u => u = Value.bool b
  | .int i, u => ∃ t, u = Value.int i t
  | .str x, u => ∃ t, u = Value.str x t
  | .byt b, u => ∃ t, u = Value.bytes b t
  | .flt b, u => ∃ t, u = Value.float b t
  | .ref a, u => u = Value.ref a
  | .ty n, u => u = Value.type n
noncomputable abbrev Vals : List V → List Value → Prop := Paired RelV
theorem Vals.length {xs : List V} {us : List Value} (r : Vals xs us) : xs.length = us.length := Paired.length r
theorem Vals.get : ∀ {xs : List V} {us : List Value} {i : Nat} {x : V}, Vals xs us → xs[i]? = some x → ∃ u, us[i]? = some u ∧ RelV x u
  | _, _, _, _, .nil, e => by simp at e
  | _, _, 0, _, .cons r _, e => by simp at e; subst e; exact ⟨_, rfl, r⟩
  | _, _, i + 1, x, .cons _ t, e => by
    obtain ⟨u, h1, h2⟩ := Vals.get (i := i) (x := x) t (by simpa using e)
    exact ⟨u, by simpa using h1, h2⟩
theorem Vals.set {x : V} {u : Value} (r : RelV x u) : ∀ {xs : List V} {us : List Value} (i : Nat), Vals xs us → Vals (xs.set i x) (us.set i u)
  | _, _, _, .nil => .nil
  | _, _, 0, .cons _ t => .cons r t
  | _, _, i + 1, .cons q t => .cons q (Vals.set r i t)
theorem Vals.append : ∀ {xs ys : List V} {us ws : List Value}, Vals xs us → Vals ys ws → Vals (xs ++ ys) (us ++ ws)
  | _, _, _, _, .nil, s => s
  | _, _, _, _, .cons r t, s => .cons r (Vals.append t s)
theorem Vals.take : ∀ {xs : List V} {us : List Value} (n : Nat), Vals xs us → Vals (xs.take n) (us.take n)
  | _, _, 0, _ => .nil
  | _, _, _ + 1, .nil => .nil
  | _, _, n + 1, .cons r t => .cons r (Vals.take n t)
theorem Vals.drop : ∀ {xs : List V} {us : List Value} (n : Nat), Vals xs us → Vals (xs.drop n) (us.drop n)
  | _, _, 0, r => r
  | _, _, _ + 1, .nil => .nil
  | _, _, n + 1, .cons _ t => Vals.drop n t
noncomputable def RelO : Option V → Option Value → Prop
  | some v, some u => RelV v u
  | none, none => True
  | _, _ => False
noncomputable def KV {κ : Type} : List (κ × V) → List (κ × Value) → Prop := Paired fun (p : κ × V) (q : κ × Value) => p.1 = q.1 ∧ RelV p.2 q.2
noncomputable def kV : Key → V
  | .inl i => .int i
  | .inr x => .str x
inductive HO where
    | lst (xs : List V)
    | tup (xs : List V)
    | dK (kvs : List (Key × V)) | dT (kvs : List (List Key × V))
    | set (S : Int → Bool) (n : Nat)
    | ins (C dx : Addr) (fs : List (Str × V))
    | own (x : Addr)
    | xd (fs : List (Str × V))
    | met (f x : Addr)
    | rng (lo hi : Int)
    | frz (o : Obj) (u : HO)
    | tbl (ps : Array Value)
    | ext (φ : Heap → Prop)
noncomputable abbrev Hp := Addr → Option HO
noncomputable def upd (H : Hp) (a : Addr) (o : HO) : Hp := fun b => if b = a then some o else H b
theorem upd_same {H : Hp} {a : Addr} {o : HO} : upd H a o a = some o := by unfold upd; rw [if_pos rfl]
theorem upd_ne {H : Hp} {a b : Addr} {o : HO} (h : b ≠ a) : upd H a o b = H b := by unfold upd; rw [if_neg h]
theorem ne_of_none {H : Hp} {a b : Addr} {o : HO} (h : H a = some o) (h' : H b = none) : a ≠ b := by
  intro e; subst e; rw [h] at h'; cases h'
section
variable (P : Program) (w : World)
noncomputable def ObjOk (H : Hp) (h : Heap) (a : Addr) : HO → Prop
  | .lst xs => xs.length ≤ sizeLine ∧ ∃ (its : List Value) (n : Nat), Vals xs its ∧ h.get? a = some { cls := .type "list", data := .seq its.toArray n }
  | .tup xs => xs.length ≤ sizeLine ∧ ∃ its : List Value, Vals xs its ∧ IsTup h a its.toArray
  | .dK kvs => kvs.length ≤ sizeLine ∧ (a == sysModules) = false ∧ ∃ vs, KV kvs vs ∧ h.DictOf (mixKind P w) a vs
  | .dT kvs => kvs.length ≤ sizeLine ∧ (a == sysModules) = false ∧ ∃ xs : List (List Key × Addr × Value),
      Paired (fun (p : List Key × V) (q : List Key × Addr × Value) => p.1 = q.1 ∧ H q.2.1 = some (.tup (p.1.map kV)) ∧ RelV p.2 q.2.2) kvs xs ∧
      ∃ o es ep, h.get? a = some o ∧ o.ExactDict ∧ o.data = .dict es ep ∧ es.toList = xs.map (entryOfKey (tupleKind (mixKind P w))) ∧ (xs.map (·.1)).Nodup
  | .set S n => h.SetOf (intKind P w) a S n
  | .ins C dx fs => H dx = some (.own a) ∧ fs.length ≤ 1000 ∧ dx ≠ a ∧ h.get? a = some (PySem.W.instObj C dx) ∧
      ∃ mA, h.Ns1 dx mA ∧ (∀ f, RelO (fs.lookup f) (mA f)) ∧ PySem.Within mA (fs.map (·.1))
  | .own _ => ∃ o, h.get? a = some o
  | .xd fs => ∃ mA, h.Ns1 a mA ∧ ∀ f, RelO (fs.lookup f) (mA f)
  | .rng lo hi => ∃ t u v, h.get? a = some { cls := .type "range", data := .fields #[.int lo t, .int hi u, .int 1 v] }
  | .frz o u => h.get? a = some o ∧ ObjOk H h a u
  | .tbl ps => h.get? a = some { cls := .none, data := .fields ps }
  | .met f x => h.get? a = some (PySem.W.methodObj (.ref f) (.ref x))
  | .ext φ => φ h ∧ (∃ o, h.get? a = some o) ∧ ∀ h1 h2 : Heap, φ h1 → (∀ o, h1.get? a = some o → h2.get? a = some o) → φ h2
noncomputable def HOk (H : Hp) (h : Heap) : Prop := ∀ a o, H a = some o → ObjOk P w H h a o
end
section
variable {P : Program} {w : World} {H H' : Hp} {h h' : Heap} {a : Addr} {o : HO}
theorem ObjOk.lt (x : ObjOk P w H h a o) : a < h.objs.size := by
  cases o with
  | lst xs => obtain ⟨_, _, _, _, e⟩ := x; exact Heap.lt_size e
  | tup xs => obtain ⟨_, _, _, p⟩ := x; exact p.lt
  | dK kvs => obtain ⟨_, _, _, _, o, _, _, e, _⟩ := x; exact Heap.lt_size e
  | dT kvs => obtain ⟨_, _, _, _, o, _, _, e, _⟩ := x; exact Heap.lt_size e
  | set S n => obtain ⟨o, _, _, _, e, _⟩ := x; exact Heap.lt_size e
  | ins C dx fs => obtain ⟨_, _, _, e, _⟩ := x; exact Heap.lt_size e
  | own y => obtain ⟨_, e⟩ := x; exact Heap.lt_size e
  | xd fs => obtain ⟨_, ⟨_, _, _, e, _⟩, _⟩ := x; exact Heap.lt_size e
  | rng lo hi => obtain ⟨_, _, _, e⟩ := x; exact Heap.lt_size e
  | frz ob u => obtain ⟨e, _⟩ := x; exact Heap.lt_size e
  | tbl ps => exact Heap.lt_size (show h.get? a = some _ from x)
  | met f y => exact Heap.lt_size (show h.get? a = some _ from x)
  | ext φ => obtain ⟨_, ⟨_, e⟩, _⟩ := x; exact Heap.lt_size e
theorem Paired.mapP {α β : Type} {F G : α → β → Prop} : ∀ {l₁ : List α} {l₂ : List β}, Paired F l₁ l₂ → (∀ a b, F a b → G a b) → Paired G l₁ l₂
  | _, _, .nil, _ => .nil
  | _, _, .cons r t, f => .cons (f _ _ r) (Paired.mapP t f)
theorem ObjOk.stay (x : ObjOk P w H h a o) (k : ∀ b u, (b = a ∨ H b = some (.own a)) → h.get? b = some u → h'.get? b = some u)
    (ho : ∀ b, H b = some (.own a) → H' b = some (.own a)) (ht : ∀ b xs, H b = some (.tup xs) → H' b = some (.tup xs)) : ObjOk P w H' h' a o := by
  induction o with
  | lst xs => obtain ⟨z, its, n, r, e⟩ := x; exact ⟨z, its, n, r, k _ _ (.inl rfl) e⟩
  | tup xs => obtain ⟨z, its, r, ob, e, c⟩ := x; exact ⟨z, its, r, ob, k _ _ (.inl rfl) e, c⟩
  | dK kvs => obtain ⟨z, y, vs, r, ob, es, ep, e, c⟩ := x; exact ⟨z, y, vs, r, ob, es, ep, k _ _ (.inl rfl) e, c⟩
  | dT kvs =>
    obtain ⟨z, y, xs, r, ob, es, ep, e, c⟩ := x
    exact ⟨z, y, xs, Paired.mapP r fun p q z => ⟨z.1, ht _ _ z.2.1, z.2.2⟩, ob, es, ep, k _ _ (.inl rfl) e, c⟩
  | set S n => obtain ⟨ob, es, ep, t, e, c⟩ := x; exact ⟨ob, es, ep, t, k _ _ (.inl rfl) e, c⟩
  | ins C dx fs =>
    obtain ⟨d, z, ne, e, mA, ⟨od, es, ep, e2, c⟩, r⟩ := x
    exact ⟨ho _ d, z, ne, k _ _ (.inl rfl) e, mA, ⟨od, es, ep, k _ _ (.inr d) e2, c⟩, r⟩
  | own y => obtain ⟨ob, e⟩ := x; exact ⟨ob, k _ _ (.inl rfl) e⟩
  | xd fs => obtain ⟨mA, ⟨od, es, ep, e, c⟩, r⟩ := x; exact ⟨mA, ⟨od, es, ep, k _ _ (.inl rfl) e, c⟩, r⟩
  | rng lo hi => obtain ⟨t, u, v, e⟩ := x; exact ⟨t, u, v, k _ _ (.inl rfl) e⟩
  | frz ob u ih => obtain ⟨e, q⟩ := x; exact ⟨k _ _ (.inl rfl) e, ih q⟩
  | tbl ps =>
    have e : h.get? a = some { cls := .none, data := .fields ps } := x
    show h'.get? a = some { cls := .none, data := .fields ps }
    exact k a _ (.inl rfl) e
  | met f y =>
    have e : h.get? a = some (PySem.W.methodObj (.ref f) (.ref y)) := x
    show h'.get? a = some (PySem.W.methodObj (.ref f) (.ref y))
    exact k a _ (.inl rfl) e
  | ext φ => obtain ⟨p, ⟨o, e⟩, st⟩ := x; exact ⟨st _ _ p fun o q => k _ _ (.inl rfl) q, ⟨o, k _ _ (.inl rfl) e⟩, st⟩
theorem HOk.lt (x : HOk P w H h) (e : H a = some o) : a < h.objs.size := (x a o e).lt
theorem HOk.fresh (x : HOk P w H h) (e : h.objs.size ≤ a) : H a = none := by
  cases q : H a with
  | none => rfl
  | some u => exact absurd (Nat.lt_of_lt_of_le (x.lt q) e) (Nat.lt_irrefl _)
theorem HOk.kept (x : HOk P w H h) (k : ∀ b u, h.get? b = some u → h'.get? b = some u) : HOk P w H h' := fun a o e =>
  (x a o e).stay (fun b u _ q => k b u q) (fun _ q => q) fun _ _ q => q
theorem HOk.laid (x : HOk P w H h) (k : ∀ b u, h.get? b = some u → h'.get? b = some u) (hp : h.objs.size ≤ a) (new : ObjOk P w (upd H a o) h' a o) : HOk P w (upd H a o) h' := fun b u e => by
  have hn := x.fresh hp
  by_cases hb : b = a
  · subst hb; rw [upd_same] at e; cases e; exact new
  · rw [upd_ne hb] at e
    exact (x b u e).stay (fun c v _ q => k c v q) (fun c q => by rw [upd_ne (ne_of_none q hn)]; exact q) fun c xs q => by rw [upd_ne (ne_of_none q hn)]; exact q
end
noncomputable def Rd (H : Hp) (a : Addr) (u : HO) : Prop := H a = some u ∨ ∃ o, H a = some (.frz o u)
theorem Rd.of {H : Hp} {a : Addr} {u : HO} (h : H a = some u) : Rd H a u := .inl h
theorem Rd.ok {P : Program} {w : World} {H : Hp} {h : Heap} {a : Addr} {u : HO} (r : Rd H a u) (x : HOk P w H h) : ObjOk P w H h a u := by
  rcases r with r | ⟨o, r⟩
  · exact x a u r
  · obtain ⟨_, q⟩ := x a _ r
    exact q
noncomputable def Mut : Option HO → Prop
  | some (.lst _) => True
  | some (.dK _) => True
  | some (.dT _) => True
  | some (.set _ _) => True
  | some (.ins _ _ _) => True
  | some (.ext _) => True
  | _ => False
section
variable {P : Program} {w : World} {H : Hp} {h h' : Heap} {x e : Addr} {o' : HO}
theorem HOk.write (ok : HOk P w H h) (mu : Mut (H x)) (he : e = x ∨ H e = some (.own x)) (k : ∀ b u, b ≠ e → h.get? b = some u → h'.get? b = some u) (heo : ∃ u, h'.get? e = some u)
    (new : ObjOk P w (upd H x o') h' x o') : HOk P w (upd H x o') h' := fun b u q => by
  have nown : ∀ c y, H c = some (.own y) → c ≠ x := fun c y r z => by subst z; rw [r] at mu; exact mu
  have ntup : ∀ c xs, H c = some (.tup xs) → c ≠ x := fun c xs r z => by subst z; rw [r] at mu; exact mu
  by_cases hb : b = x
  · subst hb; rw [upd_same] at q; cases q; exact new
  · rw [upd_ne hb] at q
    by_cases hbe : b = e
    · have q' : H b = some (.own x) := by
        rcases he with z | z
        · exact absurd (hbe.trans z) hb
        · rw [hbe]; exact z
      rw [q] at q'; cases q'
      obtain ⟨v, hv⟩ := heo
      exact ⟨v, by rw [hbe]; exact hv⟩
    · refine (ok b u q).stay (fun c v hc r => k c v ?_ r) (fun c r => by rw [upd_ne (nown c b r)]; exact r) fun c xs r => by rw [upd_ne (ntup c xs r)]; exact r
      rcases hc with rfl | hc
      · exact hbe
      · rintro rfl
        rcases he with z | z
        · exact nown c b hc z
        · rw [hc] at z; cases z; exact hb rfl
end
structure Un (fs ex : List Addr) (H H' : Hp) (h h' : Heap) : Prop where
  keep : ∀ b o, h.get? b = some o → H b = none → b ∉ fs → b ∉ ex → h'.get? b = some o
  slot : ∀ b o, h.get? b = some o → H b = none → b ∈ fs → b ∉ ex → ∃ sl, h'.get? b = some { o with slots := sl }
  free : ∀ b o, h.get? b = some o → H b = none → b ∉ ex → H' b = none
  there : ∀ b o, h.get? b = some o → b ∉ ex → ∃ o', h'.get? b = some o'
  tups : ∀ b xs, H b = some (.tup xs) → H' b = some (.tup xs)
  frzs : ∀ b o u, H b = some (.frz o u) → H' b = some (.frz o u)
  tbls : ∀ b ps, H b = some (.tbl ps) → ∃ more, H' b = some (.tbl (ps ++ more))
section
variable {fs fs' ex ex' : List Addr} {H H1 H2 : Hp} {h h1 h2 h' : Heap} {a x e : Addr} {o : HO}
theorem Un.any (u : Un fs ex H H1 h h1) {b : Addr} {ob : Obj} (q : h.get? b = some ob) (n : H b = none) (hx : b ∉ ex) : ∃ sl, h1.get? b = some { ob with slots := sl } := by
  by_cases hb : b ∈ fs
  · exact u.slot b ob q n hb hx
  · exact ⟨ob.slots, u.keep b ob q n hb hx⟩
theorem Un.trans (a : Un fs ex H H1 h h1) (b : Un fs ex H1 H2 h1 h2) : Un fs ex H H2 h h2 where
  keep := fun c ob q n hc hx => b.keep c ob (a.keep c ob q n hc hx) (a.free c ob q n hx) hc hx
  slot := fun c ob q n hc hx => by
    obtain ⟨sl, e1⟩ := a.slot c ob q n hc hx
    obtain ⟨sl', e2⟩ := b.slot c _ e1 (a.free c ob q n hx) hc hx
    exact ⟨sl', e2⟩
  free := fun c ob q n hx => by
    obtain ⟨o', e1⟩ := a.there c ob q hx
    exact b.free c o' e1 (a.free c ob q n hx) hx
  there := fun c ob q hx => by
    obtain ⟨o', e1⟩ := a.there c ob q hx
    exact b.there c o' e1 hx
  tups := fun c xs q => b.tups c xs (a.tups c xs q)
  frzs := fun c ob xs q => b.frzs c ob xs (a.frzs c ob xs q)
  tbls := fun c ps q => by
    obtain ⟨m1, e1⟩ := a.tbls c ps q
    obtain ⟨m2, e2⟩ := b.tbls c _ e1
    exact ⟨m1 ++ m2, by rw [e2, Array.append_assoc]⟩
theorem Un.kept (k : ∀ b u, h.get? b = some u → h'.get? b = some u) : Un fs ex H H h h' :=
  ⟨fun b ob q _ _ _ => k b ob q, fun b ob q _ _ _ => ⟨ob.slots, k b ob q⟩, fun _ _ _ n _ => n, fun b ob q _ => ⟨ob, k b ob q⟩, fun _ _ q => q, fun _ _ _ q => q, fun _ ps q => ⟨#[], by rw [q]; simp⟩⟩
theorem Un.refl : Un fs ex H H h h := Un.kept fun _ _ q => q
theorem Un.laid (k : ∀ b u, h.get? b = some u → h'.get? b = some u) (hp : h.objs.size ≤ a) (hn : H a = none) : Un fs ex H (upd H a o) h h' where
  keep := fun b u q _ _ _ => k b u q
  slot := fun b u q _ _ _ => ⟨u.slots, k b u q⟩
  free := fun b u q n _ => by rw [upd_ne (Nat.ne_of_lt (Nat.lt_of_lt_of_le (Heap.lt_size q) hp))]; exact n
  there := fun b u q _ => ⟨u, k b u q⟩
  tups := fun b xs q => by rw [upd_ne (ne_of_none q hn)]; exact q
  frzs := fun b u xs q => by rw [upd_ne (ne_of_none q hn)]; exact q
  tbls := fun b ps q => ⟨#[], by rw [upd_ne (ne_of_none q hn), q]; simp⟩
theorem Un.write (mu : Mut (H x)) (he : e = x ∨ H e = some (.own x)) (k : ∀ b u, b ≠ e → h.get? b = some u → h'.get? b = some u) (heo : ∃ u, h'.get? e = some u) : Un fs ex H (upd H x o) h h' := by
  have hx : ∀ b, H b = none → b ≠ x := fun b n z => by subst z; rw [n] at mu; exact mu
  have hb : ∀ b, H b = none → b ≠ e := fun b n z => by
    subst z
    rcases he with r | r
    · exact hx b n r
    · rw [n] at r; cases r
  have hm : ∀ b u, H b = some u → ¬ Mut (some u) → b ≠ x := fun b u q nm z => by subst z; rw [q] at mu; exact nm mu
  refine ⟨fun b u q n _ _ => k b u (hb b n) q, fun b u q n _ _ => ⟨u.slots, k b u (hb b n) q⟩, fun b u q n _ => by rw [upd_ne (hx b n)]; exact n, fun b u q _ => ?_,
    fun b xs q => by rw [upd_ne (hm b _ q fun z => z)]; exact q, fun b u xs q => by rw [upd_ne (hm b _ q fun z => z)]; exact q, fun b ps q => ⟨#[], by rw [upd_ne (hm b _ q fun z => z), q]; simp⟩⟩
  by_cases hbe : b = e
  · subst hbe; exact heo
  · exact ⟨u, k b u hbe q⟩
theorem Un.mono (u : Un fs ex H H1 h h1) (hs : ∀ b ∈ fs, b ∈ fs') (hx : ∀ b ∈ ex, b ∈ ex') : Un fs' ex' H H1 h h1 :=
  ⟨fun b ob q n hb he => u.keep b ob q n (fun z => hb (hs b z)) fun z => he (hx b z), fun _ _ q n _ he => u.any q n fun z => he (hx _ z), fun b ob q n he => u.free b ob q n fun z => he (hx b z), fun b ob q he => u.there b ob q fun z => he (hx b z), u.tups, u.frzs, u.tbls⟩
end
noncomputable def trk (h : Heap) (H : Hp) : List Addr := (List.range h.objs.size).filter fun a => (H a).isSome
noncomputable def hidT (h : Heap) (H : Hp) : Heap := PySem.W.hideAll h (trk h H)
theorem hidT_size (h : Heap) (H : Hp) : (hidT h H).objs.size = h.objs.size := PySem.W.hideAll_size _ _
theorem hidT_get {h : Heap} {H : Hp} {b : Addr} {o : Obj} (e : h.get? b = some o) (n : H b = none) : (hidT h H).get? b = some o :=
  PySem.W.hideAll_get _ e fun hm => by
    have q : (H b).isSome = true := (List.mem_filter.mp hm).2
    rw [n] at q; simp at q
theorem of_hidT {h : Heap} {H : Hp} {b : Addr} {o : Obj} (e : (hidT h H).get? b = some o) : h.get? b = some o ∧ H b = none := by
  have e' : h.get? b = some o := PySem.W.of_hideAll (trk h H) e
  refine ⟨e', ?_⟩
  cases q : H b with
  | none => rfl
  | some x =>
    have hm : b ∈ trk h H := List.mem_filter.mpr ⟨List.mem_range.mpr (Heap.lt_size e'), by simp [q]⟩
    have z : (hidT h H).get? b = none := PySem.W.hideAll_none (trk h H) hm
    rw [z] at e; cases e
noncomputable def allNews (g h : Heap) (L : Addr) : List (Addr × Obj) := (List.range h.objs.size).filterMap fun a => if a = L ∨ (g.get? a).isSome = true then none else (h.get? a).map fun o => (a, o)
noncomputable def rest (g h : Heap) (L d : Addr) : List (Addr × Obj) := (allNews g h L).filter fun p => decide (p.1 ≠ d)
end L2
namespace L2
open PySem PySem.Spec PyProof.Rows
structure Mod (K : PySem.W.Frag) (mg : Str → Option Value) (base : Heap) : Prop where
  kin : K.In base
  glob : base.Ns mainGlobals mg
  blt : ∃ mb, base.Ns builtinsNs mb ∧ ∀ x : Str, x ≠ "__name__" → mb x = bootBuiltins x
  nolimit : base.NoLimit
structure Cx where
  prog : Program
  w : World
  K : PySem.W.Frag
  mg : Str → Option Value
  base : Heap
  A : Around
  N : List Str
  s₀ : Shared
  H₀ : Hp
  env : Env
  outer : List Env
  stack : List Env
  ex : List Addr
  fn : Str → Bool
  calm : Bool
  pn : List (Addr × Obj)
  xe : Value → Shared → Prop
noncomputable def frs (l : List Env) : List Addr := l.filterMap (·.frame)
noncomputable abbrev Cx.fs (X : Cx) : List Addr := frs X.outer
noncomputable def Vis (sc : Scope) (x : Str) : Prop := sc.names.lookup x = some .local ∨ sc.names.lookup x = some .cell ∨ sc.names.lookup x = some .free
noncomputable def Loc (sc : Scope) (x : Str) : Prop := sc.names.lookup x = some .local ∨ sc.names.lookup x = some .cell
noncomputable def Look (env : Env) (h : Heap) (m : Str → Option Value) (x : Str) (u : Value) : Prop :=
  (env.kindOf x = some .local ∧ m x = some u) ∨ ((env.kindOf x = some .cell ∨ env.kindOf x = some .free) ∧ ∃ c, env.cells.lookup x = some c ∧ h.IsCell c (some u))
structure Cx.Ok (X : Cx) : Prop where
  mod : Mod X.K X.mg X.base
  kind : X.env.scope.kind = .function
  glob : X.env.globals = mainGlobals
  blt : X.env.builtins = builtinsNs
  above : X.s₀.heap.objs.size ≤ X.env.locals
  inj : ∀ x y c, X.env.cells.lookup x = some c → X.env.cells.lookup y = some c → x = y
  has : ∀ x, (X.env.kindOf x = some .cell ∨ X.env.kindOf x = some .free) → ∃ c, X.env.cells.lookup x = some c
  cab : ∀ x c, X.fn x = true → X.env.cells.lookup x = some c → X.s₀.heap.objs.size ≤ c
  hd : X.calm = true → X.A.handled = none
  frames : X.A.frames = some X.stack
  stk : X.stack = X.outer ∨ (X.stack = X.env :: X.outer ∧ X.env.frame = some X.env.locals)
  exf : ∀ b ∈ X.ex, b ≠ X.env.locals ∧ ∀ x c, X.env.cells.lookup x = some c → c ≠ b
  bs : ∀ b o, X.base.get? b = some o → X.s₀.heap.get? b = some o ∧ X.H₀ b = none
  bsz : X.base.objs.size ≤ X.s₀.heap.objs.size
  noex : ∀ b o, X.base.get? b = some o → b ∉ X.ex
  exfs : ∀ b ∈ X.ex, b ∉ X.fs
  funs : X.s₀.heap.FunFrames X.base X.outer
  frf : ∀ b ∈ X.fs, X.H₀ b = none
structure Inv (X : Cx) (pins : List (Addr × Obj)) (σ : List (Option V)) (H : Hp) (s : Shared) : Prop where
  ok : X.Ok
  os : s.os = X.s₀.os
  bare : AllBare s.gens
  base : Un X.fs X.ex X.H₀ H X.s₀.heap s.heap
  loc : ∃ m, s.heap.Ns X.env.locals m ∧ ∀ (i : Nat) (x : Str) (v : V), X.N[i]? = some x → σ[i]? = some (some v) → Vis X.env.scope x → ∃ u, RelV v u ∧ Look X.env s.heap m x u
  cell : ∀ x c, X.env.cells.lookup x = some c → ∃ v, s.heap.IsCell c v
  free : H X.env.locals = none
  freeC : ∀ x c, X.env.cells.lookup x = some c → H c = none
  pin : ∀ p ∈ X.pn ++ pins, s.heap.get? p.1 = some p.2 ∧ H p.1 = none ∧ p.1 ≠ X.env.locals ∧ p.1 ∉ X.fs ∧ ∀ v, p.2.data ≠ .cell v
  hok : HOk X.prog X.w H s.heap
  len : σ.length = X.N.length
section
variable {X : Cx} {pins : List (Addr × Obj)} {σ : List (Option V)} {H H' : Hp} {s : Shared} {h' : Heap}
theorem Cx.Ok.nofr (ok : X.Ok) {b : Addr} {o : Obj} (e : X.base.get? b = some o) : b ∉ X.fs := fun hb => by
  have := (ok.funs.mem hb).1
  rw [e] at this; cases this
theorem Inv.bs (I : Inv X pins σ H s) : ∀ b o, X.base.get? b = some o → s.heap.get? b = some o ∧ H b = none := fun b o e =>
  ⟨I.base.keep b o (I.ok.bs b o e).1 (I.ok.bs b o e).2 (I.ok.nofr e) (I.ok.noex b o e), I.base.free b o (I.ok.bs b o e).1 (I.ok.bs b o e).2 (I.ok.noex b o e)⟩
theorem Inv.bk (I : Inv X pins σ H s) : ∀ b o, X.base.get? b = some o → s.heap.get? b = some o := fun b o e => (I.bs b o e).1
theorem Inv.mod (I : Inv X pins σ H s) : Mod X.K X.mg X.base := I.ok.mod
theorem Inv.kIn (I : Inv X pins σ H s) : X.K.In s.heap := I.ok.mod.kin.keeps I.bk
theorem Inv.nolimit (I : Inv X pins σ H s) : s.heap.NoLimit := I.ok.mod.nolimit.keeps I.bk
theorem Inv.fr (I : Inv X pins σ H s) : ∃ m, Fr X.base X.env.locals s.heap m :=
  let ⟨m, hn, _⟩ := I.loc
  ⟨m, hn, I.bk, Nat.le_trans I.ok.bsz I.ok.above⟩
theorem Inv.lt (I : Inv X pins σ H s) : X.env.locals < s.heap.objs.size := let ⟨_, hn, _⟩ := I.loc; hn.lt
theorem Inv.sz (I : Inv X pins σ H s) : X.s₀.heap.objs.size ≤ s.heap.objs.size := Nat.le_trans I.ok.above (Nat.le_of_lt I.lt)
theorem Inv.nofs (I : Inv X pins σ H s) {a : Addr} (h : s.heap.objs.size ≤ a) : a ∉ X.fs := fun hb => by
  obtain ⟨_, o, ho, _⟩ := I.ok.funs.mem hb
  exact absurd (Nat.lt_of_lt_of_le (Heap.lt_size ho) (Nat.le_trans I.sz h)) (Nat.lt_irrefl _)
theorem Inv.cne (I : Inv X pins σ H s) : ∀ x c, X.env.cells.lookup x = some c → c ≠ X.env.locals := fun x c e z => by
  obtain ⟨v, o, ho, hd⟩ := I.cell x c e
  obtain ⟨m, ⟨o', es, ep, ho', hd', _⟩, _⟩ := I.loc
  rw [z, ho'] at ho; cases ho; rw [hd'] at hd; cases hd
theorem Inv.funs (I : Inv X pins σ H s) : s.heap.FunFrames X.base X.outer := by
  have all : ∀ (l : List Env), (∀ b ∈ frs l, b ∈ X.fs) → X.s₀.heap.FunFrames X.base l → s.heap.FunFrames X.base l := by
    intro l
    induction l with
    | nil => intro _ _; trivial
    | cons env r ih =>
      intro hs hl
      obtain ⟨hk, ⟨L, o, hf, hn, ho, hd⟩, hr⟩ := hl
      have hL : L ∈ X.fs := hs L (by unfold frs; rw [List.filterMap_cons, hf]; exact List.mem_cons_self)
      obtain ⟨sl, e⟩ := I.base.slot L o ho (I.ok.frf L hL) hL fun z => I.ok.exfs L z hL
      exact ⟨hk, ⟨L, _, hf, hn, e, hd⟩, ih (fun b hb => hs b (by unfold frs; rw [List.filterMap_cons, hf]; exact List.mem_cons_of_mem _ hb)) hr⟩
  exact all X.outer (fun _ hb => hb) I.ok.funs
theorem Inv.stack (I : Inv X pins σ H s) : s.heap.FunFrames X.base X.stack := by
  rcases I.ok.stk with e | ⟨e, hf⟩
  · rw [e]; exact I.funs
  · rw [e]
    obtain ⟨m, hn, _⟩ := I.loc
    refine .cons (by rw [I.ok.kind]; decide) hf hn ?_ I.funs
    exact Heap.get?_none_of_le (Nat.le_trans I.ok.bsz I.ok.above)
theorem Inv.stkSub (I : Inv X pins σ H s) : ∀ b ∈ frs X.stack, b ∈ X.env.locals :: X.fs := fun b hb => by
  rcases I.ok.stk with e | ⟨e, hf⟩
  · rw [e] at hb; exact List.mem_cons_of_mem _ hb
  · rw [e] at hb
    unfold frs at hb
    rw [List.filterMap_cons, hf] at hb
    exact hb
theorem Inv.stkFree (I : Inv X pins σ H s) : ∀ b ∈ frs X.stack, H b = none := fun b hb => by
  rcases List.mem_cons.mp (I.stkSub b hb) with e | hb
  · rw [e]; exact I.free
  · obtain ⟨_, o, ho, _⟩ := I.ok.funs.mem hb
    exact I.base.free b o ho (I.ok.frf b hb) fun z => I.ok.exfs b z hb
theorem Inv.step {g' : Array GenState} {t' : Nat} {d' : Drawn} {ch : List Addr} (I : Inv X pins σ H s)
    (hch : ∀ b ∈ ch, (b ∈ X.ex ∨ X.s₀.heap.objs.size ≤ b) ∧ b ≠ X.env.locals ∧ (∀ x c, X.env.cells.lookup x = some c → c ≠ b) ∧ ∀ p ∈ X.pn ++ pins, p.1 ≠ b)
    (keep : ∀ b o, b ≠ X.env.locals → b ∉ X.fs → b ∉ ch → s.heap.get? b = some o → H b = none → h'.get? b = some o)
    (slot : ∀ b o, b ≠ X.env.locals → b ∈ X.fs → b ∉ ch → s.heap.get? b = some o → H b = none → ∃ sl, h'.get? b = some { o with slots := sl }) (free : ∀ b o, b ∉ ch → s.heap.get? b = some o → H b = none → H' b = none)
    (there : ∀ b o, b ∉ ch → s.heap.get? b = some o → ∃ o', h'.get? b = some o')
    (tups : ∀ b xs, H b = some (.tup xs) → H' b = some (.tup xs)) (frzs : ∀ b o u, H b = some (.frz o u) → H' b = some (.frz o u)) (tbls : ∀ b ps, H b = some (.tbl ps) → ∃ more, H' b = some (.tbl (ps ++ more)))
    (ns : ∀ m, s.heap.Ns X.env.locals m → h'.Ns X.env.locals m) (hok : HOk X.prog X.w H' h') (hg : AllBare g') :
    Inv X pins σ H' { s with heap := h', gens := g', drawn := d', toks := t' } := by
  have neL : ∀ b o, X.s₀.heap.get? b = some o → b ≠ X.env.locals := fun b o e => Nat.ne_of_lt (Nat.lt_of_lt_of_le (Heap.lt_size e) I.ok.above)
  have neC : ∀ b o, X.s₀.heap.get? b = some o → b ∉ X.ex → b ∉ ch := fun b o e hx hb => by
    rcases (hch b hb).1 with z | z
    · exact hx z
    · exact absurd (Nat.lt_of_lt_of_le (Heap.lt_size e) z) (Nat.lt_irrefl _)
  have cellK : ∀ x c, X.env.cells.lookup x = some c → ∀ v, s.heap.IsCell c v → h'.IsCell c v := fun x c e v ⟨o, ho, hd⟩ => by
    have nch : c ∉ ch := fun z => (hch c z).2.2.1 x c e rfl
    by_cases hc : c ∈ X.fs
    · obtain ⟨sl, q⟩ := slot c o (I.cne x c e) hc nch ho (I.freeC x c e)
      exact ⟨_, q, hd⟩
    · exact ⟨o, keep c o (I.cne x c e) hc nch ho (I.freeC x c e), hd⟩
  refine ⟨I.ok, I.os, hg, ⟨fun b o e n hb hx => ?_, fun b o e n hb hx => ?_, fun b o e n hx => ?_, fun b o e hx => ?_, fun b xs e => tups b xs (I.base.tups b xs e), fun b o xs e => frzs b o xs (I.base.frzs b o xs e), fun b ps e => ?_⟩, ?_, fun x c e => ?_, ?_, fun x c e => ?_, fun p hp => ?_, hok, I.len⟩
  · exact keep b o (neL b o e) hb (neC b o e hx) (I.base.keep b o e n hb hx) (I.base.free b o e n hx)
  · obtain ⟨sl, e1⟩ := I.base.slot b o e n hb hx
    obtain ⟨sl', e2⟩ := slot b _ (neL b o e) hb (neC b o e hx) e1 (I.base.free b o e n hx)
    exact ⟨sl', e2⟩
  · obtain ⟨o', e1⟩ := I.base.there b o e hx
    exact free b o' (neC b o e hx) e1 (I.base.free b o e n hx)
  · obtain ⟨o', e1⟩ := I.base.there b o e hx
    exact there b o' (neC b o e hx) e1
  · obtain ⟨m1, e1⟩ := I.base.tbls b ps e
    obtain ⟨m2, e2⟩ := tbls b _ e1
    exact ⟨m1 ++ m2, by rw [e2, Array.append_assoc]⟩
  · obtain ⟨m, hn, hl⟩ := I.loc
    refine ⟨m, ns m hn, fun i x v e1 e2 e3 => ?_⟩
    obtain ⟨u, r, l⟩ := hl i x v e1 e2 e3
    refine ⟨u, r, ?_⟩
    rcases l with l | ⟨k, c, e, z⟩
    · exact .inl l
    · exact .inr ⟨k, c, e, cellK x c e _ z⟩
  · obtain ⟨v, z⟩ := I.cell x c e
    exact ⟨v, cellK x c e v z⟩
  · obtain ⟨m, ⟨o, _, _, ho, _⟩, _⟩ := I.loc
    exact free _ o (fun z => (hch _ z).2.1 rfl) ho I.free
  · obtain ⟨v, o, ho, hd⟩ := I.cell x c e
    exact free c o (fun z => (hch c z).2.2.1 x c e rfl) ho (I.freeC x c e)
  · obtain ⟨e, n, ne, nf, d⟩ := I.pin p hp
    have nch : p.1 ∉ ch := fun z => (hch p.1 z).2.2.2 p hp rfl
    exact ⟨keep p.1 p.2 ne nf nch e n, free p.1 p.2 nch e n, ne, nf, d⟩
theorem Inv.un {t' : Nat} (I : Inv X pins σ H s) (u : Un X.fs [] H H' s.heap h') (hok : HOk X.prog X.w H' h') : Inv X pins σ H' { s with heap := h', toks := t' } := by
  obtain ⟨m, ⟨o, es, ep, ho, r⟩, _⟩ := id I.loc
  obtain ⟨sl, hL⟩ := u.any ho I.free (by simp)
  exact I.step (g' := s.gens) (d' := s.drawn) (ch := []) (fun _ z => nomatch z) (fun b o _ hb _ e n => u.keep b o e n hb (by simp)) (fun b o _ hb _ e n => u.slot b o e n hb (by simp)) (fun b o _ e n => u.free b o e n (by simp)) (fun b o _ e => u.there b o e (by simp)) u.tups u.frzs u.tbls (fun m' hm => by
    obtain ⟨o', es', ep', ho', r'⟩ := hm
    rw [ho] at ho'; cases ho'
    exact ⟨_, es', ep', hL, r'⟩) hok I.bare
theorem Inv.call {g' : Array GenState} {t' : Nat} {d' : Drawn} {ch : List Addr} (I : Inv X pins σ H s) (u : Un (frs X.stack) ch H H' s.heap h') (hok : HOk X.prog X.w H' h') (hg : AllBare g')
    (hch : ∀ b ∈ ch, (b ∈ X.ex ∨ X.s₀.heap.objs.size ≤ b) ∧ b ≠ X.env.locals ∧ (∀ x c, X.env.cells.lookup x = some c → c ≠ b) ∧ ∀ p ∈ X.pn ++ pins, p.1 ≠ b) :
    Inv X pins σ H' { s with heap := h', gens := g', drawn := d', toks := t' } := by
  obtain ⟨m, ⟨o, es, ep, ho, r⟩, _⟩ := id I.loc
  obtain ⟨sl, hL⟩ := u.any ho I.free fun z => (hch _ z).2.1 rfl
  exact I.step (ch := ch) hch (fun b o hL hb hc e n => u.keep b o e n (fun z => (List.mem_cons.mp (I.stkSub b z)).elim hL hb) hc) (fun b o _ _ hc e n => u.any e n hc) (fun b o hc e n => u.free b o e n hc) (fun b o hc e => u.there b o e hc) u.tups u.frzs u.tbls (fun m' hm => by
    obtain ⟨o', es', ep', ho', r'⟩ := hm
    rw [ho] at ho'; cases ho'
    exact ⟨_, es', ep', hL, r'⟩) hok hg
theorem Inv.turned {t' : Nat} {it : Addr} (I : Inv X pins σ H s) (k : ∀ b o, b ≠ it → s.heap.get? b = some o → h'.get? b = some o) (hn : H it = none) (hL : it ≠ X.env.locals)
    (h1 : it ∈ X.ex ∨ X.s₀.heap.objs.size ≤ it) (h2 : ∀ x c, X.env.cells.lookup x = some c → c ≠ it) (h3 : ∀ p ∈ X.pn ++ pins, p.1 ≠ it) : Inv X pins σ H { s with heap := h', toks := t' } := by
  have nit : ∀ b u, H b = some u → b ≠ it := fun b u e z => by rw [z, hn] at e; cases e
  refine I.step (g' := s.gens) (d' := s.drawn) (ch := [it]) (fun b hb => ?_) (fun b o _ _ hc e _ => k b o (fun z => hc (by simp [z])) e) (fun b o _ _ hc e _ => ⟨o.slots, k b o (fun z => hc (by simp [z])) e⟩) (fun _ _ _ _ n => n)
    (fun b o hc e => ⟨o, k b o (fun z => hc (by simp [z])) e⟩) (fun _ _ e => e) (fun _ _ _ e => e) (fun b ps e => ⟨#[], by rw [e]; simp⟩) (fun m hm => ?_) (fun b u e => ?_) I.bare
  · have e : b = it := by simpa using hb
    subst e
    exact ⟨h1, hL, h2, h3⟩
  · obtain ⟨o, es, ep, ho, r⟩ := hm
    exact ⟨o, es, ep, k _ o (Ne.symm hL) ho, r⟩
  · refine (I.hok b u e).stay (fun c v hc q => k c v ?_ q) (fun _ q => q) fun _ _ q => q
    rcases hc with z | z
    · rw [z]; exact nit b u e
    · exact nit c _ z
theorem Inv.tok (I : Inv X pins σ H s) (t : Nat) : Inv X pins σ H { s with toks := t } := I.un (h' := s.heap) (t' := t) Un.refl I.hok
theorem Inv.kept {t' : Nat} (I : Inv X pins σ H s) (k : ∀ b u, s.heap.get? b = some u → h'.get? b = some u) : Inv X pins σ H { s with heap := h', toks := t' } := I.un (Un.kept k) (I.hok.kept k)
theorem Inv.laid {a : Addr} {o : HO} {t' : Nat} (I : Inv X pins σ H s) (k : ∀ b u, s.heap.get? b = some u → h'.get? b = some u) (hp : s.heap.objs.size ≤ a) (new : ObjOk X.prog X.w (upd H a o) h' a o) :
    Inv X pins σ (upd H a o) { s with heap := h', toks := t' } := I.un (Un.laid k hp (I.hok.fresh hp)) (I.hok.laid k hp new)
theorem Inv.write {x e : Addr} {o : HO} {t' : Nat} (I : Inv X pins σ H s) (mu : Mut (H x)) (he : e = x ∨ H e = some (.own x)) (k : ∀ b u, b ≠ e → s.heap.get? b = some u → h'.get? b = some u) (heo : ∃ u, h'.get? e = some u)
    (new : ObjOk X.prog X.w (upd H x o) h' x o) : Inv X pins σ (upd H x o) { s with heap := h', toks := t' } := I.un (Un.write mu he k heo) (I.hok.write mu he k heo new)
theorem Inv.pins_of {pins' : List (Addr × Obj)} (I : Inv X pins σ H s) (h : ∀ p ∈ pins', s.heap.get? p.1 = some p.2 ∧ H p.1 = none ∧ p.1 ≠ X.env.locals ∧ p.1 ∉ X.fs ∧ ∀ v, p.2.data ≠ .cell v) : Inv X pins' σ H s :=
  ⟨I.ok, I.os, I.bare, I.base, I.loc, I.cell, I.free, I.freeC, fun p hp => (List.mem_append.mp hp).elim (fun z => I.pin p (List.mem_append_left _ z)) (h p), I.hok, I.len⟩
theorem nodup_ix {N : List Str} (hN : N.Nodup) {i j : Nat} {x : Str} (a : N[i]? = some x) (b : N[j]? = some x) : i = j := by
  obtain ⟨h1, e1⟩ := List.getElem?_eq_some_iff.mp a
  obtain ⟨h2, e2⟩ := List.getElem?_eq_some_iff.mp b
  exact (List.getElem_inj hN).mp (e1.trans e2.symm)
theorem store_ok2 {M : Model} {A : Around} {E : Value → Shared → Prop} {i : Nat} {x : Str} {v : V} {u : Value} {Q : Unit → Shared → Prop} (I : Inv X pins σ H s) (hN : X.N.Nodup) (hi : X.N[i]? = some x) (hx : Loc X.env.scope x) (r : RelV v u)
    (h : ∀ s', Inv X pins (σ.set i (some v)) H s' → (∃ a, Heap.SameBut a s.heap s'.heap ∧ (a = X.env.locals ∨ X.env.cells.lookup x = some a)) → Q () s') (hf : X.fn x = true ∨ X.env.scope.names.lookup x = some .local := by first | exact .inl rfl | exact .inr rfl | assumption) : wpAny M A (storeName X.env x u) Q E s := by
  obtain ⟨m, hn, hl⟩ := id I.loc
  have hcls : (X.env.scope.kind == .class || (X.env.scope.kind == .module && X.env.locals != X.env.globals)) = false := by rw [I.ok.kind]; rfl
  have hiσ : i < σ.length := by rw [I.len]; exact (List.getElem?_eq_some_iff.mp hi).1
  have cne := I.cne
  have tracked : ∀ {a : Addr} {h' : Heap}, (∃ o, s.heap.get? a = some o ∧ H a = none) → Heap.SameBut a s.heap h' → HOk X.prog X.w H h' := fun {a h'} ha hs b ob e => by
    obtain ⟨_, _, hfree⟩ := ha
    refine (I.hok b ob e).stay (fun c w' hc q => (hs.2 c ?_).trans q) (fun _ q => q) fun _ _ q => q
    rintro rfl
    rcases hc with rfl | hc
    · rw [hfree] at e; cases e
    · rw [hfree] at hc; cases hc
  rcases hx with hk | hk
  · refine wpAny_storeName_local hk hn (fun h' hn' hs => ?_) hcls
    obtain ⟨oL, _, _, hoL, _⟩ := id hn
    refine h _ ⟨I.ok, I.os, I.bare, ⟨fun b o e n hb hx => ?_, fun b o e n hb hx => ?_, I.base.free, fun b o e hx => ?_, I.base.tups, I.base.frzs, I.base.tbls⟩, ⟨_, hn', fun j y v' e1 e2 e3 => ?_⟩, fun y c e => ?_, I.free, I.freeC, fun p hp => ?_, tracked ⟨oL, hoL, I.free⟩ hs, by simpa using I.len⟩ ⟨_, hs, .inl rfl⟩
    · exact (hs.2 b (Nat.ne_of_lt (Nat.lt_of_lt_of_le (Heap.lt_size e) I.ok.above))).trans (I.base.keep b o e n hb hx)
    · obtain ⟨sl, e1⟩ := I.base.slot b o e n hb hx
      exact ⟨sl, (hs.2 b (Nat.ne_of_lt (Nat.lt_of_lt_of_le (Heap.lt_size e) I.ok.above))).trans e1⟩
    · obtain ⟨o', e1⟩ := I.base.there b o e hx
      exact ⟨o', (hs.2 b (Nat.ne_of_lt (Nat.lt_of_lt_of_le (Heap.lt_size e) I.ok.above))).trans e1⟩
    · by_cases hj : j = i
      · subst hj
        rw [hi] at e1; cases e1
        rw [List.getElem?_set_self hiσ] at e2
        cases e2
        exact ⟨u, r, .inl ⟨hk, by simp⟩⟩
      · rw [List.getElem?_set_ne (Ne.symm hj)] at e2
        obtain ⟨u', r', q⟩ := hl j y v' e1 e2 e3
        refine ⟨u', r', ?_⟩
        rcases q with ⟨k, e⟩ | ⟨k, c, e, z⟩
        · refine .inl ⟨k, ?_⟩
          have : y ≠ x := fun e => hj (nodup_ix hN e1 (e ▸ hi))
          simp [this, e]
        · exact .inr ⟨k, c, e, z.sameBut hs (cne y c e)⟩
    · obtain ⟨w', z⟩ := I.cell y c e
      exact ⟨w', z.sameBut hs (cne y c e)⟩
    · obtain ⟨e, n, ne, nf, d⟩ := I.pin p hp
      exact ⟨(hs.2 p.1 ne).trans e, n, ne, nf, d⟩
  · have hfn : X.fn x = true := by
      rcases hf with z | z
      · exact z
      · rw [z] at hk; cases hk
    obtain ⟨c, hc⟩ := I.ok.has x (.inl hk)
    obtain ⟨w', z⟩ := I.cell x c hc
    refine wpAny_storeName_cell I.ok.kind hk hc z (fun h' hc' hs => ?_)
    obtain ⟨oc, hoc, hocd⟩ := id z
    refine h { s with heap := h' } ⟨I.ok, I.os, I.bare, ⟨fun b o e n hb hx => ?_, fun b o e n hb hx => ?_, I.base.free, fun b o e hx => ?_, I.base.tups, I.base.frzs, I.base.tbls⟩, ⟨m, hn.sameBut hs (Ne.symm (cne x c hc)), fun j y v' e1 e2 e3 => ?_⟩, fun y c' e => ?_, I.free, I.freeC, fun p hp => ?_, tracked ⟨oc, hoc, I.freeC x c hc⟩ hs, by simpa using I.len⟩ ⟨c, hs, .inr hc⟩
    · exact (hs.2 b (Nat.ne_of_lt (Nat.lt_of_lt_of_le (Heap.lt_size e) (I.ok.cab x c hfn hc)))).trans (I.base.keep b o e n hb hx)
    · obtain ⟨sl, e1⟩ := I.base.slot b o e n hb hx
      exact ⟨sl, (hs.2 b (Nat.ne_of_lt (Nat.lt_of_lt_of_le (Heap.lt_size e) (I.ok.cab x c hfn hc)))).trans e1⟩
    · obtain ⟨o', e1⟩ := I.base.there b o e hx
      exact ⟨o', (hs.2 b (Nat.ne_of_lt (Nat.lt_of_lt_of_le (Heap.lt_size e) (I.ok.cab x c hfn hc)))).trans e1⟩
    · by_cases hj : j = i
      · subst hj
        rw [hi] at e1; cases e1
        rw [List.getElem?_set_self hiσ] at e2
        cases e2
        exact ⟨u, r, .inr ⟨.inl hk, c, hc, hc'⟩⟩
      · rw [List.getElem?_set_ne (Ne.symm hj)] at e2
        obtain ⟨u', r', q⟩ := hl j y v' e1 e2 e3
        refine ⟨u', r', ?_⟩
        rcases q with q | ⟨k, c', e, z'⟩
        · exact .inl q
        · refine .inr ⟨k, c', e, z'.sameBut hs ?_⟩
          rintro rfl
          exact hj (nodup_ix hN e1 (I.ok.inj _ _ _ e hc ▸ hi))
    · by_cases hcc : c' = c
      · subst hcc; exact ⟨_, hc'⟩
      · obtain ⟨w2, z2⟩ := I.cell y c' e
        exact ⟨w2, z2.sameBut hs hcc⟩
    · obtain ⟨e, n, ne, nf, d⟩ := I.pin p hp
      refine ⟨(hs.2 p.1 ?_).trans e, n, ne, nf, d⟩
      intro q
      rw [q, hoc] at e
      have q' : oc = p.2 := Option.some.inj e
      exact d w' (by rw [← q']; exact hocd)
theorem store_ok {M : Model} {A : Around} {E : Value → Shared → Prop} {i : Nat} {x : Str} {v : V} {u : Value} {Q : Unit → Shared → Prop} (I : Inv X pins σ H s) (hN : X.N.Nodup) (hi : X.N[i]? = some x) (hx : Loc X.env.scope x) (r : RelV v u)
    (h : ∀ s', Inv X pins (σ.set i (some v)) H s' → Q () s') (hf : X.fn x = true ∨ X.env.scope.names.lookup x = some .local := by first | exact .inl rfl | exact .inr rfl | assumption) : wpAny M A (storeName X.env x u) Q E s :=
  store_ok2 I hN hi hx r (fun s' I' _ => h s' I') hf
theorem Inv.call' {s' : Shared} {ch : List Addr} (I : Inv X pins σ H s) (ho : s'.os = s.os) (u : Un (frs X.stack) ch H H' s.heap s'.heap) (hok : HOk X.prog X.w H' s'.heap) (hg : AllBare s'.gens)
    (hch : ∀ b ∈ ch, (b ∈ X.ex ∨ X.s₀.heap.objs.size ≤ b) ∧ b ≠ X.env.locals ∧ (∀ x c, X.env.cells.lookup x = some c → c ≠ b) ∧ ∀ p ∈ X.pn ++ pins, p.1 ≠ b) : Inv X pins σ H' s' := by
  obtain ⟨h', g', d', t', o'⟩ := s'
  have e : o' = s.os := ho
  subst e
  exact I.call (g' := g') (t' := t') (d' := d') u hok hg hch
end
noncomputable abbrev XK := Value → Option Addr → Hp → Prop
noncomputable abbrev St := List (Option V)
noncomputable abbrev VK := V → Hp → Prop
noncomputable abbrev TE := St → Hp → VK → Prop
noncomputable abbrev TT := St → Hp → (Bool → Hp → Prop) → Prop
noncomputable abbrev TA := St → Hp → (List V → Hp → Prop) → Prop
structure Ends where
  nx : St → Hp → Prop
  rt : VK
  bk : St → Hp → Prop := fun _ _ => False
  ct : St → Hp → Prop := fun _ _ => False
noncomputable abbrev TS := Ends → St → Hp → Prop
noncomputable def EP (X : Cx) (pins : List (Addr × Obj)) (σ : St) (Q : VK) (u : Value) (s' : Shared) : Prop := ∃ v H', Inv X pins σ H' s' ∧ RelV v u ∧ Q v H'
noncomputable def TP (X : Cx) (pins : List (Addr × Obj)) (σ : St) (Q : Bool → Hp → Prop) (b : Bool) (s' : Shared) : Prop := ∃ H', Inv X pins σ H' s' ∧ Q b H'
noncomputable def AP (X : Cx) (pins : List (Addr × Obj)) (σ : St) (Q : List V → Hp → Prop) (us : List Value) (s' : Shared) : Prop := ∃ vs H', Inv X pins σ H' s' ∧ Vals vs us ∧ Q vs H'
noncomputable def SP (X : Cx) (pins : List (Addr × Obj)) (D : Ends) (f : Flow) (s' : Shared) : Prop :=
  match f with
  | .next => ∃ σ' H', Inv X pins σ' H' s' ∧ D.nx σ' H'
  | .brk => ∃ σ' H', Inv X pins σ' H' s' ∧ D.bk σ' H'
  | .cont => ∃ σ' H', Inv X pins σ' H' s' ∧ D.ct σ' H'
  | .ret u => ∃ v σ' H', Inv X pins σ' H' s' ∧ RelV v u ∧ D.rt v H'
noncomputable def PE (X : Cx) (e : Expr) (t : TE) : Prop :=
  ∀ (pins : List (Addr × Obj)) (s : Shared) (σ : St) (H : Hp) (Q : VK), Inv X pins σ H s → t σ H Q → wpAny (model X.prog X.w) X.A (eval e X.env) (EP X pins σ Q) X.xe s
noncomputable def PT (X : Cx) (e : Expr) (t : TT) : Prop :=
  ∀ (pins : List (Addr × Obj)) (s : Shared) (σ : St) (H : Hp) (Q : Bool → Hp → Prop), Inv X pins σ H s → t σ H Q → wpAny (model X.prog X.w) X.A (isTrue e X.env (eval e X.env)) (TP X pins σ Q) X.xe s
noncomputable def PW (X : Cx) (e : Expr) (t : TT) : Prop :=
  ∀ (whole : Sem Value) (pins : List (Addr × Obj)) (s : Shared) (σ : St) (H : Hp) (Q : Bool → Hp → Prop), Inv X pins σ H s → t σ H Q → wpAny (model X.prog X.w) X.A (isTrue e X.env whole) (TP X pins σ Q) X.xe s
theorem PW.pt {X : Cx} {e : Expr} {t : TT} (h : PW X e t) : PT X e t := h _
noncomputable def PA (X : Cx) (es : List Expr) (t : TA) : Prop :=
  ∀ (pos : Pos) (pins : List (Addr × Obj)) (s : Shared) (σ : St) (H : Hp) (Q : List V → Hp → Prop), Inv X pins σ H s → t σ H Q → wpAny (model X.prog X.w) X.A (spliced (backTo pos (starEach es X.env))) (AP X pins σ Q) X.xe s
noncomputable def PS (X : Cx) (st : Stmt) (t : TS) : Prop :=
  ∀ (pins : List (Addr × Obj)) (s : Shared) (σ : St) (H : Hp) (D : Ends), Inv X pins σ H s → t D σ H → wpAny (model X.prog X.w) X.A (exec st X.env) (SP X pins D) X.xe s
noncomputable def PSs (X : Cx) (st : List Stmt) (t : TS) : Prop :=
  ∀ (pins : List (Addr × Obj)) (s : Shared) (σ : St) (H : Hp) (D : Ends), Inv X pins σ H s → t D σ H → wpAny (model X.prog X.w) X.A (execs st X.env) (SP X pins D) X.xe s
theorem thn {α : Type} {t : Sem α} {Q Q' : α → Shared → Prop} {M : Model} {A : Around} {E : Value → Shared → Prop} {s : Shared} (h : wpAny M A t Q E s) (hQ : ∀ a s, Q a s → Q' a s) : wpAny M A t Q' E s := wpAny_mono h hQ fun _ _ x => x
end L2
namespace L2
open PySem PySem.Spec PyProof.Rows
section
variable {X : Cx}
noncomputable def tVar (i : Nat) : TE := fun σ H Q => ∃ v, σ[i]? = some (some v) ∧ Q v H
noncomputable def tC (v : V) : TE := fun _ H Q => Q v H
theorem pe_var {i : Nat} {x : Str} {pos : Pos} (hN : X.N[i]? = some x) (hv : Vis X.env.scope x) (hd : (x == ("__debug__" : Str)) = false := by decide) (hcd : (x == ("__classdict__" : Str)) = false := by decide) : PE X (.Name x pos) (tVar i) := by
  intro pins s σ H Q I h
  obtain ⟨v, e, h⟩ := h
  obtain ⟨m, hn, hl⟩ := I.loc
  obtain ⟨u, r, l⟩ := hl i x v hN e hv
  have fin : EP X pins σ Q u s := ⟨v, H, I, r, h⟩
  rcases l with ⟨hk, hm⟩ | ⟨hk, c, hc, hcell⟩
  · exact wpAny_Name (wpAny_loadName_local I.ok.kind hk hn hm fin) hd
  · rcases hk with hk | hk
    · exact wpAny_Name (wpAny_loadName_cell I.ok.kind hk hc hcell fin) hd
    · exact wpAny_Name (wpAny_loadName_free I.ok.kind hk hc hcell fin hcd) hd
theorem pe_int {i j pos} : PE X (.Constant (.int i) j pos) (tC (.int i)) := fun _ _ _ H _ I h => wpAny_Constant_int ⟨.int i, H, I.tok _, ⟨_, rfl⟩, h⟩
theorem pe_bl {b j pos} : PE X (.Constant (.bool b) j pos) (tC (.bl b)) := fun _ _ _ H _ I h => Constant_bool ⟨.bl b, H, I, rfl, h⟩
theorem pe_str {x j pos} : PE X (.Constant (.str x) j pos) (tC (.str x)) := fun _ _ _ H _ I h => Calls.Constant_str ⟨.str x, H, I.tok _, ⟨_, rfl⟩, h⟩
noncomputable def Gl (X : Cx) (x : Str) : Prop := X.env.kindOf x = some .globalImplicit
theorem ld_glob {E : Value → Shared → Prop} {pins : List (Addr × Obj)} {s : Shared} {σ : St} {H : Hp} {x : Str} {u : Value} {pos : Pos} {Q : Value → Shared → Prop} (I : Inv X pins σ H s) (hg : Gl X x) (hm : X.mg x = some u) (h : Q u s)
    (hd : (x == ("__debug__" : Str)) = false := by decide) : wpAny (model X.prog X.w) X.A (eval (.Name x pos) X.env) Q E s :=
  Calls.Name_function_global I.ok.kind hg (Calls.loadGlobal_global (by rw [I.ok.glob]; exact I.mod.glob.keeps I.bk) hm h) hd
theorem ld_blt {E : Value → Shared → Prop} {pins : List (Addr × Obj)} {s : Shared} {σ : St} {H : Hp} {x : Str} {u : Value} {pos : Pos} {Q : Value → Shared → Prop} (I : Inv X pins σ H s) (hg : Gl X x) (hm : X.mg x = none) (hv : bootBuiltins x = some u) (h : Q u s)
    (hn : x ≠ "__name__" := by decide) (hd : (x == ("__debug__" : Str)) = false := by decide) : wpAny (model X.prog X.w) X.A (eval (.Name x pos) X.env) Q E s := by
  obtain ⟨mb, h1, h2⟩ := I.mod.blt
  exact Calls.Name_function_global I.ok.kind hg (Calls.loadGlobal_builtin (by rw [I.ok.glob]; exact I.mod.glob.keeps I.bk) hm (by rw [I.ok.blt]; exact h1.keeps I.bk) ((h2 x hn).trans hv) h) hd
theorem pe_glob {x : Str} {v : V} {u : Value} {pos : Pos} (hg : Gl X x) (hm : X.mg x = some u) (r : RelV v u) (hd : (x == ("__debug__" : Str)) = false := by decide) : PE X (.Name x pos) (tC v) :=
  fun _ _ _ H _ I h => ld_glob I hg hm ⟨v, H, I, r, h⟩ hd
theorem pe_bltn {x : Str} {v : V} {u : Value} {pos : Pos} (hg : Gl X x) (hm : X.mg x = none) (hv : bootBuiltins x = some u) (r : RelV v u) (hn : x ≠ "__name__" := by decide) (hd : (x == ("__debug__" : Str)) = false := by decide) : PE X (.Name x pos) (tC v) :=
  fun _ _ _ H _ I h => ld_blt I hg hm hv ⟨v, H, I, r, h⟩ hn hd
variable {a b : Expr} {ta tb : TE} {pos : Pos}
noncomputable def tB (t : TE) : TT := fun σ H Q => t σ H fun x H1 => ∃ c, x = .bl c ∧ Q c H1
theorem pt_val {e : Expr} {t : TE} (h : PE X e t) (he : ∀ whole, isTrue e X.env whole = (do let v ← whole; standAt e.pos; holding [v] (truthy v)) := by intro _; rfl) : PT X e (tB t) := by
  intro pins s σ H Q I hw
  refine isTrue_plain (thn (h pins s σ H _ I hw) fun v s1 ⟨x, H1, I1, r1, q1⟩ => ?_) (he _)
  obtain ⟨d, rfl, q⟩ := q1
  cases r1
  exact wpAny_truthy_bool ⟨H1, I1, q⟩
variable {tA tB' : TT} {rest : List Expr}
noncomputable def tOr (t u : TT) : TT := fun σ H Q => t σ H fun c H1 => if c = true then Q true H1 else u σ H1 Q
noncomputable def tNot (t : TT) : TT := fun σ H Q => t σ H fun c H1 => Q (!c) H1
theorem pw_or1 (ha : PT X a tA) : PW X (.BoolOp .Or [a] pos) tA := by
  intro wh pins s σ H Q I h
  refine isTrue_or (thn (ha pins s σ H Q I h) fun c s1 e => ?_)
  cases c with
  | false => exact isTrue_or_nil e
  | true => exact e
theorem pw_or (ha : PT X a tA) (hb : PW X (.BoolOp .Or (b :: rest) pos) tB') : PW X (.BoolOp .Or (a :: b :: rest) pos) (tOr tA tB') := by
  intro wh pins s σ H Q I h
  refine isTrue_or (thn (ha pins s σ H _ I h) fun c s1 ⟨H1, I1, q1⟩ => ?_)
  cases c with
  | true => exact ⟨H1, I1, q1⟩
  | false => exact hb wh pins s1 σ H1 Q I1 q1
theorem pt_not (ha : PT X a tA) : PT X (.UnaryOp .Not a pos) (tNot tA) := by
  intro pins s σ H Q I h
  exact isTrue_not (ha pins s σ H (fun c H1 => Q (!c) H1) I h)
noncomputable def tAndV (ta tb : TE) : TE := fun σ H Q => ta σ H fun x H1 => ∃ c, x = .bl c ∧ if c = true then tb σ H1 Q else Q (.bl false) H1
noncomputable def tNotV (ta : TE) : TE := fun σ H Q => ta σ H fun x H1 => ∃ c, x = .bl c ∧ Q (.bl (!c)) H1
theorem pe_one {op} {t : TE} (h : PE X a t) : PE X (.BoolOp op [a] pos) t := fun pins s σ H Q I hw => BoolOp_one (h pins s σ H Q I hw)
theorem pe_and (ha : PE X a ta) (hb : PE X (.BoolOp .And (b :: rest) pos) tb) : PE X (.BoolOp .And (a :: b :: rest) pos) (tAndV ta tb) := by
  intro pins s σ H Q I h
  refine BoolOp_and (thn (ha pins s σ H _ I h) fun v s1 ⟨x, H1, I1, r1, q1⟩ => ?_)
  obtain ⟨c, rfl, q1⟩ := q1
  cases r1
  refine wpAny_truthy_bool ?_
  cases c with
  | true => exact hb pins s1 σ H1 Q I1 q1
  | false => exact ⟨.bl false, H1, I1, rfl, q1⟩
theorem pe_not (ha : PE X a ta) : PE X (.UnaryOp .Not a pos) (tNotV ta) := by
  intro pins s σ H Q I h
  refine UnaryOp_ (thn (ha pins s σ H _ I h) fun v s1 ⟨x, H1, I1, r1, q1⟩ => ?_)
  obtain ⟨c, rfl, q1⟩ := q1
  cases r1
  exact not_of (wpAny_truthy_bool ⟨.bl (!c), H1, I1, rfl, q1⟩)
end
end L2
namespace L2
open PySem PySem.Spec PyProof.Rows
noncomputable def SqL (K : PySem.W.Frag) (H : Hp) (a : Addr) (xs : List V) : Prop :=
  Rd H a (.lst xs) ∨
    ∃ (o : Obj) (its : Array Value) (n : Nat), K.lookup a = some o ∧ o.cls = .type "list" ∧ o.dict = none ∧ o.data = .seq its n ∧ its.size ≤ sizeLine ∧ Vals xs its.toList
noncomputable def SqT (K : PySem.W.Frag) (H : Hp) (a : Addr) (xs : List V) : Prop :=
  Rd H a (.tup xs) ∨
    ∃ (o : Obj) (its : Array Value) (n : Nat), K.lookup a = some o ∧ o.cls = .type "tuple" ∧ o.data = .seq its n ∧ its.size ≤ sizeLine ∧ Vals xs its.toList
noncomputable def absV : Value → Option V
  | .none => some .non
  | .bool b => some (.bl b)
  | .int i _ => some (.int i)
  | .str x _ => some (.str x)
  | .bytes b _ => some (.byt b)
  | .float b _ => some (.flt b)
  | .ref a => some (.ref a)
  | .type n => some (.ty n)
  | _ => none
theorem RelV.abs {x : V} {u : Value} (r : RelV x u) : absV u = some x := by
  cases x with
  | non => cases r; rfl
  | bl _ => cases r; rfl
  | int _ => obtain ⟨t, rfl⟩ := r; rfl
  | str _ => obtain ⟨t, rfl⟩ := r; rfl
  | byt _ => obtain ⟨t, rfl⟩ := r; rfl
  | flt _ => obtain ⟨t, rfl⟩ := r; rfl
  | ref _ => cases r; rfl
  | ty _ => cases r; rfl
theorem RelV.inj {x y : V} {u : Value} (r : RelV x u) (q : RelV y u) : x = y := Option.some.inj (r.abs.symm.trans q.abs)
theorem Vals.inj : ∀ {xs ys : List V} {us : List Value}, Vals xs us → Vals ys us → xs = ys
  | _, _, _, .nil, .nil => rfl
  | _, _, _, .cons r t, .cons r' t' => by rw [r.inj r', Vals.inj t t']
section
variable {X : Cx} {pins : List (Addr × Obj)} {σ : St} {H : Hp} {s : Shared} {a : Addr} {xs ys : List V}
theorem SqL.of {K : PySem.W.Frag} (h : H a = some (.lst xs)) : SqL K H a xs := .inl (.inl h)
theorem SqT.of {K : PySem.W.Frag} (h : H a = some (.tup xs)) : SqT K H a xs := .inl (.inl h)
theorem Inv.list (I : Inv X pins σ H s) (h : SqL X.K H a xs) : ∃ its : List Value, Vals xs its ∧ PlainL s.heap a its.toArray ∧ xs.length ≤ sizeLine := by
  rcases h with h | ⟨o, its, n, hk, hc, hd, hs, hz, r⟩
  · obtain ⟨z, its, n, r, e⟩ := h.ok I.hok
    exact ⟨its, r, ⟨_, n, e, rfl, rfl, rfl⟩, z⟩
  · refine ⟨its.toList, r, ⟨o, n, I.kIn a o hk, hc, hd, by simpa using hs⟩, ?_⟩
    have e := r.length
    simp only [Array.length_toList] at e
    omega
theorem Inv.tuple (I : Inv X pins σ H s) (h : SqT X.K H a xs) : ∃ its : List Value, Vals xs its ∧ IsTup s.heap a its.toArray ∧ xs.length ≤ sizeLine := by
  rcases h with h | ⟨o, its, n, hk, hc, hs, hz, r⟩
  · obtain ⟨z, its, r, p⟩ := h.ok I.hok
    exact ⟨its, r, p, z⟩
  · refine ⟨its.toList, r, ⟨o, I.kIn a o hk, hc, n, by simpa using hs⟩, ?_⟩
    have e := r.length
    simp only [Array.length_toList] at e
    omega
theorem Inv.list_inj (I : Inv X pins σ H s) (h : SqL X.K H a xs) (h' : SqL X.K H a ys) : xs = ys := by
  obtain ⟨its, r, ⟨o, n, e, _, _, d⟩, _⟩ := I.list h
  obtain ⟨its', r', ⟨o', n', e', _, _, d'⟩, _⟩ := I.list h'
  rw [e] at e'; cases e'
  rw [d] at d'
  injection d' with d1 _
  have : its = its' := by simpa using congrArg Array.toList d1
  subst this
  exact r.inj r'
theorem Inv.tuple_inj (I : Inv X pins σ H s) (h : SqT X.K H a xs) (h' : SqT X.K H a ys) : xs = ys := by
  obtain ⟨its, r, ⟨o, e, _, n, d⟩, _⟩ := I.tuple h
  obtain ⟨its', r', ⟨o', e', _, n', d'⟩, _⟩ := I.tuple h'
  rw [e] at e'; cases e'
  rw [d] at d'
  injection d' with d1 _
  have : its = its' := by simpa using congrArg Array.toList d1
  subst this
  exact r.inj r'
end
noncomputable abbrev Cx.wish (X : Cx) (E : Value → Shared → Prop) : Cx := { X with xe := E }
noncomputable abbrev Cx.nox (X : Cx) : Cx := X.wish fun _ _ => False
theorem Cx.Ok.wish {X : Cx} (ok : X.Ok) (E : Value → Shared → Prop) : (X.wish E).Ok :=
  ⟨ok.mod, ok.kind, ok.glob, ok.blt, ok.above, ok.inj, ok.has, ok.cab, ok.hd, ok.frames, ok.stk, ok.exf, ok.bs, ok.bsz, ok.noex, ok.exfs, ok.funs, ok.frf⟩
theorem Cx.Ok.unwish {X : Cx} {E : Value → Shared → Prop} (ok : (X.wish E).Ok) : X.Ok :=
  ⟨ok.mod, ok.kind, ok.glob, ok.blt, ok.above, ok.inj, ok.has, ok.cab, ok.hd, ok.frames, ok.stk, ok.exf, ok.bs, ok.bsz, ok.noex, ok.exfs, ok.funs, ok.frf⟩
section
variable {X : Cx} {pins : List (Addr × Obj)} {σ : St} {H : Hp} {s : Shared} {E : Value → Shared → Prop}
theorem Inv.wish (I : Inv X pins σ H s) (E : Value → Shared → Prop) : Inv (X.wish E) pins σ H s := ⟨I.ok.wish E, I.os, I.bare, I.base, I.loc, I.cell, I.free, I.freeC, I.pin, I.hok, I.len⟩
theorem Inv.unwish (I : Inv (X.wish E) pins σ H s) : Inv X pins σ H s := ⟨I.ok.unwish, I.os, I.bare, I.base, I.loc, I.cell, I.free, I.freeC, I.pin, I.hok, I.len⟩
theorem SP.unwish {D : Ends} {f : Flow} {s' : Shared} (h : SP (X.wish E) pins D f s') : SP X pins D f s' := by
  cases f with
  | next => obtain ⟨σ', H', I, q⟩ := h; exact ⟨σ', H', I.unwish, q⟩
  | brk => obtain ⟨σ', H', I, q⟩ := h; exact ⟨σ', H', I.unwish, q⟩
  | cont => obtain ⟨σ', H', I, q⟩ := h; exact ⟨σ', H', I.unwish, q⟩
  | ret u => obtain ⟨v, σ', H', I, r, q⟩ := h; exact ⟨v, σ', H', I.unwish, r, q⟩
theorem PE.nox {e : Expr} {t : TE} (h : PE X.nox e t) : PE X e t := fun pins s σ H Q I hw =>
  wpAny_mono (h pins s σ H Q (I.wish _) hw) (fun _ _ ⟨v, H', I', r, q⟩ => ⟨v, H', I'.unwish, r, q⟩) fun _ _ z => False.elim z
theorem PT.nox {e : Expr} {t : TT} (h : PT X.nox e t) : PT X e t := fun pins s σ H Q I hw =>
  wpAny_mono (h pins s σ H Q (I.wish _) hw) (fun _ _ ⟨H', I', q⟩ => ⟨H', I'.unwish, q⟩) fun _ _ z => False.elim z
theorem PSs.nox {st : List Stmt} {t : TS} (h : PSs X.nox st t) : PSs X st t := fun pins s σ H D I hw =>
  wpAny_mono (h pins s σ H D (I.wish _) hw) (fun _ _ q => q.unwish) fun _ _ z => False.elim z
end
section
variable {X : Cx} {st : Stmt} {rest : List Stmt} {t u : TS} {e : Expr} {te : TE} {pos : Pos}
noncomputable def tNext : TS := fun D σ H => D.nx σ H
noncomputable def tSeq (t u : TS) : TS := fun D σ H => t { D with nx := u D } σ H
theorem pss_nil : PSs X [] tNext := fun _ _ σ H _ I h => wpAny_execs_nil ⟨σ, H, I, h⟩
theorem pss_cons (h1 : PS X st t) (h2 : PSs X rest u) : PSs X (st :: rest) (tSeq t u) := by
  intro pins s σ H D I h
  refine wpAny_execs_cons (thn (h1 pins s σ H { D with nx := u D } I h) fun f s1 q => ?_)
  cases f with
  | next =>
    obtain ⟨σ', H', I', q⟩ := q
    exact h2 pins s1 σ' H' D I' q
  | ret v => exact q
  | brk => exact q
  | cont => exact q
theorem pss_one (h1 : PS X st t) : PSs X [st] t := by
  intro pins s σ H D I h
  refine wpAny_execs_cons (thn (h1 pins s σ H D I h) fun f s1 q => ?_)
  cases f with
  | next => exact wpAny_execs_nil q
  | ret v => exact q
  | brk => exact q
  | cont => exact q
theorem Inv.quiet {pins : List (Addr × Obj)} {σ : St} {H : Hp} {s : Shared} (I : Inv X pins σ H s) : interactive X.env = false := by simp [interactive, I.ok.kind]
noncomputable def tDrop (te : TE) : TS := fun D σ H => te σ H fun _ H1 => D.nx σ H1
theorem ps_expr (he : PE X e te) (hs : swapsWith e none pos.line X.env = pure false := by rfl) : PS X (.Expr e pos) (tDrop te) := by
  intro pins s σ H D I h
  exact wpAny_Expr_any (thn (he pins s σ H _ I h) fun v s1 ⟨x, H1, I1, r1, q1⟩ => ⟨σ, H1, I1, q1⟩) I.quiet hs
noncomputable def tRet (te : TE) : TS := fun D σ H => te σ H D.rt
theorem ps_ret (he : PE X e te) : PS X (.Return (some e) pos) (tRet te) := by
  intro pins s σ H D I h
  exact wpAny_Return_some (thn (he pins s σ H _ I h) fun v s1 ⟨x, H1, I1, r1, q1⟩ => ⟨x, σ, H1, I1, r1, q1⟩)
noncomputable def tIfS (c : TT) (t u : TS) : TS := fun D σ H => c σ H fun b H1 => if b = true then t D σ H1 else u D σ H1
theorem ps_if {c : Expr} {a b : List Stmt} {tc : TT} (hc : PT X c tc) (ha : PSs X a t) (hb : PSs X b u) : PS X (.If c a b pos) (tIfS tc t u) := by
  intro pins s σ H D I h
  refine wpAny_If (thn (hc pins s σ H _ I h) fun d s1 ⟨H1, I1, q1⟩ => ?_)
  cases d with
  | true => exact ha pins s1 σ H1 D I1 q1
  | false => exact hb pins s1 σ H1 D I1 q1
end
noncomputable abbrev TG := V → St → Hp → (St → Hp → Prop) → Prop
noncomputable abbrev TGs := List V → St → Hp → (St → Hp → Prop) → Prop
noncomputable def PG (X : Cx) (target : Expr) (t : TG) : Prop :=
  ∀ (pins : List (Addr × Obj)) (s : Shared) (σ : St) (H : Hp) (v : V) (u : Value) (Q : St → Hp → Prop), Inv X pins σ H s → RelV v u → t v σ H Q →
    wpAny (model X.prog X.w) X.A (assign target X.env u) (fun _ s' => ∃ σ' H', Inv X pins σ' H' s' ∧ Q σ' H') X.xe s
noncomputable def PGs (X : Cx) (ts : List Expr) (t : TGs) : Prop :=
  ∀ (pins : List (Addr × Obj)) (s : Shared) (σ : St) (H : Hp) (vs : List V) (us : List Value) (Q : St → Hp → Prop), Inv X pins σ H s → Vals vs us → t vs σ H Q →
    wpAny (model X.prog X.w) X.A (assignInOrder ((assignEach ts X.env).map (·.2)) us) (fun _ s' => ∃ σ' H', Inv X pins σ' H' s' ∧ Q σ' H') X.xe s
noncomputable abbrev TSet := V → V → V → Hp → (Hp → Prop) → Prop
noncomputable def PSet (X : Cx) (t : TSet) : Prop :=
  ∀ (pins : List (Addr × Obj)) (s : Shared) (σ : St) (H : Hp) (o i v : V) (ov iv u : Value) (Q : Hp → Prop), Inv X pins σ H s → RelV o ov → RelV i iv → RelV v u → t o i v H Q →
    wpAny (model X.prog X.w) X.A (setItem ov iv u) (fun _ s' => ∃ H', Inv X pins σ H' s' ∧ Q H') X.xe s
section
variable {X : Cx} {pos : Pos}
noncomputable def gName (i : Nat) : TG := fun v σ H Q => Q (σ.set i (some v)) H
theorem pg_name {i : Nat} {x : Str} (hN : X.N.Nodup) (hi : X.N[i]? = some x) (hx : Loc X.env.scope x) (hf : X.fn x = true ∨ X.env.scope.names.lookup x = some .local := by first | exact .inl rfl | exact .inr rfl | assumption) : PG X (.Name x pos) (gName i) := by
  intro pins s σ H v u Q I r h
  exact wpAny_assign_Name (store_ok I hN hi hx r (fun s' I' => ⟨_, H, I', h⟩) hf)
noncomputable def gNil : TGs := fun vs σ H Q => vs = [] ∧ Q σ H
noncomputable def gCons (t : TG) (u : TGs) : TGs := fun vs σ H Q => ∃ v r, vs = v :: r ∧ t v σ H fun σ' H' => u r σ' H' Q
theorem pgs_nil : PGs X [] gNil := by
  intro pins s σ H vs us Q I r h
  obtain ⟨e, h⟩ := h
  subst e
  cases r
  exact assignInOrder_nil ⟨σ, H, I, h⟩
theorem pgs_cons {e : Expr} {es : List Expr} {t : TG} {u : TGs} (h1 : PG X e t) (h2 : PGs X es u)
    (hs : (assignEach (e :: es) X.env).map (·.2) = assign e X.env :: (assignEach es X.env).map (·.2) := by rfl) : PGs X (e :: es) (gCons t u) := by
  intro pins s σ H vs us Q I r h
  obtain ⟨v, vr, e1, h⟩ := h
  subst e1
  cases r with
  | cons r rr =>
    rw [hs]
    refine assignInOrder_cons (thn (h1 pins s σ H _ _ _ I r h) fun _ s1 ⟨σ1, H1, I1, q1⟩ => ?_)
    exact h2 pins s1 σ1 H1 _ _ Q I1 rr q1
noncomputable def gTup (K : PySem.W.Frag) (n : Nat) (t : TGs) : TG := fun v σ H Q => ∃ a xs, v = .ref a ∧ SqT K H a xs ∧ xs.length = n ∧ t xs σ H Q
theorem pg_tup {es : List Expr} {k : Nat} {t : TGs} {n : Nat} (hc : X.calm = true) (h : PGs X es t)
    (hn : (assignEach es X.env).length = n := by rfl) (hst : (assignEach es X.env).findIdx? (·.1) = none := by rfl) : PG X (.Tuple es k pos) (gTup X.K n t) := by
  intro pins s σ H v u Q I r hw
  obtain ⟨a, xs, e1, hq, hl, hw⟩ := hw
  subst e1
  cases r
  obtain ⟨its, rv, ht, hz⟩ := I.tuple hq
  refine assign_Tuple_tuple (I.ok.hd hc) ht (by simp [hn, ← hl, rv.length]) hst fun h' hx => ?_
  have I1 : Inv X pins σ H { s with heap := h' } := I.kept (t' := s.toks) fun b o e => hx b o (Nat.ne_of_lt (Heap.lt_size e)) e
  exact h pins _ σ H xs _ Q I1 (by simpa using rv) hw
noncomputable def gSub (to ti : TE) (t : TSet) : TG := fun v σ H Q => to σ H fun o H1 => ti σ H1 fun i H2 => t o i v H2 fun H3 => Q σ H3
theorem pg_sub {o i : Expr} {to ti : TE} {t : TSet} (ho : PE X o to) (hi : PE X i ti) (hs : PSet X t)
    (ha : ∀ v, assign (.Subscript o i pos) X.env v = (do
      let ov ← holding [v] (eval o X.env)
      let iv ← holding [v, ov] (eval i X.env)
      standAt pos
      holding [v, ov, iv] (setItem ov iv v)
      release [v, ov, iv] []) := by intro _; rfl) : PG X (.Subscript o i pos) (gSub to ti t) := by
  intro pins s σ H v u Q I r h
  rw [ha]
  refine wpAny_bind (wpAny_holding (thn (ho pins s σ H _ I h) fun ov s1 ⟨x, H1, I1, r1, q1⟩ => ?_))
  refine wpAny_bind (wpAny_holding (thn (hi pins s1 σ H1 _ I1 q1) fun iv s2 ⟨y, H2, I2, r2, q2⟩ => ?_))
  refine wpAny_bind (wpAny_standAt (wpAny_bind (wpAny_holding (thn (hs pins s2 σ H2 x y v ov iv u _ I2 r1 r2 r q2) fun _ s3 ⟨H3, I3, q3⟩ => ?_))))
  exact wpAny_release ⟨σ, H3, I3, q3⟩
noncomputable def tAsg (te : TE) (g : TG) : TS := fun D σ H => te σ H fun x H1 => g x σ H1 D.nx
theorem ps_asg {tg e : Expr} {te : TE} {g : TG} (he : PE X e te) (hg : PG X tg g) (hs : swapsWithSole [tg] e pos.line X.env = pure false := by rfl) (hw : swappedStores [tg] e X.env = pure none := by rfl)
    (h1 : (assignEach [tg] X.env).map (·.2) = [assign tg X.env] := by rfl) : PS X (.Assign [tg] e pos) (tAsg te g) := by
  intro pins s σ H D I h
  refine wpAny_Assign_stores (thn (he pins s σ H _ I h) fun v s1 ⟨x, H1, I1, r1, q1⟩ => ?_) hs hw
  rw [h1]
  exact thn (hg pins s1 σ H1 x v _ I1 r1 q1) fun _ s2 q => q
theorem ps_set {i : Nat} {x : Str} {e : Expr} {te : TE} {pos' : Pos} (hN : X.N.Nodup) (hi : X.N[i]? = some x) (hx : Loc X.env.scope x) (he : PE X e te) (hs : swapsWith e (some (.Name x pos')) pos.line X.env = pure false := by rfl) (hf : X.fn x = true ∨ X.env.scope.names.lookup x = some .local := by first | exact .inl rfl | exact .inr rfl | assumption) :
    PS X (.Assign [.Name x pos'] e pos) (tAsg te (gName i)) := by
  intro pins s σ H D I h
  refine wpAny_Assign_Name (thn (he pins s σ H _ I h) fun v s1 ⟨y, H1, I1, r1, q1⟩ => ?_) hs
  exact store_ok I1 hN hi hx r1 (fun s2 I2 => ⟨_, H1, I2, q1⟩) hf
end
section
variable {X : Cx} {pos : Pos}
end
structure It where
  go : Nat → Hp → Prop
  yld : Nat → Hp → V → Hp → Prop
  stop : Nat → Hp → Prop
noncomputable def FpOk (X : Cx) (pins : List (Addr × Obj)) (H : Hp) (b : Addr) : Prop :=
  H b = none ∧ b ≠ X.env.locals ∧ b ∉ X.fs ∧ (b ∈ X.ex ∨ X.s₀.heap.objs.size ≤ b) ∧ (∀ x c, X.env.cells.lookup x = some c → c ≠ b) ∧ ∀ p ∈ X.pn ++ pins, p.1 ≠ b
theorem Inv.fpOk {X : Cx} {pins : List (Addr × Obj)} {σ : St} {H H' : Hp} {s : Shared} {b : Addr} (I : Inv X pins σ H s) (hb : s.heap.objs.size ≤ b) (hn : H' b = none) : FpOk X pins H' b := by
  refine ⟨hn, Nat.ne_of_gt (Nat.lt_of_lt_of_le I.lt hb), I.nofs hb, .inr (Nat.le_trans I.sz hb), fun x c e z => ?_, fun p hp z => ?_⟩
  · obtain ⟨v, q⟩ := I.cell x c e
    exact absurd (Nat.lt_of_lt_of_le q.lt (by rw [z]; exact hb)) (Nat.lt_irrefl _)
  · exact absurd (Nat.lt_of_lt_of_le (Heap.lt_size (I.pin p hp).1) (by rw [z]; exact hb)) (Nat.lt_irrefl _)
structure Turn (P : Program) (w : World) (K : PySem.W.Frag) (tg : Expr) (J : It) (fp : List Addr) (it : Addr) (tn : Nat → Heap → Prop) : Prop where
  mem : it ∈ fp
  obj : ∀ i h, tn i h → ∀ b ∈ fp, ∃ o, h.get? b = some o ∧ ∀ v, o.data ≠ .cell v
  keep : ∀ i h h', tn i h → (∀ b ∈ fp, ∀ o, h.get? b = some o → h'.get? b = some o) → tn i h'
  item : ∀ (X : Cx), X.prog = P → X.w = w → X.K = K → X.calm = true → ∀ (i : Nat) (pins : List (Addr × Obj)) (s : Shared) (σ : St) (H : Hp) (E : Value → Shared → Prop), Inv X pins σ H s → (∀ b ∈ fp, FpOk X pins H b) → tn i s.heap → J.go i H →
    wpAny (model P w) X.A (pyNext (.ref it)) (fun r s1 => ∃ u, r = some u ∧
      wpAny (model P w) X.A (letOwnedTupleGo tg (.ref it) u) (fun _ s2 => ∃ x H', Inv X pins σ H' s2 ∧ RelV x u ∧ J.yld i H x H' ∧ tn (i + 1) s2.heap ∧ ∀ b ∈ fp, H' b = none) E s1) E s
  done : ∀ (X : Cx), X.prog = P → X.w = w → X.K = K → X.calm = true → ∀ (i : Nat) (pins : List (Addr × Obj)) (s : Shared) (σ : St) (H : Hp) (E : Value → Shared → Prop), Inv X pins σ H s → (∀ b ∈ fp, FpOk X pins H b) → tn i s.heap → J.stop i H →
    wpAny (model P w) X.A (pyNext (.ref it)) (fun r s1 => r = none ∧ Inv X pins σ H s1) E s
  self : ∀ (A : Around) (i : Nat) (s : Shared) (Q : Value → Shared → Prop) (E : Value → Shared → Prop), tn i s.heap → Q (.ref it) s → wpAny (model P w) A (pyIter (.ref it)) Q E s
noncomputable abbrev TI := St → Hp → (It → Hp → Prop) → Prop
noncomputable def PIE (X : Cx) (pins : List (Addr × Obj)) (σ : St) (tg : Expr) (R : It → Hp → Prop) (itv : Value) (s2 : Shared) : Prop :=
  ∃ (it : Addr) (fp : List Addr) (tn : Nat → Heap → Prop) (J : It) (H' : Hp), itv = .ref it ∧ Inv X pins σ H' s2 ∧ Turn X.prog X.w X.K tg J fp it tn ∧ tn 0 s2.heap ∧ (∀ b ∈ fp, FpOk X pins H' b) ∧ R J H'
noncomputable def PI (X : Cx) (tg iter : Expr) (wi : TI) : Prop :=
  ∀ (pins : List (Addr × Obj)) (s : Shared) (σ : St) (H : Hp) (R : It → Hp → Prop), Inv X pins σ H s → wi σ H R →
    wpAny (model X.prog X.w) X.A (eval iter X.env) (fun v s1 => wpAny (model X.prog X.w) X.A (pyIter v) (PIE X pins σ tg R) X.xe s1) X.xe s
theorem go_of {M : Model} {A : Around} {E : Value → Shared → Prop} {s : Shared} {tg : Expr} {it : Addr} {u : Value} {o : Obj} {n : String} {vs : Array Value} {Q : Unit → Shared → Prop} (ho : s.heap.get? it = some o) (hc : o.cls = .type n) (hd : o.data = .fields vs)
    (hn : ["enumerate", "zip", "dict_itemiterator", "dict_reverseitemiterator", "odict_iterator", "itertools.zip_longest", "itertools.pairwise"].contains n = false) (hQ : Q () s) : wpAny M A (letOwnedTupleGo tg (.ref it) u) Q E s := by
  unfold letOwnedTupleGo
  cases tg <;> first
    | exact wpAny_pure hQ
    | (cases u <;> first
        | exact wpAny_pure hQ
        | (refine wpAny_bind (wpAny_load ho ?_)
           rw [hc, hd]
           show wpAny M A (if (["enumerate", "zip", "dict_itemiterator", "dict_reverseitemiterator", "odict_iterator", "itertools.zip_longest", "itertools.pairwise"].contains n && vs[0]? == some (rawInt _)) = true then _ else _) Q E s
           rw [if_neg (by intro h; rw [hn, Bool.false_and] at h; cases h)]
           exact wpAny_pure hQ))
noncomputable def Itl (K : PySem.W.Frag) (a : Addr) : It :=
  ⟨fun i H => ∃ xs x, SqL K H a xs ∧ xs[i]? = some x, fun i H x H' => H' = H ∧ ∀ xs, SqL K H a xs → xs[i]? = some x, fun i H => ∃ xs, SqL K H a xs ∧ xs.length ≤ i⟩
noncomputable def Itt (K : PySem.W.Frag) (a : Addr) : It :=
  ⟨fun i H => ∃ xs x, SqT K H a xs ∧ xs[i]? = some x, fun i H x H' => H' = H ∧ ∀ xs, SqT K H a xs → xs[i]? = some x, fun i H => ∃ xs, SqT K H a xs ∧ xs.length ≤ i⟩
noncomputable def Itr (lo : Int) (n : Nat) : It := ⟨fun i _ => i < n, fun i H x H' => H' = H ∧ x = .int (lo + i), fun i _ => n ≤ i⟩
theorem turn_list {P : Program} {w : World} {K : PySem.W.Frag} {tg : Expr} (a it : Addr) : Turn P w K tg (Itl K a) [it] it (fun i h => h.IsListIter it a i) where
  mem := by simp
  obj := fun i h st b hb => by
    have e : b = it := by simpa using hb
    subst e
    obtain ⟨o, e, c, d⟩ := st
    exact ⟨o, e, fun v z => by rw [d] at z; cases z⟩
  keep := fun i h h' st k => st.at fun o e => k it (by simp) o e
  item := by
    intro X hP hw hK hc i pins s σ H E I hf st hg
    subst hP hw hK
    obtain ⟨xs, x, hq, hx⟩ := hg
    obtain ⟨its, rv, p, hz⟩ := I.list hq
    obtain ⟨u, hu, ru⟩ := rv.get hx
    obtain ⟨f0, f1, f2, f3, f4, f5⟩ := hf it (by simp)
    refine wpAny_pyNext_list_item st p.isList (x := u) (by simpa using hu) fun h' st' sb => ?_
    have I1 : Inv X pins σ H { s with heap := h' } := I.turned (t' := s.toks) (fun b o hb e => (sb.2 b hb).trans e) f0 f1 f3 f4 f5
    obtain ⟨o, e, c, d⟩ := id st'
    exact ⟨u, rfl, go_of (s := { s with heap := h' }) e c d (by decide) ⟨x, H, I1, ru, ⟨rfl, fun ys hy => by rw [I.list_inj hy hq]; exact hx⟩, st', fun b hb => (hf b hb).1⟩⟩
  done := by
    intro X hP hw hK hc i pins s σ H E I hf st hg
    subst hP hw hK
    obtain ⟨xs, hq, hx⟩ := hg
    obtain ⟨its, rv, p, hz⟩ := I.list hq
    obtain ⟨f0, f1, f2, f3, f4, f5⟩ := hf it (by simp)
    have hl := rv.length
    exact wpAny_pyNext_list_end (I.ok.hd hc) st p.isList (by simp; omega) fun h' eb => ⟨rfl, I.turned (t' := s.toks) (fun b o hb e => eb b o hb e) f0 f1 f3 f4 f5⟩
  self := fun _ _ _ _ _ st h => wpAny_pyIter_listiter st h
theorem turn_tuple {P : Program} {w : World} {K : PySem.W.Frag} {tg : Expr} (a it : Addr) : Turn P w K tg (Itt K a) [it] it (fun i h => h.IsTupleIter it a i) where
  mem := by simp
  obj := fun i h st b hb => by
    have e : b = it := by simpa using hb
    subst e
    obtain ⟨o, e, c, d⟩ := st
    exact ⟨o, e, fun v z => by rw [d] at z; cases z⟩
  keep := fun i h h' st k => st.at fun o e => k it (by simp) o e
  item := by
    intro X hP hw hK hc i pins s σ H E I hf st hg
    subst hP hw hK
    obtain ⟨xs, x, hq, hx⟩ := hg
    obtain ⟨its, rv, p, hz⟩ := I.tuple hq
    obtain ⟨u, hu, ru⟩ := rv.get hx
    obtain ⟨f0, f1, f2, f3, f4, f5⟩ := hf it (by simp)
    refine wpAny_pyNext_tuple_item st (show s.heap.IsTuple a its.toArray from p) (x := u) (by simpa using hu) fun h' st' sb => ?_
    have I1 : Inv X pins σ H { s with heap := h' } := I.turned (t' := s.toks) (fun b o hb e => (sb.2 b hb).trans e) f0 f1 f3 f4 f5
    obtain ⟨o, e, c, d⟩ := id st'
    exact ⟨u, rfl, go_of (s := { s with heap := h' }) e c d (by decide) ⟨x, H, I1, ru, ⟨rfl, fun ys hy => by rw [I.tuple_inj hy hq]; exact hx⟩, st', fun b hb => (hf b hb).1⟩⟩
  done := by
    intro X hP hw hK hc i pins s σ H E I hf st hg
    subst hP hw hK
    obtain ⟨xs, hq, hx⟩ := hg
    obtain ⟨its, rv, p, hz⟩ := I.tuple hq
    obtain ⟨f0, f1, f2, f3, f4, f5⟩ := hf it (by simp)
    have hl := rv.length
    exact wpAny_pyNext_tuple_end (I.ok.hd hc) st (show s.heap.IsTuple a its.toArray from p) (by simp; omega) fun h' eb => ⟨rfl, I.turned (t' := s.toks) (fun b o hb e => eb b o hb e) f0 f1 f3 f4 f5⟩
  self := fun _ _ _ _ _ st h => wpAny_pyIter_tupleiter st h
theorem turn_range {P : Program} {w : World} {K : PySem.W.Frag} {tg : Expr} (it : Addr) (lo : Int) (n : Nat) : Turn P w K tg (Itr lo n) [it] it (fun i h => IsRangeIter h it (lo + (i : Nat) * 1) ((n : Int) - (i : Nat)) 1) where
  mem := by simp
  obj := fun i h st b hb => by
    have e : b = it := by simpa using hb
    subst e
    exact ⟨_, st, fun v z => by
      have z' : Data.fields _ = Data.cell v := z
      cases z'⟩
  keep := fun i h h' st k => k it (by simp) _ st
  item := by
    intro X hP hw hK hc i pins s σ H E I hf st hg
    subst hP hw hK
    obtain ⟨f0, f1, f2, f3, f4, f5⟩ := hf it (by simp)
    have W := Walks.range (prog := X.prog) (w := X.w) (I.ok.hd hc) it lo 1 n
    refine W.item i s _ _ hg st fun v h' tk hv st' kk => ?_
    obtain ⟨t, rfl⟩ := hv
    have I1 : Inv X pins σ H { s with heap := h', toks := tk } := I.turned (fun b o hb e => kk b o (by simpa using hb) e) f0 f1 f3 f4 f5
    refine ⟨_, rfl, go_of (s := { s with heap := h', toks := tk }) (n := "range_iterator") st' rfl rfl (by decide) ⟨.int (lo + i), H, I1, ⟨t, ?_⟩, ⟨rfl, rfl⟩, st', fun b hb => (hf b hb).1⟩⟩
    rw [Int.mul_one]
  done := by
    intro X hP hw hK hc i pins s σ H E I hf st hg
    subst hP hw hK
    obtain ⟨f0, f1, f2, f3, f4, f5⟩ := hf it (by simp)
    exact wpAny_pyNext_range_end (I.ok.hd hc) st (by have : n ≤ i := hg; omega) fun h' eb => ⟨rfl, I.turned (t' := s.toks) (fun b o hb e => eb b o hb e) f0 f1 f3 f4 f5⟩
  self := fun _ _ _ _ _ st h => wpAny_pyIter_rangeiter st h
end L2
namespace L2
open PySem PySem.Spec PyProof.Rows
section
variable {X : Cx} {tg : Expr}
theorem range_it {pins : List (Addr × Obj)} {σ : St} {H : Hp} {s : Shared} {R : It → Hp → Prop} {E : Value → Shared → Prop} {lo hi : Int} {t u v : Tok} {tk : Nat} (I : Inv X pins σ H s) (h1 : -(2 ^ 62) ≤ lo) (h2 : lo < 2 ^ 62) (h3 : -(2 ^ 62) ≤ hi) (h4 : hi < 2 ^ 62)
    (q : R (Itr lo (hi - lo).toNat) H) : wpAny (model X.prog X.w) X.A (pyIter (.ref s.heap.objs.size)) (PIE X pins σ tg R) E { s with heap := s.heap.push { cls := .type "range", data := .fields #[.int lo t, .int hi u, .int 1 v] }, toks := tk } := by
  refine wpAny_pyIter_range (IsRange.new ..) (small_one h1 h2 h3 h4) ?_
  have I1 : Inv X pins σ H { s with heap := s.heap.push { cls := .type "range", data := .fields #[.int lo t, .int hi u, .int 1 v] }, toks := tk } := I.kept fun b o e => Heap.get?_push_of_some _ e
  refine ⟨(s.heap.push { cls := .type "range", data := .fields #[.int lo t, .int hi u, .int 1 v] }).objs.size, [(s.heap.push { cls := .type "range", data := .fields #[.int lo t, .int hi u, .int 1 v] }).objs.size], _, _, H, rfl,
    I1.kept (t' := tk) fun b o e => Heap.get?_push_of_some _ e, turn_range _ lo (hi - lo).toNat, ?_, fun b hb => ?_, q⟩
  · have e1 : lo + ((0 : Nat) : Int) * 1 = lo := by simp
    have e2 : (((hi - lo).toNat : Nat) : Int) - ((0 : Nat) : Int) = Builtin.Range.rangeSize lo hi 1 := by rw [rangeSize_one]; split <;> omega
    show IsRangeIter _ _ (lo + ((0 : Nat) : Int) * 1) ((((hi - lo).toNat : Nat) : Int) - ((0 : Nat) : Int)) 1
    rw [e1, e2]
    exact Heap.get?_push_size _ rfl
  · have e : b = (s.heap.push { cls := .type "range", data := .fields #[.int lo t, .int hi u, .int 1 v] }).objs.size := by simpa using hb
    subst e
    exact I1.fpOk (Nat.le_refl _) (I1.hok.fresh (Nat.le_refl _))
noncomputable def iRng1 (ta : TA) : TI := fun σ H R => ta σ H fun vs H1 => ∃ j : Int, vs = [.int j] ∧ -(2 ^ 62) ≤ j ∧ j < 2 ^ 62 ∧ R (Itr 0 j.toNat) H1
theorem pi_range1 {a : Expr} {ta : TA} {p pos : Pos} (hg : Gl X "range") (hm : X.mg "range" = none) (ha : PA X [a] ta) (hs : starEach [a] X.env = [(false, eval a X.env)] := by rfl) : PI X tg (.Call (.Name "range" p) [a] [] pos) (iRng1 ta) := by
  intro pins s σ H R I h
  refine Call_ (ld_blt I hg hm boot_range (PyProof.Rows.callWith_type1 (thn (ha pos pins s σ H _ I h) fun us s1 ⟨vs, H1, I1, r1, q1⟩ => ?_) hs rfl))
  obtain ⟨j, e, q1, q2, q⟩ := q1
  subst e
  cases r1 with
  | cons r rr =>
    cases rr
    obtain ⟨t, rfl⟩ := r
    exact call_range_1 (range_it I1 (by omega) (by omega) q1 q2 (by simpa using q))
noncomputable def tFor (wi : TI) (g : TG) (tb : TS) : TS := fun D σ H => wi σ H fun J H1 => ∃ W : Nat → Nat → St → Hp → Prop, (∃ m, W 0 m σ H1) ∧ ∀ i m σ H, W i m σ H →
  (J.stop i H ∧ D.nx σ H) ∨ (J.go i H ∧ ∃ N : St → Hp → Prop, (∀ σ' H', N σ' H' → ∃ m', m' < m ∧ W (i + 1) m' σ' H') ∧ ∀ x H', J.yld i H x H' → g x σ H' fun σ2 H2 => tb { D with nx := N, ct := N, bk := D.nx } σ2 H2)
noncomputable def pinsAt (fp : List Addr) (h : Heap) : List (Addr × Obj) := fp.filterMap fun b => (h.get? b).map fun o => (b, o)
theorem mem_pinsAt {fp : List Addr} {h : Heap} {b : Addr} {o : Obj} (hb : b ∈ fp) (e : h.get? b = some o) : (b, o) ∈ pinsAt fp h := List.mem_filterMap.mpr ⟨b, hb, by rw [e]; rfl⟩
theorem of_pinsAt {fp : List Addr} {h : Heap} {p : Addr × Obj} (hp : p ∈ pinsAt fp h) : p.1 ∈ fp ∧ h.get? p.1 = some p.2 := by
  obtain ⟨b, hb, e⟩ := List.mem_filterMap.mp hp
  cases q : h.get? b with
  | none => rw [q] at e; cases e
  | some o =>
    rw [q] at e
    have e' : (b, o) = p := Option.some.inj e
    subst e'
    exact ⟨hb, q⟩
theorem Inv.pinned {pins : List (Addr × Obj)} {σ : St} {H : Hp} {s : Shared} {fp : List Addr} (I : Inv X pins σ H s) (hf : ∀ b ∈ fp, FpOk X pins H b) (ho : ∀ b ∈ fp, ∃ o, s.heap.get? b = some o ∧ ∀ v, o.data ≠ .cell v) : Inv X (pins ++ pinsAt fp s.heap) σ H s :=
  I.pins_of fun p hp => (List.mem_append.mp hp).elim (fun z => I.pin p (List.mem_append_right _ z)) fun z => by
    obtain ⟨hb, e⟩ := of_pinsAt z
    obtain ⟨f0, f1, f2, _⟩ := hf p.1 hb
    obtain ⟨o, e', d⟩ := ho p.1 hb
    rw [e] at e'; cases e'
    exact ⟨e, f0, f1, f2, d⟩
theorem Inv.unpinned {pins pl : List (Addr × Obj)} {σ : St} {H : Hp} {s : Shared} (I : Inv X (pins ++ pl) σ H s) : Inv X pins σ H s := I.pins_of fun p hp => I.pin p (List.mem_append_right _ (List.mem_append_left _ hp))
theorem ps_for {iter : Expr} {body : List Stmt} {wi : TI} {g : TG} {tb : TS} {pos : Pos} (hp : PassesOwn (model X.prog X.w) X.A X.env X.xe) (hc : X.calm = true) (hi : PI X tg iter wi) (hg : PG X tg g) (hb : PSs X body tb)
    (hs : ∀ x, foldedSetIterable iter X.env x = pure x := by intro _; rfl) : PS X (.For tg iter body [] pos) (tFor wi g tb) := by
  intro pins s σ H D I h
  refine wpAny_For (thn (hi pins s σ H _ I h) fun v s1 h1 => thn h1 fun itv s2 h2 => ?_) hs
  obtain ⟨it, fp, tn, J, H2, e, I2, T, st2, f2, W, ⟨m0, w0⟩, turn⟩ := h2
  subst e
  -- what stays true of the iterator's objects through the loop
  have stat : ∀ {H' : Hp}, (∀ b ∈ fp, H' b = none) → ∀ b ∈ fp, FpOk X pins H' b := fun hn b hb => ⟨hn b hb, (f2 b hb).2⟩
  refine codeAny_forLoop_any (fun n s' => ∃ i σ' H', Inv X pins σ' H' s' ∧ tn i s'.heap ∧ (∀ b ∈ fp, H' b = none) ∧ W i n σ' H') ?_ m0 ⟨0, σ, H2, I2, st2, fun b hb => (f2 b hb).1, w0⟩
  rintro n s3 ⟨i, σ3, H3, I3, st3, fr3, w3⟩
  rcases turn i n σ3 H3 w3 with ⟨stop, qn⟩ | ⟨go, N, hN, step⟩
  · refine wpAny_passesOwn hp (thn (T.done X rfl rfl rfl hc i pins s3 σ3 H3 X.xe I3 (stat fr3) st3 stop) fun r s4 ⟨hr, I4⟩ => ?_)
    subst hr
    exact wpAny_execs_nil ⟨σ3, H3, I4, qn⟩
  · refine wpAny_passesOwn hp (thn (T.item X rfl rfl rfl hc i pins s3 σ3 H3 X.xe I3 (stat fr3) st3 go) fun r s4 ⟨u, hr, h4⟩ => ?_)
    subst hr
    refine wpAny_passesOwn hp (thn h4 fun _ s5 ⟨x, H5, I5, r5, y5, st5, fr5⟩ => ?_)
    have I5' := I5.pinned (stat fr5) (T.obj _ _ st5)
    refine wpAny_passesOwn hp (thn (hg _ s5 σ3 H5 x u _ I5' r5 (step x H5 y5)) fun _ s6 ⟨σ6, H6, I6, q6⟩ => ?_)
    refine wpAny_passesOwn hp (thn (hb _ s6 σ6 H6 _ I6 q6) fun f s7 q7 => ?_)
    have again : ∀ {σ7 : St} {H7 : Hp}, Inv X (pins ++ pinsAt fp s5.heap) σ7 H7 s7 → N σ7 H7 → ∃ m, m < n ∧ ∃ i σ' H', Inv X pins σ' H' s7 ∧ tn i s7.heap ∧ (∀ b ∈ fp, H' b = none) ∧ W i m σ' H' := fun {σ7 H7} I7 n7 => by
      obtain ⟨m', hm, w7⟩ := hN σ7 H7 n7
      refine ⟨m', hm, i + 1, σ7, H7, I7.unpinned, T.keep _ _ _ st5 fun b hb o e => (I7.pin (b, o) (List.mem_append_right _ (List.mem_append_right _ (mem_pinsAt hb e)))).1, fun b hb => ?_, w7⟩
      obtain ⟨o, e, d⟩ := T.obj _ _ st5 b hb
      exact (I7.pin (b, o) (List.mem_append_right _ (List.mem_append_right _ (mem_pinsAt hb e)))).2.1
    cases f with
    | next => obtain ⟨σ7, H7, I7, n7⟩ := q7; exact again I7 n7
    | cont => obtain ⟨σ7, H7, I7, n7⟩ := q7; exact again I7 n7
    | brk => obtain ⟨σ7, H7, I7, q7⟩ := q7; exact ⟨σ7, H7, I7.unpinned, q7⟩
    | ret v => obtain ⟨x7, σ7, H7, I7, r7, q7⟩ := q7; exact ⟨x7, σ7, H7, I7.unpinned, r7, q7⟩
end
end L2
namespace L2
open PySem PySem.Spec PyProof.Rows
noncomputable abbrev R2 := V → V → Hp → VK → Prop
noncomputable def OpR (X : Cx) (f : Value → Value → Sem Value) (r : R2) : Prop :=
  ∀ (pins : List (Addr × Obj)) (s : Shared) (σ : St) (H : Hp) (x y : V) (v u : Value) (Q : VK), Inv X pins σ H s → RelV x v → RelV y u → r x y H Q →
    wpAny (model X.prog X.w) X.A (f v u) (EP X pins σ Q) X.xe s
noncomputable def CallR (X : Cx) (f : Value) (r : List V → Hp → VK → Prop) : Prop :=
  ∀ (pins : List (Addr × Obj)) (s : Shared) (σ : St) (H : Hp) (xs : List V) (us : List Value) (Q : VK), Inv X pins σ H s → Vals xs us → r xs H Q →
    wpAny (model X.prog X.w) X.A (call f us) (EP X pins σ Q) X.xe s
noncomputable def tOp (r : R2) (ta tb : TE) : TE := fun σ H Q => ta σ H fun x H1 => tb σ H1 fun y H2 => r x y H2 Q
noncomputable def rI (C : Int → Int → Prop) (g : Int → Int → V) : R2 := fun x y H Q => ∃ i j, x = .int i ∧ y = .int j ∧ C i j ∧ Q (g i j) H
noncomputable def rI0 (g : Int → Int → V) : R2 := fun x y H Q => ∃ i j, x = .int i ∧ y = .int j ∧ Q (g i j) H
section
variable {X : Cx} {a b c : Expr} {ta tb tc : TE} {pos : Pos}
theorem binT (ha : PE X a ta) (hb : PE X b tb) {pins : List (Addr × Obj)} {s : Shared} {σ : St} {H : Hp} {R : V → V → Hp → Prop} (I : Inv X pins σ H s)
    (h : ta σ H fun x H1 => tb σ H1 fun y H2 => R x y H2) {Q : Value → Shared → Prop} {f : Value → Value → Sem Value}
    (hf : ∀ v u s2 x y H2, Inv X pins σ H2 s2 → RelV x v → RelV y u → R x y H2 → wpAny (model X.prog X.w) X.A (f v u) Q X.xe s2) :
    wpAny (model X.prog X.w) X.A (eval a X.env) (fun v s₁ => wpAny (model X.prog X.w) X.A (eval b X.env) (fun u s₂ => wpAny (model X.prog X.w) X.A (f v u) Q X.xe s₂) X.xe s₁) X.xe s := by
  refine thn (ha pins s σ H _ I h) fun v s1 ⟨x, H1, I1, r1, q1⟩ => ?_
  refine thn (hb pins s1 σ H1 _ I1 q1) fun u s2 ⟨y, H2, I2, r2, q2⟩ => ?_
  exact hf v u s2 x y H2 I2 r1 r2 q2
theorem pe_op {op : Operator} {r : R2} (ho : OpR X (binaryOp op) r) (ha : PE X a ta) (hb : PE X b tb) : PE X (.BinOp a op b pos) (tOp r ta tb) := by
  intro pins s σ H Q I h
  exact wpAny_BinOp (binT ha hb I h fun v u s2 x y H2 I2 rx ry q => ho pins s2 σ H2 x y v u Q I2 rx ry q)
theorem opI {f : Value → Value → Sem Value} {C : Int → Int → Prop} {g : Int → Int → Int}
    (rule : ∀ (i j : Int) (t u : Tok) (s : Shared) (Q : Value → Shared → Prop) (E : Value → Shared → Prop), C i j → Q (.int (g i j) s.toks) { s with toks := s.toks + 1 } → wpAny (model X.prog X.w) X.A (f (.int i t) (.int j u)) Q E s) :
    OpR X f (rI C fun i j => .int (g i j)) := by
  intro pins s σ H x y v u Q I rx ry h
  obtain ⟨i, j, rfl, rfl, hc, q⟩ := h
  obtain ⟨t, rfl⟩ := rx
  obtain ⟨t', rfl⟩ := ry
  exact rule i j t t' s _ _ hc ⟨.int (g i j), H, I.tok _, ⟨_, rfl⟩, q⟩
theorem opI0 {f : Value → Value → Sem Value} {g : Int → Int → Int}
    (rule : ∀ (i j : Int) (t u : Tok) (s : Shared) (Q : Value → Shared → Prop) (E : Value → Shared → Prop), Q (.int (g i j) s.toks) { s with toks := s.toks + 1 } → wpAny (model X.prog X.w) X.A (f (.int i t) (.int j u)) Q E s) :
    OpR X f (rI0 fun i j => .int (g i j)) := by
  intro pins s σ H x y v u Q I rx ry h
  obtain ⟨i, j, rfl, rfl, q⟩ := h
  obtain ⟨t, rfl⟩ := rx
  obtain ⟨t', rfl⟩ := ry
  exact rule i j t t' s _ _ ⟨.int (g i j), H, I.tok _, ⟨_, rfl⟩, q⟩
theorem opB0 {f : Value → Value → Sem Value} {g : Int → Int → Bool}
    (rule : ∀ (i j : Int) (t u : Tok) (s : Shared) (Q : Value → Shared → Prop) (E : Value → Shared → Prop), Q (.bool (g i j)) s → wpAny (model X.prog X.w) X.A (f (.int i t) (.int j u)) Q E s) :
    OpR X f (rI0 fun i j => .bl (g i j)) := by
  intro pins s σ H x y v u Q I rx ry h
  obtain ⟨i, j, rfl, rfl, q⟩ := h
  obtain ⟨t, rfl⟩ := rx
  obtain ⟨t', rfl⟩ := ry
  exact rule i j t t' s _ _ ⟨.bl (g i j), H, I, rfl, q⟩
noncomputable def CPow (i j : Int) : Prop := 0 ≤ j ∧ j ≤ 1000000 ∧ i.natAbs < 2 ^ 64
noncomputable def CMul (i j : Int) : Prop := (-(2 ^ 64) < i ∧ i < 2 ^ 64) ∨ (-(2 ^ 64) < j ∧ j < 2 ^ 64)
theorem CMul.ok {i j : Int} (h : CMul i j) : IntMulOk i j := by
  rcases h with ⟨h1, h2⟩ | ⟨h1, h2⟩
  · exact .of_left (intBits_le_64 h1 h2)
  · exact .of_right (intBits_le_64 h1 h2)
theorem op_add : OpR X (binaryOp .Add) (rI0 fun i j => .int (i + j)) := opI0 fun _ _ _ _ _ _ _ q => add_int q
theorem op_sub : OpR X (binaryOp .Sub) (rI0 fun i j => .int (i - j)) := opI0 fun _ _ _ _ _ _ _ q => sub_int q
theorem op_modN : OpR X (binaryOp .Mod) (rI (fun _ j => j ≠ 0) fun i j => .int (i.fmod j)) := opI fun _ _ _ _ _ _ _ hc q => mod_int' hc q
theorem op_pow : OpR X (binaryOp .Pow) (rI CPow fun i j => .int (i ^ j.toNat)) := opI fun _ _ _ _ _ _ _ hc q => pow_int_small hc.1 hc.2.1 hc.2.2 q
end
section
variable {X : Cx} {a b c : Expr} {ta tb tc : TE} {pos : Pos}
theorem fin_bl {pins : List (Addr × Obj)} {σ : St} {H : Hp} {s : Shared} {Q : VK} {k k' : Bool} (I : Inv X pins σ H s) (q : Q (.bl k) H) (e : k = k') : EP X pins σ Q (.bool k') s := by
  subst e
  exact ⟨.bl k, H, I, rfl, q⟩
theorem op_gt : OpR X (compareOp .Gt) (rI0 fun i j => .bl (decide (j < i))) := opB0 fun _ _ _ _ _ _ _ q => gt_int q
theorem OpR.or {f : Value → Value → Sem Value} {r r' : R2} (h : OpR X f r) (h' : OpR X f r') : OpR X f (fun x y H Q => r x y H Q ∨ r' x y H Q) := by
  intro pins s σ H x y v u Q I rx ry q
  rcases q with q | q
  · exact h pins s σ H x y v u Q I rx ry q
  · exact h' pins s σ H x y v u Q I rx ry q
theorem nomark (b : Expr) {op : CmpOp} (h : op ≠ .In := by decide) (h2 : op ≠ .NotIn := by decide) : behindInMarks op b = false := by
  have e1 : (op == CmpOp.In) = false := by cases op <;> first | rfl | exact absurd rfl h
  have e2 : (op == CmpOp.NotIn) = false := by cases op <;> first | rfl | exact absurd rfl h2
  cases b <;> simp [behindInMarks, e1, e2]
theorem pe_cmpR {op : CmpOp} {r : R2} (ho : OpR X (compareOp op) r) (ha : PE X a ta) (hb : PE X b tb) (hm : behindInMarks op b = false) : PE X (.Compare a [op] [b] pos) (tOp r ta tb) := by
  intro pins s σ H Q I h
  exact wpAny_Compare1 (binT ha hb I h fun v u s2 x y H2 I2 rx ry q => ho pins s2 σ H2 x y v u Q I2 rx ry q) hm
noncomputable def tTest (t : TE) : TT := fun σ H Q => t σ H fun x H' => ∃ k, x = .bl k ∧ Q k H'
theorem pt_cmpR {op : CmpOp} {r : R2} (ho : OpR X (compareOp op) r) (ha : PE X a ta) (hb : PE X b tb) (hm : behindInMarks op b = false) : PT X (.Compare a [op] [b] pos) (tTest (tOp r ta tb)) := by
  intro pins s σ H Q I h
  refine wpAny_isTrue_Compare1 (thn (ha pins s σ H _ I h) fun v s1 ⟨x, H1, I1, r1, q1⟩ => thn (hb pins s1 σ H1 _ I1 q1) fun u s2 ⟨y, H2, I2, r2, q2⟩ =>
    thn (ho pins s2 σ H2 x y v u _ I2 r1 r2 q2) fun c s3 ⟨z, H3, I3, r3, k, e, q3⟩ => ?_) hm
  subst e
  cases r3
  exact wpAny_truthy_bool ⟨H3, I3, q3⟩
theorem line63 : (sizeLine : Nat) < 2 ^ 63 := by rw [sizeLine_eq]; decide
theorem op_add_str : OpR X (binaryOp .Add) (fun x y H Q => ∃ i j, x = .str i ∧ y = .str j ∧ i.length + j.length ≤ sizeLine ∧ Q (.str (i ++ j)) H) := by
  intro pins s σ H x y v u Q I rx ry h
  obtain ⟨i, j, rfl, rfl, hz, q⟩ := h
  obtain ⟨t, rfl⟩ := rx
  obtain ⟨t', rfl⟩ := ry
  exact add_str (fun t' tk => ⟨.str (i ++ j), H, I.tok _, ⟨_, rfl⟩, q⟩) hz
theorem vals1 {x : V} {us : List Value} (r : Vals [x] us) : ∃ u, us = [u] ∧ RelV x u := by
  cases r with
  | cons r1 r2 => cases r2; exact ⟨_, rfl, r1⟩
theorem vals2 {x y : V} {us : List Value} (r : Vals [x, y] us) : ∃ u w', us = [u, w'] ∧ RelV x u ∧ RelV y w' := by
  cases r with
  | cons r1 r2 =>
    cases r2 with
    | cons r3 r4 => cases r4; exact ⟨_, _, rfl, r1, r3⟩
theorem call_abs : CallR X (.builtin "abs") (fun xs H Q => ∃ i, xs = [.int i] ∧ Q (.int (if i < 0 then -i else i)) H) := by
  intro pins s σ H xs us Q I r h
  obtain ⟨i, rfl, q⟩ := h
  obtain ⟨u, rfl, t, rfl⟩ := vals1 r
  exact call_abs_int fun u tk => ⟨.int (if i < 0 then -i else i), H, I.tok _, ⟨_, rfl⟩, q⟩
theorem call_min2 (hc : X.calm = true) : CallR X (.builtin "min") (fun xs H Q => ∃ i j, xs = [.int i, .int j] ∧ Q (.int (if j < i then j else i)) H) := by
  intro pins s σ H xs us Q I r h
  obtain ⟨i, j, rfl, q⟩ := h
  obtain ⟨u, w', rfl, ⟨t, rfl⟩, ⟨t', rfl⟩⟩ := vals2 r
  refine min_two_ints (I.ok.hd hc) fun h' tk k => ⟨_, H, I.kept k, ?_, q⟩
  by_cases hj : j < i
  · rw [if_pos hj, if_pos hj]; exact ⟨_, rfl⟩
  · rw [if_neg hj, if_neg hj]; exact ⟨_, rfl⟩
end
end L2
namespace L2
open PySem PySem.Spec PyProof.Rows
structure ObjM (h : Heap) (x dx C : Addr) (mA : Str → Option Value) : Prop where
  obj : h.get? x = some (PySem.W.instObj C dx)
  ns : h.Ns1 dx mA
  ne : dx ≠ x
section
variable {prog : Program} {w : World} {A : Around} {E : Value → Shared → Prop} {s : Shared} {K : PySem.W.Frag} {x dx C f : Addr} {mA : Str → Option Value} {name : Str} {v : Value}
end
section
variable {P : Program} {w : World} {H H' : Hp} {h h' : Heap} {a C dx : Addr} {fs fs' : List (Str × V)}
end
structure Cls (K : PySem.W.Frag) (C : Addr) : Prop where
  pg : PySem.W.plainGet K C Str.empty = true
  hd : PySem.W.hasDictIn K C = true
  po : PySem.W.plainOver K C = true
  sa : PySem.W.findIn K (.ref C) "__setattr__" = some (some (.builtin "object.__setattr__"))
theorem Cls.get {K : PySem.W.Frag} {C : Addr} (c : Cls K C) (f : Str) : PySem.W.plainGet K C f = true := c.pg
structure Con (K : PySem.W.Frag) (C : Addr) (f : Str) (v : V) (u : Value) : Prop where
  at_ : PySem.W.findIn K (.ref C) f = some (some u)
  rel : RelV v u
  get : PySem.W.specialIn K u "__get__" = some none
  cp : PySem.W.copiedNames.contains f = false
structure Meth (K : PySem.W.Frag) (C : Addr) (m : Str) (f : Addr) : Prop where
  at_ : PySem.W.findIn K (.ref C) m = some (some (.ref f))
  fn : PySem.W.isFn K (.ref f) = true
  kp : PySem.W.keepIn K (.ref f) = true
section
variable {X : Cx} {pins : List (Addr × Obj)} {σ : St} {H : Hp} {s : Shared} {a C dx : Addr} {fs : List (Str × V)} {f : Str} {v : V} {A : Around} {E : Value → Shared → Prop}
theorem Inv.made (I : Inv X pins σ H s) : Inv X pins σ (upd (upd H s.heap.objs.size (.own (s.heap.objs.size + 1))) (s.heap.objs.size + 1) (.ins C s.heap.objs.size []))
    { s with heap := (s.heap.push PySem.W.emptyDict).push (PySem.W.instObj C s.heap.objs.size) } := by
  have e1 : (s.heap.push PySem.W.emptyDict).get? s.heap.objs.size = some PySem.W.emptyDict := Heap.get?_push_size s.heap rfl
  have e2 : ((s.heap.push PySem.W.emptyDict).push (PySem.W.instObj C s.heap.objs.size)).get? (s.heap.objs.size + 1) = some (PySem.W.instObj C s.heap.objs.size) := by
    have := Heap.get?_push_size (s.heap.push PySem.W.emptyDict) (o := PySem.W.instObj C s.heap.objs.size) rfl
    rwa [Heap.size_push] at this
  have e3 : (s.heap.push PySem.W.emptyDict).Ns s.heap.objs.size (fun _ => none) := ⟨PySem.W.emptyDict, #[], _, e1, rfl, (fun e he => absurd he (by simp)), fun _ => rfl⟩
  have I1 := I.laid (a := s.heap.objs.size) (o := .own (s.heap.objs.size + 1)) (h' := s.heap.push PySem.W.emptyDict) (t' := s.toks) (fun b u q => Heap.get?_push_of_some _ q) (Nat.le_refl _) ⟨_, e1⟩
  refine I1.laid (a := s.heap.objs.size + 1) (o := .ins C s.heap.objs.size []) (t' := s.toks) (fun b u q => Heap.get?_push_of_some _ q) (Nat.le_of_eq (Heap.size_push _ _)) ?_
  have ne : s.heap.objs.size ≠ s.heap.objs.size + 1 := Nat.ne_of_lt (Nat.lt_succ_self _)
  refine ⟨by rw [upd_ne ne, upd_same], Nat.zero_le _, ne, e2, fun _ => none, (Heap.Ns1.of_empty e3).at fun o q => Heap.get?_push_of_some _ q, fun _ => True.intro, fun y hy => absurd rfl hy⟩
end
section
variable {X : Cx} {o e value : Expr} {f : Str} {pos pos' tpos : Pos} {ta tv : TE}
end
section
variable {X : Cx} {pins : List (Addr × Obj)} {σ : St} {H : Hp} {s : Shared} {A : Around} {E : Value → Shared → Prop} {Q : Value → Shared → Prop} {c : Value} {b : Bool}
inductive TyOf (K : PySem.W.Frag) (H : Hp) : V → Value → Prop where
  | non : TyOf K H .non (.type "NoneType")
  | bl (x : Bool) : TyOf K H (.bl x) (.type "bool")
  | int (i : Int) : TyOf K H (.int i) (.type "int")
  | str (x : Str) : TyOf K H (.str x) (.type "str")
  | flt (x : UInt64) : TyOf K H (.flt x) (.type "float")
  | lst {a : Addr} {xs : List V} (e : H a = some (.lst xs)) : TyOf K H (.ref a) (.type "list")
  | frz {a : Addr} {o : Obj} {xs : List V} (e : H a = some (.frz o (.lst xs))) : TyOf K H (.ref a) (.type "list")
  | tup {a : Addr} {xs : List V} (e : H a = some (.tup xs)) : TyOf K H (.ref a) (.type "tuple")
  | dK {a : Addr} {kvs : List (Key × V)} (e : H a = some (.dK kvs)) : TyOf K H (.ref a) (.type "dict")
  | dT {a : Addr} {kvs : List (List Key × V)} (e : H a = some (.dT kvs)) : TyOf K H (.ref a) (.type "dict")
  | ins {a C dx : Addr} {fs : List (Str × V)} (e : H a = some (.ins C dx fs)) (cl : Cls K C) (ha : PySem.W.findIn K (.ref C) "__class__" = some (some (.builtin "object.__class__")))
      (hn : PySem.W.specialIn K (.builtin "object.__class__") "__get__" = some (some (.builtin "getset_descriptor.__get__"))) (htk : PySem.W.takesIn K (.builtin "object.__class__") = some true)
      (hm : PySem.W.mroIn K C (.type "object") = some true) : TyOf K H (.ref a) (.ref C)
end
end L2
namespace L2
open PySem PySem.Spec PyProof.Rows
structure Room (k : Nat) (A : Around) : Prop where
  hd : A.handled = none
  dp : A.depth + 3 * k + 5 < recursionLimit
  un : A.units + 16 * k + 200 < cLine
theorem Room.mono {j k : Nat} {A : Around} (r : Room k A) (h : j ≤ k) : Room j A := ⟨r.hd, by have := r.dp; omega, by have := r.un; omega⟩
theorem Room.deeper {k : Nat} {A : Around} (r : Room (k + 1) A) (env : Env) : Room k (A.deeper env) :=
  ⟨r.hd, by have := r.dp; show A.depth + 1 + 3 * k + 5 < _; omega, by have := r.un; show A.units + 3 + 16 * k + 200 < _; omega⟩
theorem Room.depth {k : Nat} {A : Around} (r : Room k A) : A.depth < recursionLimit := by have := r.dp; omega
theorem Room.units {k : Nat} {A : Around} (r : Room k A) : A.units + 64 < cLine := by have := r.un; omega
noncomputable def tNil : TA := fun _ H Q => Q [] H
noncomputable def tCons (ta : TE) (tr : TA) : TA := fun σ H Q => ta σ H fun x H1 => tr σ H1 fun xs H2 => Q (x :: xs) H2
section
variable {X : Cx} {e : Expr} {es : List Expr} {te : TE} {t : TA} {pos : Pos}
theorem pa_nil : PA X [] tNil := fun _ _ _ _ H Q I h => Calls.spliced_nil ⟨[], H, I, .nil, h⟩
theorem pa_cons (ha : PE X e te) (hr : PA X es t) (hs : starEach (e :: es) X.env = (false, eval e X.env) :: starEach es X.env := by rfl) : PA X (e :: es) (tCons te t) := by
  intro pos pins s σ H Q I h
  rw [hs]
  show wpAny _ _ (spliced ((false, eval e X.env) :: backTo pos (starEach es X.env))) _ _ s
  refine Calls.spliced_cons (thn (ha pins s σ H _ I h) fun u s1 ⟨x, H1, I1, r1, q1⟩ => ?_)
  exact thn (hr pos pins s1 σ H1 _ I1 q1) fun us s2 ⟨xs, H2, I2, r2, q2⟩ => ⟨x :: xs, H2, I2, .cons r1 r2, q2⟩
noncomputable def tTup (t : TA) : TE := fun σ H Q => t σ H fun xs H1 => xs.length ≤ sizeLine ∧ ∀ p, H1 p = none → Q (.ref p) (upd H1 p (.tup xs))
noncomputable def tLst (t : TA) : TE := fun σ H Q => t σ H fun xs H1 => xs.length ≤ sizeLine ∧ ∀ p, H1 p = none → Q (.ref p) (upd H1 p (.lst xs))
theorem pe_tup {x1} (h : PA X es t) : PE X (.Tuple es x1 pos) (tTup t) := by
  intro pins s σ H Q I hq
  refine wpAny_Tuple_spliced (thn (h pos pins s σ H _ I hq) fun us s1 ⟨xs, H1, I1, r, z, q⟩ => ⟨by rw [← r.length]; exact z, ?_⟩)
  have hf : H1 s1.heap.objs.size = none := I1.hok.fresh (Nat.le_refl _)
  refine ⟨.ref s1.heap.objs.size, upd H1 s1.heap.objs.size (.tup xs), I1.laid (t' := s1.toks) (fun b u e => Heap.get?_push_of_some _ e) (Nat.le_refl _) ?_, rfl, q _ hf⟩
  exact ⟨z, us, r, ⟨_, Heap.get?_push_size _ rfl, rfl, _, rfl⟩⟩
theorem pe_lst (h : PA X es t) : PE X (.List es pos) (tLst t) := by
  intro pins s σ H Q I hq
  refine wpAny_List_spliced (thn (h pos pins s σ H _ I hq) fun us s1 ⟨xs, H1, I1, r, z, q⟩ => ⟨by rw [← r.length]; exact z, ?_⟩)
  have hf : H1 s1.heap.objs.size = none := I1.hok.fresh (Nat.le_refl _)
  refine ⟨.ref s1.heap.objs.size, upd H1 s1.heap.objs.size (.lst xs), I1.laid (t' := s1.toks) (fun b u e => Heap.get?_push_of_some _ e) (Nat.le_refl _) ?_, rfl, q _ hf⟩
  exact ⟨z, us, 0, r, Heap.get?_push_size _ rfl⟩
end
noncomputable abbrev Sp := List V → Hp → VK → XK → Prop
noncomputable abbrev CXT := List Env → Hp → Shared → XK → Value → Shared → Prop
structure Env0 (P : Program) (w : World) (K : PySem.W.Frag) (mg : Str → Option Value) (base : Heap) (A : Around) (outer : List Env) (s : Shared) (H : Hp) : Prop where
  frames : A.frames = some outer
  mod : Mod K mg base
  bs : ∀ b o, base.get? b = some o → s.heap.get? b = some o ∧ H b = none
  bsz : base.objs.size ≤ s.heap.objs.size
  funs : s.heap.FunFrames base outer
  frf : ∀ b ∈ frs outer, H b = none
  hok : HOk P w H s.heap
  bare : AllBare s.gens
noncomputable def CE (outer : List Env) (P : Program) (w : World) (H : Hp) (s : Shared) (Q : VK) (u : Value) (s' : Shared) : Prop :=
  ∃ v H', s'.os = s.os ∧ AllBare s'.gens ∧ Un (frs outer) [] H H' s.heap s'.heap ∧ HOk P w H' s'.heap ∧ RelV v u ∧ Q v H'
noncomputable def CR (CX : CXT) (outer : List Env) (P : Program) (w : World) (H : Hp) (s : Shared) (Q : VK) (E : XK) (r : Result) (s' : Shared) : Prop :=
  match r with
  | .ok (.ret u) => CE outer P w H s Q u s'
  | .ok _ => False
  | .error e => CX outer H s E e s'
structure FnOk (P : Program) (w : World) (K : PySem.W.Frag) (mg : Str → Option Value) (base : Heap) (CX : CXT) (k : Nat) (f : Addr) (fd : FuncData) (ps : List Str) (sp : Sp) : Prop where
  len : ∀ vs H Q E, sp vs H Q E → vs.length = ps.length
  run : ∀ (A : Around) (outer : List Env) (s : Shared) (H : Hp) (args : Args) (us : List Value) (vs : List V) (Q : VK) (E : XK), Room k A → Env0 P w K mg base A outer s H → BindsTo s fd args (ps.zip us) → Vals vs us → sp vs H Q E →
    codeAny (model P w) A (.call (.ref f) args) (CR CX outer P w H s Q E) s
theorem FnOk.mono {P : Program} {w : World} {K : PySem.W.Frag} {mg : Str → Option Value} {base : Heap} {CX : CXT} {j k : Nat} {f : Addr} {fd : FuncData} {ps : List Str} {sp : Sp} (F : FnOk P w K mg base CX j f fd ps sp) (h : j ≤ k) :
    FnOk P w K mg base CX k f fd ps sp := ⟨F.len, fun A outer s H args us vs Q E hr => F.run A outer s H args us vs Q E (hr.mono h)⟩
theorem FnOk.imp {P : Program} {w : World} {K : PySem.W.Frag} {mg : Str → Option Value} {base : Heap} {CX : CXT} {k : Nat} {f : Addr} {fd : FuncData} {ps : List Str} {sp sp' : Sp} (F : FnOk P w K mg base CX k f fd ps sp)
    (h : ∀ vs H Q E, sp' vs H Q E → sp vs H Q E) : FnOk P w K mg base CX k f fd ps sp' :=
  ⟨fun vs H Q E q => F.len vs H Q E (h _ _ _ _ q), fun A outer s H args us vs Q E hr he hb hv hs => F.run A outer s H args us vs Q E hr he hb hv (h _ _ _ _ hs)⟩
section
variable {X : Cx} {pins : List (Addr × Obj)} {σ : St} {H : Hp} {s s' : Shared}
theorem Inv.env0 (I : Inv X pins σ H s) : Env0 X.prog X.w X.K X.mg X.base X.A X.stack s H :=
  ⟨I.ok.frames, I.ok.mod, I.bs, Nat.le_trans I.ok.bsz I.sz, I.stack, I.stkFree, I.hok, I.bare⟩
theorem Inv.after {Q : VK} {u : Value} (I : Inv X pins σ H s) (h : CE X.stack X.prog X.w H s Q u s') : EP X pins σ Q u s' := by
  obtain ⟨v, H', os, bare, un, hok, r, q⟩ := h
  obtain ⟨hh, g, d, t, os'⟩ := s'
  obtain rfl : os' = s.os := os
  exact ⟨v, H', I.call (h' := hh) (g' := g) (d' := d) (t' := t) (ch := []) un hok bare (fun b z => absurd z (by simp)), r, q⟩
end
noncomputable def Binds (K : PySem.W.Frag) (fd : FuncData) (ps : List Str) (ds : List Value) : Prop :=
  ∀ (s : Shared) (us : List Value), K.In s.heap → (us ++ ds).length = ps.length → BindsTo s fd ⟨us, []⟩ (ps.zip (us ++ ds))
theorem Binds.all {K : PySem.W.Frag} {fd : FuncData} {ps : List Str} (h : ∀ us : List Value, us.length = ps.length → bindArgs fd ⟨us, []⟩ = pure (ps.zip us)) : Binds K fd ps [] := fun s us _ hl => by
  rw [List.append_nil] at hl ⊢
  exact .of_eq (h us hl)
section
variable {X : Cx} {CX : CXT} {k : Nat} {f C : Addr} {fd : FuncData} {ps : List Str} {sp : Sp} {dvs : List V} {ds : List Value} {E : XK} {x m : Str} {p pos apos : Pos} {e o : Expr} {es : List Expr} {ta : TE} {t : TA}
structure Mk (K : PySem.W.Frag) (C f : Addr) : Prop where
  makes : PySem.W.makesIn K C = true
  init : PySem.W.findIn K (.ref C) "__init__" = some (some (.ref f))
  fn : PySem.W.isFn K (.ref f) = true
  kp : PySem.W.keepIn K (.ref C) = true
end
section
variable {X : Cx} {CX : CXT} {k : Nat} {f C : Addr} {fd : FuncData} {ps ks : List Str} {sp : Sp} {E : XK} {x m : Str} {p pos apos kpos : Pos} {e o : Expr} {es : List Expr} {kws : List Keyword} {te ta : TE} {t tk : TA} {nm : Option Str}
structure KBinds (K : PySem.W.Frag) (fd : FuncData) (ps ks : List Str) (g : List Value → List Value → List Value) (gV : List V → List V → List V) : Prop where
  to : ∀ (s : Shared) (us ws : List Value), K.In s.heap → (g us ws).length = ps.length → BindsTo s fd ⟨us, ks.zip ws⟩ (ps.zip (g us ws))
  rel : ∀ {vs : List V} {us : List Value} {zs : List V} {ws : List Value}, Vals vs us → Vals zs ws → Vals (gV vs zs) (g us ws)
variable {g : List Value → List Value → List Value} {gV : List V → List V → List V}
end
structure FnScope (N P : List Str) (sc : Scope) : Prop where
  kind : sc.kind = .function
  co : sc.isCoroutine = false
  gen : sc.isGenerator = false
  nd : N.Nodup
  pre : N.take P.length = P
  par : ∀ x ∈ P, sc.names.lookup x = some .local ∨ sc.names.lookup x = some .cell
  nofree : ∀ y ∈ sc.names, y.2 ≠ .free
theorem bindL_out {kindOf : Str → Option NameKind} {x : Str} : ∀ {binds : List (Str × Value)} {m : Str → Option Value}, (∀ v, (x, v) ∉ binds) → bindL kindOf binds m x = m x
  | [], _, _ => rfl
  | (n, v) :: r, m, h => by
    unfold bindL
    rw [bindL_out fun w hw => h w (List.mem_cons_of_mem _ hw)]
    split
    · have : x ≠ n := by rintro rfl; exact h v List.mem_cons_self
      simp [this]
    · rfl
theorem bindC_out {kindOf : Str → Option NameKind} {x : Str} : ∀ {binds : List (Str × Value)} {m : Str → Option Value}, (∀ v, (x, v) ∉ binds) → bindC kindOf binds m x = m x
  | [], _, _ => rfl
  | (n, v) :: r, m, h => by
    unfold bindC
    rw [bindC_out fun w hw => h w (List.mem_cons_of_mem _ hw)]
    split
    · rfl
    · have : x ≠ n := by rintro rfl; exact h v List.mem_cons_self
      simp [this]
theorem bindL_get {kindOf : Str → Option NameKind} {x : Str} {v : Value} : ∀ {P : List Str} {vs : List Value} {i : Nat} {m : Str → Option Value}, P.Nodup → P[i]? = some x → vs[i]? = some v → kindOf x = some .local →
    bindL kindOf (P.zip vs) m x = some v
  | [], _, _, _, _, h, _, _ => by simp at h
  | _ :: _, [], _, _, _, _, h, _ => by simp at h
  | p :: P, w :: vs, 0, m, nd, h1, h2, hk => by
    simp at h1 h2; subst h1; subst h2
    show bindL kindOf ((p, w) :: P.zip vs) m p = _
    unfold bindL
    rw [bindL_out fun v hv => (List.nodup_cons.mp nd).1 (List.of_mem_zip hv).1, if_pos hk]
    simp
  | p :: P, w :: vs, i + 1, m, nd, h1, h2, hk => by
    show bindL kindOf ((p, w) :: P.zip vs) m x = _
    unfold bindL
    exact bindL_get (i := i) (List.nodup_cons.mp nd).2 (by simpa using h1) (by simpa using h2) hk
theorem bindC_get {kindOf : Str → Option NameKind} {x : Str} {v : Value} : ∀ {P : List Str} {vs : List Value} {i : Nat} {m : Str → Option Value}, P.Nodup → P[i]? = some x → vs[i]? = some v → kindOf x ≠ some .local →
    bindC kindOf (P.zip vs) m x = some v
  | [], _, _, _, _, h, _, _ => by simp at h
  | _ :: _, [], _, _, _, _, h, _ => by simp at h
  | p :: P, w :: vs, 0, m, nd, h1, h2, hk => by
    simp at h1 h2; subst h1; subst h2
    show bindC kindOf ((p, w) :: P.zip vs) m p = _
    unfold bindC
    rw [bindC_out fun v hv => (List.nodup_cons.mp nd).1 (List.of_mem_zip hv).1, if_neg hk]
    simp
  | p :: P, w :: vs, i + 1, m, nd, h1, h2, hk => by
    show bindC kindOf ((p, w) :: P.zip vs) m x = _
    unfold bindC
    exact bindC_get (i := i) (List.nodup_cons.mp nd).2 (by simpa using h1) (by simpa using h2) hk
noncomputable def start (N : List Str) (vs : List V) : St := vs.map some ++ List.replicate (N.length - vs.length) none
noncomputable def cxOf (CX : CXT) (P : Program) (w : World) (K : PySem.W.Frag) (mg : Str → Option Value) (base : Heap) (N : List Str) (qual : Str) (scope : Scope) (f : Addr) (cd : Value) (A : Around) (outer : List Env) (s : Shared) (H : Hp) (E : XK) : Cx where
  prog := P
  w := w
  K := K
  mg := mg
  base := base
  A := A.deeper (envOfC qual scope s.heap.objs.size f cd)
  N := N
  s₀ := s
  H₀ := H
  env := envOfC qual scope s.heap.objs.size f cd
  outer := outer
  stack := envOfC qual scope s.heap.objs.size f cd :: outer
  ex := []
  calm := true
  fn := fun _ => true
  pn := []
  xe := fun e s' => wpAny (model P w) (A.deeper (envOfC qual scope s.heap.objs.size f cd)) (leaving (envOfC qual scope s.heap.objs.size f cd) e) (fun _ s'' => CX outer H s E e s'') (fun e' s'' => CX outer H s E e' s'') s'
theorem cell_has {sc : Scope} {n : Nat} {x : Str} (h : sc.names.lookup x = some .cell) : ∃ c, (cellsFrom n sc.names []).lookup x = some c := by
  have q := PySem.W.cellsFrom_some sc.names n [] (.inl h)
  exact Option.isSome_iff_exists.mp q
theorem inv_start {CX : CXT} {P : Program} {w : World} {K : PySem.W.Frag} {mg : Str → Option Value} {base : Heap} {N ps : List Str} {qual : Str} {scope : Scope} {f : Addr} {cd : Value} {A : Around} {outer : List Env} {s s1 : Shared} {H : Hp} {E : XK} {us : List Value} {vs : List V}
    (S : FnScope N ps scope) (hd : A.handled = none) (e0 : Env0 P w K mg base A outer s H) (hl : vs.length = ps.length) (r : Vals vs us)
    (x : InCallC s s.heap.objs.size (bindL (envOfC qual scope s.heap.objs.size f cd).kindOf (ps.zip us) fun _ => none) (cellsFrom (s.heap.objs.size + 1) scope.names []) (bindC (envOfC qual scope s.heap.objs.size f cd).kindOf (ps.zip us) fun _ => none) s1) :
    Inv (cxOf CX P w K mg base N qual scope f cd A outer s H E) [] (start N vs) H s1 := by
  have hpl : ps.length ≤ N.length := by have := congrArg List.length S.pre; rw [List.length_take] at this; omega
  obtain ⟨h1, tk, rfl, hk⟩ := x.done
  have noA : ∀ b : Addr, b ∉ (cxOf CX P w K mg base N qual scope f cd A outer s H E).ex := fun b z => absurd (show b ∈ ([] : List Addr) from z) (by simp)
  refine ⟨⟨e0.mod, S.kind, rfl, rfl, Nat.le_refl _, fun y z c h1 h2 => ?_, fun y hy => ?_, fun y c _ h => ?_, fun _ => hd, Around.frames_deeper e0.frames, .inr ⟨rfl, rfl⟩, fun b z => absurd z (noA b), e0.bs, e0.bsz, fun b _ _ => noA b, fun b z => absurd z (noA b), e0.funs, e0.frf⟩,
    rfl, e0.bare, Un.kept hk, ⟨_, x.toInCall.ns, fun i y v h1 h2 h3 => ?_⟩, fun y c h => ⟨_, x.cell y c h⟩, e0.hok.fresh (Nat.le_refl _), fun y c h => ?_, fun p hp => absurd (show p ∈ ([] : List (Addr × Obj)) from hp) (by simp), e0.hok.kept hk, ?_⟩
  · exact name_of_addr x.apart (PySem.mem_of_lookup h1) (PySem.mem_of_lookup h2)
  · have hy : scope.names.lookup y = some .cell ∨ scope.names.lookup y = some .free := hy
    rcases hy with hy | hy
    · exact cell_has hy
    · exact absurd rfl (S.nofree _ (PySem.mem_of_lookup hy))
  · exact Nat.le_of_lt (x.above y c (PySem.mem_of_lookup h))
  · have hi : i < vs.length := by
      unfold start at h2
      by_cases hi : i < vs.length
      · exact hi
      · rw [List.getElem?_append_right (by simpa using hi)] at h2
        rw [List.getElem?_replicate] at h2
        split at h2 <;> cases h2
    have ha : vs[i]? = some v := by
      unfold start at h2
      rw [List.getElem?_append_left (by simpa using hi), List.getElem?_map] at h2
      cases e : vs[i]? with
      | none => rw [e] at h2; cases h2
      | some a => rw [e] at h2; cases h2; rfl
    obtain ⟨u, hu, rv⟩ := r.get ha
    have hp : ps[i]? = some y := by
      rw [← S.pre, List.getElem?_take_of_lt (by omega)]; exact h1
    have ndP : ps.Nodup := by rw [← S.pre]; exact S.nd.sublist (List.take_sublist _ _)
    refine ⟨u, rv, ?_⟩
    rcases S.par y (List.mem_of_getElem? hp) with k | k
    · exact .inl ⟨k, bindL_get ndP hp hu k⟩
    · obtain ⟨c, e⟩ := cell_has (n := s.heap.objs.size + 1) k
      refine .inr ⟨.inl k, c, e, ?_⟩
      have q := x.cell y c e
      rw [bindC_get ndP hp hu (by show scope.names.lookup y ≠ _; rw [k]; decide)] at q
      exact q
  · exact e0.hok.fresh (Nat.le_of_lt (x.above y c (PySem.mem_of_lookup h)))
  · unfold start
    show _ = N.length
    rw [List.length_append, List.length_map, List.length_replicate]
    omega
theorem fn_of {CX : CXT} {P : Program} {w : World} {K : PySem.W.Frag} {mg : Str → Option Value} {base : Heap} {k : Nat} {f : Addr} {name qual : Str} {params : Arguments} {body : List Stmt} {scope : Scope} {dV kV doc pm cdv ct oc : Value} {an od : Option Addr}
    {osl : Array (Option Value)} {N ps : List Str} {sp : Sp} (lk : K.lookup f = some ⟨oc, od, .func (PySem.W.fnOf name qual params body scope dV kV doc pm an cdv ct), osl⟩) (hcd : PySem.W.codeIn K cdv qual = true) (S : FnScope N ps scope)
    (len : ∀ vs H Q E, sp vs H Q E → vs.length = ps.length)
    (hbody : ∀ (A : Around) (outer : List Env) (s : Shared) (H : Hp) (vs : List V) (Q : VK) (E : XK), Room k (A.deeper (envOfC qual scope s.heap.objs.size f cdv)) → sp vs H Q E →
      ∃ t, PSs (cxOf CX P w K mg base N qual scope f cdv A outer s H E) body t ∧ t { nx := fun _ H' => Q .non H', rt := Q } (start N vs) H) :
    FnOk P w K mg base CX (k + 1) f (PySem.W.fnOf name qual params body scope dV kV doc pm an cdv ct) ps sp := by
  refine ⟨len, fun A outer s H args us vs Q E hr e0 hb r hsp => ?_⟩
  have hl := len _ _ _ _ hsp
  have KX : K.In s.heap := e0.mod.kin.keeps fun b o e => (e0.bs b o e).1
  have lim : s.heap.NoLimit := e0.mod.nolimit.keeps fun b o e => (e0.bs b o e).1
  have hkind : ∀ y ∈ ps.zip us, scope.names.lookup y.1 = some .local ∨ (scope.names.lookup y.1 = some .cell ∧ ((cellsFrom (s.heap.objs.size + 1) scope.names []).lookup y.1).isSome = true) := fun ⟨n, v⟩ hy => by
    rcases S.par n (List.of_mem_zip hy).1 with q | q
    · exact .inl q
    · exact .inr ⟨q, PySem.W.cellsFrom_some _ _ _ (.inl q)⟩
  refine codeAny_call_function hr.depth (KX _ _ lk) rfl S.co S.gen rfl (PySem.W.codeRec_of KX hcd) (hb _ _ _ _ ?_)
  refine wpAny_newFunctionEnv_cells S.kind hkind fun env he s1 x => ?_
  subst he
  refine ⟨lim.keeps x.toInCall.keep, codeAny_func ?_⟩
  obtain ⟨t, ht, hq⟩ := hbody A outer s H vs Q E (hr.deeper _) hsp
  have I : Inv (cxOf CX P w K mg base N qual scope f cdv A outer s H E) [] (start N vs) H s1 := inv_start S hr.hd e0 hl r x
  refine wpAny_mono (ht [] s1 (start N vs) H _ I hq) (fun fl s' hs => ?_) fun e s' hs => hs
  have fin : ∀ {σ' : St} {H' : Hp} {v : V} {u : Value}, Inv (cxOf CX P w K mg base N qual scope f cdv A outer s H E) [] σ' H' s' → RelV v u → Q v H' → CE outer P w H s Q u s' :=
    fun {σ' H' v u} J rv q => ⟨v, H', J.os, J.bare, J.base, J.hok, rv, q⟩
  cases fl with
  | ret u =>
    obtain ⟨v, σ', H', J, rv, q⟩ := hs
    exact fin J rv q
  | next =>
    obtain ⟨σ', H', J, q⟩ := hs
    exact fin (v := V.non) (u := Value.none) J rfl q
  | brk =>
    obtain ⟨_, _, _, q⟩ := hs
    exact False.elim q
  | cont =>
    obtain ⟨_, _, _, q⟩ := hs
    exact False.elim q
end L2
namespace L2
open PySem PySem.Spec PyProof.Rows
section
variable {X : Cx} {x : Str} {p pos : Pos} {e : Expr} {es : List Expr} {t : TA} {id T : String} {r : List V → Hp → VK → Prop}
noncomputable def tCB (r : List V → Hp → VK → Prop) (t : TA) : TE := fun σ H Q => t σ H fun vs H1 => r vs H1 Q
theorem pe_callB (hc : CallR X (.builtin id) r) (hg : Gl X x) (hm : X.mg x = none) (hv : bootBuiltins x = some (.builtin id)) (ha : PA X (e :: es) t) (hn : x ≠ "__name__" := by decide) (hdb : (x == ("__debug__" : Str)) = false := by decide)
    (he : starEach (e :: es) X.env = (false, eval e X.env) :: starEach es X.env := by rfl) (hpl : (backTo pos (starEach es X.env)).any (·.1) = false := by rfl) : PE X (.Call (.Name x p) (e :: es) [] pos) (tCB r t) := by
  intro pins s σ H Q I h
  refine wpAny_Call_Name_kw (ld_blt I hg hm hv ?_ hn hdb)
  exact PyProof.Rows.callWith_builtin1 (thn (ha pos pins s σ H _ I h) fun us s1 ⟨vs, H1, I1, r1, q1⟩ => hc pins s1 σ H1 vs us Q I1 r1 q1) he hpl
theorem pe_callTy (hc : CallR X (.type T) r) (hg : Gl X x) (hm : X.mg x = none) (hv : bootBuiltins x = some (.type T)) (ha : PA X (e :: es) t) (hn : x ≠ "__name__" := by decide) (hdb : (x == ("__debug__" : Str)) = false := by decide)
    (he : starEach (e :: es) X.env = (false, eval e X.env) :: starEach es X.env := by rfl) (hpl : (backTo pos (starEach es X.env)).any (·.1) = false := by rfl) : PE X (.Call (.Name x p) (e :: es) [] pos) (tCB r t) := by
  intro pins s σ H Q I h
  refine wpAny_Call_Name_kw (ld_blt I hg hm hv ?_ hn hdb)
  exact PyProof.Rows.callWith_type1 (thn (ha pos pins s σ H _ I h) fun us s1 ⟨vs, H1, I1, r1, q1⟩ => hc pins s1 σ H1 vs us Q I1 r1 q1) he hpl
end
end L2
namespace HT
open PySem PyProof.Rows
section
open PySem.SeqAt
open PySem.AutoSeq1 (wpAny_loadPart')
open PySem.MeetsSeq PySem.MeetsSeq2 PySem.MeetsSeq3
end
section
variable {prog : Program} {w : World} {A : Around} {E : Value → Shared → Prop} {s : Shared}
theorem cat_tup {t b : Addr} {vs ws : List Value} {Q : Value → Shared → Prop} (ht : IsTup s.heap t vs.toArray) (hb : IsTup s.heap b ws.toArray) (hv : vs ≠ [])
    (h1 : ws = [] → Q (.ref t) s) (h2 : ws ≠ [] → Q (.ref s.heap.objs.size) { s with heap := s.heap.push { cls := .type "tuple", data := .seq (vs ++ ws).toArray } })
    (hsz : vs.length + ws.length ≤ sizeLine) : wpAny (model prog w) A (binaryOp .Add (.ref t) (.ref b)) Q E s := by
  obtain ⟨⟨cls, dd, data, sl⟩, ho, hc, n, hd⟩ := id ht
  obtain ⟨⟨cls2, dd2, data2, sl2⟩, ho2, hc2, n2, hd2⟩ := id hb
  simp only at hc hd hc2 hd2
  subst hc hd hc2 hd2
  have e : vs.toArray ++ ws.toArray = (vs ++ ws).toArray := by simp
  by_cases hw : ws = []
  · exact concat_meets ⟨_, ho, rfl⟩ ⟨_, ho2, rfl⟩ noFill_tuple_add seq_tuple_add PySem.F.slot_tuple_add PySem.F.entry_tuple_add (PySem.F.args_tuple_add_2 _ _)
      (tuple_addW1 t b vs.toArray ws.toArray n n2 dd dd2 sl sl2 (by simpa using hv) (by simp [hw])) ⟨ho, ho2, h1 hw⟩
  · refine concat_meets ⟨_, ho, rfl⟩ ⟨_, ho2, rfl⟩ noFill_tuple_add seq_tuple_add PySem.F.slot_tuple_add PySem.F.entry_tuple_add (PySem.F.args_tuple_add_2 _ _)
      (tuple_addW2 t b vs.toArray ws.toArray n n2 dd dd2 sl sl2 (by simpa using hv) (by simpa using hw) (by rw [List.size_toArray, List.size_toArray]; exact hsz)) ⟨ho, ho2, ?_⟩
    rw [e]
    exact h2 hw
noncomputable def sIx (n d : Nat) : Option Int → Nat
  | none => d
  | some v => if v < 0 then (v + (n : Int)).toNat else min v.toNat n
theorem sIx_none (n d : Nat) : sIx n d none = d := rfl
theorem sIx_nat (n d k : Nat) : sIx n d (some (k : Int)) = min k n := by
  show (if (k : Int) < 0 then ((k : Int) + (n : Int)).toNat else min (k : Int).toNat n) = min k n
  rw [if_neg (by omega), Int.toNat_natCast]
theorem sIx_le (n d : Nat) (hd : d ≤ n) (o : Option Int) : sIx n d o ≤ n := by
  cases o with
  | none => exact hd
  | some v =>
    show (if v < 0 then (v + (n : Int)).toNat else min v.toNat n) ≤ n
    by_cases hv : v < 0
    · rw [if_pos hv]; omega
    · rw [if_neg hv]; exact Nat.min_le_right _ _
theorem clip_eq (v : Int) (n d : Nat) : (if v < 0 then max (v + (n : Int)) 0 else min v (n : Int)) = ((sIx n d (some v) : Nat) : Int) := by
  show (if v < 0 then max (v + (n : Int)) 0 else min v (n : Int)) = (((if v < 0 then (v + (n : Int)).toNat else min v.toNat n) : Nat) : Int)
  by_cases hv : v < 0
  · simp only [if_pos hv]; omega
  · simp only [if_neg hv]; omega
theorem adjust_gen (lo hi : Option Int) (n : Nat) : Builtin.Slice.sliceAdjust lo hi 1 (n : Int) = (((sIx n 0 lo : Nat) : Int), ((sIx n n hi : Nat) : Int)) := by
  have h1 : ¬ ((1 : Int) < 0) := by omega
  unfold Builtin.Slice.sliceAdjust
  simp only [h1, if_false]
  refine Prod.ext ?_ ?_
  · cases lo with
    | none => rfl
    | some v => exact clip_eq v n 0
  · cases hi with
    | none => rfl
    | some v => exact clip_eq v n n
theorem places_gen (i j : Nat) : Builtin.Slice.slicePlaces (i : Int) (j : Int) 1 = j - i := by
  unfold Builtin.Slice.slicePlaces
  have h1 : (1 : Int) > 0 := by omega
  simp only [h1, if_true, Int.ediv_one]
  split <;> omega
theorem slicePart_ {v : Value} {o : Option Int} {Q : Option Int → Shared → Prop} (p : IsPart v o) (h : Q o s) : wpAny (model prog w) A (Builtin.Slice.slicePartIndex v) Q E s := by
  cases p with
  | none => exact slicePart_none h
  | int i t => exact slicePart_int h
theorem sliceApplied_gen {sl : Addr} {vl vu : Value} {lo hi : Option Int} {n : Nat} {Q : Int × Int × Nat → Shared → Prop} (hs : s.heap.IsSliceOf sl vl vu .none) (pl : IsPart vl lo) (pu : IsPart vu hi)
    (h : Q (((sIx n 0 lo : Nat) : Int), 1, sIx n n hi - sIx n 0 lo) s) : wpAny (model prog w) A (Builtin.Slice.sliceApplied (.ref sl) (pure (n : Int))) Q E s := by
  obtain ⟨os, hos, hcs, hds⟩ := id hs
  unfold Builtin.Slice.sliceApplied Builtin.Slice.sliceFields
  refine wpAny_bind (wpAny_bind (wpAny_field hos hds (x := vl) rfl (wpAny_bind (wpAny_field hos hds (x := vu) rfl (wpAny_bind (wpAny_field hos hds (x := .none) rfl (wpAny_pure ?_)))))))
  refine wpAny_bind (slicePart_none ?_)
  show wpAny _ _ (if ((1 : Int) == 0) = true then _ else _) _ _ s
  rw [if_neg (by decide)]
  refine wpAny_bind (slicePart_ pl (wpAny_bind (slicePart_ pu (wpAny_bind (wpAny_pure ?_)))))
  show wpAny _ _ (match Builtin.Slice.sliceAdjust lo hi 1 (n : Int) with | (lo, hi) => pure (lo, (1 : Int), Builtin.Slice.slicePlaces lo hi 1)) _ _ s
  rw [adjust_gen lo hi n]
  show wpAny _ _ (pure (((sIx n 0 lo : Nat) : Int), (1 : Int), Builtin.Slice.slicePlaces ((sIx n 0 lo : Nat) : Int) ((sIx n n hi : Nat) : Int) 1)) _ _ s
  rw [places_gen]
  exact wpAny_pure h
theorem pick_gen (xs : Array Value) (i k : Nat) : ((List.range k).filterMap fun (m : Nat) => xs[((i : Int) + (m : Int) * 1).toNat]?).toArray = ((xs.toList.drop i).take k).toArray := by
  have e : (fun (m : Nat) => xs[((i : Int) + (m : Int) * 1).toNat]?) = fun m => xs[i + m]? := by
    funext m
    have : ((i : Int) + (m : Int) * 1).toNat = i + m := by omega
    rw [this]
  rw [e]
  have := pick_run xs i k
  rw [List.filterMap_map] at this
  have e2 : ((fun x => xs[x]?) ∘ fun x => i + x) = fun m => xs[i + m]? := rfl
  rw [e2] at this
  rw [this]
theorem getItem_tuple_cut {t sl : Addr} {items : Array Value} {vl vu : Value} {lo hi : Option Int} {Q : Value → Shared → Prop} (ht : IsTup s.heap t items) (hs : s.heap.IsSliceOf sl vl vu .none) (pl : IsPart vl lo) (pu : IsPart vu hi)
    (hw : ¬ (sIx items.size 0 lo = 0 ∧ sIx items.size items.size hi = items.size))
    (h : Q (.ref s.heap.objs.size) { s with heap := s.heap.push { cls := .type "tuple", data := .seq ((items.toList.drop (sIx items.size 0 lo)).take (sIx items.size items.size hi - sIx items.size 0 lo)).toArray } })
    (hsz : items.size ≤ sizeLine) : wpAny (model prog w) A (getItem (.ref t) (.ref sl)) Q E s := by
  have htake : sizeOk (.seq ((items.toList.drop (sIx items.size 0 lo)).take (sIx items.size items.size hi - sIx items.size 0 lo)).toArray) := by
    show ((items.toList.drop (sIx items.size 0 lo)).take (sIx items.size items.size hi - sIx items.size 0 lo)).toArray.size ≤ sizeLine
    rw [List.size_toArray, List.length_take, List.length_drop, Array.length_toList]
    omega
  have hj : sIx items.size items.size hi ≤ items.size := sIx_le _ _ (Nat.le_refl _) hi
  obtain ⟨os, hos, hcs, hds⟩ := id hs
  have hTs : s.TypeIs (.ref sl) "slice" := ⟨os, hos, hcs⟩
  unfold getItem
  try with_reducible refine wpAny_holding ?_
  first | refine wpAny_bind (wpAny_pure ?_) | skip
  refine wpAny_bind (wpAny_sequenceKey ht.typeIs (by decide) ?_)
  refine wpAny_bind (wpAny_callSpecial?_slot (name := Str.ofString "__getitem__") ht.typeIs PyProof.Rows.slot_tuple_getitem
    (wpAny_call_entry PyProof.Rows.slot_tuple_getitem ht.typeIs entry_tuple_getitem ?_ (args_tuple_getitem _ _)))
  show wpAny _ _ (Builtin.Tuple.tupleItemsOf (.ref t) >>= _) _ _ s
  refine wpAny_bind (tupleItemsOf_ ht ?_)
  refine wpAny_bind (wpAny_typeOf hTs ?_)
  rw [if_pos (by decide)]
  refine wpAny_bind (sliceApplied_gen hs pl pu ?_)
  have hno : ¬ ((((sIx items.size 0 lo : Nat) : Int) == 0 && (1 : Int) == 1 && (sIx items.size items.size hi - sIx items.size 0 lo) == items.size) = true) := by
    intro q
    rw [Bool.and_eq_true, Bool.and_eq_true] at q
    have q1 : ((sIx items.size 0 lo : Nat) : Int) = 0 := eq_of_beq q.1.1
    have q2 : sIx items.size items.size hi - sIx items.size 0 lo = items.size := eq_of_beq q.2
    exact hw ⟨by omega, by omega⟩
  show wpAny _ _ (if (((sIx items.size 0 lo : Nat) : Int) == 0 && (1 : Int) == 1 && (sIx items.size items.size hi - sIx items.size 0 lo) == items.size) = true then _ else _) _ _ s
  rw [if_neg hno, pick_gen]
  first
    | exact wpAny_bind (m := Builtin.Tuple.tupleExact _) (wpAny_newObj_type (wpAny_pure ⟨_, rfl, wpAny_pure h⟩) htake)
    | exact wpAny_bind (m := Builtin.Tuple.tupleExact _) (wpAny_newObj_type (wpAny_bind (wpAny_pure (wpAny_pure ⟨_, rfl, wpAny_pure h⟩))) htake)
    | exact wpAny_bind (wpAny_bind (m := Builtin.Tuple.tupleExact _) (wpAny_newObj_type (wpAny_pure (wpAny_pure ⟨_, rfl, wpAny_pure h⟩)) htake))
    | exact wpAny_bind (wpAny_bind (m := Builtin.Tuple.tupleExact _) (wpAny_newObj_type (wpAny_pure ⟨_, rfl, wpAny_pure h⟩) htake))
end
end HT
namespace L2
open PySem PySem.Spec PyProof.Rows
noncomputable abbrev TO := St → Hp → (Option Int → Hp → Prop) → Prop
noncomputable def PO (X : Cx) (e : Option Expr) (t : TO) : Prop :=
  ∀ (pins : List (Addr × Obj)) (s : Shared) (σ : St) (H : Hp) (Q : Option Int → Hp → Prop), Inv X pins σ H s → t σ H Q →
    wpAny (model X.prog X.w) X.A (evalPart e X.env) (fun u s' => ∃ o H', Inv X pins σ H' s' ∧ IsPart u o ∧ Q o H') X.xe s
noncomputable def tNoPart : TO := fun _ H Q => Q none H
noncomputable def tPart (t : TE) : TO := fun σ H Q => t σ H fun x H1 => ∃ i, x = .int i ∧ Q (some i) H1
section
variable {X : Cx} {e : Expr} {te : TE} {lo hi : Option Expr} {tl th : TO} {pos p2 : Pos}
theorem po_none : PO X none tNoPart := by
  intro pins s σ H Q I h
  rw [evalPart_none]
  exact wpAny_pure ⟨none, H, I, .none, h⟩
theorem po_some (h : PE X e te) : PO X (some e) (tPart te) := by
  intro pins s σ H Q I hw
  rw [evalPart_some]
  refine thn (h pins s σ H _ I hw) fun u s1 ⟨x, H1, I1, r1, q1⟩ => ?_
  obtain ⟨i, rfl, q⟩ := q1
  obtain ⟨t, rfl⟩ := r1
  exact ⟨some i, H1, I1, .int i t, q⟩
noncomputable def SlR (X : Cx) (r : V → Option Int → Option Int → Hp → VK → Prop) : Prop :=
  ∀ (pins : List (Addr × Obj)) (s : Shared) (σ : St) (H : Hp) (x : V) (v vl vu : Value) (lo hi : Option Int) (sl : Addr) (Q : VK), Inv X pins σ H s → RelV x v → s.heap.IsSliceOf sl vl vu .none → IsPart vl lo → IsPart vu hi → r x lo hi H Q →
    ∃ T id, typeLookup (.type T) "__getitem__" = pure (some (.builtin id)) ∧ s.TypeIs v T ∧ wpAny (model X.prog X.w) X.A (getItem v (.ref sl)) (EP X pins σ Q) X.xe s
theorem SlR.or {r r' : V → Option Int → Option Int → Hp → VK → Prop} (h : SlR X r) (h' : SlR X r') : SlR X (fun x lo hi H Q => r x lo hi H Q ∨ r' x lo hi H Q) := by
  intro pins s σ H x v vl vu lo hi sl Q I rx hs pl pu q
  rcases q with q | q
  · exact h pins s σ H x v vl vu lo hi sl Q I rx hs pl pu q
  · exact h' pins s σ H x v vl vu lo hi sl Q I rx hs pl pu q
noncomputable def tSl (r : V → Option Int → Option Int → Hp → VK → Prop) (te : TE) (tl th : TO) : TE := fun σ H Q => te σ H fun x H1 => tl σ H1 fun l H2 => th σ H2 fun u H3 => r x l u H3 Q
theorem pe_slice {r : V → Option Int → Option Int → Hp → VK → Prop} (hr : SlR X r) (he : PE X e te) (hl : PO X lo tl) (hu : PO X hi th) : PE X (.Subscript e (.Slice lo hi none p2) pos) (tSl r te tl th) := by
  intro pins s σ H Q I h
  refine Subscript_ (thn (he pins s σ H _ I h) fun v s1 ⟨x, H1, I1, r1, q1⟩ => ?_)
  refine wpAny_Slice (thn (hl pins s1 σ H1 _ I1 q1) fun vl s2 ⟨l, H2, I2, pl, q2⟩ => thn (hu pins s2 σ H2 _ I2 q2) fun vu s3 ⟨u, H3, I3, pu, q3⟩ => ?_)
  rw [evalPart_none]
  refine wpAny_pure ?_
  have I4 : Inv X pins σ H3 { s3 with heap := s3.heap.push { cls := .type "slice", data := .fields #[vl, vu, .none] } } := I3.kept (t' := s3.toks) fun b ob q => Heap.get?_push_of_some _ q
  obtain ⟨T, id, hT, ht, hg⟩ := hr pins { s3 with heap := s3.heap.push { cls := .type "slice", data := .fields #[vl, vu, .none] } } σ H3 x v vl vu l u s3.heap.objs.size Q I4 r1 (Heap.IsSliceOf.new ..) pl pu q3
  show wpAny (model X.prog X.w) X.A (subscriptTail e (.Slice lo hi none p2) v (.ref s3.heap.objs.size)) (EP X pins σ Q) X.xe { s3 with heap := s3.heap.push { cls := .type "slice", data := .fields #[vl, vu, .none] } }
  exact tail_any (ops := [.ref s3.heap.objs.size, v]) ht hT hg (by with_unfolding_all rfl)
noncomputable def cutV (xs : List V) (lo hi : Option Int) : List V := (xs.drop (HT.sIx xs.length 0 lo)).take (HT.sIx xs.length xs.length hi - HT.sIx xs.length 0 lo)
theorem cutV_length (xs : List V) (lo hi : Option Int) : (cutV xs lo hi).length ≤ xs.length := by
  unfold cutV
  rw [List.length_take, List.length_drop]
  omega
noncomputable def rSlT (K : PySem.W.Frag) : V → Option Int → Option Int → Hp → VK → Prop := fun x lo hi H Q => ∃ a xs, x = .ref a ∧ SqT K H a xs ∧
  ¬ (HT.sIx xs.length 0 lo = 0 ∧ HT.sIx xs.length xs.length hi = xs.length) ∧ ∀ p, H p = none → Q (.ref p) (upd H p (.tup (cutV xs lo hi)))
theorem sl_tup : SlR X (rSlT X.K) := by
  intro pins s σ H x v vl vu lo hi sl Q I rx hs pl pu h
  obtain ⟨a, xs, rfl, hx, hw, q⟩ := h
  cases rx
  obtain ⟨its, r, ht, hz⟩ := I.tuple hx
  have hlen : its.toArray.size = xs.length := by rw [List.size_toArray]; exact r.length.symm
  refine ⟨"tuple", _, PyProof.Rows.slot_tuple_getitem.lookup, ht.typeIs, ?_⟩
  refine HT.getItem_tuple_cut ht hs pl pu (by rw [hlen]; exact hw) ?_ (by rw [hlen]; exact hz)
  rw [hlen]
  refine ⟨.ref s.heap.objs.size, _, I.laid (t' := s.toks) (o := .tup (cutV xs lo hi)) (fun b ob q => Heap.get?_push_of_some _ q) (Nat.le_refl _) ?_, rfl, q _ (I.hok.fresh (Nat.le_refl _))⟩
  exact ⟨Nat.le_trans (cutV_length xs lo hi) hz, _, (r.drop (HT.sIx xs.length 0 lo)).take (HT.sIx xs.length xs.length hi - HT.sIx xs.length 0 lo), IsTup.new _ _⟩
noncomputable def rCatT (K : PySem.W.Frag) : R2 := fun x y H Q => ∃ a b xs ys, x = .ref a ∧ y = .ref b ∧ SqT K H a xs ∧ SqT K H b ys ∧ xs ≠ [] ∧ xs.length + ys.length ≤ sizeLine ∧
  (ys = [] → Q (.ref a) H) ∧ (ys ≠ [] → ∀ p, H p = none → Q (.ref p) (upd H p (.tup (xs ++ ys))))
theorem Vals.nil_iff {xs : List V} {us : List Value} (r : Vals xs us) : us = [] ↔ xs = [] := by
  cases r with
  | nil => simp
  | cons _ _ => simp
theorem op_catT : OpR X (binaryOp .Add) (rCatT X.K) := by
  intro pins s σ H x y v u Q I rx ry h
  obtain ⟨a, b, xs, ys, rfl, rfl, ha, hb, hx, hz, q1, q2⟩ := h
  cases rx
  cases ry
  obtain ⟨its, r1, p1, _⟩ := I.tuple ha
  obtain ⟨its2, r2, p2, _⟩ := I.tuple hb
  refine HT.cat_tup p1 p2 (fun z => hx (r1.nil_iff.mp z)) (fun z => ⟨.ref a, H, I, rfl, q1 (r2.nil_iff.mp z)⟩) (fun z => ?_) (by rw [← r1.length, ← r2.length]; exact hz)
  refine ⟨.ref s.heap.objs.size, _, I.laid (t' := s.toks) (o := .tup (xs ++ ys)) (fun b ob q => Heap.get?_push_of_some _ q) (Nat.le_refl _) ?_, rfl, q2 (fun w => z (r2.nil_iff.mpr w)) _ (I.hok.fresh (Nat.le_refl _))⟩
  exact ⟨by rw [List.length_append]; exact hz, _, r1.append r2, IsTup.new _ _⟩
end
end L2
namespace L2
open PySem PySem.Spec PyProof.Rows
noncomputable def ixN (n : Nat) (i : Int) : Option Nat := if 0 ≤ i then (if i < n then some i.toNat else none) else if -(n : Int) ≤ i then some (i + n).toNat else none
noncomputable def atI {α : Type} (xs : List α) (i : Int) : Option α := (ixN xs.length i).bind fun j => xs[j]?
theorem ixN_seq {n : Nat} {i : Int} {j : Nat} (h : ixN n i = some j) : seqIndex? i n = some j ∧ j < n ∧ -(n : Int) ≤ i ∧ i < n := by
  unfold ixN at h
  by_cases h0 : 0 ≤ i
  · rw [if_pos h0] at h
    by_cases h1 : i < n
    · rw [if_pos h1] at h
      have e : i.toNat = j := Option.some.inj h
      exact ⟨by rw [seqIndex_of h0 h1, e], by omega, by omega, h1⟩
    · rw [if_neg h1] at h; cases h
  · rw [if_neg h0] at h
    by_cases h1 : -(n : Int) ≤ i
    · rw [if_pos h1] at h
      have e : (i + n).toNat = j := Option.some.inj h
      exact ⟨by rw [seqIndex_neg (by omega) h1, e], by omega, h1, by omega⟩
    · rw [if_neg h1] at h; cases h
theorem atI_get {α : Type} {xs : List α} {i : Int} {v : α} (h : atI xs i = some v) : ∃ j, seqIndex? i xs.length = some j ∧ xs[j]? = some v ∧ j < xs.length ∧ -(xs.length : Int) ≤ i ∧ i < xs.length := by
  unfold atI at h
  cases e : ixN xs.length i with
  | none => rw [e] at h; cases h
  | some j =>
    rw [e] at h
    obtain ⟨h1, h2, h3, h4⟩ := ixN_seq e
    exact ⟨j, h1, h, h2, h3, h4⟩
theorem atI_nat {α : Type} {xs : List α} {j : Nat} {v : α} (h : xs[j]? = some v) : atI xs (j : Int) = some v := by
  have hj : j < xs.length := (List.getElem?_eq_some_iff.mp h).1
  have e : ixN xs.length (j : Int) = some j := by
    unfold ixN
    rw [if_pos (by omega), if_pos (by omega)]; simp
  unfold atI; rw [e]; exact h
noncomputable def PlainIx (b : Expr) : Prop := ∀ o i, subscripted b false o i = operate [o, i] (getItem o i)
noncomputable def IxR (X : Cx) (r : R2) : Prop :=
  ∀ (value slice : Expr) (pins : List (Addr × Obj)) (s : Shared) (σ : St) (H : Hp) (x y : V) (v u : Value) (Q : VK), Inv X pins σ H s → RelV x v → RelV y u → r x y H Q →
    subscripted slice false v u = operate [v, u] (getItem v u) → wpAny (model X.prog X.w) X.A (subscriptTail value slice v u) (EP X pins σ Q) X.xe s
noncomputable def MtR (X : Cx) (id : String) (r : V → List V → Hp → VK → Prop) : Prop :=
  ∀ (pins : List (Addr × Obj)) (s : Shared) (σ : St) (H : Hp) (x : V) (xs : List V) (v : Value) (us : List Value) (Q : VK), Inv X pins σ H s → RelV x v → Vals xs us → r x xs H Q →
    wpAny (model X.prog X.w) X.A (call (.builtin id) (v :: us)) (EP X pins σ Q) X.xe s
section
variable {X : Cx} {a b : Expr} {ta tb : TE} {pos : Pos}
theorem IxR.or {r r' : R2} (h : IxR X r) (h' : IxR X r') : IxR X (fun x y H Q => r x y H Q ∨ r' x y H Q) := by
  intro value slice pins s σ H x y v u Q I rx ry q hs
  rcases q with q | q
  · exact h value slice pins s σ H x y v u Q I rx ry q hs
  · exact h' value slice pins s σ H x y v u Q I rx ry q hs
theorem MtR.or {id : String} {r r' : V → List V → Hp → VK → Prop} (h : MtR X id r) (h' : MtR X id r') : MtR X id (fun x xs H Q => r x xs H Q ∨ r' x xs H Q) := by
  intro pins s σ H x xs v us Q I rx rs q
  rcases q with q | q
  · exact h pins s σ H x xs v us Q I rx rs q
  · exact h' pins s σ H x xs v us Q I rx rs q
theorem pe_ix {r : R2} (hr : IxR X r) (ha : PE X a ta) (hb : PE X b tb) (hs : PlainIx b) : PE X (.Subscript a b pos) (tOp r ta tb) := by
  intro pins s σ H Q I h
  exact Subscript_ (binT ha hb I h fun v u s2 x y H2 I2 rx ry q => hr a b pins s2 σ H2 x y v u Q I2 rx ry q (hs _ _))
noncomputable def rIxL (K : PySem.W.Frag) : R2 := fun x y H Q => ∃ p xs i v, x = .ref p ∧ y = .int i ∧ SqL K H p xs ∧ atI xs i = some v ∧ Q v H
noncomputable def rIxT (K : PySem.W.Frag) : R2 := fun x y H Q => ∃ p xs i v, x = .ref p ∧ y = .int i ∧ SqT K H p xs ∧ atI xs i = some v ∧ Q v H
noncomputable def rIxS : R2 := fun x y H Q => ∃ z i c, x = .str z ∧ y = .int i ∧ z.length ≤ sizeLine ∧ atI z.cps.toList i = some c ∧ Q (.str ⟨#[c]⟩) H
theorem ix_list : IxR X (rIxL X.K) := by
  intro value slice pins s σ H x y v u Q I rx ry h hs
  obtain ⟨p, xs, i, z, rfl, rfl, hq, he, q⟩ := h
  cases rx
  obtain ⟨t, rfl⟩ := ry
  obtain ⟨its, r, pl, hz⟩ := I.list hq
  obtain ⟨j, h1, h2, h3, h4, h5⟩ := atI_get he
  obtain ⟨w, ew, rw'⟩ := r.get h2
  have hl := r.length
  have hn := line63
  have fin : EP X pins σ Q w s := ⟨z, H, I, rw', q⟩
  by_cases h0 : 0 ≤ i
  · have hj : i.toNat = j := by
      rw [seqIndex_of h0 h5] at h1
      exact Option.some.inj h1
    exact item_listR pl.isList h0 (by omega) (by rw [hj]; simpa using ew) fin hs
  · have hj : (i + (its.toArray.size : Int)).toNat = j := by
      rw [seqIndex_neg (by omega) h4] at h1
      rw [List.size_toArray, ← hl]
      exact Option.some.inj h1
    exact subscriptTail_builtinR (x := w) pl.isList.typeIs slot_list_getitem.lookup
      (wpAny_getItem_list_neg (Q := fun r s' => r = w ∧ EP X pins σ Q r s') pl.isList (by omega) (by rw [List.size_toArray] <;> omega) (by omega) (by rw [hj]; simpa using ew) ⟨rfl, fin⟩) hs
theorem ix_tup : IxR X (rIxT X.K) := by
  intro value slice pins s σ H x y v u Q I rx ry h hs
  obtain ⟨p, xs, i, z, rfl, rfl, hq, he, q⟩ := h
  cases rx
  obtain ⟨t, rfl⟩ := ry
  obtain ⟨its, r, pl, hz⟩ := I.tuple hq
  obtain ⟨j, h1, h2, h3, h4, h5⟩ := atI_get he
  obtain ⟨w, ew, rw'⟩ := r.get h2
  have hl := r.length
  have hn := line63
  have fin : EP X pins σ Q w s := ⟨z, H, I, rw', q⟩
  exact subscriptTail_builtinR (x := w) pl.typeIs slot_tuple_getitem.lookup
    (getItem_tuple (j := j) (Q := fun r s' => r = w ∧ EP X pins σ Q r s') pl (by omega) (by omega) (by rw [List.size_toArray, ← hl]; exact h1) (by simpa using ew) ⟨rfl, fin⟩) hs
theorem ix_str : IxR X rIxS := by
  intro value slice pins s σ H x y v u Q I rx ry h hs
  obtain ⟨z, i, c, rfl, rfl, hz, he, q⟩ := h
  obtain ⟨t, rfl⟩ := rx
  obtain ⟨t', rfl⟩ := ry
  obtain ⟨j, h1, h2, h3, h4, h5⟩ := atI_get he
  have hl : z.cps.toList.length = z.length := by simp [Str.length]
  rw [hl] at h1 h4 h5
  have hn := line63
  exact tail_any (typeIs_str s z t) slot_str_getitem.lookup (getItem_str (c := c) (by
    have e1 : decide (i < -(2 ^ 63 : Int)) = false := decide_eq_false (by omega)
    have e2 : decide (i ≥ 2 ^ 63) = false := decide_eq_false (by omega)
    rw [e1, e2, Bool.or_false]) (by rw [h1]; simpa using h2) ⟨.str ⟨#[c]⟩, H, I.tok _, ⟨_, rfl⟩, q⟩) hs
noncomputable def rIx (K : PySem.W.Frag) : R2 := fun x y H Q => rIxL K x y H Q ∨ rIxT K x y H Q ∨ rIxS x y H Q
theorem ix_seq : IxR X (rIx X.K) := ix_list.or (ix_tup.or ix_str)
theorem mapSeq_set (its : List Value) (n j : Nat) (u : Value) : Obj.mapSeq (·.setIfInBounds j u) { cls := .type "list", data := .seq its.toArray n } = { cls := .type "list", data := .seq (its.set j u).toArray n } := by
  simp [Obj.mapSeq]
theorem Inv.lst {pins : List (Addr × Obj)} {σ : St} {H : Hp} {s : Shared} {p : Addr} {xs : List V} (I : Inv X pins σ H s) (h : H p = some (.lst xs)) :
    ∃ (its : List Value) (n : Nat), Vals xs its ∧ s.heap.get? p = some { cls := .type "list", data := .seq its.toArray n } ∧ xs.length ≤ sizeLine := by
  obtain ⟨z, its, n, r, e⟩ := I.hok p _ h
  exact ⟨its, n, r, e, z⟩
theorem Inv.lstUpd {pins : List (Addr × Obj)} {σ : St} {H : Hp} {s : Shared} {p : Addr} {xs ys : List V} {its its' : List Value} {n n' : Nat} {f : Obj → Obj} (I : Inv X pins σ H s) (h : H p = some (.lst xs))
    (ho : s.heap.get? p = some { cls := .type "list", data := .seq its.toArray n }) (hf : f { cls := .type "list", data := .seq its.toArray n } = { cls := .type "list", data := .seq its'.toArray n' }) (r : Vals ys its') (hz : ys.length ≤ sizeLine) (t : Nat) :
    Inv X pins σ (upd H p (.lst ys)) { s with heap := s.heap.update p f, toks := t } := by
  have e : (s.heap.update p f).get? p = some { cls := .type "list", data := .seq its'.toArray n' } := by
    rw [Heap.get?_update_self f ho (by rw [hf] <;> rfl), hf]
  refine I.write (x := p) (e := p) (by rw [h]; trivial) (.inl rfl) (fun b u hb q => (Heap.get?_update_other _ _ (Ne.symm hb)).trans q) ⟨_, e⟩ ?_
  exact ⟨hz, its', n', r, e⟩
noncomputable def rSetL : V → V → V → Hp → (Hp → Prop) → Prop := fun o i v H Q => ∃ p xs k j, o = .ref p ∧ i = .int k ∧ H p = some (.lst xs) ∧ ixN xs.length k = some j ∧ Q (upd H p (.lst (xs.set j v)))
theorem set_list : PSet X rSetL := by
  intro pins s σ H o i v ov iv u Q I ro ri rv h
  obtain ⟨p, xs, k, j, rfl, rfl, hp, hj, q⟩ := h
  cases ro
  obtain ⟨t, rfl⟩ := ri
  obtain ⟨its, n, r, ho, hz⟩ := I.lst hp
  obtain ⟨h1, h2, h3, h4⟩ := ixN_seq hj
  have hl := r.length
  have hn := line63
  have I' : Inv X pins σ (upd H p (.lst (xs.set j v))) { s with heap := s.heap.update p (Obj.mapSeq (·.setIfInBounds j u)) } :=
    I.lstUpd hp ho (mapSeq_set its n j u) (r.set rv j) (by rw [List.length_set]; exact hz) s.toks
  by_cases h0 : 0 ≤ k
  · have hk : k.toNat = j := by
      rw [seqIndex_of h0 h4] at h1
      exact Option.some.inj h1
    exact PySem.W.ki_setAt ho h0 (by omega) (by rw [List.size_toArray, ← hl]; exact h4) (by rw [hk]; exact ⟨_, I', q⟩)
  · have hk : (k + (its.toArray.size : Int)).toNat = j := by
      rw [seqIndex_neg (by omega) h3] at h1
      rw [List.size_toArray, ← hl]
      exact Option.some.inj h1
    exact PySem.W.ki_setBack ho (by omega) (by rw [List.size_toArray, ← hl]; exact h3) (by omega) (by rw [hk]; exact ⟨_, I', q⟩)
theorem slice_bounds (lo hi : Option Int) (n : Nat) : (sliceBounds lo hi none n).1 = ((HT.sIx n 0 lo : Nat) : Int) ∧ (sliceBounds lo hi none n).2.1 = ((HT.sIx n n hi : Nat) : Int) ∧ (sliceBounds lo hi none n).2.2 = 1 := by
  refine ⟨?_, ?_, rfl⟩
  · cases lo with
    | none => simp [sliceBounds, HT.sIx]
    | some i =>
      simp only [sliceBounds, HT.sIx, Option.getD_none, show (1 : Int) > 0 by decide, if_true]
      by_cases h : i < 0
      · simp only [h, if_true] <;> omega
      · simp only [h, if_false] <;> omega
  · cases hi with
    | none => simp [sliceBounds, HT.sIx]
    | some i =>
      simp only [sliceBounds, HT.sIx, Option.getD_none, show (1 : Int) > 0 by decide, if_true]
      by_cases h : i < 0
      · simp only [h, if_true] <;> omega
      · simp only [h, if_false] <;> omega
theorem slicePick_cut (its : List Value) (lo hi : Option Int) : slicePick its.toArray lo hi none = ((its.drop (HT.sIx its.length 0 lo)).take (HT.sIx its.length its.length hi - HT.sIx its.length 0 lo)).toArray := by
  obtain ⟨h1, h2, h3⟩ := slice_bounds lo hi its.toArray.size
  unfold slicePick
  rw [h1, h2, h3]
  simp only [sliceRange_one, pick_run, List.size_toArray] <;> rfl
noncomputable def rSlL (K : PySem.W.Frag) : V → Option Int → Option Int → Hp → VK → Prop := fun x lo hi H Q => ∃ a xs, x = .ref a ∧ SqL K H a xs ∧ ∀ p, H p = none → Q (.ref p) (upd H p (.lst (cutV xs lo hi)))
theorem sl_list : SlR X (rSlL X.K) := by
  intro pins s σ H x v vl vu lo hi sl Q I rx hs pl pu h
  obtain ⟨a, xs, rfl, hx, q⟩ := h
  cases rx
  obtain ⟨its, r, ht, hz⟩ := I.list hx
  have hlen := r.length
  refine ⟨"list", _, slot_list_getitem.lookup, ht.isList.typeIs, ?_⟩
  refine wpAny_getItem_list_slice ht.isList hs pl pu .none (by simp) ?_ (by rw [List.size_toArray] <;> omega)
  rw [slicePick_cut, ← hlen]
  refine ⟨.ref s.heap.objs.size, _, I.laid (t' := s.toks) (o := .lst (cutV xs lo hi)) (fun b ob q => Heap.get?_push_of_some _ q) (Nat.le_refl _) ?_, rfl, q _ (I.hok.fresh (Nat.le_refl _))⟩
  exact ⟨Nat.le_trans (cutV_length xs lo hi) hz, _, 0, (r.drop (HT.sIx xs.length 0 lo)).take (HT.sIx xs.length xs.length hi - HT.sIx xs.length 0 lo), Heap.get?_push_size _ rfl⟩
theorem call_len_seq : CallR X (.builtin "len") (fun xs H Q => ∃ p ys, xs = [.ref p] ∧ (SqL X.K H p ys ∨ SqT X.K H p ys) ∧ Q (.int ys.length) H) := by
  intro pins s σ H xs us Q I r h
  obtain ⟨p, ys, rfl, hq, q⟩ := h
  obtain ⟨u, rfl, rx⟩ := vals1 r
  cases rx
  have hn := line63
  rcases hq with hq | hq
  · obtain ⟨its, r', pl, hz⟩ := I.list hq
    have hlen := r'.length
    exact Calls.call_len_list pl.isList (by simp only [List.size_toArray] <;> omega) ⟨.int ys.length, H, I.tok _, ⟨s.toks + 1, by rw [List.size_toArray, hlen]⟩, q⟩
  · obtain ⟨its, r', pl, hz⟩ := I.tuple hq
    have hlen := r'.length
    exact len_tuple pl (by simp only [List.size_toArray] <;> omega) ⟨.int ys.length, H, I.tok _, ⟨s.toks + 1, by rw [List.size_toArray, hlen]⟩, q⟩
theorem call_len_str : CallR X (.builtin "len") (fun xs H Q => ∃ z, xs = [.str z] ∧ z.length ≤ sizeLine ∧ Q (.int z.length) H) := by
  intro pins s σ H xs us Q I r h
  obtain ⟨z, rfl, hz, q⟩ := h
  obtain ⟨u, rfl, t, rfl⟩ := vals1 r
  have hn := line63
  exact len_str (by omega) ⟨.int z.length, H, I.tok _, ⟨_, rfl⟩, q⟩
theorem CallR.or {f : Value} {r r' : List V → Hp → VK → Prop} (h : CallR X f r) (h' : CallR X f r') : CallR X f (fun xs H Q => r xs H Q ∨ r' xs H Q) := by
  intro pins s σ H xs us Q I rs q
  rcases q with q | q
  · exact h pins s σ H xs us Q I rs q
  · exact h' pins s σ H xs us Q I rs q
theorem call_list_of : CallR X (.type "list") (fun xs H Q => ∃ p ys, xs = [.ref p] ∧ (SqL X.K H p ys ∨ SqT X.K H p ys) ∧ ∀ l, H l = none → Q (.ref l) (upd H l (.lst ys))) := by
  intro pins s σ H xs us Q I r h
  obtain ⟨p, ys, rfl, hq, q⟩ := h
  obtain ⟨u, rfl, rx⟩ := vals1 r
  cases rx
  have fin : ∀ (its : List Value), Vals ys its → ys.length ≤ sizeLine → ∀ (h' : Heap) (c' : Nat), (∀ b o', s.heap.get? b = some o' → h'.get? b = some o') →
      h'.get? s.heap.objs.size = some { cls := .type "list", dict := none, data := .seq its.toArray c', slots := #[] } → EP X pins σ Q (.ref s.heap.objs.size) { s with heap := h' } := fun its r' hz h' c' kp e =>
    ⟨.ref s.heap.objs.size, _, I.laid (t' := s.toks) kp (Nat.le_refl _) (show ObjOk X.prog X.w _ h' _ (.lst ys) from ⟨hz, its, c', r', e⟩), rfl, q _ (I.hok.fresh (Nat.le_refl _))⟩
  rcases hq with hq | hq
  · obtain ⟨its, r', pl, hz⟩ := I.list hq
    have hlen := r'.length
    obtain ⟨o, ho, hc, n, hd⟩ := pl.isList
    exact call_list_seq p (.inl rfl) ho hc hd (fun h' c' kp e => fin its r' hz h' c' kp e) (by simp only [List.size_toArray] <;> omega)
  · obtain ⟨its, r', pl, hz⟩ := I.tuple hq
    have hlen := r'.length
    obtain ⟨o, ho, hc, n, hd⟩ := pl
    exact call_list_seq p (.inr rfl) ho hc hd (fun h' c' kp e => fin its r' hz h' c' kp e) (by simp only [List.size_toArray] <;> omega)
theorem call_tuple_of : CallR X (.type "tuple") (fun xs H Q => ∃ p ys, xs = [.ref p] ∧ ((SqL X.K H p ys ∧ ∀ l, H l = none → Q (.ref l) (upd H l (.tup ys))) ∨ (SqT X.K H p ys ∧ Q (.ref p) H))) := by
  intro pins s σ H xs us Q I r h
  obtain ⟨p, ys, rfl, h⟩ := h
  obtain ⟨u, rfl, rx⟩ := vals1 r
  cases rx
  rcases h with ⟨hq, q⟩ | ⟨hq, q⟩
  · obtain ⟨its, r', pl, hz⟩ := I.list hq
    have hlen := r'.length
    refine call_tuple_list pl.isList (fun h' kp => ?_) (by simp only [List.size_toArray] <;> omega)
    have I1 : Inv X pins σ H { s with heap := h' } := I.kept (t' := s.toks) kp
    have I2 : Inv X pins σ (upd H h'.objs.size (.tup ys)) { s with heap := h'.push { cls := .type "tuple", data := .seq its.toArray } } :=
      I1.laid (t' := s.toks) (fun b o e => Heap.get?_push_of_some _ e) (Nat.le_refl _) (show ObjOk X.prog X.w _ _ _ (.tup ys) from ⟨hz, its, r', IsTup.new _ _⟩)
    exact ⟨.ref h'.objs.size, _, I2, rfl, q _ (I1.hok.fresh (Nat.le_refl _))⟩
  · obtain ⟨its, r', pl, hz⟩ := I.tuple hq
    exact call_tuple_same pl ⟨.ref p, H, I, rfl, q⟩
noncomputable def tyV (K : PySem.W.Frag) (T : String) (x : V) (H : Hp) : Prop := match x with
  | .str _ => T = "str"
  | .int _ => T = "int"
  | .ref p => (T = "list" ∧ ∃ xs, SqL K H p xs) ∨ (T = "tuple" ∧ ∃ o, K.lookup p = some o ∧ o.cls = .type "tuple" ∧ o.dict = none) ∨
      (T = "dict" ∧ ((∃ kvs, H p = some (.dK kvs)) ∨ ∃ kvs, H p = some (.dT kvs))) ∨ (T = "set" ∧ ∃ S n, H p = some (.set S n))
  | _ => False
theorem tyV_is {pins : List (Addr × Obj)} {σ : St} {H : Hp} {s : Shared} {T : String} {x : V} {v : Value} (I : Inv X pins σ H s) (r : RelV x v) (ty : tyV X.K T x H) :
    s.TypeIs v T ∧ ∀ a, v = .ref a → ∃ ob, s.heap.get? a = some ob ∧ ob.dict = none := by
  cases x with
  | str z =>
    obtain ⟨t, rfl⟩ := r
    cases (show T = "str" from ty)
    exact ⟨typeIs_str s z t, fun _ e => nomatch e⟩
  | int i =>
    obtain ⟨t, rfl⟩ := r
    cases (show T = "int" from ty)
    exact ⟨typeIs_int s i t, fun _ e => nomatch e⟩
  | ref p =>
    cases r
    rcases ty with ⟨rfl, xs, hq⟩ | ⟨rfl, o, hk, hc, hd⟩ | ⟨rfl, hk⟩ | ⟨rfl, S, n, hk⟩
    · obtain ⟨its, _, pl, _⟩ := I.list hq
      refine ⟨pl.isList.typeIs, fun a e => ?_⟩
      cases e
      obtain ⟨o, n, e, c, hd, _⟩ := pl
      exact ⟨o, e, hd⟩
    · refine ⟨⟨o, I.kIn p o hk, hc⟩, fun a e => ?_⟩
      cases e
      exact ⟨o, I.kIn _ o hk, hd⟩
    · have z : ∃ o, s.heap.get? p = some o ∧ o.ExactDict := by
        rcases hk with ⟨kvs, hk⟩ | ⟨kvs, hk⟩
        · obtain ⟨_, _, _, _, o, _, _, e, ex, _⟩ := I.hok p _ hk
          exact ⟨o, e, ex⟩
        · obtain ⟨_, _, _, _, o, _, _, e, ex, _⟩ := I.hok p _ hk
          exact ⟨o, e, ex⟩
      obtain ⟨o, e, ex⟩ := z
      refine ⟨⟨o, e, ex.1⟩, fun a e2 => ?_⟩
      cases e2
      exact ⟨o, e, ex.2.1⟩
    · obtain ⟨o, _, _, _, e, ex, _⟩ := I.hok p _ hk
      refine ⟨⟨o, e, ex.1⟩, fun a e2 => ?_⟩
      cases e2
      exact ⟨o, e, ex.2.1⟩
  | _ => exact False.elim ty
noncomputable def tBM0 (K : PySem.W.Frag) (T : String) (r : V → List V → Hp → VK → Prop) (to : TE) : TE := fun σ H Q => to σ H fun x H1 => tyV K T x H1 ∧ r x [] H1 Q
noncomputable def tBM (K : PySem.W.Frag) (T : String) (r : V → List V → Hp → VK → Prop) (to : TE) (t : TA) : TE := fun σ H Q => to σ H fun x H1 => tyV K T x H1 ∧ t σ H1 fun xs H2 => r x xs H2 Q
variable {o e : Expr} {es : List Expr} {to : TE} {t : TA} {name : Str} {apos cpos : Pos} {T id : String} {r : V → List V → Hp → VK → Prop}
theorem pe_bm0 (pa : PlainAttrs T) (slot : Slot T name id) (hty : typeOf (.builtin id) = pure (.type "method_descriptor")) (hm : MtR X id r) (ho : PE X o to)
    (hbase : attributeBase o name X.env (eval o X.env) = eval o X.env := by rfl) (hline : (apos.endLine == cpos.line) = true := by rfl) : PE X (.Call (.Attribute o name apos) [] [] cpos) (tBM0 X.K T r to) := by
  intro pins s σ H Q I h
  refine wpAny_Call_method0_late hbase hline (thn (ho pins s σ H _ I h) fun v s1 ⟨x, H1, I1, r1, ty, q1⟩ => ?_)
  obtain ⟨h1, h2⟩ := tyV_is I1 r1 ty
  exact ⟨T, id, pa, slot, hty, h1, h2, Calls.callWith_builtin rfl (PySem.evalArgs_none (hm pins s1 σ H1 x [] v [] Q I1 r1 .nil q1))⟩
theorem pe_bm (pa : PlainAttrs T) (slot : Slot T name id) (hty : typeOf (.builtin id) = pure (.type "method_descriptor")) (hm : MtR X id r) (ho : PE X o to) (ha : PA X (e :: es) t)
    (hbase : attributeBase o name X.env (eval o X.env) = eval o X.env := by rfl)
    (hfew : ((backTo cpos (starEach (e :: es) X.env)).all (fun x => !x.1) && (backToKw cpos (keywordEach [] X.env)).all (fun x => x.1.isSome)
      && decide ((e :: es).length + ([] : List Keyword).length + (if ([] : List Keyword).isEmpty then 0 else 1) < 30)) = true := by rfl)
    (hline : (apos.endLine == cpos.line) = true := by rfl) (hs : starEach (e :: es) X.env = (false, eval e X.env) :: starEach es X.env := by rfl) (hplain : (backTo cpos (starEach es X.env)).any (·.1) = false := by rfl) :
    PE X (.Call (.Attribute o name apos) (e :: es) [] cpos) (tBM X.K T r to t) := by
  intro pins s σ H Q I h
  refine wpAny_Call_method_late hbase hfew hline rfl (thn (ho pins s σ H _ I h) fun v s1 ⟨x, H1, I1, r1, ty, q1⟩ => ?_)
  obtain ⟨h1, h2⟩ := tyV_is I1 r1 ty
  refine ⟨T, id, pa, slot, hty, h1, h2, ?_⟩
  have hA := ha cpos pins s1 σ H1 _ I1 q1
  rw [hs] at hA ⊢
  refine Calls.callWith_builtin (by show (false || (backTo cpos (starEach es X.env)).any (·.1)) = false; rw [hplain] <;> rfl) (Calls.evalArgs_plain ?_)
  exact thn hA fun us s2 ⟨vs, H2, I2, r2, q2⟩ => hm pins s2 σ H2 x vs v us Q I2 r1 r2 q2
/- xs.append(e), list.index on a module's tuple .. are MtR facts of 06m -/
end
end L2
namespace L2
open PySem PySem.Spec PyProof.Rows
noncomputable def MtM (X : Cx) (id : String) (r : V → List V → Hp → VK → Prop) : Prop :=
  ∀ (pins : List (Addr × Obj)) (s : Shared) (σ : St) (H : Hp) (x : V) (xs : List V) (v : Value) (us : List Value) (Q : VK), Inv X pins σ H s → RelV x v → Vals xs us → r x xs H Q →
    wpAny (model X.prog X.w) X.A (call (.builtin id) (v :: us)) (EP X pins σ Q) X.xe s
theorem Vals.one : ∀ {x : V} {us : List Value}, Vals [x] us → ∃ u, us = [u] ∧ RelV x u := fun h => vals1 h
theorem Vals.two : ∀ {x y : V} {us : List Value}, Vals [x, y] us → ∃ u v, us = [u, v] ∧ RelV x u ∧ RelV y v := fun h => vals2 h
theorem Vals.zero : ∀ {us : List Value}, Vals [] us → us = []
  | _, .nil => rfl
theorem Vals.dropLast {xs : List V} {us : List Value} (h : Vals xs us) : Vals xs.dropLast us.dropLast := by
  induction h with
  | nil => exact .nil
  | cons r t ih =>
    cases t with
    | nil => exact .nil
    | cons q t' => exact .cons r ih
theorem Vals.eraseIdx : ∀ {xs : List V} {us : List Value} (i : Nat), Vals xs us → Vals (xs.eraseIdx i) (us.eraseIdx i)
  | _, _, _, .nil => .nil
  | _, _, 0, .cons _ t => t
  | _, _, i + 1, .cons r t => .cons r (Vals.eraseIdx i t)
theorem Vals.rep {xs : List V} {us : List Value} (h : Vals xs us) : ∀ k : Nat, Vals (List.replicate k xs).flatten (List.replicate k us).flatten
  | 0 => .nil
  | k + 1 => by
    rw [List.replicate_succ, List.replicate_succ, List.flatten_cons, List.flatten_cons]
    exact Vals.append h (Vals.rep h k)
theorem erase_last {α : Type} (l : List α) : l.eraseIdx (l.length - 1) = l.dropLast := by
  induction l with
  | nil => rfl
  | cons a r ih =>
    cases r with
    | nil => rfl
    | cons b r =>
      have e : (a :: b :: r).length - 1 = ((b :: r).length - 1) + 1 := by
        have h1 : (a :: b :: r).length = r.length + 2 := rfl
        have h2 : (b :: r).length = r.length + 1 := rfl
        omega
      rw [e, List.eraseIdx_cons_succ, ih]
      all_goals rfl
section
variable {X : Cx} {pins : List (Addr × Obj)} {σ : St} {H : Hp} {s : Shared} {l b : Addr} {xs ys zs : List V}
theorem Inv.lset {its its' : List Value} {n : Nat} {f : Array Value → Array Value} {t' : Nat} (I : Inv X pins σ H s) (hH : H l = some (.lst xs))
    (e : s.heap.get? l = some { cls := .type "list", data := .seq its.toArray n }) (hf : f its.toArray = its'.toArray) (hv : Vals ys its') (hz : ys.length ≤ sizeLine) :
    Inv X pins σ (upd H l (.lst ys)) { s with heap := s.heap.update l (Obj.mapSeq f), toks := t' } := by
  have q := PySem.IsL.update e f
  rw [hf] at q
  refine I.write (x := l) (e := l) (by rw [hH]; exact trivial) (.inl rfl) (fun b' u hb hu => (Heap.get?_update_other s.heap (Obj.mapSeq f) (Ne.symm hb)).trans hu) ⟨_, q⟩ ?_
  exact ⟨hz, its', _, hv, q⟩
theorem Inv.lnew {its : List Value} {t' : Nat} (I : Inv X pins σ H s) (hv : Vals ys its) (hz : ys.length ≤ sizeLine) :
    Inv X pins σ (upd H s.heap.objs.size (.lst ys)) { s with heap := s.heap.push { cls := .type "list", data := .seq its.toArray }, toks := t' } :=
  I.laid (fun _ _ q => Heap.get?_push_of_some _ q) (Nat.le_refl _) ⟨hz, its, 0, hv, Heap.get?_push_size _ rfl⟩
theorem Inv.fresh (I : Inv X pins σ H s) : H s.heap.objs.size = none := I.hok.fresh (Nat.le_refl _)
theorem Inv.lstM (I : Inv X pins σ H s) (hH : H l = some (.lst xs)) : xs.length ≤ sizeLine ∧ ∃ (its : List Value) (n : Nat), Vals xs its ∧ xs.length = its.length ∧ s.heap.get? l = some { cls := .type "list", data := .seq its.toArray n } := by
  obtain ⟨z, its, n, r, e⟩ := I.hok l _ hH
  exact ⟨z, its, n, r, r.length, e⟩
end
section
variable {X : Cx}
noncomputable def rAppend : V → List V → Hp → VK → Prop := fun x vs H Q => ∃ l xs y, x = .ref l ∧ vs = [y] ∧ H l = some (.lst xs) ∧ xs.length < sizeLine ∧ Q .non (upd H l (.lst (xs ++ [y])))
theorem mt_append : MtM X "list.append" rAppend := by
  intro pins s σ H x vs v us Q I rx rv h
  obtain ⟨l, xs, y, rfl, rfl, hH, hz, q⟩ := h
  cases rx
  obtain ⟨u, rfl, ru⟩ := rv.one
  obtain ⟨z, its, n, r, hl, e⟩ := I.lstM hH
  refine call_meets F.slot_list_append ⟨_, e, rfl⟩ F.entry_list_append (F.args_list_append_2 _ _) (PySem.list_append l its.toArray n u (by rw [List.size_toArray]; omega)) ⟨e, ?_⟩
  refine ⟨.non, _, I.lset (its' := its ++ [u]) hH e (by simp) (r.append (.cons ru .nil)) ?_, rfl, q⟩
  rw [List.length_append, List.length_singleton]
  omega
noncomputable def rPop : V → List V → Hp → VK → Prop := fun x vs H Q => ∃ l xs y, x = .ref l ∧ vs = [] ∧ H l = some (.lst xs) ∧ xs[xs.length - 1]? = some y ∧ Q y (upd H l (.lst xs.dropLast))
theorem mt_pop : MtM X "list.pop" rPop := by
  intro pins s σ H x vs v us Q I rx rv h
  obtain ⟨l, xs, y, rfl, rfl, hH, hy, q⟩ := h
  cases rx
  have hus := rv.zero
  subst hus
  obtain ⟨z, its, n, r, hl, e⟩ := I.lstM hH
  obtain ⟨u, hu, ru⟩ := r.get hy
  have hy' : its.toArray[its.toArray.size - 1]? = some u := by
    show its.toArray[its.length - 1]? = some u
    rw [← Array.getElem?_toList, ← hl]
    exact hu
  refine call_meets F.slot_list_pop ⟨_, e, rfl⟩ F.entry_list_pop (F.args_list_pop_1 _) (MeetsSeq.list_pop_last l its.toArray n u hy' (by rw [List.size_toArray]; omega)) ⟨e, ?_⟩
  refine ⟨y, _, I.lset (its' := its.dropLast) hH e ?_ r.dropLast ?_, ru, q⟩
  · show its.toArray.eraseIdxIfInBounds (its.toArray.size - 1) = its.dropLast.toArray
    rw [List.size_toArray, List.eraseIdxIfInBounds_toArray, erase_last]
  · rw [List.length_dropLast]
    omega
end
section
variable {prog : Program} {w : World} {A : Around} {E : Value → Shared → Prop} {s : Shared}
end
section
variable {X : Cx}
end
end L2
namespace Att
open PySem PySem.W PySem.Calls PyProof.Rows
theorem ints_of_wellAll {P : Params} {h : Heap} : ∀ (ns : List Int) (vs : List Value), WellAll P h vs (ns.map WData.int) → IntsAre vs ns := by
  intro ns
  induction ns with
  | nil =>
    intro vs w
    rw [List.map_nil] at w
    cases w
    exact .nil
  | cons n ns ih =>
    intro vs w
    rw [List.map_cons] at w
    cases w with
    | cons a b =>
      cases a
      exact .cons _ _ (ih _ b)
theorem script_of {l : OpenLaw} {n : Nat} (hn : l.most = some n) {P : Params} {h : Heap} {args : List WData} {vals : List Value}
    (hpre : l.row.toRowW.claim.pre args = true) (hwl : WellAll P h vals args) :
    ∃ a vs ns, vals = [Value.ref a] ∧ args = [WData.list (ns.map WData.int)] ∧ h.get? a = some { cls := .type "list", data := .seq vs.toArray } ∧ IntsAre vs ns ∧ ns.length ≤ n := by
  have hsh : WShape.hasAll [] args [.list .int] = true := (pre_splitW hpre).1
  have hc : l.pre.holds [] { args := args } = true := (pre_splitW hpre).2
  obtain ⟨d, r, rfl, h1, h2⟩ := hasAllW_cons hsh
  obtain rfl := hasAllW_nil h2
  obtain ⟨xs, rfl, h3⟩ := hasW_list h1
  obtain ⟨ns, rfl⟩ := items_int h3
  have hlen : ns.length ≤ n := by
    unfold OpenLaw.pre at hc
    have h4 : (WTm.not (.lt (.lit (.int (n : Int))) (.len (.arg 0)))).holds [] { args := [.list (ns.map .int)] } = true := by
      have h4 := (holds_andW hc).1
      rw [hn] at h4
      exact h4
    have h5 := condW_of h4 (w_not (w_lt w_lit (w_len_list (w_arg rfl))))
    rw [List.length_map] at h5
    refine Nat.le_of_not_lt fun q => ?_
    have q' : (n : Int) < ((ns.length : Nat) : Int) := by omega
    first
      | (rw [decide_eq_true q'] at h5; exact absurd h5 (by decide))
      | (simp at h5; omega)
  cases hwl with
  | cons w1 w2 =>
    cases w2
    cases w1 with
    | list ho hall => exact ⟨_, _, ns, rfl, rfl, ho, ints_of_wellAll ns _ hall, hlen⟩
theorem post_true (l : OpenLaw) (args : List WData) : l.row.toRowW.claim.post args (.bool true) args = true :=
  postW_of (r := l.row.toRowW) (X := (true == true))
    (show WShape.has [] (.bool true) .bool = true by first | rfl | decide | simp [WShape.has, WShape.arms, WShape.armsAll])
    (show (WTm.eq .res (.lit (.bool true))).value [] { args := args, res := some (.bool true), after := args } = some (.bool (true == true)) from w_eq_bool (w_res rfl) w_lit) rfl
theorem attach_call {l : OpenLaw} {n : Nat} {q : Program} {loose : List Str} {XP : (Str → Option Value) → Heap → Prop} {YP : World → Heap → Prop} {d : DefRec}
    (hn : l.most = some n) (hdf : d.params.defaults = [])
    (call : ∀ (w : World) (s₀ s₁ : Shared) (mg mb : Str → Option Value) (fa : Addr) (o : Obj) (pm cd doc : Value) (a : Addr) (vs : List Value) (ns : List Int),
      Ground q loose [] XP w s₀ mg mb s₁.heap → YP w s₁.heap →
      s₁.heap.get? fa = some o → o.data = .func (docDef d.name d.params d.body d.scope pm cd doc) → s₁.heap.CodeRec cd d.name → mg d.name = some (.ref fa) →
      s₁.heap.get? a = some { cls := .type "list", data := .seq vs.toArray } → IntsAre vs ns → ns.length ≤ n → s₁.gens = #[] →
      codeAny (model l.prog w) callerA (.call (.ref fa) ⟨[.ref a], []⟩) (fun r s' => r = .ok (.ret (.bool true)) ∧ OldK s₁.heap s'.heap ∧ s'.os = s₁.os ∧ AllBare s'.gens) s₁) :
    WalkO q loose XP YP l.row.toRowW d [] (fun f vs => PySem.call f vs) := by
  intro w s₀ s₁ mg mb G Y fa o pm cd doc dV kV ho hd hcd hD hmg hg args vals as hpre hlay hrd hwl hlo
  obtain rfl : dV = .none := Dflts.none hD hdf
  obtain rfl : kV = .none := Dflts.noKw hD
  obtain ⟨a, vs, ns, rfl, rfl, hobj, hints, hlen⟩ := script_of hn hpre hwl
  refine enter_call (codeAny_mono (call w s₀ s₁ mg mb fa o pm cd doc a vs ns G Y ho (fd_plain hd) hcd hmg hobj hints hlen hg) fun r s' hq => ?_)
  obtain ⟨rfl, h2, h3, h4⟩ := hq
  exact ⟨.inl ⟨.bool true, .bool true, [], rfl, fun _ => rfl, .bool true, post_true l _, fun _ => ⟨List.Pairwise.nil, fun _ hm => (nomatch hm)⟩⟩, h2, h3, h4⟩
section
variable {prog : Program} {w : World} {A : Around} {E : Value → Shared → Prop} {s : Shared} {K : Frag}
noncomputable def ledger (h : Heap) (L d : Addr) : List (Addr × Obj) := (List.range h.objs.size).filterMap fun a => if a = L ∨ a = d then none else (h.get? a).map fun o => (a, o)
end
end Att
namespace L2
open PySem PySem.Spec PyProof.Rows
theorem vals_ints : ∀ {vs : List Value} {ns : List Int}, IntsAre vs ns → Vals (ns.map V.int) vs
  | _, _, .nil => .nil
  | _, _, .cons n t h => .cons ⟨t, rfl⟩ (vals_ints h)
noncomputable def Only (H : Hp) : Prop := ∀ b, H b = none ∨ ∃ o xs, H b = some (.frz o (.lst xs))
theorem law_call {P : Program} {w : World} {K : PySem.W.Frag} {mg mb : Str → Option Value} {CX : CXT} {k : Nat} {fa a : Addr} {fd : FuncData} {x : Str} {sp : Sp} {s₁ : Shared} {vs : List Value} {ns : List Int}
    (KX : K.In s₁.heap) (hns : s₁.heap.Ns mainGlobals mg) (hb : s₁.heap.Ns builtinsNs mb) (hbb : ∀ x : Str, x ≠ "__name__" → mb x = bootBuiltins x) (hlim : s₁.heap.NoLimit) (hg : s₁.gens = #[])
    (ha : s₁.heap.get? a = some { cls := .type "list", data := .seq vs.toArray }) (hi : IntsAre vs ns) (hl : ns.length ≤ sizeLine) (hr : Room k callerA)
    (F : ∀ base : Heap, K.In base → base.Ns mainGlobals mg → FnOk P w K mg base CX k fa fd [x] sp) (hbind : ∀ (s : Shared) (u : Value), BindsTo s fd ⟨[u], []⟩ [(x, u)])
    (hsp : ∀ H : Hp, Only H → SqL K H a (ns.map V.int) → sp [.ref a] H (fun v _ => v = .bl true) fun _ _ _ => False)
    (hCX : ∀ H e s', CX [] H s₁ (fun _ _ _ => False) e s' → False) :
    codeAny (model P w) callerA (.call (.ref fa) ⟨[.ref a], []⟩) (fun r s' => r = .ok (.ret (.bool true)) ∧ OldK s₁.heap s'.heap ∧ s'.os = s₁.os ∧ AllBare s'.gens) s₁ := by
  have rv := vals_ints hi
  have lenV := hi.length
  -- from an abstract heap in which nothing but the script may be tracked
  have core : ∀ H : Hp, Only H → SqL K H a (ns.map V.int) → HOk P w H s₁.heap → (∀ b, H b ≠ none → b = a) → (H a ≠ none → K.lookup a = none) →
      codeAny (model P w) callerA (.call (.ref fa) ⟨[.ref a], []⟩) (fun r s' => r = .ok (.ret (.bool true)) ∧ OldK s₁.heap s'.heap ∧ s'.os = s₁.os ∧ AllBare s'.gens) s₁ := by
    intro H hO hS hok hA hK
    have base_of : ∀ {b : Addr} {o : Obj}, s₁.heap.get? b = some o → H b = none → (hidT s₁.heap H).get? b = some o := fun e n => hidT_get e n
    have noA : ∀ {b : Addr} {o : Obj} {es : Array DictEntry} {ep : Nat}, s₁.heap.get? b = some o → o.data = .dict es ep → H b = none := fun {b o es ep} e d => by
      cases q : H b with
      | none => rfl
      | some u =>
        have e' : b = a := hA b (by rw [q]; simp)
        subst e'
        rw [ha] at e; cases e
        have d' : Data.seq vs.toArray _ = Data.dict es ep := d
        cases d'
    have nsK : ∀ {b : Addr} {m : Str → Option Value}, s₁.heap.Ns b m → (hidT s₁.heap H).Ns b m := fun {b m} ⟨o, es, ep, e, d, r⟩ => ⟨o, es, ep, base_of e (noA e d), d, r⟩
    have hKb : K.In (hidT s₁.heap H) := fun b o e => base_of (KX b o e) (by
      cases q : H b with
      | none => rfl
      | some u =>
        have e' : b = a := hA b (by rw [q]; simp)
        subst e'
        rw [hK (by rw [q]; simp)] at e; cases e)
    have hM : Mod K mg (hidT s₁.heap H) := ⟨hKb, nsK hns, ⟨mb, nsK hb, hbb⟩, let ⟨mc, h1, h2⟩ := hlim; ⟨mc, nsK h1, h2⟩⟩
    have e0 : Env0 P w K mg (hidT s₁.heap H) callerA [] s₁ H := ⟨rfl, hM, fun b o e => of_hidT e, Nat.le_of_eq (hidT_size _ _), trivial, fun b hb => absurd (show b ∈ ([] : List Addr) from hb) (by simp), hok, .of_eq hg⟩
    refine codeAny_mono ((F _ hKb (nsK hns)).run callerA [] s₁ H ⟨[.ref a], []⟩ [.ref a] [.ref a] _ _ hr e0 (hbind s₁ (.ref a)) (.cons rfl .nil) (hsp H hO hS)) fun r s' h => ?_
    cases r with
    | error e => exact (hCX H e s' h).elim
    | ok fl =>
      cases fl with
      | next => exact False.elim h
      | brk => exact False.elim h
      | cont => exact False.elim h
      | ret u =>
        obtain ⟨v, H', os, bare, un, hok', r', q⟩ := h
        have q' : v = .bl true := q
        subst q'
        obtain rfl : u = Value.bool true := r'
        refine ⟨rfl, OldK.of_keep fun b o e => ?_, os, bare⟩
        cases q : H b with
        | none => exact un.keep b o e q (by intro z; exact absurd (show b ∈ ([] : List Addr) from z) (by simp)) (by simp)
        | some u =>
          rcases hO b with z | ⟨ob, xs, z⟩
          · rw [q] at z; cases z
          · have z2 := un.frzs b ob _ z
            obtain ⟨e1, _⟩ := hok b _ z
            obtain ⟨e2, _⟩ := hok' b _ z2
            rw [e] at e1; cases e1
            exact e2
  cases hk : K.lookup a with
  | some o =>
    -- the script is one of the module's own objects
    have e := KX a o hk
    rw [ha] at e
    cases e
    refine core (fun _ => none) (fun _ => .inl rfl) (.inr ⟨_, vs.toArray, _, hk, rfl, rfl, rfl, by rw [List.size_toArray, lenV]; exact hl, by simpa using rv⟩) (fun b u z => by have z' : (none : Option HO) = some u := z; cases z') (fun b z => absurd rfl z) fun z => absurd rfl z
  | none =>
    refine core (fun b => if b = a then some (.frz { cls := .type "list", data := .seq vs.toArray } (.lst (ns.map V.int))) else none) (fun b => ?_) (.inl (.inr ⟨{ cls := .type "list", data := .seq vs.toArray }, if_pos rfl⟩)) (fun b u z => ?_) (fun b z => ?_) fun _ => hk
    · by_cases hb : b = a
      · exact .inr ⟨_, _, if_pos hb⟩
      · exact .inl (if_neg hb)
    · by_cases hb : b = a
      · have z' := (if_pos hb).symm.trans z
        cases z'
        subst hb
        exact ⟨ha, by rw [List.length_map]; exact hl, vs, _, rv, ha⟩
      · have z' := (if_neg hb).symm.trans z
        cases z'
    · by_cases hb : b = a
      · exact hb
      · exact absurd (if_neg hb) z
end L2
namespace L2
open PySem PySem.Spec PyProof.Rows
theorem walk_of {l : PySem.W.OpenLaw} {n k : Nat} {q : Program} {loose : List Str} {XP : (Str → Option Value) → Heap → Prop} {YP : World → Heap → Prop} {d : DefRec} {K : Params → PySem.W.Frag} {CX : World → CXT} {sp : World → Sp} {x : Str}
    (hn : l.most = some n) (hn2 : n ≤ sizeLine) (hdf : d.params.defaults = []) (hr : Room k callerA)
    (hY : ∀ (w : World) (h : Heap), YP w h → (K w.params).In h)
    (F : ∀ (w : World) (mg : Str → Option Value) (fa : Addr) (h : Heap), (K w.params).In h → h.Ns mainGlobals mg → mg d.name = some (.ref fa) →
      ∃ fd : FuncData, (∀ (s : Shared) (u : Value), BindsTo s fd ⟨[u], []⟩ [(x, u)]) ∧
        ∀ base : Heap, (K w.params).In base → base.Ns mainGlobals mg → FnOk l.prog w (K w.params) mg base (CX w) k fa fd [x] (sp w))
    (hsp : ∀ (w : World) (H : Hp) (a : Addr) (ns : List Int), ns.length ≤ n → Only H → SqL (K w.params) H a (ns.map V.int) → sp w [.ref a] H (fun v _ => v = .bl true) fun _ _ _ => False)
    (hCX : ∀ (w : World) (H : Hp) (s : Shared) (e : Value) (s' : Shared), CX w [] H s (fun _ _ _ => False) e s' → False) :
    PySem.W.WalkO q loose XP YP l.row.toRowW d [] (fun f vs => PySem.call f vs) := by
  refine Att.attach_call hn hdf fun w s₀ s₁ mg mb fa o pm cd doc a vs ns G Y ho hd hcd hmg hobj hints hlen hg => ?_
  have KX := hY w _ Y
  obtain ⟨fd, hb, hF⟩ := F w mg fa _ KX G.T.g hmg
  exact law_call KX G.T.g G.T.b G.T.builtins G.T.nolimit hg hobj hints (Nat.le_trans hlen hn2) hr hF hb (fun H hO hS => hsp w H a ns hlen hO hS) fun H e s' => hCX w H s₁ e s'
end L2
namespace L2
open PySem PySem.Spec PyProof.Rows
noncomputable def defArgs (s : Stmt) : Arguments := match s with
  | .FunctionDef _ a _ _ _ _ _ _ _ _ => a
  | _ => { posonlyargs := [], args := [], vararg := none, kwonlyargs := [], kw_defaults := [], kwarg := none, defaults := [] }
noncomputable def defBody (s : Stmt) : List Stmt := match s with
  | .FunctionDef _ _ b _ _ _ _ _ _ _ => b
  | _ => []
noncomputable def defScope (s : Stmt) : Scope := match s with
  | .FunctionDef _ _ _ _ _ _ sc _ _ _ => sc
  | _ => { kind := .function, names := [], isGenerator := false, isCoroutine := false }
noncomputable abbrev CX0 : CXT := fun _ _ _ _ _ _ => False
structure Fun (K : PySem.W.Frag) (x qual : Str) (st : Stmt) (f : Addr) (fd : FuncData) : Prop where
  ex : ∃ (oc : Value) (od : Option Addr) (kV doc pm : Value) (an : Option Addr) (cdv ct : Value) (osl : Array (Option Value)),
    fd = PySem.W.fnOf x qual (defArgs st) (defBody st) (defScope st) .none kV doc pm an cdv ct ∧ K.lookup f = some ⟨oc, od, .func fd, osl⟩ ∧ PySem.W.codeIn K cdv qual = true
  kp : PySem.W.keepIn K (.ref f) = true
section
variable {P : Program} {w : World} {K : PySem.W.Frag} {mg : Str → Option Value} {base : Heap}
theorem Fun.ok {x qual : Str} {st : Stmt} {f : Addr} {fd : FuncData} {N ps : List Str} {k : Nat} {sp : Sp} (F : Fun K x qual st f fd) (S : FnScope N ps (defScope st)) (len : ∀ vs H Q E, sp vs H Q E → vs.length = ps.length)
    (hbody : ∀ (cdv : Value) (A : Around) (outer : List Env) (s : Shared) (H : Hp) (vs : List V) (Q : VK) (E : XK), Room k (A.deeper (envOfC qual (defScope st) s.heap.objs.size f cdv)) → sp vs H Q E →
      ∃ t, PSs (cxOf CX0 P w K mg base N qual (defScope st) f cdv A outer s H E).nox (defBody st) t ∧ t { nx := fun _ H' => Q .non H', rt := Q } (start N vs) H) : FnOk P w K mg base CX0 (k + 1) f fd ps sp := by
  obtain ⟨oc, od, kV, doc, pm, an, cdv, ct, osl, rfl, lk, hcd⟩ := F.ex
  refine fn_of lk hcd S len fun A outer s H vs Q E hr hsp => ?_
  obtain ⟨t, h, q⟩ := hbody cdv A outer s H vs Q E hr hsp
  exact ⟨t, h.nox, q⟩
theorem Fun.binds {x qual : Str} {st : Stmt} {f : Addr} {fd : FuncData} {ps : List Str} (F : Fun K x qual st f fd)
    (h : ∀ (kV doc pm : Value) (an : Option Addr) (cdv ct : Value) (us : List Value), us.length = ps.length → bindArgs (PySem.W.fnOf x qual (defArgs st) (defBody st) (defScope st) .none kV doc pm an cdv ct) ⟨us, []⟩ = pure (ps.zip us)) : Binds K fd ps [] := by
  obtain ⟨oc, od, kV, doc, pm, an, cdv, ct, osl, rfl, lk, hcd⟩ := F.ex
  exact .all (h kV doc pm an cdv ct)
theorem fun_mk {x qual : Str} {st : Stmt} {f : Addr} {oc : Value} {od an : Option Addr} {osl : Array (Option Value)} {kV doc pm cdv ct : Value} (l : K.lookup f = some ⟨oc, od, .func (PySem.W.fnOf x qual (defArgs st) (defBody st) (defScope st) .none kV doc pm an cdv ct), osl⟩)
    (c : PySem.W.codeIn K cdv qual = true) (k : PySem.W.keepIn K (.ref f) = true) : Fun K x qual st f (PySem.W.fnOf x qual (defArgs st) (defBody st) (defScope st) .none kV doc pm an cdv ct) := ⟨⟨oc, od, kV, doc, pm, an, cdv, ct, osl, rfl, l, c⟩, k⟩
end
section
variable {X : Cx}
end
noncomputable def Same (H H' : Hp) : Prop := ∀ b o, H b = some o → H' b = some o
theorem Same.refl (H : Hp) : Same H H := fun _ _ h => h
theorem Same.trans {H H1 H2 : Hp} (a : Same H H1) (b : Same H1 H2) : Same H H2 := fun c o h => b c o (a c o h)
theorem Same.free {H H' : Hp} (e : Same H H') {l : Addr} (h : H' l = Option.none) : H l = Option.none := by
  cases q : H l with
  | none => rfl
  | some o =>
    rw [e l o q] at h
    cases h
theorem Same.seq {K : PySem.W.Frag} {H H' : Hp} {a : Addr} {xs : List V} (e : Same H H') (h : SqL K H a xs) : SqL K H' a xs := by
  rcases h with (h | ⟨o, h⟩) | h
  · exact .inl (.inl (e _ _ h))
  · exact .inl (.inr ⟨o, e _ _ h⟩)
  · exact .inr h
end L2
namespace L2
open PySem PySem.Spec PyProof.Rows
theorem bt_len : bootBuiltins "len" = some (.builtin "len") := by decide +kernel
theorem bt_abs : bootBuiltins "abs" = some (.builtin "abs") := by decide +kernel
theorem bt_min : bootBuiltins "min" = some (.builtin "min") := by decide +kernel
theorem bt_isinstance : bootBuiltins "isinstance" = some (.builtin "isinstance") := by decide +kernel
theorem bt_list : bootBuiltins "list" = some (.type "list") := by decide +kernel
theorem bt_tuple : bootBuiltins "tuple" = some (.type "tuple") := by decide +kernel
theorem bt_int : bootBuiltins "int" = some (.type "int") := by decide +kernel
theorem bt_bool : bootBuiltins "bool" = some (.type "bool") := by decide +kernel
noncomputable def Fit (n : Nat) (x : Int) : Prop := x.natAbs < 2 ^ n
theorem Fit.le {n : Nat} {x y : Int} (h : Fit n y) (e : x.natAbs ≤ y.natAbs) : Fit n x := Nat.lt_of_le_of_lt e h
theorem Fit.mono {m n : Nat} {x : Int} (h : Fit m x) (e : m ≤ n) : Fit n x := Nat.lt_of_lt_of_le h (Nat.pow_le_pow_right (by decide) e)
theorem Fit.neg {n : Nat} {x : Int} (h : Fit n x) : Fit n (-x) := h.le (by omega)
theorem Fit.add {m n k : Nat} {x y : Int} (h : Fit m x) (g : Fit n y) (e : max m n + 1 ≤ k) : Fit k (x + y) := by
  have a : Fit (max m n) x := h.mono (Nat.le_max_left ..)
  have b : Fit (max m n) y := g.mono (Nat.le_max_right ..)
  have c : 2 ^ (max m n + 1) = 2 ^ max m n + 2 ^ max m n := by rw [Nat.pow_succ]; omega
  have d : (x + y).natAbs < 2 ^ (max m n + 1) := by
    rw [c]
    have := Int.natAbs_add_le x y
    unfold Fit at a b
    omega
  exact Fit.mono (m := max m n + 1) d e
theorem Fit.sub {m n k : Nat} {x y : Int} (h : Fit m x) (g : Fit n y) (e : max m n + 1 ≤ k) : Fit k (x - y) := by
  rw [Int.sub_eq_add_neg]
  exact h.add g.neg e
theorem Fit.mod {n : Nat} {x y : Int} (hy : 0 < y) (h : Fit n y) : Fit n (x % y) := h.le (by
  have a := Int.emod_nonneg x (Int.ne_of_gt hy)
  have b := Int.emod_lt_of_pos x hy
  omega)
theorem Fit.fdiv {n : Nat} {x y : Int} (h : Fit n x) : Fit n (x.fdiv y) := intBits_le_iff.mp (intBits_fdiv_le (intBits_le_iff.mpr h))
theorem Fit.log2 {n : Nat} {x : Int} (h : Fit n x) (e : n ≤ 9000 := by decide) : x.natAbs.log2 < 9000 := by
  by_cases h0 : x.natAbs = 0
  · rw [h0]; decide
  · exact Nat.lt_of_lt_of_le ((Nat.log2_lt h0).mpr h) e
theorem mok_l {i j : Int} (h1 : -(2 ^ 64) < i) (h2 : i < 2 ^ 64) : IntMulOk i j := .of_left (intBits_le_64 h1 h2)
theorem mok_r {i j : Int} (h1 : -(2 ^ 64) < j) (h2 : j < 2 ^ 64) : IntMulOk i j := .of_right (intBits_le_64 h1 h2)
section
variable {X : Cx}
theorem op_mulB : OpR X (binaryOp .Mult) (rI IntMulOk fun i j => .int (i * j)) := opI fun _ _ _ _ _ _ _ hc q => mul_int q hc
noncomputable def CDivZ (_ j : Int) : Prop := j ≠ 0 ∧ j.natAbs.log2 < 9000
theorem op_fdivZ : OpR X (binaryOp .FloorDiv) (rI CDivZ fun i j => .int (i.fdiv j)) := opI fun _ _ _ _ _ _ _ hc q => floordiv_int hc.1 q (.inl (PyProof.noPylong_of_log2 hc.2))
theorem pe_ty {x : Str} {n : String} {pos : Pos} (hg : Gl X x) (hm : X.mg x = none) (hv : bootBuiltins x = some (.type n)) (hn : x ≠ "__name__" := by decide) (hd : (x == ("__debug__" : Str)) = false := by decide) : PE X (.Name x pos) (tC (.ty n)) := pe_bltn (v := .ty n) hg hm hv rfl hn hd
end
noncomputable def kyD : Key → PyData
  | .inl i => .int i
  | .inr x => .str x
noncomputable def InsAt (K : PySem.W.Frag) (H : Hp) (a : Addr) (ks : List PyData) (xs : List V) : Prop :=
  ∃ (nm : Str) (fs : List Str) (C dx : Addr) (vs : List V), xs = .str nm :: vs ∧ ks = .none :: fs.map PyData.str ∧ fs.length = vs.length ∧ H a = some (.ins C dx (fs.zip vs)) ∧ H dx = some (.own a) ∧ PySem.W.nsIn K mainGlobals nm = some (some (.ref C))
noncomputable def DctAt (H : Hp) (a : Addr) (ks : List PyData) (xs : List V) : Prop := ∃ (ms : List Key), ks = ms.map kyD ∧ ms.length = xs.length ∧ H a = some (.dK (ms.zip xs))
mutual
noncomputable def Rep (K : PySem.W.Frag) (H : Hp) : PyData → V → Prop
  | .none, v => v = .non
  | .bool b, v => v = .bl b
  | .int i, v => v = .int i
  | .str x, v => v = .str x
  | .list ds, v => ∃ (a : Addr) (xs : List V), v = .ref a ∧ SqL K H a xs ∧ RepAll K H ds xs
  | .tuple ds, v => ∃ (a : Addr) (xs : List V), v = .ref a ∧ SqT K H a xs ∧ RepAll K H ds xs
  | .dict kvs, v => ∃ (a : Addr) (xs : List V), v = .ref a ∧ (InsAt K H a (kvs.map Prod.fst) xs ∨ DctAt H a (kvs.map Prod.fst) xs) ∧ RepKV K H kvs xs
noncomputable def RepAll (K : PySem.W.Frag) (H : Hp) : List PyData → List V → Prop
  | [], xs => xs = []
  | d :: ds, xs => ∃ (x : V) (r : List V), xs = x :: r ∧ Rep K H d x ∧ RepAll K H ds r
noncomputable def RepKV (K : PySem.W.Frag) (H : Hp) : List (PyData × PyData) → List V → Prop
  | [], xs => xs = []
  | (_, d) :: ds, xs => ∃ (x : V) (r : List V), xs = x :: r ∧ Rep K H d x ∧ RepKV K H ds r
end
section
variable {X : Cx} {pins : List (Addr × Obj)} {σ : St} {H : Hp} {s : Shared}
mutual
theorem Rep.reads (I : Inv X pins σ H s) : ∀ (d : PyData) (v : V) (u : Value), d.canLay0 = true → Rep X.K H d v → RelV v u → ∃ as, Reads s.heap u d as
  | .none, v, u, _, h, r => by
    unfold Rep at h; subst h
    cases (show u = Value.none from r); exact ⟨_, .none⟩
  | .bool b, v, u, _, h, r => by
    unfold Rep at h; subst h
    cases (show u = Value.bool b from r); exact ⟨_, .bool b⟩
  | .int i, v, u, _, h, r => by
    unfold Rep at h; subst h
    obtain ⟨t, rfl⟩ := (show ∃ t, u = Value.int i t from r); exact ⟨_, .int i t⟩
  | .str x, v, u, _, h, r => by
    unfold Rep at h; subst h
    obtain ⟨t, rfl⟩ := (show ∃ t, u = Value.str x t from r); exact ⟨_, .str x t⟩
  | .list ds, v, u, l, h, r => by
    unfold Rep at h
    obtain ⟨a, xs, rfl, hs, ha⟩ := h
    cases (show u = Value.ref a from r)
    obtain ⟨its, rv, p, _⟩ := I.list hs
    obtain ⟨as, q⟩ := RepAll.reads I ds xs its (by simpa [PyData.canLay0] using l) ha rv
    obtain ⟨o, ho, hc, n, hd⟩ := p.isList
    exact ⟨_, .list ho hc hd (by simpa using q)⟩
  | .tuple ds, v, u, l, h, r => by
    unfold Rep at h
    obtain ⟨a, xs, rfl, hs, ha⟩ := h
    cases (show u = Value.ref a from r)
    obtain ⟨its, rv, p, _⟩ := I.tuple hs
    obtain ⟨as, q⟩ := RepAll.reads I ds xs its (by simpa [PyData.canLay0] using l) ha rv
    obtain ⟨o, ho, hc, n, hd⟩ := p
    exact ⟨_, .tuple ho hc hd (by simpa using q)⟩
  | .dict _, v, u, l, h, r => by
    simp [PyData.canLay0] at l
theorem RepAll.reads (I : Inv X pins σ H s) : ∀ (ds : List PyData) (xs : List V) (us : List Value), PyData.canLayAll0 ds = true → RepAll X.K H ds xs → Vals xs us → ∃ as, ReadsAll s.heap us ds as
  | [], xs, us, _, h, r => by
    unfold RepAll at h; subst h
    cases r; exact ⟨_, .nil⟩
  | d :: ds, xs, us, l, h, r => by
    unfold RepAll at h
    obtain ⟨x, t, rfl, hx, ht⟩ := h
    simp only [PyData.canLayAll0, Bool.and_eq_true] at l
    cases r with
    | cons rx rt =>
      obtain ⟨as, p⟩ := Rep.reads I d x _ l.1 hx rx
      obtain ⟨bs, q⟩ := RepAll.reads I ds t _ l.2 ht rt
      exact ⟨_, .cons p q⟩
end
end
theorem lay_shaped {d : PyData} (h : SeqAt.shaped d = true) : d.canLay0 = true := by
  unfold SeqAt.shaped at h
  rw [Bool.and_eq_true] at h
  exact h.1
section
variable {X : Cx}
theorem op_eqD (hu : X.A.units + 64 < cLine) : OpR X (compareOp .Eq) (fun x y H Q => ∃ d e, Rep X.K H d x ∧ Rep X.K H e y ∧ SeqAt.shaped d = true ∧ SeqAt.shaped e = true ∧ Q (.bl (PyData.eqv d e)) H) := by
  intro pins s σ H x y v u Q I rx ry h
  obtain ⟨d, e, hd, he, sd, se, q⟩ := h
  obtain ⟨as, ra⟩ := Rep.reads I d x v (lay_shaped sd) hd rx
  obtain ⟨bs, rb⟩ := Rep.reads I e y u (lay_shaped se) he ry
  exact SeqAt.compareEq_shaped ra rb sd se hu (fin_bl I q rfl)
theorem op_neD (hu : X.A.units + 64 < cLine) : OpR X (compareOp .NotEq) (fun x y H Q => ∃ d e, Rep X.K H d x ∧ Rep X.K H e y ∧ SeqAt.shaped d = true ∧ SeqAt.shaped e = true ∧ Q (.bl (!PyData.eqv d e)) H) := by
  intro pins s σ H x y v u Q I rx ry h
  obtain ⟨d, e, hd, he, sd, se, q⟩ := h
  obtain ⟨as, ra⟩ := Rep.reads I d x v (lay_shaped sd) hd rx
  obtain ⟨bs, rb⟩ := Rep.reads I e y u (lay_shaped se) he ry
  exact SeqAt.compareNe_reads ra rb (SeqAt.canLay_of_shaped sd) (SeqAt.canLay_of_shaped se) (SeqAt.room_of_shaped sd hu) (fin_bl I q rfl)
end
theorem same_new {H : Hp} {p : Addr} (h : H p = none) (o : HO) : Same H (upd H p o) := fun b u q => by rw [upd_ne (ne_of_none q h)]; exact q
theorem Same.seqT {K : PySem.W.Frag} {H H' : Hp} {a : Addr} {xs : List V} (e : Same H H') (h : SqT K H a xs) : SqT K H' a xs := by
  rcases h with (h | ⟨o, h⟩) | h
  · exact .inl (.inl (e _ _ h))
  · exact .inl (.inr ⟨o, e _ _ h⟩)
  · exact .inr h
theorem Same.rd {H H' : Hp} {a : Addr} {u : HO} (e : Same H H') (h : Rd H a u) : Rd H' a u := h.elim (fun h => .inl (e _ _ h)) fun ⟨o, h⟩ => .inr ⟨o, e _ _ h⟩
mutual
theorem Same.rep {K : PySem.W.Frag} {H H' : Hp} (e : Same H H') : ∀ (d : PyData) (v : V), Rep K H d v → Rep K H' d v
  | .none, v, h => by unfold Rep at h ⊢; exact h
  | .bool b, v, h => by unfold Rep at h ⊢; exact h
  | .int i, v, h => by unfold Rep at h ⊢; exact h
  | .str x, v, h => by unfold Rep at h ⊢; exact h
  | .list ds, v, h => by
    unfold Rep at h ⊢
    obtain ⟨a, xs, rfl, hs, ha⟩ := h
    exact ⟨a, xs, rfl, e.seq hs, Same.repAll e ds xs ha⟩
  | .tuple ds, v, h => by
    unfold Rep at h ⊢
    obtain ⟨a, xs, rfl, hs, ha⟩ := h
    exact ⟨a, xs, rfl, e.seqT hs, Same.repAll e ds xs ha⟩
  | .dict kvs, v, h => by
    unfold Rep at h ⊢
    obtain ⟨a, xs, rfl, hs, ha⟩ := h
    refine ⟨a, xs, rfl, ?_, Same.repKV e kvs xs ha⟩
    rcases hs with ⟨nm, fs, C, dx, vs, h1, h2, h3, h4, h5, h6⟩ | ⟨ms, h1, h2, h3⟩
    · exact .inl ⟨nm, fs, C, dx, vs, h1, h2, h3, e _ _ h4, e _ _ h5, h6⟩
    · exact .inr ⟨ms, h1, h2, e _ _ h3⟩
theorem Same.repAll {K : PySem.W.Frag} {H H' : Hp} (e : Same H H') : ∀ (ds : List PyData) (xs : List V), RepAll K H ds xs → RepAll K H' ds xs
  | [], xs, h => by unfold RepAll at h ⊢; exact h
  | d :: ds, xs, h => by
    unfold RepAll at h ⊢
    obtain ⟨x, t, rfl, hx, ht⟩ := h
    exact ⟨x, t, rfl, Same.rep e d x hx, Same.repAll e ds t ht⟩
theorem Same.repKV {K : PySem.W.Frag} {H H' : Hp} (e : Same H H') : ∀ (ds : List (PyData × PyData)) (xs : List V), RepKV K H ds xs → RepKV K H' ds xs
  | [], xs, h => by unfold RepKV at h ⊢; exact h
  | (_, d) :: ds, xs, h => by
    unfold RepKV at h ⊢
    obtain ⟨x, t, rfl, hx, ht⟩ := h
    exact ⟨x, t, rfl, Same.rep e d x hx, Same.repKV e ds t ht⟩
end
theorem repKV_of {K : PySem.W.Frag} {H : Hp} : ∀ {ks ds : List PyData} {xs : List V}, ks.length = ds.length → RepAll K H ds xs → RepKV K H (ks.zip ds) xs
  | [], [], xs, _, h => by unfold RepAll at h; unfold List.zip List.zipWith RepKV; exact h
  | k :: ks, d :: ds, xs, l, h => by
    unfold RepAll at h
    obtain ⟨x, t, rfl, hx, ht⟩ := h
    rw [List.zip_cons_cons]
    unfold RepKV
    exact ⟨x, t, rfl, hx, repKV_of (by simpa using l) ht⟩
theorem RepKV.all {K : PySem.W.Frag} {H : Hp} : ∀ {kvs : List (PyData × PyData)} {xs : List V}, RepKV K H kvs xs → RepAll K H (kvs.map Prod.snd) xs
  | [], xs, h => by unfold RepKV at h; unfold List.map RepAll; exact h
  | (_, d) :: ds, xs, h => by
    unfold RepKV at h
    obtain ⟨x, t, rfl, hx, ht⟩ := h
    rw [List.map_cons]
    unfold RepAll
    exact ⟨x, t, rfl, hx, RepKV.all ht⟩
theorem cpw {i : Int} {j : Int} (h : 0 ≤ j) (h1 : j ≤ 1000000) (h2 : i.natAbs < 2 ^ 64) : CPow i j := ⟨h, h1, h2⟩
theorem SqL.keep {K : PySem.W.Frag} {H H' : Hp} {a : Addr} {xs : List V} (h : SqL K H a xs) (k : H' a = H a) : SqL K H' a xs := by
  unfold SqL Rd at h ⊢
  rw [k]
  exact h
theorem SqT.keep {K : PySem.W.Frag} {H H' : Hp} {a : Addr} {xs : List V} (h : SqT K H a xs) (k : H' a = H a) : SqT K H' a xs := by
  unfold SqT Rd at h ⊢
  rw [k]
  exact h
noncomputable def Kept (f : Addr) (H H' : Hp) : Prop := ∀ b o, b ≠ f → H b = some o → H' b = some o
theorem Kept.refl {f : Addr} (H : Hp) : Kept f H H := fun _ _ _ h => h
theorem Kept.trans {f : Addr} {H H1 H2 : Hp} (a : Kept f H H1) (b : Kept f H1 H2) : Kept f H H2 := fun c o n h => b c o n (a c o n h)
theorem Same.kept {f : Addr} {H H' : Hp} (a : Same H H') : Kept f H H' := fun c o _ h => a c o h
noncomputable def Feed (sc : Addr) (rest : List V) (H : Hp) (f : Addr) : Prop := ∃ (ns : List Int) (at_ : Int), H f = some (.lst (.ref sc :: .int at_ :: rest)) ∧ H sc = some (.lst (ns.map V.int)) ∧ ns.length ≤ 1000 ∧ 0 ≤ at_ ∧ sc ≠ f
theorem Feed.lst {sc : Addr} {rest : List V} {H : Hp} {f : Addr} (h : Feed sc rest H f) : ∃ ys, H f = some (.lst ys) := let ⟨_, _, e, _⟩ := h; ⟨_, e⟩
theorem Feed.ne {sc : Addr} {rest : List V} {H : Hp} {f p : Addr} (h : Feed sc rest H f) (e : H p = none) : p ≠ f := fun z => by
  obtain ⟨o, q⟩ := h.lst
  rw [← z, e] at q
  cases q
theorem Feed.ne2 {sc : Addr} {rest : List V} {H : Hp} {f p : Addr} (h : Feed sc rest H f) (e : H p = none) : p ≠ sc := fun z => by
  obtain ⟨_, _, _, q, _⟩ := h
  rw [← z, e] at q
  cases q
theorem Feed.upd {sc : Addr} {rest : List V} {H : Hp} {f p : Addr} {o : HO} (h : Feed sc rest H f) (e : p ≠ f) (e2 : p ≠ sc) : Feed sc rest (L2.upd H p o) f := by
  obtain ⟨ns, k, h1, h2, h3, h4, h5⟩ := h
  exact ⟨ns, k, by rw [upd_ne (Ne.symm e)]; exact h1, by rw [upd_ne (Ne.symm e2)]; exact h2, h3, h4, h5⟩
theorem Feed.new {sc : Addr} {rest : List V} {H : Hp} {f p : Addr} {o : HO} (h : Feed sc rest H f) (e : H p = none) : Feed sc rest (L2.upd H p o) f := h.upd (h.ne e) (h.ne2 e)
theorem pw9 : (10 : Int) ^ (9 : Int).toNat = 1000000000 := by decide +kernel
end L2
set_option maxRecDepth 100000
set_option maxHeartbeats 4000000
namespace L2
open PySem PySem.Spec PyProof.Rows
noncomputable def closL (cells : List (Str × Addr)) : List (Str × NameKind) → List (Str × Addr) → List (Str × Addr)
  | [], acc => acc
  | (n, k) :: r, acc => if k == .free then (match cells.lookup n with | some a => closL cells r ((n, a) :: acc) | none => closL cells r acc) else closL cells r acc
noncomputable def freeIn (cells : List (Str × Addr)) (names : List (Str × NameKind)) : Prop := ∀ n, (n, NameKind.free) ∈ names → ∃ c, cells.lookup n = some c
theorem clos_loop {env : Env} : ∀ (names : List (Str × NameKind)) (acc : List (Str × Addr)), freeIn env.cells names →
    (forIn names acc fun (x : Str × NameKind) (cs : List (Str × Addr)) => (if x.2 == .free then do let c ← cellOf env x.1; pure (ForInStep.yield ((x.1, c) :: cs)) else pure (ForInStep.yield cs) : Sem (ForInStep (List (Str × Addr))))) = pure (closL env.cells names acc)
  | [], acc, _ => by rfl
  | (n, k) :: r, acc, h => by
    have hr : freeIn env.cells r := fun m hm => h m (List.mem_cons_of_mem _ hm)
    rw [List.forIn_cons]
    unfold closL
    cases hk : k == NameKind.free with
    | false =>
      rw [if_neg (by simp [hk]), if_neg (by simp)]
      exact clos_loop r acc hr
    | true =>
      rw [if_pos (by simp [hk]), if_pos rfl]
      have e : k = .free := by cases k <;> first | rfl | exact absurd hk (by decide)
      obtain ⟨c, hc⟩ := h n (by rw [e]; exact List.mem_cons_self)
      rw [hc]
      have e2 : cellOf env n = pure c := by unfold cellOf; rw [hc]
      rw [show cellOf env (n, k).1 = pure c from e2]
      exact clos_loop r ((n, c) :: acc) hr
theorem clos_eq {scope : Scope} {env : Env} (h : freeIn env.cells scope.names) : closureFor scope env = pure (closL env.cells scope.names []) := by
  have e := clos_loop (env := env) scope.names [] h
  unfold closureFor
  exact (congrArg (fun m => m >>= fun cs => (pure cs : Sem (List (Str × Addr)))) e).trans rfl
theorem closL_mem {cells : List (Str × Addr)} {n : Str} {c : Addr} : ∀ (names : List (Str × NameKind)) (acc : List (Str × Addr)), (∀ n c, (n, c) ∈ acc → cells.lookup n = some c) → (n, c) ∈ closL cells names acc → cells.lookup n = some c
  | [], acc, ha, h => ha _ _ h
  | (m, k) :: r, acc, ha, h => by
    unfold closL at h
    split at h
    · split at h
      · rename_i a hm
        refine closL_mem r _ (fun n' c' hn => ?_) h
        rcases List.mem_cons.mp hn with e | hn
        · cases e; exact hm
        · exact ha _ _ hn
      · exact closL_mem r _ ha h
    · exact closL_mem r _ ha h
theorem closL_of {cells : List (Str × Addr)} {scope : Scope} {n : Str} {c : Addr} (h : (closL cells scope.names []).lookup n = some c) : cells.lookup n = some c :=
  closL_mem scope.names [] (fun _ _ h => absurd h (by simp)) (PySem.mem_of_lookup h)
theorem closL_acc {cells : List (Str × Addr)} {n : Str} {c : Addr} : ∀ (names : List (Str × NameKind)) (acc : List (Str × Addr)), (n, c) ∈ acc → (n, c) ∈ closL cells names acc
  | [], _, h => h
  | (m, k) :: r, acc, h => by
    unfold closL
    split
    · split
      · exact closL_acc r _ (List.mem_cons_of_mem _ h)
      · exact closL_acc r _ h
    · exact closL_acc r _ h
theorem closL_in {cells : List (Str × Addr)} {n : Str} {c : Addr} (hc : cells.lookup n = some c) : ∀ (names : List (Str × NameKind)) (acc : List (Str × Addr)), (n, NameKind.free) ∈ names → (n, c) ∈ closL cells names acc
  | (m, k) :: r, acc, h => by
    unfold closL
    rcases List.mem_cons.mp h with e | h
    · cases e
      rw [if_pos (by decide), hc]
      exact closL_acc r _ List.mem_cons_self
    · split
      · split
        · exact closL_in hc r _ h
        · exact closL_in hc r _ h
      · exact closL_in hc r _ h
theorem lookup_isSome {α : Type} {n : Str} {c : α} : ∀ {l : List (Str × α)}, (n, c) ∈ l → ∃ d, l.lookup n = some d
  | (m, d) :: r, h => by
    rw [List.lookup_cons]
    cases e : n == m with
    | true => exact ⟨d, rfl⟩
    | false =>
      rcases List.mem_cons.mp h with q | q
      · cases q; simp at e
      · exact lookup_isSome q
theorem closL_look {cells : List (Str × Addr)} {scope : Scope} {n : Str} {c : Addr} (h : scope.names.lookup n = some .free) (hc : cells.lookup n = some c) : (closL cells scope.names []).lookup n = some c := by
  obtain ⟨d, hd⟩ := lookup_isSome (closL_in hc scope.names [] (PySem.mem_of_lookup h))
  have := closL_of hd
  rw [hc] at this; cases this
  exact hd
theorem relabel_kind {scope : Scope} {env : Env} {x : Str} : (relabel scope env).names.lookup x = (scope.names.lookup x).map fun k => if (k == .free && env.scope.kind == .function && env.kindOf x == some .cell) then .cell else k := by
  unfold relabel
  show List.lookup x (scope.names.map _) = _
  induction scope.names with
  | nil => rfl
  | cons p r ih =>
    obtain ⟨n, k⟩ := p
    show List.lookup x ((if (k == NameKind.free && env.scope.kind == .function && env.kindOf n == some .cell) = true then (n, NameKind.cell) else (n, k)) :: _) = _
    cases hx : x == n with
    | true =>
      have e : x = n := by simpa using hx
      subst e
      cases hc : (k == NameKind.free && env.scope.kind == .function && env.kindOf x == some .cell) with
      | true => rw [if_pos rfl, List.lookup_cons, List.lookup_cons]; simp only [beq_self_eq_true, Option.map_some, hc, if_true]
      | false => rw [if_neg (by simp), List.lookup_cons, List.lookup_cons]; simp only [beq_self_eq_true, Option.map_some, hc]; rfl
    | false =>
      have e : ∀ k', List.lookup x ((n, k') :: (r.map fun (n, k) => if (k == NameKind.free && env.scope.kind == .function && env.kindOf n == some .cell) = true then (n, NameKind.cell) else (n, k))) = List.lookup x (r.map fun (n, k) => if (k == NameKind.free && env.scope.kind == .function && env.kindOf n == some .cell) = true then (n, NameKind.cell) else (n, k)) := fun k' => by rw [List.lookup_cons, hx]
      have e2 : List.lookup x ((n, k) :: r) = List.lookup x r := by rw [List.lookup_cons, hx]
      rw [e2, ← ih]
      split <;> exact e _
noncomputable def hideN (xs N : List Str) : List Str := N.map fun n => if xs.contains n then ("." : Str) ++ n else n
noncomputable def compOk (N xs : List Str) (names onames : List (Str × NameKind)) : Bool :=
  (names.all fun p => p.2 != .cell) && (names.all fun p => p.2 != .local || names.lookup p.1 == some .local) && (names.all fun p => p.2 != .free || (onames.lookup p.1 == some .cell || onames.lookup p.1 == some .free)) &&
    xs.all (fun x => names.lookup x == some .local) && ((hideN xs N).zip N).all fun p => names.lookup p.1 == none || names.lookup p.1 == some .globalImplicit || (names.lookup p.1 == some .free && p.1 == p.2)
end L2
namespace L2
open PySem PySem.Spec PyProof.Rows
noncomputable abbrev blockCx (X : Cx) (xs : List Str) (scope : Scope) (C : Addr) (fp : List Addr) (s : Shared) (H : Hp) : Cx :=
  { X with N := xs ++ hideN xs X.N, s₀ := s, H₀ := H, env := compEnvC scope (closL X.env.cells scope.names []) C X.env, outer := X.stack, ex := fp, fn := fun _ => false, pn := [], xe := fun _ _ => False }
section
variable {X : Cx} {pins : List (Addr × Obj)} {σ : St} {H H' : Hp} {s s' : Shared} {a : Addr} {o : HO}
theorem HOk.adopt {P : Program} {w : World} {h : Heap} (x : HOk P w H h) (hn : H a = none) (new : ObjOk P w (upd H a o) h a o) : HOk P w (upd H a o) h := fun b u e => by
  by_cases hb : b = a
  · subst hb; rw [upd_same] at e; cases e; exact new
  · rw [upd_ne hb] at e
    exact (x b u e).stay (fun _ _ _ q => q) (fun c q => by rw [upd_ne (ne_of_none q hn)]; exact q) fun c xs q => by rw [upd_ne (ne_of_none q hn)]; exact q
theorem Inv.adopt (I : Inv X pins σ H s) (hn : H a = none) (ha : X.s₀.heap.objs.size ≤ a) (hL : a ≠ X.env.locals) (hc : ∀ x c, X.env.cells.lookup x = some c → c ≠ a) (hp : ∀ p ∈ X.pn ++ pins, p.1 ≠ a)
    (new : ObjOk X.prog X.w (upd H a o) s.heap a o) : Inv X pins σ (upd H a o) s := by
  refine ⟨I.ok, I.os, I.bare, ⟨I.base.keep, I.base.slot, fun b u e n hx => ?_, I.base.there, fun b xs e => ?_, fun b u v e => ?_, fun b ps e => ?_⟩, I.loc, I.cell, ?_, fun x c e => ?_, fun p h => ?_, I.hok.adopt hn new, I.len⟩
  · rw [upd_ne (Nat.ne_of_lt (Nat.lt_of_lt_of_le (Heap.lt_size e) ha))]; exact I.base.free b u e n hx
  · have q := I.base.tups b xs e; rw [upd_ne (ne_of_none q hn)]; exact q
  · have q := I.base.frzs b u v e; rw [upd_ne (ne_of_none q hn)]; exact q
  · obtain ⟨more, q⟩ := I.base.tbls b ps e; exact ⟨more, by rw [upd_ne (ne_of_none q hn)]; exact q⟩
  · rw [upd_ne (Ne.symm hL)]; exact I.free
  · rw [upd_ne (hc x c e)]; exact I.freeC x c e
  · obtain ⟨e, n, ne, nf, d⟩ := I.pin p h
    exact ⟨e, by rw [upd_ne (hp p h)]; exact n, ne, nf, d⟩
theorem compOk_cell {N xs : List Str} {names on : List (Str × NameKind)} (h : compOk N xs names on = true) : ∀ y ∈ names, y.2 ≠ .cell := fun y hy e => by
  unfold compOk at h
  simp only [Bool.and_eq_true, List.all_eq_true] at h
  have := h.1.1.1.1 y hy
  rw [e] at this
  exact absurd this (by decide)
theorem compOk_local {N xs : List Str} {names on : List (Str × NameKind)} (h : compOk N xs names on = true) : ∀ y ∈ names, y.2 = .local → names.lookup y.1 = some .local := fun y hy e => by
  unfold compOk at h
  simp only [Bool.and_eq_true, List.all_eq_true] at h
  have := h.1.1.1.2 y hy
  rw [e] at this
  simpa using this
theorem compOk_free {N xs : List Str} {names on : List (Str × NameKind)} (h : compOk N xs names on = true) : ∀ n, (n, NameKind.free) ∈ names → on.lookup n = some .cell ∨ on.lookup n = some .free := fun n hn => by
  unfold compOk at h
  simp only [Bool.and_eq_true, List.all_eq_true] at h
  have := h.1.1.2 _ hn
  simpa using this
theorem compOk_slot {N xs : List Str} {names on : List (Str × NameKind)} (h : compOk N xs names on = true) {i : Nat} {y : Str} (e : (hideN xs N)[i]? = some y) : (names.lookup y = some .free ∧ N[i]? = some y) ∨ names.lookup y = none ∨ names.lookup y = some .globalImplicit := by
  unfold compOk at h
  simp only [Bool.and_eq_true] at h
  have hl : (hideN xs N).length = N.length := by unfold hideN; rw [List.length_map]
  obtain ⟨hi, ei⟩ := List.getElem?_eq_some_iff.mp e
  have hz : ((hideN xs N).zip N)[i]? = some (y, N[i]) := by
    rw [List.getElem?_zip_eq_some]
    exact ⟨e, List.getElem?_eq_getElem (by omega)⟩
  have q := List.all_eq_true.mp h.2 _ (List.mem_of_getElem? hz)
  simp only [Bool.or_eq_true, Bool.and_eq_true, beq_iff_eq] at q
  rcases q with (q | q) | ⟨q, q2⟩
  · exact .inr (.inl q)
  · exact .inr (.inr q)
  · exact .inl ⟨q, by rw [List.getElem?_eq_getElem (by omega), ← q2]⟩
theorem Inv.freeIn {xs : List Str} {scope : Scope} (I : Inv X pins σ H s) (hok : compOk X.N xs scope.names X.env.scope.names = true) : freeIn X.env.cells scope.names := fun n hn => I.ok.has n (compOk_free hok n hn)
theorem relabel_vis {scope : Scope} {env : Env} {x : Str} (h : (relabel scope env).names.lookup x = some .cell ∨ (relabel scope env).names.lookup x = some .free) (hc : ∀ y ∈ scope.names, y.2 ≠ .cell) : scope.names.lookup x = some .free := by
  rw [relabel_kind] at h
  cases e : scope.names.lookup x with
  | none => rw [e] at h; simp at h
  | some k =>
    rw [e] at h
    cases k with
    | free => rfl
    | cell => exact absurd rfl (hc _ (PySem.mem_of_lookup e))
    | _ => simp at h
theorem Inv.block {xs : List Str} {scope : Scope} {fp : List Addr} {C : Addr} {m : Str → Option Value} (I : Inv X pins σ H s) (hok : compOk X.N xs scope.names X.env.scope.names = true) (hk : scope.kind = .function) (hfp : ∀ b ∈ fp, FpOk X pins H b)
    (hobj : ∀ b ∈ fp, ∃ o, s.heap.get? b = some o) (hC : s.heap.objs.size ≤ C) (hns : s'.heap.Ns C m) (keep : ∀ b o, s.heap.get? b = some o → s'.heap.get? b = some o) (hos : s'.os = s.os) (hg : AllBare s'.gens) :
    Inv (blockCx X xs scope C fp s H) [] (List.replicate xs.length none ++ σ) H s' := by
  have hcell := compOk_cell hok
  have hno : ∀ x c, (closL X.env.cells scope.names []).lookup x = some c → X.env.cells.lookup x = some c := fun x c h => closL_of h
  have ltf : ∀ b ∈ fp, b < s.heap.objs.size := fun b hb => let ⟨_, e⟩ := hobj b hb; Heap.lt_size e
  refine ⟨⟨I.ok.mod, hk, I.ok.glob, I.ok.blt, hC, fun x y c h1 h2 => I.ok.inj x y c (hno _ _ h1) (hno _ _ h2), fun x hx => ?_, fun x c h _ => absurd h (by simp), I.ok.hd, I.ok.frames, .inl rfl, fun b hb => ⟨?_, fun x c h => (hfp b hb).2.2.2.2.1 x c (hno _ _ h)⟩, I.bs, Nat.le_trans I.ok.bsz I.sz, fun b u e hb => ?_, fun b hb hf => ?_, I.stack, I.stkFree⟩,
    hos, hg, Un.kept keep, ⟨m, hns, fun i x v e1 e2 e3 => ?_⟩, fun x c h => ?_, I.hok.fresh hC, fun x c h => I.freeC x c (hno _ _ h), fun p hp => absurd (show p ∈ ([] : List (Addr × Obj)) from hp) (by simp), I.hok.kept keep, ?_⟩
  · have hf := relabel_vis (show (relabel scope X.env).names.lookup x = some .cell ∨ (relabel scope X.env).names.lookup x = some .free from hx) hcell
    obtain ⟨c, hc⟩ := I.freeIn hok x (PySem.mem_of_lookup hf)
    exact ⟨c, closL_look hf hc⟩
  · exact Nat.ne_of_lt (Nat.lt_of_lt_of_le (ltf b hb) hC)
  · rcases (hfp b hb).2.2.2.1 with z | z
    · exact I.ok.noex b u e z
    · exact absurd (Nat.lt_of_lt_of_le (Heap.lt_size e) (Nat.le_trans I.ok.bsz z)) (Nat.lt_irrefl _)
  · rcases List.mem_cons.mp (I.stkSub b hf) with z | z
    · exact (hfp b hb).2.1 z
    · exact (hfp b hb).2.2.1 z
  · have e1 : (xs ++ hideN xs X.N)[i]? = some x := e1
    by_cases hi : i < xs.length
    · rw [List.getElem?_append_left (by simpa using hi), List.getElem?_replicate, if_pos hi] at e2
      cases e2
    · rw [List.getElem?_append_right (by omega)] at e1
      rw [List.getElem?_append_right (by rw [List.length_replicate]; omega), List.length_replicate] at e2
      rcases compOk_slot hok e1 with ⟨q1, q2⟩ | q | q
      · have kd := compOk_free hok x (PySem.mem_of_lookup q1)
        obtain ⟨m0, _, hl⟩ := I.loc
        obtain ⟨u, ru, lk⟩ := hl _ x v q2 e2 (by rcases kd with z | z; exact .inr (.inl z); exact .inr (.inr z))
        refine ⟨u, ru, .inr ⟨?_, ?_⟩⟩
        · show (relabel scope X.env).names.lookup x = some .cell ∨ (relabel scope X.env).names.lookup x = some .free
          rw [relabel_kind, q1]
          by_cases hc : (NameKind.free == NameKind.free && X.env.scope.kind == .function && X.env.kindOf x == some .cell) = true
          · left; rw [Option.map_some, if_pos hc]
          · right; rw [Option.map_some, if_neg hc]
        · rcases lk with ⟨z, _⟩ | ⟨_, c, hc, hcell⟩
          · have z : X.env.scope.names.lookup x = some .local := z
            rw [z] at kd; rcases kd with kd | kd <;> cases kd
          · refine ⟨c, closL_look q1 hc, ?_⟩
            obtain ⟨oc, hoc, hd⟩ := hcell
            exact ⟨oc, keep _ _ hoc, hd⟩
      all_goals
        have e3 : (relabel scope X.env).names.lookup x = some .local ∨ (relabel scope X.env).names.lookup x = some .cell ∨ (relabel scope X.env).names.lookup x = some .free := e3
        rw [relabel_kind, q] at e3
        simp at e3
  · obtain ⟨v, oc, hoc, hd⟩ := I.cell x c (hno _ _ h)
    exact ⟨v, oc, keep _ _ hoc, hd⟩
  · show (List.replicate xs.length none ++ σ).length = (xs ++ hideN xs X.N).length
    rw [List.length_append, List.length_append, List.length_replicate, I.len]
    unfold hideN
    rw [List.length_map]
theorem Inv.unblock {xs : List Str} {scope : Scope} {fp : List Addr} {C : Addr} {pins' : List (Addr × Obj)} {σ' : St} (I : Inv X pins σ H s) (hfp : ∀ b ∈ fp, FpOk X pins H b) (J : Inv (blockCx X xs scope C fp s H) pins' σ' H' s') : Inv X pins σ H' s' :=
  I.call' (ch := fp) J.os J.base J.hok J.bare fun b hb => ⟨(hfp b hb).2.2.2.1, (hfp b hb).2.1, (hfp b hb).2.2.2.2.1, (hfp b hb).2.2.2.2.2⟩
end
theorem codeAny_compLoop_all {prog : Program} {w : World} {A : Around} {R : Result → Shared → Prop} {s : Shared} {elt target iter : Expr} {ifs : List Expr} {scope : Scope} {pos : Pos} {it acc : Value} {env : Env} (I : Nat → Shared → Prop)
    (turn : ∀ n s, I n s → wpAny (model prog w) A (pyNext it) (fun r s₁ => match r with
      | none => R (.ok .next) s₁
      | some v => wpAny (model prog w) A (letOwnedTupleGo target it v) (fun _ s₁' => wpAny (model prog w) A (assign target env v) (fun _ s₂ =>
          wpAny (model prog w) A (forIn ifs true fun c r => if r = true then do let ok ← isTrue c env (eval c env); pure (ForInStep.yield ok) else pure (ForInStep.yield r)) (fun ok s₃ =>
            if ok = true then wpAny (model prog w) A (eval elt env) (fun x s₄ =>
              wpAny (model prog w) A (call (.builtin "list.append") [acc, x]) (fun _ s₅ => ∃ m, m < n ∧ I m s₅) (fun _ _ => False) s₄) (fun _ _ => False) s₃
            else ∃ m, m < n ∧ I m s₃) (fun _ _ => False) s₂) (fun _ _ => False) s₁') (fun _ _ => False) s₁) (fun _ _ => False) s)
    (n : Nat) (h : I n s) : codeAny (model prog w) A (.compLoop (.ListComp elt [⟨target, iter, ifs, 0⟩] scope pos) 0 it acc env) R s := by
  refine codeAny_loop rfl I (fun n s hI => ?_) n h
  show wpAny _ A ((compTurn (.ListComp elt [⟨target, iter, ifs, 0⟩] scope pos) 0 it acc env).onRaise (fun x => do noteFrame x env; theTreesLotGoes x)) _ _ s
  refine wpAny_noted ?_
  rw [compTurn_list]
  refine wpAny_bind (wpAny_standAt (wpAny_bind (wpAny_mono (turn n s hI) (fun r s₁ h₁ => ?_) fun _ _ h' => h'.elim)))
  cases r with
  | none => exact wpAny_pure h₁
  | some v =>
    refine wpAny_bind (wpAny_mono h₁ (fun _ s₁' h₁' => ?_) fun _ _ h' => h'.elim)
    refine wpAny_bind (wpAny_mono h₁' (fun _ s₂ h₂ => wpAny_bind (wpAny_mono h₂ (fun ok s₃ h₃ => ?_) fun _ _ h' => h'.elim)) fun _ _ h' => h'.elim)
    cases ok with
    | false => exact wpAny_pure ⟨rfl, h₃⟩
    | true =>
      exact wpAny_bind (wpAny_bind (wpAny_mono h₃ (fun x s₄ h₄ => wpAny_bind (wpAny_mono h₄ (fun _ s₅ h₅ => wpAny_pure (wpAny_pure ⟨rfl, h₅⟩)) fun _ _ h' => h'.elim)) fun _ _ h' => h'.elim))
noncomputable def PIf (X : Cx) (ifs : List Expr) (t : TT) : Prop :=
  ∀ (pins : List (Addr × Obj)) (s : Shared) (σ : St) (H : Hp) (Q : Bool → Hp → Prop), Inv X pins σ H s → t σ H Q →
    wpAny (model X.prog X.w) X.A (forIn ifs true fun c r => if r = true then do let ok ← isTrue c X.env (eval c X.env); pure (ForInStep.yield ok) else pure (ForInStep.yield r)) (TP X pins σ Q) X.xe s
theorem pif_nil {X : Cx} : PIf X [] (fun _ H Q => Q true H) := fun _ _ _ H _ I h => wpAny_tests_nil ⟨H, I, h⟩
noncomputable def tComp (k : Nat) (wi : TI) (g : TG) (ti : TT) (te : TE) : TE := fun σ H Q => wi σ H fun J H1 => ∃ W : Nat → Nat → List V → St → Hp → Prop, (∃ m, W 0 m [] (List.replicate k none ++ σ) H1) ∧ ∀ i m ys σ' H', W i m ys σ' H' →
  (J.stop i H' ∧ ∀ p, H' p = none → Q (.ref p) (upd H' p (.lst ys))) ∨
  (J.go i H' ∧ ys.length < sizeLine ∧ ∃ N : List V → St → Hp → Prop, (∀ zs σ'' H'', N zs σ'' H'' → ∃ m', m' < m ∧ W (i + 1) m' zs σ'' H'') ∧
    ∀ x H2, J.yld i H' x H2 → g x σ' H2 fun σ2 H3 => ti σ2 H3 fun b H4 => if b = true then te σ2 H4 fun y H5 => N (ys ++ [y]) σ2 H5 else N ys σ2 H4)
section
variable {X : Cx} {pos : Pos} {tg elt iter : Expr} {ifs : List Expr} {scope : Scope} {xs : List Str} {wi : TI} {g : TG} {ti : TT} {te : TE}
theorem comp_block {pins : List (Addr × Obj)} {σ : St} {s : Shared} {Q : VK} {itv : Value} {E : Value → Shared → Prop} {R : Value → Addr → Result → Shared → Prop} (hc : X.calm = true) (hk : scope.kind = .function) (hok : compOk X.N xs scope.names X.env.scope.names = true)
    (hg : ∀ C fp s H, PG (blockCx X xs scope C fp s H) tg g) (hif : ∀ C fp s H, PIf (blockCx X xs scope C fp s H) ifs ti) (he : ∀ C fp s H, PE (blockCx X xs scope C fp s H) elt te)
    (h : PIE X pins σ tg (fun J H1 => ∃ W : Nat → Nat → List V → St → Hp → Prop, (∃ m, W 0 m [] (List.replicate xs.length none ++ σ) H1) ∧ ∀ i m ys σ' H', W i m ys σ' H' →
      (J.stop i H' ∧ ∀ p, H' p = none → Q (.ref p) (upd H' p (.lst ys))) ∨
      (J.go i H' ∧ ys.length < sizeLine ∧ ∃ N : List V → St → Hp → Prop, (∀ zs σ'' H'', N zs σ'' H'' → ∃ m', m' < m ∧ W (i + 1) m' zs σ'' H'') ∧
        ∀ x H2, J.yld i H' x H2 → g x σ' H2 fun σ2 H3 => ti σ2 H3 fun b H4 => if b = true then te σ2 H4 fun y H5 => N (ys ++ [y]) σ2 H5 else N ys σ2 H4)) itv s)
    (hR : ∀ D C H' m s', Inv X pins σ H' s' → Q (.ref D) H' → s'.heap.Ns C m → H' C = none → X.s₀.heap.objs.size ≤ C → C ≠ X.env.locals → (∀ x c, X.env.cells.lookup x = some c → c ≠ C) → (∀ p ∈ X.pn ++ pins, p.1 ≠ C) → R (.ref D) C (.ok .next) s') :
    wpAny (model X.prog X.w) X.A (newList []) (fun acc s₃ => wpAny (model X.prog X.w) X.A (newFunctionEnv scope X.env.globals (closL X.env.cells scope.names []) [] X.env.qual none .none (some X.env)) (fun cenv s₄ =>
      codeAny (model X.prog X.w) X.A (.compStart (.ListComp elt [⟨tg, iter, ifs, 0⟩] scope pos) 0 itv acc { cenv with scope := relabel scope X.env }) (R acc cenv.locals) s₄) E s₃) E s := by
  obtain ⟨it, fp, tn, J, H1, rfl, I, T, st0, hfp, W, ⟨m0, w0⟩, turn⟩ := h
  have hcell := compOk_cell hok
  refine wpAny_newObj_type (wpAny_newFunctionEnv hcell (by intro y hy; simp at hy) (fun h₁ hns₁ hsb₁ => ?_) hk)
  dsimp only at hns₁ hsb₁ ⊢
  generalize hH2 : s.heap.push { cls := .type "list", dict := none, data := .seq ([] : List Value).toArray } = G2 at hns₁ hsb₁ ⊢
  have hC : G2.objs.size = s.heap.objs.size + 1 := by rw [← hH2, Heap.size_push]
  have hDC : s.heap.objs.size ≠ G2.objs.size := by rw [hC]; exact Nat.ne_of_lt (Nat.lt_succ_self _)
  have hCle : s.heap.objs.size ≤ G2.objs.size := by rw [hC]; exact Nat.le_succ _
  have old : ∀ b o, s.heap.get? b = some o → h₁.get? b = some o := fun b o e => hsb₁.extBut b o (Nat.ne_of_lt (Nat.lt_of_lt_of_le (Heap.lt_size e) hCle)) (Heap.get?_push_of_some _ (hH2 ▸ Heap.get?_push_of_some _ e))
  have hacc : h₁.get? s.heap.objs.size = some { cls := .type "list", data := .seq ([] : List Value).toArray 0 } := hsb₁.extBut _ _ hDC (Heap.get?_push_of_some _ (hH2 ▸ Heap.get?_push_size _ rfl))
  have objs : ∀ b ∈ fp, ∃ o, s.heap.get? b = some o := fun b hb => let ⟨o, e, _⟩ := T.obj 0 _ st0 b hb; ⟨o, e⟩
  have ltf : ∀ b ∈ fp, b < s.heap.objs.size := fun b hb => let ⟨_, e⟩ := objs b hb; Heap.lt_size e
  generalize hD : s.heap.objs.size = D at *
  generalize hCC : G2.objs.size = C at *
  have J0 : Inv (blockCx X xs scope C fp s H1) [] (List.replicate xs.length none ++ σ) H1 { s with heap := h₁, toks := s.toks + ([] : List (Str × Value)).length } :=
    I.block hok hk hfp objs (by rw [hD]; exact hCle) hns₁ old rfl I.bare
  have cD : ∀ x c, X.env.cells.lookup x = some c → c ≠ D ∧ c ≠ C := fun x c h => by
    obtain ⟨v, q⟩ := I.cell x c h
    have := q.lt
    rw [hD] at this
    exact ⟨Nat.ne_of_lt this, Nat.ne_of_lt (Nat.lt_of_lt_of_le this hCle)⟩
  have pD : ∀ p ∈ X.pn ++ pins, p.1 ≠ D ∧ p.1 ≠ C := fun p hp => by
    have := Heap.lt_size (I.pin p hp).1
    rw [hD] at this
    exact ⟨Nat.ne_of_lt this, Nat.ne_of_lt (Nat.lt_of_lt_of_le this hCle)⟩
  have lL := I.lt
  have lS := I.sz
  rw [hD] at lL lS
  have lSC : X.s₀.heap.objs.size ≤ C := Nat.le_trans lS hCle
  have lLD : D ≠ X.env.locals := Nat.ne_of_gt lL
  have lLC : C ≠ X.env.locals := Nat.ne_of_gt (Nat.lt_of_lt_of_le lL hCle)
  have Dfs : D ∉ frs X.stack := fun z => by
    obtain ⟨_, o, ho, _⟩ := (I.stack).mem z
    have := Heap.lt_size ho
    rw [hD] at this
    exact Nat.lt_irrefl _ this
  have fpb : ∀ {H' : Hp} {ob : Obj}, (∀ b ∈ fp, H' b = none) → ∀ b ∈ fp, FpOk (blockCx X xs scope C fp s H1) [(D, ob)] H' b := fun {H' ob} hn b hb =>
    ⟨hn b hb, Nat.ne_of_lt (Nat.lt_of_lt_of_le (ltf b hb) hCle), fun z => by
      rcases List.mem_cons.mp (I.stkSub b z) with z | z
      · exact (hfp b hb).2.1 z
      · exact (hfp b hb).2.2.1 z, .inl hb, fun x c h => (hfp b hb).2.2.2.2.1 x c (closL_of h), fun p hp => by
        have e : p = (D, ob) := by simpa using hp
        rw [e]
        exact Nat.ne_of_gt (ltf b hb)⟩
  have loop : ∀ s₃ : Shared, s₃ = { s with heap := h₁, toks := s.toks + ([] : List (Str × Value)).length } →
      codeAny (model X.prog X.w) X.A (.compLoop (.ListComp elt [⟨tg, iter, ifs, 0⟩] scope pos) 0 (.ref it) (.ref D) (compEnvC scope (closL X.env.cells scope.names []) C X.env)) (R (.ref D) C) s₃ := by
    rintro s₃ rfl
    refine codeAny_compLoop_all (fun n s' => ∃ i σ' H' ys its k, Inv (blockCx X xs scope C fp s H1) [] σ' H' s' ∧ tn i s'.heap ∧ (∀ b ∈ fp, H' b = none) ∧ W i n ys σ' H' ∧ Vals ys its ∧ ys.length ≤ sizeLine ∧
      s'.heap.get? D = some { cls := .type "list", data := .seq its.toArray k } ∧ H' D = none) ?_ m0 ⟨0, _, H1, [], [], 0, J0, T.keep _ _ _ st0 fun b hb o e => old b o e, fun b hb => (hfp b hb).1, w0, .nil, Nat.zero_le _, hacc, I.hok.fresh (by rw [hD]; exact Nat.le_refl _)⟩
    rintro n s1 ⟨i, σ1, K1, ys, its, k, I1, st1, fr1, w1, rv, hz, hd, nd⟩
    have lys := rv.length
    generalize hob : ({ cls := .type "list", data := .seq its.toArray k } : Obj) = ob at hd
    have I1' : Inv (blockCx X xs scope C fp s H1) [(D, ob)] σ1 K1 s1 := I1.pins_of fun p hp => by
      have e : p = (D, ob) := by simpa using hp
      rw [e]
      exact ⟨hd, nd, hDC, Dfs, fun v => by rw [← hob]; exact fun z => by cases z⟩
    rcases turn i n ys σ1 K1 w1 with ⟨stop, qn⟩ | ⟨go, hlt, N, hN, step⟩
    · refine thn (T.done (blockCx X xs scope C fp s H1) rfl rfl rfl hc i [(D, ob)] s1 σ1 K1 (fun _ _ => False) I1' (fpb fr1) st1 stop) fun r s2 ⟨hr, I2⟩ => ?_
      subst hr
      have un := I.unblock hfp I2
      have hd2 := (I2.pin (D, ob) (by simp)).1
      obtain ⟨m2, hn2, _⟩ := I2.loc
      refine hR D C (upd K1 D (.lst ys)) m2 s2 (un.adopt nd lS lLD (fun x c h => (cD x c h).1) (fun p hp => (pD p hp).1) ⟨hz, its, k, rv, by rw [hob]; exact hd2⟩) (qn D nd) hn2 ?_ lSC lLC (fun x c h => (cD x c h).2) fun p hp => (pD p hp).2
      rw [upd_ne (Ne.symm hDC)]
      exact I2.free
    · refine thn (T.item (blockCx X xs scope C fp s H1) rfl rfl rfl hc i [(D, ob)] s1 σ1 K1 (fun _ _ => False) I1' (fpb fr1) st1 go) fun r s2 ⟨u, hr, h2⟩ => ?_
      subst hr
      refine thn h2 fun _ s3 ⟨x, H3, I3, r3, y3, st3, fr3⟩ => ?_
      have I3' := I3.pinned (fpb fr3) (T.obj _ _ st3)
      have again : ∀ {σ7 : St} {H7 : Hp} {s7 : Shared}, Inv (blockCx X xs scope C fp s H1) ([(D, ob)] ++ pinsAt fp s3.heap) σ7 H7 s7 → Inv (blockCx X xs scope C fp s H1) [] σ7 H7 s7 ∧ tn (i + 1) s7.heap ∧ (∀ b ∈ fp, H7 b = none) ∧ s7.heap.get? D = some ob ∧ H7 D = none := fun {σ7 H7 s7} I7 => by
        have pi : ∀ b ∈ fp, ∀ o, s3.heap.get? b = some o → s7.heap.get? b = some o ∧ H7 b = none := fun b hb o e => by
          have q := I7.pin (b, o) (List.mem_append_right _ (List.mem_append_right _ (mem_pinsAt hb e)))
          exact ⟨q.1, q.2.1⟩
        have pd := I7.pin (D, ob) (List.mem_append_right _ (List.mem_append_left _ (by simp)))
        refine ⟨I7.pins_of fun p hp => absurd hp (by simp), T.keep _ _ _ st3 fun b hb o e => (pi b hb o e).1, fun b hb => ?_, pd.1, pd.2.1⟩
        obtain ⟨o, e, _⟩ := T.obj _ _ st3 b hb
        exact (pi b hb o e).2
      refine thn (hg C fp s H1 _ s3 σ1 H3 x u _ I3' r3 (step x H3 y3)) fun _ s4 ⟨σ4, H4, I4, q4⟩ => ?_
      refine thn (hif C fp s H1 _ s4 σ4 H4 _ I4 q4) fun b s5 ⟨H5, I5, q5⟩ => ?_
      cases b with
      | false =>
        rw [if_neg Bool.false_ne_true] at q5 ⊢
        obtain ⟨m', hm, w5⟩ := hN _ _ _ q5
        obtain ⟨a1, a2, a3, a4, a5⟩ := again I5
        exact ⟨m', hm, i + 1, σ4, H5, ys, its, k, a1, a2, a3, w5, rv, hz, by rw [hob]; exact a4, a5⟩
      | true =>
        rw [if_pos rfl] at q5 ⊢
        refine thn (he C fp s H1 _ s5 σ4 H5 _ I5 q5) fun y s6 ⟨yv, H6, I6, r6, q6⟩ => ?_
        obtain ⟨m', hm, w6⟩ := hN _ _ _ q6
        obtain ⟨a1, a2, a3, a4, a5⟩ := again I6
        rw [← hob] at a4
        refine call_meets F.slot_list_append ⟨_, a4, rfl⟩ F.entry_list_append (F.args_list_append_2 _ _) (PySem.list_append D its.toArray k y (by rw [List.size_toArray]; omega)) ⟨a4, ?_⟩
        have qd : ∃ k', (s6.heap.update D (Obj.mapSeq fun z => z.push y)).get? D = some { cls := .type "list", data := .seq (its ++ [y]).toArray k' } := by
          have e : (its ++ [y]).toArray = its.toArray.push y := by simp
          rw [e]
          exact ⟨_, PySem.IsL.update a4 fun z => z.push y⟩
        obtain ⟨k', qd⟩ := qd
        refine ⟨m', hm, i + 1, σ4, H6, ys ++ [yv], its ++ [y], k', a1.turned (it := D) (t' := s6.toks) (fun b o hb e => (Heap.get?_update_other s6.heap _ (Ne.symm hb)).trans e) a5 hDC (.inr (Nat.le_of_eq hD)) (fun x c h => (cD x c (closL_of h)).1) (fun p hp => absurd (show p ∈ ([] : List (Addr × Obj)) from hp) (by simp)), ?_, a3, w6, rv.append (.cons r6 .nil), by rw [List.length_append]; exact hlt, qd, a5⟩
        exact T.keep _ _ _ a2 fun b hb o e => (Heap.get?_update_other s6.heap _ (fun z => by rw [← z] at hb; exact absurd (ltf D hb) (Nat.lt_irrefl _))).trans e
  exact codeAny_compStart_list (loop _ rfl) (T.self _ 0 _ _ _ (T.keep _ _ _ st0 fun b hb o e => old b o e) (loop _ rfl))
theorem pe_lcomp (hc : X.calm = true) (hi : PI X tg iter wi) (hg : ∀ C fp s H, PG (blockCx X xs scope C fp s H) tg g) (hif : ∀ C fp s H, PIf (blockCx X xs scope C fp s H) ifs ti) (he : ∀ C fp s H, PE (blockCx X xs scope C fp s H) elt te)
    (hk : scope.kind = .function := by rfl) (hok : compOk X.N xs scope.names X.env.scope.names = true := by rfl) (hs : ∀ x, foldedSetIterable iter X.env x = pure x := by intro _; rfl) :
    PE X (.ListComp elt [⟨tg, iter, ifs, 0⟩] scope pos) (tComp xs.length wi g ti te) := by
  intro pins s σ H Q I h
  rw [eval_ListComp]
  refine wpAny_comprehension_free (use := none) rfl hs (clos_eq (I.freeIn hok)) hk (compOk_local hok) (thn (hi pins s σ H _ I h) fun v s1 h1 => thn h1 fun itv s2 h2 => ?_)
  refine comp_block (Q := Q) hc hk hok hg hif he h2 fun D C H' m s' I' q hn c1 c2 c3 c4 c5 => ?_
  exact ⟨m, hn, fun h' sb => ⟨.ref D, H', I'.turned (it := C) (t' := s'.toks) (fun b o hb e => (sb.2 b hb).trans e) c1 c3 (.inr c2) c4 c5, rfl, q⟩⟩
theorem ps_set_lcomp {i : Nat} {x : Str} {pos' spos : Pos} (hc : X.calm = true) (hN : X.N.Nodup) (hx : X.N[i]? = some x) (hl : X.env.scope.names.lookup x = some .local) (hi : PI X tg iter wi) (hg : ∀ C fp s H, PG (blockCx X xs scope C fp s H) tg g) (hif : ∀ C fp s H, PIf (blockCx X xs scope C fp s H) ifs ti) (he : ∀ C fp s H, PE (blockCx X xs scope C fp s H) elt te)
    (hsw : swapsWith (.ListComp elt [⟨tg, iter, ifs, 0⟩] scope pos) (some (.Name x pos')) spos.line X.env = pure true := by rfl)
    (hk : scope.kind = .function := by rfl) (hok : compOk X.N xs scope.names X.env.scope.names = true := by rfl) (hs : ∀ x, foldedSetIterable iter X.env x = pure x := by intro _; rfl) :
    PS X (.Assign [.Name x pos'] (.ListComp elt [⟨tg, iter, ifs, 0⟩] scope pos) spos) (tAsg (tComp xs.length wi g ti te) (gName i)) := by
  intro pins s σ H D I h
  rw [exec_Assign_Name_used _ _ _ _ hsw]
  refine wpAny_bind (wpAny_standAt (wpAny_bind ?_))
  show wpAny _ X.A (do let _ ← comprehension (.ListComp elt [⟨tg, iter, ifs, 0⟩] scope pos) scope X.env _ (newList []) false (eval iter X.env) (some (assign (.Name x pos') X.env))) _ _ s
  refine wpAny_bind (wpAny_mono (wpAny_comprehension_free (use := some (assign (.Name x pos') X.env)) (Q := fun _ s' => SP X pins D .next s') rfl hs (clos_eq (I.freeIn hok)) hk (compOk_local hok)
    (thn (hi pins s σ H _ I h) fun v s1 h1 => thn h1 fun itv s2 h2 => ?_)) (fun _ s' hq => wpAny_pure (wpAny_pure hq)) fun _ _ e => e)
  refine comp_block (Q := fun v H' => D.nx (σ.set i (some v)) H') hc hk hok hg hif he h2 fun D' C H' m s' I' q hn c1 c2 c3 c4 c5 => ?_
  show wpAny _ X.A (assign (.Name x pos') X.env (.ref D')) _ _ _
  refine wpAny_assign_Name (store_ok2 I' hN hx (.inl hl) (v := .ref D') rfl (fun s'' I'' ⟨a, sb, ha⟩ => ?_) (.inr hl))
  have hCa : C ≠ a := by
    rcases ha with e | e
    · rw [e]; exact c3
    · exact Ne.symm (c4 _ _ e)
  exact ⟨m, hn.sameBut sb hCa, fun h' sb' => ⟨_, H', I''.turned (it := C) (t' := s''.toks) (fun b o hb e => (sb'.2 b hb).trans e) c1 c3 (.inr c2) c4 c5, q⟩⟩
end
end L2
namespace L2
open PySem PySem.Spec PyProof.Rows
noncomputable def ExcAt (h : Heap) (e : Addr) (cls : Value) (ch : List Addr) : Prop :=
  ∃ oe vs, h.get? e = some oe ∧ (oe.cls = cls ∧ oe.dict = none) ∧ oe.data = .fields vs ∧ 1 < vs.size ∧
    ((vs[1]? = some .none ∧ ch = [e]) ∨ ∃ T oT ts fl, vs[1]? = some (.ref T) ∧ ch = [e, T] ∧ T ≠ e ∧ h.get? T = some oT ∧ oT.data = .fields ts ∧ ts[3]? = some fl)
theorem dict_mapFields (o : Obj) (f : Array Value → Array Value) : (o.mapFields f).dict = o.dict := by
  unfold Obj.mapFields
  split <;> rfl
structure XT (fs ch : List Addr) (h h' : Heap) : Prop where
  keep : ∀ b o, b ∉ ch → b ∉ fs → h.get? b = some o → h'.get? b = some o
  slot : ∀ b o, b ∉ ch → h.get? b = some o → ∃ sl, h'.get? b = some { o with slots := sl }
  there : ∀ b o, h.get? b = some o → ∃ o', h'.get? b = some o'
theorem XT.refl {fs ch : List Addr} {h : Heap} : XT fs ch h h := ⟨fun _ _ _ _ e => e, fun _ o _ e => ⟨o.slots, e⟩, fun _ o e => ⟨o, e⟩⟩
theorem XT.trans {fs ch ch' : List Addr} {h h1 h2 : Heap} (a : XT fs ch h h1) (b : XT fs ch' h1 h2) (hc : ∀ x ∈ ch', x ∈ ch ∨ h.get? x = none) : XT fs ch h h2 where
  keep := fun x o n1 n2 e => b.keep x o (fun m => (hc x m).elim n1 fun z => by rw [z] at e; cases e) n2 (a.keep x o n1 n2 e)
  slot := fun x o n1 e => by
    obtain ⟨sl, e1⟩ := a.slot x o n1 e
    obtain ⟨sl2, e2⟩ := b.slot x _ (fun m => (hc x m).elim n1 fun z => by rw [z] at e; cases e) e1
    exact ⟨sl2, e2⟩
  there := fun x o e => by
    obtain ⟨o1, e1⟩ := a.there x o e
    exact b.there x o1 e1
theorem XT.mono {fs ch ch' : List Addr} {h h' : Heap} (a : XT fs ch h h') (hc : ∀ x ∈ ch, x ∈ ch' ∨ h.get? x = none) : XT fs ch' h h' where
  keep := fun x o n1 n2 e => a.keep x o (fun m => (hc x m).elim n1 fun z => by rw [z] at e; cases e) n2 e
  slot := fun x o n1 e => a.slot x o (fun m => (hc x m).elim n1 fun z => by rw [z] at e; cases e) e
  there := a.there
section
variable {M : Model} {A : Around} {E : Value → Shared → Prop} {s : Shared} {base : Heap} {env : Env} {outer : List Env} {L e : Addr} {cls : Value} {ch : List Addr} {Q : Unit → Shared → Prop}
theorem FunFrames.noFields {h : Heap} {l : List Env} {o : Obj} {vs : Array Value} (hl : h.FunFrames base l) (he : h.get? e = some o) (hd : o.data = .fields vs) : e ∉ frs l := fun hm => by
  obtain ⟨_, o', ho, hnf⟩ := hl.mem hm
  rw [he] at ho; cases ho
  exact hnf vs hd
theorem entry_x {oe : Obj} {vs : Array Value} {head : Value} {hadNext : Bool}
    (hfr : A.frames = some (env :: outer)) (hl : s.heap.FunFrames base (env :: outer)) (hf : env.frame = some L)
    (he : s.heap.get? e = some oe) (hd : oe.data = .fields vs) (hsz : 1 < vs.size)
    (h : ∀ h', XT (frs (env :: outer)) [e] s.heap h' → (∃ oe' vs' T oT ts, h'.get? e = some oe' ∧ (oe'.cls = oe.cls ∧ oe'.dict = oe.dict) ∧ oe'.data = .fields vs' ∧ 1 < vs'.size ∧ vs'[1]? = some (.ref T) ∧ T ≠ e ∧ s.heap.get? T = none ∧ s.heap.objs.size ≤ T ∧ h'.get? T = some oT ∧ oT.data = .fields ts ∧ ts[3]? = some (rawInt L)) → Q () { s with heap := h' }) :
    wpAny M A (do let a ← frameOf env; let pl ← entryPlaceOf L hadNext; let b ← EntryCells.newEntry head a .none (rawInt L) .none pl; setField (.ref e) 1 b) Q E s := by
  have hene := FunFrames.noFields hl he hd
  refine wpAny_bind (wpAny_frameOf_fun hfr hl hf fun h₁ hs₁ => ?_)
  refine wpAny_bind (wpAny_entryPlaceOf fun pl hpl => ?_)
  unfold EntryCells.newEntry newFields
  refine wpAny_bind (wpAny_newObj_type ?_ (hpl.sizeOk5 _ _ _ _ _))
  have he₁ : h₁.get? e = some oe := (hs₁.2.1 e hene).trans he
  have he₂ := Heap.get?_push_of_some (h := h₁) { cls := .type "traceback", dict := none, data := .fields ([head, .ref L, .none, rawInt L, .none] ++ (if pl.isEmpty then List.replicate 6 Value.none else pl)).toArray } he₁
  refine wpAny_setField he₂ hd hsz (h _ ?_ ?_)
  all_goals have hTe : h₁.objs.size ≠ e := Nat.ne_of_gt (Heap.lt_size he₁)
  all_goals have hd₃ := Obj.data_mapFields hd (·.setIfInBounds 1 (Value.ref h₁.objs.size))
  all_goals have he₃ := Heap.get?_update_self (Obj.mapFields (·.setIfInBounds 1 (Value.ref h₁.objs.size))) he₂ (Obj.isFreed_of_fields hd₃)
  · have keep : ∀ b o, b ≠ e → h₁.get? b = some o →
      ((h₁.push { cls := .type "traceback", dict := none, data := .fields ([head, .ref L, .none, rawInt L, .none] ++ (if pl.isEmpty then List.replicate 6 Value.none else pl)).toArray }).update e (Obj.mapFields (·.setIfInBounds 1 (Value.ref h₁.objs.size)))).get? b = some o :=
      fun b o hbe hb => by
        rw [Heap.get?_update_other _ _ (Ne.symm hbe)]
        exact Heap.get?_push_of_some _ hb
    refine ⟨fun b o n1 n2 q => keep b o (by simpa using n1) ((hs₁.2.1 b n2).trans q), fun b o n1 q => ?_, fun b o q => ?_⟩
    · obtain ⟨sl, q1⟩ := hs₁.2.2 b o q
      exact ⟨sl, keep b _ (by simpa using n1) q1⟩
    · by_cases hb : b = e
      · subst hb; exact ⟨_, he₃⟩
      · obtain ⟨sl, q1⟩ := hs₁.2.2 b o q
        exact ⟨_, keep b _ hb q1⟩
  · have hT₃ := (Heap.get?_update_other (h₁.push { cls := .type "traceback", dict := none, data := .fields ([head, .ref L, .none, rawInt L, .none] ++ (if pl.isEmpty then List.replicate 6 Value.none else pl)).toArray })
      (Obj.mapFields (·.setIfInBounds 1 (Value.ref h₁.objs.size))) (Ne.symm hTe)).trans (Heap.get?_push_size h₁ rfl)
    have hsz1 : s.heap.objs.size ≤ h₁.objs.size := Nat.le_of_eq hs₁.1.symm
    refine ⟨_, _, h₁.objs.size, _, _, he₃, ⟨Obj.cls_mapFields _ _, dict_mapFields _ _⟩, hd₃, by simpa using hsz, by simp [hsz], hTe, ?_, hsz1, hT₃, rfl, by first | (simp; done) | (rcases hpl with rfl | ⟨_, _, _, _, _, _, _, rfl⟩ <;> simp)⟩
    cases q : s.heap.get? h₁.objs.size with
    | none => rfl
    | some o => exact absurd (Heap.lt_size q) (Nat.not_lt_of_le hsz1)
noncomputable def Marked (h0 h : Heap) (e : Addr) (cls : Value) (ch ch' : List Addr) (fl : Value) : Prop :=
  ∃ oe vs T oT ts, h.get? e = some oe ∧ (oe.cls = cls ∧ oe.dict = none) ∧ oe.data = .fields vs ∧ 1 < vs.size ∧ vs[1]? = some (.ref T) ∧ ch' = [e, T] ∧ T ≠ e ∧ h.get? T = some oT ∧ oT.data = .fields ts ∧ ts[3]? = some fl ∧ (T ∈ ch ∨ (h0.get? T = none ∧ h0.objs.size ≤ T))
theorem Marked.exc {h0 h : Heap} {ch' : List Addr} {fl : Value} (x : Marked h0 h e cls ch ch' fl) : ExcAt h e cls ch' := by
  obtain ⟨oe, vs, T, oT, ts, h1, h2, h3, h4, h5, h6, h7, h8, h9, h10, _⟩ := x
  exact ⟨oe, vs, h1, h2, h3, h4, .inr ⟨T, oT, ts, fl, h5, h6, h7, h8, h9, h10⟩⟩
theorem Marked.new {h0 h : Heap} {ch' : List Addr} {fl : Value} (x : Marked h0 h e cls ch ch' fl) (he : e ∈ ch) : ∀ b ∈ ch', b ∈ ch ∨ (h0.get? b = none ∧ h0.objs.size ≤ b) := by
  obtain ⟨oe, vs, T, oT, ts, h1, h2, h3, h4, h5, h6, h7, h8, h9, h10, h11⟩ := x
  subst h6
  intro b hb
  simp only [List.mem_cons, List.not_mem_nil, or_false] at hb
  rcases hb with rfl | rfl
  · exact .inl he
  · exact h11
theorem ExcAt.mem {h : Heap} (x : ExcAt h e cls ch) : e ∈ ch := by
  obtain ⟨_, _, _, _, _, _, ⟨_, rfl⟩ | ⟨_, _, _, _, _, rfl, _⟩⟩ := x <;> simp
theorem FunFrames.xt {h h' : Heap} {l : List Env} (hl : h.FunFrames base l) (hx : XT (frs l) ch h h') (hc : ∀ b ∈ ch, ∃ o vs, h.get? b = some o ∧ o.data = .fields vs) : h'.FunFrames base l :=
  hl.of_keeps fun b o ho hn => by
    obtain ⟨sl, q⟩ := hx.slot b o (fun m => by obtain ⟨o', vs, z1, z2⟩ := hc b m; rw [ho] at z1; cases z1; exact hn vs z2) ho
    exact ⟨_, q, rfl⟩
theorem ExcAt.recs {h : Heap} (x : ExcAt h e cls ch) : ∀ b ∈ ch, ∃ o vs, h.get? b = some o ∧ o.data = .fields vs := by
  obtain ⟨oe, vs, h1, h2, h3, h4, ⟨h5, rfl⟩ | ⟨T, oT, ts, fl, h5, rfl, h6, h7, h8, h9⟩⟩ := x
  · intro b hb
    simp only [List.mem_cons, List.not_mem_nil, or_false] at hb
    subst hb
    exact ⟨oe, vs, h1, h3⟩
  · intro b hb
    simp only [List.mem_cons, List.not_mem_nil, or_false] at hb
    rcases hb with rfl | rfl
    · exact ⟨oe, vs, h1, h3⟩
    · exact ⟨oT, ts, h7, h8⟩
theorem note_x (hfr : A.frames = some (env :: outer)) (hl : s.heap.FunFrames base (env :: outer)) (hf : env.frame = some L) (x : ExcAt s.heap e cls ch)
    (h : ∀ h' ch', XT (frs (env :: outer)) ch s.heap h' → Marked s.heap h' e cls ch ch' (rawInt L) → Q () { s with heap := h' }) : wpAny M A (noteFrame (.ref e) env) Q E s := by
  have hrec := x.recs
  obtain ⟨oe, vs, he, ⟨rfl, hdi⟩, hd, hsz, ⟨h1, rfl⟩ | ⟨T, oT, ts, fl, h1, rfl, hTe, hT, hdT, h3⟩⟩ := x
  · unfold noteFrame
    simp only [hf]
    refine wpAny_bind (wpAny_field he hd h1 ?_)
    rw [if_neg (by decide)]
    refine entry_x hfr hl hf he hd hsz fun h' xt m => ?_
    obtain ⟨oe', vs', T, oT, ts, q1, q2, q3, q4, q5, q6, q7, q8, q9, q10, q11⟩ := m
    exact h h' [e, T] xt ⟨oe', vs', T, oT, ts, q1, ⟨q2.1, q2.2.trans hdi⟩, q3, q4, q5, rfl, q6, q9, q10, q11, .inr ⟨q7, q8⟩⟩
  · unfold noteFrame
    simp only [hf]
    refine wpAny_bind (wpAny_field he hd h1 ?_)
    rw [if_pos (show (Value.ref T != Value.none) = true from by simp)]
    refine wpAny_bind (wpAny_field hT hdT h3 ?_)
    by_cases hfl : fl = rawInt L
    · subst hfl
      rw [if_pos (show (rawInt L == rawInt L) = true from by simp)]
      exact wpAny_pure (h s.heap [e, T] XT.refl ⟨oe, vs, T, oT, ts, he, ⟨rfl, hdi⟩, hd, hsz, h1, rfl, hTe, hT, hdT, h3, .inl (by simp)⟩)
    · rw [if_neg (show ¬ ((fl == rawInt L) = true) from fun z => hfl (beq_iff_eq.mp z))]
      refine wpAny_bind (wpAny_setField hT hdT (Array.getElem?_eq_some_iff.mp h3).1 ?_)
      have other : ∀ b, b ≠ T → (s.heap.update T (Obj.mapFields (·.setIfInBounds 3 Value.none))).get? b = s.heap.get? b := fun b hb => Heap.get?_update_other _ _ (Ne.symm hb)
      have hself := Heap.get?_update_self (Obj.mapFields (·.setIfInBounds 3 Value.none)) hT (Obj.isFreed_of_fields (Obj.data_mapFields hdT _))
      have xt1 : XT (frs (env :: outer)) [e, T] s.heap (s.heap.update T (Obj.mapFields (·.setIfInBounds 3 Value.none))) := by
        refine ⟨fun b o n1 n2 q => (other b (by simp at n1; exact n1.2)).trans q, fun b o n1 q => ⟨o.slots, (other b (by simp at n1; exact n1.2)).trans q⟩, fun b o q => ?_⟩
        by_cases hb : b = T
        · subst hb; exact ⟨_, hself⟩
        · exact ⟨o, (other b hb).trans q⟩
      refine entry_x hfr (FunFrames.xt hl xt1 hrec) hf ((other e (Ne.symm hTe)).trans he) hd hsz fun h' xt m => ?_
      obtain ⟨oe', vs', T', oT', ts', q1, q2, q3, q4, q5, q6, q7, q8, q9, q10, q11⟩ := m
      have hn : s.heap.get? T' = none := by
        cases z : s.heap.get? T' with
        | none => rfl
        | some o =>
          obtain ⟨o', z'⟩ := xt1.there T' o z
          have q7 : (s.heap.update T (Obj.mapFields (·.setIfInBounds 3 Value.none))).get? T' = none := q7
          rw [q7] at z'; cases z'
      have hs' : s.heap.objs.size ≤ T' := by
        have q8 : (s.heap.update T (Obj.mapFields (·.setIfInBounds 3 Value.none))).objs.size ≤ T' := q8
        rwa [Heap.size_after_update] at q8
      exact h h' [e, T'] (xt1.trans xt fun b hb => by simp only [List.mem_cons, List.not_mem_nil, or_false] at hb; subst hb; exact .inl (by simp)) ⟨oe', vs', T', oT', ts', q1, ⟨q2.1, q2.2.trans hdi⟩, q3, q4, q5, rfl, q6, q9, q10, q11, .inr ⟨hn, hs'⟩⟩
theorem flight_x {fs : List Addr} (x : ExcAt s.heap e cls ch) (h : ∀ h', XT fs ch s.heap h' → ExcAt h' e cls ch → Q () { s with heap := h' }) : wpAny M A (setFlight (.ref e) none) Q E s := by
  obtain ⟨oe, vs, he, ⟨rfl, hdi⟩, hd, hsz, ⟨h1, rfl⟩ | ⟨T, oT, ts, fl, h1, rfl, hTe, hT, hdT, h3⟩⟩ := x
  · unfold setFlight
    refine wpAny_bind (wpAny_field he hd h1 ?_)
    rw [if_neg (by decide)]
    exact wpAny_pure (h s.heap XT.refl ⟨oe, vs, he, ⟨rfl, hdi⟩, hd, hsz, .inl ⟨h1, rfl⟩⟩)
  · unfold setFlight
    refine wpAny_bind (wpAny_field he hd h1 ?_)
    rw [if_pos (show (Value.ref T != Value.none) = true from by simp)]
    have hsz3 := (Array.getElem?_eq_some_iff.mp h3).1
    have other : ∀ b, b ≠ T → (s.heap.update T (Obj.mapFields (·.setIfInBounds 3 ((none : Option Addr).elim Value.none fun f => rawInt f)))).get? b = s.heap.get? b := fun b hb => Heap.get?_update_other _ _ (Ne.symm hb)
    have hself := Heap.get?_update_self (Obj.mapFields (·.setIfInBounds 3 ((none : Option Addr).elim Value.none fun f => rawInt f))) hT (Obj.isFreed_of_fields (Obj.data_mapFields hdT _))
    refine wpAny_setField hT hdT hsz3 (h _ ?_ ?_)
    · refine ⟨fun b o n1 n2 q => (other b (by simp at n1; exact n1.2)).trans q, fun b o n1 q => ⟨o.slots, (other b (by simp at n1; exact n1.2)).trans q⟩, fun b o q => ?_⟩
      by_cases hb : b = T
      · subst hb; exact ⟨_, hself⟩
      · exact ⟨o, (other b hb).trans q⟩
    · exact ⟨oe, vs, (other e (Ne.symm hTe)).trans he, ⟨rfl, hdi⟩, hd, hsz, .inr ⟨T, _, _, _, h1, rfl, hTe, hself, Obj.data_mapFields hdT _, by simp [hsz3]; rfl⟩⟩
theorem leave_x (hfr : A.frames = some (env :: outer)) (hl : s.heap.FunFrames base (env :: outer)) (hf : env.frame = some L) (x : ExcAt s.heap e cls ch)
    (h : ∀ h' ch', XT (frs (env :: outer)) ch s.heap h' → ExcAt h' e cls ch' → (∀ b ∈ ch', b ∈ ch ∨ (s.heap.get? b = none ∧ s.heap.objs.size ≤ b)) → Q () { s with heap := h' }) : wpAny M A (leaving env (.ref e)) Q E s := by
  have hm := x.mem
  unfold leaving
  refine wpAny_bind (note_x hfr hl hf x fun h1 ch1 xt1 m1 => ?_)
  have hn := m1.new hm
  refine flight_x (fs := frs (env :: outer)) m1.exc fun h2 xt2 e2 => ?_
  exact h h2 ch1 (xt1.trans xt2 fun b hb => (hn b hb).imp id (·.1)) e2 hn
end
section
variable {X : Cx} {pins : List (Addr × Obj)} {σ : St} {H H' : Hp} {s : Shared} {h' : Heap} {ch : List Addr} {b : Addr}
structure Loose (X : Cx) (pins : List (Addr × Obj)) (H : Hp) (b : Addr) : Prop where
  un : H b = none
  new : b ∈ X.ex ∨ X.s₀.heap.get? b = none
  fr : b ≠ X.env.locals
  cell : ∀ x c, X.env.cells.lookup x = some c → c ≠ b
  pin : ∀ p ∈ X.pn ++ pins, p.1 ≠ b
theorem ObjOk.there {P : Program} {w : World} {h : Heap} {a : Addr} {o : HO} (x : ObjOk P w H h a o) : ∃ ob, h.get? a = some ob := by
  cases o with
  | lst xs => obtain ⟨_, _, _, _, e⟩ := x; exact ⟨_, e⟩
  | tup xs => obtain ⟨_, _, _, _, e, _⟩ := x; exact ⟨_, e⟩
  | dK kvs => obtain ⟨_, _, _, _, o, _, _, e, _⟩ := x; exact ⟨_, e⟩
  | dT kvs => obtain ⟨_, _, _, _, o, _, _, e, _⟩ := x; exact ⟨_, e⟩
  | set S n => obtain ⟨o, _, _, _, e, _⟩ := x; exact ⟨_, e⟩
  | ins C dx fs => obtain ⟨_, _, _, e, _⟩ := x; exact ⟨_, e⟩
  | own y => obtain ⟨_, e⟩ := x; exact ⟨_, e⟩
  | xd fs => obtain ⟨_, ⟨_, _, _, e, _⟩, _⟩ := x; exact ⟨_, e⟩
  | rng lo hi => obtain ⟨_, _, _, e⟩ := x; exact ⟨_, e⟩
  | frz o u => exact ⟨_, x.1⟩
  | tbl ps => exact ⟨_, x⟩
  | met f y => exact ⟨_, x⟩
  | ext φ => exact x.2.1
theorem HOk.none {P : Program} {w : World} {h : Heap} {a : Addr} (x : HOk P w H h) (e : h.get? a = Option.none) : H a = Option.none := by
  cases q : H a with
  | none => rfl
  | some u =>
    obtain ⟨o, z⟩ := (x a u q).there
    rw [e] at z; cases z
theorem Loose.of (I : Inv X pins σ H s) (hn : H' b = none) (h : s.heap.get? b = none) : Loose X pins H' b := by
  refine ⟨hn, ?_, fun e => ?_, fun x c e z => ?_, fun p hp z => ?_⟩
  · by_cases hx : b ∈ X.ex
    · exact .inl hx
    · refine .inr ?_
      cases q : X.s₀.heap.get? b with
      | none => rfl
      | some o =>
        obtain ⟨o', e⟩ := I.base.there b o q hx
        rw [h] at e; cases e
  · obtain ⟨m, ⟨o, es, ep, ho, _⟩, _⟩ := I.loc
    rw [← e, h] at ho; cases ho
  · obtain ⟨v, o, ho, _⟩ := I.cell x c e
    rw [z, h] at ho; cases ho
  · have := (I.pin p hp).1
    rw [z, h] at this; cases this
theorem XT.hok (I : Inv X pins σ H s) (x : XT (frs X.stack) ch s.heap h') (hc : ∀ b ∈ ch, H b = none) : HOk X.prog X.w H h' := fun a o e =>
  (I.hok a o e).stay (fun b u hb q => x.keep b u (fun m => by
    have := hc b m
    rcases hb with rfl | hb
    · rw [e] at this; cases this
    · rw [hb] at this; cases this) (fun m => by
    have := I.stkFree b m
    rcases hb with rfl | hb
    · rw [e] at this; cases this
    · rw [hb] at this; cases this) q) (fun _ q => q) fun _ _ q => q
theorem Inv.xt (I : Inv X pins σ H s) (x : XT (frs X.stack) ch s.heap h') (hc : ∀ b ∈ ch, Loose X pins H b) : Inv X pins σ H { s with heap := h' } := by
  have nl : ∀ b o, X.s₀.heap.get? b = some o → b ≠ X.env.locals := fun b o q e => Nat.lt_irrefl _ (Nat.lt_of_lt_of_le (Heap.lt_size q) (by rw [e]; exact I.ok.above))
  have nc : ∀ b o, X.s₀.heap.get? b = some o → b ∉ X.ex → b ∉ ch := fun b o q hx m => by rw [(hc b m).new.resolve_left hx] at q; cases q
  have cells : ∀ c v, (∃ y, X.env.cells.lookup y = some c) → s.heap.IsCell c v → h'.IsCell c v := fun c v ⟨y, e⟩ ⟨o, ho, hd⟩ => by
    obtain ⟨sl, q⟩ := x.slot c o (fun m => (hc c m).cell y c e rfl) ho
    exact ⟨_, q, hd⟩
  refine ⟨I.ok, I.os, I.bare, ⟨fun b o q n hf hx => x.keep b o (nc b o q hx) (fun z => (List.mem_cons.mp (I.stkSub b z)).elim (nl b o q) hf) (I.base.keep b o q n hf hx), fun b o q n hf hx => ?_, I.base.free, fun b o q hx => ?_, I.base.tups, I.base.frzs, I.base.tbls⟩, ?_, fun y c e => ?_, I.free, I.freeC, fun p hp => ?_, x.hok I fun b hb => (hc b hb).un, I.len⟩
  · obtain ⟨sl, e⟩ := I.base.slot b o q n hf hx
    obtain ⟨sl2, e2⟩ := x.slot b _ (nc b o q hx) e
    exact ⟨sl2, e2⟩
  · obtain ⟨o1, e1⟩ := I.base.there b o q hx
    exact x.there b o1 e1
  · obtain ⟨m, ⟨o, es, ep, ho, r⟩, hl⟩ := I.loc
    obtain ⟨sl, q⟩ := x.slot X.env.locals o (fun mm => (hc _ mm).fr rfl) ho
    refine ⟨m, ⟨_, es, ep, q, r⟩, fun i y v e1 e2 e3 => ?_⟩
    obtain ⟨u, r1, lk⟩ := hl i y v e1 e2 e3
    refine ⟨u, r1, ?_⟩
    rcases lk with lk | ⟨lk, c, c1, c2⟩
    · exact .inl lk
    · exact .inr ⟨lk, c, c1, cells c _ ⟨y, c1⟩ c2⟩
  · obtain ⟨v, q⟩ := I.cell y c e
    exact ⟨v, cells c v ⟨y, e⟩ q⟩
  · obtain ⟨e, n, ne, nf, d⟩ := I.pin p hp
    exact ⟨x.keep p.1 p.2 (fun m => (hc p.1 m).pin p hp rfl) (fun z => (List.mem_cons.mp (I.stkSub p.1 z)).elim ne nf) e, n, ne, nf, d⟩
noncomputable def Fly (X : Cx) (pins : List (Addr × Obj)) (H : Hp) (s : Shared) (nm : Str) (e : Value) : Prop :=
  ∃ a cls ch, e = .ref a ∧ PySem.W.nsIn X.K mainGlobals nm = some (some cls) ∧ ExcAt s.heap a cls ch ∧ ∀ b ∈ ch, Loose X pins H b
end
end L2
namespace L2
open PySem PySem.Spec PyProof.Rows
noncomputable abbrev D := PyData
noncomputable abbrev DS := List (Option D)
inductive Res (α : Type) where
  | ok (a : α) (δ : DS)
  | err (x : D) (δ : DS)
  | stuck
noncomputable def Res.bind {α β : Type} : Res α → (α → DS → Res β) → Res β
  | .ok a δ, k => k a δ
  | .err x δ, _ => .err x δ
  | .stuck, _ => .stuck
noncomputable abbrev M (α : Type) := DS → Res α
structure Ent where
  F0 : Hp
  H0 : Hp
  g0 : Addr → Option (Nat × List Nat)
  ps : List Nat
  σ0 : St
  owp : List Nat
  wf : ∀ a i q, g0 a = some (i, q) → i ∈ ps
noncomputable abbrev Lab := Nat × List Nat
noncomputable def kd : Nat → Nat
  | 10 => 1
  | 20 => 2
  | 21 => 2
  | 30 => 3
  | _ => 0
noncomputable def ch : Nat → Nat → Nat
  | 10, 0 => 1
  | 10, _ => 0
  | 11, _ => 10
  | 20, 1 => 1
  | 20, 2 => 1
  | 20, _ => 0
  | 21, _ => 0
  | 30, _ => 0
  | n, _ => n - 1
noncomputable def instD (nm : Str) (fs : List Str) (ds : List D) : D := .dict ((.none, .str nm) :: (fs.map PyData.str).zip ds)
noncomputable def dctD (ms : List Key) (ds : List D) : D := .dict ((ms.map kyD).zip ds)
noncomputable abbrev Cell := Addr × List Nat × HO
noncomputable def Nd (K : PySem.W.Frag) (k : Nat) (d : D) (ds : List D) (v : V) (vs : List V) (cs : List Cell) : Prop := match k with
  | 0 => ∃ a, d = .list ds ∧ v = .ref a ∧ cs = [(a, [], .lst vs)]
  | 1 => ∃ a, d = .tuple ds ∧ v = .ref a ∧ cs = [(a, [], .tup vs)]
  | 2 => ∃ a nm fs C dx, d = instD nm fs ds ∧ v = .ref a ∧ fs.length = ds.length ∧ PySem.W.nsIn K mainGlobals nm = some (some (.ref C)) ∧ cs = [(a, [], .ins C dx (fs.zip vs)), (dx, [1000], .own a)]
  | _ => ∃ a ms, d = dctD ms ds ∧ v = .ref a ∧ ms.length = ds.length ∧ cs = [(a, [], .dK (ms.zip vs))]
noncomputable def OwnF (K : PySem.W.Frag) (F H : Hp) (g : Addr → Option Lab) (i : Nat) : Nat → Nat → List Nat → D → V → Prop
  | _, 0, _, d, v => Rep K F d v
  | 0, _ + 1, _, _, _ => False
  | f + 1, c + 1, p, d, v => ∃ (ds : List D) (vs : List V) (cs : List Cell), Nd K (kd (c + 1)) d ds v vs cs ∧ (∀ x ∈ cs, g x.1 = some (i, p ++ x.2.1) ∧ H x.1 = some x.2.2 ∧ F x.1 = none) ∧ ds.length = vs.length ∧
      ∀ (k : Nat) (d' : D) (v' : V), ds[k]? = some d' → vs[k]? = some v' → OwnF K F H g i f (ch (c + 1) k) (p ++ [k]) d' v'
noncomputable def OwnR (K : PySem.W.Frag) (F H : Hp) (g : Addr → Option Lab) (i : Nat) (n : Nat) (p : List Nat) (d : D) (v : V) : Prop := OwnF K F H g i n n p d v
structure RelG (K : PySem.W.Frag) (Z : Ent) (ow : List Nat) (g : Addr → Option Lab) (F H : Hp) (σ : St) (δ : DS) : Prop where
  sub : Same F H
  f0 : Same Z.F0 F
  kept : ∀ b o, Z.g0 b = none → Z.H0 b = some o → H b = some o
  new : ∀ a, Z.F0 a = none → Z.H0 a ≠ none → F a = none
  there : ∀ b, Z.H0 b ≠ none → H b ≠ none
  lab : ∀ a i p, g a = some (i, p) → Z.H0 a = none ∨ ∃ q, Z.g0 a = some (i, q)
  len : δ.length = σ.length
  par : ∀ i ∈ Z.ps, σ[i]? = Z.σ0[i]? ∧ ow.getD i 0 = Z.owp.getD i 0
  slot : ∀ (i : Nat) (d : D), δ[i]? = some (some d) → ∃ v, σ[i]? = some (some v) ∧ OwnR K F H g i (ow.getD i 0) [] d v
noncomputable def Rel (K : PySem.W.Frag) (Z : Ent) (ow : List Nat) (F H : Hp) (σ : St) (δ : DS) : Prop := ∃ g, RelG K Z ow g F H σ δ
noncomputable def RelX (K : PySem.W.Frag) (Z : Ent) (ow : List Nat) (n : Nat) (d : D) (v : V) (F H : Hp) (σ : St) (δ : DS) : Prop := ∃ g, RelG K Z ow g F H σ δ ∧ OwnR K F H g 1000 n [] d v
theorem Same.trans' {H H1 H2 : Hp} (a : Same H H1) (b : Same H1 H2) : Same H H2 := fun c o h => b c o (a c o h)
theorem RepAll.len {K : PySem.W.Frag} {F : Hp} : ∀ {ds : List D} {vs : List V}, RepAll K F ds vs → ds.length = vs.length
  | [], vs, h => by unfold RepAll at h; rw [h]; rfl
  | d :: ds, vs, h => by
    unfold RepAll at h
    obtain ⟨x, r, rfl, _, h⟩ := h
    rw [List.length_cons, List.length_cons, RepAll.len h]
theorem RepAll.get {K : PySem.W.Frag} {F : Hp} : ∀ {ds : List D} {vs : List V} {i : Nat} {d : D}, RepAll K F ds vs → ds[i]? = some d → ∃ v, vs[i]? = some v ∧ Rep K F d v
  | d :: ds, vs, 0, d', h, e => by
    unfold RepAll at h
    obtain ⟨x, r, rfl, hx, h⟩ := h
    cases e
    exact ⟨x, rfl, hx⟩
  | d :: ds, vs, i + 1, d', h, e => by
    unfold RepAll at h
    obtain ⟨x, r, rfl, hx, h⟩ := h
    exact RepAll.get (i := i) h e
theorem RepAll.of {K : PySem.W.Frag} {F : Hp} : ∀ {ds : List D} {vs : List V}, ds.length = vs.length → (∀ (k : Nat) (d : D) (v : V), ds[k]? = some d → vs[k]? = some v → Rep K F d v) → RepAll K F ds vs
  | [], [], _, _ => by unfold RepAll; rfl
  | d :: ds, v :: vs, hl, h => by
    unfold RepAll
    exact ⟨v, vs, rfl, h 0 d v rfl rfl, RepAll.of (by simpa using hl) fun k d' v' e1 e2 => h (k + 1) d' v' e1 e2⟩
theorem RepAll.both {K : PySem.W.Frag} {F : Hp} {ds : List D} {vs : List V} (h : RepAll K F ds vs) (k : Nat) (d : D) (v : V) (e1 : ds[k]? = some d) (e2 : vs[k]? = some v) : Rep K F d v := by
  obtain ⟨v', e, r⟩ := h.get e1
  rw [e2] at e; cases e
  exact r
theorem repNil {K : PySem.W.Frag} {F : Hp} : RepAll K F [] [] := by unfold RepAll; rfl
theorem repCons {K : PySem.W.Frag} {F : Hp} {d : D} {v : V} {ds : List D} {vs : List V} (h : Rep K F d v) (t : RepAll K F ds vs) : RepAll K F (d :: ds) (v :: vs) := by unfold RepAll; exact ⟨v, vs, rfl, h, t⟩
theorem RepAll.app {K : PySem.W.Frag} {F : Hp} : ∀ {ds es : List D} {vs ws : List V}, RepAll K F ds vs → RepAll K F es ws → RepAll K F (ds ++ es) (vs ++ ws)
  | [], es, vs, ws, h, t => by unfold RepAll at h; rw [h]; exact t
  | d :: ds, es, vs, ws, h, t => by
    unfold RepAll at h
    obtain ⟨x, r, rfl, hx, h⟩ := h
    exact repCons hx (RepAll.app h t)
theorem RepAll.take {K : PySem.W.Frag} {F : Hp} {ds : List D} {vs : List V} (n : Nat) (h : RepAll K F ds vs) : RepAll K F (ds.take n) (vs.take n) :=
  RepAll.of (by rw [List.length_take, List.length_take, h.len]) fun k d v e1 e2 => by
    rw [List.getElem?_take] at e1 e2
    split at e1
    · rw [if_pos (by assumption)] at e2; exact h.both k d v e1 e2
    · cases e1
theorem RepAll.drop {K : PySem.W.Frag} {F : Hp} {ds : List D} {vs : List V} (n : Nat) (h : RepAll K F ds vs) : RepAll K F (ds.drop n) (vs.drop n) :=
  RepAll.of (by rw [List.length_drop, List.length_drop, h.len]) fun k d v e1 e2 => by
    rw [List.getElem?_drop] at e1 e2
    exact h.both _ d v e1 e2
theorem ch_lt : ∀ {c k : Nat}, ch (c + 1) k ≤ c := by
  intro c k
  unfold ch
  split <;> omega
theorem OwnF.trans {K : PySem.W.Frag} {F F' H H' : Hp} {g g' : Addr → Option Lab} {i j : Nat} {q : List Nat} (hF : Same F F') (h : ∀ a p o, g a = some (i, p) → H a = some o → F a = none → g' a = some (j, q ++ p) ∧ H' a = some o ∧ F' a = none) :
    ∀ {f c : Nat} {p : List Nat} {d : D} {v : V}, OwnF K F H g i f c p d v → OwnF K F' H' g' j f c (q ++ p) d v
  | 0, 0, _, d, v, r => hF.rep d v r
  | _ + 1, 0, _, d, v, r => hF.rep d v r
  | _ + 1, _ + 1, p, d, v, ⟨ds, vs, cs, nd, hc, hl, r⟩ => ⟨ds, vs, cs, nd, fun x hx => by
      obtain ⟨a1, a2, a3⟩ := hc x hx
      rw [List.append_assoc]
      exact h _ _ _ a1 a2 a3, hl, fun k d' v' q1 q2 => by
      rw [List.append_assoc]
      exact OwnF.trans hF h (r k d' v' q1 q2)⟩
theorem OwnF.fuel {K : PySem.W.Frag} {F H : Hp} {g : Addr → Option Lab} {i : Nat} : ∀ {f c f' : Nat} {p : List Nat} {d : D} {v : V}, c ≤ f → c ≤ f' → OwnF K F H g i f c p d v → OwnF K F H g i f' c p d v
  | _, 0, _, _, _, _, _, _, r => by unfold OwnF at r ⊢; exact r
  | 0, _ + 1, _, _, _, _, h, _, _ => absurd h (by omega)
  | _, _ + 1, 0, _, _, _, _, h, _ => absurd h (by omega)
  | f + 1, c + 1, f' + 1, p, d, v, h1, h2, ⟨ds, vs, cs, nd, hc, hl, r⟩ => ⟨ds, vs, cs, nd, hc, hl, fun k d' v' q1 q2 => OwnF.fuel (Nat.le_trans ch_lt (by omega)) (Nat.le_trans ch_lt (by omega)) (r k d' v' q1 q2)⟩
theorem OwnR.open {K : PySem.W.Frag} {F H : Hp} {g : Addr → Option Lab} {i c : Nat} {p : List Nat} {d : D} {v : V} (h : OwnR K F H g i (c + 1) p d v) :
    ∃ (ds : List D) (vs : List V) (cs : List Cell), Nd K (kd (c + 1)) d ds v vs cs ∧ (∀ x ∈ cs, g x.1 = some (i, p ++ x.2.1) ∧ H x.1 = some x.2.2 ∧ F x.1 = none) ∧ ds.length = vs.length ∧
      ∀ (k : Nat) (d' : D) (v' : V), ds[k]? = some d' → vs[k]? = some v' → OwnR K F H g i (ch (c + 1) k) (p ++ [k]) d' v' := by
  obtain ⟨ds, vs, cs, nd, hc, hl, r⟩ := h
  exact ⟨ds, vs, cs, nd, hc, hl, fun k d' v' q1 q2 => OwnF.fuel ch_lt (Nat.le_refl _) (r k d' v' q1 q2)⟩
theorem OwnR.shut {K : PySem.W.Frag} {F H : Hp} {g : Addr → Option Lab} {i c : Nat} {p : List Nat} {d : D} {v : V} {ds : List D} {vs : List V} {cs : List Cell} (nd : Nd K (kd (c + 1)) d ds v vs cs) (hc : ∀ x ∈ cs, g x.1 = some (i, p ++ x.2.1) ∧ H x.1 = some x.2.2 ∧ F x.1 = none) (hl : ds.length = vs.length)
    (r : ∀ (k : Nat) (d' : D) (v' : V), ds[k]? = some d' → vs[k]? = some v' → OwnR K F H g i (ch (c + 1) k) (p ++ [k]) d' v') : OwnR K F H g i (c + 1) p d v :=
  ⟨ds, vs, cs, nd, hc, hl, fun k d' v' q1 q2 => OwnF.fuel (Nat.le_refl _) ch_lt (r k d' v' q1 q2)⟩
theorem OwnR.lst {K : PySem.W.Frag} {F H : Hp} {g : Addr → Option Lab} {i c m : Nat} {p : List Nat} {d : D} {v : V} (h : OwnR K F H g i (c + 1) p d v) (hk : kd (c + 1) = 0 := by rfl) (hm : ∀ k, ch (c + 1) k = m := by intro k; rfl) :
    ∃ (a : Addr) (ds : List D) (vs : List V), d = .list ds ∧ v = .ref a ∧ g a = some (i, p) ∧ H a = some (.lst vs) ∧ F a = none ∧ ds.length = vs.length ∧
      ∀ (k : Nat) (d' : D) (v' : V), ds[k]? = some d' → vs[k]? = some v' → OwnR K F H g i m (p ++ [k]) d' v' := by
  obtain ⟨ds, vs, cs, nd, hc, hl, r⟩ := h.open
  rw [hk] at nd
  obtain ⟨a, rfl, rfl, rfl⟩ := nd
  obtain ⟨a1, a2, a3⟩ := hc _ (List.mem_singleton.mpr rfl)
  exact ⟨a, ds, vs, rfl, rfl, by simpa using a1, a2, a3, hl, fun k d' v' q1 q2 => by rw [← hm k]; exact r k d' v' q1 q2⟩
theorem OwnR.mkL {K : PySem.W.Frag} {F H : Hp} {g : Addr → Option Lab} {i c m : Nat} {p : List Nat} {d : D} {v : V} (h : ∃ (a : Addr) (ds : List D) (vs : List V), d = .list ds ∧ v = .ref a ∧ g a = some (i, p) ∧ H a = some (.lst vs) ∧ F a = none ∧ ds.length = vs.length ∧
      ∀ (k : Nat) (d' : D) (v' : V), ds[k]? = some d' → vs[k]? = some v' → OwnR K F H g i m (p ++ [k]) d' v') (hk : kd (c + 1) = 0 := by rfl) (hm : ∀ k, ch (c + 1) k = m := by intro k; rfl) : OwnR K F H g i (c + 1) p d v := by
  obtain ⟨a, ds, vs, e1, e2, e3, e4, e5, e6, h⟩ := h
  refine OwnR.shut (ds := ds) (vs := vs) (cs := [(a, [], .lst vs)]) (by rw [hk]; exact ⟨a, e1, e2, rfl⟩) (fun x hx => ?_) e6 fun k d' v' q1 q2 => by rw [hm k]; exact h k d' v' q1 q2
  rw [List.mem_singleton.mp hx]
  exact ⟨by simpa using e3, e4, e5⟩
theorem OwnR.keepJ {K : PySem.W.Frag} {F F' H H' : Hp} {g g' : Addr → Option Lab} {i j n : Nat} {p : List Nat} {d : D} {v : V} (hF : Same F F') (h : ∀ a p o, g a = some (i, p) → H a = some o → F a = none → g' a = some (j, p) ∧ H' a = some o ∧ F' a = none) (r : OwnR K F H g i n p d v) : OwnR K F' H' g' j n p d v :=
  OwnF.trans (q := []) hF h r
theorem OwnR.mono {K : PySem.W.Frag} {F F' H H' : Hp} {g g' : Addr → Option Lab} {i : Nat} (hF : Same F F') (hg : ∀ a l, l.1 = i → g a = some l → g' a = some l) (hn : ∀ a l, l.1 = i → g a = some l → F a = none → F' a = none) (hH : ∀ a l o, l.1 = i → g a = some l → H a = some o → H' a = some o)
    {n : Nat} {p : List Nat} {d : D} {v : V} (r : OwnR K F H g i n p d v) : OwnR K F' H' g' i n p d v := r.keepJ hF fun a p o e1 e2 e3 => ⟨hg a _ rfl e1, hH a _ _ rfl e1 e2, hn a _ rfl e1 e3⟩
theorem OwnR.relab {K : PySem.W.Frag} {F H : Hp} {g g' : Addr → Option Lab} {i j : Nat} (hg : ∀ a p, g a = some (i, p) → g' a = some (j, p)) {n : Nat} {p : List Nat} {d : D} {v : V} (r : OwnR K F H g i n p d v) : OwnR K F H g' j n p d v :=
  r.keepJ (fun _ _ z => z) fun a p o e1 e2 e3 => ⟨hg a p e1, e2, e3⟩
theorem Nd.rep {K : PySem.W.Frag} {F : Hp} {k : Nat} {d : D} {ds : List D} {v : V} {vs : List V} {cs : List Cell} (nd : Nd K k d ds v vs cs) (hc : ∀ x ∈ cs, F x.1 = some x.2.2) (hl : ds.length = vs.length) (r : RepAll K F ds vs) : Rep K F d v := by
  unfold Nd at nd
  split at nd
  · obtain ⟨a, rfl, rfl, rfl⟩ := nd
    unfold Rep
    exact ⟨a, vs, rfl, SqL.of (hc _ (List.mem_singleton.mpr rfl)), r⟩
  · obtain ⟨a, rfl, rfl, rfl⟩ := nd
    unfold Rep
    exact ⟨a, vs, rfl, SqT.of (hc _ (List.mem_singleton.mpr rfl)), r⟩
  · obtain ⟨a, nm, fs, C, dx, rfl, rfl, hfl, hC, rfl⟩ := nd
    have h1 := hc _ (List.mem_cons_self)
    have h2 := hc _ (List.mem_cons_of_mem _ (List.mem_singleton.mpr rfl))
    unfold instD Rep
    refine ⟨a, .str nm :: vs, rfl, .inl ⟨nm, fs, C, dx, vs, rfl, ?_, by omega, h1, h2, hC⟩, ?_⟩
    · rw [List.map_cons, List.map_fst_zip (by rw [List.length_map]; omega)]
    · unfold RepKV
      exact ⟨_, _, rfl, by unfold Rep; rfl, repKV_of (by rw [List.length_map]; omega) r⟩
  · obtain ⟨a, ms, rfl, rfl, hm, rfl⟩ := nd
    unfold dctD Rep
    refine ⟨a, vs, rfl, .inr ⟨ms, ?_, by omega, hc _ (List.mem_singleton.mpr rfl)⟩, repKV_of (by rw [List.length_map]; omega) r⟩
    rw [List.map_fst_zip (by rw [List.length_map]; omega)]
theorem OwnF.froze {K : PySem.W.Frag} {F F' H : Hp} {g : Addr → Option Lab} {i : Nat} (hF : Same F F') (h : ∀ a p o, g a = some (i, p) → H a = some o → F a = none → F' a = some o) :
    ∀ {f c : Nat} {p : List Nat} {d : D} {v : V}, OwnF K F H g i f c p d v → Rep K F' d v
  | 0, 0, _, d, v, r => hF.rep d v r
  | _ + 1, 0, _, d, v, r => hF.rep d v r
  | _ + 1, _ + 1, p, d, v, ⟨ds, vs, cs, nd, hc, hl, r⟩ => nd.rep (fun x hx => by
      obtain ⟨a1, a2, a3⟩ := hc x hx
      exact h _ _ _ a1 a2 a3) hl (RepAll.of hl fun k d' v' q1 q2 => OwnF.froze hF h (r k d' v' q1 q2))
noncomputable def fzH (g : Addr → Option Lab) (i : Nat) (F H : Hp) : Hp := fun b => open Classical in if ∃ p, g b = some (i, p) then (if F b = none then H b else F b) else F b
theorem fzH_in {g : Addr → Option Lab} {i : Nat} {F H : Hp} {b : Addr} {p : List Nat} (h : g b = some (i, p)) (hn : F b = none) : fzH g i F H b = H b := by
  unfold fzH; rw [if_pos ⟨p, h⟩, if_pos hn]
theorem fzH_out {g : Addr → Option Lab} {i : Nat} {F H : Hp} {b : Addr} (h : ∀ p, g b ≠ some (i, p)) : fzH g i F H b = F b := by
  unfold fzH; rw [if_neg fun ⟨p, e⟩ => h p e]
theorem fzH_same {g : Addr → Option Lab} {i : Nat} {F H : Hp} : Same F (fzH g i F H) := fun b o e => by
  unfold fzH
  split
  · rw [if_neg (by rw [e]; simp)]; exact e
  · exact e
theorem fzH_sub {g : Addr → Option Lab} {i : Nat} {F H : Hp} (hs : Same F H) : Same (fzH g i F H) H := fun b o e => by
  unfold fzH at e
  split at e
  · split at e
    · exact e
    · exact hs b o e
  · exact hs b o e
theorem OwnR.freeze {K : PySem.W.Frag} {F H : Hp} {g : Addr → Option Lab} {i : Nat} {n : Nat} {p : List Nat} {d : D} {v : V} (r : OwnR K F H g i n p d v) : Rep K (fzH g i F H) d v :=
  OwnF.froze fzH_same (fun a p o e1 e2 e3 => by rw [fzH_in e1 e3]; exact e2) r
section
variable {K : PySem.W.Frag} {Z : Ent} {ow : List Nat} {g : Addr → Option Lab} {F H : Hp} {σ : St} {δ : DS}
noncomputable def fzG (g : Addr → Option Lab) (i : Nat) : Addr → Option Lab := fun b => open Classical in if ∃ p, g b = some (i, p) then none else g b
theorem fzG_ne {g : Addr → Option Lab} {i : Nat} {a : Addr} {l : Lab} (h : l.1 ≠ i) (e : g a = some l) : fzG g i a = some l := by
  unfold fzG
  rw [if_neg fun ⟨p, q⟩ => by rw [e] at q; cases q; exact h rfl]
  exact e
theorem fzG_le {g : Addr → Option Lab} {i : Nat} {a : Addr} {l : Lab} (e : fzG g i a = some l) : g a = some l ∧ l.1 ≠ i := by
  unfold fzG at e
  split at e
  · cases e
  · rename_i h
    exact ⟨e, fun z => h ⟨l.2, by rw [e]; cases l; cases z; rfl⟩⟩
theorem RelG.freeze (R : RelG K Z ow g F H σ δ) (i : Nat) (hP : i ∉ Z.ps) : RelG K Z (ow.set i 0) (fzG g i) (fzH g i F H) H σ δ := by
  refine ⟨fzH_sub R.sub, R.f0.trans' fzH_same, R.kept, fun a h1 h2 => ?_, R.there, fun a j p e => R.lab a j p (fzG_le e).1, R.len, fun j hj => ⟨(R.par j hj).1, ?_⟩, fun j d e => ?_⟩
  · have q : ∀ p, g a ≠ some (i, p) := fun p e => (R.lab a i p e).elim h2 fun ⟨q, z⟩ => hP (Z.wf a i q z)
    rw [fzH_out q]
    exact R.new a h1 h2
  · have : j ≠ i := fun e => hP (by rw [← e]; exact hj)
    rw [List.getD_eq_getElem?_getD, List.getElem?_set_ne (Ne.symm this), ← List.getD_eq_getElem?_getD]
    exact (R.par j hj).2
  · obtain ⟨v, e1, o⟩ := R.slot j d e
    refine ⟨v, e1, ?_⟩
    by_cases hj : j = i
    · subst hj
      have : (ow.set j 0).getD j 0 = 0 := by
        rw [List.getD_eq_getElem?_getD, List.getElem?_set]
        split
        · split <;> rfl
        · rename_i h; exact absurd rfl h
      rw [this]
      exact o.freeze
    · have : (ow.set i 0).getD j 0 = ow.getD j 0 := by rw [List.getD_eq_getElem?_getD, List.getD_eq_getElem?_getD, List.getElem?_set_ne (Ne.symm hj)]
      rw [this]
      exact o.mono fzH_same (fun a l hl e => fzG_ne (by rw [hl]; exact hj) e) (fun a l hl e hn => by rw [fzH_out (fun p q => by rw [e] at q; cases q; exact hj hl.symm)]; exact hn) fun _ _ _ _ _ h => h
structure Small (Z : Ent) (ow : List Nat) : Prop where
  ow : ow.length ≤ 1000
  ps : 1000 ∉ Z.ps
theorem RelX.freeze {n : Nat} {d : D} {v : V} (S : Small Z ow) (R : RelX K Z ow n d v F H σ δ) : ∃ F', Same F F' ∧ RelX K Z ow 0 d v F' H σ δ := by
  obtain ⟨g, R, o⟩ := R
  have R' := R.freeze 1000 S.ps
  rw [List.set_eq_of_length_le S.ow] at R'
  exact ⟨_, fzH_same, _, R', o.freeze⟩
theorem RelX.rel {n : Nat} {d : D} {v : V} (R : RelX K Z ow n d v F H σ δ) : Rel K Z ow F H σ δ := let ⟨g, R, _⟩ := R; ⟨g, R⟩
theorem RelX.rep {d : D} {v : V} (R : RelX K Z ow 0 d v F H σ δ) : Rep K F d v := let ⟨_, _, o⟩ := R; o
theorem Rel.x {d : D} {v : V} (R : Rel K Z ow F H σ δ) (h : Rep K F d v) : RelX K Z ow 0 d v F H σ δ := let ⟨g, R⟩ := R; ⟨g, R, h⟩
theorem Rel.sub (R : Rel K Z ow F H σ δ) : Same F H := let ⟨_, R⟩ := R; R.sub
theorem RelG.laid {p : Addr} {o : HO} (R : RelG K Z ow g F H σ δ) (hp : H p = none) : RelG K Z ow g (upd F p o) (upd H p o) σ δ := by
  have fp : F p = none := by
    cases e : F p with
    | none => rfl
    | some u => rw [R.sub p u e] at hp; cases hp
  have z : Z.H0 p = none := by
    cases e : Z.H0 p with
    | none => rfl
    | some u => exact absurd hp (R.there p (by rw [e]; simp))
  refine ⟨fun b u e => ?_, R.f0.trans' (same_new fp o), fun b u n e => ?_, fun a h1 h2 => ?_, fun b h => ?_, R.lab, R.len, R.par, fun i d e => ?_⟩
  · by_cases hb : b = p
    · subst hb; rw [upd_same] at e ⊢; exact e
    · rw [upd_ne hb] at e ⊢; exact R.sub b u e
  · have : b ≠ p := fun q => by rw [q, z] at e; cases e
    rw [upd_ne this]; exact R.kept b u n e
  · have : a ≠ p := fun q => h2 (by rw [q, z])
    rw [upd_ne this]; exact R.new a h1 h2
  · have : b ≠ p := fun q => h (by rw [q, z])
    rw [upd_ne this]; exact R.there b h
  · obtain ⟨v, e1, ho⟩ := R.slot i d e
    refine ⟨v, e1, ?_⟩
    refine ho.keepJ (same_new fp o) fun a q u e1 e2 e3 => ?_
    have : a ≠ p := fun z => by rw [z, hp] at e2; cases e2
    exact ⟨e1, by rw [upd_ne this]; exact e2, by rw [upd_ne this]; exact e3⟩
theorem Rel.laid {p : Addr} {o : HO} (R : Rel K Z ow F H σ δ) (hp : H p = none) : Rel K Z ow (upd F p o) (upd H p o) σ δ := let ⟨g, R⟩ := R; ⟨g, R.laid hp⟩
theorem Rel.fnone {p : Addr} (R : Rel K Z ow F H σ δ) (hp : H p = none) : F p = none := by
  cases e : F p with
  | none => rfl
  | some u => rw [R.sub p u e] at hp; cases hp
theorem Rel.newList {p : Addr} {ds : List D} {vs : List V} (S : Small Z ow) (R : Rel K Z ow F H σ δ) (hp : H p = none) (h : RepAll K F ds vs) : RelX K Z ow 1 (.list ds) (.ref p) F (upd H p (.lst vs)) σ δ := by
  have fp := R.fnone hp
  obtain ⟨g, R⟩ := R
  have z : Z.H0 p = none := by
    cases e : Z.H0 p with
    | none => rfl
    | some u => exact absurd hp (R.there p (by rw [e]; simp))
  refine ⟨fun b => if b = p then some (1000, []) else fzG g 1000 b, ⟨R.sub.trans' (same_new hp _), R.f0, fun b u n e => ?_, R.new, fun b h => ?_, fun a i q e => ?_, R.len, R.par, fun i d e => ?_⟩, ?_⟩
  · have : b ≠ p := fun q => by rw [q, z] at e; cases e
    rw [upd_ne this]; exact R.kept b u n e
  · have : b ≠ p := fun q => h (by rw [q, z])
    rw [upd_ne this]; exact R.there b h
  · split at e
    · rename_i q; rw [q]; exact .inl z
    · exact R.lab a i q (fzG_le e).1
  · obtain ⟨v, e1, o⟩ := R.slot i d e
    refine ⟨v, e1, ?_⟩
    by_cases hi : ow.getD i 0 = 0
    · rw [hi] at o ⊢; exact o
    · have hi' : i < 1000 := by
        by_cases hl : i < ow.length
        · exact Nat.lt_of_lt_of_le hl S.ow
        · exact absurd (by rw [List.getD_eq_getElem?_getD, List.getElem?_eq_none (by omega)]; rfl) hi
      refine o.keepJ (fun _ _ z => z) fun a q u e1 e2 e3 => ?_
      have : a ≠ p := fun z => by rw [z, hp] at e2; cases e2
      exact ⟨by rw [if_neg this]; exact fzG_ne (by show i ≠ 1000; omega) e1, by rw [upd_ne this]; exact e2, e3⟩
  · refine OwnR.mkL (m := 0) ?_
    exact ⟨p, ds, vs, rfl, rfl, by rw [if_pos rfl], upd_same, fp, h.len, fun k d' v' q1 q2 => h.both k d' v' q1 q2⟩
end
end L2
namespace L2
open PySem PySem.Spec PyProof.Rows
theorem PE.mono {X : Cx} {e : Expr} {t t' : TE} (h : PE X e t) (hm : ∀ σ H Q, t' σ H Q → t σ H Q) : PE X e t' := fun pins s σ H Q I q => h pins s σ H Q I (hm σ H Q q)
theorem PT.mono {X : Cx} {e : Expr} {t t' : TT} (h : PT X e t) (hm : ∀ σ H Q, t' σ H Q → t σ H Q) : PT X e t' := fun pins s σ H Q I q => h pins s σ H Q I (hm σ H Q q)
theorem PA.mono {X : Cx} {es : List Expr} {t t' : TA} (h : PA X es t) (hm : ∀ σ H Q, t' σ H Q → t σ H Q) : PA X es t' := fun pos pins s σ H Q I q => h pos pins s σ H Q I (hm σ H Q q)
theorem PS.mono {X : Cx} {st : Stmt} {t t' : TS} (h : PS X st t) (hm : ∀ D σ H, t' D σ H → t D σ H) : PS X st t' := fun pins s σ H D I q => h pins s σ H D I (hm D σ H q)
theorem PSs.mono {X : Cx} {st : List Stmt} {t t' : TS} (h : PSs X st t) (hm : ∀ D σ H, t' D σ H → t D σ H) : PSs X st t' := fun pins s σ H D I q => h pins s σ H D I (hm D σ H q)
noncomputable def XP (X : Cx) (Z : Ent) (pins : List (Addr × Obj)) (F : Hp) (x : D) (δ : DS) (e : Value) (s : Shared) : Prop :=
  ∃ nm H F' σ, x = .str nm ∧ Inv X pins σ H s ∧ Rel X.K Z Z.owp F' H σ δ ∧ Same F F' ∧ Fly X pins H s nm e
structure XOk (X : Cx) (Z : Ent) (ow : List Nat) (F : Hp) (x : D) (δ : DS) : Prop where
  out : ∀ pins e s, XP X Z pins F x δ e s → X.xe e s
theorem XOk.mono {X : Cx} {Z : Ent} {ow : List Nat} {F F' : Hp} {x : D} {δ : DS} (h : XOk X Z ow F x δ) (s : Same F F') : XOk X Z ow F' x δ := ⟨fun pins e st z => by
  obtain ⟨nm, H, F1, σ, h1, h2, h3, h4, h5⟩ := z
  exact h.out pins e st ⟨nm, H, F1, σ, h1, h2, h3, s.trans' h4, h5⟩⟩
theorem XOk.cast {X : Cx} {Z : Ent} {ow ox : List Nat} {F : Hp} {x : D} {δ : DS} (h : XOk X Z ox F x δ) : XOk X Z ow F x δ := ⟨h.out⟩
noncomputable def zfB (Z : Ent) : Bool := (List.range Z.owp.length).all fun i => Z.ps.contains i || Z.owp.getD i 0 == 0
theorem zfB_at {Z : Ent} (h : zfB Z = true) {i : Nat} (hi : i ∉ Z.ps) : Z.owp.getD i 0 = 0 := by
  by_cases hl : i < Z.owp.length
  · have := List.all_eq_true.mp h i (List.mem_range.mpr hl)
    rw [Bool.or_eq_true, List.contains_iff_mem, beq_iff_eq] at this
    exact this.resolve_left hi
  · rw [List.getD_eq_getElem?_getD, List.getElem?_eq_none (by omega)]; rfl
section
variable {K : PySem.W.Frag} {Z : Ent} {ow : List Nat} {g : Addr → Option Lab} {F H : Hp} {σ : St} {δ : DS}
noncomputable def fzN (ps : List Nat) (g : Addr → Option Lab) (F H : Hp) : Hp := fun b => open Classical in if ∃ i p, g b = some (i, p) ∧ i ∉ ps then (if F b = none then H b else F b) else F b
noncomputable def fzM (ps : List Nat) (g : Addr → Option Lab) : Addr → Option Lab := fun b => open Classical in if ∃ i p, g b = some (i, p) ∧ i ∉ ps then none else g b
theorem fzN_same {ps : List Nat} : Same F (fzN ps g F H) := fun b o e => by
  unfold fzN
  split
  · rw [if_neg (by rw [e]; simp)]; exact e
  · exact e
theorem fzN_sub {ps : List Nat} (hs : Same F H) : Same (fzN ps g F H) H := fun b o e => by
  unfold fzN at e
  split at e
  · split at e
    · exact e
    · exact hs b o e
  · exact hs b o e
theorem OwnR.freezeN {ps : List Nat} {i : Nat} (hi : i ∉ ps) {n : Nat} {p : List Nat} {d : D} {v : V} (r : OwnR K F H g i n p d v) : Rep K (fzN ps g F H) d v :=
  OwnF.froze fzN_same (fun a p o e1 e2 e3 => by unfold fzN; rw [if_pos ⟨i, p, e1, hi⟩, if_pos e3]; exact e2) r
theorem Rel.toP (hz : zfB Z = true) (R : Rel K Z ow F H σ δ) : ∃ F', Same F F' ∧ Rel K Z Z.owp F' H σ δ := by
  obtain ⟨g, R⟩ := R
  refine ⟨fzN Z.ps g F H, fzN_same, fzM Z.ps g, fzN_sub R.sub, R.f0.trans' fzN_same, R.kept, fun a h1 h2 => ?_, R.there, fun a i p e => ?_, R.len, fun i hi => ⟨(R.par i hi).1, rfl⟩, fun i d e => ?_⟩
  · unfold fzN
    rw [if_neg]
    · exact R.new a h1 h2
    · rintro ⟨i, p, e, hi⟩
      rcases R.lab a i p e with z | ⟨q, z⟩
      · exact h2 z
      · exact hi (Z.wf a i q z)
  · unfold fzM at e
    split at e
    · cases e
    · exact R.lab a i p e
  · obtain ⟨v, e1, o⟩ := R.slot i d e
    refine ⟨v, e1, ?_⟩
    by_cases hi : i ∈ Z.ps
    · rw [← (R.par i hi).2]
      refine o.mono fzN_same (fun a l hl e => ?_) (fun a l hl e hn => ?_) fun _ _ _ _ _ h => h
      · unfold fzM
        rw [if_neg]
        · exact e
        · rintro ⟨j, p, e2, hj⟩
          rw [e] at e2; cases e2
          exact hj (by rw [show j = i from hl]; exact hi)
      · unfold fzN
        rw [if_neg]
        · exact hn
        · rintro ⟨j, p, e2, hj⟩
          rw [e] at e2; cases e2
          exact hj (by rw [show j = i from hl]; exact hi)
    · rw [zfB_at hz hi]
      exact o.freezeN hi
end
noncomputable def kD (X : Cx) (Z : Ent) (ow : List Nat) (n : Nat) (r : Res D) (F : Hp) (σ : St) (Q : VK) : Prop := match r with
  | .ok d δ => ∀ v H' F', RelX X.K Z ow n d v F' H' σ δ → Same F F' → Q v H'
  | .err x δ => XOk X Z ow F x δ
  | .stuck => False
noncomputable def tD (X : Cx) (Z : Ent) (ow : List Nat) (n : Nat) (f : M D) : TE := fun σ H Q => ∃ F δ, Rel X.K Z ow F H σ δ ∧ kD X Z ow n (f δ) F σ Q
noncomputable def DE (X : Cx) (Z : Ent) (ow : List Nat) (n : Nat) (e : Expr) (f : M D) : Prop := PE X e (tD X Z ow n f)
noncomputable def kT (X : Cx) (Z : Ent) (ow : List Nat) (r : Res Bool) (F : Hp) (σ : St) (Q : Bool → Hp → Prop) : Prop := match r with
  | .ok b δ => ∀ H' F', Rel X.K Z ow F' H' σ δ → Same F F' → Q b H'
  | .err x δ => XOk X Z ow F x δ
  | .stuck => False
noncomputable def tT (X : Cx) (Z : Ent) (ow : List Nat) (f : M Bool) : TT := fun σ H Q => ∃ F δ, Rel X.K Z ow F H σ δ ∧ kT X Z ow (f δ) F σ Q
noncomputable def DT (X : Cx) (Z : Ent) (ow : List Nat) (e : Expr) (f : M Bool) : Prop := PT X e (tT X Z ow f)
inductive Arg where
  | own (i : Nat)
  | val (f : M D)
noncomputable def ArgsV (K : PySem.W.Frag) (F : Hp) (σ : St) : List Arg → List (Option D) → List V → Prop
  | [], [], [] => True
  | .own i :: as, none :: ds, v :: vs => σ[i]? = some (some v) ∧ ArgsV K F σ as ds vs
  | .val _ :: as, some d :: ds, v :: vs => Rep K F d v ∧ ArgsV K F σ as ds vs
  | _, _, _ => False
noncomputable def dArgs : List Arg → M (List (Option D))
  | [] => fun δ => .ok [] δ
  | .own i :: as => fun δ => match δ[i]? with
    | some (some _) => (dArgs as δ).bind fun ds δ' => .ok (none :: ds) δ'
    | _ => .stuck
  | .val f :: as => fun δ => (f δ).bind fun d δ1 => (dArgs as δ1).bind fun ds δ2 => .ok (some d :: ds) δ2
noncomputable def kA (X : Cx) (Z : Ent) (ow : List Nat) (as : List Arg) (r : Res (List (Option D))) (F : Hp) (σ : St) (Q : List V → Hp → Prop) : Prop := match r with
  | .ok ds δ => ∀ vs H' F', Rel X.K Z ow F' H' σ δ → Same F F' → ArgsV X.K F' σ as ds vs → Q vs H'
  | .err x δ => XOk X Z ow F x δ
  | .stuck => False
noncomputable def tAr (X : Cx) (Z : Ent) (ow : List Nat) (as : List Arg) : TA := fun σ H Q => ∃ F δ, Rel X.K Z ow F H σ δ ∧ kA X Z ow as (dArgs as δ) F σ Q
noncomputable def DA (X : Cx) (Z : Ent) (ow : List Nat) (es : List Expr) (as : List Arg) : Prop := PA X es (tAr X Z ow as)
section
variable {X : Cx} {Z : Ent} {ow : List Nat} {n : Nat} {F F1 : Hp} {σ : St} {Q Q' : VK} {pos : Pos} {e a b c : Expr} {f g : M D}
theorem kD.mono {r : Res D} (h : kD X Z ow n r F σ Q) (s : Same F F1) (q : ∀ v H', Q v H' → Q' v H') : kD X Z ow n r F1 σ Q' := by
  cases r with
  | ok d δ => exact fun v H' F' R s' => q v H' (h v H' F' R (s.trans' s'))
  | err x δ => exact XOk.mono h s
  | stuck => exact h
theorem kT.mono {r : Res Bool} {Q Q' : Bool → Hp → Prop} (h : kT X Z ow r F σ Q) (s : Same F F1) (q : ∀ v H', Q v H' → Q' v H') : kT X Z ow r F1 σ Q' := by
  cases r with
  | ok d δ => exact fun H' F' R s' => q _ H' (h H' F' R (s.trans' s'))
  | err x δ => exact XOk.mono h s
  | stuck => exact h
theorem kA.mono {as : List Arg} {r : Res (List (Option D))} {Q Q' : List V → Hp → Prop} (h : kA X Z ow as r F σ Q) (s : Same F F1) (q : ∀ v H', Q v H' → Q' v H') : kA X Z ow as r F1 σ Q' := by
  cases r with
  | ok d δ => exact fun v H' F' R s' z => q v H' (h v H' F' R (s.trans' s') z)
  | err x δ => exact XOk.mono h s
  | stuck => exact h
noncomputable def dVar (i : Nat) : M D := fun δ => match δ[i]? with
  | some (some d) => .ok d δ
  | _ => .stuck
noncomputable def dC (d : D) : M D := fun δ => .ok d δ
theorem de_var (i : Nat) {x : Str} (ho : ow.getD i 0 = 0 := by rfl) (hN : X.N[i]? = some x := by rfl) (hv : Vis X.env.scope x := by first | exact Or.inl rfl | exact Or.inr (Or.inl rfl) | exact Or.inr (Or.inr rfl)) (hd : (x == ("__debug__" : Str)) = false := by decide) (hcd : (x == ("__classdict__" : Str)) = false := by decide) : DE X Z ow 0 (.Name x pos) (dVar i) :=
  (pe_var hN hv hd hcd).mono fun σ H Q h => by
    obtain ⟨F, δ, R, h⟩ := h
    unfold dVar at h
    cases e : δ[i]? with
    | none => rw [e] at h; exact h.elim
    | some o =>
      cases o with
      | none => rw [e] at h; exact h.elim
      | some d =>
        rw [e] at h
        obtain ⟨g, R⟩ := R
        obtain ⟨v, e1, o⟩ := R.slot i d e
        rw [ho] at o
        exact ⟨v, e1, h v H F ⟨g, R, o⟩ fun _ _ z => z⟩
theorem de_const {v : V} {d : D} (h : PE X e (tC v)) (hr : ∀ F, Rep X.K F d v) : DE X Z ow 0 e (dC d) := h.mono fun σ H Q h => by
  obtain ⟨F, δ, ⟨g, R⟩, h⟩ := h
  exact h v H F ⟨g, R, hr F⟩ fun _ _ z => z
theorem de_int {i : Int} {j} : DE X Z ow 0 (.Constant (.int i) j pos) (dC (.int i)) := de_const pe_int fun F => by unfold Rep; rfl
theorem de_bl {b : Bool} {j} : DE X Z ow 0 (.Constant (.bool b) j pos) (dC (.bool b)) := de_const pe_bl fun F => by unfold Rep; rfl
theorem de_str {x : Str} {j} : DE X Z ow 0 (.Constant (.str x) j pos) (dC (.str x)) := de_const pe_str fun F => by unfold Rep; rfl
noncomputable def dOp (op : D → D → Option D) (f g : M D) : M D := fun δ => (f δ).bind fun x δ1 => (g δ1).bind fun y δ2 => match op x y with
  | some z => .ok z δ2
  | none => .stuck
noncomputable def OpS (X : Cx) (r : R2) (n : Nat) (op : D → D → Option D) : Prop := ∀ (Z : Ent) (ow : List Nat) (F H : Hp) (σ : St) (δ : DS) (a b : D) (x y : V) (d : D) (Q : VK), Small Z ow → Rel X.K Z ow F H σ δ → Rep X.K F a x → Rep X.K F b y → op a b = some d →
  (∀ v H' F', RelX X.K Z ow n d v F' H' σ δ → Same F F' → Q v H') → r x y H Q
theorem tOp_of {r : R2} {op : D → D → Option D} (S : Small Z ow) (os : OpS X r n op) {H : Hp} (h : tD X Z ow n (dOp op f g) σ H Q) : tOp r (tD X Z ow 0 f) (tD X Z ow 0 g) σ H Q := by
  obtain ⟨F, δ, R, h⟩ := h
  unfold dOp at h
  refine ⟨F, δ, R, ?_⟩
  cases e : f δ with
  | stuck => rw [e] at h; exact h.elim
  | err x δ1 => rw [e] at h; exact h
  | ok d1 δ1 =>
    rw [e] at h
    intro x H1 F1 R1 s1
    refine ⟨F1, δ1, R1.rel, ?_⟩
    simp only [Res.bind] at h
    cases e2 : g δ1 with
    | stuck => rw [e2] at h; exact h.elim
    | err x δ2 => rw [e2] at h; exact XOk.mono h s1
    | ok d2 δ2 =>
      rw [e2] at h
      simp only [Res.bind] at h
      intro y H2 F2 R2 s2
      cases e3 : op d1 d2 with
      | none => rw [e3] at h; exact h.elim
      | some d =>
        rw [e3] at h
        exact os Z ow F2 H2 σ δ2 d1 d2 x y d Q S R2.rel (s2.rep _ _ R1.rep) R2.rep e3 fun v H' F' R' s' => h v H' F' R' (s1.trans' (s2.trans' s'))
theorem de_op {o : Operator} {r : R2} {op : D → D → Option D} (S : Small Z ow) (ho : OpR X (binaryOp o) r) (os : OpS X r n op) (ha : DE X Z ow 0 a f) (hb : DE X Z ow 0 b g) : DE X Z ow n (.BinOp a o b pos) (dOp op f g) :=
  (pe_op ho ha hb).mono fun _ _ _ h => tOp_of S os h
theorem de_cmp {o : CmpOp} {r : R2} {op : D → D → Option D} (S : Small Z ow) (ho : OpR X (compareOp o) r) (os : OpS X r 0 op) (ha : DE X Z ow 0 a f) (hb : DE X Z ow 0 b g) (hm : behindInMarks o b = false) : DE X Z ow 0 (.Compare a [o] [b] pos) (dOp op f g) :=
  (pe_cmpR ho ha hb hm).mono fun _ _ _ h => tOp_of S os h
noncomputable def dB (f : M D) : M Bool := fun δ => (f δ).bind fun d δ1 => match d with
  | .bool b => .ok b δ1
  | _ => .stuck
theorem tT_of {H : Hp} {Q : Bool → Hp → Prop} (h : tT X Z ow (dB f) σ H Q) : tD X Z ow 0 f σ H (fun x H' => ∃ k, x = .bl k ∧ Q k H') := by
  obtain ⟨F, δ, R, h⟩ := h
  unfold dB at h
  refine ⟨F, δ, R, ?_⟩
  cases e : f δ with
  | stuck => rw [e] at h; exact h.elim
  | err x δ1 => rw [e] at h; exact h
  | ok d1 δ1 =>
    rw [e] at h
    intro x H1 F1 R1 s1
    simp only [Res.bind] at h
    cases d1 with
    | bool k =>
      have q := R1.rep
      unfold Rep at q
      exact ⟨k, q, h H1 F1 R1.rel s1⟩
    | _ => exact h.elim
theorem dt_cmp {o : CmpOp} {r : R2} {op : D → D → Option D} (S : Small Z ow) (ho : OpR X (compareOp o) r) (os : OpS X r 0 op) (ha : DE X Z ow 0 a f) (hb : DE X Z ow 0 b g) (hm : behindInMarks o b = false) : DT X Z ow (.Compare a [o] [b] pos) (dB (dOp op f g)) :=
  (pt_cmpR ho ha hb hm).mono fun _ _ _ h => tOp_of S os (tT_of h)
theorem dt_val (h : DE X Z ow 0 e f) (he : ∀ whole, isTrue e X.env whole = (do let v ← whole; standAt e.pos; holding [v] (truthy v)) := by intro _; rfl) : DT X Z ow e (dB f) := (pt_val h he).mono fun _ _ _ h => tT_of h
noncomputable def dNotT (f : M Bool) : M Bool := fun δ => (f δ).bind fun b δ1 => .ok (!b) δ1
theorem dt_not {f : M Bool} (h : DT X Z ow e f) : DT X Z ow (.UnaryOp .Not e pos) (dNotT f) := (pt_not h).mono fun σ H Q h => by
  obtain ⟨F, δ, R, h⟩ := h
  unfold dNotT at h
  refine ⟨F, δ, R, ?_⟩
  cases e : f δ with
  | stuck => rw [e] at h; exact h.elim
  | err x δ1 => rw [e] at h; exact h
  | ok b δ1 => rw [e] at h; exact h
noncomputable def dAndT (f g : M Bool) : M Bool := fun δ => (f δ).bind fun b δ1 => if b = true then g δ1 else .ok false δ1
noncomputable def dOrT (f g : M Bool) : M Bool := fun δ => (f δ).bind fun b δ1 => if b = true then .ok true δ1 else g δ1
theorem PW.mono {t t' : TT} (h : PW X e t) (hm : ∀ σ H Q, t' σ H Q → t σ H Q) : PW X e t' := fun wh pins s σ H Q I q => h wh pins s σ H Q I (hm σ H Q q)
theorem dw_or {f g : M Bool} {rest : List Expr} (ha : DT X Z ow a f) (hb : PW X (.BoolOp .Or (b :: rest) pos) (tT X Z ow g)) : PW X (.BoolOp .Or (a :: b :: rest) pos) (tT X Z ow (dOrT f g)) := (pw_or ha hb).mono fun σ H Q h => by
  obtain ⟨F, δ, R, h⟩ := h
  unfold dOrT at h
  refine ⟨F, δ, R, ?_⟩
  cases e : f δ with
  | stuck => rw [e] at h; exact h.elim
  | err x δ1 => rw [e] at h; exact h
  | ok k δ1 =>
    rw [e] at h
    simp only [Res.bind] at h
    intro H1 F1 R1 s1
    cases k with
    | true => rw [if_pos rfl] at h ⊢; exact h H1 F1 R1 s1
    | false => rw [if_neg Bool.false_ne_true] at h ⊢; exact ⟨F1, δ1, R1, h.mono s1 fun _ _ z => z⟩
noncomputable def dIf (c : M Bool) (f g : M D) : M D := fun δ => (c δ).bind fun b δ1 => if b = true then f δ1 else g δ1
theorem de_fz (S : Small Z ow) (h : DE X Z ow n e f) : DE X Z ow 0 e f := PE.mono h fun σ H Q h => by
  obtain ⟨F, δ, R, h⟩ := h
  refine ⟨F, δ, R, ?_⟩
  cases e : f δ with
  | stuck => rw [e] at h; exact h.elim
  | err x δ1 => rw [e] at h; exact h
  | ok d δ1 =>
    rw [e] at h
    intro v H1 F1 R1 s1
    obtain ⟨F2, s2, R2⟩ := R1.freeze S
    exact h v H1 F2 R2 (s1.trans' s2)
end
end L2
namespace L2
open PySem PySem.Spec PyProof.Rows
noncomputable def dVals : List (M D) → M (List D)
  | [] => fun δ => .ok [] δ
  | f :: fs => fun δ => (f δ).bind fun d δ1 => (dVals fs δ1).bind fun ds δ2 => .ok (d :: ds) δ2
noncomputable def kV' (X : Cx) (Z : Ent) (ow : List Nat) (r : Res (List D)) (F : Hp) (σ : St) (Q : List V → Hp → Prop) : Prop := match r with
  | .ok ds δ => ∀ vs H' F', Rel X.K Z ow F' H' σ δ → Same F F' → RepAll X.K F' ds vs → Q vs H'
  | .err x δ => XOk X Z ow F x δ
  | .stuck => False
noncomputable def tV (X : Cx) (Z : Ent) (ow : List Nat) (fs : List (M D)) : TA := fun σ H Q => ∃ F δ, Rel X.K Z ow F H σ δ ∧ kV' X Z ow (dVals fs δ) F σ Q
noncomputable def DV (X : Cx) (Z : Ent) (ow : List Nat) (es : List Expr) (fs : List (M D)) : Prop := PA X es (tV X Z ow fs)
section
variable {X : Cx} {Z : Ent} {ow : List Nat} {n : Nat} {pos : Pos} {e a b c : Expr} {es : List Expr} {f g : M D} {fs : List (M D)} {as : List Arg}
theorem dv_nil : DV X Z ow [] [] := pa_nil.mono fun σ H Q h => by
  obtain ⟨F, δ, R, h⟩ := h
  exact h [] H F R (Same.refl _) repNil
theorem dv_cons (he : DE X Z ow 0 e f) (hs : DV X Z ow es fs) (hst : starEach (e :: es) X.env = (false, eval e X.env) :: starEach es X.env := by rfl) : DV X Z ow (e :: es) (f :: fs) := (pa_cons he hs hst).mono fun σ H Q h => by
  obtain ⟨F, δ, R, h⟩ := h
  unfold dVals at h
  refine ⟨F, δ, R, ?_⟩
  cases e1 : f δ with
  | stuck => rw [e1] at h; exact h.elim
  | err x δ1 => rw [e1] at h; exact h
  | ok d δ1 =>
    rw [e1] at h
    simp only [Res.bind] at h
    intro x H1 F1 R1 s1
    refine ⟨F1, δ1, R1.rel, ?_⟩
    cases e2 : dVals fs δ1 with
    | stuck => rw [e2] at h; exact h.elim
    | err x δ2 => rw [e2] at h; exact XOk.mono h s1
    | ok ds δ2 =>
      rw [e2] at h
      intro vs H2 F2 R2 s2 z
      exact h (x :: vs) H2 F2 R2 (s1.trans' s2) (repCons (s2.rep _ _ R1.rep) z)
theorem da_nil : DA X Z ow [] [] := pa_nil.mono fun σ H Q h => by
  obtain ⟨F, δ, R, h⟩ := h
  exact h [] H F R (Same.refl _) trivial
theorem ArgsV.mono {K : PySem.W.Frag} {F F' : Hp} {σ : St} (s : Same F F') : ∀ {as : List Arg} {ds : List (Option D)} {vs : List V}, ArgsV K F σ as ds vs → ArgsV K F' σ as ds vs
  | [], [], [], _ => trivial
  | .own i :: as, none :: ds, v :: vs, ⟨h, t⟩ => ⟨h, ArgsV.mono s t⟩
  | .val _ :: as, some d :: ds, v :: vs, ⟨h, t⟩ => ⟨s.rep _ _ h, ArgsV.mono s t⟩
theorem da_val (he : DE X Z ow 0 e f) (hs : DA X Z ow es as) (hst : starEach (e :: es) X.env = (false, eval e X.env) :: starEach es X.env := by rfl) : DA X Z ow (e :: es) (.val f :: as) := (pa_cons he hs hst).mono fun σ H Q h => by
  obtain ⟨F, δ, R, h⟩ := h
  unfold dArgs at h
  refine ⟨F, δ, R, ?_⟩
  cases e1 : f δ with
  | stuck => rw [e1] at h; exact h.elim
  | err x δ1 => rw [e1] at h; exact h
  | ok d δ1 =>
    rw [e1] at h
    simp only [Res.bind] at h
    intro x H1 F1 R1 s1
    refine ⟨F1, δ1, R1.rel, ?_⟩
    cases e2 : dArgs as δ1 with
    | stuck => rw [e2] at h; exact h.elim
    | err x δ2 => rw [e2] at h; exact XOk.mono h s1
    | ok ds δ2 =>
      rw [e2] at h
      intro vs H2 F2 R2 s2 z
      exact h (x :: vs) H2 F2 R2 (s1.trans' s2) ⟨s2.rep _ _ R1.rep, z⟩
theorem da_own (i : Nat) {x : Str} {p : Pos} (hs : DA X Z ow es as) (hst : starEach (.Name x p :: es) X.env = (false, eval (.Name x p) X.env) :: starEach es X.env := by rfl) (hN : X.N[i]? = some x := by rfl)
    (hv : Vis X.env.scope x := by first | exact Or.inl rfl | exact Or.inr (Or.inl rfl) | exact Or.inr (Or.inr rfl)) (hd : (x == ("__debug__" : Str)) = false := by decide) (hcd : (x == ("__classdict__" : Str)) = false := by decide) : DA X Z ow (.Name x p :: es) (.own i :: as) :=
  (pa_cons (pe_var hN hv hd hcd) hs hst).mono fun σ H Q h => by
    obtain ⟨F, δ, R, h⟩ := h
    unfold dArgs at h
    cases e : δ[i]? with
    | none => rw [e] at h; exact h.elim
    | some o =>
      cases o with
      | none => rw [e] at h; exact h.elim
      | some d =>
        rw [e] at h
        obtain ⟨g, R'⟩ := id R
        obtain ⟨v, e1, _⟩ := R'.slot i d e
        refine ⟨v, e1, F, δ, R, ?_⟩
        cases e2 : dArgs as δ with
        | stuck => simp only [e2] at h; exact h.elim
        | err x δ2 => simp only [e2] at h; exact h
        | ok ds δ2 =>
          simp only [e2] at h
          intro vs H2 F2 R2 s2 z
          exact h (v :: vs) H2 F2 R2 s2 ⟨e1, z⟩
noncomputable def dTup (fs : List (M D)) : M D := fun δ => (dVals fs δ).bind fun ds δ1 => if ds.length ≤ sizeLine then .ok (.tuple ds) δ1 else .stuck
noncomputable def dLst (fs : List (M D)) : M D := fun δ => (dVals fs δ).bind fun ds δ1 => if ds.length ≤ sizeLine then .ok (.list ds) δ1 else .stuck
theorem rep_newTup {K : PySem.W.Frag} {F : Hp} {p : Addr} {ds : List D} {vs : List V} (hp : F p = none) (h : RepAll K F ds vs) : Rep K (upd F p (.tup vs)) (.tuple ds) (.ref p) := by
  unfold Rep
  exact ⟨p, vs, rfl, SqT.of upd_same, (same_new hp _).repAll ds vs h⟩
theorem de_tup {x1} (h : DV X Z ow es fs) : DE X Z ow 0 (.Tuple es x1 pos) (dTup fs) := (pe_tup h).mono fun σ H Q h => by
  obtain ⟨F, δ, R, h⟩ := h
  unfold dTup at h
  refine ⟨F, δ, R, ?_⟩
  cases e : dVals fs δ with
  | stuck => rw [e] at h; exact h.elim
  | err x δ1 => rw [e] at h; exact h
  | ok ds δ1 =>
    rw [e] at h
    simp only [Res.bind] at h
    intro vs H1 F1 R1 s1 z
    split at h
    · rename_i hl
      refine ⟨by rw [← z.len]; exact hl, fun p hp => ?_⟩
      have fp := R1.fnone hp
      exact h _ _ (upd F1 p (.tup vs)) ((R1.laid hp).x (rep_newTup fp z)) (s1.trans' (same_new fp _))
    · exact h.elim
theorem de_lst (S : Small Z ow) (h : DV X Z ow es fs) : DE X Z ow 1 (.List es pos) (dLst fs) := (pe_lst h).mono fun σ H Q h => by
  obtain ⟨F, δ, R, h⟩ := h
  unfold dLst at h
  refine ⟨F, δ, R, ?_⟩
  cases e : dVals fs δ with
  | stuck => rw [e] at h; exact h.elim
  | err x δ1 => rw [e] at h; exact h
  | ok ds δ1 =>
    rw [e] at h
    simp only [Res.bind] at h
    intro vs H1 F1 R1 s1 z
    split at h
    · rename_i hl
      exact ⟨by rw [← z.len]; exact hl, fun p hp => h _ _ F1 (R1.newList S hp z) s1⟩
    · exact h.elim
noncomputable def dFn (op : List D → Option D) (fs : List (M D)) : M D := fun δ => (dVals fs δ).bind fun ds δ1 => match op ds with
  | some d => .ok d δ1
  | none => .stuck
noncomputable def FnS (X : Cx) (r : List V → Hp → VK → Prop) (n : Nat) (op : List D → Option D) : Prop := ∀ (Z : Ent) (ow : List Nat) (F H : Hp) (σ : St) (δ : DS) (ds : List D) (vs : List V) (d : D) (Q : VK), Small Z ow → Rel X.K Z ow F H σ δ → RepAll X.K F ds vs → op ds = some d →
  (∀ v H' F', RelX X.K Z ow n d v F' H' σ δ → Same F F' → Q v H') → r vs H Q
theorem tFn_of {r : List V → Hp → VK → Prop} {op : List D → Option D} {σ : St} {H : Hp} {Q : VK} (S : Small Z ow) (os : FnS X r n op) (h : tD X Z ow n (dFn op fs) σ H Q) : tCB r (tV X Z ow fs) σ H Q := by
  obtain ⟨F, δ, R, h⟩ := h
  unfold dFn at h
  refine ⟨F, δ, R, ?_⟩
  cases e : dVals fs δ with
  | stuck => rw [e] at h; exact h.elim
  | err x δ1 => rw [e] at h; exact h
  | ok ds δ1 =>
    rw [e] at h
    simp only [Res.bind] at h
    intro vs H1 F1 R1 s1 z
    cases e3 : op ds with
    | none => rw [e3] at h; exact h.elim
    | some d =>
      rw [e3] at h
      exact os Z ow F1 H1 σ δ1 ds vs d Q S R1 z e3 fun v H' F' R' s' => h v H' F' R' (s1.trans' s')
theorem de_callB {id : String} {x : Str} {p : Pos} {r : List V → Hp → VK → Prop} {op : List D → Option D} (S : Small Z ow) (hc : CallR X (.builtin id) r) (os : FnS X r n op) (hg : Gl X x) (hm : X.mg x = none) (hv : bootBuiltins x = some (.builtin id)) (ha : DV X Z ow (e :: es) fs)
    (hn : x ≠ "__name__" := by decide) (hdb : (x == ("__debug__" : Str)) = false := by decide) (he : starEach (e :: es) X.env = (false, eval e X.env) :: starEach es X.env := by rfl) (hpl : (backTo pos (starEach es X.env)).any (·.1) = false := by rfl) :
    DE X Z ow n (.Call (.Name x p) (e :: es) [] pos) (dFn op fs) := PE.mono (pe_callB hc hg hm hv ha hn hdb he hpl) fun _ _ _ h => tFn_of S os h
theorem de_callTy {T : String} {x : Str} {p : Pos} {r : List V → Hp → VK → Prop} {op : List D → Option D} (S : Small Z ow) (hc : CallR X (.type T) r) (os : FnS X r n op) (hg : Gl X x) (hm : X.mg x = none) (hv : bootBuiltins x = some (.type T)) (ha : DV X Z ow (e :: es) fs)
    (hn : x ≠ "__name__" := by decide) (hdb : (x == ("__debug__" : Str)) = false := by decide) (he : starEach (e :: es) X.env = (false, eval e X.env) :: starEach es X.env := by rfl) (hpl : (backTo pos (starEach es X.env)).any (·.1) = false := by rfl) :
    DE X Z ow n (.Call (.Name x p) (e :: es) [] pos) (dFn op fs) := PE.mono (pe_callTy hc hg hm hv ha hn hdb he hpl) fun _ _ _ h => tFn_of S os h
end
inductive Fl where
  | next | brk | cont
  | ret (d : D)
noncomputable def kS (X : Cx) (Z : Ent) (ow' ol ox : List Nat) (rm : Nat) (r : Res Fl) (F : Hp) (Dn : Ends) : Prop := match r with
  | .ok .next δ => ∀ σ' H' F', Rel X.K Z ow' F' H' σ' δ → Same F F' → Dn.nx σ' H'
  | .ok .brk δ => ∀ σ' H' F', Rel X.K Z ol F' H' σ' δ → Same F F' → Dn.bk σ' H'
  | .ok .cont δ => ∀ σ' H' F', Rel X.K Z ol F' H' σ' δ → Same F F' → Dn.ct σ' H'
  | .ok (.ret d) δ => ∀ v σ' H' F' owr, RelX X.K Z owr rm d v F' H' σ' δ → Same F F' → Dn.rt v H'
  | .err x δ => XOk X Z ox F x δ
  | .stuck => False
noncomputable def tS (X : Cx) (Z : Ent) (ow ow' ol ox : List Nat) (rm : Nat) (f : M Fl) : TS := fun Dn σ H => ∃ F δ, Rel X.K Z ow F H σ δ ∧ kS X Z ow' ol ox rm (f δ) F Dn
noncomputable def DS1 (X : Cx) (Z : Ent) (ow ow' ol ox : List Nat) (rm : Nat) (st : Stmt) (f : M Fl) : Prop := PS X st (tS X Z ow ow' ol ox rm f)
noncomputable def DSs (X : Cx) (Z : Ent) (ow ow' ol ox : List Nat) (rm : Nat) (st : List Stmt) (f : M Fl) : Prop := PSs X st (tS X Z ow ow' ol ox rm f)
section
variable {X : Cx} {Z : Ent} {ow ow' ow1 ol ox : List Nat} {n rm : Nat} {pos : Pos} {e a b c : Expr} {es : List Expr} {f : M D} {st : Stmt} {sts : List Stmt} {u v : M Fl} {F F1 : Hp}
theorem kS.mono {r : Res Fl} {Dn : Ends} (h : kS X Z ow' ol ox rm r F Dn) (s : Same F F1) : kS X Z ow' ol ox rm r F1 Dn := by
  cases r with
  | ok fl δ =>
    cases fl with
    | next => exact fun σ' H' F' R s' => h σ' H' F' R (s.trans' s')
    | brk => exact fun σ' H' F' R s' => h σ' H' F' R (s.trans' s')
    | cont => exact fun σ' H' F' R s' => h σ' H' F' R (s.trans' s')
    | ret d => exact fun v σ' H' F' owr R s' => h v σ' H' F' owr R (s.trans' s')
  | err x δ => exact XOk.mono h s
  | stuck => exact h
noncomputable def dNext : M Fl := fun δ => .ok .next δ
theorem dss_nil : DSs X Z ow ow ol ox rm [] dNext := PSs.mono pss_nil fun Dn σ H h => by
  obtain ⟨F, δ, R, h⟩ := h
  exact h σ H F R (Same.refl _)
noncomputable def dSeq (u v : M Fl) : M Fl := fun δ => (u δ).bind fun fl δ1 => match fl with
  | .next => v δ1
  | fl => .ok fl δ1
theorem dss_cons (h1 : DS1 X Z ow ow1 ol ox rm st u) (h2 : DSs X Z ow1 ow' ol ox rm sts v) : DSs X Z ow ow' ol ox rm (st :: sts) (dSeq u v) := PSs.mono (pss_cons h1 h2) fun Dn σ H h => by
  obtain ⟨F, δ, R, h⟩ := h
  unfold dSeq at h
  refine ⟨F, δ, R, ?_⟩
  cases e : u δ with
  | stuck => rw [e] at h; exact h.elim
  | err x δ1 => rw [e] at h; exact h
  | ok fl δ1 =>
    rw [e] at h
    simp only [Res.bind] at h
    cases fl with
    | next => exact fun σ' H' F' R' s' => ⟨F', δ1, R', h.mono s'⟩
    | brk => exact h
    | cont => exact h
    | ret d => exact h
theorem dss_one (h1 : DS1 X Z ow ow' ol ox rm st u) : DSs X Z ow ow' ol ox rm [st] u := PSs.mono (pss_one h1) fun Dn σ H h => h
noncomputable def dRet (f : M D) : M Fl := fun δ => (f δ).bind fun d δ1 => .ok (.ret d) δ1
theorem ds_ret (h : DE X Z ow rm e f) : DS1 X Z ow ow' ol ox rm (.Return (some e) pos) (dRet f) := PS.mono (ps_ret h) fun Dn σ H h => by
  obtain ⟨F, δ, R, h⟩ := h
  unfold dRet at h
  refine ⟨F, δ, R, ?_⟩
  cases e : f δ with
  | stuck => rw [e] at h; exact h.elim
  | err x δ1 => rw [e] at h; exact XOk.cast h
  | ok d δ1 =>
    rw [e] at h
    exact fun v H' F' R' s' => h v σ H' F' ow R' s'
noncomputable def dDrop (f : M D) : M Fl := fun δ => (f δ).bind fun _ δ1 => .ok .next δ1
theorem ds_expr (h : DE X Z ow n e f) (hs : swapsWith e none pos.line X.env = pure false := by rfl) : DS1 X Z ow ow ol ox rm (.Expr e pos) (dDrop f) := PS.mono (ps_expr h hs) fun Dn σ H h => by
  obtain ⟨F, δ, R, h⟩ := h
  unfold dDrop at h
  refine ⟨F, δ, R, ?_⟩
  cases e : f δ with
  | stuck => rw [e] at h; exact h.elim
  | err x δ1 => rw [e] at h; exact XOk.cast h
  | ok d δ1 =>
    rw [e] at h
    exact fun v H' F' R' s' => h σ H' F' R'.rel s'
noncomputable def dIfS (c : M Bool) (u v : M Fl) : M Fl := fun δ => (c δ).bind fun b δ1 => if b = true then u δ1 else v δ1
theorem ds_if {k : M Bool} {sa sb : List Stmt} (hc : DT X Z ow c k) (ha : DSs X Z ow ow' ol ox rm sa u) (hb : DSs X Z ow ow' ol ox rm sb v) : DS1 X Z ow ow' ol ox rm (.If c sa sb pos) (dIfS k u v) := PS.mono (ps_if hc ha hb) fun Dn σ H h => by
  obtain ⟨F, δ, R, h⟩ := h
  unfold dIfS at h
  refine ⟨F, δ, R, ?_⟩
  cases e : k δ with
  | stuck => rw [e] at h; exact h.elim
  | err x δ1 => rw [e] at h; exact XOk.cast h
  | ok d δ1 =>
    rw [e] at h
    simp only [Res.bind] at h
    intro H1 F1 R1 s1
    cases d with
    | true => rw [if_pos rfl] at h ⊢; exact ⟨F1, δ1, R1, h.mono s1⟩
    | false => rw [if_neg Bool.false_ne_true] at h ⊢; exact ⟨F1, δ1, R1, h.mono s1⟩
theorem Rel.freeze {H : Hp} {σ : St} {δ : DS} (i : Nat) (R : Rel X.K Z ow F H σ δ) (hi : i ∉ Z.ps) : ∃ F', Same F F' ∧ Rel X.K Z (ow.set i 0) F' H σ δ := let ⟨_, R⟩ := R; ⟨_, fzH_same, _, R.freeze i hi⟩
theorem notIn {i : Nat} {l : List Nat} (h : l.contains i = false) : i ∉ l := fun m => by rw [List.contains_iff_mem.mpr m] at h; cases h
theorem dss_fz (i : Nat) (h : DSs X Z (ow.set i 0) ow' ol ox rm sts u) (hi : Z.ps.contains i = false := by rfl) : DSs X Z ow ow' ol ox rm sts u := PSs.mono h fun Dn σ H h => by
  obtain ⟨F, δ, R, h⟩ := h
  obtain ⟨F', s, R'⟩ := R.freeze i (notIn hi)
  exact ⟨F', δ, R', h.mono s⟩
theorem RelX.store {i : Nat} {d : D} {v : V} {H : Hp} {σ : St} {δ : DS} (S : Small Z ow) (R : RelX X.K Z ow n d v F H σ δ) (hi : i < δ.length) (hps : i ∉ Z.ps) (hl : i < ow.length) : Rel X.K Z (ow.set i n) F H (σ.set i (some v)) (δ.set i (some d)) := by
  obtain ⟨g, R, o⟩ := R
  have i1 : i < 1000 := Nat.lt_of_lt_of_le hl S.ow
  have hg : ∀ (a : Addr) (l : Lab), l.1 ≠ i → l.1 ≠ 1000 → g a = some l → (fun b => match g b with | some (j, p) => if j = 1000 then some (i, p) else if j = i then none else some (j, p) | none => none : Addr → Option Lab) a = some l := fun a l h1 h2 e => by
    obtain ⟨j, p⟩ := l
    dsimp only
    rw [e]
    dsimp only
    rw [if_neg h2, if_neg h1]
  refine ⟨fun b => match g b with | some (j, p) => if j = 1000 then some (i, p) else if j = i then none else some (j, p) | none => none, R.sub, R.f0, R.kept, R.new, R.there, fun a j p e => ?_, by rw [List.length_set, List.length_set]; exact R.len, fun j hj => ?_, fun j d' e => ?_⟩
  · cases q : g a with
    | none => rw [q] at e; cases e
    | some l =>
      obtain ⟨j', p'⟩ := l
      rw [q] at e
      have e : (if j' = 1000 then some (i, p') else if j' = i then none else some (j', p')) = some (j, p) := e
      split at e
      · rename_i z
        refine .inl ((R.lab a j' p' q).elim id fun ⟨q', w⟩ => absurd (Z.wf a j' q' w) (by rw [z]; exact S.ps))
      · split at e
        · cases e
        · cases e; exact R.lab a j p q
  · have ne : j ≠ i := fun z => hps (by rw [← z]; exact hj)
    rw [List.getElem?_set_ne (Ne.symm ne), List.getD_eq_getElem?_getD, List.getElem?_set_ne (Ne.symm ne), ← List.getD_eq_getElem?_getD]
    exact R.par j hj
  · by_cases hj : j = i
    · subst hj
      rw [List.getElem?_set_self hi] at e
      cases e
      refine ⟨v, List.getElem?_set_self (by rw [← R.len]; exact hi), ?_⟩
      have : (ow.set j n).getD j 0 = n := by rw [List.getD_eq_getElem?_getD, List.getElem?_set_self hl]; rfl
      rw [this]
      exact o.relab fun a p e => by rw [e]; exact if_pos rfl
    · rw [List.getElem?_set_ne (Ne.symm hj)] at e
      obtain ⟨w, e1, o1⟩ := R.slot j d' e
      refine ⟨w, by rw [List.getElem?_set_ne (Ne.symm hj)]; exact e1, ?_⟩
      have : (ow.set i n).getD j 0 = ow.getD j 0 := by rw [List.getD_eq_getElem?_getD, List.getD_eq_getElem?_getD, List.getElem?_set_ne (Ne.symm hj)]
      rw [this]
      by_cases hz : ow.getD j 0 = 0
      · rw [hz] at o1 ⊢; exact o1
      · have j1 : j < 1000 := by
          by_cases hl : j < ow.length
          · exact Nat.lt_of_lt_of_le hl S.ow
          · exact absurd (by rw [List.getD_eq_getElem?_getD, List.getElem?_eq_none (by omega)]; rfl) hz
        exact o1.mono (Same.refl _) (fun a l hl e => hg a l (by rw [hl]; exact hj) (by rw [hl]; omega) e) (fun _ _ _ _ h => h) fun _ _ _ _ _ h => h
noncomputable def dSet (i : Nat) (f : M D) : M Fl := fun δ => (f δ).bind fun d δ1 => if i < δ1.length then .ok .next (δ1.set i (some d)) else .stuck
theorem tSet_of {i : Nat} {Dn : Ends} {σ : St} {H : Hp} (S : Small Z ow) (hps : i ∉ Z.ps) (hl : i < ow.length) (h : tS X Z ow (ow.set i n) ol ox rm (dSet i f) Dn σ H) : tAsg (tD X Z ow n f) (gName i) Dn σ H := by
  obtain ⟨F, δ, R, h⟩ := h
  unfold dSet at h
  refine ⟨F, δ, R, ?_⟩
  cases e : f δ with
  | stuck => rw [e] at h; exact h.elim
  | err x δ1 => rw [e] at h; exact XOk.cast h
  | ok d δ1 =>
    rw [e] at h
    simp only [Res.bind] at h
    intro v H1 F1 R1 s1
    split at h
    · rename_i hi
      exact h _ H1 F1 (R1.store S hi hps hl) s1
    · exact h.elim
theorem ds_set (i : Nat) {x : Str} {pos' : Pos} (S : Small Z ow) (h : DE X Z ow n e f) (hN : X.N.Nodup) (hi : X.N[i]? = some x := by rfl) (hx : Loc X.env.scope x := by first | exact Or.inl rfl | exact Or.inr rfl) (hps : Z.ps.contains i = false := by rfl) (hl : i < ow.length := by decide)
    (hs : swapsWith e (some (.Name x pos')) pos.line X.env = pure false := by rfl) (hf : X.fn x = true ∨ X.env.scope.names.lookup x = some .local := by first | exact .inl rfl | exact .inr rfl | assumption) :
    DS1 X Z ow (ow.set i n) ol ox rm (.Assign [.Name x pos'] e pos) (dSet i f) := PS.mono (ps_set hN hi hx h hs hf) fun Dn σ H h => tSet_of S (notIn hps) hl h
end
end L2
namespace L2
open PySem PySem.Spec PyProof.Rows
noncomputable def dLoop (set : D → DS → Option DS) (body : M Fl) : List D → M Fl
  | [] => fun δ => .ok .next δ
  | d :: ds => fun δ => match set d δ with
    | none => .stuck
    | some δ1 => (body δ1).bind fun fl δ2 => match fl with
      | .next => dLoop set body ds δ2
      | .cont => dLoop set body ds δ2
      | .brk => .ok .next δ2
      | .ret d => .ok (.ret d) δ2
noncomputable def TgS (X : Cx) (Z : Ent) (ow : List Nat) (g : TG) (set : D → DS → Option DS) : Prop := ∀ (F H : Hp) (σ : St) (δ δ' : DS) (d : D) (v : V) (Q : St → Hp → Prop), Rel X.K Z ow F H σ δ → Rep X.K F d v → set d δ = some δ' → (∀ σ', Rel X.K Z ow F H σ' δ' → Q σ' H) → g v σ H Q
noncomputable def setN (i : Nat) : D → DS → Option DS := fun d δ => if i < δ.length then some (δ.set i (some d)) else none
noncomputable def setT (is : List Nat) : D → DS → Option DS := fun d δ => match d with
  | .tuple ds => if ds.length = is.length then (is.zip ds).foldl (fun (o : Option DS) (p : Nat × D) => o.bind fun δ => setN p.1 p.2 δ) (some δ) else none
  | _ => none
section
variable {X : Cx} {Z : Ent} {ow ow' ol ox : List Nat} {n rm : Nat} {pos : Pos} {e tg : Expr} {f : M D} {sts : List Stmt} {u : M Fl} {g : TG} {set : D → DS → Option DS}
theorem set0 {i : Nat} (h : ow.getD i 0 = 0) : ow.set i 0 = ow := by
  by_cases hi : i < ow.length
  · apply List.ext_getElem?
    intro j
    by_cases hj : j = i
    · subst hj
      rw [List.getElem?_set_self hi]
      rw [List.getD_eq_getElem?_getD, List.getElem?_eq_getElem hi] at h
      rw [List.getElem?_eq_getElem hi]
      exact congrArg some h.symm
    · rw [List.getElem?_set_ne (Ne.symm hj)]
  · exact List.set_eq_of_length_le (by omega)
theorem tg_name {i : Nat} (S : Small Z ow) (hps : i ∉ Z.ps) (hl : i < ow.length) (h0 : ow.getD i 0 = 0) : TgS X Z ow (gName i) (setN i) := fun F H σ δ δ' d v Q R r e q => by
  unfold setN at e
  split at e
  · rename_i hi
    cases e
    have := (R.x r).store S hi hps hl
    rw [set0 h0] at this
    exact q _ this
  · cases e
theorem tgs_names (S : Small Z ow) : ∀ (is : List Nat) (t : TGs), (∀ i ∈ is, i ∉ Z.ps ∧ i < ow.length ∧ ow.getD i 0 = 0) → t = is.foldr (fun i u => gCons (gName i) u) gNil →
    ∀ (F H : Hp) (σ : St) (δ δ' : DS) (ds : List D) (vs : List V) (Q : St → Hp → Prop), Rel X.K Z ow F H σ δ → RepAll X.K F ds vs → ds.length = is.length → (is.zip ds).foldl (fun (o : Option DS) (p : Nat × D) => o.bind fun δ => setN p.1 p.2 δ) (some δ) = some δ' →
      (∀ σ', Rel X.K Z ow F H σ' δ' → Q σ' H) → t vs σ H Q
  | [], t, _, ht, F, H, σ, δ, δ', ds, vs, Q, R, r, hl, e, q => by
    cases ds with
    | cons _ _ => cases hl
    | nil =>
      unfold RepAll at r
      subst ht r
      cases e
      exact ⟨rfl, q σ R⟩
  | i :: is, t, hi, ht, F, H, σ, δ, δ', ds, vs, Q, R, r, hl, e, q => by
    cases ds with
    | nil => cases hl
    | cons d ds =>
      unfold RepAll at r
      obtain ⟨x, rest, rfl, rx, r⟩ := r
      subst ht
      rw [List.zip_cons_cons, List.foldl_cons] at e
      have no : ∀ (l : List (Nat × D)), l.foldl (fun (o : Option DS) (p : Nat × D) => o.bind fun δ => setN p.1 p.2 δ) none = none := fun l => by
        induction l with
        | nil => rfl
        | cons p l ih => rw [List.foldl_cons]; exact ih
      cases e1 : setN i d δ with
      | none =>
        rw [show ((some δ : Option DS).bind fun δ => setN (i, d).1 (i, d).2 δ) = none from e1, no] at e
        cases e
      | some δ1 =>
        rw [show ((some δ : Option DS).bind fun δ => setN (i, d).1 (i, d).2 δ) = some δ1 from e1] at e
        obtain ⟨h1, h2, h3⟩ := hi i List.mem_cons_self
        refine ⟨x, rest, rfl, tg_name S h1 h2 h3 F H σ δ δ1 d x _ R rx e1 fun σ' R' => ?_⟩
        exact tgs_names S is _ (fun j hj => hi j (List.mem_cons_of_mem _ hj)) rfl F H σ' δ1 δ' ds rest Q R' r (by simpa using hl) e q
theorem tg_tup {is : List Nat} {t : TGs} (S : Small Z ow) (hi : ∀ i ∈ is, i ∉ Z.ps ∧ i < ow.length ∧ ow.getD i 0 = 0) (ht : t = is.foldr (fun i u => gCons (gName i) u) gNil) : TgS X Z ow (gTup X.K is.length t) (setT is) := fun F H σ δ δ' d v Q R r e q => by
  unfold setT at e
  cases d with
  | tuple ds =>
    dsimp only at e
    split at e
    · rename_i hl
      unfold Rep at r
      obtain ⟨a, xs, rfl, hq, ra⟩ := r
      exact ⟨a, xs, rfl, R.sub.seqT hq, by rw [← ra.len]; exact hl, tgs_names S is t hi ht F H σ δ δ' ds xs Q R ra hl e q⟩
    · cases e
  | _ => cases e
theorem loop_at {Dn : Ends} {F F1 H : Hp} {σ : St} {δ : DS} {ds : List D} {k : Nat} {d : D} {x : V} (hg : TgS X Z ow g set) (R : Rel X.K Z ow F H σ δ) (s1 : Same F1 F) (hk : kS X Z ow ol ox rm (dLoop set u (ds.drop k) δ) F Dn) (hd : ds[k]? = some d) (rx : Rep X.K F d x)
    (Pv : Nat → St → Hp → Prop) (hP : ∀ k σ H F δ, Rel X.K Z ow F H σ δ → Same F1 F → kS X Z ow ol ox rm (dLoop set u (ds.drop k) δ) F Dn → Pv k σ H) :
    g x σ H fun σ2 H2 => tS X Z ow ow ow ox rm u { Dn with nx := Pv (k + 1), ct := Pv (k + 1), bk := Dn.nx } σ2 H2 := by
  have e : ds.drop k = d :: ds.drop (k + 1) := by
    obtain ⟨hlt, rfl⟩ := List.getElem?_eq_some_iff.mp hd
    exact List.drop_eq_getElem_cons hlt
  rw [e] at hk
  unfold dLoop at hk
  cases e1 : set d δ with
  | none => simp only [e1] at hk; exact hk.elim
  | some δ1 =>
    simp only [e1] at hk
    refine hg F H σ δ δ1 d x _ R rx e1 fun σ' R' => ⟨F, δ1, R', ?_⟩
    cases e2 : u δ1 with
    | stuck => rw [e2] at hk; exact hk.elim
    | err y δ2 => rw [e2] at hk; exact hk
    | ok fl δ2 =>
      rw [e2] at hk
      simp only [Res.bind] at hk
      cases fl with
      | next => exact fun σ2 H2 F2 R2 s2 => hP _ σ2 H2 F2 δ2 R2 (s1.trans' s2) (hk.mono s2)
      | cont => exact fun σ2 H2 F2 R2 s2 => hP _ σ2 H2 F2 δ2 R2 (s1.trans' s2) (hk.mono s2)
      | brk => exact hk
      | ret d => exact hk
noncomputable def iSeq (K : PySem.W.Frag) (tl : TE) : TI := fun σ H R => tl σ H fun x H1 => (∃ a, x = .ref a ∧ (∃ xs, SqL K H1 a xs) ∧ R (Itl K a) H1) ∨ (∃ a, x = .ref a ∧ (∃ xs, SqT K H1 a xs) ∧ R (Itt K a) H1)
theorem pi_seq {l : Expr} {tl : TE} (hl : PE X l tl) : PI X tg l (iSeq X.K tl) := by
  intro pins s σ H R I h
  refine thn (hl pins s σ H _ I h) fun v s1 ⟨x, H1, I1, r1, q1⟩ => ?_
  rcases q1 with ⟨a, e, ⟨xs, hq⟩, q⟩ | ⟨a, e, ⟨xs, hq⟩, q⟩
  · subst e
    cases r1
    obtain ⟨its, rv, p, hz⟩ := I1.list hq
    refine wpAny_pyIter_list p.isList ?_
    refine ⟨s1.heap.objs.size, [s1.heap.objs.size], _, _, H1, rfl, I1.kept (t' := s1.toks) fun b o e => Heap.get?_push_of_some _ e, turn_list a _, ⟨_, Heap.get?_push_size _ rfl, rfl, rfl⟩, fun b hb => ?_, q⟩
    have e : b = s1.heap.objs.size := by simpa using hb
    subst e
    exact I1.fpOk (Nat.le_refl _) (I1.hok.fresh (Nat.le_refl _))
  · subst e
    cases r1
    obtain ⟨its, rv, p, hz⟩ := I1.tuple hq
    refine wpAny_pyIter_tuple (show s1.heap.IsTuple a its.toArray from p) ?_
    refine ⟨s1.heap.objs.size, [s1.heap.objs.size], _, _, H1, rfl, I1.kept (t' := s1.toks) fun b o e => Heap.get?_push_of_some _ e, turn_tuple a _, ⟨_, Heap.get?_push_size _ rfl, rfl, rfl⟩, fun b hb => ?_, q⟩
    have e : b = s1.heap.objs.size := by simpa using hb
    subst e
    exact I1.fpOk (Nat.le_refl _) (I1.hok.fresh (Nat.le_refl _))
noncomputable def rngD (lo : Int) (n : Nat) : List D := (List.range n).map fun (k : Nat) => PyData.int (lo + (k : Int))
theorem rngD_at {lo : Int} {n k : Nat} (h : k < n) : (rngD lo n)[k]? = some (.int (lo + (k : Int))) := by
  unfold rngD
  rw [List.getElem?_map, List.getElem?_range h]
  rfl
theorem rngD_len {lo : Int} {n : Nat} : (rngD lo n).length = n := by unfold rngD; rw [List.length_map, List.length_range]
noncomputable def rng2 : List D → Option (Int × Nat)
  | [.int j] => if -(2 ^ 62) ≤ j ∧ j < 2 ^ 62 then some (0, j.toNat) else none
  | [.int i, .int j] => if -(2 ^ 62) ≤ i ∧ i < 2 ^ 62 ∧ -(2 ^ 62) ≤ j ∧ j < 2 ^ 62 then some (i, (j - i).toNat) else none
  | _ => none
theorem dVals_len : ∀ {fs : List (M D)} {δ δ1 : DS} {ds : List D}, dVals fs δ = .ok ds δ1 → ds.length = fs.length
  | [], δ, δ1, ds, h => by cases h; rfl
  | f :: fs, δ, δ1, ds, h => by
    unfold dVals at h
    cases e : f δ with
    | stuck => rw [e] at h; cases h
    | err x δ2 => rw [e] at h; cases h
    | ok d δ2 =>
      rw [e] at h
      simp only [Res.bind] at h
      cases e2 : dVals fs δ2 with
      | stuck => rw [e2] at h; cases h
      | err x δ3 => rw [e2] at h; cases h
      | ok ds' δ3 =>
        rw [e2] at h
        cases h
        rw [List.length_cons, List.length_cons, dVals_len e2]
theorem rng2_one {ds : List D} {lo : Int} {n : Nat} (h : rng2 ds = some (lo, n)) (hl : ds.length = 1) : ∃ j : Int, ds = [.int j] ∧ -(2 ^ 62) ≤ j ∧ j < 2 ^ 62 ∧ lo = 0 ∧ n = j.toNat := by
  unfold rng2 at h
  split at h
  · rename_i j
    split at h
    · rename_i hj; cases h; exact ⟨j, rfl, hj.1, hj.2, rfl, rfl⟩
    · cases h
  · cases hl
  · cases h
theorem repInts1 {K : PySem.W.Frag} {F : Hp} {j : Int} {vs : List V} (h : RepAll K F [.int j] vs) : vs = [.int j] := by
  unfold RepAll at h
  obtain ⟨x, r, rfl, rx, h⟩ := h
  unfold RepAll at h
  unfold Rep at rx
  rw [h, rx]
noncomputable def dWh (c : M Bool) (u : M Fl) : Nat → M Fl
  | 0 => fun _ => .stuck
  | n + 1 => fun δ => (c δ).bind fun b δ1 => if b = true then (u δ1).bind fun fl δ2 => (match fl with
      | .next => dWh c u n δ2
      | .cont => dWh c u n δ2
      | .brk => .ok .next δ2
      | .ret d => .ok (.ret d) δ2) else .ok .next δ1
noncomputable def dWhile (c : M Bool) (u : M Fl) : M Fl := fun δ => open Classical in if h : ∃ n, dWh c u n δ ≠ .stuck then dWh c u h.choose δ else .stuck
end
end L2
namespace L2
open PySem PySem.Spec PyProof.Rows
structure RetR (K : PySem.W.Frag) (ps owp : List Nat) (rm : Nat) (F H : Hp) (g : Addr → Option Lab) (vs : List V) (F' H' : Hp) (g' : Addr → Option Lab) (outs : List D) (d : D) (v : V) : Prop where
  s : Same F F'
  sub : Same F' H'
  kept : ∀ b o, g b = none → H b = some o → H' b = some o
  new : ∀ a, F a = none → H a ≠ none → F' a = none
  there : ∀ b, H b ≠ none → H' b ≠ none
  lab : ∀ a i p, g' a = some (i, p) → H a = none ∨ ∃ q, g a = some (i, q)
  ret : OwnR K F' H' g' 1000 rm [] d v
  olen : outs.length = ps.length
  out : ∀ (k i : Nat) (d' : D), ps[k]? = some i → outs[k]? = some d' → ∃ v', vs[i]? = some v' ∧ OwnR K F' H' g' i (owp.getD i 0) [] d' v'
noncomputable def endD (K : PySem.W.Frag) (ps owp : List Nat) (rm : Nat) (F H : Hp) (g : Addr → Option Lab) (vs : List V) (Q : VK) (E : XK) : Res D → Prop
  | .ok d outs => ∀ v H' F' g', RetR K ps owp rm F H g vs F' H' g' (outs.filterMap id) d v → Q v H'
  | .err x outs => ∀ nm, x = .str nm → ∀ H' F' g', RetR K ps owp 0 F H g vs F' H' g' (outs.filterMap id) .none .non → E (.str nm 0) none H'
  | .stuck => False
noncomputable def spD (K : PySem.W.Frag) (ps owp : List Nat) (rm : Nat) (f : List D → Res D) : Sp := fun vs H Q E => ∃ F g ds, Same F H ∧ ds.length = vs.length ∧ (∀ a i p, g a = some (i, p) → i ∈ ps) ∧
  (∀ (i : Nat) (d : D) (v : V), ds[i]? = some d → vs[i]? = some v → OwnR K F H g i (owp.getD i 0) [] d v) ∧ endD K ps owp rm F H g vs Q E (f ds)
noncomputable def CXE (P : Program) (w : World) (K : PySem.W.Frag) : CXT := fun outer H s E e s' => ∃ nm a cls ch H', e = .ref a ∧ PySem.W.nsIn K mainGlobals nm = some (some cls) ∧ s'.os = s.os ∧ AllBare s'.gens ∧ Un (frs outer) [] H H' s.heap s'.heap ∧ HOk P w H' s'.heap ∧
  ExcAt s'.heap a cls ch ∧ (∀ b ∈ ch, H' b = none ∧ s.heap.get? b = none) ∧ E (.str nm 0) none H'
noncomputable def outsOf (δ : DS) : List Nat → Option (List D)
  | [] => some []
  | i :: is => match δ[i]?, outsOf δ is with
    | some (some d), some ds => some (d :: ds)
    | _, _ => none
theorem outsOf_at {δ : DS} : ∀ {is : List Nat} {ds : List D}, outsOf δ is = some ds → ds.length = is.length ∧ ∀ (k i : Nat) (d : D), is[k]? = some i → ds[k]? = some d → δ[i]? = some (some d)
  | [], ds, h => by cases h; exact ⟨rfl, fun k i d e => by simp at e⟩
  | i :: is, ds, h => by
    unfold outsOf at h
    split at h
    · rename_i d ds' e1 e2
      cases h
      obtain ⟨h1, h2⟩ := outsOf_at e2
      refine ⟨by simp [h1], fun k j d' q1 q2 => ?_⟩
      cases k with
      | zero => cases q1; cases q2; exact e1
      | succ k => exact h2 k j d' (by simpa using q1) (by simpa using q2)
    · cases h
noncomputable def runFn (m : Nat) (ps : List Nat) (rm : Nat) (body : M Fl) : List D → Res D := fun ds => match body (ds.map some ++ List.replicate (m - ds.length) none) with
  | .ok (.ret d) δ => (match outsOf δ ps with
    | some outs => .ok d (outs.map some)
    | none => .stuck)
  | .ok .next δ => if rm = 0 then (match outsOf δ ps with
    | some outs => .ok .none (outs.map some)
    | none => .stuck) else .stuck
  | .ok _ _ => .stuck
  | .err x δ => (match outsOf δ ps with
    | some outs => .err x (outs.map some)
    | none => .stuck)
  | .stuck => .stuck
section
variable {P : Program} {w : World} {K : PySem.W.Frag} {mg : Str → Option Value} {base : Heap}
theorem Fun.okG {CX : CXT} {x qual : Str} {st : Stmt} {f : Addr} {fd : FuncData} {N ps : List Str} {k : Nat} {sp : Sp} (F : Fun K x qual st f fd) (S : FnScope N ps (defScope st)) (len : ∀ vs H Q E, sp vs H Q E → vs.length = ps.length)
    (hbody : ∀ (cdv : Value) (A : Around) (outer : List Env) (s : Shared) (H : Hp) (vs : List V) (Q : VK) (E : XK), Room k (A.deeper (envOfC qual (defScope st) s.heap.objs.size f cdv)) → sp vs H Q E →
      ∃ t, PSs (cxOf CX P w K mg base N qual (defScope st) f cdv A outer s H E) (defBody st) t ∧ t { nx := fun _ H' => Q .non H', rt := Q } (start N vs) H) : FnOk P w K mg base CX (k + 1) f fd ps sp := by
  obtain ⟨oc, od, kV, doc, pm, an, cdv, ct, osl, rfl, lk, hcd⟩ := F.ex
  exact fn_of lk hcd S len fun A outer s H vs Q E hr hsp => hbody cdv A outer s H vs Q E hr hsp
theorem leave_of {N : List Str} {qual : Str} {sc : Scope} {f : Addr} {cdv : Value} {A : Around} {outer : List Env} {s : Shared} {H : Hp} {E : XK} {pins : List (Addr × Obj)} {σ : St} {H1 : Hp} {s1 : Shared} {nm : Str} {e : Value}
    (I : Inv (cxOf (CXE P w K) P w K mg base N qual sc f cdv A outer s H E) pins σ H1 s1) (fl : Fly (cxOf (CXE P w K) P w K mg base N qual sc f cdv A outer s H E) pins H1 s1 nm e) (q : E (.str nm 0) none H1) :
    (cxOf (CXE P w K) P w K mg base N qual sc f cdv A outer s H E).xe e s1 := by
  obtain ⟨a, cls, ch, rfl, hn, x, hc⟩ := fl
  refine leave_x (base := base) (outer := outer) (L := s.heap.objs.size) I.ok.frames I.stack rfl x fun h' ch' xt x' new => ?_
  have I2 := I.xt xt hc
  refine ⟨nm, a, cls, ch', H1, rfl, hn, I2.os, I2.bare, I2.base, I2.hok, x', fun b hb => ?_, q⟩
  rcases new b hb with m | ⟨m0, m⟩
  · exact ⟨(hc b m).un, (hc b m).new.resolve_left fun z => by cases z⟩
  · refine ⟨I.hok.fresh m, ?_⟩
    show s.heap.get? b = none
    cases q : s.heap.get? b with
    | none => rfl
    | some o =>
      obtain ⟨o', e'⟩ := I.base.there b o q (fun z => by cases z)
      rw [m0] at e'; cases e'
theorem Fun.okD {x qual : Str} {st : Stmt} {f : Addr} {fd : FuncData} {N pn : List Str} {k : Nat} {ps owp : List Nat} {rm : Nat} {body : M Fl} (Fn : Fun K x qual st f fd) (S : FnScope N pn (defScope st)) (hN : owp.length = N.length)
    (hb : ∀ (cdv : Value) (A : Around) (outer : List Env) (s : Shared) (H : Hp) (E : XK) (F0 : Hp) (g0 : Addr → Option Lab) (σ0 : St) (wf : ∀ a i q, g0 a = some (i, q) → i ∈ ps), Room k (A.deeper (envOfC qual (defScope st) s.heap.objs.size f cdv)) →
      ∃ ow', DSs (cxOf (CXE P w K) P w K mg base N qual (defScope st) f cdv A outer s H E) ⟨F0, H, g0, ps, σ0, owp, wf⟩ owp ow' ow' ow' rm (defBody st) body) : FnOk P w K mg base (CXE P w K) (k + 1) f fd pn (fun vs H Q E => vs.length = pn.length ∧ spD K ps owp rm (runFn N.length ps rm body) vs H Q E) := by
  refine Fn.okG S (fun vs H Q E h => h.1) fun cdv A outer s H vs Q E hr h => ?_
  obtain ⟨hl, F, g, ds, hs, hd, hg, hv, q⟩ := h
  let Z : Ent := ⟨F, H, g, ps, start N vs, owp, hg⟩
  obtain ⟨ow', hB⟩ := hb cdv A outer s H E F g (start N vs) hg hr
  refine ⟨_, hB, F, ds.map some ++ List.replicate (N.length - ds.length) none, ⟨g, hs, Same.refl _, fun _ _ _ e => e, fun _ h _ => h, fun _ h => h, fun a i p e => .inr ⟨p, e⟩, ?_, fun i _ => ⟨rfl, rfl⟩, fun i d' e => ?_⟩, ?_⟩
  · have hpl : pn.length ≤ N.length := by have := congrArg List.length S.pre; rw [List.length_take] at this; omega
    unfold start
    simp only [List.length_append, List.length_map, List.length_replicate, hd]
  · have hi : i < ds.length := by
      by_cases hi : i < ds.length
      · exact hi
      · rw [List.getElem?_append_right (by simpa using hi), List.getElem?_replicate] at e
        split at e <;> cases e
    rw [List.getElem?_append_left (by simpa using hi), List.getElem?_map, List.getElem?_eq_getElem hi] at e
    have ed : ds[i]? = some d' := by
      rw [List.getElem?_eq_getElem hi]
      simpa using e
    have hi' : i < vs.length := by omega
    refine ⟨vs[i], ?_, hv i d' _ ed (List.getElem?_eq_getElem hi')⟩
    unfold start
    rw [List.getElem?_append_left (by simpa using hi'), List.getElem?_map, List.getElem?_eq_getElem hi']
    rfl
  · have fin : ∀ {rm : Nat} {d0 : D} {δ : DS} {v : V} {σ' : St} {H' F' : Hp} {owr : List Nat} {os : List D}, RelX K Z owr rm d0 v F' H' σ' δ → outsOf δ ps = some os → ∃ g', RetR K ps owp rm F H g vs F' H' g' ((os.map some).filterMap id) d0 v := fun {rm d0 δ v σ' H' F' owr os} R ho => by
      have eo : (os.map some).filterMap id = os := by rw [List.filterMap_map]; exact List.filterMap_some
      rw [eo]
      obtain ⟨g', R, o⟩ := R
      obtain ⟨ol, oa⟩ := outsOf_at ho
      refine ⟨g', R.f0, R.sub, R.kept, R.new, R.there, R.lab, o, ol, fun k i d' h1 h2 => ?_⟩
      obtain ⟨v', e1, o1⟩ := R.slot i d' (oa k i d' h1 h2)
      obtain ⟨p1, p2⟩ := R.par i (List.mem_of_getElem? h1)
      rw [show Z.owp = owp from rfl] at p2
      rw [p2] at o1
      refine ⟨v', ?_, o1⟩
      rw [p1] at e1
      have e1 : (start N vs)[i]? = some (some v') := e1
      unfold start at e1
      by_cases hi : i < vs.length
      · rw [List.getElem?_append_left (by simpa using hi), List.getElem?_map, List.getElem?_eq_getElem hi] at e1
        rw [List.getElem?_eq_getElem hi]
        simpa using e1
      · rw [List.getElem?_append_right (by simpa using hi), List.getElem?_replicate] at e1
        split at e1 <;> cases e1
    unfold runFn at q
    cases e : body (ds.map some ++ List.replicate (N.length - ds.length) none) with
    | stuck => rw [e] at q; exact q.elim
    | err y δ =>
      rw [e] at q
      dsimp only at q
      cases ho : outsOf δ ps with
      | none => rw [ho] at q; exact q.elim
      | some os =>
        rw [ho] at q
        refine ⟨fun pins e1 s1 xp => ?_⟩
        obtain ⟨nm, H1, F1, σ1, rfl, I, R, _, fl⟩ := xp
        obtain ⟨g1, R⟩ := R
        have RX : RelX K Z owp 0 .none .non F1 H1 σ1 δ := ⟨g1, R, by show Rep K F1 .none .non; unfold Rep; rfl⟩
        obtain ⟨g', T⟩ := fin RX ho
        exact leave_of I fl (q nm rfl H1 F1 g' T)
    | ok fl δ =>
      rw [e] at q
      cases fl with
      | brk => exact q.elim
      | cont => exact q.elim
      | ret d0 =>
        dsimp only at q
        intro v σ' H' F' owr R _
        cases ho : outsOf δ ps with
        | none => rw [ho] at q; exact q.elim
        | some os =>
          rw [ho] at q
          obtain ⟨g', T⟩ := fin R ho
          exact q v H' F' g' T
      | next =>
        dsimp only at q
        intro σ' H' F' R _
        by_cases hrm : rm = 0
        · rw [if_pos hrm] at q
          cases ho : outsOf δ ps with
          | none => rw [ho] at q; exact q.elim
          | some os =>
            rw [ho] at q
            obtain ⟨g', R⟩ := R
            have RX : RelX K Z ow' rm .none .non F' H' σ' δ := ⟨g', R, by rw [hrm]; show Rep K F' .none .non; unfold Rep; rfl⟩
            obtain ⟨g2, T⟩ := fin RX ho
            exact q .non H' F' g2 T
        · rw [if_neg hrm] at q; exact q.elim
end
end L2
namespace L2
open PySem PySem.Spec PyProof.Rows
noncomputable def ownSlots : List Arg → List Nat
  | [] => []
  | .own i :: as => i :: ownSlots as
  | .val _ :: as => ownSlots as
noncomputable def ownPos : Nat → List Arg → List Nat
  | _, [] => []
  | k, .own _ :: as => k :: ownPos (k + 1) as
  | k, .val _ :: as => ownPos (k + 1) as
noncomputable def fillA (δ : DS) : List Arg → List (Option D) → Option (List D)
  | [], [] => some []
  | .own i :: as, none :: ds => match δ[i]?, fillA δ as ds with
    | some (some d), some r => some (d :: r)
    | _, _ => none
  | .val _ :: as, some d :: ds => (fillA δ as ds).map (d :: ·)
  | _, _ => none
noncomputable def putOuts : List Nat → List D → DS → DS
  | i :: is, d :: ds, δ => putOuts is ds (δ.set i (some d))
  | _, _, δ => δ
noncomputable def dCall (fn : List D → Res D) (as : List Arg) : M D := fun δ => (dArgs as δ).bind fun ods δ1 => match fillA δ1 as ods with
  | none => .stuck
  | some ds => match fn ds with
    | .ok d outs => .ok d (putOuts (ownSlots as) (outs.filterMap id) δ1)
    | .err x outs => .err x (putOuts (ownSlots as) (outs.filterMap id) δ1)
    | .stuck => .stuck
noncomputable def posOf : Nat → List Arg → Nat → Option Nat
  | _, [], _ => none
  | k, .own i :: as, j => if i = j then some k else posOf (k + 1) as j
  | k, .val _ :: as, j => posOf (k + 1) as j
theorem posOf_at : ∀ {k : Nat} {as : List Arg} {i m : Nat}, posOf k as i = some m → ∃ q, as[q]? = some (.own i) ∧ m = k + q ∧ m ∈ ownPos k as
  | k, .own s :: as, i, m, h => by
    unfold posOf at h
    split at h
    · rename_i e; cases h; exact ⟨0, by rw [e]; rfl, rfl, List.mem_cons_self⟩
    · obtain ⟨q, e1, e2, e3⟩ := posOf_at h
      exact ⟨q + 1, e1, by omega, List.mem_cons_of_mem _ e3⟩
  | k, .val _ :: as, i, m, h => by
    obtain ⟨q, e1, e2, e3⟩ := posOf_at (k := k + 1) (as := as) h
    exact ⟨q + 1, e1, by omega, e3⟩
theorem ownPos_at : ∀ {k : Nat} {as : List Arg} {t m i : Nat}, (ownPos k as)[t]? = some m → (ownSlots as)[t]? = some i → as[m - k]? = some (.own i) ∧ k ≤ m
  | k, .own s :: as, 0, m, i, h1, h2 => by cases h1; cases h2; exact ⟨by rw [Nat.sub_self]; rfl, Nat.le_refl _⟩
  | k, .own s :: as, t + 1, m, i, h1, h2 => by
    obtain ⟨e1, e2⟩ := ownPos_at (k := k + 1) (as := as) (t := t) h1 h2
    exact ⟨by rw [show m - k = (m - (k + 1)) + 1 by omega]; exact e1, by omega⟩
  | k, .val _ :: as, t, m, i, h1, h2 => by
    obtain ⟨e1, e2⟩ := ownPos_at (k := k + 1) (as := as) (t := t) h1 h2
    exact ⟨by rw [show m - k = (m - (k + 1)) + 1 by omega]; exact e1, by omega⟩
theorem mem_own : ∀ {as : List Arg} {q i : Nat}, as[q]? = some (.own i) → i ∈ ownSlots as
  | .own s :: as, 0, i, h => by cases h; exact List.mem_cons_self
  | .own s :: as, q + 1, i, h => List.mem_cons_of_mem _ (mem_own (as := as) (q := q) h)
  | .val _ :: as, 0, i, h => by cases h
  | .val _ :: as, q + 1, i, h => mem_own (as := as) (q := q) h
theorem posOf_own : ∀ {k : Nat} {as : List Arg} {q i : Nat}, (ownSlots as).Nodup → as[q]? = some (.own i) → posOf k as i = some (k + q)
  | k, .own s :: as, 0, i, _, h => by cases h; unfold posOf; rw [if_pos rfl]; rfl
  | k, .own s :: as, q + 1, i, nd, h => by
    have nd' := List.nodup_cons.mp (show (s :: ownSlots as).Nodup from nd)
    have h : as[q]? = some (.own i) := h
    have hm : i ∈ ownSlots as := mem_own h
    have ne : ¬ s = i := fun e => nd'.1 (by rw [e]; exact hm)
    unfold posOf
    rw [if_neg ne, posOf_own nd'.2 h]
    congr 1; omega
  | k, .val _ :: as, 0, i, _, h => by cases h
  | k, .val _ :: as, q + 1, i, nd, h => by
    have e : posOf (k + 1) as i = some (k + 1 + q) := posOf_own (q := q) nd h
    show posOf (k + 1) as i = _
    rw [e]
    congr 1; omega
theorem fillA_at {δ : DS} {K : PySem.W.Frag} {F : Hp} {σ : St} : ∀ {as : List Arg} {ods : List (Option D)} {ds : List D} {vs : List V}, fillA δ as ods = some ds → ArgsV K F σ as ods vs → ds.length = as.length ∧ vs.length = as.length ∧
    ∀ (q : Nat) (d : D) (v : V), ds[q]? = some d → vs[q]? = some v → (∃ i, as[q]? = some (.own i) ∧ δ[i]? = some (some d) ∧ σ[i]? = some (some v)) ∨ ((∃ f, as[q]? = some (.val f)) ∧ Rep K F d v)
  | [], [], ds, [], h, _ => by cases h; exact ⟨rfl, rfl, fun q d v e => by simp at e⟩
  | .own i :: as, none :: ods, ds, v :: vs, h, ⟨z1, z2⟩ => by
    unfold fillA at h
    split at h
    · rename_i d r e1 e2
      cases h
      obtain ⟨h1, h2, h3⟩ := fillA_at e2 z2
      refine ⟨by simp [h1], by simp [h2], fun q d' v' q1 q2 => ?_⟩
      cases q with
      | zero => cases q1; cases q2; exact .inl ⟨i, rfl, e1, z1⟩
      | succ q => exact h3 q d' v' q1 q2
    · cases h
  | .val f :: as, some d :: ods, ds, v :: vs, h, ⟨z1, z2⟩ => by
    unfold fillA at h
    cases e : fillA δ as ods with
    | none => rw [e] at h; cases h
    | some r =>
      rw [e] at h
      cases h
      obtain ⟨h1, h2, h3⟩ := fillA_at e z2
      refine ⟨by simp [h1], by simp [h2], fun q d' v' q1 q2 => ?_⟩
      cases q with
      | zero => cases q1; cases q2; exact .inr ⟨⟨f, rfl⟩, z1⟩
      | succ q => exact h3 q d' v' q1 q2
theorem putOuts_len : ∀ {is : List Nat} {ds : List D} {δ : DS}, (putOuts is ds δ).length = δ.length
  | [], _, _ => by unfold putOuts; rfl
  | _ :: _, [], _ => by unfold putOuts; rfl
  | i :: is, d :: ds, δ => by
    unfold putOuts
    rw [putOuts_len, List.length_set]
theorem putOuts_out : ∀ {is : List Nat} {ds : List D} {δ : DS} {j : Nat}, j ∉ is → (putOuts is ds δ)[j]? = δ[j]?
  | [], _, _, _, _ => by unfold putOuts; rfl
  | _ :: _, [], _, _, _ => by unfold putOuts; rfl
  | i :: is, d :: ds, δ, j, h => by
    unfold putOuts
    rw [putOuts_out fun m => h (List.mem_cons_of_mem _ m), List.getElem?_set_ne fun e => h (by rw [e]; exact List.mem_cons_self)]
theorem putOuts_in : ∀ {is : List Nat} {ds : List D} {δ : DS} {j : Nat} {d : D}, is.Nodup → is.length = ds.length → j ∈ is → (putOuts is ds δ)[j]? = some (some d) → ∃ t : Nat, is[t]? = some j ∧ ds[t]? = some d
  | i :: is, d :: ds, δ, j, d', nd, hl, hm, h => by
    unfold putOuts at h
    have nd := List.nodup_cons.mp nd
    by_cases e : j = i
    · subst e
      rw [putOuts_out nd.1, List.getElem?_set] at h
      split at h
      · split at h
        · cases h; exact ⟨0, rfl, rfl⟩
        · cases h
      · rename_i z; exact absurd rfl z
    · obtain ⟨t, t1, t2⟩ := putOuts_in nd.2 (by simpa using hl) ((List.mem_cons.mp hm).resolve_left e) h
      exact ⟨t + 1, t1, t2⟩
section
variable {X : Cx} {Z : Ent} {ow : List Nat} {n : Nat} {pos : Pos} {as : List Arg} {F H : Hp} {σ : St} {δ : DS} {g : Addr → Option Lab}
noncomputable def gcOf (as : List Arg) (g : Addr → Option Lab) : Addr → Option Lab := fun a => match g a with
  | some (i, p) => (posOf 0 as i).map fun j => (j, p)
  | none => none
noncomputable def gbOf (as : List Arg) (g g' : Addr → Option Lab) : Addr → Option Lab := fun a => match g' a with
  | some (j, p) => if j = 1000 then some (1000, p) else (match as[j]? with | some (.own i) => some (i, p) | _ => none)
  | none => match g a with
    | some (i, p) => if i = 1000 ∨ (posOf 0 as i).isSome = true then none else some (i, p)
    | none => none
theorem gc_in {a : Addr} {i j : Nat} {p : List Nat} (h : g a = some (i, p)) (e : posOf 0 as i = some j) : gcOf as g a = some (j, p) := by
  unfold gcOf; rw [h]; dsimp only; rw [e]; rfl
theorem gc_of {a : Addr} {j : Nat} {p : List Nat} (h : gcOf as g a = some (j, p)) : ∃ i, g a = some (i, p) ∧ posOf 0 as i = some j := by
  unfold gcOf at h
  cases e : g a with
  | none => rw [e] at h; cases h
  | some l =>
    obtain ⟨i, q⟩ := l
    rw [e] at h
    dsimp only at h
    cases e2 : posOf 0 as i with
    | none => rw [e2] at h; cases h
    | some m => rw [e2] at h; cases h; exact ⟨i, rfl, e2⟩
theorem ret_back {ps owp : List Nat} {rm : Nat} {ods : List (Option D)} {ds : List D} {vs : List V} {d : D} {outs : List D} {v : V} {F' H' : Hp} {g' : Addr → Option Lab} (S : Small Z ow) (R : RelG X.K Z ow g F H σ δ) (hA : ArgsV X.K F σ as ods vs) (hf : fillA δ as ods = some ds)
    (hps : ownPos 0 as = ps) (nd : (ownSlots as).Nodup) (hm : ∀ q i, as[q]? = some (.own i) → owp.getD q 0 = ow.getD i 0) (hlt : as.length ≤ 1000)
    (T : RetR X.K ps owp rm F H (gcOf as g) vs F' H' g' outs d v) : RelX X.K Z ow rm d v F' H' σ (putOuts (ownSlots as) outs δ) := by
  obtain ⟨l1, l2, hat⟩ := fillA_at hf hA
  have keepOut : ∀ {a : Addr} {i : Nat} {p : List Nat}, g a = some (i, p) → i ∉ ownSlots as → gcOf as g a = none := fun {a i p} e hi => by
    cases e1 : gcOf as g a with
    | none => rfl
    | some l =>
      obtain ⟨j, r⟩ := l
      obtain ⟨i', e2, e3⟩ := gc_of e1
      rw [e] at e2; cases e2
      obtain ⟨q, e4, _⟩ := posOf_at e3
      exact absurd (mem_own e4) hi
  have h0 : ∀ a, H a = none → Z.H0 a = none := fun a e => by
    cases e1 : Z.H0 a with
    | none => rfl
    | some o => exact absurd e (R.there a (by rw [e1]; simp))
  refine ⟨gbOf as g g', ⟨T.sub, R.f0.trans' T.s, fun b o n e => ?_, fun a z1 z2 => T.new a (R.new a z1 z2) (R.there a z2), fun b z => T.there b (R.there b z), fun a i p e => ?_, by rw [putOuts_len]; exact R.len, R.par, fun i d' e => ?_⟩, ?_⟩
  · refine T.kept b o ?_ (R.kept b o n e)
    cases e1 : gcOf as g b with
    | none => rfl
    | some l =>
      obtain ⟨j, r⟩ := l
      obtain ⟨i', e2, e3⟩ := gc_of e1
      rcases R.lab b i' r e2 with z | ⟨q', z⟩
      · rw [z] at e; cases e
      · rw [z] at n; cases n
  · unfold gbOf at e
    cases e1 : g' a with
    | some l =>
      obtain ⟨j, r⟩ := l
      rw [e1] at e
      dsimp only at e
      rcases T.lab a j r e1 with z | ⟨q', z⟩
      · exact .inl (h0 a z)
      · obtain ⟨i', z1, z2⟩ := gc_of z
        obtain ⟨q2, z3, z4, _⟩ := posOf_at z2
        have : j = q2 := by omega
        subst this
        have hj : j ≠ 1000 := fun w => by
          have := (List.getElem?_eq_some_iff.mp z3).1
          omega
        rw [if_neg hj, z3] at e
        cases e
        exact R.lab a i q' z1
    | none =>
      rw [e1] at e
      dsimp only at e
      cases e2 : g a with
      | none => rw [e2] at e; cases e
      | some l =>
        obtain ⟨j, r⟩ := l
        rw [e2] at e
        dsimp only at e
        split at e
        · cases e
        · cases e; exact R.lab a i p e2
  · by_cases hi : i ∈ ownSlots as
    · have hl : (ownSlots as).length = outs.length := by
        rw [T.olen, ← hps]
        have : ∀ (k : Nat) (as : List Arg), (ownSlots as).length = (ownPos k as).length := by
          intro k as
          induction as generalizing k with
          | nil => rfl
          | cons a as ih =>
            cases a with
            | own i => exact congrArg Nat.succ (ih (k + 1))
            | val f => exact ih (k + 1)
        exact this 0 as
      obtain ⟨t, t1, t2⟩ := putOuts_in nd hl hi e
      have hpos : ∃ m, ps[t]? = some m := by
        have : t < ps.length := by rw [← T.olen]; exact (List.getElem?_eq_some_iff.mp t2).1
        exact ⟨ps[t], List.getElem?_eq_getElem this⟩
      obtain ⟨m, hm1⟩ := hpos
      obtain ⟨v', o1, o2⟩ := T.out t m d' hm1 t2
      have e3 := (ownPos_at (k := 0) (by rw [hps]; exact hm1) t1).1
      rw [Nat.sub_zero] at e3
      have hlm : m < ds.length := by
        have := (List.getElem?_eq_some_iff.mp e3).1
        omega
      rcases hat m ds[m] v' (List.getElem?_eq_getElem hlm) o1 with ⟨s, a1, a2, a3⟩ | ⟨⟨f, a1⟩, a2⟩
      · rw [e3] at a1; cases a1
        refine ⟨v', a3, ?_⟩
        rw [hm m i e3] at o2
        refine o2.relab fun a p e4 => ?_
        unfold gbOf
        rw [e4]
        dsimp only
        have hj : m ≠ 1000 := fun w => by
          have := (List.getElem?_eq_some_iff.mp e3).1
          omega
        rw [if_neg hj, e3]
      · rw [e3] at a1; cases a1
    · rw [putOuts_out hi] at e
      obtain ⟨w, w1, o⟩ := R.slot i d' e
      refine ⟨w, w1, ?_⟩
      by_cases hz : ow.getD i 0 = 0
      · rw [hz] at o ⊢; exact T.s.rep _ _ o
      · have i1 : i < 1000 := by
          by_cases hl : i < ow.length
          · exact Nat.lt_of_lt_of_le hl S.ow
          · exact absurd (by rw [List.getD_eq_getElem?_getD, List.getElem?_eq_none (by omega)]; rfl) hz
        refine OwnR.keepJ T.s (fun a q u e3 e4 e5 => ?_) o
        have gn := keepOut e3 hi
        have g'n : g' a = none := by
          cases e7 : g' a with
          | none => rfl
          | some l =>
            obtain ⟨j, r⟩ := l
            rcases T.lab a j r e7 with z | ⟨q', z⟩
            · rw [e4] at z; cases z
            · rw [gn] at z; cases z
        refine ⟨?_, T.kept a _ gn e4, T.new a e5 (by rw [e4]; simp)⟩
        unfold gbOf
        rw [g'n, e3]
        dsimp only
        rw [if_neg]
        rintro (z | z)
        · omega
        · cases e8 : posOf 0 as i with
          | none => rw [e8] at z; cases z
          | some m => obtain ⟨q, e9, _⟩ := posOf_at e8; exact hi (mem_own e9)
  · refine T.ret.relab fun a p e => ?_
    unfold gbOf
    rw [e]
    exact if_pos rfl
theorem call_of {fn : List D → Res D} {ps owp : List Nat} {rm : Nat} {ods : List (Option D)} {ds : List D} {vs : List V} {Q : VK} {E : XK} (S : Small Z ow) (R : Rel X.K Z ow F H σ δ) (hA : ArgsV X.K F σ as ods vs) (hf : fillA δ as ods = some ds)
    (hps : ownPos 0 as = ps) (nd : (ownSlots as).Nodup) (hm : ∀ q i, as[q]? = some (.own i) → owp.getD q 0 = ow.getD i 0) (hv : ∀ q f, as[q]? = some (.val f) → owp.getD q 0 = 0) (hlt : as.length ≤ 1000)
    (q : match fn ds with
      | .ok d outs => ∀ v H' F', RelX X.K Z ow rm d v F' H' σ (putOuts (ownSlots as) (outs.filterMap id) δ) → Same F F' → Q v H'
      | .err x outs => ∀ nm, x = .str nm → ∀ H' F', Rel X.K Z ow F' H' σ (putOuts (ownSlots as) (outs.filterMap id) δ) → Same F F' → E (.str nm 0) none H'
      | .stuck => False) : spD X.K ps owp rm fn vs H Q E := by
  obtain ⟨g, R⟩ := R
  obtain ⟨l1, l2, hat⟩ := fillA_at hf hA
  refine ⟨F, gcOf as g, ds, R.sub, by omega, fun a i p e => ?_, fun i d' v' e1 e2 => ?_, ?_⟩
  · obtain ⟨j, _, e2⟩ := gc_of e
    obtain ⟨_, _, _, e3⟩ := posOf_at e2
    rw [← hps]; exact e3
  · rcases hat i d' v' e1 e2 with ⟨s, a1, a2, a3⟩ | ⟨⟨f, a1⟩, a2⟩
    · rw [hm i s a1]
      obtain ⟨w, w1, o⟩ := R.slot s d' a2
      rw [a3] at w1; cases w1
      exact o.relab fun a p e => gc_in e (by rw [posOf_own nd a1]; simp)
    · rw [hv i f a1]; exact a2
  · cases e : fn ds with
    | stuck => rw [e] at q; exact q
    | ok d outs =>
      rw [e] at q
      exact fun v H' F' g' T => q v H' F' (ret_back S R hA hf hps nd hm hlt T) T.s
    | err x outs =>
      rw [e] at q
      exact fun nm hx H' F' g' T => q nm hx H' F' (ret_back S R hA hf hps nd hm hlt T).rel T.s
noncomputable def modesOk (owp ow : List Nat) : Nat → List Arg → Bool
  | _, [] => true
  | k, .own i :: as => (owp.getD k 0 == ow.getD i 0) && modesOk owp ow (k + 1) as
  | k, .val _ :: as => (owp.getD k 0 == 0) && modesOk owp ow (k + 1) as
theorem modesOk_at {owp ow : List Nat} : ∀ {k : Nat} {as : List Arg}, modesOk owp ow k as = true → (∀ q i, as[q]? = some (.own i) → owp.getD (k + q) 0 = ow.getD i 0) ∧ (∀ q f, as[q]? = some (.val f) → owp.getD (k + q) 0 = 0)
  | k, [], _ => ⟨fun q i e => by simp at e, fun q f e => by simp at e⟩
  | k, .own s :: as, h => by
    unfold modesOk at h
    rw [Bool.and_eq_true, beq_iff_eq] at h
    obtain ⟨h1, h2⟩ := modesOk_at h.2
    refine ⟨fun q i e => ?_, fun q f e => ?_⟩
    · cases q with
      | zero => cases e; exact h.1
      | succ q => have := h1 q i e; rw [show k + (q + 1) = k + 1 + q by omega]; exact this
    · cases q with
      | zero => cases e
      | succ q => have := h2 q f e; rw [show k + (q + 1) = k + 1 + q by omega]; exact this
  | k, .val _ :: as, h => by
    unfold modesOk at h
    rw [Bool.and_eq_true, beq_iff_eq] at h
    obtain ⟨h1, h2⟩ := modesOk_at h.2
    refine ⟨fun q i e => ?_, fun q f e => ?_⟩
    · cases q with
      | zero => cases e
      | succ q => have := h1 q i e; rw [show k + (q + 1) = k + 1 + q by omega]; exact this
    · cases q with
      | zero => exact h.1
      | succ q => have := h2 q f e; rw [show k + (q + 1) = k + 1 + q by omega]; exact this
noncomputable abbrev SpN (K : PySem.W.Frag) (pn : List Str) (ps owp : List Nat) (rm : Nat) (fn : List D → Res D) : Sp := fun vs H Q E => vs.length = pn.length ∧ spD K ps owp rm fn vs H Q E
noncomputable def tCallX (sp : Sp) (E : St → XK) (t : TA) : TE := fun σ H Q => t σ H fun vs H1 => sp vs H1 Q (E σ)
noncomputable def EX (X : Cx) (σ : St) : XK := fun v _ H' => ∀ nm, v = .str nm 0 → ∀ pins e s', Inv X pins σ H' s' → Fly X pins H' s' nm e → X.xe e s'
theorem pe_callX {e : Expr} {es : List Expr} {x : Str} {p : Pos} {k : Nat} {f : Addr} {fd : FuncData} {pn : List Str} {sp : Sp} {t : TA} (Fk : FnOk X.prog X.w X.K X.mg X.base (CXE X.prog X.w X.K) k f fd pn sp) (hr : Room k X.A) (hg : Gl X x) (hmg : X.mg x = some (.ref f)) (hk : PySem.W.keepIn X.K (.ref f) = true) (hb : Binds X.K fd pn [])
    (ha : PA X (e :: es) t) (hdb : (x == ("__debug__" : Str)) = false := by decide) (he : starEach (e :: es) X.env = (false, eval e X.env) :: starEach es X.env := by rfl) (hpl : (backTo pos (starEach es X.env)).any (·.1) = false := by rfl) :
    PE X (.Call (.Name x p) (e :: es) [] pos) (tCallX sp (EX X) t) := by
  intro pins s σ H Q I h
  refine wpAny_Call_Name_kw (ld_glob I hg hmg ?_ hdb)
  refine PySem.W.callWith_K (h₀ := X.base) I.ok.mod.kin hk (thn (ha pos pins s σ H _ I h) fun us s1 ⟨vs, H1, I1, r, q⟩ => ⟨I1.kIn, ?_⟩) he hpl
  have hl : us.length = pn.length := by rw [← r.length]; exact Fk.len _ _ _ _ q
  have hb' := hb s1 us I1.kIn (by rw [List.append_nil]; exact hl)
  rw [List.append_nil] at hb'
  refine wpAny_call (codeAny_mono (Fk.run X.A X.stack s1 H1 ⟨us, []⟩ us vs Q (EX X σ) hr I1.env0 hb' r q) fun r s' hq => ?_)
  cases r with
  | error e =>
    obtain ⟨nm, a, cls, ch, H', rfl, hn, os, bare, un, hok, x, new, q2⟩ := hq
    have I2 : Inv X pins σ H' s' := I1.call' os un hok bare fun b z => absurd z (by simp)
    exact q2 nm rfl pins _ s' I2 ⟨a, cls, ch, rfl, hn, x, fun b hb => Loose.of I1 (new b hb).1 (new b hb).2⟩
  | ok fl =>
    cases fl with
    | ret u => exact I1.after hq
    | next => exact False.elim hq
    | brk => exact False.elim hq
    | cont => exact False.elim hq
theorem tCall_of {fn : List D → Res D} {ps owp : List Nat} {rm : Nat} {pn : List Str} {Q : VK} (S : Small Z ow) (hz : zfB Z = true) (hl : as.length = pn.length) (hps : ownPos 0 as = ps) (nd : decide (ownSlots as).Nodup = true) (hm : modesOk owp ow 0 as = true) (hlt : as.length ≤ 1000)
    (h : tD X Z ow rm (dCall fn as) σ H Q) : tCallX (SpN X.K pn ps owp rm fn) (EX X) (tAr X Z ow as) σ H Q := by
  obtain ⟨F, δ, R, h⟩ := h
  unfold dCall at h
  refine ⟨F, δ, R, ?_⟩
  obtain ⟨m1, m2⟩ := modesOk_at hm
  cases e : dArgs as δ with
  | stuck => rw [e] at h; exact h.elim
  | err x δ1 => rw [e] at h; exact h
  | ok ods δ1 =>
    rw [e] at h
    simp only [Res.bind] at h
    intro vs H1 F1 R1 s1 z
    cases e2 : fillA δ1 as ods with
    | none => rw [e2] at h; exact h.elim
    | some ds =>
      rw [e2] at h
      dsimp only at h
      have l2 := (fillA_at e2 z).2.1
      refine ⟨by omega, call_of S R1 z e2 hps (of_decide_eq_true nd) (fun q i e => by have := m1 q i e; rwa [Nat.zero_add] at this) (fun q f e => by have := m2 q f e; rwa [Nat.zero_add] at this) hlt ?_⟩
      cases e3 : fn ds with
      | stuck => rw [e3] at h; exact h.elim
      | err x outs =>
        rw [e3] at h
        dsimp only at h ⊢
        intro nm hx H' F' R' s' nm' hnm pins e s2 I2 fl
        injection hnm with hnm
        subst hnm
        obtain ⟨F2, s3, R2⟩ := R'.toP hz
        exact h.out pins e s2 ⟨nm, H', F2, σ, hx, I2, R2, s1.trans' (s'.trans' s3), fl⟩
      | ok d outs =>
        rw [e3] at h
        dsimp only at h ⊢
        exact fun v H' F' R' s' => h v H' F' R' (s1.trans' s')
theorem de_call {e : Expr} {es : List Expr} {x : Str} {p : Pos} {k : Nat} {f : Addr} {fd : FuncData} {fn : List D → Res D} {ps owp : List Nat} {rm : Nat} {pn : List Str} (S : Small Z ow) (Fk : FnOk X.prog X.w X.K X.mg X.base (CXE X.prog X.w X.K) k f fd pn (SpN X.K pn ps owp rm fn)) (hr : Room k X.A) (hg : Gl X x) (hmg : X.mg x = some (.ref f)) (hk : PySem.W.keepIn X.K (.ref f) = true) (hb : Binds X.K fd pn [])
    (ha : DA X Z ow (e :: es) as) (hz : zfB Z = true := by rfl) (hl : as.length = pn.length := by rfl) (hps : ownPos 0 as = ps := by rfl) (nd : decide (ownSlots as).Nodup = true := by rfl) (hm : modesOk owp ow 0 as = true := by rfl) (hlt : as.length ≤ 1000 := by decide)
    (hdb : (x == ("__debug__" : Str)) = false := by decide) (he : starEach (e :: es) X.env = (false, eval e X.env) :: starEach es X.env := by rfl) (hpl : (backTo pos (starEach es X.env)).any (·.1) = false := by rfl) :
    DE X Z ow rm (.Call (.Name x p) (e :: es) [] pos) (dCall fn as) := PE.mono (pe_callX Fk hr hg hmg hk hb ha hdb he hpl) fun _ _ _ h => tCall_of S hz hl hps nd hm hlt h
end
end L2
namespace L2
open PySem PySem.Spec PyProof.Rows
section
variable {X : Cx} {Z : Ent} {ow ow' ol ox : List Nat} {n rm : Nat} {pos : Pos} {e a b c : Expr} {f h : M D} {F H : Hp} {σ : St} {δ : DS} {g : Addr → Option Lab} {K : PySem.W.Frag}
theorem OwnR.relabP {g' : Addr → Option Lab} {i j : Nat} {q : List Nat} (hg : ∀ a p, g a = some (i, p) → g' a = some (j, q ++ p)) {n : Nat} {p : List Nat} {d : D} {v : V} (r : OwnR K F H g i n p d v) : OwnR K F H g' j n (q ++ p) d v :=
  OwnF.trans (fun _ _ z => z) (fun a p o e1 e2 e3 => ⟨hg a p e1, e2, e3⟩) r
theorem Rel.rewrite {i : Nat} {ds ds' : List D} {vs' : List V} {a : Addr} (S : Small Z ow) (R : Rel K Z ow F H σ δ) (ho : ow.getD i 0 = 1) (hd : δ[i]? = some (some (.list ds))) (hs : σ[i]? = some (some (.ref a))) (hr : RepAll K F ds' vs') :
    Rel K Z ow F (upd H a (.lst vs')) σ (δ.set i (some (.list ds'))) := by
  obtain ⟨g, R⟩ := R
  obtain ⟨v, e1, o⟩ := R.slot i _ hd
  rw [hs] at e1; cases e1
  rw [ho] at o
  obtain ⟨a', ds0, vs0, q1, q2, q3, q4, q5, q6, q7⟩ := o.lst (m := 0)
  cases q1
  cases q2
  have hi : i < δ.length := (List.getElem?_eq_some_iff.mp hd).1
  refine ⟨g, fun b u e => ?_, R.f0, fun b u n e => ?_, R.new, fun b z => ?_, R.lab, by rw [List.length_set]; exact R.len, R.par, fun j d e => ?_⟩
  · have : b ≠ a := fun z => by rw [z, q5] at e; cases e
    rw [upd_ne this]; exact R.sub b u e
  · have : b ≠ a := fun z => by
      subst z
      rcases R.lab b i [] q3 with w | ⟨q, w⟩
      · rw [w] at e; cases e
      · rw [w] at n; cases n
    rw [upd_ne this]; exact R.kept b u n e
  · by_cases hb : b = a
    · subst hb; rw [upd_same]; simp
    · rw [upd_ne hb]; exact R.there b z
  · by_cases hj : j = i
    · subst hj
      rw [List.getElem?_set_self hi] at e
      cases e
      refine ⟨_, hs, ?_⟩
      rw [ho]
      exact OwnR.mkL (m := 0) ⟨a, ds', vs', rfl, rfl, q3, upd_same, q5, hr.len, fun k d' v' z1 z2 => hr.both k d' v' z1 z2⟩
    · rw [List.getElem?_set_ne (Ne.symm hj)] at e
      obtain ⟨v, e1, o⟩ := R.slot j d e
      refine ⟨v, e1, o.mono (Same.refl _) (fun _ _ _ e => e) (fun _ _ _ _ h => h) fun a' l u hl e h => ?_⟩
      have : a' ≠ a := fun z => by rw [z, q3] at e; cases e; exact hj hl.symm
      rw [upd_ne this]; exact h
theorem Rel.ownAt {i : Nat} {d : D} (R : Rel K Z ow F H σ δ) (ho : ow.getD i 0 = 1) (hd : δ[i]? = some (some d)) : ∃ a ds vs, d = .list ds ∧ σ[i]? = some (some (.ref a)) ∧ H a = some (.lst vs) ∧ RepAll K F ds vs := by
  obtain ⟨g, R⟩ := R
  obtain ⟨v, e1, o⟩ := R.slot i _ hd
  rw [ho] at o
  obtain ⟨a, ds0, vs0, q1, q2, q3, q4, q5, q6, q7⟩ := o.lst (m := 0)
  exact ⟨a, ds0, vs0, q1, by rw [e1, q2], q4, RepAll.of q6 q7⟩
noncomputable def dMut (i : Nat) (op : List D → List D → Option (D × List D)) (fs : List (M D)) : M D := fun δ => match δ[i]? with
  | some (some _) => (dVals fs δ).bind fun args δ1 => (match δ1[i]? with
    | some (some (.list ds)) => (match op ds args with
      | some (ret, ds') => .ok ret (δ1.set i (some (.list ds')))
      | none => .stuck)
    | _ => .stuck)
  | _ => .stuck
noncomputable def MutS (X : Cx) (r : V → List V → Hp → VK → Prop) (op : List D → List D → Option (D × List D)) : Prop := ∀ (F H : Hp) (l : Addr) (xs vs : List V) (ds args : List D) (ret : D) (ds' : List D), H l = some (.lst xs) → Same F H → RepAll X.K F ds xs → RepAll X.K F args vs → op ds args = some (ret, ds') →
  ∃ xs' rv, RepAll X.K F ds' xs' ∧ Rep X.K F ret rv ∧ ∀ Q : VK, Q rv (upd H l (.lst xs')) → r (.ref l) vs H Q
theorem tMut_of {i : Nat} {r : V → List V → Hp → VK → Prop} {op : List D → List D → Option (D × List D)} {fs : List (M D)} {Q : VK} (S : Small Z ow) (ho : ow.getD i 0 = 1) (hm : MutS X r op) (h : tD X Z ow 0 (dMut i op fs) σ H Q) : tBM X.K "list" r (tVar i) (tV X Z ow fs) σ H Q := by
  obtain ⟨F, δ, R, h⟩ := h
  unfold dMut at h
  cases e0 : δ[i]? with
  | none => rw [e0] at h; exact h.elim
  | some o =>
    cases o with
    | none => rw [e0] at h; exact h.elim
    | some d0 =>
      rw [e0] at h
      dsimp only at h
      obtain ⟨a, ds0, vs0, q1, q2, q3, q4⟩ := R.ownAt ho e0
      refine ⟨_, q2, .inl ⟨rfl, vs0, SqL.of q3⟩, F, δ, R, ?_⟩
      cases e : dVals fs δ with
      | stuck => rw [e] at h; exact h.elim
      | err x δ1 => rw [e] at h; exact h
      | ok args δ1 =>
        rw [e] at h
        simp only [Res.bind] at h
        intro vs H1 F1 R1 s1 z
        cases e1 : δ1[i]? with
        | none => rw [e1] at h; exact h.elim
        | some o =>
          cases o with
          | none => rw [e1] at h; exact h.elim
          | some d1 =>
            rw [e1] at h
            obtain ⟨a', ds1, vs1, p1, p2, p3, p4⟩ := R1.ownAt ho e1
            rw [q2] at p2
            cases p2
            subst p1
            dsimp only at h
            cases e2 : op ds1 args with
            | none => rw [e2] at h; exact h.elim
            | some rr =>
              obtain ⟨ret, ds'⟩ := rr
              rw [e2] at h
              dsimp only at h
              obtain ⟨xs', rv, w1, w2, w3⟩ := hm F1 H1 a vs1 vs ds1 args ret ds' p3 R1.sub p4 z e2
              exact w3 Q (h _ _ F1 ((R1.rewrite S ho e1 q2 w1).x w2) s1)
theorem de_mut (i : Nat) {x : Str} {p q : Pos} {name : Str} {id : String} {es : List Expr} {r : V → List V → Hp → VK → Prop} {op : List D → List D → Option (D × List D)} {fs : List (M D)} (S : Small Z ow) (slot : Slot "list" name id) (hty : typeOf (.builtin id) = pure (.type "method_descriptor")) (hmr : MtR X id r) (hm : MutS X r op)
    (ha : DV X Z ow (e :: es) fs) (ho : ow.getD i 0 = 1 := by rfl) (hN : X.N[i]? = some x := by rfl) (hv : Vis X.env.scope x := by first | exact Or.inl rfl | exact Or.inr (Or.inl rfl) | exact Or.inr (Or.inr rfl)) (hd : (x == ("__debug__" : Str)) = false := by decide) (hcd : (x == ("__classdict__" : Str)) = false := by decide)
    (hbase : attributeBase (.Name x p) name X.env (eval (.Name x p) X.env) = eval (.Name x p) X.env := by rfl)
    (hfew : ((backTo pos (starEach (e :: es) X.env)).all (fun x => !x.1) && (backToKw pos (keywordEach [] X.env)).all (fun x => x.1.isSome)
      && decide ((e :: es).length + ([] : List Keyword).length + (if ([] : List Keyword).isEmpty then 0 else 1) < 30)) = true := by rfl)
    (hline : (q.endLine == pos.line) = true := by rfl) (hs : starEach (e :: es) X.env = (false, eval e X.env) :: starEach es X.env := by rfl) (hplain : (backTo pos (starEach es X.env)).any (·.1) = false := by rfl) :
    DE X Z ow 0 (.Call (.Attribute (.Name x p) name q) (e :: es) [] pos) (dMut i op fs) := PE.mono (pe_bm PySem.F.plainAttrs_list slot hty hmr (pe_var hN hv hd hcd) ha hbase hfew hline hs hplain) fun _ _ _ h => tMut_of S ho hm h
noncomputable def appD : List D → List D → Option (D × List D)
  | ds, [d] => if ds.length < sizeLine then some (.none, ds ++ [d]) else none
  | _, _ => none
theorem repNone {F : Hp} : Rep K F .none .non := by unfold Rep; rfl
theorem mut_append : MutS X rAppend appD := fun F H l xs vs ds args ret ds' hl hs h1 h2 e => by
  unfold appD at e
  split at e
  · rename_i d
    split at e
    · rename_i hlt
      cases e
      unfold RepAll at h2
      obtain ⟨x, r, rfl, hx, h2⟩ := h2
      unfold RepAll at h2
      subst h2
      exact ⟨xs ++ [x], .non, h1.app (repCons hx repNil), repNone, fun Q q => ⟨l, xs, x, rfl, rfl, hl, by rw [← h1.len]; exact hlt, q⟩⟩
    · cases e
  · cases e
theorem de_append (i : Nat) {x : Str} {p q : Pos} (S : Small Z ow) (ha : DE X Z ow 0 e f) (ho : ow.getD i 0 = 1 := by rfl) (hN : X.N[i]? = some x := by rfl) (hv : Vis X.env.scope x := by first | exact Or.inl rfl | exact Or.inr (Or.inl rfl) | exact Or.inr (Or.inr rfl)) (hd : (x == ("__debug__" : Str)) = false := by decide) (hcd : (x == ("__classdict__" : Str)) = false := by decide)
    (hbase : attributeBase (.Name x p) "append" X.env (eval (.Name x p) X.env) = eval (.Name x p) X.env := by rfl)
    (hfew : ((backTo pos (starEach [e] X.env)).all (fun x => !x.1) && (backToKw pos (keywordEach [] X.env)).all (fun x => x.1.isSome)
      && decide ([e].length + ([] : List Keyword).length + (if ([] : List Keyword).isEmpty then 0 else 1) < 30)) = true := by rfl)
    (hline : (q.endLine == pos.line) = true := by rfl) (hs : starEach [e] X.env = (false, eval e X.env) :: starEach [] X.env := by rfl) (hplain : (backTo pos (starEach [] X.env)).any (·.1) = false := by rfl) :
    DE X Z ow 0 (.Call (.Attribute (.Name x p) "append" q) [e] [] pos) (dMut i appD [f]) := de_mut i S PySem.F.slot_list_append PySem.F.type_list_append mt_append mut_append (dv_cons ha dv_nil hs) ho hN hv hd hcd hbase hfew hline hs hplain
noncomputable def dPut (i : Nat) (fk fv : M D) : M Fl := fun δ => (fv δ).bind fun v δ1 => match δ1[i]? with
  | some (some _) => (fk δ1).bind fun k δ2 => (match δ2[i]?, k with
    | some (some (.list ds)), .int k => (match ixN ds.length k with
      | some j => .ok .next (δ2.set i (some (.list (ds.set j v))))
      | none => .stuck)
    | _, _ => .stuck)
  | _ => .stuck
theorem RepAll.set {ds : List D} {vs : List V} {d : D} {v : V} (h : RepAll K F ds vs) (j : Nat) (r : Rep K F d v) : RepAll K F (ds.set j d) (vs.set j v) :=
  RepAll.of (by rw [List.length_set, List.length_set, h.len]) fun k d' v' e1 e2 => by
    by_cases hk : j = k
    · subst hk
      rw [List.getElem?_set] at e1 e2
      simp only [if_true] at e1 e2
      split at e1
      · split at e2
        · cases e1; cases e2; exact r
        · cases e2
      · cases e1
    · rw [List.getElem?_set_ne hk] at e1 e2
      exact h.both k d' v' e1 e2
theorem ds_put (i : Nat) {x : Str} {p : Pos} {spos tpos : Pos} {ek ev : Expr} {fk fv : M D} (S : Small Z ow) (hv : DE X Z ow 0 ev fv) (hk : DE X Z ow 0 ek fk) (ho : ow.getD i 0 = 1 := by rfl) (hN : X.N[i]? = some x := by rfl) (hvi : Vis X.env.scope x := by first | exact Or.inl rfl | exact Or.inr (Or.inl rfl) | exact Or.inr (Or.inr rfl)) (hd : (x == ("__debug__" : Str)) = false := by decide) (hcd : (x == ("__classdict__" : Str)) = false := by decide)
    (ha : ∀ v, assign (.Subscript (.Name x p) ek tpos) X.env v = (do
      let ov ← holding [v] (eval (.Name x p) X.env)
      let iv ← holding [v, ov] (eval ek X.env)
      standAt tpos
      holding [v, ov, iv] (setItem ov iv v)
      release [v, ov, iv] []) := by intro _; rfl)
    (hs : swapsWithSole [.Subscript (.Name x p) ek tpos] ev spos.line X.env = pure false := by rfl) (hw : swappedStores [.Subscript (.Name x p) ek tpos] ev X.env = pure none := by rfl)
    (h1 : (assignEach [.Subscript (.Name x p) ek tpos] X.env).map (·.2) = [assign (.Subscript (.Name x p) ek tpos) X.env] := by rfl) :
    DS1 X Z ow ow ol ox rm (.Assign [.Subscript (.Name x p) ek tpos] ev spos) (dPut i fk fv) := PS.mono (ps_asg hv (pg_sub (pe_var hN hvi hd hcd) hk set_list ha) hs hw h1) fun Dn σ H h => by
  obtain ⟨F, δ, R, h⟩ := h
  unfold dPut at h
  refine ⟨F, δ, R, ?_⟩
  cases e : fv δ with
  | stuck => rw [e] at h; exact h.elim
  | err y δ1 => rw [e] at h; exact XOk.cast h
  | ok dv δ1 =>
    rw [e] at h
    simp only [Res.bind] at h
    intro v H1 F1 R1 s1
    cases e0 : δ1[i]? with
    | none => rw [e0] at h; exact h.elim
    | some o =>
      cases o with
      | none => rw [e0] at h; exact h.elim
      | some d0 =>
        rw [e0] at h
        dsimp only at h
        obtain ⟨a, ds0, vs0, q1, q2, q3, q4⟩ := R1.rel.ownAt ho e0
        refine ⟨_, q2, F1, δ1, R1.rel, ?_⟩
        cases e1 : fk δ1 with
        | stuck => rw [e1] at h; exact h.elim
        | err y δ2 => rw [e1] at h; exact XOk.cast (XOk.mono h s1)
        | ok dk δ2 =>
          rw [e1] at h
          dsimp only at h
          intro kv H2 F2 R2 s2
          cases e2 : δ2[i]? with
          | none => rw [e2] at h; exact h.elim
          | some o =>
            cases o with
            | none => rw [e2] at h; exact h.elim
            | some d1 =>
              rw [e2] at h
              obtain ⟨a', ds1, vs1, p1, p2, p3, p4⟩ := R2.rel.ownAt ho e2
              rw [q2] at p2
              cases p2
              subst p1
              cases dk with
              | int k =>
                dsimp only at h
                cases e3 : ixN ds1.length k with
                | none => rw [e3] at h; exact h.elim
                | some j =>
                  rw [e3] at h
                  have rk := R2.rep
                  unfold Rep at rk
                  subst rk
                  refine ⟨a, vs1, k, j, rfl, rfl, p3, by rw [← p4.len]; exact e3, ?_⟩
                  exact h σ _ F2 (R2.rel.rewrite S ho e2 q2 (p4.set j (s2.rep _ _ R1.rep))) (s1.trans' s2)
              | _ => exact h.elim
noncomputable def ixD : D → D → Option D
  | .list ds, .int i => atI ds i
  | .tuple ds, .int i => atI ds i
  | .str z, .int i => if z.length ≤ sizeLine then (atI z.cps.toList i).map fun c => .str ⟨#[c]⟩ else none
  | _, _ => none
theorem RepAll.atI {ds : List D} {vs : List V} {i : Int} {d : D} (h : RepAll K F ds vs) (e : L2.atI ds i = some d) : ∃ v, L2.atI vs i = some v ∧ Rep K F d v := by
  unfold L2.atI at e ⊢
  rw [← h.len]
  cases q : ixN ds.length i with
  | none => rw [q] at e; cases e
  | some j =>
    rw [q] at e
    exact h.get e
theorem op_ix : OpS X (rIx X.K) 0 ixD := fun Z ow F H σ δ a b x y d Q S R ra rb e q => by
  unfold ixD at e
  split at e
  · rename_i ds i
    unfold Rep at ra rb
    obtain ⟨p, xs, rfl, hq, rs⟩ := ra
    subst rb
    obtain ⟨v, e1, r⟩ := rs.atI e
    exact .inl ⟨p, xs, i, v, rfl, rfl, R.sub.seq hq, e1, q v H F (R.x r) (Same.refl _)⟩
  · rename_i ds i
    unfold Rep at ra rb
    obtain ⟨p, xs, rfl, hq, rs⟩ := ra
    subst rb
    obtain ⟨v, e1, r⟩ := rs.atI e
    exact .inr (.inl ⟨p, xs, i, v, rfl, rfl, R.sub.seqT hq, e1, q v H F (R.x r) (Same.refl _)⟩)
  · rename_i z i
    unfold Rep at ra rb
    subst ra rb
    split at e
    · rename_i hz
      cases e1 : atI z.cps.toList i with
      | none => rw [e1] at e; cases e
      | some c =>
        rw [e1] at e
        cases e
        exact .inr (.inr ⟨z, i, c, rfl, rfl, hz, e1, q _ H F (R.x (by unfold Rep; rfl)) (Same.refl _)⟩)
    · cases e
  · cases e
theorem de_ix (S : Small Z ow) (ha : DE X Z ow 0 a f) (hb : DE X Z ow 0 b h) (hs : PlainIx b := by exact fun _ _ => rfl) : DE X Z ow 0 (.Subscript a b pos) (dOp ixD f h) := PE.mono (pe_ix ix_seq ha hb hs) fun _ _ _ q => tOp_of S op_ix q
noncomputable def dIxO (i : Nat) (fk : M D) : M D := fun δ => match δ[i]? with
  | some (some _) => (fk δ).bind fun k δ1 => (match δ1[i]? with
    | some (some d) => (match ixD d k with
      | some r => .ok r δ1
      | none => .stuck)
    | _ => .stuck)
  | _ => .stuck
theorem de_ixo (i : Nat) {x : Str} {p : Pos} (hb : DE X Z ow 0 b h) (ho : ow.getD i 0 = 1 := by rfl) (hN : X.N[i]? = some x := by rfl) (hv : Vis X.env.scope x := by first | exact Or.inl rfl | exact Or.inr (Or.inl rfl) | exact Or.inr (Or.inr rfl)) (hd : (x == ("__debug__" : Str)) = false := by decide) (hcd : (x == ("__classdict__" : Str)) = false := by decide) (hs : PlainIx b := by exact fun _ _ => rfl) :
    DE X Z ow 0 (.Subscript (.Name x p) b pos) (dIxO i h) := PE.mono (pe_ix ix_list (pe_var hN hv hd hcd) hb hs) fun σ H Q q => by
  obtain ⟨F, δ, R, q⟩ := q
  unfold dIxO at q
  cases e0 : δ[i]? with
  | none => rw [e0] at q; exact q.elim
  | some o =>
    cases o with
    | none => rw [e0] at q; exact q.elim
    | some d0 =>
      rw [e0] at q
      dsimp only at q
      obtain ⟨a, ds0, vs0, q1, q2, q3, q4⟩ := R.ownAt ho e0
      refine ⟨_, q2, F, δ, R, ?_⟩
      cases e1 : h δ with
      | stuck => rw [e1] at q; exact q.elim
      | err y δ2 => rw [e1] at q; exact q
      | ok dk δ2 =>
        rw [e1] at q
        simp only [Res.bind] at q
        intro kv H2 F2 R2 s2
        cases e2 : δ2[i]? with
        | none => rw [e2] at q; exact q.elim
        | some o =>
          cases o with
          | none => rw [e2] at q; exact q.elim
          | some d1 =>
            rw [e2] at q
            obtain ⟨a', ds1, vs1, p1, p2, p3, p4⟩ := R2.rel.ownAt ho e2
            rw [q2] at p2
            cases p2
            subst p1
            cases dk with
            | int k =>
              dsimp only [ixD] at q
              cases e3 : atI ds1 k with
              | none => rw [e3] at q; exact q.elim
              | some r =>
                rw [e3] at q
                have rk := R2.rep
                unfold Rep at rk
                subst rk
                obtain ⟨v, w1, w2⟩ := p4.atI e3
                exact ⟨a, vs1, k, v, rfl, rfl, SqL.of p3, w1, q v H2 F2 (R2.rel.x w2) s2⟩
            | _ => exact q.elim
noncomputable def lenD : List D → Option D
  | [.list ds] => some (.int ds.length)
  | [.tuple ds] => some (.int ds.length)
  | [.str z] => if z.length ≤ sizeLine then some (.int z.length) else none
  | _ => none
noncomputable def dLenO (i : Nat) : M D := fun δ => match δ[i]? with
  | some (some d) => (match lenD [d] with
    | some r => .ok r δ
    | none => .stuck)
  | _ => .stuck
end
end L2
namespace L2
open PySem PySem.Spec PyProof.Rows
section
variable {X : Cx} {Z : Ent} {ow ow' ol ox : List Nat} {n rm : Nat} {pos : Pos} {e a b c : Expr} {f h k : M D} {F H : Hp} {σ : St} {δ : DS} {K : PySem.W.Frag}
theorem repInt {i : Int} {v : V} (h : Rep K F (.int i) v) : v = .int i := by unfold Rep at h; exact h
theorem repStr {x : Str} {v : V} (h : Rep K F (.str x) v) : v = .str x := by unfold Rep at h; exact h
theorem repBl {x : Bool} {v : V} (h : Rep K F (.bool x) v) : v = .bl x := by unfold Rep at h; exact h
theorem repNon {v : V} (h : Rep K F .none v) : v = .non := by unfold Rep at h; exact h
theorem repL {ds : List D} {v : V} (h : Rep K F (.list ds) v) : ∃ (a : Addr) (xs : List V), v = .ref a ∧ SqL K F a xs ∧ RepAll K F ds xs := by unfold Rep at h; exact h
theorem repT {ds : List D} {v : V} (h : Rep K F (.tuple ds) v) : ∃ (a : Addr) (xs : List V), v = .ref a ∧ SqT K F a xs ∧ RepAll K F ds xs := by unfold Rep at h; exact h
theorem mkInt {i : Int} : Rep K F (.int i) (.int i) := by unfold Rep; rfl
theorem mkStr {i : Str} : Rep K F (.str i) (.str i) := by unfold Rep; rfl
theorem mkBl {i : Bool} : Rep K F (.bool i) (.bl i) := by unfold Rep; rfl
noncomputable def iD (C : Int → Int → Prop) (g : Int → Int → D) : D → D → Option D
  | .int i, .int j => open Classical in if C i j then some (g i j) else none
  | _, _ => none
theorem os_int {C : Int → Int → Prop} {g : Int → Int → V} {g' : Int → Int → D} (hg : ∀ F i j, Rep X.K F (g' i j) (g i j)) : OpS X (rI C g) 0 (iD C g') := fun Z ow F H σ δ a b x y d Q S R ra rb e q => by
  unfold iD at e
  split at e
  · rename_i i j
    split at e
    · rename_i hc
      cases e
      exact ⟨i, j, repInt ra, repInt rb, hc, q _ H F (R.x (hg F i j)) (Same.refl _)⟩
    · cases e
  · cases e
noncomputable def iD0 (g : Int → Int → D) : D → D → Option D
  | .int i, .int j => some (g i j)
  | _, _ => none
theorem os_int0 {g : Int → Int → V} {g' : Int → Int → D} (hg : ∀ F i j, Rep X.K F (g' i j) (g i j)) : OpS X (rI0 g) 0 (iD0 g') := fun Z ow F H σ δ a b x y d Q S R ra rb e q => by
  unfold iD0 at e
  split at e
  · rename_i i j
    cases e
    exact ⟨i, j, repInt ra, repInt rb, q _ H F (R.x (hg F i j)) (Same.refl _)⟩
  · cases e
theorem OpS.or {r r' : R2} {o o' : D → D → Option D} (h : OpS X r n o) (h' : OpS X r' n o') : OpS X (fun x y H Q => r x y H Q ∨ r' x y H Q) n (fun a b => (o a b).or (o' a b)) := fun Z ow F H σ δ a b x y d Q S R ra rb e q => by
  dsimp only at e
  cases e1 : o a b with
  | some d' =>
    rw [e1, Option.some_or] at e
    cases e
    exact .inl (h Z ow F H σ δ a b x y d Q S R ra rb e1 q)
  | none =>
    rw [e1, Option.none_or] at e
    exact .inr (h' Z ow F H σ δ a b x y d Q S R ra rb e q)
noncomputable def strAdd : D → D → Option D
  | .str i, .str j => if i.length + j.length ≤ sizeLine then some (.str (i ++ j)) else none
  | _, _ => none
noncomputable def tupAdd : D → D → Option D
  | .tuple i, .tuple j => if i ≠ [] ∧ i.length + j.length ≤ sizeLine then some (.tuple (i ++ j)) else none
  | _, _ => none
noncomputable def catD : D → D → Option D
  | .list i, .list j => if i.length + j.length ≤ sizeLine then some (.list (i ++ j)) else none
  | _, _ => none
instance {l : List D} : Decidable (l ≠ []) := match l with
  | [] => .isFalse fun h => h rfl
  | _ :: _ => .isTrue fun h => by cases h
theorem os_str : OpS X (fun x y H Q => ∃ i j, x = .str i ∧ y = .str j ∧ i.length + j.length ≤ sizeLine ∧ Q (.str (i ++ j)) H) 0 strAdd := fun Z ow F H σ δ a b x y d Q S R ra rb e q => by
  unfold strAdd at e
  split at e
  · rename_i i j
    split at e
    · rename_i hc
      cases e
      exact ⟨i, j, repStr ra, repStr rb, hc, q _ H F (R.x mkStr) (Same.refl _)⟩
    · cases e
  · cases e
theorem os_tup : OpS X (rCatT X.K) 0 tupAdd := fun Z ow F H σ δ a b x y d Q S R ra rb e q => by
  unfold tupAdd at e
  split at e
  · rename_i i j
    split at e
    · rename_i hc
      cases e
      obtain ⟨p, xs, rfl, hp, ha⟩ := repT ra
      obtain ⟨p', ys, rfl, hp', hb⟩ := repT rb
      refine ⟨p, p', xs, ys, rfl, rfl, R.sub.seqT hp, R.sub.seqT hp', fun z => ?_, by rw [← ha.len, ← hb.len]; exact hc.2, fun z => ?_, fun z t ht => ?_⟩
      · have := ha.len; rw [z] at this; exact hc.1 (List.length_eq_zero_iff.mp this)
      · have hj : j = [] := by have := hb.len; rw [z] at this; exact List.length_eq_zero_iff.mp this
        rw [hj, List.append_nil] at q
        exact q _ H F (R.x ra) (Same.refl _)
      · have ft := R.fnone ht
        exact q _ _ (upd F t (.tup (xs ++ ys))) ((R.laid ht).x (rep_newTup ft (ha.app hb))) (same_new ft _)
    · cases e
  · cases e
theorem list_addG (l : Addr) (items : Array Value) (n : Nat) (sl : Array (Option Value)) (b : Addr) (items2 : Array Value) (n2 : Nat) (sl2 : Array (Option Value)) (hc0 : items.size + items2.size ≤ sizeLine) :
    Meets (Builtin.«list.__add__» ⟨[.ref l, .ref b], []⟩) (fun _ R s => s.heap.get? l = some ⟨.type "list", none, .seq items n, sl⟩ ∧ s.heap.get? b = some ⟨.type "list", none, .seq items2 n2, sl2⟩ ∧ R (.ok (.ret (Value.ref s.heap.objs.size))) { s with heap := s.heap.push { cls := Value.type "list", data := Data.seq (items ++ items2) }, toks := s.toks }) :=
  .of_wp fun prog w A R s h => by
    obtain ⟨hp, g, d, tk, os⟩ := s
    obtain ⟨hl, hb, h⟩ := h
    have f1 := PySem.AutoSeq1.idx_int
    have f2 := PySem.AutoSeq1.sub_tuple_tuple
    have f3 := PySem.AutoSeq1.sub_list_list
    have f4 := PySem.AutoSeq1.sub_tuple_list
    have f5 := PySem.AutoSeq1.sub_list_tuple
    wp_walk using PySem.AutoSeq1.wpAny_loadPart' hl, PySem.AutoSeq1.wpAny_loadPart' hb
    exact ⟨_, rfl, h⟩
theorem add_listG {prog : Program} {w : World} {A : Around} {E : Value → Shared → Prop} {s : Shared} {l b : Addr} {items items2 : Array Value} {n n2 : Nat} {sl sl2 : Array (Option Value)} {Q : Value → Shared → Prop} (hl : s.heap.get? l = some ⟨.type "list", none, .seq items n, sl⟩) (hb : s.heap.get? b = some ⟨.type "list", none, .seq items2 n2, sl2⟩)
    (h : Q (.ref s.heap.objs.size) { s with heap := s.heap.push { cls := .type "list", data := .seq (items ++ items2) } }) (hsz : items.size + items2.size ≤ sizeLine) : wpAny (model prog w) A (binaryOp .Add (.ref l) (.ref b)) Q E s :=
  concat_meets ⟨_, hl, rfl⟩ ⟨_, hb, rfl⟩ noFill_list_add seq_list_add F.slot_list_add F.entry_list_add (F.args_list_add_2 _ _) (list_addG l items n sl b items2 n2 sl2 hsz) ⟨hl, hb, h⟩
noncomputable def rCatL (K : PySem.W.Frag) : R2 := fun x y H Q => ∃ l b xs zs, x = .ref l ∧ y = .ref b ∧ SqL K H l xs ∧ SqL K H b zs ∧ xs.length + zs.length ≤ sizeLine ∧ ∀ p, H p = none → Q (.ref p) (upd H p (.lst (xs ++ zs)))
theorem op_catL : OpR X (binaryOp .Add) (rCatL X.K) := by
  intro pins s σ H x y v u Q I rx ry h
  obtain ⟨l, b, xs, zs, rfl, rfl, hH, hB, hz, q⟩ := h
  cases rx
  cases ry
  obtain ⟨its, r, ⟨o, n, e, c, dn, dd⟩, z⟩ := I.list hH
  obtain ⟨its2, r2, ⟨o2, n2, e2, c2, dn2, dd2⟩, z2⟩ := I.list hB
  obtain ⟨oc, od, oda, osl⟩ := o
  obtain ⟨oc2, od2, oda2, osl2⟩ := o2
  cases c
  cases c2
  cases dn
  cases dn2
  cases dd
  cases dd2
  have hl := r.length
  have hl2 := r2.length
  refine add_listG e e2 ?_ (by rw [List.size_toArray, List.size_toArray]; omega)
  have ea : its.toArray ++ its2.toArray = (its ++ its2).toArray := by simp
  rw [ea]
  exact ⟨.ref _, _, I.lnew (t' := s.toks) (r.append r2) (by rw [List.length_append]; omega), rfl, q _ I.fresh⟩
theorem os_cat1 : OpS X (rCatL X.K) 1 catD := fun Z ow F H σ δ a b x y d Q S R ra rb e q => by
  unfold catD at e
  split at e
  · rename_i i j
    split at e
    · rename_i hc
      cases e
      obtain ⟨p, xs, rfl, hp, ha⟩ := repL ra
      obtain ⟨p', ys, rfl, hp', hb⟩ := repL rb
      exact ⟨p, p', xs, ys, rfl, rfl, R.sub.seq hp, R.sub.seq hp', by rw [← ha.len, ← hb.len]; exact hc, fun t ht => q _ _ F (R.newList S ht (ha.app hb)) (Same.refl _)⟩
    · cases e
  · cases e
theorem OpS.fz {r : R2} {o : D → D → Option D} (h : OpS X r n o) : OpS X r 0 o := fun Z ow F H σ δ a b x y d Q S R ra rb e q => h Z ow F H σ δ a b x y d Q S R ra rb e fun v H' F' R' s => by
  obtain ⟨F2, s2, R2⟩ := R'.freeze S
  exact q v H' F2 R2 (s.trans' s2)
noncomputable def addD : D → D → Option D := fun a b => (iD0 (fun i j => .int (i + j)) a b).or ((strAdd a b).or ((tupAdd a b).or (catD a b)))
theorem de_add (S : Small Z ow) (ha : DE X Z ow 0 a f) (hb : DE X Z ow 0 b h) : DE X Z ow 0 (.BinOp a .Add b pos) (dOp addD f h) :=
  de_op S (op_add.or (op_add_str.or (op_catT.or op_catL))) ((os_int0 fun _ _ _ => mkInt).or (os_str.or (os_tup.or os_cat1.fz))) ha hb
noncomputable def subD : D → D → Option D := iD0 fun i j => .int (i - j)
theorem de_sub (S : Small Z ow) (ha : DE X Z ow 0 a f) (hb : DE X Z ow 0 b h) : DE X Z ow 0 (.BinOp a .Sub b pos) (dOp subD f h) := de_op S op_sub (os_int0 fun _ _ _ => mkInt) ha hb
noncomputable def mulD : D → D → Option D := iD IntMulOk fun i j => .int (i * j)
theorem de_mul (S : Small Z ow) (ha : DE X Z ow 0 a f) (hb : DE X Z ow 0 b h) : DE X Z ow 0 (.BinOp a .Mult b pos) (dOp mulD f h) := de_op S op_mulB (os_int fun _ _ _ => mkInt) ha hb
noncomputable def fdivD : D → D → Option D := iD CDivZ fun i j => .int (i.fdiv j)
theorem de_fdiv (S : Small Z ow) (ha : DE X Z ow 0 a f) (hb : DE X Z ow 0 b h) : DE X Z ow 0 (.BinOp a .FloorDiv b pos) (dOp fdivD f h) := de_op S op_fdivZ (os_int fun _ _ _ => mkInt) ha hb
noncomputable def modD : D → D → Option D := iD (fun _ j => j ≠ 0) fun i j => .int (i.fmod j)
theorem de_mod (S : Small Z ow) (ha : DE X Z ow 0 a f) (hb : DE X Z ow 0 b h) : DE X Z ow 0 (.BinOp a .Mod b pos) (dOp modD f h) := de_op S op_modN (os_int fun _ _ _ => mkInt) ha hb
noncomputable def powD : D → D → Option D := iD CPow fun i j => .int (i ^ j.toNat)
theorem de_pow (S : Small Z ow) (ha : DE X Z ow 0 a f) (hb : DE X Z ow 0 b h) : DE X Z ow 0 (.BinOp a .Pow b pos) (dOp powD f h) := de_op S op_pow (os_int fun _ _ _ => mkInt) ha hb
noncomputable def dUn (op : D → Option D) (f : M D) : M D := fun δ => (f δ).bind fun d δ1 => match op d with
  | some r => .ok r δ1
  | none => .stuck
noncomputable def negD : D → Option D
  | .int i => some (.int (-i))
  | _ => none
noncomputable def dNotV (f : M D) : M D := fun δ => (f δ).bind fun d δ1 => match d with
  | .bool b => .ok (.bool (!b)) δ1
  | _ => .stuck
theorem de_not (ha : DE X Z ow 0 a f) : DE X Z ow 0 (.UnaryOp .Not a pos) (dNotV f) := PE.mono (pe_not ha) fun σ H Q q => by
  obtain ⟨F, δ, R, q⟩ := q
  unfold dNotV at q
  refine ⟨F, δ, R, ?_⟩
  cases e : f δ with
  | stuck => rw [e] at q; exact q.elim
  | err x δ1 => rw [e] at q; exact q
  | ok d δ1 =>
    rw [e] at q
    simp only [Res.bind] at q
    intro v H1 F1 R1 s1
    cases d with
    | bool i => exact ⟨i, repBl R1.rep, q _ H1 F1 (R1.rel.x mkBl) s1⟩
    | _ => exact q.elim
noncomputable def dAndV (f g : M D) : M D := fun δ => (f δ).bind fun d δ1 => match d with
  | .bool b => if b = true then g δ1 else .ok (.bool false) δ1
  | _ => .stuck
noncomputable def dOrV (f g : M D) : M D := fun δ => (f δ).bind fun d δ1 => match d with
  | .bool b => if b = true then .ok (.bool true) δ1 else g δ1
  | _ => .stuck
theorem de_one {op} (h : DE X Z ow 0 a f) : DE X Z ow 0 (.BoolOp op [a] pos) f := PE.mono (pe_one h) fun _ _ _ q => q
theorem de_and {rest : List Expr} (ha : DE X Z ow 0 a f) (hb : DE X Z ow 0 (.BoolOp .And (b :: rest) pos) h) : DE X Z ow 0 (.BoolOp .And (a :: b :: rest) pos) (dAndV f h) := PE.mono (pe_and ha hb) fun σ H Q q => by
  obtain ⟨F, δ, R, q⟩ := q
  unfold dAndV at q
  refine ⟨F, δ, R, ?_⟩
  cases e : f δ with
  | stuck => rw [e] at q; exact q.elim
  | err x δ1 => rw [e] at q; exact q
  | ok d δ1 =>
    rw [e] at q
    simp only [Res.bind] at q
    intro v H1 F1 R1 s1
    cases d with
    | bool i =>
      refine ⟨i, repBl R1.rep, ?_⟩
      dsimp only at q
      cases i with
      | true => rw [if_pos rfl] at q ⊢; exact ⟨F1, δ1, R1.rel, q.mono s1 fun _ _ z => z⟩
      | false => rw [if_neg Bool.false_ne_true] at q ⊢; exact q _ H1 F1 (R1.rel.x mkBl) s1
    | _ => exact q.elim
theorem dw_or1 {f : M Bool} (ha : DT X Z ow a f) : PW X (.BoolOp .Or [a] pos) (tT X Z ow f) := pw_or1 ha
theorem dt_bool {f : M Bool} (h : PW X e (tT X Z ow f)) : DT X Z ow e f := h.pt
noncomputable def eqD : D → D → Option D := fun a b => if SeqAt.shaped a = true ∧ SeqAt.shaped b = true then some (.bool (PyData.eqv a b)) else none
noncomputable def neD : D → D → Option D := fun a b => if SeqAt.shaped a = true ∧ SeqAt.shaped b = true then some (.bool (!PyData.eqv a b)) else none
theorem os_eq : OpS X (fun x y H Q => ∃ d e, Rep X.K H d x ∧ Rep X.K H e y ∧ SeqAt.shaped d = true ∧ SeqAt.shaped e = true ∧ Q (.bl (PyData.eqv d e)) H) 0 eqD := fun Z ow F H σ δ a b x y d Q S R ra rb e q => by
  unfold eqD at e
  split at e
  · rename_i hc
    cases e
    exact ⟨a, b, R.sub.rep _ _ ra, R.sub.rep _ _ rb, hc.1, hc.2, q _ H F (R.x mkBl) (Same.refl _)⟩
  · cases e
theorem os_ne : OpS X (fun x y H Q => ∃ d e, Rep X.K H d x ∧ Rep X.K H e y ∧ SeqAt.shaped d = true ∧ SeqAt.shaped e = true ∧ Q (.bl (!PyData.eqv d e)) H) 0 neD := fun Z ow F H σ δ a b x y d Q S R ra rb e q => by
  unfold neD at e
  split at e
  · rename_i hc
    cases e
    exact ⟨a, b, R.sub.rep _ _ ra, R.sub.rep _ _ rb, hc.1, hc.2, q _ H F (R.x mkBl) (Same.refl _)⟩
  · cases e
noncomputable def ltD : D → D → Option D := iD0 fun i j => .bool (decide (i < j))
noncomputable def leD : D → D → Option D := iD0 fun i j => .bool (decide (i ≤ j))
noncomputable def gtD : D → D → Option D := iD0 fun i j => .bool (decide (j < i))
noncomputable def geD : D → D → Option D := iD0 fun i j => .bool (decide (j ≤ i))
theorem os_gt : OpS X (rI0 fun i j => .bl (decide (j < i))) 0 gtD := os_int0 fun _ _ _ => mkBl
end
end L2
namespace L2
open PySem PySem.Spec PyProof.Rows
structure ItS (K : PySem.W.Frag) (F : Hp) (J : It) (ds : List D) : Prop where
  go : ∀ i H, Same F H → i < ds.length → J.go i H
  yld : ∀ i H x H' d, Same F H → J.yld i H x H' → ds[i]? = some d → (H' = H ∧ Rep K F d x) ∨ ∃ p o, H p = none ∧ H' = upd H p o ∧ ∀ F2, Same F F2 → F2 p = none → Rep K (upd F2 p o) d x
  stop : ∀ H, Same F H → J.stop ds.length H
noncomputable def kI (X : Cx) (Z : Ent) (ow : List Nat) (r : Res (List D)) (F : Hp) (σ : St) (R : It → Hp → Prop) : Prop := match r with
  | .ok ds δ => ∀ J H' F', Rel X.K Z ow F' H' σ δ → Same F F' → ItS X.K F' J ds → R J H'
  | .err x δ => XOk X Z ow F x δ
  | .stuck => False
noncomputable def tI (X : Cx) (Z : Ent) (ow : List Nat) (f : M (List D)) : TI := fun σ H R => ∃ F δ, Rel X.K Z ow F H σ δ ∧ kI X Z ow (f δ) F σ R
noncomputable def DI (X : Cx) (Z : Ent) (ow : List Nat) (tg e : Expr) (f : M (List D)) : Prop := PI X tg e (tI X Z ow f)
theorem PI.mono {X : Cx} {tg e : Expr} {t t' : TI} (h : PI X tg e t) (hm : ∀ σ H R, t' σ H R → t σ H R) : PI X tg e t' := fun pins s σ H R I q => h pins s σ H R I (hm σ H R q)
section
variable {X : Cx} {Z : Ent} {ow ow' ol ox : List Nat} {n rm : Nat} {pos : Pos} {e tg a b : Expr} {f f' : M D} {sts : List Stmt} {u : M Fl} {g : TG} {set : D → DS → Option DS} {K : PySem.W.Frag} {F H : Hp} {σ : St} {δ : DS}
theorem its_list {a : Addr} {xs : List V} {ds : List D} (h : SqL K F a xs) (r : RepAll K F ds xs) : ItS K F (Itl K a) ds where
  go := fun i H s hi => ⟨xs, xs[i]'(by rw [← r.len]; exact hi), s.seq h, List.getElem?_eq_getElem _⟩
  yld := fun i H x H' d s y e => .inl ⟨y.1, by
    obtain ⟨v, e1, q⟩ := r.get e
    have := y.2 xs (s.seq h)
    rw [e1] at this; cases this
    exact q⟩
  stop := fun H s => ⟨xs, s.seq h, by rw [← r.len]; exact Nat.le_refl _⟩
theorem its_tup {a : Addr} {xs : List V} {ds : List D} (h : SqT K F a xs) (r : RepAll K F ds xs) : ItS K F (Itt K a) ds where
  go := fun i H s hi => ⟨xs, xs[i]'(by rw [← r.len]; exact hi), s.seqT h, List.getElem?_eq_getElem _⟩
  yld := fun i H x H' d s y e => .inl ⟨y.1, by
    obtain ⟨v, e1, q⟩ := r.get e
    have := y.2 xs (s.seqT h)
    rw [e1] at this; cases this
    exact q⟩
  stop := fun H s => ⟨xs, s.seqT h, by rw [← r.len]; exact Nat.le_refl _⟩
theorem its_rng {lo : Int} {m : Nat} : ItS K F (Itr lo m) (rngD lo m) where
  go := fun i H s hi => by rw [rngD_len] at hi; exact hi
  yld := fun i H x H' d s y e => .inl ⟨y.1, by
    have hi : i < m := by have := (List.getElem?_eq_some_iff.mp e).1; rwa [rngD_len] at this
    rw [rngD_at hi] at e
    cases e
    rw [y.2]
    exact mkInt⟩
  stop := fun H s => by rw [rngD_len]; exact Nat.le_refl _
noncomputable def dItems (f : M D) : M (List D) := fun δ => (f δ).bind fun d δ1 => match d with
  | .list ds => .ok ds δ1
  | .tuple ds => .ok ds δ1
  | _ => .stuck
theorem di_seq (h : DE X Z ow 0 e f) : DI X Z ow tg e (dItems f) := (pi_seq h).mono fun σ H R q => by
  obtain ⟨F, δ, Rl, q⟩ := q
  unfold dItems at q
  refine ⟨F, δ, Rl, ?_⟩
  cases e1 : f δ with
  | stuck => rw [e1] at q; exact q.elim
  | err x δ1 => rw [e1] at q; exact q
  | ok d δ1 =>
    rw [e1] at q
    simp only [Res.bind] at q
    intro v H1 F1 R1 s1
    have rp := R1.rep
    cases d with
    | list ds =>
      obtain ⟨a, xs, rfl, hq, ra⟩ := repL rp
      exact .inl ⟨a, rfl, ⟨xs, R1.rel.sub.seq hq⟩, q _ H1 F1 R1.rel s1 (its_list hq ra)⟩
    | tuple ds =>
      obtain ⟨a, xs, rfl, hq, ra⟩ := repT rp
      exact .inr ⟨a, rfl, ⟨xs, R1.rel.sub.seqT hq⟩, q _ H1 F1 R1.rel s1 (its_tup hq ra)⟩
    | _ => exact q.elim
noncomputable def dRng (fs : List (M D)) : M (List D) := fun δ => (dVals fs δ).bind fun ds δ1 => match rng2 ds with
  | some (lo, n) => .ok (rngD lo n) δ1
  | none => .stuck
theorem di_range1 {p2 p3 : Pos} (hgl : Gl X "range") (hm : X.mg "range" = none) (hi : DE X Z ow 0 b f) (hst : starEach [b] X.env = (false, eval b X.env) :: starEach [] X.env := by rfl) : DI X Z ow tg (.Call (.Name "range" p2) [b] [] p3) (dRng [f]) :=
  (pi_range1 hgl hm (dv_cons hi dv_nil hst) hst).mono fun σ H R q => by
    obtain ⟨F, δ, Rl, q⟩ := q
    unfold dRng at q
    refine ⟨F, δ, Rl, ?_⟩
    cases e1 : dVals [f] δ with
    | stuck => rw [e1] at q; exact q.elim
    | err x δ1 => rw [e1] at q; exact q
    | ok ds δ1 =>
      rw [e1] at q
      simp only [Res.bind] at q
      intro vs H1 F1 R1 s1 ra
      cases e2 : rng2 ds with
      | none => rw [e2] at q; exact q.elim
      | some p =>
        obtain ⟨lo, m⟩ := p
        rw [e2] at q
        obtain ⟨j, rfl, h1, h2, rfl, rfl⟩ := rng2_one e2 (dVals_len e1)
        exact ⟨j, repInts1 ra, h1, h2, q _ H1 F1 R1 s1 its_rng⟩
theorem ItS.turn {J : It} {ds : List D} {F1 H' : Hp} {i : Nat} {x : V} {d : D} (T : ItS X.K F1 J ds) (R : Rel X.K Z ow F H σ δ) (s : Same F1 F) (y : J.yld i H x H') (e : ds[i]? = some d) : ∃ F', Same F F' ∧ Rel X.K Z ow F' H' σ δ ∧ Rep X.K F' d x := by
  rcases T.yld i H x H' d (s.trans' R.sub) y e with ⟨rfl, r⟩ | ⟨p, o, hp, rfl, r⟩
  · exact ⟨F, Same.refl _, R, s.rep _ _ r⟩
  · have fp := R.fnone hp
    exact ⟨upd F p o, same_new fp o, R.laid hp, r F s fp⟩
noncomputable def dForI (set : D → DS → Option DS) (f : M (List D)) (u : M Fl) : M Fl := fun δ => (f δ).bind fun ds δ1 => dLoop set u ds δ1
theorem ds_forI {f : M (List D)} (hp : PassesOwn (model X.prog X.w) X.A X.env X.xe) (hc : X.calm = true) (hi : DI X Z ow tg e f) (hg : PG X tg g) (hs : TgS X Z ow g set) (hb : DSs X Z ow ow ow ox rm sts u)
    (hf : ∀ x, foldedSetIterable e X.env x = pure x := by intro _; rfl) : DS1 X Z ow ow ol ox rm (.For tg e sts [] pos) (dForI set f u) := PS.mono (ps_for hp hc hi hg hb hf) fun Dn σ H h => by
  obtain ⟨F, δ, R, h⟩ := h
  unfold dForI at h
  refine ⟨F, δ, R, ?_⟩
  cases e1 : f δ with
  | stuck => rw [e1] at h; exact h.elim
  | err x δ1 => rw [e1] at h; exact XOk.cast h
  | ok ds δ1 =>
    rw [e1] at h
    simp only [Res.bind] at h
    intro J H1 F1 R1 s1 T
    refine ⟨fun i m σ H => m = ds.length - i ∧ i ≤ ds.length ∧ ∃ F2 δ, Rel X.K Z ow F2 H σ δ ∧ Same F1 F2 ∧ kS X Z ow ol ox rm (dLoop set u (ds.drop i) δ) F2 Dn, ⟨ds.length, rfl, Nat.zero_le _, F1, δ1, R1, Same.refl _, h.mono s1⟩, ?_⟩
    rintro i m σ2 H2 ⟨rfl, hi, F2, δ2, R2, s2, k2⟩
    by_cases hlt : i < ds.length
    · refine .inr ⟨T.go i H2 (s2.trans' R2.sub) hlt, fun σ' H' => ∃ F3 δ, Rel X.K Z ow F3 H' σ' δ ∧ Same F1 F3 ∧ kS X Z ow ol ox rm (dLoop set u (ds.drop (i + 1)) δ) F3 Dn, fun σ' H' q => ⟨ds.length - (i + 1), by omega, rfl, hlt, q⟩, fun x H' y => ?_⟩
      have ed := List.getElem?_eq_getElem hlt
      obtain ⟨F3, s3, R3, r3⟩ := T.turn R2 s2 y ed
      exact loop_at (Pv := fun j σ' H' => ∃ F3 δ, Rel X.K Z ow F3 H' σ' δ ∧ Same F1 F3 ∧ kS X Z ow ol ox rm (dLoop set u (ds.drop j) δ) F3 Dn) hs R3 (s2.trans' s3) (k2.mono s3) ed r3 fun k σ H F δ q1 q2 q3 => ⟨F, δ, q1, q2, q3⟩
    · have e : i = ds.length := by omega
      subst e
      rw [List.drop_length] at k2
      exact .inl ⟨T.stop H2 (s2.trans' R2.sub), k2 σ2 H2 F2 R2 (Same.refl _)⟩
noncomputable def shG (k : Nat) (g : Addr → Option Lab) : Addr → Option Lab := fun a => match g a with
  | some (i, p) => if i = 1000 then none else some (i + k, p)
  | none => none
theorem shG_of {k : Nat} {g : Addr → Option Lab} {a : Addr} {i : Nat} {p : List Nat} (h : shG k g a = some (i, p)) : ∃ j, g a = some (j, p) ∧ i = j + k ∧ j ≠ 1000 := by
  unfold shG at h
  cases e : g a with
  | none => rw [e] at h; cases h
  | some l =>
    obtain ⟨j, q⟩ := l
    rw [e] at h
    dsimp only at h
    split at h
    · cases h
    · rename_i hj; cases h; exact ⟨j, rfl, rfl, hj⟩
theorem shG_in {k : Nat} {g : Addr → Option Lab} {a : Addr} {j : Nat} {p : List Nat} (h : g a = some (j, p)) (hj : j ≠ 1000) : shG k g a = some (j + k, p) := by
  unfold shG; rw [h]; exact if_neg hj
noncomputable def Ent.sh (Z : Ent) (k : Nat) : Ent := ⟨Z.F0, Z.H0, shG k Z.g0, Z.ps.map (· + k), List.replicate k none ++ Z.σ0, List.replicate k 0 ++ Z.owp, fun a i q h => by
  obtain ⟨j, e1, e2, _⟩ := shG_of h
  rw [e2]
  exact List.mem_map.mpr ⟨j, Z.wf a j q e1, rfl⟩⟩
theorem getD_sh {k i : Nat} : (List.replicate k 0 ++ ow).getD (i + k) 0 = ow.getD i 0 := by
  rw [List.getD_eq_getElem?_getD, List.getD_eq_getElem?_getD, List.getElem?_append_right (by simp), List.length_replicate, Nat.add_sub_cancel]
theorem Small.lt {i : Nat} (S : Small Z ow) (h : ow.getD i 0 ≠ 0) : i < 1000 := by
  by_cases hl : i < ow.length
  · exact Nat.lt_of_lt_of_le hl S.ow
  · exact absurd (by rw [List.getD_eq_getElem?_getD, List.getElem?_eq_none (by omega)]; rfl) h
theorem OwnR.sh {k i : Nat} {g : Addr → Option Lab} {n : Nat} {p : List Nat} {d : D} {v : V} (hi : n = 0 ∨ i ≠ 1000) (h : OwnR K F H g i n p d v) : OwnR K F H (shG k g) (i + k) n p d v := by
  rcases hi with rfl | hi
  · exact h
  · exact h.relab fun a p e => shG_in e hi
theorem Rel.sh {k : Nat} (S : Small Z ow) (R : Rel K Z ow F H σ δ) : Rel K (Z.sh k) (List.replicate k 0 ++ ow) F H (List.replicate k none ++ σ) (List.replicate k none ++ δ) := by
  obtain ⟨g, R⟩ := R
  refine ⟨shG k g, R.sub, R.f0, fun b o n e => R.kept b o ?_ e, R.new, R.there, fun a i p e => ?_, by simp [R.len], fun i hi => ?_, fun i d e => ?_⟩
  · cases e1 : Z.g0 b with
    | none => rfl
    | some l =>
      obtain ⟨j, q⟩ := l
      have n : shG k Z.g0 b = none := n
      rw [shG_in e1 fun z => S.ps (by rw [← z]; exact Z.wf b j q e1)] at n
      cases n
  · obtain ⟨j, e1, e2, e3⟩ := shG_of e
    rcases R.lab a j p e1 with z | ⟨q, z⟩
    · exact .inl z
    · exact .inr ⟨q, by rw [e2]; exact shG_in z e3⟩
  · obtain ⟨j, hj, rfl⟩ := List.mem_map.mp (show i ∈ Z.ps.map (· + k) from hi)
    obtain ⟨p1, p2⟩ := R.par j hj
    refine ⟨?_, ?_⟩
    · show (List.replicate k none ++ σ)[j + k]? = (List.replicate k none ++ Z.σ0)[j + k]?
      rw [List.getElem?_append_right (by simp), List.getElem?_append_right (by simp), List.length_replicate, Nat.add_sub_cancel]
      exact p1
    · show (List.replicate k 0 ++ ow).getD (j + k) 0 = (List.replicate k 0 ++ Z.owp).getD (j + k) 0
      rw [getD_sh, getD_sh]; exact p2
  · by_cases hi : i < k
    · rw [List.getElem?_append_left (by simpa using hi), List.getElem?_replicate] at e
      split at e <;> cases e
    · rw [List.getElem?_append_right (by simp; omega), List.length_replicate] at e
      obtain ⟨v, e1, o⟩ := R.slot _ d e
      obtain ⟨j, rfl⟩ : ∃ j, i = j + k := ⟨i - k, by omega⟩
      rw [Nat.add_sub_cancel] at e1 o
      refine ⟨v, by rw [List.getElem?_append_right (by simp), List.length_replicate, Nat.add_sub_cancel]; exact e1, ?_⟩
      rw [getD_sh]
      refine o.sh ?_
      by_cases hz : ow.getD j 0 = 0
      · exact .inl hz
      · exact .inr (Nat.ne_of_lt (S.lt hz))
theorem Small.sh {k : Nat} (S : Small Z ow) (h : k + ow.length ≤ 1000) (hp : ∀ i ∈ Z.ps, i + k ≠ 1000) : Small (Z.sh k) (List.replicate k 0 ++ ow) :=
  ⟨by simpa using h, fun z => by
    obtain ⟨j, hj, e⟩ := List.mem_map.mp (show 1000 ∈ Z.ps.map (· + k) from z)
    exact hp j hj e⟩
theorem Rel.unsh {k : Nat} {σ' : St} {δ' : DS} (S : Small Z ow) (hs : Small (Z.sh k) (List.replicate k 0 ++ ow)) (R : Rel K (Z.sh k) (List.replicate k 0 ++ ow) F H σ' δ') (hσ : ∀ i, σ'[i + k]? = σ[i]?) (hl : σ'.length = σ.length + k) (hk : k ≤ δ'.length) : Rel K Z ow F H σ (δ'.drop k) := by
  obtain ⟨g, R⟩ := R
  have un : ∀ a i p, (fun b => match g b with | some (j, q) => if j < k ∨ j - k = 1000 then none else some (j - k, q) | none => none : Addr → Option Lab) a = some (i, p) → g a = some (i + k, p) := fun a i p e => by
    dsimp only at e
    cases e1 : g a with
    | none => rw [e1] at e; cases e
    | some l =>
      obtain ⟨j, q⟩ := l
      rw [e1] at e
      dsimp only at e
      split at e
      · cases e
      · rename_i hj
        cases e
        have : j - k + k = j := by omega
        rw [this]
  have ins : ∀ a i p, i ≠ 1000 → g a = some (i + k, p) → (fun b => match g b with | some (j, q) => if j < k ∨ j - k = 1000 then none else some (j - k, q) | none => none : Addr → Option Lab) a = some (i, p) := fun a i p hi e => by
    dsimp only
    rw [e]
    dsimp only
    rw [if_neg (by omega), Nat.add_sub_cancel]
  refine ⟨fun b => match g b with | some (j, q) => if j < k ∨ j - k = 1000 then none else some (j - k, q) | none => none, R.sub, R.f0, fun b o n e => R.kept b o ?_ e, R.new, R.there, fun a i p e => ?_, ?_, fun i hi => ?_, fun i d e => ?_⟩
  · show shG k Z.g0 b = none
    unfold shG
    rw [n]
  · rcases R.lab a (i + k) p (un a i p e) with z | ⟨q, z⟩
    · exact .inl z
    · obtain ⟨j, e1, e2, _⟩ := shG_of (show shG k Z.g0 a = some (i + k, q) from z)
      have : i = j := by omega
      rw [this]
      exact .inr ⟨q, e1⟩
  · rw [List.length_drop, R.len, hl]; omega
  · obtain ⟨p1, p2⟩ := R.par (i + k) (List.mem_map.mpr ⟨i, hi, rfl⟩)
    have p1 : σ'[i + k]? = (List.replicate k none ++ Z.σ0)[i + k]? := p1
    have p2 : (List.replicate k 0 ++ ow).getD (i + k) 0 = (List.replicate k 0 ++ Z.owp).getD (i + k) 0 := p2
    rw [hσ, List.getElem?_append_right (by simp), List.length_replicate, Nat.add_sub_cancel] at p1
    rw [getD_sh, getD_sh] at p2
    exact ⟨p1, p2⟩
  · rw [List.getElem?_drop, Nat.add_comm] at e
    obtain ⟨v, e1, o⟩ := R.slot _ d e
    rw [hσ] at e1
    rw [getD_sh] at o
    refine ⟨v, e1, ?_⟩
    by_cases hz : ow.getD i 0 = 0
    · rw [hz] at o ⊢; exact o
    · exact o.relab fun a p e => ins a i p (Nat.ne_of_lt (S.lt hz)) e
noncomputable def TgC (X : Cx) (Z : Ent) (ow : List Nat) (k : Nat) (g : TG) (set : D → DS → Option DS) : Prop := ∀ (F H : Hp) (σ : St) (δ δ' : DS) (d : D) (v : V) (Q : St → Hp → Prop), Rel X.K Z ow F H σ δ → Rep X.K F d v → set d δ = some δ' → (∀ σ', Rel X.K Z ow F H σ' δ' → σ'.length = σ.length → δ'.length = δ.length → (∀ i, σ'[i + k]? = σ[i + k]?) → Q σ' H) → g v σ H Q
theorem tgc_name {k i : Nat} (S : Small Z ow) (hk : i < k) (hps : i ∉ Z.ps) (hl : i < ow.length) (h0 : ow.getD i 0 = 0) : TgC X Z ow k (gName i) (setN i) := fun F H σ δ δ' d v Q R r e q => by
  unfold setN at e
  split at e
  · rename_i hi
    cases e
    have := (R.x r).store S hi hps hl
    rw [set0 h0] at this
    exact q _ this (by simp) (by simp) fun j => List.getElem?_set_ne (by omega)
  · cases e
noncomputable def dCompL (set : D → DS → Option DS) (t : M Bool) (e : M D) : List D → List D → DS → Res (List D)
  | [], acc, δ => .ok acc δ
  | d :: ds, acc, δ => match set d δ with
    | none => .stuck
    | some δ1 => (t δ1).bind fun b δ2 => if b = true then (e δ2).bind fun y δ3 => (if acc.length < sizeLine then dCompL set t e ds (acc ++ [y]) δ3 else .stuck) else (if acc.length < sizeLine then dCompL set t e ds acc δ2 else .stuck)
noncomputable def dComp (k : Nat) (set : D → DS → Option DS) (f : M (List D)) (t : M Bool) (e : M D) : M D := fun δ => (f δ).bind fun ds δ1 => match dCompL set t e ds [] (List.replicate k none ++ δ1) with
  | .ok acc δ2 => if k ≤ δ2.length then .ok (.list acc) (δ2.drop k) else .stuck
  | _ => .stuck
noncomputable def kD0 (X : Cx) (Z : Ent) (ow : List Nat) (n : Nat) (r : Res D) (F : Hp) (σ : St) (Q : VK) : Prop := match r with
  | .ok d δ => ∀ v H' F', RelX X.K Z ow n d v F' H' σ δ → Same F F' → Q v H'
  | _ => False
noncomputable def tD0 (X : Cx) (Z : Ent) (ow : List Nat) (n : Nat) (f : M D) : TE := fun σ H Q => ∃ F δ, Rel X.K Z ow F H σ δ ∧ kD0 X Z ow n (f δ) F σ Q
noncomputable def kT0 (X : Cx) (Z : Ent) (ow : List Nat) (r : Res Bool) (F : Hp) (σ : St) (Q : Bool → Hp → Prop) : Prop := match r with
  | .ok b δ => ∀ H' F', Rel X.K Z ow F' H' σ δ → Same F F' → Q b H'
  | _ => False
noncomputable def tT0 (X : Cx) (Z : Ent) (ow : List Nat) (f : M Bool) : TT := fun σ H Q => ∃ F δ, Rel X.K Z ow F H σ δ ∧ kT0 X Z ow (f δ) F σ Q
theorem tComp_of {k : Nat} {wi : TI} {fi : M (List D)} {t : M Bool} {fe : M D} {Q : VK} (S : Small Z ow) (Sk : Small (Z.sh k) (List.replicate k 0 ++ ow)) (hs : TgC X (Z.sh k) (List.replicate k 0 ++ ow) k g set)
    (q : tD X Z ow 1 (dComp k set fi t fe) σ H Q) : tComp k (tI X Z ow fi) g (tT0 X (Z.sh k) (List.replicate k 0 ++ ow) t) (tD0 X (Z.sh k) (List.replicate k 0 ++ ow) 0 fe) σ H Q := by
  obtain ⟨F, δ, R, q⟩ := q
  unfold dComp at q
  refine ⟨F, δ, R, ?_⟩
  cases e1 : fi δ with
  | stuck => rw [e1] at q; exact q.elim
  | err x δ1 => rw [e1] at q; exact q
  | ok ds δ1 =>
    rw [e1] at q
    simp only [Res.bind] at q
    intro J H1 F1 R1 s1 T
    have hcase : ∃ acc δ2, dCompL set t fe ds [] (List.replicate k none ++ δ1) = .ok acc δ2 ∧ k ≤ δ2.length ∧ kD X Z ow 1 (.ok (.list acc) (δ2.drop k)) F σ Q := by
      cases e2 : dCompL set t fe ds [] (List.replicate k none ++ δ1) with
      | stuck => rw [e2] at q; exact q.elim
      | err x δ2 => rw [e2] at q; exact q.elim
      | ok acc δ2 =>
        rw [e2] at q
        dsimp only at q
        split at q
        · rename_i hk; exact ⟨acc, δ2, rfl, hk, q⟩
        · exact q.elim
    obtain ⟨acc, δ2, e2, hk2, q⟩ := hcase
    refine ⟨fun i m ys σ' H' => m = ds.length - i ∧ i ≤ ds.length ∧ σ'.length = σ.length + k ∧ (∀ i, σ'[i + k]? = σ[i]?) ∧ ∃ F2 δ' acc', Rel X.K (Z.sh k) (List.replicate k 0 ++ ow) F2 H' σ' δ' ∧ Same F1 F2 ∧ RepAll X.K F2 acc' ys ∧ dCompL set t fe (ds.drop i) acc' δ' = .ok acc δ2,
      ⟨ds.length, rfl, Nat.zero_le _, by simp; omega, fun i => by rw [List.getElem?_append_right (by simp), List.length_replicate, Nat.add_sub_cancel], F1, _, [], R1.sh S, Same.refl _, repNil, e2⟩, ?_⟩
    rintro i m ys σ2 H2 ⟨rfl, hi, hl2, hσ2, F2, δ', acc', R2, s2, ra, e3⟩
    by_cases hlt : i < ds.length
    · have ed := List.getElem?_eq_getElem hlt
      have ee : ds.drop i = ds[i] :: ds.drop (i + 1) := List.drop_eq_getElem_cons hlt
      rw [ee] at e3
      unfold dCompL at e3
      cases e4 : set ds[i] δ' with
      | none => simp only [e4] at e3; cases e3
      | some δ3 =>
        simp only [e4] at e3
        have small : acc'.length < sizeLine := by
          cases e5 : t δ3 with
          | stuck => rw [e5] at e3; cases e3
          | err x δ4 => rw [e5] at e3; cases e3
          | ok bb δ4 =>
            rw [e5] at e3
            simp only [Res.bind] at e3
            cases bb with
            | false =>
              rw [if_neg Bool.false_ne_true] at e3
              split at e3
              · assumption
              · cases e3
            | true =>
              rw [if_pos rfl] at e3
              cases e6 : fe δ4 with
              | stuck => rw [e6] at e3; cases e3
              | err x δ5 => rw [e6] at e3; cases e3
              | ok y δ5 =>
                rw [e6] at e3
                dsimp only at e3
                split at e3
                · assumption
                · cases e3
        refine .inr ⟨T.go i H2 (s2.trans' R2.sub) hlt, by rw [← ra.len]; exact small, fun zs σ'' H'' => σ''.length = σ.length + k ∧ (∀ i, σ''[i + k]? = σ[i]?) ∧ ∃ F3 δ' acc', Rel X.K (Z.sh k) (List.replicate k 0 ++ ow) F3 H'' σ'' δ' ∧ Same F1 F3 ∧ RepAll X.K F3 acc' zs ∧ dCompL set t fe (ds.drop (i + 1)) acc' δ' = .ok acc δ2, fun zs σ'' H'' z => ⟨ds.length - (i + 1), by omega, rfl, hlt, z⟩, fun x H3 y => ?_⟩
        obtain ⟨F3, s3, R3, r3⟩ := T.turn R2 s2 y ed
        refine hs F3 H3 σ2 δ' δ3 ds[i] x _ R3 r3 e4 fun σ3 R4 l3 _ hσ3 => ⟨F3, δ3, R4, ?_⟩
        have hl3 : σ3.length = σ.length + k := by omega
        have hσ4 : ∀ i, σ3[i + k]? = σ[i]? := fun i => (hσ3 i).trans (hσ2 i)
        cases e5 : t δ3 with
        | stuck => rw [e5] at e3; cases e3
        | err x δ4 => rw [e5] at e3; cases e3
        | ok bb δ4 =>
          rw [e5] at e3
          simp only [Res.bind] at e3
          intro H5 F5 R5 s5
          cases bb with
          | false =>
            rw [if_neg Bool.false_ne_true, if_pos small] at e3
            rw [if_neg Bool.false_ne_true]
            exact ⟨hl3, hσ4, F5, δ4, acc', R5, s2.trans' (s3.trans' s5), (s3.trans' s5).repAll _ _ ra, e3⟩
          | true =>
            rw [if_pos rfl] at e3
            rw [if_pos rfl]
            refine ⟨F5, δ4, R5, ?_⟩
            cases e6 : fe δ4 with
            | stuck => rw [e6] at e3; cases e3
            | err x δ5 => rw [e6] at e3; cases e3
            | ok yd δ5 =>
              rw [e6] at e3
              dsimp only at e3
              rw [if_pos small] at e3
              intro yv H6 F6 R6 s6
              exact ⟨hl3, hσ4, F6, δ5, acc' ++ [yd], R6.rel, s2.trans' (s3.trans' (s5.trans' s6)), ((s3.trans' (s5.trans' s6)).repAll _ _ ra).app (repCons R6.rep repNil), e3⟩
    · have e : i = ds.length := by omega
      subst e
      rw [List.drop_length] at e3
      unfold dCompL at e3
      cases e3
      refine .inl ⟨T.stop H2 (s2.trans' R2.sub), fun p hp => ?_⟩
      have R7 : Rel X.K Z ow F2 H2 σ (δ2.drop k) := R2.unsh S Sk hσ2 hl2 hk2
      exact q _ _ F2 (R7.newList S hp ra) (s1.trans' s2)
theorem tD_to {X' : Cx} {f : M D} {Q : VK} (hK : X'.K = X.K) (h : tD0 X Z ow n f σ H Q) : tD X' Z ow n f σ H Q := by
  obtain ⟨F, δ, R, h⟩ := h
  refine ⟨F, δ, by rw [hK]; exact R, ?_⟩
  cases e : f δ with
  | stuck => rw [e] at h; exact h
  | err x δ1 => rw [e] at h; exact h.elim
  | ok d δ1 => rw [e] at h; exact fun v H' F' R' s => h v H' F' (by rw [← hK]; exact R') s
theorem tT_to {X' : Cx} {f : M Bool} {Q : Bool → Hp → Prop} (hK : X'.K = X.K) (h : tT0 X Z ow f σ H Q) : tT X' Z ow f σ H Q := by
  obtain ⟨F, δ, R, h⟩ := h
  refine ⟨F, δ, by rw [hK]; exact R, ?_⟩
  cases e : f δ with
  | stuck => rw [e] at h; exact h
  | err x δ1 => rw [e] at h; exact h.elim
  | ok d δ1 => rw [e] at h; exact fun H' F' R' s => h H' F' (by rw [← hK]; exact R') s
noncomputable def dTrue : M Bool := fun δ => .ok true δ
theorem dif_nil : PIf X [] (tT X Z ow dTrue) := fun pins s σ H Q I h => by
  obtain ⟨F, δ, R, h⟩ := h
  exact pif_nil pins s σ H Q I (h H F R (Same.refl _))
theorem de_lcomp {elt iter : Expr} {ifs : List Expr} {scope : Scope} {xs : List Str} {fi : M (List D)} {t : M Bool} {fe : M D} (S : Small Z ow) (Sk : Small (Z.sh xs.length) (List.replicate xs.length 0 ++ ow)) (hc : X.calm = true) (hi : DI X Z ow tg iter fi)
    (hg : ∀ C fp s H, PG (blockCx X xs scope C fp s H) tg g) (hs : TgC X (Z.sh xs.length) (List.replicate xs.length 0 ++ ow) xs.length g set) (hif : ∀ C fp s H, PIf (blockCx X xs scope C fp s H) ifs (tT (blockCx X xs scope C fp s H) (Z.sh xs.length) (List.replicate xs.length 0 ++ ow) t))
    (he : ∀ C fp s H, DE (blockCx X xs scope C fp s H) (Z.sh xs.length) (List.replicate xs.length 0 ++ ow) 0 elt fe)
    (hk : scope.kind = .function := by rfl) (hok : compOk X.N xs scope.names X.env.scope.names = true := by rfl) (hfs : ∀ x, foldedSetIterable iter X.env x = pure x := by intro _; rfl) :
    DE X Z ow 1 (.ListComp elt [⟨tg, iter, ifs, 0⟩] scope pos) (dComp xs.length set fi t fe) :=
  PE.mono (pe_lcomp (ti := tT0 X (Z.sh xs.length) (List.replicate xs.length 0 ++ ow) t) (te := tD0 X (Z.sh xs.length) (List.replicate xs.length 0 ++ ow) 0 fe) hc hi hg (fun C fp s H pins s' σ H' Q I h => hif C fp s H pins s' σ H' Q I (tT_to (X := X) (X' := blockCx X xs scope C fp s H) rfl h)) (fun C fp s H => PE.mono (he C fp s H) fun _ _ _ h => tD_to (X := X) (X' := blockCx X xs scope C fp s H) rfl h) hk hok hfs)
    fun _ _ _ q => tComp_of (wi := tI X Z ow fi) S Sk hs q
theorem ds_set_lcomp (i : Nat) {x : Str} {pos' spos : Pos} {elt iter : Expr} {ifs : List Expr} {scope : Scope} {xs : List Str} {fi : M (List D)} {t : M Bool} {fe : M D} (S : Small Z ow) (Sk : Small (Z.sh xs.length) (List.replicate xs.length 0 ++ ow)) (hc : X.calm = true) (hN : X.N.Nodup) (hi : DI X Z ow tg iter fi)
    (hg : ∀ C fp s H, PG (blockCx X xs scope C fp s H) tg g) (hs : TgC X (Z.sh xs.length) (List.replicate xs.length 0 ++ ow) xs.length g set) (hif : ∀ C fp s H, PIf (blockCx X xs scope C fp s H) ifs (tT (blockCx X xs scope C fp s H) (Z.sh xs.length) (List.replicate xs.length 0 ++ ow) t))
    (he : ∀ C fp s H, DE (blockCx X xs scope C fp s H) (Z.sh xs.length) (List.replicate xs.length 0 ++ ow) 0 elt fe) (hx : X.N[i]? = some x := by rfl) (hl : X.env.scope.names.lookup x = some .local := by rfl) (hps : Z.ps.contains i = false := by rfl) (hlo : i < ow.length := by decide)
    (hsw : swapsWith (.ListComp elt [⟨tg, iter, ifs, 0⟩] scope pos) (some (.Name x pos')) spos.line X.env = pure true := by rfl)
    (hk : scope.kind = .function := by rfl) (hok : compOk X.N xs scope.names X.env.scope.names = true := by rfl) (hfs : ∀ x, foldedSetIterable iter X.env x = pure x := by intro _; rfl) :
    DS1 X Z ow (ow.set i 1) ol ox rm (.Assign [.Name x pos'] (.ListComp elt [⟨tg, iter, ifs, 0⟩] scope pos) spos) (dSet i (dComp xs.length set fi t fe)) :=
  PS.mono (ps_set_lcomp (ti := tT0 X (Z.sh xs.length) (List.replicate xs.length 0 ++ ow) t) (te := tD0 X (Z.sh xs.length) (List.replicate xs.length 0 ++ ow) 0 fe) hc hN hx hl hi hg (fun C fp s H pins s' σ H' Q I h => hif C fp s H pins s' σ H' Q I (tT_to (X := X) (X' := blockCx X xs scope C fp s H) rfl h)) (fun C fp s H => PE.mono (he C fp s H) fun _ _ _ h => tD_to (X := X) (X' := blockCx X xs scope C fp s H) rfl h) hsw hk hok hfs)
    fun Dn σ H h => tComp_of (wi := tI X Z ow fi) S Sk hs (tSet_of S (notIn hps) hlo h)
end
end L2
namespace L2
open PySem PySem.Spec PyProof.Rows
section
variable {X : Cx} {Z : Ent} {ow ow' ol ox : List Nat} {n rm : Nat} {pos : Pos} {e a b c : Expr} {f h k : M D} {F H : Hp} {σ : St} {δ : DS} {K : PySem.W.Frag}
theorem rep1 {d : D} {vs : List V} (h : RepAll K F [d] vs) : ∃ v, vs = [v] ∧ Rep K F d v := by
  unfold RepAll at h
  obtain ⟨x, r, rfl, rx, h⟩ := h
  unfold RepAll at h
  exact ⟨x, by rw [h], rx⟩
theorem rep2 {d d' : D} {vs : List V} (h : RepAll K F [d, d'] vs) : ∃ v v', vs = [v, v'] ∧ Rep K F d v ∧ Rep K F d' v' := by
  unfold RepAll at h
  obtain ⟨x, r, rfl, rx, h⟩ := h
  obtain ⟨v', rfl, r'⟩ := rep1 h
  exact ⟨x, v', rfl, rx, r'⟩
theorem FnS.or {r r' : List V → Hp → VK → Prop} {o o' : List D → Option D} (h : FnS X r n o) (h' : FnS X r' n o') : FnS X (fun xs H Q => r xs H Q ∨ r' xs H Q) n (fun a => (o a).or (o' a)) := fun Z ow F H σ δ ds vs d Q S R ra e q => by
  dsimp only at e
  cases e1 : o ds with
  | some d' => rw [e1, Option.some_or] at e; cases e; exact .inl (h Z ow F H σ δ ds vs d Q S R ra e1 q)
  | none => rw [e1, Option.none_or] at e; exact .inr (h' Z ow F H σ δ ds vs d Q S R ra e q)
theorem fs_len : FnS X (fun xs H Q => (∃ p ys, xs = [.ref p] ∧ (SqL X.K H p ys ∨ SqT X.K H p ys) ∧ Q (.int ys.length) H) ∨ (∃ z, xs = [.str z] ∧ z.length ≤ sizeLine ∧ Q (.int z.length) H)) 0 lenD := fun Z ow F H σ δ ds vs d Q S R ra e q => by
  unfold lenD at e
  split at e
  · cases e
    obtain ⟨v, rfl, r⟩ := rep1 ra
    obtain ⟨p, xs, rfl, hp, hr⟩ := repL r
    rw [hr.len] at q
    exact .inl ⟨p, xs, rfl, .inl (R.sub.seq hp), q _ H F (R.x mkInt) (Same.refl _)⟩
  · cases e
    obtain ⟨v, rfl, r⟩ := rep1 ra
    obtain ⟨p, xs, rfl, hp, hr⟩ := repT r
    rw [hr.len] at q
    exact .inl ⟨p, xs, rfl, .inr (R.sub.seqT hp), q _ H F (R.x mkInt) (Same.refl _)⟩
  · split at e
    · rename_i hz
      cases e
      obtain ⟨v, rfl, r⟩ := rep1 ra
      obtain rfl := repStr r
      exact .inr ⟨_, rfl, hz, q _ H F (R.x mkInt) (Same.refl _)⟩
    · cases e
  · cases e
theorem de_len {p : Pos} (S : Small Z ow) (hg : Gl X "len") (hm : X.mg "len" = none) (ha : DE X Z ow 0 e f) (hs : starEach [e] X.env = (false, eval e X.env) :: starEach [] X.env := by rfl) (hpl : (backTo pos (starEach [] X.env)).any (·.1) = false := by rfl) : DE X Z ow 0 (.Call (.Name "len" p) [e] [] pos) (dFn lenD [f]) :=
  de_callB S (call_len_seq.or call_len_str) fs_len hg hm bt_len (dv_cons ha dv_nil hs) (by decide) (by decide) hs hpl
noncomputable def absD : List D → Option D
  | [.int i] => some (.int (if i < 0 then -i else i))
  | _ => none
theorem fs_abs : FnS X (fun xs H Q => ∃ i, xs = [.int i] ∧ Q (.int (if i < 0 then -i else i)) H) 0 absD := fun Z ow F H σ δ ds vs d Q S R ra e q => by
  unfold absD at e
  split at e
  · cases e
    obtain ⟨v, rfl, r⟩ := rep1 ra
    exact ⟨_, by rw [repInt r], q _ H F (R.x mkInt) (Same.refl _)⟩
  · cases e
noncomputable def min2D : List D → Option D
  | [.int i, .int j] => some (.int (if j < i then j else i))
  | _ => none
theorem fs_min2 : FnS X (fun xs H Q => ∃ i j, xs = [.int i, .int j] ∧ Q (.int (if j < i then j else i)) H) 0 min2D := fun Z ow F H σ δ ds vs d Q S R ra e q => by
  unfold min2D at e
  split at e
  · cases e
    obtain ⟨v, v', rfl, r, r'⟩ := rep2 ra
    exact ⟨_, _, by rw [repInt r, repInt r'], q _ H F (R.x mkInt) (Same.refl _)⟩
  · cases e
noncomputable def listD : List D → Option D
  | [.list ds] => some (.list ds)
  | [.tuple ds] => some (.list ds)
  | _ => none
theorem fs_list : FnS X (fun xs H Q => ∃ p ys, xs = [.ref p] ∧ (SqL X.K H p ys ∨ SqT X.K H p ys) ∧ ∀ l, H l = none → Q (.ref l) (upd H l (.lst ys))) 1 listD := fun Z ow F H σ δ ds vs d Q S R ra e q => by
  unfold listD at e
  split at e
  · cases e
    obtain ⟨v, rfl, r⟩ := rep1 ra
    obtain ⟨p, xs, rfl, hp, hr⟩ := repL r
    exact ⟨p, xs, rfl, .inl (R.sub.seq hp), fun l hl => q _ _ F (R.newList S hl hr) (Same.refl _)⟩
  · cases e
    obtain ⟨v, rfl, r⟩ := rep1 ra
    obtain ⟨p, xs, rfl, hp, hr⟩ := repT r
    exact ⟨p, xs, rfl, .inr (R.sub.seqT hp), fun l hl => q _ _ F (R.newList S hl hr) (Same.refl _)⟩
  · cases e
noncomputable def tupleD : List D → Option D
  | [.list ds] => some (.tuple ds)
  | [.tuple ds] => some (.tuple ds)
  | _ => none
theorem fs_tuple : FnS X (fun xs H Q => ∃ p ys, xs = [.ref p] ∧ ((SqL X.K H p ys ∧ ∀ l, H l = none → Q (.ref l) (upd H l (.tup ys))) ∨ (SqT X.K H p ys ∧ Q (.ref p) H))) 0 tupleD := fun Z ow F H σ δ ds vs d Q S R ra e q => by
  unfold tupleD at e
  split at e
  · cases e
    obtain ⟨v, rfl, r⟩ := rep1 ra
    obtain ⟨p, xs, rfl, hp, hr⟩ := repL r
    refine ⟨p, xs, rfl, .inl ⟨R.sub.seq hp, fun l hl => ?_⟩⟩
    have fl := R.fnone hl
    exact q _ _ (upd F l (.tup xs)) ((R.laid hl).x (rep_newTup fl hr)) (same_new fl _)
  · cases e
    obtain ⟨v, rfl, r⟩ := rep1 ra
    obtain ⟨p, xs, e', hp, hr⟩ := repT r
    subst e'
    exact ⟨p, xs, rfl, .inr ⟨R.sub.seqT hp, q _ H F (R.x r) (Same.refl _)⟩⟩
  · cases e
inductive Ty where | int | bool | str | list | tuple
noncomputable def Ty.name : Ty → String
  | .int => "int" | .bool => "bool" | .str => "str" | .list => "list" | .tuple => "tuple"
noncomputable def isiD : Ty → D → Option D
  | .int, .int _ => some (.bool true) | .int, .bool _ => some (.bool true) | .bool, .bool _ => some (.bool true) | .str, .str _ => some (.bool true) | .list, .list _ => some (.bool true) | .tuple, .tuple _ => some (.bool true)
  | _, .dict _ => none
  | _, _ => some (.bool false)
theorem call_isiD (T : Ty) : CallR X (.builtin "isinstance") (fun xs H Q => ∃ (x : V) (d : D) (b : Bool), xs = [x, .ty T.name] ∧ Rep X.K H d x ∧ isiD T d = some (.bool b) ∧ Q (.bl b) H) := by
  intro pins s σ H xs us Q I r h
  obtain ⟨x, d, b, rfl, rd, hb, q⟩ := h
  obtain ⟨u, v, rfl, rx, rc⟩ := vals2 r
  obtain rfl : v = Value.type T.name := rc
  cases d with
  | none => obtain rfl := repNon rd; cases (show u = Value.none from rx); exact PySem.W.kia_one PySem.W.kitx_none I.kIn True.intro (by cases T <;> cases hb <;> rfl) (fun z => nomatch z) fun tk => ⟨.bl b, H, I.tok tk, rfl, q⟩
  | bool y => obtain rfl := repBl rd; cases (show u = Value.bool y from rx); exact PySem.W.kia_one PySem.W.kitx_bool I.kIn True.intro (by cases T <;> cases hb <;> rfl) (fun z => nomatch z) fun tk => ⟨.bl b, H, I.tok tk, rfl, q⟩
  | int i => obtain rfl := repInt rd; obtain ⟨t, q'⟩ := (show ∃ t, u = Value.int i t from rx); cases q'; exact PySem.W.kia_one PySem.W.kitx_int I.kIn True.intro (by cases T <;> cases hb <;> rfl) (fun z => nomatch z) fun tk => ⟨.bl b, H, I.tok tk, rfl, q⟩
  | str i => obtain rfl := repStr rd; obtain ⟨t, q'⟩ := (show ∃ t, u = Value.str i t from rx); cases q'; exact PySem.W.kia_one PySem.W.kitx_str I.kIn True.intro (by cases T <;> cases hb <;> rfl) (fun z => nomatch z) fun tk => ⟨.bl b, H, I.tok tk, rfl, q⟩
  | list ds =>
    obtain ⟨a, xs, rfl, hp, _⟩ := repL rd
    cases (show u = Value.ref a from rx)
    obtain ⟨_, _, ⟨o, _, h1, h2, _⟩, _⟩ := I.list hp
    exact PySem.W.kia_one PySem.W.kitx_list I.kIn ⟨o, h1, h2⟩ (by cases T <;> cases hb <;> rfl) (fun z => nomatch z) fun tk => ⟨.bl b, H, I.tok tk, rfl, q⟩
  | tuple ds =>
    obtain ⟨a, xs, rfl, hp, _⟩ := repT rd
    cases (show u = Value.ref a from rx)
    obtain ⟨_, _, ⟨o, h1, h2, _⟩, _⟩ := I.tuple hp
    exact PySem.W.kia_one PySem.W.kitx_tuple I.kIn ⟨o, h1, h2⟩ (by cases T <;> cases hb <;> rfl) (fun z => nomatch z) fun tk => ⟨.bl b, H, I.tok tk, rfl, q⟩
  | dict _ => cases T <;> cases hb
theorem de_isi (T : Ty) {x : Str} {p p2 : Pos} (hx : x = T.name) (hg : Gl X "isinstance") (hm : X.mg "isinstance" = none) (hgt : Gl X x) (hmt : X.mg x = none) (hbt : bootBuiltins x = some (.type T.name)) (ha : DE X Z ow 0 e f) (hn : x ≠ "__name__" := by decide) (hd : (x == ("__debug__" : Str)) = false := by decide)
    (hs : starEach [e, .Name x p2] X.env = (false, eval e X.env) :: starEach [.Name x p2] X.env := by rfl) (hs2 : starEach [.Name x p2] X.env = (false, eval (.Name x p2) X.env) :: starEach [] X.env := by rfl) (hpl : (backTo pos (starEach [.Name x p2] X.env)).any (·.1) = false := by rfl) :
    DE X Z ow 0 (.Call (.Name "isinstance" p) [e, .Name x p2] [] pos) (dUn (isiD T) f) :=
  PE.mono (pe_callB (call_isiD T) hg hm bt_isinstance (pa_cons ha (pa_cons (pe_ty hgt hmt hbt hn hd) pa_nil hs2) hs) (by decide) (by decide) hs hpl) fun σ H Q q => by
    obtain ⟨F, δ, R, q⟩ := q
    unfold dUn at q
    refine ⟨F, δ, R, ?_⟩
    cases e : f δ with
    | stuck => rw [e] at q; exact q.elim
    | err x δ1 => rw [e] at q; exact q
    | ok d δ1 =>
      rw [e] at q
      simp only [Res.bind] at q
      intro v H1 F1 R1 s1
      have hb : ∀ r, isiD T d = some r → ∃ b, r = .bool b := fun r h => by
        unfold isiD at h
        split at h <;> cases h <;> exact ⟨_, rfl⟩
      cases e1 : isiD T d with
      | none => rw [e1] at q; exact q.elim
      | some r =>
        rw [e1] at q
        obtain ⟨b, rfl⟩ := hb r e1
        exact ⟨v, d, b, rfl, R1.rel.sub.rep _ _ R1.rep, e1, q _ H1 F1 (R1.rel.x mkBl) s1⟩
noncomputable def cutD (xs : List D) (lo hi : Option Int) : List D := (xs.drop (HT.sIx xs.length 0 lo)).take (HT.sIx xs.length xs.length hi - HT.sIx xs.length 0 lo)
theorem RepAll.cut {ds : List D} {vs : List V} (r : RepAll K F ds vs) (lo hi : Option Int) : RepAll K F (cutD ds lo hi) (cutV vs lo hi) := by
  unfold cutD cutV
  rw [r.len]
  exact (r.drop _).take _
noncomputable def dOpt : Option (M D) → M (Option Int)
  | none => fun δ => .ok none δ
  | some f => fun δ => (f δ).bind fun d δ1 => match d with
    | .int i => .ok (some i) δ1
    | _ => .stuck
noncomputable def kO (X : Cx) (Z : Ent) (ow : List Nat) (r : Res (Option Int)) (F : Hp) (σ : St) (Q : Option Int → Hp → Prop) : Prop := match r with
  | .ok o δ => ∀ H' F', Rel X.K Z ow F' H' σ δ → Same F F' → Q o H'
  | .err x δ => XOk X Z ow F x δ
  | .stuck => False
noncomputable def tOo (X : Cx) (Z : Ent) (ow : List Nat) (f : Option (M D)) : TO := fun σ H Q => ∃ F δ, Rel X.K Z ow F H σ δ ∧ kO X Z ow (dOpt f δ) F σ Q
noncomputable def DO (X : Cx) (Z : Ent) (ow : List Nat) (e : Option Expr) (f : Option (M D)) : Prop := PO X e (tOo X Z ow f)
theorem PO.mono {o : Option Expr} {t t' : TO} (h : PO X o t) (hm : ∀ σ H Q, t' σ H Q → t σ H Q) : PO X o t' := fun pins s σ H Q I q => h pins s σ H Q I (hm σ H Q q)
theorem do_none : DO X Z ow none none := PO.mono po_none fun σ H Q q => by
  obtain ⟨F, δ, R, q⟩ := q
  exact q H F R (Same.refl _)
theorem do_some (h : DE X Z ow 0 e f) : DO X Z ow (some e) (some f) := PO.mono (po_some h) fun σ H Q q => by
  obtain ⟨F, δ, R, q⟩ := q
  have q : kO X Z ow ((f δ).bind fun d δ1 => match d with | .int i => .ok (some i) δ1 | _ => .stuck) F σ Q := q
  refine ⟨F, δ, R, ?_⟩
  cases e : f δ with
  | stuck => rw [e] at q; exact q.elim
  | err x δ1 => rw [e] at q; exact q
  | ok d δ1 =>
    rw [e] at q
    simp only [Res.bind] at q
    intro v H1 F1 R1 s1
    cases d with
    | int i => exact ⟨i, repInt R1.rep, q H1 F1 R1.rel s1⟩
    | _ => exact q.elim
noncomputable def dSl (op : D → Option Int → Option Int → Option D) (f : M D) (lo hi : Option (M D)) : M D := fun δ => (f δ).bind fun d δ1 => (dOpt lo δ1).bind fun l δ2 => (dOpt hi δ2).bind fun u δ3 => match op d l u with
  | some r => .ok r δ3
  | none => .stuck
noncomputable def SlS (X : Cx) (r : V → Option Int → Option Int → Hp → VK → Prop) (n : Nat) (op : D → Option Int → Option Int → Option D) : Prop := ∀ (Z : Ent) (ow : List Nat) (F H : Hp) (σ : St) (δ : DS) (a : D) (x : V) (l u : Option Int) (d : D) (Q : VK), Small Z ow → Rel X.K Z ow F H σ δ → Rep X.K F a x → op a l u = some d →
  (∀ v H' F', RelX X.K Z ow n d v F' H' σ δ → Same F F' → Q v H') → r x l u H Q
theorem de_slice {r : V → Option Int → Option Int → Hp → VK → Prop} {op : D → Option Int → Option Int → Option D} {lo hi : Option Expr} {p2 : Pos} {fl fh : Option (M D)} (S : Small Z ow) (hr : SlR X r) (os : SlS X r n op) (he : DE X Z ow 0 e f) (hl : DO X Z ow lo fl) (hu : DO X Z ow hi fh) :
    DE X Z ow n (.Subscript e (.Slice lo hi none p2) pos) (dSl op f fl fh) := PE.mono (pe_slice hr he hl hu) fun σ H Q q => by
  obtain ⟨F, δ, R, q⟩ := q
  unfold dSl at q
  refine ⟨F, δ, R, ?_⟩
  cases e1 : f δ with
  | stuck => rw [e1] at q; exact q.elim
  | err x δ1 => rw [e1] at q; exact q
  | ok d δ1 =>
    rw [e1] at q
    simp only [Res.bind] at q
    intro v H1 F1 R1 s1
    refine ⟨F1, δ1, R1.rel, ?_⟩
    cases e2 : dOpt fl δ1 with
    | stuck => rw [e2] at q; exact q.elim
    | err x δ2 => rw [e2] at q; exact XOk.mono q s1
    | ok l δ2 =>
      rw [e2] at q
      dsimp only at q
      intro H2 F2 R2 s2
      refine ⟨F2, δ2, R2, ?_⟩
      cases e3 : dOpt fh δ2 with
      | stuck => rw [e3] at q; exact q.elim
      | err x δ3 => rw [e3] at q; exact XOk.mono q (s1.trans' s2)
      | ok u δ3 =>
        rw [e3] at q
        dsimp only at q
        intro H3 F3 R3 s3
        cases e4 : op d l u with
        | none => rw [e4] at q; exact q.elim
        | some r0 =>
          rw [e4] at q
          exact os Z ow F3 H3 σ δ3 d v l u r0 Q S R3 ((s2.trans' s3).rep _ _ R1.rep) e4 fun v' H' F' R' s' => q v' H' F' R' (s1.trans' (s2.trans' (s3.trans' s')))
noncomputable def cutL : D → Option Int → Option Int → Option D
  | .list ds, l, u => some (.list (cutD ds l u))
  | _, _, _ => none
theorem ss_list : SlS X (rSlL X.K) 1 cutL := fun Z ow F H σ δ a x l u d Q S R ra e q => by
  unfold cutL at e
  split at e
  · cases e
    obtain ⟨p, xs, rfl, hp, hr⟩ := repL ra
    exact ⟨p, xs, rfl, R.sub.seq hp, fun t ht => q _ _ F (R.newList S ht (hr.cut l u)) (Same.refl _)⟩
  · cases e
noncomputable def cutT : D → Option Int → Option Int → Option D
  | .tuple ds, l, u => if HT.sIx ds.length 0 l = 0 ∧ HT.sIx ds.length ds.length u = ds.length then none else some (.tuple (cutD ds l u))
  | _, _, _ => none
theorem ss_tup : SlS X (rSlT X.K) 0 cutT := fun Z ow F H σ δ a x l u d Q S R ra e q => by
  unfold cutT at e
  split at e
  · split at e
    · cases e
    · rename_i hw
      cases e
      obtain ⟨p, xs, rfl, hp, hr⟩ := repT ra
      rw [hr.len] at hw
      refine ⟨p, xs, rfl, R.sub.seqT hp, hw, fun t ht => ?_⟩
      have ft := R.fnone ht
      exact q _ _ (upd F t (.tup (cutV xs l u))) ((R.laid ht).x (rep_newTup ft (hr.cut l u))) (same_new ft _)
  · cases e
theorem mkS {Z : Ent} {ow : List Nat} (h1 : decide (ow.length ≤ 1000) = true := by rfl) (h2 : Z.ps.contains 1000 = false := by rfl) : Small Z ow := ⟨of_decide_eq_true h1, notIn h2⟩
end
end L2
namespace L2
open PySem PySem.Spec PyProof.Rows
section
variable {X : Cx} {Z : Ent} {ow ow' ol ox : List Nat} {n rm : Nat} {pos : Pos} {e tg a b c : Expr} {f h k : M D} {F H : Hp} {σ : St} {δ : DS} {K : PySem.W.Frag}
theorem de_gint {x : Str} {i : Int} (hg : Gl X x) (hm : ∃ t, X.mg x = some (.int i t)) (hd : (x == ("__debug__" : Str)) = false := by decide) : DE X Z ow 0 (.Name x pos) (dC (.int i)) := by
  obtain ⟨t, hm⟩ := hm
  exact de_const (pe_glob hg hm (v := .int i) ⟨t, rfl⟩ hd) fun F => mkInt
end
theorem law_start {K : PySem.W.Frag} {H : Hp} {a : Addr} {ns : List Int} {owp : List Nat} {f : List D → Res D} {x : Str} (hS : SqL K H a (ns.map V.int)) (hf : f [.list (ns.map .int)] = .ok (.bool true) []) (h0 : owp.getD 0 0 = 0 := by rfl) :
    SpN K [x] [] owp 0 f [.ref a] H (fun v _ => v = .bl true) (fun _ _ _ => False) := by
  refine ⟨rfl, H, fun _ => none, [.list (ns.map .int)], Same.refl _, rfl, fun a i p e => (by cases e), fun i d v e1 e2 => ?_, by rw [hf]; exact fun v H' F' g' T => repBl (F := F') (K := K) T.ret⟩
  cases i with
  | zero =>
    cases e1; cases e2
    rw [h0]
    show Rep K H _ _
    unfold Rep
    refine ⟨a, ns.map V.int, rfl, hS, ?_⟩
    clear hS hf
    induction ns with
    | nil => exact repNil
    | cons n ns ih => exact repCons mkInt ih
  | succ i => simp at e1
theorem cxe_false {P : Program} {w : World} {K : PySem.W.Frag} {outer : List Env} {H : Hp} {s s' : Shared} {e : Value} (z : CXE P w K outer H s (fun _ _ _ => False) e s') : False := by
  obtain ⟨_, _, _, _, _, _, _, _, _, _, _, _, _, q⟩ := z
  exact q
end L2
namespace L2
open PySem PySem.Spec
theorem iD_pos {C : Int → Int → Prop} {g : Int → Int → D} {i j : Int} (h : C i j) : iD C g (.int i) (.int j) = some (g i j) := by
  unfold iD
  exact if_pos h
theorem modD_pos {i j : Int} (h : 0 < j) : modD (.int i) (.int j) = some (.int (i % j)) := by
  rw [modD, iD_pos (by show j ≠ 0; omega), Int.fmod_eq_emod_of_nonneg i (by omega)]
theorem fdivD_pos {i j : Int} (h : 0 < j) (h2 : j.natAbs.log2 < 9000) : fdivD (.int i) (.int j) = some (.int (i / j)) := by
  rw [fdivD, iD_pos ⟨by omega, h2⟩, Int.fdiv_eq_ediv_of_nonneg i (by omega)]
theorem mulD_ok {i j : Int} (h : IntMulOk i j) : mulD (.int i) (.int j) = some (.int (i * j)) := by rw [mulD, iD_pos h]
theorem powD_ok {i j : Int} (h : CPow i j) : powD (.int i) (.int j) = some (.int (i ^ j.toNat)) := by rw [powD, iD_pos h]
theorem eqD_int {i j : Int} : eqD (.int i) (.int j) = some (.bool (i == j)) := rfl
theorem neD_int {i j : Int} : neD (.int i) (.int j) = some (.bool (!(i == j))) := rfl
theorem neD_bool {i j : Bool} : neD (.bool i) (.bool j) = some (.bool (!(i == j))) := rfl
theorem dSeq_ok {u v : M Fl} {δ δ1 : DS} (h : u δ = .ok .next δ1) : dSeq u v δ = v δ1 := by unfold dSeq; rw [h]; rfl
theorem dSeq_ret {u v : M Fl} {δ δ1 : DS} {d : D} (h : u δ = .ok (.ret d) δ1) : dSeq u v δ = .ok (.ret d) δ1 := by unfold dSeq; rw [h]; rfl
theorem dSet_ok {i : Nat} {f : M D} {δ δ1 : DS} {d : D} (h : f δ = .ok d δ1) (hi : i < δ1.length) : dSet i f δ = .ok .next (δ1.set i (some d)) := by unfold dSet; rw [h]; exact if_pos hi
theorem rngD_get {lo : Int} {n k : Nat} {d : D} (h : (rngD lo n)[k]? = some d) : k < n ∧ d = .int (lo + (k : Int)) := by
  have hk : k < n := by have := (List.getElem?_eq_some_iff.mp h).1; rwa [rngD_len] at this
  rw [rngD_at hk] at h
  cases h
  exact ⟨hk, rfl⟩
end L2
namespace L2
open PySem PySem.Spec
end L2
namespace L2
open PySem PySem.Spec
theorem bind_ok {α β : Type} {a : α} {δ : DS} {k : α → DS → Res β} : (Res.ok a δ).bind k = k a δ := rfl
theorem dIfS_t {c : M Bool} {u v : M Fl} {δ δ1 : DS} (h : c δ = .ok true δ1) : dIfS c u v δ = u δ1 := by unfold dIfS; rw [h, bind_ok, if_pos rfl]
theorem dIfS_f {c : M Bool} {u v : M Fl} {δ δ1 : DS} (h : c δ = .ok false δ1) : dIfS c u v δ = v δ1 := by unfold dIfS; rw [h, bind_ok, if_neg Bool.false_ne_true]
theorem dVar_ok {i : Nat} {δ : DS} {d : D} (h : δ[i]? = some (some d)) : dVar i δ = .ok d δ := by unfold dVar; rw [h]
theorem dC_ok {d : D} {δ : DS} : dC d δ = .ok d δ := rfl
end L2
namespace L2
open PySem PySem.Spec
noncomputable def endOf (N B C : DS → Prop) (R : D → DS → Prop) : Fl → DS → Prop
  | .next, δ => N δ
  | .brk, δ => B δ
  | .cont, δ => C δ
  | .ret d, δ => R d δ
structure Wt {α : Type} (a : α) : Type where
noncomputable def wpM (m : M Fl) (δ : DS) (N : DS → Prop) (B C : DS → Prop) (R : D → DS → Prop) (_w : Wt (N, B, C, R) := ⟨⟩) : Prop := match m δ with
  | .ok .next δ' => N δ'
  | .ok .brk δ' => B δ'
  | .ok .cont δ' => C δ'
  | .ok (.ret d) δ' => R d δ'
  | _ => False
noncomputable def wpV {α : Type} (f : M α) (δ : DS) (Q : α → DS → Prop) (_w : Wt Q := ⟨⟩) : Prop := match f δ with
  | .ok a δ' => Q a δ'
  | _ => False
section
variable {α : Type} {m u v : M Fl} {f g k : M D} {c c' : M Bool} {δ δ1 : DS} {N B C : DS → Prop} {R : D → DS → Prop} {Q : D → DS → Prop} {i : Nat}
theorem wpV.of {f : M α} {a : α} {Q : α → DS → Prop} (h : f δ = .ok a δ1) (q : Q a δ1) : wpV f δ Q := by unfold wpV; rw [h]; exact q
theorem wpV.ex {f : M α} {Q : α → DS → Prop} (h : wpV f δ Q) : ∃ a δ1, f δ = .ok a δ1 ∧ Q a δ1 := by
  unfold wpV at h
  cases e : f δ with
  | ok a δ1 => rw [e] at h; exact ⟨a, δ1, rfl, h⟩
  | err x δ1 => rw [e] at h; exact h.elim
  | stuck => rw [e] at h; exact h.elim
theorem wpM.of {fl : Fl} (h : m δ = .ok fl δ1) (q : endOf N B C R fl δ1) : wpM m δ N B C R := by
  unfold wpM; rw [h]; cases fl <;> exact q
theorem wpM.ex (h : wpM m δ N B C R) : ∃ fl δ1, m δ = .ok fl δ1 ∧ endOf N B C R fl δ1 := by
  unfold wpM at h
  cases e : m δ with
  | ok fl δ1 => rw [e] at h; exact ⟨fl, δ1, rfl, by cases fl <;> exact h⟩
  | err x δ1 => rw [e] at h; exact h.elim
  | stuck => rw [e] at h; exact h.elim
theorem wm_seq (h : wpM u δ (fun δ1 => wpM v δ1 N B C R) B C R) : wpM (dSeq u v) δ N B C R := by
  obtain ⟨fl, δ1, e, q⟩ := h.ex
  cases fl with
  | next =>
    obtain ⟨fl, δ2, e2, q⟩ := wpM.ex q
    exact .of ((dSeq_ok e).trans e2) q
  | brk => exact .of (fl := .brk) (by unfold dSeq; rw [e]; rfl) q
  | cont => exact .of (fl := .cont) (by unfold dSeq; rw [e]; rfl) q
  | ret d => exact .of (fl := .ret d) (dSeq_ret e) q
theorem wm_set (h : wpV f δ fun d δ1 => i < δ1.length ∧ N (δ1.set i (some d))) : wpM (dSet i f) δ N B C R := by
  obtain ⟨d, δ1, e, hi, q⟩ := h.ex
  exact .of (fl := .next) (dSet_ok e hi) q
theorem wm_if (h : wpV c δ fun b δ1 => if b = true then wpM u δ1 N B C R else wpM v δ1 N B C R) : wpM (dIfS c u v) δ N B C R := by
  obtain ⟨b, δ1, e, q⟩ := h.ex
  cases b with
  | true =>
    rw [if_pos rfl] at q
    obtain ⟨fl, δ2, e2, q⟩ := q.ex
    exact .of ((dIfS_t e).trans e2) q
  | false =>
    rw [if_neg Bool.false_ne_true] at q
    obtain ⟨fl, δ2, e2, q⟩ := q.ex
    exact .of ((dIfS_f e).trans e2) q
theorem wm_loop {set : D → DS → Option DS} (I : Nat → DS → Prop) {ds : List D} (hs : ∀ (k : Nat) (d : D) (δ : DS), ds[k]? = some d → I k δ → ∃ δ1, set d δ = some δ1 ∧ wpM u δ1 (I (k + 1)) N (I (k + 1)) R) (hN : ∀ δ, I ds.length δ → N δ) (h0 : I 0 δ) : wpM (dLoop set u ds) δ N B C R := by
  have main : ∀ (n k : Nat) (δ : DS), k + n = ds.length → I k δ → wpM (dLoop set u (ds.drop k)) δ N B C R := by
    intro n
    induction n with
    | zero =>
      intro k δ hk h
      have : k = ds.length := by omega
      subst this
      rw [List.drop_length]
      exact .of (fl := .next) rfl (hN δ h)
    | succ n ih =>
      intro k δ hk h
      have hlt : k < ds.length := by omega
      obtain ⟨δ1, e1, w⟩ := hs k ds[k] δ (List.getElem?_eq_getElem hlt) h
      obtain ⟨fl, δ2, e2, q⟩ := w.ex
      rw [List.drop_eq_getElem_cons hlt]
      cases fl with
      | next =>
        obtain ⟨fl, δ3, e3, q⟩ := (ih (k + 1) δ2 (by omega) q).ex
        exact .of (by unfold dLoop; rw [e1]; simp only [e2, bind_ok]; exact e3) q
      | cont =>
        obtain ⟨fl, δ3, e3, q⟩ := (ih (k + 1) δ2 (by omega) q).ex
        exact .of (by unfold dLoop; rw [e1]; simp only [e2, bind_ok]; exact e3) q
      | brk => exact .of (fl := .next) (by unfold dLoop; rw [e1]; simp only [e2, bind_ok]) q
      | ret d => exact .of (fl := .ret d) (by unfold dLoop; rw [e1]; simp only [e2, bind_ok]) q
  have := main ds.length 0 δ (by omega) h0
  rwa [List.drop_zero] at this
theorem wm_for {set : D → DS → Option DS} {f : M (List D)} (I : Nat → DS → Prop) {ds : List D} (hf : f δ = .ok ds δ1) (h0 : I 0 δ1) (hs : ∀ (k : Nat) (d : D) (δ : DS), ds[k]? = some d → I k δ → ∃ δ1, set d δ = some δ1 ∧ wpM u δ1 (I (k + 1)) N (I (k + 1)) R) (hN : ∀ δ, I ds.length δ → N δ) : wpM (dForI set f u) δ N B C R := by
  obtain ⟨fl, δ2, e, q⟩ := (wm_loop (B := B) (C := C) I hs hN h0).ex
  exact .of (by unfold dForI; rw [hf, bind_ok]; exact e) q
theorem wm_range {set : D → DS → Option DS} {j : Int} (I : Nat → DS → Prop) (hf : f δ = .ok (.int j) δ1) (hj : -(2 ^ 62) ≤ j) (hj2 : j < 2 ^ 62) (h0 : I 0 δ1) (hs : ∀ (k : Nat) (δ : DS), (k : Int) < j → I k δ → ∃ δ1, set (.int k) δ = some δ1 ∧ wpM u δ1 (I (k + 1)) N (I (k + 1)) R) (hN : ∀ δ, I j.toNat δ → N δ) : wpM (dForI set (dRng [f]) u) δ N B C R := by
  refine wm_for (ds := rngD 0 j.toNat) (δ1 := δ1) I ?_ h0 (fun k d δ hd hI => ?_) (fun δ h => hN δ (by rwa [rngD_len] at h))
  · simp only [dRng, dVals, hf, bind_ok, rng2]
    rw [if_pos ⟨hj, hj2⟩]
  · obtain ⟨hk, rfl⟩ := rngD_get hd
    rw [Int.zero_add]
    exact hs k δ (by omega) hI
theorem fn_of_wp {m0 : Nat} {ps : List Nat} {rm : Nat} {body : M Fl} {ds : List D} {d : D} {os : List D} (h : wpM body (ds.map some ++ List.replicate (m0 - ds.length) none) (fun _ => False) (fun _ => False) (fun _ => False) fun r δ => r = d ∧ outsOf δ ps = some os) : runFn m0 ps rm body ds = .ok d (os.map some) := by
  obtain ⟨fl, δ1, e, q⟩ := h.ex
  cases fl with
  | ret r =>
    obtain ⟨rfl, ho⟩ := q
    unfold runFn
    rw [e]
    dsimp only
    rw [ho]
  | next => exact q.elim
  | brk => exact q.elim
  | cont => exact q.elim
end
end L2
namespace L2
open PySem PySem.Spec PyProof.Rows
section
variable {X : Cx} {Z : Ent} {ow ow' ol ox : List Nat} {n rm : Nat} {pos : Pos} {e a b c tg : Expr} {f h k : M D} {F H : Hp} {σ : St} {δ : DS} {K : PySem.W.Frag} {g : TG} {set : D → DS → Option DS}
noncomputable def dAsg (set : D → DS → Option DS) (f : M D) : M Fl := fun δ => (f δ).bind fun d δ1 => match set d δ1 with
  | some δ2 => .ok .next δ2
  | none => .stuck
end
end L2
namespace L2
open PySem PySem.Spec PyProof.Rows
section
variable {X : Cx} {Z : Ent} {ow ow' ol ox : List Nat} {n rm : Nat} {pos : Pos} {e a b c tg : Expr} {f h k : M D} {F H : Hp} {σ : St} {δ : DS} {K : PySem.W.Frag}
theorem Vals.strs : ∀ {zs : List Str} {us : List Value}, Vals (zs.map V.str) us → ∃ l : List (Str × Tok), us = strValues l ∧ l.map (·.1) = zs
  | [], _, .nil => ⟨[], rfl, rfl⟩
  | z :: zs, _, .cons r rr => by
    obtain ⟨t, rfl⟩ := r
    obtain ⟨l, rfl, rfl⟩ := Vals.strs rr
    exact ⟨(z, t) :: l, rfl, rfl⟩
end
end L2
namespace L2
open PySem PySem.Spec PyProof.Rows
section
variable {K : PySem.W.Frag} {X : Cx} {Z : Ent} {ow : List Nat} {n : Nat} {pos : Pos} {as : List Arg} {F H H' : Hp} {σ : St} {δ : DS} {g : Addr → Option Lab}
noncomputable def fzA (g : Addr → Option Lab) (F H : Hp) : Hp := fun b => open Classical in if ∃ l, g b = some l then (if F b = none then H b else F b) else F b
theorem fzA_same : Same F (fzA g F H) := fun b o e => by
  unfold fzA
  split
  · rw [if_neg (by rw [e]; simp)]; exact e
  · exact e
theorem fzA_sub (hs : Same F H) : Same (fzA g F H) H := fun b o e => by
  unfold fzA at e
  split at e
  · split at e
    · exact e
    · exact hs b o e
  · exact hs b o e
theorem OwnR.freezeA {i : Nat} {n : Nat} {p : List Nat} {d : D} {v : V} (r : OwnR K F H g i n p d v) : Rep K (fzA g F H) d v :=
  OwnF.froze fzA_same (fun a p o e1 e2 e3 => by unfold fzA; rw [if_pos ⟨_, e1⟩, if_pos e3]; exact e2) r
theorem RelG.grow (R : RelG K Z ow g F H σ δ) (h : Same H H') : RelG K Z ow g F H' σ δ :=
  ⟨R.sub.trans' h, R.f0, fun b o n e => h b o (R.kept b o n e), R.new, fun b z => by
    cases e : H b with
    | none => exact absurd e (R.there b z)
    | some o => rw [h b o e]; simp, R.lab, R.len, R.par, fun i d e => by
    obtain ⟨v, e1, o⟩ := R.slot i d e
    exact ⟨v, e1, o.mono (fun _ _ z => z) (fun _ _ _ z => z) (fun _ _ _ _ z => z) fun a l ob _ _ z => h a ob z⟩⟩
noncomputable def borZ (F H : Hp) (σ : St) (m : Nat) : Ent := ⟨F, H, fun _ => none, [], σ, List.replicate m 0, fun _ _ _ e => by cases e⟩
theorem zeros_getD {m i : Nat} : (List.replicate m 0).getD i 0 = 0 := by
  rw [List.getD_eq_getElem?_getD, List.getElem?_replicate]
  split <;> rfl
theorem RelG.bor {m : Nat} (R : RelG K Z ow g F H σ δ) : Rel K (borZ (fzA g F H) H σ m) (List.replicate m 0) (fzA g F H) H σ δ :=
  ⟨fun _ => none, fzA_sub R.sub, fun _ _ z => z, fun _ _ _ e => e, fun _ h _ => h, fun _ h => h, fun _ _ _ e => (by cases e), R.len, fun i hi => (by cases hi), fun i d e => by
    obtain ⟨v, e1, o⟩ := R.slot i d e
    refine ⟨v, e1, ?_⟩
    rw [zeros_getD]
    exact o.freezeA⟩
noncomputable def dBorT (f : M Bool) : M Bool := fun δ => match f δ with
  | .ok b _ => .ok b δ
  | _ => .stuck
theorem dt_bor {e : Expr} {f : M Bool} (m : Nat) (h : ∀ F H σ, DT X (borZ F H σ m) (List.replicate m 0) e f) : DT X Z ow e (dBorT f) := fun pins s σ H Q I q => by
  obtain ⟨F, δ, ⟨g, R⟩, q⟩ := q
  unfold dBorT at q
  refine h (fzA g F H) H σ pins s σ H Q I ⟨fzA g F H, δ, R.bor, ?_⟩
  cases e1 : f δ with
  | stuck => rw [e1] at q; exact q.elim
  | err x δ1 => rw [e1] at q; exact q.elim
  | ok d δ1 =>
    rw [e1] at q
    rintro H' F' ⟨g', R'⟩ s'
    exact q H' F ⟨g, R.grow fun b o e => R'.kept b o rfl e⟩ fun _ _ z => z
end
end L2
namespace L2
open PySem PySem.Spec PyProof.Rows
section
variable {X : Cx} {pins : List (Addr × Obj)} {σ : St} {H : Hp} {s : Shared} {h' : Heap}
theorem Inv.turns {t' : Nat} {ch : List Addr} (I : Inv X pins σ H s) (k : ∀ b o, b ∉ ch → s.heap.get? b = some o → h'.get? b = some o) (hc : ∀ b ∈ ch, FpOk X pins H b) :
    Inv X pins σ H { s with heap := h', toks := t' } := by
  have off : ∀ b u, H b = some u → b ∉ ch := fun b u e z => by have := (hc b z).1; rw [this] at e; cases e
  refine I.step (g' := s.gens) (d' := s.drawn) (ch := ch) (fun b hb => ⟨(hc b hb).2.2.2.1, (hc b hb).2.1, (hc b hb).2.2.2.2.1, (hc b hb).2.2.2.2.2⟩) (fun b o _ _ n e _ => k b o n e) (fun b o _ _ n e _ => ⟨o.slots, k b o n e⟩)
    (fun b o n e z => z) (fun b o n e => ⟨o, k b o n e⟩) (fun b ys e => e) (fun b o u e => e) (fun b ps e => ⟨#[], by rw [e]; simp⟩) (fun m hm => ?_) (fun b u e => ?_) I.bare
  · obtain ⟨o, es, ep, ho, q⟩ := hm
    exact ⟨o, es, ep, k _ o (fun z => (hc _ z).2.1 rfl) ho, q⟩
  · refine (I.hok b u e).stay (fun c v z q => k c v ?_ q) (fun c q => q) fun c ys q => q
    rcases z with rfl | z
    · exact off _ u e
    · exact off c _ z
theorem Inv.pair {t' : Nat} {ch : List Addr} {T : Addr} {xs : List V} {us : List Value} (I : Inv X pins σ H s) (k : ∀ b o, b ∉ ch → s.heap.get? b = some o → h'.get? b = some o) (hc : ∀ b ∈ ch, FpOk X pins H b) (hT : s.heap.objs.size ≤ T) (hz : xs.length ≤ sizeLine) (r : Vals xs us) (ht : IsTup h' T us.toArray) :
    Inv X pins σ (upd H T (.tup xs)) { s with heap := h', toks := t' } := by
  have fT : H T = none := I.hok.fresh hT
  have off : ∀ b u, H b = some u → b ∉ ch := fun b u e z => by have := (hc b z).1; rw [this] at e; cases e
  have neT : ∀ b u, H b = some u → b ≠ T := fun b u e => ne_of_none e fT
  refine I.step (g' := s.gens) (d' := s.drawn) (ch := ch) (fun b hb => ⟨(hc b hb).2.2.2.1, (hc b hb).2.1, (hc b hb).2.2.2.2.1, (hc b hb).2.2.2.2.2⟩) (fun b o _ _ n e _ => k b o n e) (fun b o _ _ n e _ => ⟨o.slots, k b o n e⟩)
    (fun b o n e z => ?_) (fun b o n e => ⟨o, k b o n e⟩) (fun b ys e => ?_) (fun b o u e => ?_) (fun b ps e => ⟨#[], ?_⟩) (fun m hm => ?_) (fun b u e => ?_) I.bare
  · rw [upd_ne (Nat.ne_of_lt (Nat.lt_of_lt_of_le (Heap.lt_size e) hT))]; exact z
  · rw [upd_ne (neT b _ e)]; exact e
  · rw [upd_ne (neT b _ e)]; exact e
  · rw [upd_ne (neT b _ e), e]; simp
  · obtain ⟨o, es, ep, ho, q⟩ := hm
    exact ⟨o, es, ep, k _ o (fun z => (hc _ z).2.1 rfl) ho, q⟩
  · by_cases hb : b = T
    · subst hb; rw [upd_same] at e; cases e; exact ⟨hz, us, r, ht⟩
    · rw [upd_ne hb] at e
      refine (I.hok b u e).stay (fun c v z q => k c v ?_ q) (fun c q => by rw [upd_ne (neT c _ q)]; exact q) fun c ys q => by rw [upd_ne (neT c _ q)]; exact q
      rcases z with rfl | z
      · exact off _ u e
      · exact off c _ z
end
noncomputable def Itz (K : PySem.W.Frag) (a b : Addr) : It :=
  ⟨fun i H => ∃ xs ys x y, SqL K H a xs ∧ SqL K H b ys ∧ xs[i]? = some x ∧ ys[i]? = some y,
   fun i H v H' => ∃ p x y, H p = none ∧ H' = upd H p (.tup [x, y]) ∧ v = .ref p ∧ (∀ xs, SqL K H a xs → xs[i]? = some x) ∧ ∀ ys, SqL K H b ys → ys[i]? = some y,
   fun i H => ∃ xs ys, SqL K H a xs ∧ SqL K H b ys ∧ (xs.length ≤ i ∨ ys.length ≤ i)⟩
structure ZipAt (z p q i1 i2 a b : Addr) (i : Nat) (h : Heap) : Prop where
  z0 : IsZip h z p q .none
  p0 : IsPair h p (.ref i1) (.ref i2)
  q0 : ∃ u v, IsPair h q u v
  a0 : h.IsListIter i1 a i
  b0 : h.IsListIter i2 b i
theorem turn_zip {P : Program} {w : World} {K : PySem.W.Frag} {es : List Expr} {n : Nat} {tp : Pos} (z p q i1 i2 a b : Addr) (D : ZipApart z p q i1 i2 a b) : Turn P w K (.Tuple es n tp) (Itz K a b) [z, p, q, i1, i2] z (ZipAt z p q i1 i2 a b) where
  mem := by simp
  obj := fun i h st c hc => by
    simp only [List.mem_cons, List.not_mem_nil, or_false] at hc
    rcases hc with rfl | rfl | rfl | rfl | rfl
    · exact ⟨_, st.z0, fun v e => by cases e⟩
    · exact ⟨_, st.p0, fun v e => by cases e⟩
    · obtain ⟨u, v, e⟩ := st.q0
      exact ⟨_, e, fun v e => by cases e⟩
    · obtain ⟨o, e, _, d⟩ := st.a0
      exact ⟨o, e, fun v x => by rw [d] at x; cases x⟩
    · obtain ⟨o, e, _, d⟩ := st.b0
      exact ⟨o, e, fun v x => by rw [d] at x; cases x⟩
  keep := fun i h h' st k => ⟨k z (by simp) _ st.z0, k p (by simp) _ st.p0, by
    obtain ⟨u, v, e⟩ := st.q0
    exact ⟨u, v, k q (by simp) _ e⟩, st.a0.at fun o e => k i1 (by simp) o e, st.b0.at fun o e => k i2 (by simp) o e⟩
  item := by
    intro X hP hw hK hc i pins s σ H E I hf st hg
    subst hP hw hK
    obtain ⟨xs, ys, x, y, hx, hy, ex, ey⟩ := hg
    obtain ⟨ia, ra, pa, _⟩ := I.list hx
    obtain ⟨ib, rb, pb, _⟩ := I.list hy
    obtain ⟨u, hu, ru⟩ := ra.get ex
    obtain ⟨v, hv, rv⟩ := rb.get ey
    obtain ⟨c1, c2, hq⟩ := st.q0
    refine wpAny_pyNext_zip_item D st.z0 st.p0 hq st.a0 st.b0 pa.isList pb.isList (x := u) (y := v) (by simpa using hu) (by simpa using hv) fun h1 e1 e2 e3 e4 e5 e6 k1 => ⟨_, rfl, ?_⟩
    refine wpAny_letOwnedTupleGo_zip (s := { s with heap := h1 }) e1 fun h2 f1 f2 => ?_
    have hT : s.heap.objs.size ≠ z := Nat.ne_of_gt (Heap.lt_size st.z0)
    have tup : IsTup h2 s.heap.objs.size #[u, v] := ⟨_, f2.extBut _ _ hT e5, rfl, _, rfl⟩
    have kk : ∀ c o, c ∉ [z, q, i1, i2] → s.heap.get? c = some o → h2.get? c = some o := fun c o n e => by
      simp only [List.mem_cons, List.not_mem_nil, or_false, not_or] at n
      exact f2.extBut _ _ n.1 (k1 c o n.1 n.2.1 n.2.2.1 n.2.2.2 e)
    have fp : ∀ c ∈ [z, q, i1, i2], FpOk X pins H c := fun c hc => hf c (by
      simp only [List.mem_cons, List.not_mem_nil, or_false] at hc ⊢
      rcases hc with h | h | h | h <;> simp [h])
    have I2 : Inv X pins σ (upd H s.heap.objs.size (.tup [x, y])) { s with heap := h2, toks := s.toks } := I.pair (us := [u, v]) kk fp (Nat.le_refl _) (show 2 ≤ sizeLine by decide) (.cons ru (.cons rv .nil)) tup
    refine ⟨.ref s.heap.objs.size, _, I2, rfl, ⟨_, x, y, I.hok.fresh (Nat.le_refl _), rfl, rfl, fun xs' h => by rw [I.list_inj h hx]; exact ex, fun ys' h => by rw [I.list_inj h hy]; exact ey⟩, ⟨f1, f2.extBut _ _ D.TIz (k1 _ _ D.TIz D.TITO D.TIi1 D.TIi2 st.p0), ⟨_, _, f2.extBut _ _ D.TOz e2⟩, e3.extBut f2.extBut D.i1z, e4.extBut f2.extBut D.i2z⟩, fun c hc => ?_⟩
    rw [upd_ne]
    · exact (hf c hc).1
    · intro z0
      simp only [List.mem_cons, List.not_mem_nil, or_false] at hc
      have lt : ∀ {c o}, s.heap.get? c = some o → c ≠ s.heap.objs.size := fun e => Nat.ne_of_lt (Heap.lt_size e)
      obtain ⟨o1, g1, _⟩ := st.a0
      obtain ⟨o2, g2, _⟩ := st.b0
      rcases hc with rfl | rfl | rfl | rfl | rfl
      · exact lt st.z0 z0
      · exact lt st.p0 z0
      · exact lt hq z0
      · exact lt g1 z0
      · exact lt g2 z0
  done := by
    intro X hP hw hK hc i pins s σ H E I hf st hg
    subst hP hw hK
    obtain ⟨xs, ys, hx, hy, hl⟩ := hg
    obtain ⟨ia, ra, pa, _⟩ := I.list hx
    obtain ⟨ib, rb, pb, _⟩ := I.list hy
    obtain ⟨c1, c2, hq⟩ := st.q0
    have la := ra.length
    have lb := rb.length
    refine wpAny_pyNext_zip_end (I.ok.hd hc) D st.z0 st.p0 hq st.a0 st.b0 pa.isList pb.isList ?_ fun h1 k1 => ⟨rfl, I.turns (t' := s.toks) (ch := [z, q, i1, i2]) (fun c o n e => ?_) fun c hc => hf c ?_⟩
    · rcases hl with h | h
      · exact .inl (Array.getElem?_eq_none (by simp; omega))
      · exact .inr (Array.getElem?_eq_none (by simp; omega))
    · simp only [List.mem_cons, List.not_mem_nil, or_false, not_or] at n
      exact k1 c o n.1 n.2.1 n.2.2.1 n.2.2.2 e
    · simp only [List.mem_cons, List.not_mem_nil, or_false] at hc ⊢
      rcases hc with h | h | h | h <;> simp [h]
  self := fun _ _ _ _ _ st h => wpAny_pyIter_zip st.z0 h
section
variable {X : Cx} {tg : Expr}
noncomputable def iZip (K : PySem.W.Frag) (ta : TA) : TI := fun σ H R => ta σ H fun vs H1 => ∃ a b, vs = [.ref a, .ref b] ∧ (∃ xs, SqL K H1 a xs) ∧ (∃ ys, SqL K H1 b ys) ∧ R (Itz K a b) H1
theorem pi_zip {a b : Expr} {ta : TA} {es : List Expr} {n : Nat} {tp p pos : Pos} (hg : Gl X "zip") (hm : X.mg "zip" = none) (ha : PA X [a, b] ta) (hs : starEach [a, b] X.env = [(false, eval a X.env), (false, eval b X.env)] := by rfl) (hs2 : starEach [b] X.env = [(false, eval b X.env)] := by rfl) :
    PI X (.Tuple es n tp) (.Call (.Name "zip" p) [a, b] [] pos) (iZip X.K ta) := by
  intro pins s σ H R I h
  refine Call_ (ld_blt I hg hm boot_zip (callWith_type1 (thn (ha pos pins s σ H _ I h) fun us s1 ⟨vs, H1, I1, r1, q1⟩ => ?_) (by rw [hs, hs2]) (by rw [hs2]; rfl)))
  obtain ⟨l, m, e, ⟨xs, hx⟩, ⟨ys, hy⟩, q⟩ := q1
  subst e
  cases r1 with
  | cons r rr =>
    cases rr with
    | cons r' rr =>
      cases rr
      cases r
      cases r'
      obtain ⟨ia, ra, pa, _⟩ := I1.list hx
      obtain ⟨ib, rb, pb, _⟩ := I1.list hy
      refine call_zip_2 pa.isList pb.isList fun h1 z1 z2 z3 z4 z5 sz kk => wpAny_pyIter_zip (s := { s1 with heap := h1 }) z1 ?_
      have la : l < s1.heap.objs.size := by obtain ⟨o, n, e, _⟩ := pa; exact Heap.lt_size e
      have lb : m < s1.heap.objs.size := by obtain ⟨o, n, e, _⟩ := pb; exact Heap.lt_size e
      have ge : ∀ c ∈ [s1.heap.objs.size + 4, s1.heap.objs.size + 2, s1.heap.objs.size + 3, s1.heap.objs.size, s1.heap.objs.size + 1], s1.heap.objs.size ≤ c := fun c hc => by
        simp only [List.mem_cons, List.not_mem_nil, or_false] at hc
        rcases hc with rfl | rfl | rfl | rfl | rfl <;> omega
      refine ⟨_, _, _, _, H1, rfl, I1.kept (t' := s1.toks) kk, turn_zip _ _ _ _ _ l m ?_, ⟨z1, z2, ⟨_, _, z3⟩, z4, z5⟩, fun c hc => I1.fpOk (ge c hc) (I1.hok.fresh (ge c hc)), q⟩
      have la : @LT.lt Nat instLTNat l s1.heap.objs.size := la
      have lb : @LT.lt Nat instLTNat m s1.heap.objs.size := lb
      constructor <;> (refine fun h => ?_; have h : @Eq Nat _ _ := h; omega)
end
noncomputable def zipD (as bs : List D) : List D := List.zipWith (fun a b => PyData.tuple [a, b]) as bs
theorem rep_two {K : PySem.W.Frag} {F : Hp} {p : Addr} {x y : V} {d e : D} (h : F p = some (.tup [x, y])) (rx : Rep K F d x) (ry : Rep K F e y) : Rep K F (.tuple [d, e]) (.ref p) := by
  unfold Rep
  refine ⟨p, _, rfl, SqT.of h, ?_⟩
  unfold RepAll
  refine ⟨_, _, rfl, rx, ?_⟩
  unfold RepAll
  refine ⟨_, _, rfl, ry, ?_⟩
  unfold RepAll
  rfl
theorem its_zip {K : PySem.W.Frag} {F : Hp} {a b : Addr} {xs ys : List V} {ds es : List D} (hx : SqL K F a xs) (hy : SqL K F b ys) (rx : RepAll K F ds xs) (ry : RepAll K F es ys) : ItS K F (Itz K a b) (zipD ds es) where
  go := fun i H s hi => by
    have hi : i < min ds.length es.length := by simpa [zipD] using hi
    have l1 := rx.len
    have l2 := ry.len
    exact ⟨xs, ys, xs[i]'(by omega), ys[i]'(by omega), s.seq hx, s.seq hy, List.getElem?_eq_getElem _, List.getElem?_eq_getElem _⟩
  yld := fun i H v H' d s y e => by
    obtain ⟨p, x, y, hp, rfl, rfl, q1, q2⟩ := y
    have hi := (List.getElem?_eq_some_iff.mp e).1
    have hi : i < min ds.length es.length := by simpa [zipD] using hi
    have e1 : ds[i]? = some ds[i] := List.getElem?_eq_getElem (by omega)
    have e2 : es[i]? = some es[i] := List.getElem?_eq_getElem (by omega)
    have ee : (zipD ds es)[i]? = some (.tuple [ds[i], es[i]]) := by unfold zipD; rw [List.getElem?_zipWith, e1, e2]
    rw [ee] at e
    cases e
    obtain ⟨x', f1, g1⟩ := rx.get e1
    obtain ⟨y', f2, g2⟩ := ry.get e2
    have := q1 xs (s.seq hx)
    rw [f1] at this; cases this
    have := q2 ys (s.seq hy)
    rw [f2] at this; cases this
    refine .inr ⟨p, _, hp, rfl, fun F2 s2 n => rep_two upd_same ?_ ?_⟩
    · exact (s2.trans' (same_new n _)).rep _ _ g1
    · exact (s2.trans' (same_new n _)).rep _ _ g2
  stop := fun H s => ⟨xs, ys, s.seq hx, s.seq hy, by
    have l1 := rx.len
    have l2 := ry.len
    simp only [zipD, List.length_zipWith]
    omega⟩
noncomputable def dZip (f g : M D) : M (List D) := fun δ => (dVals [f, g] δ).bind fun ds δ1 => match ds with
  | [.list as, .list bs] => .ok (zipD as bs) δ1
  | _ => .stuck
section
variable {X : Cx} {Z : Ent} {ow : List Nat} {a b : Expr} {f g : M D}
theorem di_zip {es : List Expr} {n : Nat} {tp p2 p3 : Pos} (hgl : Gl X "zip") (hm : X.mg "zip" = none) (ha : DE X Z ow 0 a f) (hb : DE X Z ow 0 b g) (hst : starEach [a, b] X.env = (false, eval a X.env) :: starEach [b] X.env := by rfl) (hst2 : starEach [b] X.env = (false, eval b X.env) :: starEach [] X.env := by rfl) :
    DI X Z ow (.Tuple es n tp) (.Call (.Name "zip" p2) [a, b] [] p3) (dZip f g) :=
  (pi_zip hgl hm (dv_cons ha (dv_cons hb dv_nil hst2) hst) (hst.trans (by rw [hst2]; rfl)) hst2).mono fun σ H R q => by
    obtain ⟨F, δ, Rl, q⟩ := q
    unfold dZip at q
    refine ⟨F, δ, Rl, ?_⟩
    cases e1 : dVals [f, g] δ with
    | stuck => rw [e1] at q; exact q.elim
    | err x δ1 => rw [e1] at q; exact q
    | ok ds δ1 =>
      rw [e1] at q
      simp only [Res.bind] at q
      intro vs H1 F1 R1 s1 ra
      split at q
      · rename_i as bs
        unfold RepAll at ra
        obtain ⟨x, t, rfl, rx, ra⟩ := ra
        unfold RepAll at ra
        obtain ⟨y, t, rfl, ry, ra⟩ := ra
        unfold RepAll at ra
        subst ra
        obtain ⟨l, xs, rfl, hx, rx⟩ := repL rx
        obtain ⟨m, ys, rfl, hy, ry⟩ := repL ry
        exact ⟨l, m, rfl, ⟨xs, R1.sub.seq hx⟩, ⟨ys, R1.sub.seq hy⟩, q _ H1 F1 R1 s1 (its_zip hx hy rx ry)⟩
      · exact q.elim
end
end L2
namespace L2
open PySem PySem.Spec PyProof.Rows
noncomputable def Ite (K : PySem.W.Frag) (a : Addr) : It :=
  ⟨fun i H => ∃ xs x, SqL K H a xs ∧ xs[i]? = some x,
   fun i H v H' => ∃ p x, H p = none ∧ H' = upd H p (.tup [.int i, x]) ∧ v = .ref p ∧ ∀ xs, SqL K H a xs → xs[i]? = some x,
   fun i H => ∃ xs, SqL K H a xs ∧ xs.length ≤ i⟩
structure EnumAt (e it a : Addr) (i : Nat) (h : Heap) : Prop where
  e0 : ∃ old, IsEnum h e it (i : Int) old
  a0 : h.IsListIter it a i
theorem turn_enum {P : Program} {w : World} {K : PySem.W.Frag} {es : List Expr} {n : Nat} {tp : Pos} (e it a : Addr) (hne : e ≠ it) : Turn P w K (.Tuple es n tp) (Ite K a) [e, it] e (EnumAt e it a) where
  mem := by simp
  obj := fun i h st c hc => by
    simp only [List.mem_cons, List.not_mem_nil, or_false] at hc
    rcases hc with rfl | rfl
    · obtain ⟨o, x⟩ := st.e0
      exact ⟨_, x, fun v e => by cases e⟩
    · obtain ⟨o, e, _, d⟩ := st.a0
      exact ⟨o, e, fun v x => by rw [d] at x; cases x⟩
  keep := fun i h h' st k => ⟨by
    obtain ⟨o, x⟩ := st.e0
    exact ⟨o, k e (by simp) _ x⟩, st.a0.at fun o x => k it (by simp) o x⟩
  item := by
    intro X hP hw hK hc i pins s σ H E I hf st hg
    subst hP hw hK
    obtain ⟨xs, x, hx, ex⟩ := hg
    obtain ⟨ia, ra, pa, _⟩ := I.list hx
    obtain ⟨u, hu, ru⟩ := ra.get ex
    obtain ⟨old, he⟩ := st.e0
    refine wpAny_pyNext_enum_item he st.a0 pa.isList (x := u) (by simpa using hu) hne fun h1 e1 e2 e3 e4 k1 => ⟨_, rfl, ?_⟩
    refine wpAny_letOwnedTupleGo_enum (s := { s with heap := h1, toks := s.toks + 1 }) e1 fun h2 f1 f2 => ?_
    have hT : s.heap.objs.size ≠ e := Nat.ne_of_gt (Heap.lt_size he)
    have tup : IsTup h2 s.heap.objs.size #[.int i s.toks, u] := ⟨_, f2.extBut _ _ hT e3, rfl, _, rfl⟩
    have kk : ∀ c o, c ∉ [e, it] → s.heap.get? c = some o → h2.get? c = some o := fun c o n x => by
      simp only [List.mem_cons, List.not_mem_nil, or_false, not_or] at n
      exact f2.extBut _ _ n.1 (k1 c o n.1 n.2 x)
    have I2 : Inv X pins σ (upd H s.heap.objs.size (.tup [.int i, x])) { s with heap := h2, toks := s.toks + 1 } := I.pair (us := [.int i s.toks, u]) kk hf (Nat.le_refl _) (show 2 ≤ sizeLine by decide) (.cons ⟨_, rfl⟩ (.cons ru .nil)) tup
    refine ⟨.ref s.heap.objs.size, _, I2, rfl, ⟨_, x, I.hok.fresh (Nat.le_refl _), rfl, rfl, fun xs' h => by rw [I.list_inj h hx]; exact ex⟩, ⟨⟨_, by simpa using f1⟩, e2.extBut f2.extBut hne.symm⟩, fun c hc => ?_⟩
    rw [upd_ne]
    · exact (hf c hc).1
    · intro z0
      simp only [List.mem_cons, List.not_mem_nil, or_false] at hc
      have lt : ∀ {c o}, s.heap.get? c = some o → c ≠ s.heap.objs.size := fun e => Nat.ne_of_lt (Heap.lt_size e)
      obtain ⟨o1, g1, _⟩ := st.a0
      rcases hc with rfl | rfl
      · exact lt he z0
      · exact lt g1 z0
  done := by
    intro X hP hw hK hc i pins s σ H E I hf st hg
    subst hP hw hK
    obtain ⟨xs, hx, hl⟩ := hg
    obtain ⟨ia, ra, pa, _⟩ := I.list hx
    obtain ⟨old, he⟩ := st.e0
    have la := ra.length
    refine wpAny_pyNext_enum_end (I.ok.hd hc) he st.a0 pa.isList (Array.getElem?_eq_none (by simp; omega)) fun h1 k1 => ⟨rfl, I.turns (t' := s.toks) (ch := [e, it]) (fun c o n x => ?_) hf⟩
    simp only [List.mem_cons, List.not_mem_nil, or_false, not_or] at n
    exact k1 c o n.2 x
  self := fun _ _ _ _ _ st h => by
    obtain ⟨old, he⟩ := st.e0
    exact wpAny_pyIter_enum he h
section
variable {X : Cx} {tg : Expr}
noncomputable def iEnum (K : PySem.W.Frag) (ta : TA) : TI := fun σ H R => ta σ H fun vs H1 => ∃ a, vs = [.ref a] ∧ (∃ xs, SqL K H1 a xs) ∧ R (Ite K a) H1
theorem pi_enum {a : Expr} {ta : TA} {es : List Expr} {n : Nat} {tp p pos : Pos} (hg : Gl X "enumerate") (hm : X.mg "enumerate" = none) (ha : PA X [a] ta) (hs : starEach [a] X.env = [(false, eval a X.env)] := by rfl) :
    PI X (.Tuple es n tp) (.Call (.Name "enumerate" p) [a] [] pos) (iEnum X.K ta) := by
  intro pins s σ H R I h
  refine Call_ (ld_blt I hg hm boot_enumerate (callWith_type1 (thn (ha pos pins s σ H _ I h) fun us s1 ⟨vs, H1, I1, r1, q1⟩ => ?_) hs rfl))
  obtain ⟨l, e, ⟨xs, hx⟩, q⟩ := q1
  subst e
  cases r1 with
  | cons r rr =>
    cases rr
    cases r
    obtain ⟨ia, ra, pa, _⟩ := I1.list hx
    refine call_enumerate_list pa.isList fun h1 z1 z2 sz kk => wpAny_pyIter_enum (s := { s1 with heap := h1 }) z1 ?_
    have ge : ∀ c ∈ [s1.heap.objs.size + 1, s1.heap.objs.size], s1.heap.objs.size ≤ c := fun c hc => by
      simp only [List.mem_cons, List.not_mem_nil, or_false] at hc
      rcases hc with rfl | rfl <;> omega
    exact ⟨_, _, _, _, H1, rfl, I1.kept (t' := s1.toks) kk, turn_enum _ _ l (show ¬ (s1.heap.objs.size + 1 = s1.heap.objs.size) by omega), ⟨⟨_, z1⟩, z2⟩, fun c hc => I1.fpOk (ge c hc) (I1.hok.fresh (ge c hc)), q⟩
end
noncomputable def enumD (ds : List D) : List D := ds.mapIdx fun i d => PyData.tuple [.int i, d]
theorem its_enum {K : PySem.W.Frag} {F : Hp} {a : Addr} {xs : List V} {ds : List D} (hx : SqL K F a xs) (rx : RepAll K F ds xs) : ItS K F (Ite K a) (enumD ds) where
  go := fun i H s hi => by
    have hi : i < ds.length := by simpa [enumD] using hi
    have l1 := rx.len
    exact ⟨xs, xs[i]'(by omega), s.seq hx, List.getElem?_eq_getElem _⟩
  yld := fun i H v H' d s y e => by
    obtain ⟨p, x, hp, rfl, rfl, q1⟩ := y
    have hi := (List.getElem?_eq_some_iff.mp e).1
    have hi : i < ds.length := by simpa [enumD] using hi
    have e1 : ds[i]? = some ds[i] := List.getElem?_eq_getElem hi
    have ee : (enumD ds)[i]? = some (.tuple [.int i, ds[i]]) := by unfold enumD; rw [List.getElem?_mapIdx, e1]; rfl
    rw [ee] at e
    cases e
    obtain ⟨x', f1, g1⟩ := rx.get e1
    have := q1 xs (s.seq hx)
    rw [f1] at this; cases this
    exact .inr ⟨p, _, hp, rfl, fun F2 s2 n => rep_two upd_same mkInt ((s2.trans' (same_new n _)).rep _ _ g1)⟩
  stop := fun H s => ⟨xs, s.seq hx, by
    have l1 := rx.len
    simp only [enumD, List.length_mapIdx]
    omega⟩
noncomputable def dEnum (f : M D) : M (List D) := fun δ => (dVals [f] δ).bind fun ds δ1 => match ds with
  | [.list as] => .ok (enumD as) δ1
  | _ => .stuck
section
variable {X : Cx} {Z : Ent} {ow : List Nat} {n : Nat} {pos : Pos} {a b : Expr} {f g : M D} {K : PySem.W.Frag} {F : Hp}
theorem di_enum {es : List Expr} {n : Nat} {tp p2 p3 : Pos} (hgl : Gl X "enumerate") (hm : X.mg "enumerate" = none) (ha : DE X Z ow 0 a f) (hst : starEach [a] X.env = (false, eval a X.env) :: starEach [] X.env := by rfl) :
    DI X Z ow (.Tuple es n tp) (.Call (.Name "enumerate" p2) [a] [] p3) (dEnum f) :=
  (pi_enum hgl hm (dv_cons ha dv_nil hst) hst).mono fun σ H R q => by
    obtain ⟨F, δ, Rl, q⟩ := q
    unfold dEnum at q
    refine ⟨F, δ, Rl, ?_⟩
    cases e1 : dVals [f] δ with
    | stuck => rw [e1] at q; exact q.elim
    | err x δ1 => rw [e1] at q; exact q
    | ok ds δ1 =>
      rw [e1] at q
      simp only [Res.bind] at q
      intro vs H1 F1 R1 s1 ra
      split at q
      · rename_i as
        unfold RepAll at ra
        obtain ⟨x, t, rfl, rx, ra⟩ := ra
        unfold RepAll at ra
        subst ra
        obtain ⟨l, xs, rfl, hx, rx⟩ := repL rx
        exact ⟨l, rfl, ⟨xs, R1.sub.seq hx⟩, q _ H1 F1 R1 s1 (its_enum hx rx)⟩
      · exact q.elim
end
section
variable {X : Cx} {Z : Ent} {ow : List Nat} {pos : Pos} {a b : Expr} {f g : M D}
noncomputable def manyL {α : Type} (n : Nat) (xs : List α) : List α := (List.replicate n xs).flatten
theorem Vals.many {xs : List V} {us : List Value} (r : Vals xs us) : ∀ n, Vals (manyL n xs) (manyL n us)
  | 0 => .nil
  | n + 1 => by
    have := r.append (Vals.many r n)
    simpa [manyL, List.replicate_succ] using this
theorem RepAll.many {K : PySem.W.Frag} {F : Hp} {ds : List D} {xs : List V} (r : RepAll K F ds xs) : ∀ n, RepAll K F (manyL n ds) (manyL n xs)
  | 0 => repNil
  | n + 1 => by
    have := r.app (RepAll.many r n)
    simpa [manyL, List.replicate_succ] using this
end
end L2
namespace L2
open PySem PySem.Spec PyProof.Rows
section
variable {X : Cx}
end
end L2
namespace L2
open PySem PySem.Spec PyProof.Rows
section
variable {prog : Program} {w : World} {A : Around} {E : Value → Shared → Prop} {s : Shared}
end
section
variable {prog : Program} {w : World} {A : Around} {E : Value → Shared → Prop} {s : Shared}
end
structure ZipAt2 (z p q i1 i2 a b : Addr) (i : Nat) (h : Heap) : Prop where
  z0 : IsZip h z p q .none
  p0 : IsPair h p (.ref i1) (.ref i2)
  q0 : ∃ u v, IsPair h q u v
  a0 : h.IsListIter i1 a i
  b0 : h.IsTupleIter i2 b i
section
variable {X : Cx} {tg : Expr}
end
section
variable {X : Cx} {Z : Ent} {ow : List Nat} {a b : Expr} {f g : M D}
end
end L2
namespace L2
open PySem PySem.Spec
noncomputable def opK (o : Option D) (δ : DS) (Q : D → DS → Prop) (_w : Wt Q := ⟨⟩) : Prop := ∃ r, o = some r ∧ Q r δ
noncomputable def varK (o : Option (Option D)) (δ : DS) (Q : D → DS → Prop) (_w : Wt Q := ⟨⟩) : Prop := ∃ d, o = some (some d) ∧ Q d δ
noncomputable def stp (i : Nat) (d : D) (δ : DS) (N : DS → Prop) (_w : Wt N := ⟨⟩) : Prop := i < δ.length ∧ N (δ.set i (some d))
noncomputable def boolK (d : D) (δ : DS) (Q : Bool → DS → Prop) (_w : Wt Q := ⟨⟩) : Prop := ∃ b, d = .bool b ∧ Q b δ
noncomputable def setK (o : Option DS) (N : DS → Prop) (_w : Wt N := ⟨⟩) : Prop := ∃ δ, o = some δ ∧ N δ
noncomputable def fillK (o : Option (List D)) (fn : List D → Res D) (is : List Nat) (δ : DS) (Q : D → DS → Prop) (_w : Wt Q := ⟨⟩) : Prop := ∃ ds r os, o = some ds ∧ fn ds = .ok r os ∧ Q r (putOuts is (os.filterMap id) δ)
noncomputable def resK (r : Res D) (is : List Nat) (δ : DS) (Q : D → DS → Prop) (_w : Wt Q := ⟨⟩) : Prop := ∃ d os, r = .ok d os ∧ Q d (putOuts is (os.filterMap id) δ)
noncomputable def mutK (o : Option (Option D)) (i : Nat) (op : List D → List D → Option (D × List D)) (args : List D) (δ : DS) (Q : D → DS → Prop) (_w : Wt Q := ⟨⟩) : Prop := ∃ ds ret ds', o = some (some (.list ds)) ∧ op ds args = some (ret, ds') ∧ Q ret (δ.set i (some (.list ds')))
noncomputable def mopK (o : Option (D × List D)) (i : Nat) (δ : DS) (Q : D → DS → Prop) (_w : Wt Q := ⟨⟩) : Prop := ∃ ret ds', o = some (ret, ds') ∧ Q ret (δ.set i (some (.list ds')))
noncomputable def putQ (o : Option (Option D)) (k v : D) (i : Nat) (δ : DS) (N : DS → Prop) (_w : Wt N := ⟨⟩) : Prop := ∃ ds n j, o = some (some (.list ds)) ∧ k = .int n ∧ ixN ds.length n = some j ∧ N (δ.set i (some (.list (ds.set j v))))
noncomputable def ptK (o : Option Nat) (ds : List D) (v : D) (i : Nat) (δ : DS) (N : DS → Prop) (_w : Wt N := ⟨⟩) : Prop := ∃ j, o = some j ∧ N (δ.set i (some (.list (ds.set j v))))
section
variable {m : M Fl} {α : Type} {f : M α} {δ δ' : DS} {N B C : DS → Prop} {R : D → DS → Prop} {Q : D → DS → Prop}
theorem k_op {r : D} : opK (some r) δ Q = Q r δ := by unfold opK; simp
theorem k_var {d : D} : varK (some (some d)) δ Q = Q d δ := by unfold varK; simp
theorem k_bool {b : Bool} {Q : Bool → DS → Prop} : boolK (.bool b) δ Q = Q b δ := by unfold boolK; simp
theorem k_set : setK (some δ) N = N δ := by unfold setK; simp
theorem k_fill {fn : List D → Res D} {is : List Nat} {ds : List D} : fillK (some ds) fn is δ Q = resK (fn ds) is δ Q := by unfold fillK resK; simp
theorem k_res0 {d : D} {os : DS} : resK (.ok d os) [] δ Q = Q d δ := by unfold resK; simp [putOuts]
theorem k_res1 {d e : D} {i : Nat} : resK (.ok d [some e]) [i] δ Q = Q d (δ.set i (some e)) := propext ⟨fun ⟨_, _, h, q⟩ => by cases h; exact q, fun q => ⟨_, _, rfl, q⟩⟩
theorem k_mut {i : Nat} {op : List D → List D → Option (D × List D)} {args ds : List D} : mutK (some (some (.list ds))) i op args δ Q = mopK (op ds args) i δ Q := by unfold mutK mopK; simp
theorem k_mop {i : Nat} {r : D} {ds : List D} : mopK (some (r, ds)) i δ Q = Q r (δ.set i (some (.list ds))) := propext ⟨fun ⟨_, _, h, q⟩ => by cases h; exact q, fun q => ⟨_, _, rfl, q⟩⟩
theorem k_put {ds : List D} {n : Int} {v : D} {i : Nat} : putQ (some (some (.list ds))) (.int n) v i δ N = ptK (ixN ds.length n) ds v i δ N := by unfold putQ ptK; simp
theorem k_pt {ds : List D} {j : Nat} {v : D} {i : Nat} : ptK (some j) ds v i δ N = N (δ.set i (some (.list (ds.set j v)))) := by unfold ptK; simp
theorem k_mul {i j : Int} : opK (mulD (.int i) (.int j)) δ Q = (IntMulOk i j ∧ Q (.int (i * j)) δ) := by
  refine propext ⟨fun ⟨r, h, p⟩ => ?_, fun ⟨h, p⟩ => ⟨_, mulD_ok h, p⟩⟩
  unfold mulD iD at h
  dsimp only at h
  split at h
  · rename_i hc; cases h; exact ⟨hc, p⟩
  · cases h
theorem k_app {ds : List D} {d : D} {i : Nat} : mopK (appD ds [d]) i δ Q = (ds.length < sizeLine ∧ Q .none (δ.set i (some (.list (ds ++ [d]))))) := by
  refine propext ⟨fun ⟨r, d2, h, p⟩ => ?_, fun ⟨h, p⟩ => ⟨_, _, if_pos h, p⟩⟩
  unfold appD at h
  dsimp only at h
  split at h
  · rename_i hc; cases h; exact ⟨hc, p⟩
  · cases h
theorem k_cat {a b : List D} : opK (addD (.list a) (.list b)) δ Q = (a.length + b.length ≤ sizeLine ∧ Q (.list (a ++ b)) δ) := by
  have e : addD (.list a) (.list b) = if a.length + b.length ≤ sizeLine then some (.list (a ++ b)) else none := rfl
  rw [e]
  unfold opK
  split
  · rename_i h; simp [h]
  · rename_i h; simp [h]
theorem k_stp0 {a0 : Option D} {d : D} : stp 0 d (a0 :: δ) N = N (some d :: δ) := by unfold stp; simp
theorem k_stp1 {a0 a1 : Option D} {d : D} : stp 1 d (a0 :: a1 :: δ) N = N (a0 :: some d :: δ) := by unfold stp; simp
theorem k_stp2 {a0 a1 a2 : Option D} {d : D} : stp 2 d (a0 :: a1 :: a2 :: δ) N = N (a0 :: a1 :: some d :: δ) := by unfold stp; simp
theorem k_stp3 {a0 a1 a2 a3 : Option D} {d : D} : stp 3 d (a0 :: a1 :: a2 :: a3 :: δ) N = N (a0 :: a1 :: a2 :: some d :: δ) := by unfold stp; simp
theorem k_stp4 {a0 a1 a2 a3 a4 : Option D} {d : D} : stp 4 d (a0 :: a1 :: a2 :: a3 :: a4 :: δ) N = N (a0 :: a1 :: a2 :: a3 :: some d :: δ) := by unfold stp; simp
theorem k_stp5 {a0 a1 a2 a3 a4 a5 : Option D} {d : D} : stp 5 d (a0 :: a1 :: a2 :: a3 :: a4 :: a5 :: δ) N = N (a0 :: a1 :: a2 :: a3 :: a4 :: some d :: δ) := by unfold stp; simp
theorem k_stp6 {a0 a1 a2 a3 a4 a5 a6 : Option D} {d : D} : stp 6 d (a0 :: a1 :: a2 :: a3 :: a4 :: a5 :: a6 :: δ) N = N (a0 :: a1 :: a2 :: a3 :: a4 :: a5 :: some d :: δ) := by unfold stp; simp
theorem k_stp7 {a0 a1 a2 a3 a4 a5 a6 a7 : Option D} {d : D} : stp 7 d (a0 :: a1 :: a2 :: a3 :: a4 :: a5 :: a6 :: a7 :: δ) N = N (a0 :: a1 :: a2 :: a3 :: a4 :: a5 :: a6 :: some d :: δ) := by unfold stp; simp
theorem k_stp8 {a0 a1 a2 a3 a4 a5 a6 a7 a8 : Option D} {d : D} : stp 8 d (a0 :: a1 :: a2 :: a3 :: a4 :: a5 :: a6 :: a7 :: a8 :: δ) N = N (a0 :: a1 :: a2 :: a3 :: a4 :: a5 :: a6 :: a7 :: some d :: δ) := by unfold stp; simp
theorem k_stp9 {a0 a1 a2 a3 a4 a5 a6 a7 a8 a9 : Option D} {d : D} : stp 9 d (a0 :: a1 :: a2 :: a3 :: a4 :: a5 :: a6 :: a7 :: a8 :: a9 :: δ) N = N (a0 :: a1 :: a2 :: a3 :: a4 :: a5 :: a6 :: a7 :: a8 :: some d :: δ) := by unfold stp; simp
theorem k_stp10 {a0 a1 a2 a3 a4 a5 a6 a7 a8 a9 a10 : Option D} {d : D} : stp 10 d (a0 :: a1 :: a2 :: a3 :: a4 :: a5 :: a6 :: a7 :: a8 :: a9 :: a10 :: δ) N = N (a0 :: a1 :: a2 :: a3 :: a4 :: a5 :: a6 :: a7 :: a8 :: a9 :: some d :: δ) := by unfold stp; simp
theorem k_stp11 {a0 a1 a2 a3 a4 a5 a6 a7 a8 a9 a10 a11 : Option D} {d : D} : stp 11 d (a0 :: a1 :: a2 :: a3 :: a4 :: a5 :: a6 :: a7 :: a8 :: a9 :: a10 :: a11 :: δ) N = N (a0 :: a1 :: a2 :: a3 :: a4 :: a5 :: a6 :: a7 :: a8 :: a9 :: a10 :: some d :: δ) := by unfold stp; simp
theorem k_stp12 {a0 a1 a2 a3 a4 a5 a6 a7 a8 a9 a10 a11 a12 : Option D} {d : D} : stp 12 d (a0 :: a1 :: a2 :: a3 :: a4 :: a5 :: a6 :: a7 :: a8 :: a9 :: a10 :: a11 :: a12 :: δ) N = N (a0 :: a1 :: a2 :: a3 :: a4 :: a5 :: a6 :: a7 :: a8 :: a9 :: a10 :: a11 :: some d :: δ) := by unfold stp; simp
theorem k_stp13 {a0 a1 a2 a3 a4 a5 a6 a7 a8 a9 a10 a11 a12 a13 : Option D} {d : D} : stp 13 d (a0 :: a1 :: a2 :: a3 :: a4 :: a5 :: a6 :: a7 :: a8 :: a9 :: a10 :: a11 :: a12 :: a13 :: δ) N = N (a0 :: a1 :: a2 :: a3 :: a4 :: a5 :: a6 :: a7 :: a8 :: a9 :: a10 :: a11 :: a12 :: some d :: δ) := by unfold stp; simp
theorem k_stp14 {a0 a1 a2 a3 a4 a5 a6 a7 a8 a9 a10 a11 a12 a13 a14 : Option D} {d : D} : stp 14 d (a0 :: a1 :: a2 :: a3 :: a4 :: a5 :: a6 :: a7 :: a8 :: a9 :: a10 :: a11 :: a12 :: a13 :: a14 :: δ) N = N (a0 :: a1 :: a2 :: a3 :: a4 :: a5 :: a6 :: a7 :: a8 :: a9 :: a10 :: a11 :: a12 :: a13 :: some d :: δ) := by unfold stp; simp
theorem k_stp15 {a0 a1 a2 a3 a4 a5 a6 a7 a8 a9 a10 a11 a12 a13 a14 a15 : Option D} {d : D} : stp 15 d (a0 :: a1 :: a2 :: a3 :: a4 :: a5 :: a6 :: a7 :: a8 :: a9 :: a10 :: a11 :: a12 :: a13 :: a14 :: a15 :: δ) N = N (a0 :: a1 :: a2 :: a3 :: a4 :: a5 :: a6 :: a7 :: a8 :: a9 :: a10 :: a11 :: a12 :: a13 :: a14 :: some d :: δ) := by unfold stp; simp
end
section
variable {α : Type} {u v : M Fl} {f g : M D} {c c' : M Bool} {δ : DS} {N B C : DS → Prop} {R : D → DS → Prop} {Q : D → DS → Prop} {P : D → Prop} {i : Nat}
theorem v_seq : wpM (dSeq u v) δ N B C R = wpM u δ (fun δ1 => wpM v δ1 N B C R) B C R := by
  refine propext ⟨fun h => ?_, wm_seq⟩
  unfold wpM dSeq at *
  cases e : u δ with
  | stuck => rw [e] at h; exact h
  | err x d => rw [e] at h; exact h
  | ok fl d => rw [e] at h; cases fl <;> exact h
theorem v_next : wpM dNext δ N B C R = N δ := rfl
theorem v_brk : wpM (fun δ => .ok .brk δ) δ N B C R = B δ := rfl
theorem v_cont : wpM (fun δ => .ok .cont δ) δ N B C R = C δ := rfl
theorem v_set : wpM (dSet i f) δ N B C R = wpV f δ fun d δ1 => stp i d δ1 N := by
  refine propext ⟨fun h => ?_, wm_set⟩
  unfold wpM dSet at h
  unfold wpV
  cases e : f δ with
  | stuck => rw [e] at h; exact h
  | err x d => rw [e] at h; exact h
  | ok a d =>
    rw [e] at h
    simp only [Res.bind] at h
    split at h
    · rename_i z
      split at z
      · rename_i hi; cases z; exact ⟨hi, h⟩
      · cases z
    · rename_i z; split at z <;> cases z
    · rename_i z; split at z <;> cases z
    · rename_i z; split at z <;> cases z
    · exact h.elim
theorem v_ret : wpM (dRet f) δ N B C R = wpV f δ R := by
  unfold wpM dRet wpV
  cases f δ <;> rfl
theorem v_drop : wpM (dDrop f) δ N B C R = wpV f δ fun _ δ1 => N δ1 := by
  unfold wpM dDrop wpV
  cases f δ <;> rfl
theorem v_if : wpM (dIfS c u v) δ N B C R = wpV c δ fun b δ1 => if b = true then wpM u δ1 N B C R else wpM v δ1 N B C R := by
  refine propext ⟨fun h => ?_, wm_if⟩
  unfold wpM dIfS at h
  unfold wpV
  cases e : c δ with
  | stuck => rw [e] at h; exact h
  | err x d => rw [e] at h; exact h
  | ok b d =>
    rw [e] at h
    cases b
    · exact h
    · exact h
theorem v_asg {set : D → DS → Option DS} : wpM (dAsg set f) δ N B C R = wpV f δ fun d δ1 => setK (set d δ1) N := by
  unfold wpM dAsg wpV setK
  cases f δ with
  | stuck => rfl
  | err x d => rfl
  | ok a d =>
    simp only [Res.bind]
    cases set a d <;> simp
theorem v_var : wpV (dVar i) δ Q = varK δ[i]? δ Q := by
  unfold wpV dVar varK
  cases δ[i]? with
  | none => simp
  | some o => cases o <;> simp
theorem v_c {d : D} : wpV (dC d) δ Q = Q d δ := rfl
theorem v_op {op : D → D → Option D} : wpV (dOp op f g) δ Q = wpV f δ fun a δ1 => wpV g δ1 fun b δ2 => opK (op a b) δ2 Q := by
  unfold wpV dOp opK
  cases f δ with
  | stuck => rfl
  | err x d => rfl
  | ok a d =>
    simp only [Res.bind]
    cases g d with
    | stuck => rfl
    | err x d => rfl
    | ok b d => dsimp only; cases op a b <;> simp
theorem v_un {op : D → Option D} : wpV (dUn op f) δ Q = wpV f δ fun a δ1 => opK (op a) δ1 Q := by
  unfold wpV dUn opK
  cases f δ with
  | stuck => rfl
  | err x d => rfl
  | ok a d => simp only [Res.bind]; cases op a <;> simp
theorem v_vals0 {Q : List D → DS → Prop} : wpV (dVals []) δ Q = Q [] δ := rfl
theorem v_vals {fs : List (M D)} {Q : List D → DS → Prop} : wpV (dVals (f :: fs)) δ Q = wpV f δ fun a δ1 => wpV (dVals fs) δ1 fun ds δ2 => Q (a :: ds) δ2 := by
  unfold wpV
  rw [dVals]
  dsimp only
  cases f δ with
  | stuck => rfl
  | err x d => rfl
  | ok a d =>
    simp only [Res.bind]
    cases dVals fs d <;> rfl
theorem v_fn {op : List D → Option D} {fs : List (M D)} : wpV (dFn op fs) δ Q = wpV (dVals fs) δ fun ds δ1 => opK (op ds) δ1 Q := by
  unfold wpV dFn opK
  cases dVals fs δ with
  | stuck => rfl
  | err x d => rfl
  | ok a d => simp only [Res.bind]; cases op a <;> simp
theorem v_tup {fs : List (M D)} : wpV (dTup fs) δ Q = wpV (dVals fs) δ fun ds δ1 => ds.length ≤ sizeLine ∧ Q (.tuple ds) δ1 := by
  unfold wpV dTup
  cases dVals fs δ with
  | stuck => rfl
  | err x d => rfl
  | ok a d =>
    simp only [Res.bind]
    split
    · rename_i z; split at z
      · rename_i h; cases z; simp [h]
      · cases z
    · rename_i z
      split at z
      · rename_i h
        exact absurd rfl (z _ _)
      · rename_i h; simp [h]
theorem v_lst {fs : List (M D)} : wpV (dLst fs) δ Q = wpV (dVals fs) δ fun ds δ1 => ds.length ≤ sizeLine ∧ Q (.list ds) δ1 := by
  unfold wpV dLst
  cases dVals fs δ with
  | stuck => rfl
  | err x d => rfl
  | ok a d =>
    simp only [Res.bind]
    split
    · rename_i z; split at z
      · rename_i h; cases z; simp [h]
      · cases z
    · rename_i z
      split at z
      · rename_i h
        exact absurd rfl (z _ _)
      · rename_i h; simp [h]
theorem v_b {Q : Bool → DS → Prop} : wpV (dB f) δ Q = wpV f δ fun a δ1 => boolK a δ1 Q := by
  unfold wpV dB boolK
  cases f δ with
  | stuck => rfl
  | err x d => rfl
  | ok a d => cases a <;> simp [Res.bind]
theorem v_notT {Q : Bool → DS → Prop} : wpV (dNotT c) δ Q = wpV c δ fun b δ1 => Q (!b) δ1 := by
  unfold wpV dNotT
  cases c δ <;> rfl
theorem v_notV : wpV (dNotV f) δ Q = wpV f δ fun a δ1 => boolK a δ1 fun b δ2 => Q (.bool (!b)) δ2 := by
  unfold wpV dNotV boolK
  cases f δ with
  | stuck => rfl
  | err x d => rfl
  | ok a d => cases a <;> simp [Res.bind]
theorem v_orT {Q : Bool → DS → Prop} : wpV (dOrT c c') δ Q = wpV c δ fun b δ1 => if b = true then Q true δ1 else wpV c' δ1 Q := by
  unfold wpV dOrT
  cases c δ with
  | stuck => rfl
  | err x d => rfl
  | ok b d => cases b <;> rfl
theorem v_andT {Q : Bool → DS → Prop} : wpV (dAndT c c') δ Q = wpV c δ fun b δ1 => if b = true then wpV c' δ1 Q else Q false δ1 := by
  unfold wpV dAndT
  cases c δ with
  | stuck => rfl
  | err x d => rfl
  | ok b d => cases b <;> rfl
theorem v_andV : wpV (dAndV f g) δ Q = wpV f δ fun a δ1 => boolK a δ1 fun b δ1 => if b = true then wpV g δ1 Q else Q (.bool false) δ1 := by
  unfold wpV dAndV boolK
  cases f δ with
  | stuck => rfl
  | err x d => rfl
  | ok a d =>
    cases a with
    | bool b => cases b <;> simp [Res.bind]
    | _ => simp [Res.bind]
theorem v_orV : wpV (dOrV f g) δ Q = wpV f δ fun a δ1 => boolK a δ1 fun b δ1 => if b = true then Q (.bool true) δ1 else wpV g δ1 Q := by
  unfold wpV dOrV boolK
  cases f δ with
  | stuck => rfl
  | err x d => rfl
  | ok a d =>
    cases a with
    | bool b => cases b <;> simp [Res.bind]
    | _ => simp [Res.bind]
theorem v_call {fn : List D → Res D} {as : List Arg} : wpV (dCall fn as) δ Q = wpV (dArgs as) δ fun ods δ1 => fillK (fillA δ1 as ods) fn (ownSlots as) δ1 Q := by
  unfold wpV dCall fillK
  cases dArgs as δ with
  | stuck => rfl
  | err x d => rfl
  | ok ods d =>
    simp only [Res.bind]
    cases e : fillA d as ods with
    | none => simp
    | some ds =>
      dsimp only
      cases e2 : fn ds with
      | stuck => simp [e2]
      | err x o => simp [e2]
      | ok r o =>
        dsimp only
        refine propext ⟨fun h => ⟨ds, r, o, rfl, e2, h⟩, fun ⟨ds', r', o', h1, h2, h3⟩ => ?_⟩
        cases h1
        rw [e2] at h2
        cases h2
        exact h3
theorem v_args0 {Q : List (Option D) → DS → Prop} : wpV (dArgs []) δ Q = Q [] δ := rfl
theorem v_argsV {as : List Arg} {Q : List (Option D) → DS → Prop} : wpV (dArgs (.val f :: as)) δ Q = wpV f δ fun a δ1 => wpV (dArgs as) δ1 fun ds δ2 => Q (some a :: ds) δ2 := by
  unfold wpV
  rw [dArgs]
  dsimp only
  cases f δ with
  | stuck => rfl
  | err x d => rfl
  | ok a d => simp only [Res.bind]; cases dArgs as d <;> rfl
theorem v_argsO {as : List Arg} {j : Nat} {Q : List (Option D) → DS → Prop} : wpV (dArgs (.own j :: as)) δ Q = varK δ[j]? δ fun _ δ => wpV (dArgs as) δ fun ds δ2 => Q (none :: ds) δ2 := by
  unfold wpV varK
  rw [dArgs]
  dsimp only
  cases δ[j]? with
  | none => simp
  | some o =>
    cases o with
    | none => simp
    | some d =>
      simp only [Option.some.injEq, exists_eq_left']
      cases dArgs as δ <;> rfl
theorem v_mut {op : List D → List D → Option (D × List D)} {fs : List (M D)} : wpV (dMut i op fs) δ Q = varK δ[i]? δ fun _ _ => wpV (dVals fs) δ fun args δ1 => mutK δ1[i]? i op args δ1 Q := by
  unfold wpV dMut mutK varK
  cases δ[i]? with
  | none => simp
  | some o =>
    cases o with
    | none => simp
    | some d =>
      simp only [Option.some.injEq, exists_eq_left']
      cases dVals fs δ with
      | stuck => rfl
      | err x d => rfl
      | ok args δ1 =>
        simp only [Res.bind]
        cases δ1[i]? with
        | none => simp
        | some o =>
          cases o with
          | none => simp
          | some d =>
            cases d with
            | list ds =>
              dsimp only
              cases e : op ds args with
              | none =>
                refine propext ⟨fun h => h.elim, fun ⟨ds0, r0, d0, h1, h2, h3⟩ => ?_⟩
                cases h1
                rw [e] at h2; cases h2
              | some p =>
                obtain ⟨r, d2⟩ := p
                refine propext ⟨fun h => ⟨_, _, _, rfl, e, h⟩, fun ⟨ds0, r0, d0, h1, h2, h3⟩ => ?_⟩
                cases h1
                rw [e] at h2; cases h2
                exact h3
            | _ => simp
theorem v_ixo {fk : M D} : wpV (dIxO i fk) δ Q = varK δ[i]? δ fun _ _ => wpV fk δ fun k δ1 => varK δ1[i]? δ1 fun d δ1 => opK (ixD d k) δ1 Q := by
  unfold wpV dIxO varK opK
  cases δ[i]? with
  | none => simp
  | some o =>
    cases o with
    | none => simp
    | some d =>
      simp only [Option.some.injEq, exists_eq_left']
      cases fk δ with
      | stuck => rfl
      | err x d => rfl
      | ok k δ1 =>
        simp only [Res.bind]
        cases δ1[i]? with
        | none => simp
        | some o =>
          cases o with
          | none => simp
          | some d =>
            simp only [Option.some.injEq, exists_eq_left']
            cases e : ixD d k <;> simp
theorem v_put {fk fv : M D} : wpM (dPut i fk fv) δ N B C R = wpV fv δ fun v δ1 => varK δ1[i]? δ1 fun _ δ1 => wpV fk δ1 fun k δ2 => putQ δ2[i]? k v i δ2 N := by
  unfold wpM dPut wpV varK putQ
  cases fv δ with
  | stuck => rfl
  | err x d => rfl
  | ok w δ1 =>
    simp only [Res.bind]
    cases δ1[i]? with
    | none => simp
    | some o =>
      cases o with
      | none => simp
      | some d =>
        simp only [Option.some.injEq, exists_eq_left']
        cases fk δ1 with
        | stuck => rfl
        | err x d => rfl
        | ok k δ2 =>
          dsimp only
          cases δ2[i]? with
          | none => simp
          | some o =>
            cases o with
            | none => simp
            | some d =>
              cases d with
              | list ds =>
                cases k with
                | int n =>
                  dsimp only
                  cases e : ixN ds.length n with
                  | none =>
                    refine propext ⟨fun h => h.elim, fun ⟨ds0, n0, j0, h1, h2, h3, h4⟩ => ?_⟩
                    cases h1
                    cases h2
                    rw [e] at h3; cases h3
                  | some j =>
                    refine propext ⟨fun h => ⟨_, _, _, rfl, rfl, e, h⟩, fun ⟨ds0, n0, j0, h1, h2, h3, h4⟩ => ?_⟩
                    cases h1
                    cases h2
                    rw [e] at h3; cases h3
                    exact h4
                | _ => simp
              | _ => simp
theorem v_leno : wpV (dLenO i) δ Q = varK δ[i]? δ fun d δ => opK (lenD [d]) δ Q := by
  unfold wpV dLenO varK opK
  cases δ[i]? with
  | none => simp
  | some o =>
    cases o with
    | none => simp
    | some d =>
      simp only [Option.some.injEq, exists_eq_left']
      cases e : lenD [d] <;> simp
theorem v_ifx : wpV (dIf c f g) δ Q = wpV c δ fun b δ1 => if b = true then wpV f δ1 Q else wpV g δ1 Q := by
  unfold wpV dIf
  cases c δ with
  | stuck => rfl
  | err x d => rfl
  | ok b d => cases b <;> rfl
theorem o_add {i j : Int} : addD (.int i) (.int j) = some (.int (i + j)) := rfl
theorem o_sub {i j : Int} : subD (.int i) (.int j) = some (.int (i - j)) := rfl
theorem o_neg {i : Int} : negD (.int i) = some (.int (-i)) := rfl
theorem o_lt {i j : Int} : ltD (.int i) (.int j) = some (.bool (decide (i < j))) := rfl
theorem o_le {i j : Int} : leD (.int i) (.int j) = some (.bool (decide (i ≤ j))) := rfl
theorem o_gt {i j : Int} : gtD (.int i) (.int j) = some (.bool (decide (j < i))) := rfl
theorem o_ge {i j : Int} : geD (.int i) (.int j) = some (.bool (decide (j ≤ i))) := rfl
theorem o_eq {i j : Int} : eqD (.int i) (.int j) = some (.bool (decide (i = j))) := by rw [eqD_int]; congr 2
theorem o_ne {i j : Int} : neD (.int i) (.int j) = some (.bool (decide (i ≠ j))) := by
  rw [neD_int]; congr 2; rw [Bool.eq_iff_iff]; simp
theorem o_neb {i j : Bool} : neD (.bool i) (.bool j) = some (.bool (decide (i ≠ j))) := by
  rw [neD_bool]; congr 2; cases i <;> cases j <;> rfl
theorem o_mod {i j : Int} (h : 0 < j) : modD (.int i) (.int j) = some (.int (i % j)) := modD_pos h
theorem o_fdiv {i j : Int} (h : 0 < j) (h2 : j < 4611686018427387904) : fdivD (.int i) (.int j) = some (.int (i / j)) := by
  refine fdivD_pos h ?_
  exact Fit.log2 (n := 62) (by show j.natAbs < 2 ^ 62; omega)
theorem o_abs {i : Int} : absD [.int i] = some (.int (i.natAbs : Int)) := by
  show some (PyData.int (if i < 0 then -i else i)) = _
  congr 2
  split <;> omega
theorem o_lenL {ds : List D} : lenD [.list ds] = some (.int ds.length) := rfl
theorem o_lenT {ds : List D} : lenD [.tuple ds] = some (.int ds.length) := rfl
theorem o_ixL {ds : List D} {i : Int} : ixD (.list ds) (.int i) = atI ds i := rfl
theorem o_ixT {ds : List D} {i : Int} : ixD (.tuple ds) (.int i) = atI ds i := rfl
theorem o_at0 {α : Type} {a : α} {as : List α} : atI (a :: as) 0 = some a := atI_nat (j := 0) rfl
theorem o_at1 {α : Type} {a b : α} {as : List α} : atI (a :: b :: as) 1 = some b := atI_nat (j := 1) rfl
theorem o_at2 {α : Type} {a b c : α} {as : List α} : atI (a :: b :: c :: as) 2 = some c := atI_nat (j := 2) rfl
theorem o_at3 {α : Type} {a b c d : α} {as : List α} : atI (a :: b :: c :: d :: as) 3 = some d := atI_nat (j := 3) rfl
theorem o_at4 {α : Type} {a b c d e : α} {as : List α} : atI (a :: b :: c :: d :: e :: as) 4 = some e := atI_nat (j := 4) rfl
theorem o_at5 {α : Type} {a b c d e f : α} {as : List α} : atI (a :: b :: c :: d :: e :: f :: as) 5 = some f := atI_nat (j := 5) rfl
theorem o_at6 {α : Type} {a b c d e f g : α} {as : List α} : atI (a :: b :: c :: d :: e :: f :: g :: as) 6 = some g := atI_nat (j := 6) rfl
end
end L2
namespace L2
open PySem PySem.Spec
theorem o_small {n : Nat} (h : n ≤ 1000) : (n ≤ sizeLine) = True := eq_true (Nat.le_trans h (by decide))
theorem o_bi {b : Bool} : isiD .bool (.bool b) = some (.bool true) := rfl
theorem ok_of_wp {f : M D} {δ : DS} {d : D} (h : wpV f δ fun a δ1 => a = d ∧ δ1 = δ) : f δ = .ok d δ := by
  obtain ⟨a, δ1, e, rfl, rfl⟩ := h.ex
  exact e
theorem wm_rngI {set : D → DS → Option DS} {u : M Fl} {f : M D} {δ δ1 : DS} {N B C : DS → Prop} {R : D → DS → Prop} {j : Int} (I : Nat → DS → Prop) (hf : f δ = .ok (.int j) δ1) (hj : -1000 ≤ j) (hj2 : j ≤ 1000) (h0 : I 0 δ1) (hs : ∀ (k : Nat) (δ : DS), (k : Int) < j → I k δ → ∃ δ1, set (.int k) δ = some δ1 ∧ wpM u δ1 (I (k + 1)) N (I (k + 1)) R) (hN : ∀ δ, I j.toNat δ → N δ) : wpM (dForI set (dRng [f]) u) δ N B C R :=
  wm_range I hf (by omega) (by omega) h0 hs hN
theorem wm_rng {set : D → DS → Option DS} {u : M Fl} {f : M D} {δ δ1 : DS} {N B C : DS → Prop} {R : D → DS → Prop} {j : Nat} (I : Nat → DS → Prop) (hf : f δ = .ok (.int (j : Int)) δ1) (hj : j ≤ 1000) (h0 : I 0 δ1) (hs : ∀ (k : Nat) (δ : DS), k < j → I k δ → ∃ δ1, set (.int k) δ = some δ1 ∧ wpM u δ1 (I (k + 1)) N (I (k + 1)) R) (hN : ∀ δ, I j δ → N δ) : wpM (dForI set (dRng [f]) u) δ N B C R :=
  wm_rngI I hf (by omega) (by omega) h0 (fun k δ hk => hs k δ (by omega)) fun δ h => hN δ (by rwa [Int.toNat_natCast] at h)
theorem fn_exO {m0 : Nat} {ps : List Nat} {rm : Nat} {body : M Fl} {ds : List D} {P : D → List D → Prop} (h : wpM body (ds.map some ++ List.replicate (m0 - ds.length) none) (fun _ => False) (fun _ => False) (fun _ => False) fun r δ => ∃ os, outsOf δ ps = some os ∧ P r os) : ∃ r os, runFn m0 ps rm body ds = .ok r (os.map some) ∧ P r os := by
  obtain ⟨fl, δ1, e, q⟩ := h.ex
  cases fl with
  | ret r =>
    obtain ⟨os, ho, p⟩ := q
    exact ⟨r, os, by unfold runFn; rw [e]; dsimp only; rw [ho], p⟩
  | next => exact q.elim
  | brk => exact q.elim
  | cont => exact q.elim
end L2
namespace L2
open PySem
theorem z_map {α β : Type} {f : α → β} {a : α} : (some a).map f = some (f a) := rfl
theorem z_fm {α β : Type} {f : α → Option β} : List.filterMap f [] = [] := rfl
theorem z_gs {α : Type} {a : α} {l : List α} {i : Nat} : (a :: l)[i + 1]? = l[i]? := by simp
theorem z_g0 {α : Type} {a : α} {l : List α} : (a :: l)[0]? = some a := by simp
theorem z_inj {α : Type} {a b : α} : (some a = some b) = (a = b) := by simp
theorem z_ex {α : Type} {p : α → Prop} {a : α} : (∃ x, a = x ∧ p x) = p a := by simp
theorem z_lc {α : Type} {a : α} {l : List α} : (a :: l).length = l.length + 1 := rfl
theorem z_ln {α : Type} : ([] : List α).length = 0 := rfl
theorem z_ss {α : Type} {a x : α} {l : List α} {i : Nat} : (a :: l).set (i + 1) x = a :: l.set i x := rfl
theorem z_s0 {α : Type} {a x : α} {l : List α} : (a :: l).set 0 x = x :: l := rfl
theorem z_it {a b : Prop} : (if True then a else b) = a := by simp
theorem z_if {a b : Prop} : (if False then a else b) = b := by simp
theorem vcs : type_of% (And.intro @v_seq <| And.intro @v_next <| And.intro @v_brk <| And.intro @v_cont <| And.intro @v_set <| And.intro @v_ret <| And.intro @v_drop <| And.intro @v_if <| And.intro @v_asg <| And.intro @v_var <| And.intro @v_c <| And.intro @v_op <| And.intro @v_un <| And.intro @v_vals0 <| And.intro @v_vals <| And.intro @v_fn <| And.intro @v_tup <| And.intro @v_lst <| And.intro @v_b <| And.intro @v_notT <| And.intro @v_notV <| And.intro @v_orT <| And.intro @v_andT <| And.intro @v_andV <| And.intro @v_orV <| And.intro @v_call <| And.intro @v_args0 <| And.intro @v_argsV <| And.intro @v_argsO <| And.intro @v_mut <| And.intro @v_ixo <| And.intro @v_put <| And.intro @v_leno <| And.intro @v_ifx <| And.intro @o_add <| And.intro @o_sub <| And.intro @o_neg <| And.intro @o_lt <| And.intro @o_le <| And.intro @o_gt <| And.intro @o_ge <| And.intro @o_eq <| And.intro @o_ne <| And.intro @o_neb <| And.intro @o_abs <| And.intro @o_lenL <| And.intro @o_lenT <| And.intro @o_ixL <| And.intro @o_ixT <| And.intro @o_at0 <| And.intro @o_at1 <| And.intro @o_at2 <| And.intro @o_at3 <| And.intro @o_at4 <| And.intro @o_at5 <| And.intro @o_at6 <| And.intro @o_bi <| And.intro @o_small <| And.intro @k_op <| And.intro @k_var <| And.intro @k_bool <| And.intro @k_set <| And.intro @k_fill <| And.intro @k_res0 <| And.intro @k_res1 <| And.intro @k_mut <| And.intro @k_mop <| And.intro @k_put <| And.intro @k_pt <| And.intro @k_mul <| And.intro @k_app <| And.intro @k_cat <| And.intro @k_stp0 <| And.intro @k_stp1 <| And.intro @k_stp2 <| And.intro @k_stp3 <| And.intro @k_stp4 <| And.intro @k_stp5 <| And.intro @k_stp6 <| And.intro @k_stp7 <| And.intro @k_stp8 <| And.intro @k_stp9 <| And.intro @k_stp10 <| And.intro @k_stp11 <| And.intro @k_stp12 <| And.intro @k_stp13 <| And.intro @k_stp14 <| And.intro @k_stp15 <| And.intro @z_map <| And.intro @z_fm <| And.intro @z_gs <| And.intro @z_g0 <| And.intro @z_inj <| And.intro @z_ex <| And.intro @z_lc <| And.intro @z_ln <| And.intro @z_ss <| And.intro @z_s0 <| And.intro @Nat.zero_add <| And.intro @true_and <| And.intro @and_true <| And.intro @Res.ok.injEq <| And.intro @PySem.PyData.bool.injEq <| And.intro @PySem.PyData.int.injEq <| And.intro @PySem.PyData.list.injEq <| And.intro @PySem.PyData.tuple.injEq <| And.intro @Bool.not_true <| And.intro @Bool.not_false <| And.intro @Bool.false_eq_true <| And.intro @z_it <| @z_if) :=
  And.intro @v_seq <| And.intro @v_next <| And.intro @v_brk <| And.intro @v_cont <| And.intro @v_set <| And.intro @v_ret <| And.intro @v_drop <| And.intro @v_if <| And.intro @v_asg <| And.intro @v_var <| And.intro @v_c <| And.intro @v_op <| And.intro @v_un <| And.intro @v_vals0 <| And.intro @v_vals <| And.intro @v_fn <| And.intro @v_tup <| And.intro @v_lst <| And.intro @v_b <| And.intro @v_notT <| And.intro @v_notV <| And.intro @v_orT <| And.intro @v_andT <| And.intro @v_andV <| And.intro @v_orV <| And.intro @v_call <| And.intro @v_args0 <| And.intro @v_argsV <| And.intro @v_argsO <| And.intro @v_mut <| And.intro @v_ixo <| And.intro @v_put <| And.intro @v_leno <| And.intro @v_ifx <| And.intro @o_add <| And.intro @o_sub <| And.intro @o_neg <| And.intro @o_lt <| And.intro @o_le <| And.intro @o_gt <| And.intro @o_ge <| And.intro @o_eq <| And.intro @o_ne <| And.intro @o_neb <| And.intro @o_abs <| And.intro @o_lenL <| And.intro @o_lenT <| And.intro @o_ixL <| And.intro @o_ixT <| And.intro @o_at0 <| And.intro @o_at1 <| And.intro @o_at2 <| And.intro @o_at3 <| And.intro @o_at4 <| And.intro @o_at5 <| And.intro @o_at6 <| And.intro @o_bi <| And.intro @o_small <| And.intro @k_op <| And.intro @k_var <| And.intro @k_bool <| And.intro @k_set <| And.intro @k_fill <| And.intro @k_res0 <| And.intro @k_res1 <| And.intro @k_mut <| And.intro @k_mop <| And.intro @k_put <| And.intro @k_pt <| And.intro @k_mul <| And.intro @k_app <| And.intro @k_cat <| And.intro @k_stp0 <| And.intro @k_stp1 <| And.intro @k_stp2 <| And.intro @k_stp3 <| And.intro @k_stp4 <| And.intro @k_stp5 <| And.intro @k_stp6 <| And.intro @k_stp7 <| And.intro @k_stp8 <| And.intro @k_stp9 <| And.intro @k_stp10 <| And.intro @k_stp11 <| And.intro @k_stp12 <| And.intro @k_stp13 <| And.intro @k_stp14 <| And.intro @k_stp15 <| And.intro @z_map <| And.intro @z_fm <| And.intro @z_gs <| And.intro @z_g0 <| And.intro @z_inj <| And.intro @z_ex <| And.intro @z_lc <| And.intro @z_ln <| And.intro @z_ss <| And.intro @z_s0 <| And.intro @Nat.zero_add <| And.intro @true_and <| And.intro @and_true <| And.intro @Res.ok.injEq <| And.intro @PySem.PyData.bool.injEq <| And.intro @PySem.PyData.int.injEq <| And.intro @PySem.PyData.list.injEq <| And.intro @PySem.PyData.tuple.injEq <| And.intro @Bool.not_true <| And.intro @Bool.not_false <| And.intro @Bool.false_eq_true <| And.intro @z_it <| @z_if
end L2
namespace L2
open PySem PySem.Spec
structure Sh (k : Nat) (d : D) : Prop where
  lay : d.canLay0 = true
  dep : d.depth ≤ k
theorem sh_all {k : Nat} : ∀ {ds : List D}, (∀ d ∈ ds, Sh k d) → PyData.canLayAll0 ds = true ∧ PyData.depthAll ds ≤ k
  | [], _ => ⟨by simp [PyData.canLayAll0], by simp [PyData.depthAll]⟩
  | d :: ds, h => by
    obtain ⟨h1, h2⟩ := sh_all (ds := ds) fun x hx => h x (List.mem_cons_of_mem _ hx)
    have hd := h d List.mem_cons_self
    refine ⟨by simp [PyData.canLayAll0, hd.lay, h1], ?_⟩
    have := hd.dep
    simp only [PyData.depthAll]
    omega
theorem sh_int {i : Int} : Sh 1 (.int i) := ⟨by simp [PyData.canLay0], by simp [PyData.depth]⟩
theorem sh_list {k : Nat} {ds : List D} (h : ∀ d ∈ ds, Sh k d) : Sh (k + 1) (.list ds) := by
  obtain ⟨h1, h2⟩ := sh_all h
  exact ⟨by simpa [PyData.canLay0] using h1, by simp only [PyData.depth]; omega⟩
theorem sh_tup {k : Nat} {ds : List D} (h : ∀ d ∈ ds, Sh k d) : Sh (k + 1) (.tuple ds) := by
  obtain ⟨h1, h2⟩ := sh_all h
  exact ⟨by simpa [PyData.canLay0] using h1, by simp only [PyData.depth]; omega⟩
theorem Sh.mono {k n : Nat} {d : D} (h : Sh k d) (e : k ≤ n) : Sh n d := ⟨h.lay, Nat.le_trans h.dep e⟩
theorem Sh.shaped {k : Nat} {d : D} (h : Sh k d) (e : k ≤ 64) : SeqAt.shaped d = true := by
  unfold SeqAt.shaped
  rw [h.lay, decide_eq_true (Nat.le_trans h.dep e)]
  rfl
theorem sh_ints {xs : List Int} : Sh 2 (.list (xs.map PyData.int)) := sh_list fun d hd => by
  obtain ⟨i, _, rfl⟩ := List.mem_map.mp hd
  exact sh_int
theorem ne_refl {k : Nat} {d : D} (h : Sh k d) (e : k ≤ 64) : neD d d = some (.bool false) := by
  unfold neD
  rw [if_pos ⟨h.shaped e, h.shaped e⟩, SeqAt.eqv_refl _ h.lay]
  rfl
theorem eq_refl {k : Nat} {d : D} (h : Sh k d) (e : k ≤ 64) : eqD d d = some (.bool true) := by
  unfold eqD
  rw [if_pos ⟨h.shaped e, h.shaped e⟩, SeqAt.eqv_refl _ h.lay]
theorem cut_from {ds : List D} {k : Nat} (h : k ≤ ds.length) : cutL (.list ds) (some (k : Int)) none = some (.list (ds.drop k)) := by
  show some (PyData.list (cutD ds (some (k : Int)) none)) = _
  unfold cutD
  rw [HT.sIx_none, HT.sIx_nat, Nat.min_eq_left h, List.take_of_length_le (by simp)]
section
variable {f : M D} {lo hi : Option (M D)} {δ : DS} {Q : D → DS → Prop} {op : D → Option Int → Option Int → Option D}
theorem v_sl : wpV (dSl op f lo hi) δ Q = wpV f δ fun d δ1 => wpV (dOpt lo) δ1 fun l δ2 => wpV (dOpt hi) δ2 fun u δ3 => opK (op d l u) δ3 Q := by
  unfold wpV dSl opK
  cases f δ with
  | stuck => rfl
  | err x d => rfl
  | ok a d =>
    simp only [Res.bind]
    cases dOpt lo d with
    | stuck => rfl
    | err x d => rfl
    | ok l d =>
      dsimp only
      cases dOpt hi d with
      | stuck => rfl
      | err x d => rfl
      | ok u d => dsimp only; cases op a l u <;> simp
noncomputable def intK (d : D) (δ : DS) (Q : Option Int → DS → Prop) (_w : Wt Q := ⟨⟩) : Prop := ∃ i, d = .int i ∧ Q (some i) δ
theorem k_int {i : Int} {Q : Option Int → DS → Prop} : intK (.int i) δ Q = Q (some i) δ := by unfold intK; simp
theorem v_opt0 {Q : Option Int → DS → Prop} : wpV (dOpt none) δ Q = Q none δ := rfl
theorem v_opt1 {Q : Option Int → DS → Prop} : wpV (dOpt (some f)) δ Q = wpV f δ fun d δ1 => intK d δ1 Q := by
  unfold wpV dOpt intK
  dsimp only
  cases f δ with
  | stuck => rfl
  | err x d => rfl
  | ok a d => cases a <;> simp [Res.bind]
end
end L2
namespace L2
open PySem PySem.Spec
end L2
namespace L2
open PySem PySem.Spec PyProof.Rows
section
variable {X : Cx} {Z : Ent} {ow : List Nat} {pos : Pos}
end
end L2
namespace L2
open PySem PySem.Spec PyProof.Rows
section
variable {prog : Program} {w : World} {A : Around} {E : Value → Shared → Prop} {s : Shared}
end
end L2
namespace L2
open PySem PySem.Spec PyProof.Rows
section
variable {X : Cx} {Z : Ent} {ow : List Nat} {e c : Expr} {f g : M D} {te tc : TE}
end
end L2
namespace L2
open PySem PySem.Spec PyProof.Rows
section
variable {X : Cx} {Z : Ent} {ow : List Nat} {tg a b c : Expr} {f g h : M D}
end
end L2
namespace L2
open PySem PySem.Spec
section
variable {δ : DS} {Q : D → DS → Prop} {f g : M D} {i : Nat}
theorem v_borT {c : M Bool} {Q : Bool → DS → Prop} : wpV (dBorT c) δ Q = wpV c δ fun b _ => Q b δ := by
  unfold wpV dBorT
  cases c δ <;> rfl
end
end L2
namespace L2
open PySem PySem.Spec PyProof.Rows
section
variable {X : Cx} {Z : Ent} {ow : List Nat} {a b : Expr} {f g : M D} {pos : Pos}
end
end L2
namespace L2
open PySem PySem.Spec PyProof.Rows
section
variable {X : Cx} {Z : Ent} {ow ow' ol ox : List Nat} {n rm m : Nat} {pos : Pos} {e a b c tg : Expr} {f h : M D} {F F' H H' : Hp} {σ : St} {δ δ' : DS} {g g' : Addr → Option Lab} {K : PySem.W.Frag}
theorem OwnR.keep {i : Nat} (hF : Same F F') (h : ∀ a p o, g a = some (i, p) → H a = some o → F a = none → g' a = some (i, p) ∧ H' a = some o ∧ F' a = none)
    {n : Nat} {p : List Nat} {d : D} {v : V} (r : OwnR K F H g i n p d v) : OwnR K F' H' g' i n p d v := r.keepJ hF h
theorem OwnF.updNe {b : Addr} {i i0 : Nat} {q0 : List Nat} {o : HO} (hb : g b = some (i0, q0)) : ∀ {f c : Nat} {p : List Nat} {d : D} {v : V}, (i ≠ i0 ∨ ¬ p <+: q0) → OwnF K F H g i f c p d v → OwnF K F (upd H b o) g i f c p d v
  | 0, 0, _, _, _, _, r => r
  | _ + 1, 0, _, _, _, _, r => r
  | _ + 1, _ + 1, p, d, v, hn, ⟨ds, vs, cs, nd, hc, hl, r⟩ => ⟨ds, vs, cs, nd, fun x hx => by
      obtain ⟨a1, a2, a3⟩ := hc x hx
      have ne : x.1 ≠ b := fun z => by
        rw [z, hb] at a1; cases a1
        exact hn.elim (fun z => z rfl) fun z => z (List.prefix_append _ _)
      exact ⟨a1, by rw [upd_ne ne]; exact a2, a3⟩, hl, fun k d' v' z1 z2 => OwnF.updNe hb (hn.imp id fun z w => z ((List.prefix_append p [k]).trans w)) (r k d' v' z1 z2)⟩
theorem OwnR.updNe {b : Addr} {i i0 : Nat} {q0 : List Nat} {o : HO} (hb : g b = some (i0, q0)) {n : Nat} {p : List Nat} {d : D} {v : V} (hn : i ≠ i0 ∨ ¬ p <+: q0) (r : OwnR K F H g i n p d v) : OwnR K F (upd H b o) g i n p d v := OwnF.updNe hb hn r
noncomputable def hid : List Nat → DS → DS
  | [], δ => δ
  | _ :: _, [] => []
  | n :: ow, o :: δ => (if n = 0 then o else none) :: hid ow δ
theorem hid_len : ∀ {ow : List Nat} {δ : DS}, (hid ow δ).length = δ.length
  | [], _ => rfl
  | _ :: _, [] => rfl
  | n :: ow, o :: δ => by unfold hid; rw [List.length_cons, List.length_cons, hid_len]
theorem hid_at : ∀ {ow : List Nat} {δ : DS} {i : Nat} {d : D}, (hid ow δ)[i]? = some (some d) → ow.getD i 0 = 0 ∧ δ[i]? = some (some d)
  | [], _, i, _, e => ⟨by simp, e⟩
  | _ :: _, [], _, _, e => by unfold hid at e; cases e
  | n :: ow, o :: δ, 0, d, e => by
    unfold hid at e
    rw [List.getElem?_cons_zero] at e
    split at e
    · rename_i h; exact ⟨h, e⟩
    · cases e
  | n :: ow, o :: δ, i + 1, d, e => by
    unfold hid at e
    rw [List.getElem?_cons_succ] at e
    obtain ⟨h1, h2⟩ := hid_at e
    exact ⟨by simpa using h1, by simpa using h2⟩
theorem RelG.hide (R : RelG K Z ow g F H σ δ) : Rel K (borZ F H σ m) (List.replicate m 0) F H σ (hid ow δ) :=
  ⟨fun _ => none, R.sub, fun _ _ z => z, fun _ _ _ e => e, fun _ h _ => h, fun _ h => h, fun _ _ _ e => (by cases e), by rw [hid_len]; exact R.len, fun i hi => (by cases hi), fun i d e => by
    obtain ⟨h0, e⟩ := hid_at e
    obtain ⟨v, e1, o⟩ := R.slot i d e
    rw [h0] at o
    exact ⟨v, e1, by rw [zeros_getD]; exact o⟩⟩
theorem RelG.back (R : RelG K Z ow g F H σ δ) (R' : RelG K (borZ F H σ m) (List.replicate m 0) g' F' H' σ δ') : RelG K Z ow g F' H' σ δ := by
  have hk : ∀ b o, H b = some o → H' b = some o := fun b o e => R'.kept b o rfl e
  refine ⟨R'.sub, R.f0.trans' R'.f0, fun b o n e => hk b o (R.kept b o n e), fun a h1 h2 => R'.new a (R.new a h1 h2) (R.there a h2), fun b h => ?_, R.lab, R.len, R.par, fun i d e => ?_⟩
  · cases e : H b with
    | none => exact absurd e (R.there b h)
    | some o => rw [hk b o e]; simp
  · obtain ⟨v, e1, o⟩ := R.slot i d e
    exact ⟨v, e1, o.keep (show Same F F' from R'.f0) fun a p o e1 e2 e3 => ⟨e1, hk a o e2, R'.new a e3 (show H a ≠ none by rw [e2]; simp)⟩⟩
theorem de_bIx {ek : Expr} {fk : M D} (m : Nat) (h : ∀ F H σ, DE X (borZ F H σ m) (List.replicate m 0) 0 ek fk) : PE X ek (fun σ H Q => ∃ F0, tD X (borZ F0 H σ m) (List.replicate m 0) 0 fk σ H Q) := fun pins s σ H Q I ⟨F0, q⟩ => h F0 H σ pins s σ H Q I q
theorem dv_bor {es : List Expr} {fs : List (M D)} (m : Nat) (h : ∀ F H σ, DV X (borZ F H σ m) (List.replicate m 0) es fs) : PA X es (fun σ H Q => ∃ F0, tV X (borZ F0 H σ m) (List.replicate m 0) fs σ H Q) := fun cp pins s σ H Q I ⟨F0, q⟩ => h F0 H σ cp pins s σ H Q I q
theorem Rel.enter (hz : ∀ i, ow.getD i 0 = 0) (R : Rel K Z ow F H σ δ) : Rel K (borZ F H σ m) (List.replicate m 0) F H σ δ := by
  obtain ⟨g, R⟩ := R
  exact ⟨fun _ => none, R.sub, fun _ _ z => z, fun _ _ _ e => e, fun _ h _ => h, fun _ h => h, fun _ _ _ e => (by cases e), R.len, fun i hi => (by cases hi), fun i d e => by
    obtain ⟨v, e1, o⟩ := R.slot i d e
    rw [hz] at o
    exact ⟨v, e1, by rw [zeros_getD]; exact o⟩⟩
theorem Rel.leave (hz : ∀ i, ow.getD i 0 = 0) (R : Rel K Z ow F H σ δ) (R' : RelG K (borZ F H σ m) (List.replicate m 0) g' F' H' σ δ') : Rel K Z ow F' H' σ δ' := by
  obtain ⟨g, R⟩ := R
  have hk : ∀ b o, H b = some o → H' b = some o := fun b o e => R'.kept b o rfl e
  refine ⟨fun _ => none, R'.sub, R.f0.trans' R'.f0, fun b o n e => hk b o (R.kept b o n e), fun a h1 h2 => R'.new a (R.new a h1 h2) (R.there a h2), fun b h => ?_, fun _ _ _ e => (by cases e), R'.len, R.par, fun i d e => ?_⟩
  · cases e : H b with
    | none => exact absurd e (R.there b h)
    | some o => rw [hk b o e]; simp
  · obtain ⟨v, e1, o⟩ := R'.slot i d e
    rw [zeros_getD] at o
    exact ⟨v, e1, by rw [hz]; exact o⟩
theorem Rel.reg (hz : ∀ i, ow.getD i 0 = 0) (R : Rel K Z ow F H σ δ) (hl : ∀ a i p, g a = some (i, p) → Z.H0 a = none) : RelG K Z ow g F H σ δ := by
  obtain ⟨g0, R⟩ := R
  exact ⟨R.sub, R.f0, R.kept, R.new, R.there, fun a i p e => .inl (hl a i p e), R.len, R.par, fun i d e => by
    obtain ⟨v, e1, o⟩ := R.slot i d e
    rw [hz] at o
    exact ⟨v, e1, by rw [hz]; exact o⟩⟩
structure Accs (K : PySem.W.Frag) (H0 F H : Hp) (ga : Addr → Option Lab) (n : Nat) (acc : List D) (ys : List V) : Prop where
  len : acc.length = ys.length
  own : ∀ (k : Nat) (d : D) (v : V), acc[k]? = some d → ys[k]? = some v → OwnR K F H ga 1000 n [k] d v
  lab : ∀ a i p, ga a = some (i, p) → H0 a = none
theorem Accs.keep {H0 : Hp} {acc : List D} {ys : List V} (A : Accs K H0 F H g n acc ys) (hF : Same F F') (h : ∀ a o, H a = some o → F a = none → H' a = some o ∧ F' a = none) : Accs K H0 F' H' g n acc ys :=
  ⟨A.len, fun k d v e1 e2 => (A.own k d v e1 e2).keep hF fun a p o z1 z2 z3 => ⟨z1, h a o z2 z3⟩, A.lab⟩
theorem Accs.add {H0 : Hp} {acc : List D} {ys : List V} {d : D} {v : V} (A : Accs K H0 F H g n acc ys) (R' : RelG K (borZ F H σ m) (List.replicate m 0) g' F' H' σ δ') (o : OwnR K F' H' g' 1000 n [] d v) (h0 : ∀ a, H a = none → H0 a = none) :
    ∃ ga, Accs K H0 F' H' ga n (acc ++ [d]) (ys ++ [v]) := by
  have hn : ∀ a l, g' a = some l → H a = none := fun a l e => by
    obtain ⟨i, p⟩ := l
    rcases R'.lab a i p e with z | ⟨q, z⟩
    · exact z
    · cases z
  refine ⟨fun b => match g' b with | some (i, p) => if i = 1000 then some (1000, ys.length :: p) else none | none => g b, by simp [A.len], fun k d' v' e1 e2 => ?_, fun a i p e => ?_⟩
  · by_cases hk : k < ys.length
    · rw [List.getElem?_append_left (by rw [A.len]; exact hk)] at e1
      rw [List.getElem?_append_left hk] at e2
      refine (A.own k d' v' e1 e2).keep (H := H) (H' := H') (show Same F F' from R'.f0) fun a p o z1 (z2 : H a = some o) z3 => ⟨?_, R'.kept a o rfl z2, R'.new a z3 (show H a ≠ none by rw [z2]; simp)⟩
      cases z4 : g' a with
      | none => exact z1
      | some l => rw [hn a l z4] at z2; cases z2
    · have hk' : k = ys.length := by
        have := (List.getElem?_eq_some_iff.mp e2).1
        rw [List.length_append, List.length_singleton] at this
        omega
      subst hk'
      rw [List.getElem?_append_right (Nat.le_refl _), Nat.sub_self] at e2
      rw [← A.len, List.getElem?_append_right (Nat.le_refl _), Nat.sub_self] at e1
      cases e1
      cases e2
      have := OwnR.relabP (g' := fun b => match g' b with | some (i, p) => if i = 1000 then some (1000, ys.length :: p) else none | none => g b) (j := 1000) (q := [ys.length]) (fun a p e => by
        show (match g' a with | some (i, p) => if i = 1000 then some (1000, ys.length :: p) else none | none => g a) = _
        rw [e]
        exact if_pos rfl) o
      exact this
  · cases z : g' a with
    | none => rw [z] at e; exact A.lab a i p e
    | some l => exact h0 a (hn a l z)
theorem zeros_of (h : ow.all (· == 0) = true) (i : Nat) : ow.getD i 0 = 0 := by
  by_cases hl : i < ow.length
  · have := List.all_eq_true.mp h ow[i] (List.getElem_mem hl)
    rw [List.getD_eq_getElem?_getD, List.getElem?_eq_getElem hl]
    simpa using this
  · rw [List.getD_eq_getElem?_getD, List.getElem?_eq_none (by omega)]; rfl
end
end L2
namespace L2
open PySem PySem.Spec
section
variable {ow : List Nat} {i : Nat} {fk f k : M D} {op : List D → List D → Option (D × List D)} {fs : List (M D)} {δ : DS} {Q : D → DS → Prop}
end
end L2
namespace L2
open PySem PySem.Spec PyProof.Rows
end L2
namespace L2
open PySem PySem.Spec
end L2
namespace L2
open PySem PySem.Spec PyProof.Rows
section
variable {X : Cx} {Z : Ent} {ow : List Nat} {a b : Expr} {f k : M D} {pos : Pos}
end
end L2
namespace L2
open PySem PySem.Spec
end L2
namespace L2
open PySem PySem.Spec PyProof.Rows
section
variable {X : Cx} {Z : Ent} {ow : List Nat} {e : Expr} {f : M D} {pos : Pos}
end
end L2
namespace L2
open PySem PySem.Spec PyProof.Rows
section
variable {X : Cx} {Z : Ent} {ow : List Nat} {a b : Expr} {f h : M D} {pos : Pos}
end
end L2
namespace L2
open PySem PySem.Spec PyProof.Rows
section
variable {X : Cx} {tg : Expr}
end
section
variable {X : Cx} {Z : Ent} {ow : List Nat} {tg a : Expr} {f : M D}
end
end L2
namespace L2
open PySem PySem.Spec PyProof.Rows
section
variable {X : Cx} {Z : Ent} {ow ol ox : List Nat} {rm : Nat} {pos : Pos} {F H : Hp} {σ : St} {δ : DS} {g : Addr → Option Lab} {K : PySem.W.Frag}
end
end L2
namespace L2
open PySem PySem.Spec PyProof.Rows
section
variable {X : Cx}
end
end L2
namespace L2
open PySem PySem.Spec PyProof.Rows
section
variable {X : Cx} {Z : Ent} {ow ow' ol ox : List Nat} {n rm : Nat} {pos : Pos} {e a b c : Expr} {fe h : M D} {F F' H H' : Hp} {σ : St} {δ : DS} {g : Addr → Option Lab} {K : PySem.W.Frag} {nm f : Str}
theorem OwnR.ins {i c : Nat} {p : List Nat} {d : D} {v : V} (h : OwnR K F H g i c p d v) (hk : kd c = 2) :
    ∃ a nm fs C dx ds vs, d = instD nm fs ds ∧ v = .ref a ∧ fs.length = ds.length ∧ ds.length = vs.length ∧ PySem.W.nsIn K mainGlobals nm = some (some (.ref C)) ∧ g a = some (i, p) ∧ H a = some (.ins C dx (fs.zip vs)) ∧ F a = none ∧ g dx = some (i, p ++ [1000]) ∧ H dx = some (.own a) ∧ F dx = none ∧
      ∀ (k : Nat) (d' : D) (v' : V), ds[k]? = some d' → vs[k]? = some v' → OwnR K F H g i (ch c k) (p ++ [k]) d' v' := by
  cases c with
  | zero => cases hk
  | succ c =>
    obtain ⟨ds, vs, cs, nd, hc, hl, r⟩ := h.open
    rw [hk] at nd
    obtain ⟨a, nm, fs, C, dx, h1, h2, h3, h4, rfl⟩ := nd
    obtain ⟨a1, a2, a3⟩ := hc _ List.mem_cons_self
    obtain ⟨b1, b2, b3⟩ := hc _ (List.mem_cons_of_mem _ (List.mem_singleton.mpr rfl))
    exact ⟨a, nm, fs, C, dx, ds, vs, h1, h2, h3, hl, h4, by simpa using a1, a2, a3, b1, b2, b3, r⟩
theorem OwnR.mkI {i c : Nat} {p : List Nat} {a C dx : Addr} {fs : List Str} {ds : List D} {vs : List V} (hk : kd c = 2) (h3 : fs.length = ds.length) (hl : ds.length = vs.length) (h4 : PySem.W.nsIn K mainGlobals nm = some (some (.ref C))) (a1 : g a = some (i, p)) (a2 : H a = some (.ins C dx (fs.zip vs))) (a3 : F a = none) (b1 : g dx = some (i, p ++ [1000])) (b2 : H dx = some (.own a)) (b3 : F dx = none)
    (r : ∀ (k : Nat) (d' : D) (v' : V), ds[k]? = some d' → vs[k]? = some v' → OwnR K F H g i (ch c k) (p ++ [k]) d' v') : OwnR K F H g i c p (instD nm fs ds) (.ref a) := by
  cases c with
  | zero => cases hk
  | succ c =>
    refine OwnR.shut (ds := ds) (vs := vs) (cs := [(a, [], .ins C dx (fs.zip vs)), (dx, [1000], .own a)]) (by rw [hk]; exact ⟨a, nm, fs, C, dx, rfl, rfl, h3, h4, rfl⟩) (fun x hx => ?_) hl r
    rcases List.mem_cons.mp hx with z | z
    · subst z; exact ⟨by simpa using a1, a2, a3⟩
    · rw [List.mem_singleton.mp z]; exact ⟨b1, b2, b3⟩
end
end L2
namespace L2
open PySem PySem.Spec PyProof.Rows
section
variable {X : Cx} {Z : Ent} {ow ow' ol ox : List Nat} {n rm c i : Nat} {pos spos tpos : Pos} {e : Expr} {fe fk fv : M D} {F F' H H' : Hp} {σ : St} {δ : DS} {g : Addr → Option Lab} {K : PySem.W.Frag} {nm f : Str}
end
end L2
namespace L2
open PySem PySem.Spec PyProof.Rows
section
variable {X : Cx} {Z : Ent} {ow ow' ol ox : List Nat} {n rm c i : Nat} {pos spos tpos : Pos} {e : Expr} {fe fk fv : M D} {F F' H H' : Hp} {σ : St} {δ : DS} {g : Addr → Option Lab} {K : PySem.W.Frag} {nm f : Str}
end
end L2
namespace L2
open PySem PySem.Spec PyProof.Rows
section
variable {X : Cx} {Z : Ent} {ow : List Nat} {rm c m : Nat} {pos : Pos} {e : Expr} {F F' H H' : Hp} {σ : St} {δ : DS} {g : Addr → Option Lab} {K : PySem.W.Frag} {nm : Str}
theorem getD_app {c : Nat} {ow : List Nat} {i : Nat} (h : i ≠ ow.length) : (ow ++ [c]).getD i 0 = ow.getD i 0 := by
  rw [List.getD_eq_getElem?_getD, List.getD_eq_getElem?_getD]
  by_cases hl : i < ow.length
  · rw [List.getElem?_append_left hl]
  · rw [List.getElem?_eq_none (by rw [List.length_append, List.length_singleton]; omega), List.getElem?_eq_none (by omega)]
theorem getD_last {c : Nat} {ow : List Nat} : (ow ++ [c]).getD ow.length 0 = c := by
  rw [List.getD_eq_getElem?_getD, List.getElem?_append_right (Nat.le_refl _), Nat.sub_self]; rfl
theorem app_at {α : Type} {xs : List α} {y : α} {i : Nat} (h : i ≠ xs.length) : (xs ++ [y])[i]? = xs[i]? := by
  by_cases hl : i < xs.length
  · rw [List.getElem?_append_left hl]
  · rw [List.getElem?_eq_none (by rw [List.length_append, List.length_singleton]; omega), List.getElem?_eq_none (by omega)]
theorem app_last {α : Type} {xs : List α} {y : α} : (xs ++ [y])[xs.length]? = some y := by
  rw [List.getElem?_append_right (Nat.le_refl _), Nat.sub_self]; rfl
theorem RelG.push {x dx C : Addr} (R : RelG K Z ow g F H σ δ) (hk : kd c = 2) (hC : PySem.W.nsIn K mainGlobals nm = some (some (.ref C))) (hx : H x = none) (hdx : H dx = none) (ne : dx ≠ x) (hm : δ.length = ow.length) (hps : ow.length ∉ Z.ps) :
    Rel K Z (ow ++ [c]) F (upd (upd H dx (.own x)) x (.ins C dx [])) (σ ++ [some (.ref x)]) (δ ++ [some (instD nm [] [])]) := by
  have hsm : σ.length = ow.length := by rw [← R.len]; exact hm
  have fx : F x = none := by
    cases e : F x with
    | none => rfl
    | some u => rw [R.sub x u e] at hx; cases hx
  have fdx : F dx = none := by
    cases e : F dx with
    | none => rfl
    | some u => rw [R.sub dx u e] at hdx; cases hdx
  have h0 : ∀ a, H a = none → Z.H0 a = none := fun a e => by
    cases e1 : Z.H0 a with
    | none => rfl
    | some o => exact absurd e (R.there a (by rw [e1]; simp))
  have hk' : ∀ b o, H b = some o → upd (upd H dx (.own x)) x (.ins C dx []) b = some o := fun b o e => by
    rw [upd_ne (fun z => by rw [z, hx] at e; cases e), upd_ne (fun z => by rw [z, hdx] at e; cases e)]; exact e
  refine ⟨fun b => if b = x then some (ow.length, []) else if b = dx then some (ow.length, [1000]) else g b, fun b u e => hk' b u (R.sub b u e), R.f0, fun b u n e => hk' b u (R.kept b u n e), R.new, fun b z => ?_, fun a i p e => ?_, by rw [List.length_append, List.length_append, R.len]; rfl, fun i hi => ?_, fun i d e => ?_⟩
  · cases e : H b with
    | none => exact absurd e (R.there b z)
    | some o => rw [hk' b o e]; simp
  · split at e
    · rename_i z; rw [z]; exact .inl (h0 x hx)
    · split at e
      · rename_i z; rw [z]; exact .inl (h0 dx hdx)
      · exact R.lab a i p e
  · have : i ≠ ow.length := fun z => hps (by rw [← z]; exact hi)
    rw [app_at (by omega), getD_app this]
    exact R.par i hi
  · by_cases hi : i = ow.length
    · have e2 : (δ ++ [some (instD nm [] [])])[i]? = some (some (instD nm [] [])) := by rw [hi, ← hm]; exact app_last
      rw [e2] at e
      cases e
      refine ⟨.ref x, by rw [hi, ← hsm]; exact app_last, ?_⟩
      rw [hi, getD_last]
      exact OwnR.mkI (C := C) (dx := dx) (vs := []) hk rfl rfl hC (if_pos rfl) upd_same fx (by rw [if_neg ne, if_pos rfl]; rfl) (by rw [upd_ne ne, upd_same]) fdx fun k d' v' z1 => by cases z1
    · rw [app_at (by omega)] at e
      obtain ⟨v, e1, o⟩ := R.slot i d e
      refine ⟨v, by rw [app_at (by omega)]; exact e1, ?_⟩
      rw [getD_app hi]
      refine o.keepJ (Same.refl _) fun a p u y1 y2 y3 => ⟨?_, hk' a u y2, y3⟩
      rw [if_neg (fun z => by rw [z, hx] at y2; cases y2), if_neg (fun z => by rw [z, hdx] at y2; cases y2)]
      exact y1
theorem RelG.pop {d : D} {v : V} (S : Small Z ow) (R : RelG K Z (ow ++ [c]) g F H (σ ++ [some v]) (δ ++ [some d])) (hm : δ.length = ow.length) (hps : ow.length ∉ Z.ps) (hlt : ow.length < 1000) : RelX K Z ow c d v F H σ δ := by
  have hsm : σ.length = ow.length := by have := R.len; rw [List.length_append, List.length_append] at this; simp at this; omega
  refine ⟨fun b => match g b with | some (j, p) => if j = ow.length then some (1000, p) else if j = 1000 then none else some (j, p) | none => none, ⟨R.sub, R.f0, R.kept, R.new, R.there, fun a i p e => ?_, by omega, fun i hi => ?_, fun i d' e => ?_⟩, ?_⟩
  · cases eg : g a with
    | none => rw [eg] at e; cases e
    | some l =>
      obtain ⟨j, q⟩ := l
      rw [eg] at e
      dsimp only at e
      split at e
      · rename_i z
        cases e
        rcases R.lab a j _ eg with w | ⟨q', w⟩
        · exact .inl w
        · exact absurd (Z.wf a j q' w) (by rw [z]; exact hps)
      · split at e
        · cases e
        · cases e; exact R.lab a i p eg
  · have : i ≠ ow.length := fun z => hps (by rw [← z]; exact hi)
    have q := R.par i hi
    rw [app_at (by omega), getD_app this] at q
    exact q
  · have hi : i < δ.length := (List.getElem?_eq_some_iff.mp e).1
    obtain ⟨v', e1, o⟩ := R.slot i d' (by rw [app_at (by omega)]; exact e)
    rw [app_at (by omega)] at e1
    rw [getD_app (by omega)] at o
    refine ⟨v', e1, o.relab fun a p y => ?_⟩
    rw [y]
    dsimp only
    rw [if_neg (by omega), if_neg (by omega)]
  · obtain ⟨v', e1, o⟩ := R.slot ow.length d (by rw [← hm]; exact app_last)
    rw [← hsm, app_last] at e1
    cases e1
    rw [getD_last] at o
    refine o.relab fun a p y => ?_
    rw [y]
    exact if_pos rfl
end
end L2
namespace L2
open PySem PySem.Spec PyProof.Rows
section
variable {κ : Type} [DecidableEq κ]
noncomputable def valV (kvs : List (κ × V)) (k : κ) : Option V := (kvs.find? fun kv => decide (kv.1 = k)).map (·.2)
noncomputable def putK (kvs : List (κ × V)) (k : κ) (v : V) : List (κ × V) :=
  if (kvs.any fun kv => decide (kv.1 = k)) = true then kvs.map (fun kv => if kv.1 = k then (kv.1, v) else kv) else kvs ++ [(k, v)]
noncomputable def dropK (kvs : List (κ × V)) (k : κ) : List (κ × V) := kvs.filter fun kv => decide (kv.1 ≠ k)
theorem valV_pos {p : κ × V} {r : List (κ × V)} {k : κ} (e : p.1 = k) : valV (p :: r) k = some p.2 := by simp [valV, List.find?_cons, e]
theorem valV_neg {p : κ × V} {r : List (κ × V)} {k : κ} (e : ¬ p.1 = k) : valV (p :: r) k = valV r k := by simp [valV, List.find?_cons, e]
theorem RelO.getD {o : Option V} {u : Option Value} {d : V} {d' : Value} (r : RelO o u) (rd : RelV d d') : RelV (o.getD d) (u.getD d') := by
  cases o with
  | none => cases u with
    | none => exact rd
    | some _ => exact (show False from r).elim
  | some _ => cases u with
    | none => exact (show False from r).elim
    | some _ => exact r
theorem KV.val {kvs : List (κ × V)} {vs : List (κ × Value)} (r : KV kvs vs) (k : κ) : RelO (valV kvs k) (valueAt vs k) := by
  unfold KV at r
  induction r with
  | nil => exact True.intro
  | @cons p q ps qs h t ih =>
    obtain ⟨h1, h2⟩ := h
    by_cases e : p.1 = k
    · have e' : q.1 = k := h1.symm.trans e
      have b : valueAt (q :: qs) k = some q.2 := by simp [valueAt, List.find?_cons, e']
      rw [valV_pos e, b]; exact h2
    · have e' : ¬ q.1 = k := fun z => e (h1.trans z)
      have b : valueAt (q :: qs) k = valueAt qs k := by simp [valueAt, List.find?_cons, e']
      rw [valV_neg e, b]; exact ih
theorem KV.any {kvs : List (κ × V)} {vs : List (κ × Value)} (r : KV kvs vs) (k : κ) : (kvs.any fun kv => decide (kv.1 = k)) = vs.any fun kv => decide (kv.1 = k) := by
  unfold KV at r
  induction r with
  | nil => rfl
  | cons h t ih => rw [List.any_cons, List.any_cons, ih, h.1]
theorem KV.drop {kvs : List (κ × V)} {vs : List (κ × Value)} (r : KV kvs vs) (k : κ) : KV (dropK kvs k) (without vs k) := by
  unfold KV at r ⊢
  unfold dropK without
  induction r with
  | nil => exact .nil
  | @cons p q ps qs h t ih =>
    obtain ⟨h1, h2⟩ := h
    rw [List.filter_cons, List.filter_cons]
    by_cases e : p.1 = k
    · have a : ¬ decide (p.1 ≠ k) = true := by simp [e]
      have b : ¬ decide (q.1 ≠ k) = true := by simp [h1.symm.trans e]
      rw [if_neg a, if_neg b]; exact ih
    · have e' : ¬ q.1 = k := fun z => e (h1.trans z)
      have a : decide (p.1 ≠ k) = true := by simp [e]
      have b : decide (q.1 ≠ k) = true := by simp [e']
      rw [if_pos a, if_pos b]; exact .cons ⟨h1, h2⟩ ih
theorem KV.keys {kvs : List (κ × V)} {vs : List (κ × Value)} (r : KV kvs vs) : kvs.map (·.1) = vs.map (·.1) := by
  unfold KV at r
  induction r with
  | nil => rfl
  | cons h t ih => rw [List.map_cons, List.map_cons, ih, h.1]
theorem KV.length {kvs : List (κ × V)} {vs : List (κ × Value)} (r : KV kvs vs) : kvs.length = vs.length := Paired.length r
end
noncomputable abbrev KT (H : Hp) : List (List Key × V) → List (List Key × Addr × Value) → Prop := Paired fun p q => p.1 = q.1 ∧ H q.2.1 = some (.tup (p.1.map kV)) ∧ RelV p.2 q.2.2
theorem KT.val {H : Hp} {kvs : List (List Key × V)} {xs : List (List Key × Addr × Value)} (r : KT H kvs xs) (k : List Key) : RelO (valV kvs k) ((atKey xs k).map (·.2)) := by
  induction r with
  | nil => exact True.intro
  | @cons p q ps qs h t ih =>
    obtain ⟨h1, _, h2⟩ := h
    by_cases e : p.1 = k
    · have e' : q.1 = k := h1.symm.trans e
      have b : atKey (q :: qs) k = some q.2 := by simp [atKey, List.find?_cons, e']
      rw [valV_pos e, b]; exact h2
    · have e' : ¬ q.1 = k := fun z => e (h1.trans z)
      have b : atKey (q :: qs) k = atKey qs k := by simp [atKey, List.find?_cons, e']
      rw [valV_neg e, b]; exact ih
theorem KT.keeps {H H' : Hp} {kvs : List (List Key × V)} {xs : List (List Key × Addr × Value)} (r : KT H kvs xs) (ht : ∀ b ys, H b = some (.tup ys) → H' b = some (.tup ys)) : KT H' kvs xs :=
  Paired.mapP r fun _ _ z => ⟨z.1, ht _ _ z.2.1, z.2.2⟩
section
variable {P : Program} {w : World} {H : Hp} {h : Heap} {a : Addr}
end
noncomputable def DGet (H : Hp) (a : Addr) (y : V) (r : Option V) : Prop :=
  (∃ kvs k, Rd H a (.dK kvs) ∧ y = kV k ∧ r = valV kvs k) ∨ ∃ kvs k b, Rd H a (.dT kvs) ∧ y = .ref b ∧ H b = some (.tup (k.map kV)) ∧ r = valV kvs k
noncomputable def DPut (H : Hp) (a : Addr) (y v : V) (H' : Hp) : Prop :=
  (∃ kvs k, H a = some (.dK kvs) ∧ y = kV k ∧ kvs.length < sizeLine ∧ H' = upd H a (.dK (putK kvs k v))) ∨
  ∃ kvs k b, H a = some (.dT kvs) ∧ y = .ref b ∧ H b = some (.tup (k.map kV)) ∧ kvs.length < sizeLine ∧ H' = upd H a (.dT (putK kvs k v))
theorem DGet.k {H : Hp} {a : Addr} {kvs : List (Key × V)} {k : Key} (e : H a = some (.dK kvs)) : DGet H a (kV k) (valV kvs k) := .inl ⟨kvs, k, .inl e, rfl, rfl⟩
theorem DGet.t {H : Hp} {a b : Addr} {kvs : List (List Key × V)} {k : List Key} (e : H a = some (.dT kvs)) (eb : H b = some (.tup (k.map kV))) : DGet H a (.ref b) (valV kvs k) := .inr ⟨kvs, k, b, .inl e, rfl, eb, rfl⟩
theorem DPut.k {H : Hp} {a : Addr} {kvs : List (Key × V)} {k : Key} {v : V} (e : H a = some (.dK kvs)) (hl : kvs.length < sizeLine) : DPut H a (kV k) v (upd H a (.dK (putK kvs k v))) := .inl ⟨kvs, k, e, rfl, hl, rfl⟩
theorem DPut.t {H : Hp} {a b : Addr} {kvs : List (List Key × V)} {k : List Key} {v : V} (e : H a = some (.dT kvs)) (eb : H b = some (.tup (k.map kV))) (hl : kvs.length < sizeLine) :
    DPut H a (.ref b) v (upd H a (.dT (putK kvs k v))) := .inr ⟨kvs, k, b, e, rfl, eb, hl, rfl⟩
section
variable {X : Cx} {pins : List (Addr × Obj)} {σ : St} {H : Hp} {s : Shared} {a : Addr} {y v : V} {u r : Value} {o : Option V} {A : Around} {E : Value → Shared → Prop}
end
section
variable {X : Cx} {pins : List (Addr × Obj)} {σ : St} {H : Hp} {s : Shared} {a : Addr} {kvs : List (Key × V)} {k : Key} {u : Value} {A : Around} {E : Value → Shared → Prop}
end
section
variable {X : Cx} {o i e value : Expr} {pos pos' tpos : Pos} {td ty tv : TE}
end
section
variable {X : Cx} {pos : Pos}
end
structure M1 (X : Cx) (o : Expr) (m : Str) (apos : Pos) (e : Expr) (cpos : Pos) : Prop where
  base : attributeBase o m X.env (eval o X.env) = eval o X.env
  few : ((backTo cpos (starEach [e] X.env)).all (fun x => !x.1) && (backToKw cpos (keywordEach [] X.env)).all (fun x => x.1.isSome)
    && decide (([e] : List Expr).length + ([] : List Keyword).length + (if ([] : List Keyword).isEmpty then 0 else 1) < 30)) = true
  line : (apos.endLine == cpos.line) = true
  trees : backTo cpos (starEach [e] X.env) = [(false, eval e X.env)]
structure M2 (X : Cx) (o : Expr) (m : Str) (apos : Pos) (e f : Expr) (cpos : Pos) : Prop where
  base : attributeBase o m X.env (eval o X.env) = eval o X.env
  few : ((backTo cpos (starEach [e, f] X.env)).all (fun x => !x.1) && (backToKw cpos (keywordEach [] X.env)).all (fun x => x.1.isSome)
    && decide (([e, f] : List Expr).length + ([] : List Keyword).length + (if ([] : List Keyword).isEmpty then 0 else 1) < 30)) = true
  line : (apos.endLine == cpos.line) = true
  trees : backTo cpos (starEach [e, f] X.env) = [(false, eval e X.env), (false, eval f X.env)]
section
variable {X : Cx} {pins : List (Addr × Obj)} {σ : St} {H : Hp} {s : Shared} {a : Addr} {y d : V} {u r : Value} {o : Option V} {A : Around} {E : Value → Shared → Prop}
end
section
variable {X : Cx} {o e f : Expr} {apos cpos : Pos} {td ty tx : TE}
end
section
variable {X : Cx} {pins : List (Addr × Obj)} {σ : St} {H : Hp} {s : Shared} {a : Addr} {kvs : List (Key × V)} {A : Around} {E : Value → Shared → Prop}
end
section
variable {X : Cx} {pins : List (Addr × Obj)} {σ : St} {H : Hp} {s : Shared} {a : Addr} {y : V} {u : Value} {A : Around} {E : Value → Shared → Prop}
end
end L2
namespace L2
open PySem PySem.Spec PyProof.Rows
section
variable {X : Cx} {Z : Ent} {ow ow' ol ox : List Nat} {n rm c i : Nat} {pos spos tpos : Pos} {e : Expr} {fe fk fv : M D} {F F' H H' : Hp} {σ : St} {δ : DS} {g : Addr → Option Lab} {K : PySem.W.Frag}
end
end L2
namespace L2
open PySem PySem.Spec PyProof.Rows
section
variable {X : Cx} {Z : Ent} {ow : List Nat} {n m : Nat} {pos : Pos} {e : Expr} {es : List Expr} {f : M D} {fs : List (M D)} {F F' H H' : Hp} {σ : St} {δ δ' : DS} {g g' : Addr → Option Lab} {K : PySem.W.Frag} {cf : Nat → Nat}
structure AccC (K : PySem.W.Frag) (H0 F H : Hp) (ga : Addr → Option Lab) (cf : Nat → Nat) (acc : List D) (ys : List V) : Prop where
  len : acc.length = ys.length
  own : ∀ (k : Nat) (d : D) (v : V), acc[k]? = some d → ys[k]? = some v → OwnR K F H ga 1000 (cf k) [k] d v
  lab : ∀ a i p, ga a = some (i, p) → H0 a = none
theorem AccC.add {H0 : Hp} {acc : List D} {ys : List V} {d : D} {v : V} (A : AccC K H0 F H g cf acc ys) (R' : RelG K (borZ F H σ m) (List.replicate m 0) g' F' H' σ δ') (o : OwnR K F' H' g' 1000 (cf acc.length) [] d v) (h0 : ∀ a, H a = none → H0 a = none) :
    ∃ ga, AccC K H0 F' H' ga cf (acc ++ [d]) (ys ++ [v]) := by
  have hn : ∀ a l, g' a = some l → H a = none := fun a l e => by
    obtain ⟨i, p⟩ := l
    rcases R'.lab a i p e with z | ⟨q, z⟩
    · exact z
    · cases z
  refine ⟨fun b => match g' b with | some (i, p) => if i = 1000 then some (1000, ys.length :: p) else none | none => g b, by simp [A.len], fun k d' v' e1 e2 => ?_, fun a i p e => ?_⟩
  · by_cases hk : k < ys.length
    · rw [List.getElem?_append_left (by rw [A.len]; exact hk)] at e1
      rw [List.getElem?_append_left hk] at e2
      refine (A.own k d' v' e1 e2).keep (H := H) (H' := H') (show Same F F' from R'.f0) fun a p o z1 (z2 : H a = some o) z3 => ⟨?_, R'.kept a o rfl z2, R'.new a z3 (show H a ≠ none by rw [z2]; simp)⟩
      cases z4 : g' a with
      | none => exact z1
      | some l => rw [hn a l z4] at z2; cases z2
    · have hk' : k = ys.length := by
        have := (List.getElem?_eq_some_iff.mp e2).1
        rw [List.length_append, List.length_singleton] at this
        omega
      subst hk'
      rw [List.getElem?_append_right (Nat.le_refl _), Nat.sub_self] at e2
      rw [← A.len, List.getElem?_append_right (Nat.le_refl _), Nat.sub_self] at e1
      cases e1
      cases e2
      rw [A.len] at o
      have := OwnR.relabP (g' := fun b => match g' b with | some (i, p) => if i = 1000 then some (1000, ys.length :: p) else none | none => g b) (j := 1000) (q := [ys.length]) (fun a p e => by
        show (match g' a with | some (i, p) => if i = 1000 then some (1000, ys.length :: p) else none | none => g a) = _
        rw [e]
        exact if_pos rfl) o
      exact this
  · cases z : g' a with
    | none => rw [z] at e; exact A.lab a i p e
    | some l => exact h0 a (hn a l z)
noncomputable def dU : List (M D) → M (List D)
  | [], δ => .ok [] δ
  | f :: fs, δ => match f δ with
    | .ok d δ1 => (match dU fs δ1 with
      | .ok ds δ2 => .ok (d :: ds) δ2
      | _ => .stuck)
    | _ => .stuck
theorem dU_no : ∀ (fs : List (M D)) (δ : DS) (x : D) (δ1 : DS), dU fs δ ≠ .err x δ1
  | [], δ, x, δ1 => fun h => by cases h
  | f :: fs, δ, x, δ1 => fun h => by
    unfold dU at h
    split at h
    · split at h <;> cases h
    · cases h
noncomputable def tU (X : Cx) (Z : Ent) (ow : List Nat) (cf : Nat → Nat) (k : Nat) (fs : List (M D)) : TA := fun σ H Q => ∃ F δ ga acc ys, acc.length = k ∧ Rel X.K Z ow F H σ δ ∧ AccC X.K Z.H0 F H ga cf acc ys ∧ (match dU fs δ with
  | .ok ds δ' => ∀ vs H' F' ga', Rel X.K Z ow F' H' σ δ' → AccC X.K Z.H0 F' H' ga' cf (acc ++ ds) (ys ++ vs) → Same F F' → Q vs H'
  | _ => False)
theorem de_bN {n : Nat} {e : Expr} {f : M D} (m : Nat) (h : ∀ F H σ, DE X (borZ F H σ m) (List.replicate m 0) n e f) : PE X e (fun σ H Q => ∃ F0, tD X (borZ F0 H σ m) (List.replicate m 0) n f σ H Q) := fun pins s σ H Q I ⟨F0, q⟩ => h F0 H σ pins s σ H Q I q
theorem du_nil {k : Nat} : PA X [] (tU X Z ow cf k []) := fun cp pins s σ H Q I h => by
  obtain ⟨F, δ, ga, acc, ys, hk, R, A, q⟩ := h
  exact pa_nil cp pins s σ H Q I (q [] H F ga R (by rw [List.append_nil, List.append_nil]; exact A) (Same.refl _))
theorem du_cons {k : Nat} (m : Nat) (hz : ow.all (· == 0) = true) (hh : ∀ F H σ, DE X (borZ F H σ m) (List.replicate m 0) (cf k) e f) (ht : PA X es (tU X Z ow cf (k + 1) fs)) (he : starEach (e :: es) X.env = (false, eval e X.env) :: starEach es X.env := by rfl) : PA X (e :: es) (tU X Z ow cf k (f :: fs)) :=
  PA.mono (pa_cons (de_bN m hh) ht he) fun σ H Q h => by
    obtain ⟨F, δ, ga, acc, ys, hk, R, A, q⟩ := h
    have hz' := zeros_of hz
    unfold dU at q
    cases e1 : f δ with
    | stuck => rw [e1] at q; exact q.elim
    | err x δ1 => rw [e1] at q; exact q.elim
    | ok d δ1 =>
      rw [e1] at q
      dsimp only at q
      refine ⟨F, F, δ, R.enter hz', ?_⟩
      rw [e1]
      rintro v H1 F1 ⟨g1, R1, o1⟩ s1
      rw [← hk] at o1
      obtain ⟨ga', A'⟩ := A.add R1 o1 fun a ha => by
        cases z : Z.H0 a with
        | none => rfl
        | some u =>
          obtain ⟨g4, R4⟩ := R
          exact absurd ha (R4.there a (by rw [z]; simp))
      cases e2 : dU fs δ1 with
      | stuck => rw [e2] at q; exact q.elim
      | err x δ2 => rw [e2] at q; exact q.elim
      | ok ds δ2 =>
        rw [e2] at q
        dsimp only at q
        refine ⟨F1, δ1, ga', acc ++ [d], ys ++ [v], by rw [List.length_append, hk]; rfl, R.leave hz' R1, A', ?_⟩
        rw [e2]
        intro vs H' F' ga2 R2 A2 s2
        rw [List.append_assoc, List.append_assoc] at A2
        exact q (v :: vs) H' F' ga2 R2 A2 (s1.trans' s2)
theorem AccC.shut {c : Nat} {acc : List D} {ys : List V} {p : Addr} {d : D} {o : HO} (hz : ∀ i, ow.getD i 0 = 0) (R : Rel K Z ow F H σ δ) (A : AccC K Z.H0 F H g (ch (c + 1)) acc ys) (hp : H p = none) (nd : Nd K (kd (c + 1)) d acc (.ref p) ys [(p, [], o)]) : RelX K Z ow (c + 1) d (.ref p) F (upd H p o) σ δ := by
  have fp := R.fnone hp
  have zp : Z.H0 p = none := by
    cases z : Z.H0 p with
    | none => rfl
    | some u =>
      obtain ⟨g4, R4⟩ := R
      exact absurd hp (R4.there p (by rw [z]; simp))
  refine ⟨fun b => if b = p then some (1000, []) else g b, (R.reg hz fun a i q e => ?_).grow (same_new hp _), ?_⟩
  · split at e
    · rename_i z; rw [z]; exact zp
    · exact A.lab a i q e
  · refine OwnR.shut (ds := acc) (vs := ys) (cs := [(p, [], o)]) nd (fun x hx => ?_) A.len fun k d' v' z1 z2 => ?_
    · rw [List.mem_singleton.mp hx]
      exact ⟨if_pos rfl, upd_same, fp⟩
    · refine OwnR.keep (Same.refl _) (fun a q u y1 y2 y3 => ?_) (A.own k d' v' z1 z2)
      have : a ≠ p := fun z => by rw [z, hp] at y2; cases y2
      exact ⟨by rw [if_neg this]; exact y1, by rw [upd_ne this]; exact y2, y3⟩
noncomputable def dTupC (fs : List (M D)) : M D := fun δ => (dU fs δ).bind fun ds δ1 => if ds.length ≤ sizeLine then .ok (.tuple ds) δ1 else .stuck
noncomputable def dLstC (fs : List (M D)) : M D := fun δ => (dU fs δ).bind fun ds δ1 => if ds.length ≤ sizeLine then .ok (.list ds) δ1 else .stuck
theorem acc_nil {H0 : Hp} : AccC K H0 F H (fun _ => none) cf [] [] := ⟨rfl, fun k d v e => (by cases e), fun a i p e => (by cases e)⟩
theorem de_tupC (C : Nat) {x1} (h : PA X es (tU X Z ow (ch C) 0 fs)) (hz : ow.all (· == 0) = true := by rfl) (hk : kd C = 1 := by rfl) : DE X Z ow C (.Tuple es x1 pos) (dTupC fs) := (pe_tup h).mono fun σ H Q q => by
  obtain ⟨F, δ, R, q⟩ := q
  cases C with
  | zero => cases hk
  | succ c =>
    unfold dTupC at q
    refine ⟨F, δ, fun _ => none, [], [], rfl, R, acc_nil, ?_⟩
    cases e1 : dU fs δ with
    | stuck => rw [e1] at q; exact q.elim
    | err x δ1 => exact False.elim (dU_no fs δ x δ1 e1)
    | ok ds δ1 =>
      rw [e1] at q
      simp only [Res.bind] at q
      intro vs H' F' ga' R' A' s'
      rw [List.nil_append, List.nil_append] at A'
      split at q
      · rename_i hl
        refine ⟨by rw [← A'.len]; exact hl, fun p hp => q _ _ F' (A'.shut (zeros_of hz) R' hp ?_) s'⟩
        rw [hk]
        exact ⟨p, rfl, rfl, rfl⟩
      · exact q.elim
theorem de_lstC (C : Nat) (h : PA X es (tU X Z ow (ch C) 0 fs)) (hz : ow.all (· == 0) = true := by rfl) (hk : kd C = 0 := by rfl) (h0 : C ≠ 0 := by decide) : DE X Z ow C (.List es pos) (dLstC fs) := (pe_lst h).mono fun σ H Q q => by
  obtain ⟨F, δ, R, q⟩ := q
  cases C with
  | zero => exact absurd rfl h0
  | succ c =>
    unfold dLstC at q
    refine ⟨F, δ, fun _ => none, [], [], rfl, R, acc_nil, ?_⟩
    cases e1 : dU fs δ with
    | stuck => rw [e1] at q; exact q.elim
    | err x δ1 => exact False.elim (dU_no fs δ x δ1 e1)
    | ok ds δ1 =>
      rw [e1] at q
      simp only [Res.bind] at q
      intro vs H' F' ga' R' A' s'
      rw [List.nil_append, List.nil_append] at A'
      split at q
      · rename_i hl
        refine ⟨by rw [← A'.len]; exact hl, fun p hp => q _ _ F' (A'.shut (zeros_of hz) R' hp ?_) s'⟩
        rw [hk]
        exact ⟨p, rfl, rfl, rfl⟩
      · exact q.elim
end
end L2
namespace L2
open PySem PySem.Spec PyProof.Rows
section
variable {X : Cx} {Z : Ent} {ow ow' ol ox : List Nat} {n rm m i j : Nat} {pos spos : Pos} {e : Expr} {F F' H H' : Hp} {σ : St} {δ : DS} {g : Addr → Option Lab} {K : PySem.W.Frag}
theorem OwnR.tup {p : List Nat} {d : D} {v : V} (h : OwnR K F H g i 10 p d v) : ∃ (a : Addr) (ds : List D) (vs : List V), d = .tuple ds ∧ v = .ref a ∧ g a = some (i, p) ∧ H a = some (.tup vs) ∧ F a = none ∧ ds.length = vs.length ∧
      ∀ (k : Nat) (d' : D) (v' : V), ds[k]? = some d' → vs[k]? = some v' → OwnR K F H g i (ch 10 k) (p ++ [k]) d' v' := by
  obtain ⟨ds, vs, cs, nd, hc, hl, r⟩ := OwnR.open (c := 9) h
  obtain ⟨a, rfl, rfl, rfl⟩ := nd
  obtain ⟨a1, a2, a3⟩ := hc _ (List.mem_singleton.mpr rfl)
  exact ⟨a, ds, vs, rfl, rfl, by simpa using a1, a2, a3, hl, r⟩
theorem OwnR.mkT {p : List Nat} {a : Addr} {ds : List D} {vs : List V} (a1 : g a = some (i, p)) (a2 : H a = some (.tup vs)) (a3 : F a = none) (hl : ds.length = vs.length)
    (r : ∀ (k : Nat) (d' : D) (v' : V), ds[k]? = some d' → vs[k]? = some v' → OwnR K F H g i (ch 10 k) (p ++ [k]) d' v') : OwnR K F H g i 10 p (.tuple ds) (.ref a) := by
  refine OwnR.shut (c := 9) (ds := ds) (vs := vs) (cs := [(a, [], .tup vs)]) ⟨a, rfl, rfl, rfl⟩ (fun x hx => ?_) hl r
  rw [List.mem_singleton.mp hx]
  exact ⟨by simpa using a1, a2, a3⟩
theorem RelG.at11 {ds es inner : List D} (R : RelG K Z ow g F H σ δ) (ho : ow.getD i 0 = 11) (hd : δ[i]? = some (some (.list ds))) (hj : ds[j]? = some (.tuple es)) (h0 : es[0]? = some (.list inner)) :
    ∃ a vs t ws b us, σ[i]? = some (some (.ref a)) ∧ H a = some (.lst vs) ∧ ds.length = vs.length ∧ vs[j]? = some (.ref t) ∧ H t = some (.tup ws) ∧ es.length = ws.length ∧ ws[0]? = some (.ref b) ∧ H b = some (.lst us) ∧ RepAll K F inner us := by
  obtain ⟨v, e1, o⟩ := R.slot i _ hd
  rw [ho] at o
  obtain ⟨a, ds0, vs, q1, q2, q3, q4, q5, q6, q7⟩ := o.lst (m := 10)
  cases q1
  subst q2
  have jl : j < vs.length := by rw [← q6]; exact (List.getElem?_eq_some_iff.mp hj).1
  obtain ⟨t, es0, ws, w1, w2, w3, w4, w5, w6, w7⟩ := (q7 j _ _ hj (List.getElem?_eq_getElem jl)).tup
  cases w1
  have zl : 0 < ws.length := by rw [← w6]; exact (List.getElem?_eq_some_iff.mp h0).1
  have o3 : OwnR K F H g i 1 _ _ _ := w7 0 _ _ h0 (List.getElem?_eq_getElem zl)
  obtain ⟨b, in0, us, y1, y2, y3, y4, y5, y6, y7⟩ := o3.lst (m := 0)
  cases y1
  exact ⟨a, vs, t, ws, b, us, e1, q4, q6, by rw [List.getElem?_eq_getElem jl, w2], w4, w6, by rw [List.getElem?_eq_getElem zl, y2], y4, RepAll.of y6 y7⟩
theorem RelG.rewrite11 {ds es inner inner' : List D} {vs ws us' : List V} {a t b : Addr} (R : RelG K Z ow g F H σ δ) (ho : ow.getD i 0 = 11) (hd : δ[i]? = some (some (.list ds))) (hj : ds[j]? = some (.tuple es)) (h0 : es[0]? = some (.list inner)) (hs : σ[i]? = some (some (.ref a))) (ha : H a = some (.lst vs)) (ht : vs[j]? = some (.ref t)) (hw : H t = some (.tup ws)) (hb : ws[0]? = some (.ref b)) (hr : RepAll K F inner' us') :
    RelG K Z ow g F (upd H b (.lst us')) σ (δ.set i (some (.list (ds.set j (.tuple (es.set 0 (.list inner'))))))) := by
  obtain ⟨v, e1, o⟩ := R.slot i _ hd
  rw [hs] at e1; cases e1
  rw [ho] at o
  obtain ⟨a', ds0, vs0, q1, q2, q3, q4, q5, q6, q7⟩ := o.lst (m := 10)
  cases q1
  cases q2
  rw [ha] at q4; cases q4
  have jl : j < vs.length := (List.getElem?_eq_some_iff.mp ht).1
  have jd : j < ds.length := by omega
  obtain ⟨t', es0, ws0, w1, w2, w3, w4, w5, w6, w7⟩ := (q7 j _ _ hj ht).tup
  cases w1
  cases w2
  rw [hw] at w4; cases w4
  have o3 : OwnR K F H g i 1 _ _ _ := w7 0 _ _ h0 hb
  obtain ⟨b', in0, us0, y1, y2, y3, y4, y5, y6, y7⟩ := o3.lst (m := 0)
  cases y1
  cases y2
  have w3 : g t = some (i, [j]) := w3
  have y3 : g b = some (i, [j, 0]) := y3
  have zl : 0 < es.length := (List.getElem?_eq_some_iff.mp h0).1
  have hi : i < δ.length := (List.getElem?_eq_some_iff.mp hd).1
  have nab : a ≠ b := fun z => by rw [z, y3] at q3; cases q3
  have ntb : t ≠ b := fun z => by rw [z, y3] at w3; cases w3
  refine ⟨fun b' u e => ?_, R.f0, fun b' u n e => ?_, R.new, fun b' z => ?_, R.lab, by rw [List.length_set]; exact R.len, R.par, fun k d e => ?_⟩
  · have : b' ≠ b := fun z => by rw [z, y5] at e; cases e
    rw [upd_ne this]; exact R.sub b' u e
  · have : b' ≠ b := fun z => by
      subst z
      rcases R.lab b' i _ y3 with w | ⟨q, w⟩
      · rw [w] at e; cases e
      · rw [w] at n; cases n
    rw [upd_ne this]; exact R.kept b' u n e
  · by_cases hb' : b' = b
    · subst hb'; rw [upd_same]; simp
    · rw [upd_ne hb']; exact R.there b' z
  · by_cases hk : k = i
    · subst hk
      rw [List.getElem?_set_self hi] at e
      cases e
      refine ⟨_, hs, ?_⟩
      rw [ho]
      refine OwnR.mkL (m := 10) ⟨a, _, vs, rfl, rfl, q3, by rw [upd_ne nab]; exact ha, q5, by rw [List.length_set]; exact q6, fun l d' v' z1 z2 => ?_⟩
      by_cases hl : j = l
      · subst hl
        rw [List.getElem?_set_self jd] at z1
        cases z1
        rw [ht] at z2
        cases z2
        refine OwnR.mkT w3 (by rw [upd_ne ntb]; exact hw) w5 (by rw [List.length_set]; exact w6) fun l2 d2 v2 x1 x2 => ?_
        by_cases hl2 : 0 = l2
        · subst hl2
          rw [List.getElem?_set_self zl] at x1
          cases x1
          rw [hb] at x2
          cases x2
          exact OwnR.mkL (c := 0) (m := 0) ⟨b, inner', us', rfl, rfl, y3, upd_same, y5, hr.len, fun k d' v' z1 z2 => hr.both k d' v' z1 z2⟩
        · rw [List.getElem?_set_ne hl2] at x1
          refine OwnR.updNe y3 (.inr fun z => ?_) (w7 l2 d2 v2 x1 x2)
          have z : [j, l2] <+: [j, 0] := z
          obtain ⟨s, hs⟩ := z
          injection hs with _ hs
          injection hs with h1 _
          exact hl2 h1.symm
      · rw [List.getElem?_set_ne hl] at z1
        refine OwnR.updNe y3 (.inr fun z => ?_) (q7 l d' v' z1 z2)
        have z : [l] <+: [j, 0] := z
        obtain ⟨s, hs⟩ := z
        injection hs with h1 _
        exact hl h1.symm
    · rw [List.getElem?_set_ne (Ne.symm hk)] at e
      obtain ⟨v, e1, o⟩ := R.slot k d e
      exact ⟨v, e1, OwnR.updNe y3 (.inl hk) o⟩
noncomputable def dMutP (ow : List Nat) (i : Nat) (fk fl : M D) (op : List D → List D → Option (D × List D)) (fs : List (M D)) : M D := fun δ => match δ[i]?, fk δ, fl δ with
  | some (some (.list ds)), .ok (.int k) _, .ok (.int l) _ => (match ixN ds.length k with
    | some j => (match ds[j]? with
      | some (.tuple es) => if ixN es.length l = some 0 then (match (es[0]? : Option D) with
        | some (.list inner) => (match dVals fs (hid ow δ) with
          | .ok args _ => (match op inner args with
            | some (ret, inner') => .ok ret (δ.set i (some (.list (ds.set j (.tuple (es.set 0 (.list inner')))))))
            | none => .stuck)
          | _ => .stuck)
        | _ => .stuck) else .stuck
      | _ => .stuck)
    | none => .stuck)
  | _, _, _ => .stuck
theorem dMutP_ok {fk fl : M D} {op : List D → List D → Option (D × List D)} {fs : List (M D)} : (∃ ds k δ2 l δ3 j es inner args δ4 ret inner', δ[i]? = some (some (.list ds)) ∧ fk δ = .ok (.int k) δ2 ∧ fl δ = .ok (.int l) δ3 ∧ ixN ds.length k = some j ∧ ds[j]? = some (.tuple es) ∧ ixN es.length l = some 0 ∧ es[0]? = some (.list inner) ∧ dVals fs (hid ow δ) = .ok args δ4 ∧ op inner args = some (ret, inner') ∧
    dMutP ow i fk fl op fs δ = .ok ret (δ.set i (some (.list (ds.set j (.tuple (es.set 0 (.list inner')))))))) ∨ dMutP ow i fk fl op fs δ = .stuck := by
  unfold dMutP
  split
  · rename_i ds k δ2 l δ3 e1 e2 e3
    split
    · rename_i j e4
      split
      · rename_i es e5
        split
        · rename_i e6
          split
          · rename_i inner e7
            split
            · rename_i args δ4 e8
              split
              · rename_i ret inner' e9
                exact .inl ⟨ds, k, δ2, l, δ3, j, es, inner, args, δ4, ret, inner', e1, e2, e3, e4, e5, e6, e7, e8, e9, rfl⟩
              · exact .inr rfl
            · exact .inr rfl
          · exact .inr rfl
        · exact .inr rfl
      · exact .inr rfl
    · exact .inr rfl
  · exact .inr rfl
theorem tMutP_of {r : V → List V → Hp → VK → Prop} {op : List D → List D → Option (D × List D)} {fk fl : M D} {fs : List (M D)} {Q : VK} (m : Nat) (ho : ow.getD i 0 = 11) (hm : MutS X r op) (h : tD X Z ow 0 (dMutP ow i fk fl op fs) σ H Q) :
    tVar i σ H fun x H1 => ∃ F0, tD X (borZ F0 H1 σ m) (List.replicate m 0) 0 fk σ H1 fun y H2 => rIxL X.K x y H2 fun w H3 => ∃ F2, tD X (borZ F2 H3 σ m) (List.replicate m 0) 0 fl σ H3 fun y2 H4 => rIxT X.K w y2 H4 fun v H5 => tyV X.K "list" v H5 ∧ ∃ F1, tV X (borZ F1 H5 σ m) (List.replicate m 0) fs σ H5 fun xs H6 => r v xs H6 Q := by
  obtain ⟨F, δ, ⟨g, R⟩, h⟩ := h
  rcases dMutP_ok (δ := δ) (ow := ow) (i := i) (fk := fk) (fl := fl) (op := op) (fs := fs) with ⟨ds, k, δ2, l, δ3, j, es, inner, args, δ4, ret, inner', e1, e2, e3, e4, e5, e6, e7, e8, e9, ee⟩ | ee
  · rw [ee] at h
    obtain ⟨a, vs, t, ws, b, us, q1, q2, q3, q4, q5, q6, q7, q8, q9⟩ := R.at11 ho e1 e5 e7
    refine ⟨_, q1, fzA g F H, fzA g F H, δ, R.bor, ?_⟩
    rw [e2]
    rintro v H1 F1 ⟨g1, R1, o1⟩ s1
    have ev : v = .int k := by
      have o1 : Rep X.K F1 (.int k) v := o1
      unfold Rep at o1
      exact o1
    subst ev
    have hk : Same H H1 := fun b o e => R1.kept b o rfl e
    have R2 := R.grow hk
    refine ⟨a, vs, k, .ref t, rfl, rfl, SqL.of (hk _ _ q2), ?_, fzA g F H1, fzA g F H1, δ, R2.bor, ?_⟩
    · unfold atI
      rw [← q3, e4]
      exact q4
    · rw [e3]
      rintro v2 H2 F2 ⟨g2, R2', o2⟩ s2
      have ev : v2 = .int l := by
        have o2 : Rep X.K F2 (.int l) v2 := o2
        unfold Rep at o2
        exact o2
      subst ev
      have hk2 : Same H1 H2 := fun b o e => R2'.kept b o rfl e
      have R3 := R2.grow hk2
      refine ⟨t, ws, l, .ref b, rfl, rfl, SqT.of (hk2 _ _ (hk _ _ q5)), ?_, .inl ⟨rfl, us, SqL.of (hk2 _ _ (hk _ _ q8))⟩, F, F, hid ow δ, R3.hide, ?_⟩
      · unfold atI
        rw [← q6, e6]
        exact q7
      · rw [e8]
        rintro xs H3 F3 ⟨g3, R4⟩ s3 ra
        have hk3 : Same H2 H3 := fun b o e => R4.kept b o rfl e
        have R5 := R3.back R4
        have hall : Same H H3 := fun b o e => hk3 _ _ (hk2 _ _ (hk _ _ e))
        obtain ⟨xs', rv, w1, w2, w3⟩ := hm F3 H3 b us xs inner args ret inner' (hall _ _ q8) R5.sub (s3.repAll _ _ q9) ra e9
        exact w3 Q (h rv _ F3 ⟨g, R5.rewrite11 ho e1 e5 e7 q1 (hall _ _ q2) q4 (hall _ _ q5) q7 w1, w2⟩ s3)
  · rw [ee] at h
    exact h.elim
noncomputable def dKillPop (i : Nat) : M Fl := fun δ => match δ[i]? with
  | some (some (.list ds)) => if ds.length = 0 then .stuck else .ok .next (δ.set i none)
  | _ => .stuck
theorem RelG.kill {a : Addr} {o : HO} (R : RelG K Z ow g F H σ δ) (h1 : g a = some (i, [])) (h2 : F a = none) : RelG K Z ow g F (upd H a o) σ (δ.set i none) := by
  refine ⟨fun b u e => ?_, R.f0, fun b u n e => ?_, R.new, fun b z => ?_, R.lab, by rw [List.length_set]; exact R.len, R.par, fun k d e => ?_⟩
  · have : b ≠ a := fun z => by rw [z, h2] at e; cases e
    rw [upd_ne this]; exact R.sub b u e
  · have : b ≠ a := fun z => by
      subst z
      rcases R.lab b i _ h1 with w | ⟨q, w⟩
      · rw [w] at e; cases e
      · rw [w] at n; cases n
    rw [upd_ne this]; exact R.kept b u n e
  · by_cases hb : b = a
    · subst hb; rw [upd_same]; simp
    · rw [upd_ne hb]; exact R.there b z
  · by_cases hk : k = i
    · subst hk
      by_cases hl : k < δ.length
      · rw [List.getElem?_set_self hl] at e; cases e
      · rw [List.getElem?_eq_none (by rw [List.length_set]; omega)] at e; cases e
    · rw [List.getElem?_set_ne (Ne.symm hk)] at e
      obtain ⟨v, e1, o⟩ := R.slot k d e
      exact ⟨v, e1, OwnR.updNe h1 (.inl hk) o⟩
theorem de_mutP (i m : Nat) {x : Str} {p p2 p3 q : Pos} {name : Str} {id : String} {ek el : Expr} {es : List Expr} {r : V → List V → Hp → VK → Prop} {op : List D → List D → Option (D × List D)} {fk fl : M D} {fs : List (M D)} (slot : Slot "list" name id) (hty : typeOf (.builtin id) = pure (.type "method_descriptor")) (hmr : MtR X id r) (hm : MutS X r op)
    (hk : ∀ F H σ, DE X (borZ F H σ m) (List.replicate m 0) 0 ek fk) (hl : ∀ F H σ, DE X (borZ F H σ m) (List.replicate m 0) 0 el fl) (ha : ∀ F H σ, DV X (borZ F H σ m) (List.replicate m 0) (e :: es) fs) (ho : ow.getD i 0 = 11 := by rfl) (hN : X.N[i]? = some x := by rfl) (hv : Vis X.env.scope x := by first | exact Or.inl rfl | exact Or.inr (Or.inl rfl) | exact Or.inr (Or.inr rfl)) (hd : (x == ("__debug__" : Str)) = false := by decide) (hcd : (x == ("__classdict__" : Str)) = false := by decide)
    (hp : PlainIx ek := by exact fun _ _ => rfl) (hp2 : PlainIx el := by exact fun _ _ => rfl)
    (hbase : attributeBase (.Subscript (.Subscript (.Name x p) ek p2) el p3) name X.env (eval (.Subscript (.Subscript (.Name x p) ek p2) el p3) X.env) = eval (.Subscript (.Subscript (.Name x p) ek p2) el p3) X.env := by rfl)
    (hfew : ((backTo pos (starEach (e :: es) X.env)).all (fun x => !x.1) && (backToKw pos (keywordEach [] X.env)).all (fun x => x.1.isSome)
      && decide ((e :: es).length + ([] : List Keyword).length + (if ([] : List Keyword).isEmpty then 0 else 1) < 30)) = true := by rfl)
    (hline : (q.endLine == pos.line) = true := by rfl) (hs : starEach (e :: es) X.env = (false, eval e X.env) :: starEach es X.env := by rfl) (hplain : (backTo pos (starEach es X.env)).any (·.1) = false := by rfl) :
    DE X Z ow 0 (.Call (.Attribute (.Subscript (.Subscript (.Name x p) ek p2) el p3) name q) (e :: es) [] pos) (dMutP ow i fk fl op fs) := PE.mono (pe_bm PySem.F.plainAttrs_list slot hty hmr (pe_ix ix_tup (pe_ix ix_list (pe_var hN hv hd hcd) (de_bIx m hk) hp) (de_bIx m hl) hp2) (dv_bor m ha) hbase hfew hline hs hplain) fun _ _ _ h => tMutP_of m ho hm h
theorem ds_popK (i : Nat) {x : Str} {p q : Pos} (hi0 : ow.getD i 0 ≠ 0 := by decide) (hkd : kd (ow.getD i 0) = 0 := by rfl) (hN : X.N[i]? = some x := by rfl) (hv : Vis X.env.scope x := by first | exact Or.inl rfl | exact Or.inr (Or.inl rfl) | exact Or.inr (Or.inr rfl)) (hd : (x == ("__debug__" : Str)) = false := by decide) (hcd : (x == ("__classdict__" : Str)) = false := by decide)
    (hbase : attributeBase (.Name x p) "pop" X.env (eval (.Name x p) X.env) = eval (.Name x p) X.env := by rfl) (hline : (q.endLine == pos.line) = true := by rfl) (hs : swapsWith (.Call (.Attribute (.Name x p) "pop" q) [] [] pos) none spos.line X.env = pure false := by rfl) :
    DS1 X Z ow ow ol ox rm (.Expr (.Call (.Attribute (.Name x p) "pop" q) [] [] pos) spos) (dKillPop i) := PS.mono (ps_expr (pe_bm0 PySem.F.plainAttrs_list PySem.F.slot_list_pop PySem.F.type_list_pop mt_pop (pe_var hN hv hd hcd) hbase hline) hs) fun Dn σ H h => by
  obtain ⟨F, δ, ⟨g, R⟩, h⟩ := h
  unfold dKillPop at h
  split at h
  · rename_i ds e0
    split at h
    · exact h.elim
    · rename_i hne
      obtain ⟨v, w1, o⟩ := R.slot i _ e0
      cases hc : ow.getD i 0 with
      | zero => exact absurd hc hi0
      | succ c =>
        rw [hc] at o hkd
        obtain ⟨ds0, vs, cs, nd, hcc, hl, r⟩ := o.open
        rw [hkd] at nd
        obtain ⟨a, d1, rfl, rfl⟩ := nd
        cases d1
        obtain ⟨a1, a2, a3⟩ := hcc _ (List.mem_singleton.mpr rfl)
        have a1 : g a = some (i, []) := by simpa using a1
        have hlt : vs.length - 1 < vs.length := by omega
        exact ⟨_, w1, .inl ⟨rfl, vs, SqL.of a2⟩, a, vs, vs[vs.length - 1], rfl, rfl, a2, List.getElem?_eq_getElem hlt, h σ _ F ⟨g, R.kill a1 a3⟩ (Same.refl _)⟩
  · exact h.elim
end
end L2
namespace L2
open PySem PySem.Spec
section
variable {δ : DS} {fs : List (M D)} {Q : D → DS → Prop} {ow : List Nat} {i : Nat} {fk fl : M D} {op : List D → List D → Option (D × List D)} {N B C : DS → Prop} {R : D → DS → Prop}
theorem v_u : ∀ {fs : List (M D)} {δ : DS} {Q : List D → DS → Prop}, wpV (dU fs) δ Q = wpV (dVals fs) δ Q
  | [], _, _ => rfl
  | f :: fs, δ, Q => by
    rw [v_vals]
    unfold wpV
    rw [dU]
    cases e : f δ with
    | stuck => rfl
    | err x d => rfl
    | ok a d =>
      dsimp only
      have := v_u (fs := fs) (δ := d) (Q := fun ds δ2 => Q (a :: ds) δ2)
      unfold wpV at this
      rw [← this]
      cases dU fs d <;> rfl
theorem v_tupC : wpV (dTupC fs) δ Q = wpV (dVals fs) δ fun ds δ1 => ds.length ≤ sizeLine ∧ Q (.tuple ds) δ1 := by
  rw [← v_u]
  unfold wpV dTupC
  cases dU fs δ with
  | stuck => rfl
  | err x d => rfl
  | ok a d =>
    simp only [Res.bind]
    by_cases h : a.length ≤ sizeLine
    · rw [if_pos h]; simp [h]
    · rw [if_neg h]; simp [h]
theorem v_lstC : wpV (dLstC fs) δ Q = wpV (dVals fs) δ fun ds δ1 => ds.length ≤ sizeLine ∧ Q (.list ds) δ1 := by
  rw [← v_u]
  unfold wpV dLstC
  cases dU fs δ with
  | stuck => rfl
  | err x d => rfl
  | ok a d =>
    simp only [Res.bind]
    by_cases h : a.length ≤ sizeLine
    · rw [if_pos h]; simp [h]
    · rw [if_neg h]; simp [h]
end
end L2
set_option maxRecDepth 100000
set_option maxHeartbeats 4000000
open L2 in
seal DE DT DS1 DSs DV DA DI DO PIf PG TgS TgC PGs PW
namespace Toy
open PySem L2
noncomputable def top (i : Nat) : Stmt := PySem.Challenge.pw_keel_k10_weights_and_rows.main.body.getD i (.Pass ⟨0, 0, 0, 0⟩)
noncomputable abbrev s_added : Stmt := top 4
theorem sc_added : FnScope ["sums", "weight", "place"] ["sums", "weight", "place"] (defScope s_added) := ⟨rfl, rfl, rfl, by decide +kernel, rfl, by decide +kernel, by decide +kernel⟩
noncomputable abbrev s_weights : Stmt := top 5
theorem sc_weights : FnScope ["ship", "cargo", "own", "sums", "stack", "boxes", "t", "box", "place"] ["ship", "cargo"] (defScope s_weights) := ⟨rfl, rfl, rfl, by decide +kernel, rfl, by decide +kernel, by decide +kernel⟩
noncomputable abbrev s_row_of_high : Stmt := top 6
theorem sc_row_of_high : FnScope ["tanks", "axis", "high", "sums"] ["tanks", "axis", "high", "sums"] (defScope s_row_of_high) := ⟨rfl, rfl, rfl, by decide +kernel, rfl, by decide +kernel, by decide +kernel⟩
theorem nd_row_of_high_1 : (["tank", "tanks", "axis", "high", "sums"] : List Str).Nodup := by decide +kernel
noncomputable abbrev s_row_of_low : Stmt := top 7
theorem sc_row_of_low : FnScope ["tanks", "axis", "low", "sums"] ["tanks", "axis", "low", "sums"] (defScope s_row_of_low) := ⟨rfl, rfl, rfl, by decide +kernel, rfl, by decide +kernel, by decide +kernel⟩
theorem nd_row_of_low_1 : (["tank", "tanks", "axis", "low", "sums"] : List Str).Nodup := by decide +kernel
noncomputable abbrev s_rows_of : Stmt := top 8
theorem sc_rows_of : FnScope ["ship", "cargo", "bounds", "tanks", "sums"] ["ship", "cargo"] (defScope s_rows_of) := ⟨rfl, rfl, rfl, by decide +kernel, rfl, by decide +kernel, by decide +kernel⟩
theorem nd_rows_of_1 : (["tank", "ship", "cargo", "bounds", "tanks", "sums"] : List Str).Nodup := by decide +kernel
noncomputable abbrev s_l_draw : Stmt := top 10
theorem sc_l_draw : FnScope ["_law_feed", "_law_many", "_law_at", "_law_cell"] ["_law_feed", "_law_many"] (defScope s_l_draw) := ⟨rfl, rfl, rfl, by decide +kernel, rfl, by decide +kernel, by decide +kernel⟩
noncomputable abbrev s_l_number : Stmt := top 11
theorem sc_l_number : FnScope ["_law_feed", "_law_wide"] ["_law_feed"] (defScope s_l_number) := ⟨rfl, rfl, rfl, by decide +kernel, rfl, by decide +kernel, by decide +kernel⟩
noncomputable abbrev s_l_size : Stmt := top 12
theorem sc_l_size : FnScope ["_law_feed"] ["_law_feed"] (defScope s_l_size) := ⟨rfl, rfl, rfl, by decide +kernel, rfl, by decide +kernel, by decide +kernel⟩
noncomputable abbrev s_l_ship : Stmt := top 13
theorem sc_l_ship : FnScope ["_law_feed", "_law_own", "_law_bounds", "_law_way", "_law_low", "_law_stacks", "_law_cargo", "_law_s", "_law_spot", "_law_stack", "_law_t", "_law_tanks", "_law_k"] ["_law_feed"] (defScope s_l_ship) := ⟨rfl, rfl, rfl, by decide +kernel, rfl, by decide +kernel, by decide +kernel⟩
noncomputable abbrev s_l_sums : Stmt := top 14
theorem sc_l_sums : FnScope ["_law_ship_here", "_law_cargo", "_law_sums_here", "_law_s", "_law_up", "_law_box", "_law_more"] ["_law_ship_here", "_law_cargo"] (defScope s_l_sums) := ⟨rfl, rfl, rfl, by decide +kernel, rfl, by decide +kernel, by decide +kernel⟩
theorem nd_l_sums_1 : (["_law_k", "_law_ship_here", "_law_cargo", "_law_sums_here", "_law_s", "_law_up", "_law_box", "_law_more"] : List Str).Nodup := by decide +kernel
noncomputable abbrev s_l_rows : Stmt := top 15
theorem sc_l_rows : FnScope ["_law_ship_here", "_law_sums_here", "_law_due", "_law_way", "_law_low", "_law_high"] ["_law_ship_here", "_law_sums_here"] (defScope s_l_rows) := ⟨rfl, rfl, rfl, by decide +kernel, rfl, by decide +kernel, by decide +kernel⟩
theorem nd_l_rows_1 : (["_law_tank", "_law_ship_here", "_law_sums_here", "_law_due", "_law_way", "_law_low", "_law_high"] : List Str).Nodup := by decide +kernel
theorem nd_l_rows_2 : (["_law_tank", "_law_ship_here", "_law_sums_here", "_law_due", "_law_way", "_law_low", "_law_high"] : List Str).Nodup := by decide +kernel
theorem nd_l_rows_3 : (["_law_tank", "_law_ship_here", "_law_sums_here", "_law_due", "_law_way", "_law_low", "_law_high"] : List Str).Nodup := by decide +kernel
theorem nd_l_rows_4 : (["_law_tank", "_law_ship_here", "_law_sums_here", "_law_due", "_law_way", "_law_low", "_law_high"] : List Str).Nodup := by decide +kernel
noncomputable abbrev s_l_whole : Stmt := top 16
theorem sc_l_whole : FnScope ["_law_found"] ["_law_found"] (defScope s_l_whole) := ⟨rfl, rfl, rfl, by decide +kernel, rfl, by decide +kernel, by decide +kernel⟩
noncomputable abbrev s_l_alike : Stmt := top 17
theorem sc_l_alike : FnScope ["_law_found", "_law_due", "_law_k", "_law_number_here"] ["_law_found", "_law_due"] (defScope s_l_alike) := ⟨rfl, rfl, rfl, by decide +kernel, rfl, by decide +kernel, by decide +kernel⟩
noncomputable abbrev s_law : Stmt := top 18
theorem sc_law : FnScope ["_law_script", "_law_feed", "_law_made", "_law_ship_here", "_law_cargo", "_law_sums_here", "_law_found", "_law_number_here", "_law_due", "_law_handed", "_law_told"] ["_law_script"] (defScope s_law) := ⟨rfl, rfl, rfl, by decide +kernel, rfl, by decide +kernel, by decide +kernel⟩
theorem nd_law_1 : (["_law_stack", "_law_script", "_law_feed", "_law_made", "_law_ship_here", "_law_cargo", "_law_sums_here", "_law_found", "_law_number_here", "_law_due", "_law_handed", "_law_told"] : List Str).Nodup := by decide +kernel
theorem nd_law_2 : (["_law_stack", "_law_script", "_law_feed", "_law_made", "_law_ship_here", "_law_cargo", "_law_sums_here", "_law_found", "_law_number_here", "_law_due", "_law_handed", "_law_told"] : List Str).Nodup := by decide +kernel
set_option genInjectivity false in
set_option genSizeOf false in
structure Txt (K : PySem.W.Frag) (mg : Str → Option Value) where
  f_added : Addr
  fd_added : FuncData
  F_added : Fun K "added" "added" s_added f_added fd_added
  b_added : Binds K fd_added ["sums", "weight", "place"] []
  m_added : mg "added" = some (.ref f_added)
  f_weights : Addr
  fd_weights : FuncData
  F_weights : Fun K "weights" "weights" s_weights f_weights fd_weights
  b_weights : Binds K fd_weights ["ship", "cargo"] []
  m_weights : mg "weights" = some (.ref f_weights)
  f_row_of_high : Addr
  fd_row_of_high : FuncData
  F_row_of_high : Fun K "row_of_high" "row_of_high" s_row_of_high f_row_of_high fd_row_of_high
  b_row_of_high : Binds K fd_row_of_high ["tanks", "axis", "high", "sums"] []
  m_row_of_high : mg "row_of_high" = some (.ref f_row_of_high)
  f_row_of_low : Addr
  fd_row_of_low : FuncData
  F_row_of_low : Fun K "row_of_low" "row_of_low" s_row_of_low f_row_of_low fd_row_of_low
  b_row_of_low : Binds K fd_row_of_low ["tanks", "axis", "low", "sums"] []
  m_row_of_low : mg "row_of_low" = some (.ref f_row_of_low)
  f_rows_of : Addr
  fd_rows_of : FuncData
  F_rows_of : Fun K "rows_of" "rows_of" s_rows_of f_rows_of fd_rows_of
  b_rows_of : Binds K fd_rows_of ["ship", "cargo"] []
  m_rows_of : mg "rows_of" = some (.ref f_rows_of)
  f_l_draw : Addr
  fd_l_draw : FuncData
  F_l_draw : Fun K "_law_draw" "_law_draw" s_l_draw f_l_draw fd_l_draw
  b_l_draw : Binds K fd_l_draw ["_law_feed", "_law_many"] []
  m_l_draw : mg "_law_draw" = some (.ref f_l_draw)
  f_l_number : Addr
  fd_l_number : FuncData
  F_l_number : Fun K "_law_number" "_law_number" s_l_number f_l_number fd_l_number
  b_l_number : Binds K fd_l_number ["_law_feed"] []
  m_l_number : mg "_law_number" = some (.ref f_l_number)
  f_l_size : Addr
  fd_l_size : FuncData
  F_l_size : Fun K "_law_size" "_law_size" s_l_size f_l_size fd_l_size
  b_l_size : Binds K fd_l_size ["_law_feed"] []
  m_l_size : mg "_law_size" = some (.ref f_l_size)
  f_l_ship : Addr
  fd_l_ship : FuncData
  F_l_ship : Fun K "_law_ship" "_law_ship" s_l_ship f_l_ship fd_l_ship
  b_l_ship : Binds K fd_l_ship ["_law_feed"] []
  m_l_ship : mg "_law_ship" = some (.ref f_l_ship)
  f_l_sums : Addr
  fd_l_sums : FuncData
  F_l_sums : Fun K "_law_sums" "_law_sums" s_l_sums f_l_sums fd_l_sums
  b_l_sums : Binds K fd_l_sums ["_law_ship_here", "_law_cargo"] []
  m_l_sums : mg "_law_sums" = some (.ref f_l_sums)
  f_l_rows : Addr
  fd_l_rows : FuncData
  F_l_rows : Fun K "_law_rows" "_law_rows" s_l_rows f_l_rows fd_l_rows
  b_l_rows : Binds K fd_l_rows ["_law_ship_here", "_law_sums_here"] []
  m_l_rows : mg "_law_rows" = some (.ref f_l_rows)
  f_l_whole : Addr
  fd_l_whole : FuncData
  F_l_whole : Fun K "_law_whole" "_law_whole" s_l_whole f_l_whole fd_l_whole
  b_l_whole : Binds K fd_l_whole ["_law_found"] []
  m_l_whole : mg "_law_whole" = some (.ref f_l_whole)
  f_l_alike : Addr
  fd_l_alike : FuncData
  F_l_alike : Fun K "_law_alike" "_law_alike" s_l_alike f_l_alike fd_l_alike
  b_l_alike : Binds K fd_l_alike ["_law_found", "_law_due"] []
  m_l_alike : mg "_law_alike" = some (.ref f_l_alike)
  f_law : Addr
  fd_law : FuncData
  F_law : Fun K "law" "law" s_law f_law fd_law
  b_law : Binds K fd_law ["_law_script"] []
  m_law : mg "law" = some (.ref f_law)
  z_abs : mg "abs" = none
  z_bool : mg "bool" = none
  z_enumerate : mg "enumerate" = none
  z_int : mg "int" = none
  z_isinstance : mg "isinstance" = none
  z_len : mg "len" = none
  z_list : mg "list" = none
  z_min : mg "min" = none
  z_range : mg "range" = none
  z_tuple : mg "tuple" = none
  z_zip : mg "zip" = none
  g_ABOVE : ∃ t, mg "ABOVE" = some (.int 3 t)
  g_ACROSS : ∃ t, mg "ACROSS" = some (.int 2 t)
  g_ALONG : ∃ t, mg "ALONG" = some (.int 1 t)
noncomputable def b_added : M Fl :=
    (dRet (dTup [(dOp addD (dOp ixD (dVar 0) (dC (.int 0))) (dVar 1)), (dOp addD (dOp ixD (dVar 0) (dC (.int 1))) (dOp mulD (dVar 1) (dOp ixD (dVar 2) (dC (.int 0))))), (dOp addD (dOp ixD (dVar 0) (dC (.int 2))) (dOp mulD (dVar 1) (dOp ixD (dVar 2) (dC (.int 1))))), (dOp addD (dOp ixD (dVar 0) (dC (.int 3))) (dOp mulD (dVar 1) (dOp ixD (dVar 2) (dC (.int 2)))))]))
noncomputable def d_added : List D → Res D := runFn 3 [] 0 b_added
noncomputable def b_weights : M Fl :=
    (dSeq (dSet 2 (dOp ixD (dVar 0) (dC (.int 0))))
    (dSeq (dSet 3 (dCall d_added [.val (dTup [(dC (.int 0)), (dC (.int 0)), (dC (.int 0)), (dC (.int 0))]), .val (dOp ixD (dVar 2) (dC (.int 0))), .val (dSl cutT (dVar 2) (some (dC (.int 1))) none)]))
    (dSeq (dForI (setT [4, 5]) (dZip (dOp ixD (dVar 0) (dC (.int 2))) (dVar 1))
      (dForI (setT [6, 7]) (dEnum (dVar 5))
        (dSeq (dSet 8 (dTup [(dOp ixD (dVar 4) (dC (.int 1))), (dOp ixD (dVar 4) (dC (.int 2))), (dOp addD (dOp ixD (dVar 4) (dC (.int 3))) (dOp mulD (dVar 6) (dOp ixD (dVar 4) (dC (.int 4)))))]))
        (dSet 3 (dCall d_added [.val (dVar 3), .val (dOp ixD (dVar 7) (dC (.int 1))), .val (dVar 8)])))))
    (dRet (dVar 3)))))
noncomputable def d_weights : List D → Res D := runFn 9 [] 0 b_weights
noncomputable def b_row_of_high : M Fl :=
    (dRet (dTupC [(dComp 1 (setN 0) (dItems (dVar 0)) dTrue (dOp subD (dOp ixD (dVar 0) (dVar 2)) (dVar 3))), (dOp subD (dOp mulD (dVar 2) (dOp ixD (dVar 3) (dC (.int 0)))) (dOp ixD (dVar 3) (dVar 1)))]))
noncomputable def d_row_of_high : List D → Res D := runFn 4 [] 10 b_row_of_high
noncomputable def b_row_of_low : M Fl :=
    (dRet (dTupC [(dComp 1 (setN 0) (dItems (dVar 0)) dTrue (dOp subD (dVar 3) (dOp ixD (dVar 0) (dVar 2)))), (dOp subD (dOp ixD (dVar 3) (dVar 1)) (dOp mulD (dVar 2) (dOp ixD (dVar 3) (dC (.int 0)))))]))
noncomputable def d_row_of_low : List D → Res D := runFn 4 [] 10 b_row_of_low
noncomputable def b_rows_of : M Fl :=
    (dSeq (dSet 2 (dOp ixD (dVar 0) (dC (.int 1))))
    (dSeq (dSet 3 (dOp ixD (dVar 0) (dC (.int 3))))
    (dSeq (dSet 4 (dCall d_weights [.val (dVar 0), .val (dVar 1)]))
    (dRet (dLstC [(dCall d_row_of_high [.val (dVar 3), .val (dC (.int 1)), .val (dOp ixD (dVar 2) (dC (.int 1))), .val (dVar 4)]), (dCall d_row_of_low [.val (dVar 3), .val (dC (.int 1)), .val (dOp ixD (dVar 2) (dC (.int 0))), .val (dVar 4)]), (dCall d_row_of_high [.val (dVar 3), .val (dC (.int 2)), .val (dOp ixD (dVar 2) (dC (.int 3))), .val (dVar 4)]), (dCall d_row_of_low [.val (dVar 3), .val (dC (.int 2)), .val (dOp ixD (dVar 2) (dC (.int 2))), .val (dVar 4)]), (dCall d_row_of_high [.val (dVar 3), .val (dC (.int 3)), .val (dOp ixD (dVar 2) (dC (.int 4))), .val (dVar 4)]), (dTupC [(dComp 1 (setN 0) (dItems (dVar 3)) dTrue (dC (.int 1))), (dOp subD (dOp ixD (dVar 2) (dC (.int 5))) (dOp ixD (dVar 4) (dC (.int 0))))])])))))
noncomputable def d_rows_of : List D → Res D := runFn 5 [] 11 b_rows_of
noncomputable def b_l_draw : M Fl :=
    (dSeq (dSet 2 (dIxO 0 (dC (.int 1))))
    (dSeq (dPut 0 (dC (.int 1)) (dOp addD (dVar 2) (dC (.int 1))))
    (dSeq (dSet 3 (dVar 2))
    (dSeq (dIfS (dB (dOp gtD (dFn lenD [(dIxO 0 (dC (.int 0)))]) (dC (.int 0))))
      (dSet 3 (dOp addD (dOp ixD (dIxO 0 (dC (.int 0))) (dOp modD (dVar 2) (dFn lenD [(dIxO 0 (dC (.int 0)))]))) (dOp mulD (dOp fdivD (dVar 2) (dFn lenD [(dIxO 0 (dC (.int 0)))])) (dC (.int 31)))))
      dNext)
    (dRet (dOp modD (dOp modD (dOp mulD (dVar 3) (dC (.int 48271))) (dC (.int 1000003))) (dVar 1)))))))
noncomputable def d_l_draw : List D → Res D := runFn 4 [0] 0 b_l_draw
noncomputable def b_l_number : M Fl :=
    (dSeq (dSet 1 (dOp ixD (dLst [(dC (.int 9)), (dC (.int 1000)), (dOp powD (dC (.int 10)) (dC (.int 9)))]) (dCall d_l_draw [.own 0, .val (dC (.int 3))])))
    (dRet (dOp subD (dOp modD (dOp addD (dOp mulD (dCall d_l_draw [.own 0, .val (dC (.int 1000003))]) (dC (.int 1000003))) (dCall d_l_draw [.own 0, .val (dC (.int 1000003))])) (dOp addD (dOp mulD (dC (.int 2)) (dVar 1)) (dC (.int 1)))) (dVar 1))))
noncomputable def d_l_number : List D → Res D := runFn 2 [0] 0 b_l_number
noncomputable def b_l_size : M Fl :=
    (dRet (dOp addD (dC (.int 1)) (dOp modD (dFn absD [(dCall d_l_number [.own 0])]) (dOp powD (dC (.int 10)) (dC (.int 9))))))
noncomputable def d_l_size : List D → Res D := runFn 1 [0] 0 b_l_size
noncomputable def b_l_ship : M Fl :=
    (dSeq (dSet 1 (dTup [(dCall d_l_size [.own 0]), (dCall d_l_number [.own 0]), (dCall d_l_number [.own 0]), (dCall d_l_number [.own 0])]))
    (dSeq (dSet 2 (dLst []))
    (dSeq (dForI (setN 3) (dRng [(dC (.int 2))])
      (dSeq (dSet 4 (dCall d_l_number [.own 0]))
      (dSet 2 (dOp addD (dVar 2) (dLst [(dVar 4), (dFn min2D [(dOp powD (dC (.int 10)) (dC (.int 9))), (dOp addD (dVar 4) (dCall d_l_draw [.own 0, .val (dC (.int 99))]))])])))))
    (dSeq (dSet 2 (dFn tupleD [(dOp addD (dVar 2) (dLst [(dCall d_l_number [.own 0]), (dCall d_l_size [.own 0])]))]))
    (dSeq (dSet 5 (dLst []))
    (dSeq (dSet 6 (dLst []))
    (dSeq (dForI (setN 7) (dRng [(dCall d_l_draw [.own 0, .val (dC (.int 5))])])
      (dSeq (dSet 8 (dTup [(dOp ixD (dC (.str "abcdef")) (dVar 7)), (dCall d_l_number [.own 0]), (dCall d_l_number [.own 0]), (dCall d_l_number [.own 0])]))
      (dSeq (dDrop (dMut 5 appD [(dOp addD (dVar 8) (dTup [(dCall d_l_size [.own 0]), (dOp addD (dC (.int 1)) (dCall d_l_draw [.own 0, .val (dC (.int 6))])), (dCall d_l_size [.own 0])]))]))
      (dSeq (dSet 9 (dLst []))
      (dSeq (dForI (setN 10) (dRng [(dCall d_l_draw [.own 0, .val (dC (.int 6))])])
        (dDrop (dMut 9 appD [(dTup [(dOp addD (dOp ixD (dC (.str "abcdef")) (dVar 7)) (dOp ixD (dC (.str "ghijkl")) (dVar 10))), (dCall d_l_size [.own 0]), (dC (.str "p")), (dC (.str "k")), (dCall d_l_size [.own 0])])])))
      (dDrop (dMut 6 appD [(dVar 9)])))))))
    (dSeq (dSet 11 (dLst []))
    (dSeq (dForI (setN 12) (dRng [(dCall d_l_draw [.own 0, .val (dC (.int 5))])])
      (dDrop (dMut 11 appD [(dTup [(dOp ixD (dC (.str "abcdef")) (dVar 12)), (dCall d_l_number [.own 0]), (dCall d_l_number [.own 0]), (dCall d_l_number [.own 0]), (dCall d_l_size [.own 0])])])))
    (dRet (dTup [(dTup [(dVar 1), (dVar 2), (dVar 5), (dVar 11), (dLst [])]), (dVar 6)])))))))))))
noncomputable def d_l_ship : List D → Res D := runFn 13 [0] 0 b_l_ship
noncomputable def b_l_sums : M Fl :=
    (dSeq (dSet 2 (dLst [(dOp ixD (dOp ixD (dVar 0) (dC (.int 0))) (dC (.int 0))), (dOp mulD (dOp ixD (dOp ixD (dVar 0) (dC (.int 0))) (dC (.int 0))) (dOp ixD (dOp ixD (dVar 0) (dC (.int 0))) (dC (.int 1)))), (dOp mulD (dOp ixD (dOp ixD (dVar 0) (dC (.int 0))) (dC (.int 0))) (dOp ixD (dOp ixD (dVar 0) (dC (.int 0))) (dC (.int 2)))), (dOp mulD (dOp ixD (dOp ixD (dVar 0) (dC (.int 0))) (dC (.int 0))) (dOp ixD (dOp ixD (dVar 0) (dC (.int 0))) (dC (.int 3))))]))
    (dSeq (dForI (setN 3) (dRng [(dFn lenD [(dVar 1)])])
      (dSeq (dSet 4 (dOp ixD (dOp ixD (dOp ixD (dVar 0) (dC (.int 2))) (dVar 3)) (dC (.int 3))))
      (dForI (setN 5) (dItems (dOp ixD (dVar 1) (dVar 3)))
        (dSeq (dSet 6 (dLst [(dOp ixD (dVar 5) (dC (.int 1))), (dOp mulD (dOp ixD (dVar 5) (dC (.int 1))) (dOp ixD (dOp ixD (dOp ixD (dVar 0) (dC (.int 2))) (dVar 3)) (dC (.int 1)))), (dOp mulD (dOp ixD (dVar 5) (dC (.int 1))) (dOp ixD (dOp ixD (dOp ixD (dVar 0) (dC (.int 2))) (dVar 3)) (dC (.int 2)))), (dOp mulD (dOp ixD (dVar 5) (dC (.int 1))) (dVar 4))]))
        (dSeq (dSet 2 (dComp 1 (setN 0) (dRng [(dC (.int 4))]) dTrue (dOp addD (dOp ixD (dVar 3) (dVar 0)) (dOp ixD (dVar 7) (dVar 0)))))
        (dSet 4 (dOp addD (dVar 4) (dOp ixD (dOp ixD (dOp ixD (dVar 0) (dC (.int 2))) (dVar 3)) (dC (.int 4))))))))))
    (dRet (dVar 2))))
noncomputable def d_l_sums : List D → Res D := runFn 7 [] 0 b_l_sums
noncomputable def b_l_rows : M Fl :=
    (dSeq (dSet 2 (dLst []))
    (dSeq (dForI (setN 3) (dItems (dLst [(dC (.int 1)), (dC (.int 2))]))
      (dSeq (dSet 4 (dOp ixD (dOp ixD (dVar 0) (dC (.int 1))) (dOp subD (dOp mulD (dC (.int 2)) (dVar 3)) (dC (.int 2)))))
      (dSeq (dSet 5 (dOp ixD (dOp ixD (dVar 0) (dC (.int 1))) (dOp subD (dOp mulD (dC (.int 2)) (dVar 3)) (dC (.int 1)))))
      (dSeq (dDrop (dMut 2 appD [(dTup [(dComp 1 (setN 0) (dItems (dOp ixD (dVar 0) (dC (.int 3)))) dTrue (dOp subD (dOp ixD (dVar 0) (dVar 4)) (dVar 6))), (dOp subD (dOp mulD (dVar 5) (dOp ixD (dVar 1) (dC (.int 0)))) (dOp ixD (dVar 1) (dVar 3)))])]))
      (dDrop (dMut 2 appD [(dTup [(dComp 1 (setN 0) (dItems (dOp ixD (dVar 0) (dC (.int 3)))) dTrue (dOp subD (dVar 5) (dOp ixD (dVar 0) (dVar 4)))), (dOp subD (dOp ixD (dVar 1) (dVar 3)) (dOp mulD (dVar 4) (dOp ixD (dVar 1) (dC (.int 0)))))])]))))))
    (dSeq (dDrop (dMut 2 appD [(dTup [(dComp 1 (setN 0) (dItems (dOp ixD (dVar 0) (dC (.int 3)))) dTrue (dOp subD (dOp ixD (dVar 0) (dC (.int 3))) (dOp ixD (dOp ixD (dVar 1) (dC (.int 1))) (dC (.int 4))))), (dOp subD (dOp mulD (dOp ixD (dOp ixD (dVar 0) (dC (.int 1))) (dC (.int 4))) (dOp ixD (dVar 1) (dC (.int 0)))) (dOp ixD (dVar 1) (dC (.int 3))))])]))
    (dSeq (dDrop (dMut 2 appD [(dTup [(dComp 1 (setN 0) (dItems (dOp ixD (dVar 0) (dC (.int 3)))) dTrue (dC (.int 1))), (dOp subD (dOp ixD (dOp ixD (dVar 0) (dC (.int 1))) (dC (.int 5))) (dOp ixD (dVar 1) (dC (.int 0))))])]))
    (dRet (dVar 2))))))
noncomputable def d_l_rows : List D → Res D := runFn 6 [] 0 b_l_rows
noncomputable def b_l_whole : M Fl :=
    (dRet (dAndV (dUn (isiD .int) (dVar 0)) (dNotV (dUn (isiD .bool) (dVar 0)))))
noncomputable def d_l_whole : List D → Res D := runFn 1 [] 0 b_l_whole
noncomputable def b_l_alike : M Fl :=
    (dSeq (dIfS (dOrT (dNotT (dB (dUn (isiD .list) (dVar 0)))) (dB (dOp neD (dFn lenD [(dVar 0)]) (dC (.int 6)))))
      (dRet (dC (.bool false)))
      dNext)
    (dSeq (dForI (setN 2) (dRng [(dC (.int 6))])
      (dSeq (dIfS (dOrT (dNotT (dB (dUn (isiD .tuple) (dOp ixD (dVar 0) (dVar 2))))) (dOrT (dB (dOp neD (dFn lenD [(dOp ixD (dVar 0) (dVar 2))]) (dC (.int 2)))) (dNotT (dB (dUn (isiD .list) (dOp ixD (dOp ixD (dVar 0) (dVar 2)) (dC (.int 0))))))))
        (dRet (dC (.bool false)))
        dNext)
      (dForI (setN 3) (dItems (dOp addD (dOp ixD (dOp ixD (dVar 0) (dVar 2)) (dC (.int 0))) (dLst [(dOp ixD (dOp ixD (dVar 0) (dVar 2)) (dC (.int 1)))])))
        (dIfS (dNotT (dB (dCall d_l_whole [.val (dVar 3)])))
          (dRet (dC (.bool false)))
          dNext))))
    (dRet (dOp eqD (dVar 0) (dVar 1)))))
noncomputable def d_l_alike : List D → Res D := runFn 4 [] 0 b_l_alike
noncomputable def b_law : M Fl :=
    (dSeq (dSet 1 (dLst [(dSl cutL (dVar 0) none (some (dC (.int 120)))), (dC (.int 0))]))
    (dSeq (dSet 2 (dCall d_l_ship [.own 1]))
    (dSeq (dSet 3 (dOp ixD (dVar 2) (dC (.int 0))))
    (dSeq (dSet 4 (dOp ixD (dVar 2) (dC (.int 1))))
    (dSeq (dSet 5 (dCall d_l_sums [.val (dVar 3), .val (dVar 4)]))
    (dSeq (dSet 6 (dCall d_weights [.val (dVar 3), .val (dComp 1 (setN 0) (dItems (dVar 4)) dTrue (dFn listD [(dVar 0)]))]))
    (dSeq (dIfS (dOrT (dNotT (dB (dUn (isiD .tuple) (dVar 6)))) (dOrT (dB (dOp neD (dFn lenD [(dVar 6)]) (dC (.int 4)))) (dB (dOp neD (dVar 6) (dFn tupleD [(dVar 5)])))))
      (dRet (dC (.bool false)))
      dNext)
    (dSeq (dForI (setN 7) (dItems (dVar 6))
      (dIfS (dNotT (dB (dCall d_l_whole [.val (dVar 7)])))
        (dRet (dC (.bool false)))
        dNext))
    (dSeq (dSet 8 (dCall d_l_rows [.val (dVar 3), .val (dVar 5)]))
    (dSeq (dSet 9 (dComp 1 (setN 0) (dItems (dVar 4)) dTrue (dFn listD [(dVar 0)])))
    (dSeq (dSet 10 (dCall d_rows_of [.val (dVar 3), .val (dVar 9)]))
    (dSeq (dIfS (dBorT (dNotT (dB (dCall d_l_alike [.val (dVar 10), .val (dVar 8)]))))
      (dRet (dC (.bool false)))
      dNext)
    (dSeq (dDrop (dMutP [0, 1, 0, 0, 0, 0, 0, 0, 0, 0, 11] 10 (dC (.int 0)) (dC (.int 0)) appD [(dC (.int 7))]))
    (dSeq (dKillPop 10)
    (dRet (dAndV (dCall d_l_alike [.val (dCall d_rows_of [.val (dVar 3), .val (dVar 9)]), .val (dVar 8)]) (dOp eqD (dVar 9) (dVar 4))))))))))))))))))
noncomputable def d_law : List D → Res D := runFn 11 [] 0 b_law
section
variable {P : Program} {w : World} {K : PySem.W.Frag} {mg : Str → Option Value} {base : Heap}
theorem ok_added (T : Txt K mg) : FnOk P w K mg base (CXE P w K) 1 T.f_added T.fd_added ["sums", "weight", "place"] (SpN K ["sums", "weight", "place"] [] [0, 0, 0] 0 d_added) := by
  refine T.F_added.okD sc_added rfl fun cdv A outer s H E F0 g0 σ0 wf hr => ⟨[0, 0, 0], ?_⟩
  exact (dss_one (ds_ret (de_tup (dv_cons (de_add mkS (de_ix mkS (de_var 0) de_int) (de_var 1)) (dv_cons (de_add mkS (de_ix mkS (de_var 0) de_int) (de_mul mkS (de_var 1) (de_ix mkS (de_var 2) de_int))) (dv_cons (de_add mkS (de_ix mkS (de_var 0) de_int) (de_mul mkS (de_var 1) (de_ix mkS (de_var 2) de_int))) (dv_cons (de_add mkS (de_ix mkS (de_var 0) de_int) (de_mul mkS (de_var 1) (de_ix mkS (de_var 2) de_int))) dv_nil)))))))
theorem ok_weights (T : Txt K mg) : FnOk P w K mg base (CXE P w K) 2 T.f_weights T.fd_weights ["ship", "cargo"] (SpN K ["ship", "cargo"] [] [0, 0, 0, 0, 0, 0, 0, 0, 0] 0 d_weights) := by
  have G_added := ok_added (P := P) (w := w) (base := base) T
  refine T.F_weights.okD sc_weights rfl fun cdv A outer s H E F0 g0 σ0 wf hr => ⟨[0, 0, 0, 0, 0, 0, 0, 0, 0], ?_⟩
  exact (dss_cons (ds_set 2 mkS (de_ix mkS (de_var 0) de_int) sc_weights.nd)
    (dss_cons (ds_set 3 mkS (de_call mkS G_added (hr.mono (by decide)) rfl T.m_added T.F_added.kp T.b_added (da_val (de_tup (dv_cons de_int (dv_cons de_int (dv_cons de_int (dv_cons de_int dv_nil))))) (da_val (de_ix mkS (de_var 2) de_int) (da_val (de_slice mkS sl_tup ss_tup (de_var 2) (do_some de_int) do_none) da_nil)))) sc_weights.nd)
    (dss_cons (ds_forI PassesOwn.leaving rfl (di_zip rfl T.z_zip (de_ix mkS (de_var 0) de_int) (de_var 1)) (pg_tup rfl (pgs_cons (pg_name (i := 4) sc_weights.nd rfl (by first | exact Or.inl rfl | exact Or.inr rfl)) (pgs_cons (pg_name (i := 5) sc_weights.nd rfl (by first | exact Or.inl rfl | exact Or.inr rfl)) pgs_nil))) (tg_tup (is := [4, 5]) mkS (by intro i hi; simp only [List.mem_cons, List.not_mem_nil, or_false] at hi; rcases hi with rfl | rfl <;> exact ⟨notIn rfl, by decide, rfl⟩) rfl)
      (dss_one (ds_forI PassesOwn.leaving rfl (di_enum rfl T.z_enumerate (de_var 5)) (pg_tup rfl (pgs_cons (pg_name (i := 6) sc_weights.nd rfl (by first | exact Or.inl rfl | exact Or.inr rfl)) (pgs_cons (pg_name (i := 7) sc_weights.nd rfl (by first | exact Or.inl rfl | exact Or.inr rfl)) pgs_nil))) (tg_tup (is := [6, 7]) mkS (by intro i hi; simp only [List.mem_cons, List.not_mem_nil, or_false] at hi; rcases hi with rfl | rfl <;> exact ⟨notIn rfl, by decide, rfl⟩) rfl)
        (dss_cons (ds_set 8 mkS (de_tup (dv_cons (de_ix mkS (de_var 4) de_int) (dv_cons (de_ix mkS (de_var 4) de_int) (dv_cons (de_add mkS (de_ix mkS (de_var 4) de_int) (de_mul mkS (de_var 6) (de_ix mkS (de_var 4) de_int))) dv_nil)))) sc_weights.nd)
        (dss_one (ds_set 3 mkS (de_call mkS G_added (hr.mono (by decide)) rfl T.m_added T.F_added.kp T.b_added (da_val (de_var 3) (da_val (de_ix mkS (de_var 7) de_int) (da_val (de_var 8) da_nil)))) sc_weights.nd))))))
    (dss_one (ds_ret (de_var 3))))))
theorem ok_row_of_high (T : Txt K mg) : FnOk P w K mg base (CXE P w K) 1 T.f_row_of_high T.fd_row_of_high ["tanks", "axis", "high", "sums"] (SpN K ["tanks", "axis", "high", "sums"] [] [0, 0, 0, 0] 10 d_row_of_high) := by
  refine T.F_row_of_high.okD sc_row_of_high rfl fun cdv A outer s H E F0 g0 σ0 wf hr => ⟨[0, 0, 0, 0], ?_⟩
  exact (dss_one (ds_ret (de_tupC 10 (du_cons 4 rfl (fun F H σ => (de_lcomp (xs := ["tank"]) mkS mkS rfl (di_seq (de_var 0)) (fun C fp s H => (pg_name (i := 0) nd_row_of_high_1 rfl (Or.inl rfl))) (tgc_name mkS (by decide) (notIn rfl) (by decide) rfl) (fun C fp s H => dif_nil) (fun C fp s H => (de_sub mkS (de_ix mkS (de_var 0) (de_var 2)) (de_var 3))))) (du_cons 4 rfl (fun F H σ => (de_sub mkS (de_mul mkS (de_var 2) (de_ix mkS (de_var 3) de_int)) (de_ix mkS (de_var 3) (de_var 1)))) du_nil)))))
theorem ok_row_of_low (T : Txt K mg) : FnOk P w K mg base (CXE P w K) 1 T.f_row_of_low T.fd_row_of_low ["tanks", "axis", "low", "sums"] (SpN K ["tanks", "axis", "low", "sums"] [] [0, 0, 0, 0] 10 d_row_of_low) := by
  refine T.F_row_of_low.okD sc_row_of_low rfl fun cdv A outer s H E F0 g0 σ0 wf hr => ⟨[0, 0, 0, 0], ?_⟩
  exact (dss_one (ds_ret (de_tupC 10 (du_cons 4 rfl (fun F H σ => (de_lcomp (xs := ["tank"]) mkS mkS rfl (di_seq (de_var 0)) (fun C fp s H => (pg_name (i := 0) nd_row_of_low_1 rfl (Or.inl rfl))) (tgc_name mkS (by decide) (notIn rfl) (by decide) rfl) (fun C fp s H => dif_nil) (fun C fp s H => (de_sub mkS (de_var 3) (de_ix mkS (de_var 0) (de_var 2)))))) (du_cons 4 rfl (fun F H σ => (de_sub mkS (de_ix mkS (de_var 3) (de_var 1)) (de_mul mkS (de_var 2) (de_ix mkS (de_var 3) de_int)))) du_nil)))))
theorem ok_rows_of (T : Txt K mg) : FnOk P w K mg base (CXE P w K) 3 T.f_rows_of T.fd_rows_of ["ship", "cargo"] (SpN K ["ship", "cargo"] [] [0, 0, 0, 0, 0] 11 d_rows_of) := by
  have G_row_of_high := ok_row_of_high (P := P) (w := w) (base := base) T
  have G_row_of_low := ok_row_of_low (P := P) (w := w) (base := base) T
  have G_weights := ok_weights (P := P) (w := w) (base := base) T
  refine T.F_rows_of.okD sc_rows_of rfl fun cdv A outer s H E F0 g0 σ0 wf hr => ⟨[0, 0, 0, 0, 0], ?_⟩
  exact (dss_cons (ds_set 2 mkS (de_ix mkS (de_var 0) de_int) sc_rows_of.nd)
    (dss_cons (ds_set 3 mkS (de_ix mkS (de_var 0) de_int) sc_rows_of.nd)
    (dss_cons (ds_set 4 mkS (de_call mkS G_weights (hr.mono (by decide)) rfl T.m_weights T.F_weights.kp T.b_weights (da_val (de_var 0) (da_val (de_var 1) da_nil))) sc_rows_of.nd)
    (dss_one (ds_ret (de_lstC 11 (du_cons 5 rfl (fun F H σ => (de_call mkS G_row_of_high (hr.mono (by decide)) rfl T.m_row_of_high T.F_row_of_high.kp T.b_row_of_high (da_val (de_var 3) (da_val (de_gint rfl T.g_ALONG) (da_val (de_ix mkS (de_var 2) de_int) (da_val (de_var 4) da_nil)))))) (du_cons 5 rfl (fun F H σ => (de_call mkS G_row_of_low (hr.mono (by decide)) rfl T.m_row_of_low T.F_row_of_low.kp T.b_row_of_low (da_val (de_var 3) (da_val (de_gint rfl T.g_ALONG) (da_val (de_ix mkS (de_var 2) de_int) (da_val (de_var 4) da_nil)))))) (du_cons 5 rfl (fun F H σ => (de_call mkS G_row_of_high (hr.mono (by decide)) rfl T.m_row_of_high T.F_row_of_high.kp T.b_row_of_high (da_val (de_var 3) (da_val (de_gint rfl T.g_ACROSS) (da_val (de_ix mkS (de_var 2) de_int) (da_val (de_var 4) da_nil)))))) (du_cons 5 rfl (fun F H σ => (de_call mkS G_row_of_low (hr.mono (by decide)) rfl T.m_row_of_low T.F_row_of_low.kp T.b_row_of_low (da_val (de_var 3) (da_val (de_gint rfl T.g_ACROSS) (da_val (de_ix mkS (de_var 2) de_int) (da_val (de_var 4) da_nil)))))) (du_cons 5 rfl (fun F H σ => (de_call mkS G_row_of_high (hr.mono (by decide)) rfl T.m_row_of_high T.F_row_of_high.kp T.b_row_of_high (da_val (de_var 3) (da_val (de_gint rfl T.g_ABOVE) (da_val (de_ix mkS (de_var 2) de_int) (da_val (de_var 4) da_nil)))))) (du_cons 5 rfl (fun F H σ => (de_tupC 10 (du_cons 5 rfl (fun F H σ => (de_lcomp (xs := ["tank"]) mkS mkS rfl (di_seq (de_var 3)) (fun C fp s H => (pg_name (i := 0) nd_rows_of_1 rfl (Or.inl rfl))) (tgc_name mkS (by decide) (notIn rfl) (by decide) rfl) (fun C fp s H => dif_nil) (fun C fp s H => de_int))) (du_cons 5 rfl (fun F H σ => (de_sub mkS (de_ix mkS (de_var 2) de_int) (de_ix mkS (de_var 4) de_int))) du_nil)))) du_nil))))))))))))
theorem ok_l_draw (T : Txt K mg) : FnOk P w K mg base (CXE P w K) 1 T.f_l_draw T.fd_l_draw ["_law_feed", "_law_many"] (SpN K ["_law_feed", "_law_many"] [0] [1, 0, 0, 0] 0 d_l_draw) := by
  refine T.F_l_draw.okD sc_l_draw rfl fun cdv A outer s H E F0 g0 σ0 wf hr => ⟨[1, 0, 0, 0], ?_⟩
  exact (dss_cons (ds_set 2 mkS (de_ixo 0 de_int) sc_l_draw.nd)
    (dss_cons (ds_put 0 mkS (de_add mkS (de_var 2) de_int) de_int)
    (dss_cons (ds_set 3 mkS (de_var 2) sc_l_draw.nd)
    (dss_cons (ds_if (dt_cmp mkS op_gt os_gt (de_len mkS rfl T.z_len (de_ixo 0 de_int)) de_int (nomark _))
      (dss_one (ds_set 3 mkS (de_add mkS (de_ix mkS (de_ixo 0 de_int) (de_mod mkS (de_var 2) (de_len mkS rfl T.z_len (de_ixo 0 de_int)))) (de_mul mkS (de_fdiv mkS (de_var 2) (de_len mkS rfl T.z_len (de_ixo 0 de_int))) de_int)) sc_l_draw.nd))
      dss_nil)
    (dss_one (ds_ret (de_mod mkS (de_mod mkS (de_mul mkS (de_var 3) de_int) de_int) (de_var 1))))))))
theorem ok_l_number (T : Txt K mg) : FnOk P w K mg base (CXE P w K) 2 T.f_l_number T.fd_l_number ["_law_feed"] (SpN K ["_law_feed"] [0] [1, 0] 0 d_l_number) := by
  have G_l_draw := ok_l_draw (P := P) (w := w) (base := base) T
  refine T.F_l_number.okD sc_l_number rfl fun cdv A outer s H E F0 g0 σ0 wf hr => ⟨[1, 0], ?_⟩
  exact (dss_cons (ds_set 1 mkS (de_ix mkS (de_fz mkS (de_lst mkS (dv_cons de_int (dv_cons de_int (dv_cons (de_pow mkS de_int de_int) dv_nil))))) (de_call mkS G_l_draw (hr.mono (by decide)) rfl T.m_l_draw T.F_l_draw.kp T.b_l_draw (da_own 0 (da_val de_int da_nil)))) sc_l_number.nd)
    (dss_one (ds_ret (de_sub mkS (de_mod mkS (de_add mkS (de_mul mkS (de_call mkS G_l_draw (hr.mono (by decide)) rfl T.m_l_draw T.F_l_draw.kp T.b_l_draw (da_own 0 (da_val de_int da_nil))) de_int) (de_call mkS G_l_draw (hr.mono (by decide)) rfl T.m_l_draw T.F_l_draw.kp T.b_l_draw (da_own 0 (da_val de_int da_nil)))) (de_add mkS (de_mul mkS de_int (de_var 1)) de_int)) (de_var 1)))))
theorem ok_l_size (T : Txt K mg) : FnOk P w K mg base (CXE P w K) 3 T.f_l_size T.fd_l_size ["_law_feed"] (SpN K ["_law_feed"] [0] [1] 0 d_l_size) := by
  have G_l_number := ok_l_number (P := P) (w := w) (base := base) T
  refine T.F_l_size.okD sc_l_size rfl fun cdv A outer s H E F0 g0 σ0 wf hr => ⟨[1], ?_⟩
  exact (dss_one (ds_ret (de_add mkS de_int (de_mod mkS (de_callB mkS call_abs fs_abs rfl T.z_abs bt_abs (dv_cons (de_call mkS G_l_number (hr.mono (by decide)) rfl T.m_l_number T.F_l_number.kp T.b_l_number (da_own 0 da_nil)) dv_nil)) (de_pow mkS de_int de_int)))))
theorem ok_l_ship (T : Txt K mg) : FnOk P w K mg base (CXE P w K) 4 T.f_l_ship T.fd_l_ship ["_law_feed"] (SpN K ["_law_feed"] [0] [1, 0, 0, 0, 0, 0, 0, 0, 0, 0, 0, 0, 0] 0 d_l_ship) := by
  have G_l_draw := ok_l_draw (P := P) (w := w) (base := base) T
  have G_l_number := ok_l_number (P := P) (w := w) (base := base) T
  have G_l_size := ok_l_size (P := P) (w := w) (base := base) T
  refine T.F_l_ship.okD sc_l_ship rfl fun cdv A outer s H E F0 g0 σ0 wf hr => ⟨[1, 0, 0, 0, 0, 0, 0, 0, 0, 0, 0, 0, 0], ?_⟩
  exact (dss_cons (ds_set 1 mkS (de_tup (dv_cons (de_call mkS G_l_size (hr.mono (by decide)) rfl T.m_l_size T.F_l_size.kp T.b_l_size (da_own 0 da_nil)) (dv_cons (de_call mkS G_l_number (hr.mono (by decide)) rfl T.m_l_number T.F_l_number.kp T.b_l_number (da_own 0 da_nil)) (dv_cons (de_call mkS G_l_number (hr.mono (by decide)) rfl T.m_l_number T.F_l_number.kp T.b_l_number (da_own 0 da_nil)) (dv_cons (de_call mkS G_l_number (hr.mono (by decide)) rfl T.m_l_number T.F_l_number.kp T.b_l_number (da_own 0 da_nil)) dv_nil))))) sc_l_ship.nd)
    (dss_cons (ds_set 2 mkS (de_fz mkS (de_lst mkS dv_nil)) sc_l_ship.nd)
    (dss_cons (ds_forI PassesOwn.leaving rfl (di_range1 rfl T.z_range de_int) (pg_name (i := 3) sc_l_ship.nd rfl (by first | exact Or.inl rfl | exact Or.inr rfl)) (tg_name mkS (notIn rfl) (by decide) rfl)
      (dss_cons (ds_set 4 mkS (de_call mkS G_l_number (hr.mono (by decide)) rfl T.m_l_number T.F_l_number.kp T.b_l_number (da_own 0 da_nil)) sc_l_ship.nd)
      (dss_one (ds_set 2 mkS (de_add mkS (de_var 2) (de_fz mkS (de_lst mkS (dv_cons (de_var 4) (dv_cons (de_callB mkS (call_min2 rfl) fs_min2 rfl T.z_min bt_min (dv_cons (de_pow mkS de_int de_int) (dv_cons (de_add mkS (de_var 4) (de_call mkS G_l_draw (hr.mono (by decide)) rfl T.m_l_draw T.F_l_draw.kp T.b_l_draw (da_own 0 (da_val de_int da_nil)))) dv_nil))) dv_nil))))) sc_l_ship.nd))))
    (dss_cons (ds_set 2 mkS (de_callTy mkS call_tuple_of fs_tuple rfl T.z_tuple bt_tuple (dv_cons (de_add mkS (de_var 2) (de_fz mkS (de_lst mkS (dv_cons (de_call mkS G_l_number (hr.mono (by decide)) rfl T.m_l_number T.F_l_number.kp T.b_l_number (da_own 0 da_nil)) (dv_cons (de_call mkS G_l_size (hr.mono (by decide)) rfl T.m_l_size T.F_l_size.kp T.b_l_size (da_own 0 da_nil)) dv_nil))))) dv_nil)) sc_l_ship.nd)
    (dss_cons (ds_set 5 mkS (de_lst mkS dv_nil) sc_l_ship.nd)
    (dss_cons (ds_set 6 mkS (de_lst mkS dv_nil) sc_l_ship.nd)
    (dss_cons (ds_forI PassesOwn.leaving rfl (di_range1 rfl T.z_range (de_call mkS G_l_draw (hr.mono (by decide)) rfl T.m_l_draw T.F_l_draw.kp T.b_l_draw (da_own 0 (da_val de_int da_nil)))) (pg_name (i := 7) sc_l_ship.nd rfl (by first | exact Or.inl rfl | exact Or.inr rfl)) (tg_name mkS (notIn rfl) (by decide) rfl)
      (dss_cons (ds_set 8 mkS (de_tup (dv_cons (de_ix mkS de_str (de_var 7)) (dv_cons (de_call mkS G_l_number (hr.mono (by decide)) rfl T.m_l_number T.F_l_number.kp T.b_l_number (da_own 0 da_nil)) (dv_cons (de_call mkS G_l_number (hr.mono (by decide)) rfl T.m_l_number T.F_l_number.kp T.b_l_number (da_own 0 da_nil)) (dv_cons (de_call mkS G_l_number (hr.mono (by decide)) rfl T.m_l_number T.F_l_number.kp T.b_l_number (da_own 0 da_nil)) dv_nil))))) sc_l_ship.nd)
      (dss_cons (ds_expr (de_append 5 mkS (de_add mkS (de_var 8) (de_tup (dv_cons (de_call mkS G_l_size (hr.mono (by decide)) rfl T.m_l_size T.F_l_size.kp T.b_l_size (da_own 0 da_nil)) (dv_cons (de_add mkS de_int (de_call mkS G_l_draw (hr.mono (by decide)) rfl T.m_l_draw T.F_l_draw.kp T.b_l_draw (da_own 0 (da_val de_int da_nil)))) (dv_cons (de_call mkS G_l_size (hr.mono (by decide)) rfl T.m_l_size T.F_l_size.kp T.b_l_size (da_own 0 da_nil)) dv_nil)))))))
      (dss_cons (ds_set 9 mkS (de_lst mkS dv_nil) sc_l_ship.nd)
      (dss_cons (ds_forI PassesOwn.leaving rfl (di_range1 rfl T.z_range (de_call mkS G_l_draw (hr.mono (by decide)) rfl T.m_l_draw T.F_l_draw.kp T.b_l_draw (da_own 0 (da_val de_int da_nil)))) (pg_name (i := 10) sc_l_ship.nd rfl (by first | exact Or.inl rfl | exact Or.inr rfl)) (tg_name mkS (notIn rfl) (by decide) rfl)
        (dss_one (ds_expr (de_append 9 mkS (de_tup (dv_cons (de_add mkS (de_ix mkS de_str (de_var 7)) (de_ix mkS de_str (de_var 10))) (dv_cons (de_call mkS G_l_size (hr.mono (by decide)) rfl T.m_l_size T.F_l_size.kp T.b_l_size (da_own 0 da_nil)) (dv_cons de_str (dv_cons de_str (dv_cons (de_call mkS G_l_size (hr.mono (by decide)) rfl T.m_l_size T.F_l_size.kp T.b_l_size (da_own 0 da_nil)) dv_nil))))))))))
      (dss_fz 9 (dss_one (ds_expr (de_append 6 mkS (de_var 9))))))))))
    (dss_cons (ds_set 11 mkS (de_lst mkS dv_nil) sc_l_ship.nd)
    (dss_cons (ds_forI PassesOwn.leaving rfl (di_range1 rfl T.z_range (de_call mkS G_l_draw (hr.mono (by decide)) rfl T.m_l_draw T.F_l_draw.kp T.b_l_draw (da_own 0 (da_val de_int da_nil)))) (pg_name (i := 12) sc_l_ship.nd rfl (by first | exact Or.inl rfl | exact Or.inr rfl)) (tg_name mkS (notIn rfl) (by decide) rfl)
      (dss_one (ds_expr (de_append 11 mkS (de_tup (dv_cons (de_ix mkS de_str (de_var 12)) (dv_cons (de_call mkS G_l_number (hr.mono (by decide)) rfl T.m_l_number T.F_l_number.kp T.b_l_number (da_own 0 da_nil)) (dv_cons (de_call mkS G_l_number (hr.mono (by decide)) rfl T.m_l_number T.F_l_number.kp T.b_l_number (da_own 0 da_nil)) (dv_cons (de_call mkS G_l_number (hr.mono (by decide)) rfl T.m_l_number T.F_l_number.kp T.b_l_number (da_own 0 da_nil)) (dv_cons (de_call mkS G_l_size (hr.mono (by decide)) rfl T.m_l_size T.F_l_size.kp T.b_l_size (da_own 0 da_nil)) dv_nil))))))))))
    (dss_fz 5 (dss_fz 11 (dss_fz 6 (dss_one (ds_ret (de_tup (dv_cons (de_tup (dv_cons (de_var 1) (dv_cons (de_var 2) (dv_cons (de_var 5) (dv_cons (de_var 11) (dv_cons (de_fz mkS (de_lst mkS dv_nil)) dv_nil)))))) (dv_cons (de_var 6) dv_nil)))))))))))))))))
theorem ok_l_sums (T : Txt K mg) : FnOk P w K mg base (CXE P w K) 1 T.f_l_sums T.fd_l_sums ["_law_ship_here", "_law_cargo"] (SpN K ["_law_ship_here", "_law_cargo"] [] [0, 0, 0, 0, 0, 0, 0] 0 d_l_sums) := by
  refine T.F_l_sums.okD sc_l_sums rfl fun cdv A outer s H E F0 g0 σ0 wf hr => ⟨[0, 0, 0, 0, 0, 0, 0], ?_⟩
  exact (dss_cons (ds_set 2 mkS (de_fz mkS (de_lst mkS (dv_cons (de_ix mkS (de_ix mkS (de_var 0) de_int) de_int) (dv_cons (de_mul mkS (de_ix mkS (de_ix mkS (de_var 0) de_int) de_int) (de_ix mkS (de_ix mkS (de_var 0) de_int) de_int)) (dv_cons (de_mul mkS (de_ix mkS (de_ix mkS (de_var 0) de_int) de_int) (de_ix mkS (de_ix mkS (de_var 0) de_int) de_int)) (dv_cons (de_mul mkS (de_ix mkS (de_ix mkS (de_var 0) de_int) de_int) (de_ix mkS (de_ix mkS (de_var 0) de_int) de_int)) dv_nil)))))) sc_l_sums.nd)
    (dss_cons (ds_forI PassesOwn.leaving rfl (di_range1 rfl T.z_range (de_len mkS rfl T.z_len (de_var 1))) (pg_name (i := 3) sc_l_sums.nd rfl (by first | exact Or.inl rfl | exact Or.inr rfl)) (tg_name mkS (notIn rfl) (by decide) rfl)
      (dss_cons (ds_set 4 mkS (de_ix mkS (de_ix mkS (de_ix mkS (de_var 0) de_int) (de_var 3)) de_int) sc_l_sums.nd)
      (dss_one (ds_forI PassesOwn.leaving rfl (di_seq (de_ix mkS (de_var 1) (de_var 3))) (pg_name (i := 5) sc_l_sums.nd rfl (by first | exact Or.inl rfl | exact Or.inr rfl)) (tg_name mkS (notIn rfl) (by decide) rfl)
        (dss_cons (ds_set 6 mkS (de_fz mkS (de_lst mkS (dv_cons (de_ix mkS (de_var 5) de_int) (dv_cons (de_mul mkS (de_ix mkS (de_var 5) de_int) (de_ix mkS (de_ix mkS (de_ix mkS (de_var 0) de_int) (de_var 3)) de_int)) (dv_cons (de_mul mkS (de_ix mkS (de_var 5) de_int) (de_ix mkS (de_ix mkS (de_ix mkS (de_var 0) de_int) (de_var 3)) de_int)) (dv_cons (de_mul mkS (de_ix mkS (de_var 5) de_int) (de_var 4)) dv_nil)))))) sc_l_sums.nd)
        (dss_cons (ds_set 2 mkS (de_fz mkS (de_lcomp (xs := ["_law_k"]) mkS mkS rfl (di_range1 rfl T.z_range de_int) (fun C fp s H => (pg_name (i := 0) nd_l_sums_1 rfl (Or.inl rfl))) (tgc_name mkS (by decide) (notIn rfl) (by decide) rfl) (fun C fp s H => dif_nil) (fun C fp s H => (de_add mkS (de_ix mkS (de_var 3) (de_var 0)) (de_ix mkS (de_var 7) (de_var 0)))))) sc_l_sums.nd)
        (dss_one (ds_set 4 mkS (de_add mkS (de_var 4) (de_ix mkS (de_ix mkS (de_ix mkS (de_var 0) de_int) (de_var 3)) de_int)) sc_l_sums.nd))))))))
    (dss_one (ds_ret (de_var 2)))))
theorem ok_l_rows (T : Txt K mg) : FnOk P w K mg base (CXE P w K) 1 T.f_l_rows T.fd_l_rows ["_law_ship_here", "_law_sums_here"] (SpN K ["_law_ship_here", "_law_sums_here"] [] [0, 0, 0, 0, 0, 0] 0 d_l_rows) := by
  refine T.F_l_rows.okD sc_l_rows rfl fun cdv A outer s H E F0 g0 σ0 wf hr => ⟨[0, 0, 0, 0, 0, 0], ?_⟩
  exact (dss_cons (ds_set 2 mkS (de_lst mkS dv_nil) sc_l_rows.nd)
    (dss_cons (ds_forI PassesOwn.leaving rfl (di_seq (de_fz mkS (de_lst mkS (dv_cons de_int (dv_cons de_int dv_nil))))) (pg_name (i := 3) sc_l_rows.nd rfl (by first | exact Or.inl rfl | exact Or.inr rfl)) (tg_name mkS (notIn rfl) (by decide) rfl)
      (dss_cons (ds_set 4 mkS (de_ix mkS (de_ix mkS (de_var 0) de_int) (de_sub mkS (de_mul mkS de_int (de_var 3)) de_int)) sc_l_rows.nd)
      (dss_cons (ds_set 5 mkS (de_ix mkS (de_ix mkS (de_var 0) de_int) (de_sub mkS (de_mul mkS de_int (de_var 3)) de_int)) sc_l_rows.nd)
      (dss_cons (ds_expr (de_append 2 mkS (de_tup (dv_cons (de_fz mkS (de_lcomp (xs := ["_law_tank"]) mkS mkS rfl (di_seq (de_ix mkS (de_var 0) de_int)) (fun C fp s H => (pg_name (i := 0) nd_l_rows_1 rfl (Or.inl rfl))) (tgc_name mkS (by decide) (notIn rfl) (by decide) rfl) (fun C fp s H => dif_nil) (fun C fp s H => (de_sub mkS (de_ix mkS (de_var 0) (de_var 4)) (de_var 6))))) (dv_cons (de_sub mkS (de_mul mkS (de_var 5) (de_ix mkS (de_var 1) de_int)) (de_ix mkS (de_var 1) (de_var 3))) dv_nil)))))
      (dss_one (ds_expr (de_append 2 mkS (de_tup (dv_cons (de_fz mkS (de_lcomp (xs := ["_law_tank"]) mkS mkS rfl (di_seq (de_ix mkS (de_var 0) de_int)) (fun C fp s H => (pg_name (i := 0) nd_l_rows_2 rfl (Or.inl rfl))) (tgc_name mkS (by decide) (notIn rfl) (by decide) rfl) (fun C fp s H => dif_nil) (fun C fp s H => (de_sub mkS (de_var 5) (de_ix mkS (de_var 0) (de_var 4)))))) (dv_cons (de_sub mkS (de_ix mkS (de_var 1) (de_var 3)) (de_mul mkS (de_var 4) (de_ix mkS (de_var 1) de_int))) dv_nil))))))))))
    (dss_cons (ds_expr (de_append 2 mkS (de_tup (dv_cons (de_fz mkS (de_lcomp (xs := ["_law_tank"]) mkS mkS rfl (di_seq (de_ix mkS (de_var 0) de_int)) (fun C fp s H => (pg_name (i := 0) nd_l_rows_3 rfl (Or.inl rfl))) (tgc_name mkS (by decide) (notIn rfl) (by decide) rfl) (fun C fp s H => dif_nil) (fun C fp s H => (de_sub mkS (de_ix mkS (de_var 0) de_int) (de_ix mkS (de_ix mkS (de_var 1) de_int) de_int))))) (dv_cons (de_sub mkS (de_mul mkS (de_ix mkS (de_ix mkS (de_var 0) de_int) de_int) (de_ix mkS (de_var 1) de_int)) (de_ix mkS (de_var 1) de_int)) dv_nil)))))
    (dss_cons (ds_expr (de_append 2 mkS (de_tup (dv_cons (de_fz mkS (de_lcomp (xs := ["_law_tank"]) mkS mkS rfl (di_seq (de_ix mkS (de_var 0) de_int)) (fun C fp s H => (pg_name (i := 0) nd_l_rows_4 rfl (Or.inl rfl))) (tgc_name mkS (by decide) (notIn rfl) (by decide) rfl) (fun C fp s H => dif_nil) (fun C fp s H => de_int))) (dv_cons (de_sub mkS (de_ix mkS (de_ix mkS (de_var 0) de_int) de_int) (de_ix mkS (de_var 1) de_int)) dv_nil)))))
    (dss_fz 2 (dss_one (ds_ret (de_var 2))))))))
theorem ok_l_whole (T : Txt K mg) : FnOk P w K mg base (CXE P w K) 1 T.f_l_whole T.fd_l_whole ["_law_found"] (SpN K ["_law_found"] [] [0] 0 d_l_whole) := by
  refine T.F_l_whole.okD sc_l_whole rfl fun cdv A outer s H E F0 g0 σ0 wf hr => ⟨[0], ?_⟩
  exact (dss_one (ds_ret (de_and (de_isi .int rfl rfl T.z_isinstance rfl T.z_int bt_int (de_var 0)) (de_one (de_not (de_isi .bool rfl rfl T.z_isinstance rfl T.z_bool bt_bool (de_var 0)))))))
theorem ok_l_alike (T : Txt K mg) : FnOk P w K mg base (CXE P w K) 2 T.f_l_alike T.fd_l_alike ["_law_found", "_law_due"] (SpN K ["_law_found", "_law_due"] [] [0, 0, 0, 0] 0 d_l_alike) := by
  have G_l_whole := ok_l_whole (P := P) (w := w) (base := base) T
  refine T.F_l_alike.okD sc_l_alike rfl fun cdv A outer s H E F0 g0 σ0 wf hr => ⟨[0, 0, 0, 0], ?_⟩
  exact (dss_cons (ds_if (dt_bool (dw_or (dt_not (dt_val (de_isi .list rfl rfl T.z_isinstance rfl T.z_list bt_list (de_var 0)))) (dw_or1 (dt_cmp mkS (op_neD hr.units) os_ne (de_len mkS rfl T.z_len (de_var 0)) de_int (nomark _)))))
      (dss_one (ds_ret de_bl))
      dss_nil)
    (dss_cons (ds_forI PassesOwn.leaving rfl (di_range1 rfl T.z_range de_int) (pg_name (i := 2) sc_l_alike.nd rfl (by first | exact Or.inl rfl | exact Or.inr rfl)) (tg_name mkS (notIn rfl) (by decide) rfl)
      (dss_cons (ds_if (dt_bool (dw_or (dt_not (dt_val (de_isi .tuple rfl rfl T.z_isinstance rfl T.z_tuple bt_tuple (de_ix mkS (de_var 0) (de_var 2))))) (dw_or (dt_cmp mkS (op_neD hr.units) os_ne (de_len mkS rfl T.z_len (de_ix mkS (de_var 0) (de_var 2))) de_int (nomark _)) (dw_or1 (dt_not (dt_val (de_isi .list rfl rfl T.z_isinstance rfl T.z_list bt_list (de_ix mkS (de_ix mkS (de_var 0) (de_var 2)) de_int))))))))
        (dss_one (ds_ret de_bl))
        dss_nil)
      (dss_one (ds_forI PassesOwn.leaving rfl (di_seq (de_add mkS (de_ix mkS (de_ix mkS (de_var 0) (de_var 2)) de_int) (de_fz mkS (de_lst mkS (dv_cons (de_ix mkS (de_ix mkS (de_var 0) (de_var 2)) de_int) dv_nil))))) (pg_name (i := 3) sc_l_alike.nd rfl (by first | exact Or.inl rfl | exact Or.inr rfl)) (tg_name mkS (notIn rfl) (by decide) rfl)
        (dss_one (ds_if (dt_not (dt_val (de_call mkS G_l_whole (hr.mono (by decide)) rfl T.m_l_whole T.F_l_whole.kp T.b_l_whole (da_val (de_var 3) da_nil))))
          (dss_one (ds_ret de_bl))
          dss_nil))))))
    (dss_one (ds_ret (de_cmp mkS (op_eqD hr.units) os_eq (de_var 0) (de_var 1) (nomark _))))))
theorem ok_law (T : Txt K mg) : FnOk P w K mg base (CXE P w K) 5 T.f_law T.fd_law ["_law_script"] (SpN K ["_law_script"] [] [0, 0, 0, 0, 0, 0, 0, 0, 0, 0, 0] 0 d_law) := by
  have G_l_alike := ok_l_alike (P := P) (w := w) (base := base) T
  have G_l_rows := ok_l_rows (P := P) (w := w) (base := base) T
  have G_l_ship := ok_l_ship (P := P) (w := w) (base := base) T
  have G_l_sums := ok_l_sums (P := P) (w := w) (base := base) T
  have G_l_whole := ok_l_whole (P := P) (w := w) (base := base) T
  have G_rows_of := ok_rows_of (P := P) (w := w) (base := base) T
  have G_weights := ok_weights (P := P) (w := w) (base := base) T
  refine T.F_law.okD sc_law rfl fun cdv A outer s H E F0 g0 σ0 wf hr => ⟨[0, 0, 0, 0, 0, 0, 0, 0, 0, 0, 0], ?_⟩
  exact (dss_cons (ds_set 1 mkS (de_lst mkS (dv_cons (de_fz mkS (de_slice mkS sl_list ss_list (de_var 0) do_none (do_some de_int))) (dv_cons de_int dv_nil))) sc_law.nd)
    (dss_cons (ds_set 2 mkS (de_call mkS G_l_ship (hr.mono (by decide)) rfl T.m_l_ship T.F_l_ship.kp T.b_l_ship (da_own 1 da_nil)) sc_law.nd)
    (dss_cons (ds_set 3 mkS (de_ix mkS (de_var 2) de_int) sc_law.nd)
    (dss_cons (ds_set 4 mkS (de_ix mkS (de_var 2) de_int) sc_law.nd)
    (dss_cons (ds_set 5 mkS (de_call mkS G_l_sums (hr.mono (by decide)) rfl T.m_l_sums T.F_l_sums.kp T.b_l_sums (da_val (de_var 3) (da_val (de_var 4) da_nil))) sc_law.nd)
    (dss_cons (ds_set 6 mkS (de_call mkS G_weights (hr.mono (by decide)) rfl T.m_weights T.F_weights.kp T.b_weights (da_val (de_var 3) (da_val (de_fz mkS (de_lcomp (xs := ["_law_stack"]) mkS mkS rfl (di_seq (de_var 4)) (fun C fp s H => (pg_name (i := 0) nd_law_1 rfl (Or.inl rfl))) (tgc_name mkS (by decide) (notIn rfl) (by decide) rfl) (fun C fp s H => dif_nil) (fun C fp s H => (de_fz mkS (de_callTy mkS call_list_of fs_list rfl T.z_list bt_list (dv_cons (de_var 0) dv_nil)))))) da_nil))) sc_law.nd)
    (dss_cons (ds_if (dt_bool (dw_or (dt_not (dt_val (de_isi .tuple rfl rfl T.z_isinstance rfl T.z_tuple bt_tuple (de_var 6)))) (dw_or (dt_cmp mkS (op_neD hr.units) os_ne (de_len mkS rfl T.z_len (de_var 6)) de_int (nomark _)) (dw_or1 (dt_cmp mkS (op_neD hr.units) os_ne (de_var 6) (de_callTy mkS call_tuple_of fs_tuple rfl T.z_tuple bt_tuple (dv_cons (de_var 5) dv_nil)) (nomark _))))))
      (dss_one (ds_ret de_bl))
      dss_nil)
    (dss_cons (ds_forI PassesOwn.leaving rfl (di_seq (de_var 6)) (pg_name (i := 7) sc_law.nd rfl (by first | exact Or.inl rfl | exact Or.inr rfl)) (tg_name mkS (notIn rfl) (by decide) rfl)
      (dss_one (ds_if (dt_not (dt_val (de_call mkS G_l_whole (hr.mono (by decide)) rfl T.m_l_whole T.F_l_whole.kp T.b_l_whole (da_val (de_var 7) da_nil))))
        (dss_one (ds_ret de_bl))
        dss_nil)))
    (dss_cons (ds_set 8 mkS (de_call mkS G_l_rows (hr.mono (by decide)) rfl T.m_l_rows T.F_l_rows.kp T.b_l_rows (da_val (de_var 3) (da_val (de_var 5) da_nil))) sc_law.nd)
    (dss_cons (ds_set_lcomp 9 (xs := ["_law_stack"]) mkS mkS rfl sc_law.nd (di_seq (de_var 4)) (fun C fp s H => (pg_name (i := 0) nd_law_2 rfl (Or.inl rfl))) (tgc_name mkS (by decide) (notIn rfl) (by decide) rfl) (fun C fp s H => dif_nil) (fun C fp s H => (de_fz mkS (de_callTy mkS call_list_of fs_list rfl T.z_list bt_list (dv_cons (de_var 0) dv_nil)))))
    (dss_fz 9 (dss_cons (ds_set 10 mkS (de_call mkS G_rows_of (hr.mono (by decide)) rfl T.m_rows_of T.F_rows_of.kp T.b_rows_of (da_val (de_var 3) (da_val (de_var 9) da_nil))) sc_law.nd)
    (dss_cons (ds_if (dt_bor 11 (fun F H σ => (dt_not (dt_val (de_call mkS G_l_alike (hr.mono (by decide)) rfl T.m_l_alike T.F_l_alike.kp T.b_l_alike (da_val (de_var 10) (da_val (de_var 8) da_nil)))))))
      (dss_one (ds_ret de_bl))
      dss_nil)
    (dss_cons (ds_expr (de_mutP 10 11 PySem.F.slot_list_append PySem.F.type_list_append mt_append mut_append (fun F H σ => de_int) (fun F H σ => de_int) (fun F H σ => (dv_cons de_int dv_nil))))
    (dss_cons (ds_popK 10)
    (dss_one (ds_ret (de_and (de_call mkS G_l_alike (hr.mono (by decide)) rfl T.m_l_alike T.F_l_alike.kp T.b_l_alike (da_val (de_fz mkS (de_call mkS G_rows_of (hr.mono (by decide)) rfl T.m_rows_of T.F_rows_of.kp T.b_rows_of (da_val (de_var 3) (da_val (de_var 9) da_nil)))) (da_val (de_var 8) da_nil))) (de_one (de_cmp mkS (op_eqD hr.units) os_eq (de_var 9) (de_var 4) (nomark _)))))))))))))))))))))
end
end Toy
open L2 in
seal dFn dOp dUn dVar dC dVals dArgs dCall dTup dLst dIfS dSeq dSet dForI dComp dRng dItems dZip dEnum dMut dPut dIxO dLenO dB dNotT dOrT dAndT dNotV dOrV dAndV dIf dAsg dDrop dRet dWhile wpM wpV runFn dSl dOpt
namespace L2
open PySem PySem.Spec
theorem ixN_k {m k : Nat} : ixN (m + k + 1) (k : Int) = some k := by
  unfold ixN
  rw [if_pos (by omega), if_pos (by omega), Int.toNat_natCast]
theorem ixN_1 {m : Nat} : ixN (m + 1 + 1) 1 = some 1 := ixN_k (k := 1)
theorem ixN_0 {m : Nat} : ixN (m + 1) 0 = some 0 := ixN_k (k := 0)
theorem ok_of_wp2 {f : M D} {δ δ2 : DS} {d : D} (h : wpV f δ fun a δ1 => a = d ∧ δ1 = δ2) : f δ = .ok d δ2 := by
  obtain ⟨a, δ1, e, rfl, rfl⟩ := h.ex
  exact e
end L2
namespace Toy
open PySem L2
noncomputable abbrev iL (ns : List Int) : D := .list (ns.map PyData.int)
theorem at_ints {ns : List Int} {k : Nat} (h : k < ns.length) : atI (ns.map PyData.int) (k : Int) = some (.int (ns.getD k 0)) := by
  refine atI_nat ?_
  rw [List.getElem?_map, List.getElem?_eq_getElem h, List.getD_eq_getElem?_getD, List.getElem?_eq_getElem h]
  rfl
noncomputable def cellA (ms : List Int) (a : Nat) : Int := if ms = [] then (a : Int) else ms.getD (a % ms.length) 0 + (a : Int) / (ms.length : Int) * 31
noncomputable def drawI (ms : List Int) (a : Nat) (many : Int) : Int := cellA ms a * 48271 % 1000003 % many
theorem draw_lt {ms : List Int} {a : Nat} {many : Int} (h : 0 < many) : 0 ≤ drawI ms a many ∧ drawI ms a many < many := ⟨Int.emod_nonneg _ (by omega), Int.emod_lt_of_pos _ h⟩
noncomputable abbrev feed (ms : List Int) (a : Nat) (rest : List D) : D := .list (iL ms :: .int (a : Int) :: rest)
theorem draw_ev {ms : List Int} {a : Nat} {rest : List D} {many : Int} (hm : ms.length ≤ 1000) (h : 0 < many) : d_l_draw [feed ms a rest, .int many] = .ok (.int (drawI ms a many)) [some (feed ms (a + 1) rest)] := by
  refine fn_of_wp (os := [feed ms (a + 1) rest]) ?_
  show wpM b_l_draw [some (feed ms a rest), some (.int many), none, none] _ _ _ _
  unfold b_l_draw
  have e1 : ((a : Int) + 1) = ((a + 1 : Nat) : Int) := by omega
  simp only [vcs, fillA, ownSlots, putOuts, outsOf, Nat.reduceAdd, Nat.reduceLT, Nat.reduceLeDiff, ↓reduceIte, ixN_1, e1, List.length_map, decide_eq_true_eq]
  by_cases hz : ms = []
  · subst hz
    have : cellA [] a = a := rfl
    simp only [vcs, fillA, ownSlots, putOuts, outsOf, Nat.reduceAdd, Nat.reduceLT, Nat.reduceLeDiff, ↓reduceIte, List.length_nil, o_mod, Int.reduceLT, h, drawI, this, Int.natCast_zero, Int.lt_irrefl]
    exact (by first | exact mok_l (by omega) (by omega) | exact mok_r (by omega) (by omega))
  · have hp : 0 < ms.length := by
      cases ms with
      | nil => exact absurd rfl hz
      | cons x xs => simp
    have hp' : (0 : Int) < (ms.length : Int) := by omega
    have em : (a : Int) % (ms.length : Int) = ((a % ms.length : Nat) : Int) := by simp
    have hc : cellA ms a = ms.getD (a % ms.length) 0 + (a : Int) / (ms.length : Int) * 31 := by unfold cellA; rw [if_neg hz]
    simp only [vcs, fillA, ownSlots, putOuts, outsOf, Nat.reduceAdd, Nat.reduceLT, Nat.reduceLeDiff, ↓reduceIte, hp', o_mod hp', em, at_ints (ns := ms) (k := a % ms.length) (Nat.mod_lt _ hp), o_fdiv hp' (show (ms.length : Int) < 4611686018427387904 by omega), o_mod, Int.reduceLT, h, drawI, hc, List.length_map]
    exact ⟨by first | exact mok_l (by omega) (by omega) | exact mok_r (by omega) (by omega), by first | exact mok_l (by omega) (by omega) | exact mok_r (by omega) (by omega)⟩
end Toy
namespace L2
open PySem PySem.Spec
section
variable {u : M Fl} {δ δ1 : DS} {N B C : DS → Prop} {R : D → DS → Prop} {set : D → DS → Option DS} {i : Nat} {d : D}
theorem v_loopN : wpM (dLoop set u []) δ N B C R = N δ := by
  unfold wpM
  rw [dLoop]
theorem v_loopC {ds : List D} : wpM (dLoop set u (d :: ds)) δ N B C R = setK (set d δ) fun δ1 => wpM u δ1 (fun δ2 => wpM (dLoop set u ds) δ2 N B C R) N (fun δ2 => wpM (dLoop set u ds) δ2 N B C R) R := by
  unfold wpM setK
  rw [dLoop]
  dsimp only
  cases e : set d δ with
  | none => simp
  | some δ1 =>
    simp only [Option.some.injEq, exists_eq_left']
    cases e2 : u δ1 with
    | stuck => rfl
    | err x d => rfl
    | ok fl δ2 => cases fl <;> rfl
theorem k_setN : setK (setN i d δ) N = stp i d δ N := by
  unfold setK stp setN
  split
  · rename_i h; simp [h]
  · rename_i h; simp [h]
theorem wm_unroll {f : M (List D)} {ds : List D} (hf : f δ = .ok ds δ1) (h : wpM (dLoop set u ds) δ1 N B C R) : wpM (dForI set f u) δ N B C R := by
  obtain ⟨fl, δ2, e, q⟩ := h.ex
  exact .of (by unfold dForI; rw [hf, bind_ok]; exact e) q
end
theorem items_okL {i : Nat} {δ : DS} {as : List D} (h1 : δ[i]? = some (some (.list as))) : dItems (dVar i) δ = .ok as δ := by
  simp only [dItems, dVar_ok h1, bind_ok]
theorem zip_wp {f g : M D} {δ : DS} {as bs : List D} (h : wpV (dVals [f, g]) δ fun ds δ1 => ds = [.list as, .list bs] ∧ δ1 = δ) : dZip f g δ = .ok (zipD as bs) δ := by
  obtain ⟨ds, δ1, e, rfl, rfl⟩ := h.ex
  unfold dZip
  rw [e, bind_ok]
theorem enum_ok {i : Nat} {δ : DS} {as : List D} (h1 : δ[i]? = some (some (.list as))) : dEnum (dVar i) δ = .ok (enumD as) δ := by
  simp only [dEnum, dVals, dVar_ok h1, bind_ok]
theorem zip_len {as bs : List D} (h : as.length = bs.length) : (zipD as bs).length = as.length := by simp [zipD, h]
theorem enum_len {as : List D} : (enumD as).length = as.length := by simp [enumD]
theorem rng2' {δ : DS} : dRng [dC (.int 2)] δ = .ok [.int 0, .int 1] δ := by
  simp only [dRng, dVals, dC_ok, bind_ok, rng2]
  rw [if_pos ⟨by decide, by decide⟩]
  rfl
theorem items2 {δ : DS} {a b : D} : dItems (dLst [dC a, dC b]) δ = .ok [a, b] δ := by
  simp only [dItems, dLst, dVals, dC_ok, bind_ok]
  rw [if_pos (show [a, b].length ≤ sizeLine from Nat.le_trans (show 2 ≤ 1000 by decide) (by decide))]
  rfl
end L2
namespace L2
open PySem PySem.Spec
theorem dCompL_enc {α : Type} {enc g : α → D} {e : M D} {δ : DS} : ∀ {xs : List α} {acc : List D} {o : Option D}, (∀ x ∈ xs, e (some (enc x) :: δ) = .ok (g x) (some (enc x) :: δ)) → acc.length + xs.length ≤ sizeLine → ∃ o', dCompL (setN 0) dTrue e (xs.map enc) acc (o :: δ) = .ok (acc ++ xs.map g) (o' :: δ)
  | [], acc, o, _, _ => ⟨o, by simp [dCompL]⟩
  | x :: xs, acc, o, h, hl => by
    have hd := h x List.mem_cons_self
    rw [List.length_cons] at hl
    obtain ⟨o', ih⟩ := dCompL_enc (xs := xs) (acc := acc ++ [g x]) (o := some (enc x)) (fun y hy => h y (List.mem_cons_of_mem _ hy)) (by simp; omega)
    refine ⟨o', ?_⟩
    rw [List.map_cons]
    unfold dCompL
    have e1 : setN 0 (enc x) (o :: δ) = some (some (enc x) :: δ) := by simp [setN]
    rw [e1]
    show Res.bind (dTrue (some (enc x) :: δ)) _ = _
    simp only [dTrue, Res.bind, if_true, hd]
    rw [if_pos (by omega), ih]
    simp
theorem comp_enc {α : Type} {enc g : α → D} {xs : List α} {f : M (List D)} {e : M D} {δ : DS} (hf : f δ = .ok (xs.map enc) δ) (hl : xs.length ≤ 1000) (he : ∀ x ∈ xs, wpV e (some (enc x) :: δ) fun a δ1 => a = g x ∧ δ1 = some (enc x) :: δ) : dComp 1 (setN 0) f dTrue e δ = .ok (.list (xs.map g)) δ := by
  unfold dComp
  rw [hf]
  obtain ⟨o', h⟩ := dCompL_enc (acc := []) (o := none) (fun x hx => ok_of_wp (he x hx)) (Nat.le_trans (by simpa using hl) (show 1000 ≤ sizeLine by decide))
  simp only [Res.bind]
  rw [show List.replicate 1 (none : Option D) ++ δ = none :: δ from rfl, h]
  simp
theorem items_wp {f : M D} {δ : DS} {ds : List D} (h : wpV f δ fun a δ1 => a = .list ds ∧ δ1 = δ) : dItems f δ = .ok ds δ := by
  unfold dItems
  rw [ok_of_wp h]
  rfl
end L2
namespace L2
open PySem PySem.Spec
theorem sign_ok {c : Nat} (h : c < 1000) : PyData.strOk ⟨#[c]⟩ = true := by
  show (#[c] : Array Nat).all (· < 0x110000) = true
  simp
  omega
theorem strAdd_le {x y : Str} (h : x.length + y.length ≤ 1000) : addD (.str x) (.str y) = some (.str (x ++ y)) := by
  have hz : sizeLine = 2 ^ 24 := rfl
  have : strAdd (.str x) (.str y) = some (.str (x ++ y)) := if_pos (by omega)
  unfold addD
  rw [this]
  rfl
theorem str_app_len {x y : Str} : (x ++ y).length = x.length + y.length := by
  show (x.cps ++ y.cps).size = _
  rw [Array.size_append]
  rfl
theorem str_app_ok {x y : Str} (hx : PyData.strOk x = true) (hy : PyData.strOk y = true) : PyData.strOk (x ++ y) = true := by
  show (x.cps ++ y.cps).all (· < 0x110000) = true
  rw [Array.all_append, show x.cps.all (· < 0x110000) = true from hx, show y.cps.all (· < 0x110000) = true from hy]
  rfl
theorem ofString_ok (s : String) : PyData.strOk (Str.ofString s) = true := by
  rw [Str.ofString_eq_toList]
  show ((s.toList.map Char.toNat).toArray).all (· < 0x110000) = true
  rw [List.all_toArray, List.all_eq_true]
  intro x hx
  obtain ⟨c, _, rfl⟩ := List.mem_map.mp hx
  have := c.valid
  rw [decide_eq_true_eq]
  rcases this with h | h
  · exact Nat.lt_trans h (by decide)
  · exact h.2
structure GoodS (z : Str) : Prop where
  len : z.length ≤ 8
  ok : PyData.strOk z = true
theorem GoodS.sh {z : Str} (h : GoodS z) : Sh 1 (.str z) := by
  have hz : sizeLine = 2 ^ 24 := rfl
  have := h.len
  exact ⟨by simp [PyData.canLay0, h.ok], by simp [PyData.depth]⟩
end L2
namespace Toy
open PySem L2
noncomputable def rowD (r : List Int × Int) : D := .tuple [iL r.1, .int r.2]
structure St where
  nm : Str
  x : Int
  y : Int
  z : Int
  t : Int
  h : Int
  m : Int
structure Bx where
  nm : Str
  w : Int
  p : Str
  k : Str
  b : Int
structure Tk where
  nm : Str
  x : Int
  y : Int
  z : Int
  r : Int
noncomputable def stD (s : St) : D := .tuple [.str s.nm, .int s.x, .int s.y, .int s.z, .int s.t, .int s.h, .int s.m]
noncomputable def bxD (b : Bx) : D := .tuple [.str b.nm, .int b.w, .str b.p, .str b.k, .int b.b]
noncomputable def tkD (t : Tk) : D := .tuple [.str t.nm, .int t.x, .int t.y, .int t.z, .int t.r]
noncomputable def bxsD (bs : List Bx) : D := .list (bs.map bxD)
noncomputable def InB (x : Int) : Prop := -1000000000 ≤ x ∧ x ≤ 1000000000
structure GoodSt (s : St) : Prop where
  nm : GoodS s.nm
  x : InB s.x
  y : InB s.y
  z : InB s.z
  t : InB s.t
structure GoodTk (s : Tk) : Prop where
  nm : GoodS s.nm
  x : InB s.x
  y : InB s.y
  z : InB s.z
  r : 0 ≤ s.r ∧ s.r ≤ 1000000000
structure GoodBx (b : Bx) : Prop where
  nm : GoodS b.nm
  p : GoodS b.p
  k : GoodS b.k
  w : 1 ≤ b.w ∧ b.w ≤ 1000000000
structure Made (own : Int × Int × Int × Int) (ss : List St) (cs : List (List Bx)) (ts : List Tk) : Prop where
  o0 : 1 ≤ own.1 ∧ own.1 ≤ 1000000000
  o1 : InB own.2.1 ∧ InB own.2.2.1 ∧ InB own.2.2.2
  ls : ss.length ≤ 10
  lc : cs.length = ss.length
  lb : ∀ c ∈ cs, c.length ≤ 30
  lt : ts.length ≤ 10
  gs : ∀ s ∈ ss, GoodSt s
  gb : ∀ c ∈ cs, ∀ b ∈ c, GoodBx b
  gt : ∀ t ∈ ts, GoodTk t
noncomputable def ownD (o : Int × Int × Int × Int) : D := .tuple [.int o.1, .int o.2.1, .int o.2.2.1, .int o.2.2.2]
noncomputable abbrev Q4 := Int × Int × Int × Int
noncomputable def T4 : List Q4 → Q4
  | [] => (0, 0, 0, 0)
  | p :: l => (p.1 + (T4 l).1, p.1 * p.2.1 + (T4 l).2.1, p.1 * p.2.2.1 + (T4 l).2.2.1, p.1 * p.2.2.2 + (T4 l).2.2.2)
theorem T4_app : ∀ (l m : List Q4), T4 (l ++ m) = ((T4 l).1 + (T4 m).1, (T4 l).2.1 + (T4 m).2.1, (T4 l).2.2.1 + (T4 m).2.2.1, (T4 l).2.2.2 + (T4 m).2.2.2)
  | [], m => by simp [T4]
  | p :: l, m => by
    rw [List.cons_append, T4, T4_app l m, T4]
    simp only [Int.add_assoc]
theorem T4_snoc (l : List Q4) (p : Q4) : T4 (l ++ [p]) = ((T4 l).1 + p.1, (T4 l).2.1 + p.1 * p.2.1, (T4 l).2.2.1 + p.1 * p.2.2.1, (T4 l).2.2.2 + p.1 * p.2.2.2) := by
  rw [T4_app]
  simp [T4]
noncomputable def s00 : St := ⟨"", 0, 0, 0, 0, 0, 0⟩
noncomputable def b00 : Bx := ⟨"", 0, "", "", 0⟩
noncomputable def inT (s : St) (bs : List Bx) (t : Nat) : List Q4 := (List.range t).map fun (j : Nat) => ((bs.getD j b00).w, s.x, s.y, s.z + (j : Int) * s.t)
noncomputable def plT (ss : List St) (cs : List (List Bx)) (k : Nat) : List Q4 := ((List.range k).map fun j => inT (ss.getD j s00) (cs.getD j []) (cs.getD j []).length).flatten
theorem inT_succ {s : St} {bs : List Bx} {t : Nat} : inT s bs (t + 1) = inT s bs t ++ [((bs.getD t b00).w, s.x, s.y, s.z + (t : Int) * s.t)] := by
  unfold inT
  rw [List.range_succ, List.map_append]
  rfl
theorem plT_succ {ss : List St} {cs : List (List Bx)} {k : Nat} : plT ss cs (k + 1) = plT ss cs k ++ inT (ss.getD k s00) (cs.getD k []) (cs.getD k []).length := by
  unfold plT
  rw [List.range_succ, List.map_append, List.flatten_append]
  simp
theorem getD_at {α : Type} {l : List α} {k : Nat} {d : α} (h : k < l.length) : l[k]? = some (l.getD k d) := by
  rw [List.getD_eq_getElem?_getD, List.getElem?_eq_getElem h]
  rfl
theorem getD_mem {α : Type} {l : List α} {k : Nat} {d : α} (h : k < l.length) : l.getD k d ∈ l := List.mem_of_getElem? (getD_at h)
theorem at_map {α : Type} {enc : α → D} {l : List α} {k : Nat} {d : α} (h : k < l.length) : atI (l.map enc) (k : Int) = some (enc (l.getD k d)) := by
  refine atI_nat ?_
  rw [List.getElem?_map, getD_at (d := d) h]
  rfl
noncomputable def q4D (q : Q4) : D := .tuple [.int q.1, .int q.2.1, .int q.2.2.1, .int q.2.2.2]
noncomputable def Sm (x : Int) : Prop := -18446744073709551616 < x ∧ x < 18446744073709551616
theorem added_ev {q : Q4} {w x y z : Int} (hw : Sm w) : d_added [q4D q, .int w, .tuple [.int x, .int y, .int z]] = .ok (q4D (q.1 + w, q.2.1 + w * x, q.2.2.1 + w * y, q.2.2.2 + w * z)) [] := by
  obtain ⟨h1, h2⟩ := hw
  refine fn_of_wp (os := []) ?_
  show wpM b_added [some (q4D q), some (.int w), some (.tuple [.int x, .int y, .int z])] _ _ _ _
  unfold b_added
  simp only [vcs, fillA, ownSlots, putOuts, outsOf, Nat.reduceAdd, Nat.reduceLT, Nat.reduceLeDiff, ↓reduceIte, q4D]
  exact ⟨by first | exact mok_l (by omega) (by omega) | exact mok_r (by omega) (by omega), by first | exact mok_l (by omega) (by omega) | exact mok_r (by omega) (by omega), by first | exact mok_l (by omega) (by omega) | exact mok_r (by omega) (by omega)⟩
theorem zipM_get {α β : Type} {f : α → D} {g : β → D} {as : List α} {bs : List β} {a0 : α} {b0 : β} {k : Nat} {d : D} (h : (zipD (as.map f) (bs.map g))[k]? = some d) : k < as.length ∧ k < bs.length ∧ d = .tuple [f (as.getD k a0), g (bs.getD k b0)] := by
  have hi := (List.getElem?_eq_some_iff.mp h).1
  simp only [zipD, List.length_zipWith, List.length_map] at hi
  have h1 : k < as.length := by omega
  have h2 : k < bs.length := by omega
  refine ⟨h1, h2, ?_⟩
  rw [zipD, List.getElem?_zipWith, List.getElem?_map, List.getElem?_map, getD_at (d := a0) h1, getD_at (d := b0) h2] at h
  simp only [Option.map_some, Option.some.injEq] at h
  rw [← h]
theorem enumM_get {α : Type} {f : α → D} {as : List α} {a0 : α} {k : Nat} {d : D} (h : (enumD (as.map f))[k]? = some d) : k < as.length ∧ d = .tuple [.int (k : Int), f (as.getD k a0)] := by
  have hi := (List.getElem?_eq_some_iff.mp h).1
  simp only [enumD, List.length_mapIdx, List.length_map] at hi
  refine ⟨hi, ?_⟩
  rw [enumD, List.getElem?_mapIdx, List.getElem?_map, getD_at (d := a0) hi] at h
  simp only [Option.map_some, Option.some.injEq] at h
  rw [← h]
theorem cutT1 {a : D} {l : List D} : cutT (.tuple (a :: l)) (some 1) none = some (.tuple l) := by
  show (if HT.sIx (l.length + 1) 0 (some ((1 : Nat) : Int)) = 0 ∧ HT.sIx (l.length + 1) (l.length + 1) none = l.length + 1 then none else some (PyData.tuple (cutD (a :: l) (some ((1 : Nat) : Int)) none))) = _
  rw [HT.sIx_nat, if_neg (by omega)]
  have := cut_from (ds := a :: l) (k := 1) (by simp)
  have := PyData.list.inj (Option.some.inj this)
  rw [this]
  rfl
section
variable {own : Q4} {ss : List St} {cs : List (List Bx)} {ts : List Tk} {bd ap tk : D}
theorem weights_ev (M : Made own ss cs ts) : d_weights [.tuple [ownD own, bd, .list (ss.map stD), tk, ap], .list (cs.map bxsD)] = .ok (q4D (T4 (own :: plT ss cs ss.length))) [] := by
  have lc := M.lc
  have ls := M.ls
  have o0 := M.o0
  refine fn_of_wp (os := []) ?_
  show wpM b_weights [some (.tuple [ownD own, bd, .list (ss.map stD), tk, ap]), some (.list (cs.map bxsD)), none, none, none, none, none, none, none] _ _ _ _
  unfold b_weights
  have e0 := added_ev (q := (0, 0, 0, 0)) (w := own.1) (x := own.2.1) (y := own.2.2.1) (z := own.2.2.2) (by unfold Sm; omega)
  have z0 : ((0 + own.1, 0 + own.1 * own.2.1, 0 + own.1 * own.2.2.1, 0 + own.1 * own.2.2.2) : Q4) = T4 [own] := by simp [T4]
  rw [z0] at e0
  have e0' : d_added [.tuple [.int 0, .int 0, .int 0, .int 0], .int own.1, .tuple [.int own.2.1, .int own.2.2.1, .int own.2.2.2]] = .ok (q4D (T4 [own])) [] := e0
  simp only [vcs, fillA, ownSlots, putOuts, outsOf, Nat.reduceAdd, Nat.reduceLT, Nat.reduceLeDiff, ↓reduceIte, ownD, v_sl, v_opt0, v_opt1, k_int, cutT1, e0']
  refine wm_for (ds := zipD (ss.map stD) (cs.map bxsD)) (δ1 := _) (fun k δ => ∃ o4 o5 o6 o7 o8, δ = [some (.tuple [.tuple [.int own.1, .int own.2.1, .int own.2.2.1, .int own.2.2.2], bd, .list (ss.map stD), tk, ap]), some (.list (cs.map bxsD)), some (.tuple [.int own.1, .int own.2.1, .int own.2.2.1, .int own.2.2.2]), some (q4D (T4 (own :: plT ss cs k))), o4, o5, o6, o7, o8]) (zip_wp (by simp only [vcs, fillA, ownSlots, putOuts, outsOf, Nat.reduceAdd, Nat.reduceLT, Nat.reduceLeDiff, ↓reduceIte])) ⟨_, _, _, _, _, by simp [plT]; exact ⟨rfl, rfl, rfl, rfl, rfl⟩⟩ ?_ ?_
  · rintro k d δ hk ⟨o4, o5, o6, o7, o8, rfl⟩
    obtain ⟨k1, k2, rfl⟩ := zipM_get (a0 := s00) (b0 := []) hk
    have gb := M.gb _ (getD_mem (d := []) k2)
    refine ⟨_, rfl, ?_⟩
    refine wm_for (ds := enumD ((cs.getD k []).map bxD)) (fun t δ => ∃ o6 o7 o8, δ = [some (.tuple [.tuple [.int own.1, .int own.2.1, .int own.2.2.1, .int own.2.2.2], bd, .list (ss.map stD), tk, ap]), some (.list (cs.map bxsD)), some (.tuple [.int own.1, .int own.2.1, .int own.2.2.1, .int own.2.2.2]), some (q4D (T4 (own :: plT ss cs k ++ inT (ss.getD k s00) (cs.getD k []) t))), some (stD (ss.getD k s00)), some (bxsD (cs.getD k [])), o6, o7, o8]) (enum_ok rfl) ⟨_, _, _, by simp [inT]; exact ⟨rfl, rfl, rfl⟩⟩ ?_ ?_
    · rintro t d δ ht ⟨o6, o7, o8, rfl⟩
      obtain ⟨t1, rfl⟩ := enumM_get (a0 := b00) ht
      have gw := gb _ (getD_mem (d := b00) t1)
      generalize hs : ss.getD k s00 = s at *
      generalize hb : (cs.getD k []).getD t b00 = b at *
      have e1 := added_ev (q := T4 (own :: plT ss cs k ++ inT s (cs.getD k []) t)) (w := b.w) (x := s.x) (y := s.y) (z := s.z + (t : Int) * s.t) (by unfold Sm; have := gw.w; omega)
      have lb := M.lb _ (getD_mem (d := []) k2)
      refine ⟨_, rfl, ?_⟩
      simp only [vcs, fillA, ownSlots, putOuts, outsOf, Nat.reduceAdd, Nat.reduceLT, Nat.reduceLeDiff, ↓reduceIte, stD, bxD, e1]
      have eT : T4 (own :: plT ss cs k ++ inT s (cs.getD k []) (t + 1)) = ((T4 (own :: plT ss cs k ++ inT s (cs.getD k []) t)).1 + b.w, (T4 (own :: plT ss cs k ++ inT s (cs.getD k []) t)).2.1 + b.w * s.x, (T4 (own :: plT ss cs k ++ inT s (cs.getD k []) t)).2.2.1 + b.w * s.y, (T4 (own :: plT ss cs k ++ inT s (cs.getD k []) t)).2.2.2 + b.w * (s.z + (t : Int) * s.t)) := by
        rw [inT_succ, ← List.append_assoc, T4_snoc, hb]
      rw [eT]
      exact ⟨by first | exact mok_l (by omega) (by omega) | exact mok_r (by omega) (by omega), _, _, _, rfl⟩
    · rintro δ ⟨o6, o7, o8, rfl⟩
      rw [enum_len, List.length_map, plT_succ]
      exact ⟨_, _, _, _, _, rfl⟩
  · rintro δ ⟨o4, o5, o6, o7, o8, rfl⟩
    rw [zip_len (by simp [lc]), List.length_map]
    simp only [vcs, fillA, ownSlots, putOuts, outsOf, Nat.reduceAdd, Nat.reduceLT, Nat.reduceLeDiff, ↓reduceIte]
end
end Toy
namespace Toy
open PySem L2
section
variable {own : Q4} {ss : List St} {cs : List (List Bx)} {ts : List Tk} {ps : List (Int × Int)}
theorem tkRow {f : Tk → Int} {ts : List Tk} : (ts.map fun t => PyData.int (f t)) = (ts.map f).map PyData.int := by simp
theorem high_ev {axis : Int} {g : Tk → Int} {q : Q4} {qa high : Int} (hl : ts.length ≤ 10) (hg : ∀ t : Tk, atI [PyData.str t.nm, .int t.x, .int t.y, .int t.z, .int t.r] axis = some (.int (g t))) (hq : atI [PyData.int q.1, .int q.2.1, .int q.2.2.1, .int q.2.2.2] axis = some (.int qa)) (hh : InB high) :
    d_row_of_high [.list (ts.map tkD), .int axis, .int high, q4D q] = .ok (rowD (ts.map fun t => g t - high, high * q.1 - qa)) [] := by
  unfold InB at hh
  refine fn_of_wp (os := []) ?_
  show wpM b_row_of_high [some (.list (ts.map tkD)), some (.int axis), some (.int high), some (q4D q)] _ _ _ _
  unfold b_row_of_high
  simp only [vcs, fillA, ownSlots, putOuts, outsOf, Nat.reduceAdd, Nat.reduceLT, Nat.reduceLeDiff, ↓reduceIte, v_tupC]
  refine wpV.of (comp_enc (enc := tkD) (xs := ts) (g := fun t => .int (g t - high)) (items_okL rfl) (by omega) fun t _ => ?_) ?_
  · simp only [vcs, fillA, ownSlots, putOuts, outsOf, Nat.reduceAdd, Nat.reduceLT, Nat.reduceLeDiff, ↓reduceIte, tkD, hg]
  · rw [tkRow]
    simp only [vcs, fillA, ownSlots, putOuts, outsOf, Nat.reduceAdd, Nat.reduceLT, Nat.reduceLeDiff, ↓reduceIte, q4D, hq, rowD]
    exact (by first | exact mok_l (by omega) (by omega) | exact mok_r (by omega) (by omega))
theorem low_ev {axis : Int} {g : Tk → Int} {q : Q4} {qa low : Int} (hl : ts.length ≤ 10) (hg : ∀ t : Tk, atI [PyData.str t.nm, .int t.x, .int t.y, .int t.z, .int t.r] axis = some (.int (g t))) (hq : atI [PyData.int q.1, .int q.2.1, .int q.2.2.1, .int q.2.2.2] axis = some (.int qa)) (hh : InB low) :
    d_row_of_low [.list (ts.map tkD), .int axis, .int low, q4D q] = .ok (rowD (ts.map fun t => low - g t, qa - low * q.1)) [] := by
  unfold InB at hh
  refine fn_of_wp (os := []) ?_
  show wpM b_row_of_low [some (.list (ts.map tkD)), some (.int axis), some (.int low), some (q4D q)] _ _ _ _
  unfold b_row_of_low
  simp only [vcs, fillA, ownSlots, putOuts, outsOf, Nat.reduceAdd, Nat.reduceLT, Nat.reduceLeDiff, ↓reduceIte, v_tupC]
  refine wpV.of (comp_enc (enc := tkD) (xs := ts) (g := fun t => .int (low - g t)) (items_okL rfl) (by omega) fun t _ => ?_) ?_
  · simp only [vcs, fillA, ownSlots, putOuts, outsOf, Nat.reduceAdd, Nat.reduceLT, Nat.reduceLeDiff, ↓reduceIte, tkD, hg]
  · rw [tkRow]
    simp only [vcs, fillA, ownSlots, putOuts, outsOf, Nat.reduceAdd, Nat.reduceLT, Nat.reduceLeDiff, ↓reduceIte, q4D, hq, rowD]
    exact (by first | exact mok_l (by omega) (by omega) | exact mok_r (by omega) (by omega))
structure Bds where
  b0 : Int
  b1 : Int
  b2 : Int
  b3 : Int
  b4 : Int
  b5 : Int
structure GoodBds (b : Bds) : Prop where
  b0 : InB b.b0
  b1 : InB b.b1
  b2 : InB b.b2
  b3 : InB b.b3
  b4 : InB b.b4
  b5 : InB b.b5
noncomputable def bdD (b : Bds) : D := .tuple [.int b.b0, .int b.b1, .int b.b2, .int b.b3, .int b.b4, .int b.b5]
noncomputable def rowsL (ts : List Tk) (b : Bds) (q : Q4) : List (List Int × Int) :=
  [(ts.map fun t => t.x - b.b1, b.b1 * q.1 - q.2.1), (ts.map fun t => b.b0 - t.x, q.2.1 - b.b0 * q.1), (ts.map fun t => t.y - b.b3, b.b3 * q.1 - q.2.2.1), (ts.map fun t => b.b2 - t.y, q.2.2.1 - b.b2 * q.1), (ts.map fun t => t.z - b.b4, b.b4 * q.1 - q.2.2.2), (ts.map fun _ => 1, b.b5 - q.1)]
theorem rows_ev {b : Bds} {ap : D} (M : Made own ss cs ts) (g : GoodBds b) : d_rows_of [.tuple [ownD own, bdD b, .list (ss.map stD), .list (ts.map tkD), ap], .list (cs.map bxsD)] = .ok (.list ((rowsL ts b (T4 (own :: plT ss cs ss.length))).map rowD)) [] := by
  have lt := M.lt
  have e0 := weights_ev (bd := bdD b) (tk := .list (ts.map tkD)) (ap := ap) M
  generalize T4 (own :: plT ss cs ss.length) = q at *
  have h1 := high_ev (ts := ts) (axis := 1) (g := fun t => t.x) (q := q) (qa := q.2.1) lt (fun _ => o_at1) o_at1 g.b1
  have h2 := low_ev (ts := ts) (axis := 1) (g := fun t => t.x) (q := q) (qa := q.2.1) lt (fun _ => o_at1) o_at1 g.b0
  have h3 := high_ev (ts := ts) (axis := 2) (g := fun t => t.y) (q := q) (qa := q.2.2.1) lt (fun _ => o_at2) o_at2 g.b3
  have h4 := low_ev (ts := ts) (axis := 2) (g := fun t => t.y) (q := q) (qa := q.2.2.1) lt (fun _ => o_at2) o_at2 g.b2
  have h5 := high_ev (ts := ts) (axis := 3) (g := fun t => t.z) (q := q) (qa := q.2.2.2) lt (fun _ => o_at3) o_at3 g.b4
  refine fn_of_wp (os := []) ?_
  show wpM b_rows_of [some (.tuple [ownD own, bdD b, .list (ss.map stD), .list (ts.map tkD), ap]), some (.list (cs.map bxsD)), none, none, none] _ _ _ _
  unfold b_rows_of
  simp only [vcs, fillA, ownSlots, putOuts, outsOf, Nat.reduceAdd, Nat.reduceLT, Nat.reduceLeDiff, ↓reduceIte, e0]
  simp only [bdD]
  simp only [vcs, fillA, ownSlots, putOuts, outsOf, Nat.reduceAdd, Nat.reduceLT, Nat.reduceLeDiff, ↓reduceIte, v_lstC, v_tupC, h1, h2, h3, h4, h5]
  refine wpV.of (comp_enc (enc := tkD) (xs := ts) (g := fun _ => .int 1) (items_okL rfl) (by omega) fun t _ => by simp only [vcs, fillA, ownSlots, putOuts, outsOf, Nat.reduceAdd, Nat.reduceLT, Nat.reduceLeDiff, ↓reduceIte]) ?_
  rw [tkRow (f := fun _ => 1)]
  simp only [vcs, fillA, ownSlots, putOuts, outsOf, Nat.reduceAdd, Nat.reduceLT, Nat.reduceLeDiff, ↓reduceIte, q4D]
  rfl
end
end Toy
namespace L2
open PySem PySem.Spec
theorem wm_cut {u v : M Fl} {δ : DS} {N B C : DS → Prop} {R : D → DS → Prop} (P : DS → Prop) (h1 : wpM u δ P B C R) (h2 : ∀ δ1, P δ1 → wpM v δ1 N B C R) : wpM (dSeq u v) δ N B C R := by
  rw [v_seq]
  obtain ⟨fl, δ1, e, q⟩ := h1.ex
  refine .of e ?_
  cases fl with
  | next => exact h2 _ q
  | _ => exact q
theorem seq_assoc {a b c : M Fl} : dSeq a (dSeq b c) = dSeq (dSeq a b) c := by
  funext δ
  unfold dSeq
  cases a δ with
  | stuck => rfl
  | err x d => rfl
  | ok fl d => cases fl <;> rfl
end L2
namespace Toy
open PySem L2
section
variable {ms : List Int} {a : Nat}
theorem pw (j : Nat) (h : j ≤ 1000) : powD (.int 10) (.int (j : Int)) = some (.int (10 ^ j)) := by
  rw [powD_ok (cpw (by omega) (by omega) (by decide))]
  rfl
theorem pw9 : powD (.int 10) (.int 9) = some (.int 1000000000) := pw 9 (by decide)
noncomputable def wideI (ms : List Int) (a : Nat) : Int := ([9, 1000, 1000000000] : List Int).getD (drawI ms a 3).toNat 0
theorem wide_ev : atI [PyData.int 9, .int 1000, .int 1000000000] (drawI ms a 3) = some (.int (wideI ms a)) ∧ 9 ≤ wideI ms a ∧ wideI ms a ≤ 1000000000 := by
  have d := draw_lt (ms := ms) (a := a) (many := 3) (by decide)
  have : drawI ms a 3 = 0 ∨ drawI ms a 3 = 1 ∨ drawI ms a 3 = 2 := by omega
  unfold wideI
  rcases this with z | z | z <;> rw [z] <;> exact ⟨rfl, by decide, by decide⟩
noncomputable def numI (ms : List Int) (a : Nat) : Int := (drawI ms (a + 1) 1000003 * 1000003 + drawI ms (a + 1 + 1) 1000003) % (2 * wideI ms a + 1) - wideI ms a
theorem num_lt : -1000000000 ≤ numI ms a ∧ numI ms a ≤ 1000000000 := by
  obtain ⟨_, w1, w2⟩ := wide_ev (ms := ms) (a := a)
  have h1 := Int.emod_nonneg (drawI ms (a + 1) 1000003 * 1000003 + drawI ms (a + 1 + 1) 1000003) (show 2 * wideI ms a + 1 ≠ 0 by omega)
  have h2 := Int.emod_lt_of_pos (drawI ms (a + 1) 1000003 * 1000003 + drawI ms (a + 1 + 1) 1000003) (show 0 < 2 * wideI ms a + 1 by omega)
  unfold numI
  omega
theorem num_ev (hm : ms.length ≤ 1000) : d_l_number [feed ms a []] = .ok (.int (numI ms a)) [some (feed ms (a + 1 + 1 + 1) [])] := by
  refine fn_of_wp (os := [feed ms (a + 1 + 1 + 1) []]) ?_
  show wpM b_l_number [some (feed ms a []), none] _ _ _ _
  unfold b_l_number
  obtain ⟨ew, w1, w2⟩ := wide_ev (ms := ms) (a := a)
  have d1 := draw_lt (ms := ms) (a := a + 1) (many := 1000003) (by decide)
  simp only [vcs, fillA, ownSlots, putOuts, outsOf, Nat.reduceAdd, Nat.reduceLT, Nat.reduceLeDiff, ↓reduceIte, draw_ev (rest := []) hm (show (0 : Int) < 3 by decide), draw_ev (rest := []) hm (show (0 : Int) < 1000003 by decide), pw9, ew, o_mod (show 0 < 2 * wideI ms a + 1 by omega), numI]
  exact ⟨by first | exact mok_l (by omega) (by omega) | exact mok_r (by omega) (by omega), by first | exact mok_l (by omega) (by omega) | exact mok_r (by omega) (by omega)⟩
noncomputable def sizeI (ms : List Int) (a : Nat) : Int := 1 + ((numI ms a).natAbs : Int) % 1000000000
theorem size_lt : 1 ≤ sizeI ms a ∧ sizeI ms a ≤ 1000000000 := by unfold sizeI; omega
theorem size_ev (hm : ms.length ≤ 1000) : d_l_size [feed ms a []] = .ok (.int (sizeI ms a)) [some (feed ms (a + 1 + 1 + 1) [])] := by
  refine fn_of_wp (os := [feed ms (a + 1 + 1 + 1) []]) ?_
  show wpM b_l_size [some (feed ms a [])] _ _ _ _
  unfold b_l_size
  simp only [vcs, fillA, ownSlots, putOuts, outsOf, Nat.reduceAdd, Nat.reduceLT, Nat.reduceLeDiff, ↓reduceIte, num_ev hm, pw9, o_mod, Int.reduceLT, sizeI]
end
theorem str6 (z : Str) (hz : z = "abcdef" ∨ z = "ghijkl") (k : Nat) (h : k < 6) : ∃ y : Str, ixD (.str z) (.int (k : Int)) = some (.str y) ∧ y.length = 1 ∧ PyData.strOk y = true := by
  have : k = 0 ∨ k = 1 ∨ k = 2 ∨ k = 3 ∨ k = 4 ∨ k = 5 := by omega
  rcases hz with rfl | rfl <;> rcases this with rfl | rfl | rfl | rfl | rfl | rfl <;> exact ⟨_, rfl, rfl, sign_ok (by decide)⟩
theorem o_tupAdd {a : D} {as bs : List D} (h1 : as.length ≤ 1000) (h2 : bs.length ≤ 1000) : addD (.tuple (a :: as)) (.tuple bs) = some (.tuple (a :: as ++ bs)) := by
  show ((none : Option D).or ((none : Option D).or ((if (a :: as) ≠ [] ∧ (a :: as).length + bs.length ≤ sizeLine then some (PyData.tuple (a :: as ++ bs)) else none).or _))) = _
  rw [if_pos ⟨by simp, Nat.le_trans (show (a :: as).length + bs.length ≤ 3000 by simp; omega) (by decide)⟩]
  rfl
section
variable {ms : List Int}
theorem InB.num {a : Nat} : InB (numI ms a) := by
  have := num_lt (ms := ms) (a := a)
  unfold InB
  omega
theorem InB.size {a : Nat} : InB (sizeI ms a) := by
  have := size_lt (ms := ms) (a := a)
  unfold InB
  omega
noncomputable abbrev shD (own : Q4) (b : Bds) (ss : List St) (ts : List Tk) : D := .tuple [ownD own, bdD b, .list (ss.map stD), .list (ts.map tkD), .list []]
theorem made_ev {a : Nat} (hm : ms.length ≤ 1000) : ∃ own b ss cs ts a', d_l_ship [feed ms a []] = .ok (.tuple [shD own b ss ts, .list (cs.map bxsD)]) [some (feed ms a' [])] ∧ Made own ss cs ts ∧ GoodBds b := by
  have e24 : sizeLine = 2 ^ 24 := rfl
  have main : ∃ r os, d_l_ship [feed ms a []] = .ok r (os.map some) ∧ ∃ own b ss cs ts a', r = .tuple [shD own b ss ts, .list (cs.map bxsD)] ∧ os = [feed ms a' []] ∧ Made own ss cs ts ∧ GoodBds b := by
    refine fn_exO ?_
    show wpM b_l_ship [some (feed ms a []), none, none, none, none, none, none, none, none, none, none, none, none] _ _ _ _
    unfold b_l_ship
    have d5 := fun a => draw_lt (ms := ms) (a := a) (many := 5) (by decide)
    have d6 := fun a => draw_lt (ms := ms) (a := a) (many := 6) (by decide)
    have d99 := fun a => draw_lt (ms := ms) (a := a) (many := 99) (by decide)
    refine wm_cut (fun δ => ∃ (own : Q4) (a : Nat), ((1 ≤ own.1 ∧ own.1 ≤ 1000000000) ∧ InB own.2.1 ∧ InB own.2.2.1 ∧ InB own.2.2.2) ∧ δ = [some (feed ms a []), some (ownD own), none, none, none, none, none, none, none, none, none, none, none]) ?_ ?_
    · simp only [vcs, fillA, ownSlots, putOuts, outsOf, Nat.reduceAdd, Nat.reduceLT, Nat.reduceLeDiff, ↓reduceIte, num_ev hm, size_ev hm]
      exact ⟨(_, _, _, _), _, ⟨⟨size_lt.1, size_lt.2⟩, InB.num, InB.num, InB.num⟩, rfl⟩
    rintro δ ⟨own, a, own0, rfl⟩
    rw [seq_assoc, seq_assoc]
    refine wm_cut (fun δ => ∃ (b : Bds) (a : Nat) (o3 o4 : Option D), GoodBds b ∧ δ = [some (feed ms a []), some (ownD own), some (bdD b), o3, o4, none, none, none, none, none, none, none, none]) ?_ ?_
    · rw [← seq_assoc]
      have mn : ∀ i j : Int, min2D [.int i, .int j] = some (.int (if j < i then j else i)) := fun _ _ => rfl
      have tl : ∀ l : List D, tupleD [.list l] = some (.tuple l) := fun _ => rfl
      simp only [vcs, fillA, ownSlots, putOuts, outsOf, Nat.reduceAdd, Nat.reduceLT, Nat.reduceLeDiff, ↓reduceIte]
      refine wm_unroll rng2' ?_
      simp only [vcs, fillA, ownSlots, putOuts, outsOf, Nat.reduceAdd, Nat.reduceLT, Nat.reduceLeDiff, ↓reduceIte, v_loopC, v_loopN, k_setN, num_ev hm, size_ev hm, draw_ev (rest := []) hm (show (0 : Int) < 99 by decide), pw9, mn, tl, List.nil_append, List.cons_append]
      have q1 := fun a => num_lt (ms := ms) (a := a)
      have lo : ∀ a k, InB (if numI ms a + drawI ms k 99 < 1000000000 then numI ms a + drawI ms k 99 else 1000000000) := fun a k => by
        have := q1 a
        have := d99 k
        unfold InB
        split <;> omega
      exact ⟨⟨_, _, _, _, _, _⟩, _, _, _, ⟨InB.num, lo _ _, InB.num, lo _ _, InB.num, InB.size⟩, rfl⟩
    rintro δ ⟨b, a, o3, o4, gb0, rfl⟩
    simp only [vcs, fillA, ownSlots, putOuts, outsOf, Nat.reduceAdd, Nat.reduceLT, Nat.reduceLeDiff, ↓reduceIte]
    have r1 := d5 a
    refine wm_rngI (j := drawI ms a 5) (δ1 := [some (feed ms (a + 1) []), some (ownD own), some (bdD b), o3, o4, some (.list []), some (.list []), none, none, none, none, none, none]) (fun k δ => ∃ a ss cs o7 o8 o9 o10, δ = [some (feed ms a []), some (ownD own), some (bdD b), o3, o4, some (.list (ss.map stD)), some (.list (cs.map bxsD)), o7, o8, o9, o10, none, none] ∧ ss.length = k ∧ cs.length = k ∧ (∀ s ∈ ss, GoodSt s) ∧ (∀ c ∈ cs, c.length ≤ 5) ∧ ∀ c ∈ cs, ∀ b ∈ c, GoodBx b) (ok_of_wp2 (by simp only [vcs, fillA, ownSlots, putOuts, outsOf, Nat.reduceAdd, Nat.reduceLT, Nat.reduceLeDiff, ↓reduceIte, draw_ev (rest := []) hm (show (0 : Int) < 5 by decide)])) (by omega) (by omega) ⟨_, [], [], _, _, _, _, rfl, rfl, rfl, fun s hs => (by cases hs), fun s hs => (by cases hs), fun s hs => (by cases hs)⟩ ?_ ?_
    · rintro k δ hk ⟨a, ss, cs, o7, o8, o9, o10, rfl, ls, lc, gs, lb, gb⟩
      refine ⟨_, rfl, ?_⟩
      obtain ⟨nm, en, ln, on⟩ := str6 "abcdef" (.inl rfl) k (by omega)
      simp only [vcs, fillA, ownSlots, putOuts, outsOf, Nat.reduceAdd, Nat.reduceLT, Nat.reduceLeDiff, ↓reduceIte, en, num_ev hm, size_ev hm, draw_ev (rest := []) hm (show (0 : Int) < 6 by decide), o_tupAdd, List.cons_append, List.nil_append, List.length_map]
      refine ⟨by omega, ?_⟩
      obtain ⟨sk, hsk, gS⟩ : ∃ sk : St, stD sk = .tuple [.str nm, .int (numI ms a), .int (numI ms (a + 1 + 1 + 1)), .int (numI ms (a + 1 + 1 + 1 + 1 + 1 + 1)), .int (sizeI ms (a + 1 + 1 + 1 + 1 + 1 + 1 + 1 + 1 + 1)), .int (1 + drawI ms (a + 1 + 1 + 1 + 1 + 1 + 1 + 1 + 1 + 1 + 1 + 1 + 1) 6), .int (sizeI ms (a + 1 + 1 + 1 + 1 + 1 + 1 + 1 + 1 + 1 + 1 + 1 + 1 + 1))] ∧ GoodSt sk := ⟨⟨nm, _, _, _, _, _, _⟩, rfl, ⟨⟨by show nm.length ≤ 8; omega, on⟩, InB.num, InB.num, InB.num, InB.size⟩⟩
      rw [← hsk, show ss.map stD ++ [stD sk] = (ss ++ [sk]).map stD by simp]
      clear hsk
      generalize a + 1 + 1 + 1 + 1 + 1 + 1 + 1 + 1 + 1 + 1 + 1 + 1 + 1 + 1 + 1 + 1 = a2
      generalize some (PyData.tuple [.str nm, .int (numI ms a), .int (numI ms (a + 1 + 1 + 1)), .int (numI ms (a + 1 + 1 + 1 + 1 + 1 + 1))]) = sp
      have r2 := d6 a2
      refine wm_rngI (j := drawI ms a2 6) (δ1 := [some (feed ms (a2 + 1) []), some (ownD own), some (bdD b), o3, o4, some (.list ((ss ++ [sk]).map stD)), some (.list (cs.map bxsD)), some (.int k), sp, some (.list []), o10, none, none]) (fun t δ => ∃ a bs o10, δ = [some (feed ms a []), some (ownD own), some (bdD b), o3, o4, some (.list ((ss ++ [sk]).map stD)), some (.list (cs.map bxsD)), some (.int k), sp, some (.list (bs.map bxD)), o10, none, none] ∧ bs.length = t ∧ ∀ b ∈ bs, GoodBx b) (ok_of_wp2 (by simp only [vcs, fillA, ownSlots, putOuts, outsOf, Nat.reduceAdd, Nat.reduceLT, Nat.reduceLeDiff, ↓reduceIte, draw_ev (rest := []) hm (show (0 : Int) < 6 by decide)])) (by omega) (by omega) ⟨_, [], _, rfl, rfl, fun b hb => (by cases hb)⟩ ?_ ?_
      · rintro t δ ht ⟨a, bs, o10, rfl, lbs, gbs⟩
        refine ⟨_, rfl, ?_⟩
        obtain ⟨n2, en2, l2, on2⟩ := str6 "ghijkl" (.inr rfl) t (by omega)
        have sz := size_lt (ms := ms) (a := a)
        simp only [vcs, fillA, ownSlots, putOuts, outsOf, Nat.reduceAdd, Nat.reduceLT, Nat.reduceLeDiff, ↓reduceIte, en, en2, strAdd_le (x := nm) (y := n2) (by omega), num_ev hm, size_ev hm, List.length_map]
        refine ⟨by omega, _, bs ++ [⟨nm ++ n2, sizeI ms a, "p", "k", sizeI ms (a + 1 + 1 + 1)⟩], some (.int t), by simp [bxD]; rfl, by simp [lbs], fun b hb => ?_⟩
        rcases List.mem_append.mp hb with z | z
        · exact gbs b z
        · simp only [List.mem_cons, List.not_mem_nil, or_false] at z
          subst z
          exact ⟨⟨by show (nm ++ n2).length ≤ 8; rw [str_app_len]; omega, str_app_ok on on2⟩, ⟨show ("p" : Str).length ≤ 8 by decide, ofString_ok _⟩, ⟨show ("k" : Str).length ≤ 8 by decide, ofString_ok _⟩, by show 1 ≤ sizeI ms a ∧ sizeI ms a ≤ 1000000000; omega⟩
      · rintro δ ⟨a, bs, o10, rfl, lbs, gbs⟩
        simp only [vcs, fillA, ownSlots, putOuts, outsOf, Nat.reduceAdd, Nat.reduceLT, Nat.reduceLeDiff, ↓reduceIte, List.length_map]
        refine ⟨by omega, a, ss ++ [sk], cs ++ [bs], some (.int k), sp, some (.list (bs.map bxD)), o10, by simp [bxsD], by simp [ls], by simp [lc], fun s hs => ?_, fun c hc => ?_, fun c hc => ?_⟩
        · rcases List.mem_append.mp hs with z | z
          · exact gs s z
          · simp only [List.mem_cons, List.not_mem_nil, or_false] at z
            subst z
            exact gS
        · rcases List.mem_append.mp hc with z | z
          · exact lb c z
          · simp only [List.mem_cons, List.not_mem_nil, or_false] at z
            subst z
            omega
        · rcases List.mem_append.mp hc with z | z
          · exact gb c z
          · simp only [List.mem_cons, List.not_mem_nil, or_false] at z
            subst z
            exact gbs
    · rintro δ ⟨a, ss, cs, o7, o8, o9, o10, rfl, ls, lc, gs, lb, gb⟩
      simp only [vcs, fillA, ownSlots, putOuts, outsOf, Nat.reduceAdd, Nat.reduceLT, Nat.reduceLeDiff, ↓reduceIte]
      have r2 := d5 a
      refine wm_rngI (j := drawI ms a 5) (δ1 := [some (feed ms (a + 1) []), some (ownD own), some (bdD b), o3, o4, some (.list (ss.map stD)), some (.list (cs.map bxsD)), o7, o8, o9, o10, some (.list []), none]) (fun k δ => ∃ a ts o12, δ = [some (feed ms a []), some (ownD own), some (bdD b), o3, o4, some (.list (ss.map stD)), some (.list (cs.map bxsD)), o7, o8, o9, o10, some (.list (ts.map tkD)), o12] ∧ ts.length = k ∧ ∀ t ∈ ts, GoodTk t) (ok_of_wp2 (by simp only [vcs, fillA, ownSlots, putOuts, outsOf, Nat.reduceAdd, Nat.reduceLT, Nat.reduceLeDiff, ↓reduceIte, draw_ev (rest := []) hm (show (0 : Int) < 5 by decide)])) (by omega) (by omega) ⟨_, [], _, rfl, rfl, fun b hb => (by cases hb)⟩ ?_ ?_
      · rintro k δ hk ⟨a, ts, o12, rfl, lt, gt⟩
        refine ⟨_, rfl, ?_⟩
        obtain ⟨nm, en, ln, on⟩ := str6 "abcdef" (.inl rfl) k (by omega)
        have sz := size_lt (ms := ms) (a := a + 1 + 1 + 1 + 1 + 1 + 1 + 1 + 1 + 1)
        simp only [vcs, fillA, ownSlots, putOuts, outsOf, Nat.reduceAdd, Nat.reduceLT, Nat.reduceLeDiff, ↓reduceIte, en, num_ev hm, size_ev hm, o_tupAdd, List.cons_append, List.nil_append, List.length_map]
        refine ⟨by omega, _, ts ++ [⟨nm, numI ms a, numI ms (a + 1 + 1 + 1), numI ms (a + 1 + 1 + 1 + 1 + 1 + 1), sizeI ms (a + 1 + 1 + 1 + 1 + 1 + 1 + 1 + 1 + 1)⟩], some (.int (k : Int)), by simp [tkD]; rfl, by simp [lt], fun t ht => ?_⟩
        rcases List.mem_append.mp ht with z | z
        · exact gt t z
        · simp only [List.mem_cons, List.not_mem_nil, or_false] at z
          subst z
          exact ⟨⟨by show nm.length ≤ 8; omega, on⟩, InB.num, InB.num, InB.num, by show 0 ≤ sizeI ms _ ∧ sizeI ms _ ≤ 1000000000; omega⟩
      · rintro δ ⟨a, ts, o12, rfl, lt, gt⟩
        simp only [vcs, fillA, ownSlots, putOuts, outsOf, Nat.reduceAdd, Nat.reduceLT, Nat.reduceLeDiff, ↓reduceIte]
        exact ⟨own, b, ss, cs, ts, a, rfl, rfl, ⟨own0.1, own0.2, by omega, by omega, fun c hc => by have := lb c hc; omega, by omega, gs, gb, gt⟩, gb0⟩
  obtain ⟨r, os, e, own, b, ss, cs, ts, a', rfl, rfl, q⟩ := main
  exact ⟨own, b, ss, cs, ts, a', e, q⟩
end
end Toy
namespace Toy
open PySem L2
section
variable {own : Q4} {b : Bds} {ss : List St} {cs : List (List Bx)} {ts : List Tk}
noncomputable def q4L (q : Q4) : D := .list [.int q.1, .int q.2.1, .int q.2.2.1, .int q.2.2.2]
theorem rng4 {δ : DS} : dRng [dC (.int 4)] δ = .ok [.int 0, .int 1, .int 2, .int 3] δ := by
  simp only [dRng, dVals, dC_ok, bind_ok, rng2]
  rw [if_pos ⟨by decide, by decide⟩]
  rfl
theorem map_get {α : Type} {enc : α → D} {l : List α} {d0 : α} {k : Nat} {d : D} (h : (l.map enc)[k]? = some d) : k < l.length ∧ d = enc (l.getD k d0) := by
  rw [List.getElem?_map] at h
  cases e : l[k]? with
  | none => rw [e] at h; cases h
  | some x =>
    rw [e] at h
    have hk : k < l.length := (List.getElem?_eq_some_iff.mp e).1
    refine ⟨hk, ?_⟩
    have := getD_at (d := d0) hk
    rw [e] at this
    cases this
    cases h
    rfl
theorem plus_ev {p q : Q4} {δ : DS} {o : Option D} {i j : Nat} (h1 : δ[i]? = some (some (q4L p))) (h2 : δ[j]? = some (some (q4L q))) : dComp 1 (setN 0) (dRng [dC (.int 4)]) dTrue (dOp addD (dOp ixD (dVar (i + 1)) (dVar 0)) (dOp ixD (dVar (j + 1)) (dVar 0))) δ = .ok (q4L (p.1 + q.1, p.2.1 + q.2.1, p.2.2.1 + q.2.2.1, p.2.2.2 + q.2.2.2)) δ := by
  have := comp_enc (enc := PyData.int) (xs := [0, 1, 2, 3]) (g := fun k => PyData.int (([p.1 + q.1, p.2.1 + q.2.1, p.2.2.1 + q.2.2.1, p.2.2.2 + q.2.2.2] : List Int).getD k.toNat 0)) (f := dRng [dC (.int 4)]) (e := dOp addD (dOp ixD (dVar (i + 1)) (dVar 0)) (dOp ixD (dVar (j + 1)) (dVar 0))) (δ := δ) rng4 (by decide) fun x hx => by
    have q1 : (some (PyData.int x) :: δ)[i + 1]? = some (some (q4L p)) := h1
    have q2 : (some (PyData.int x) :: δ)[j + 1]? = some (some (q4L q)) := h2
    simp only [List.mem_cons, List.not_mem_nil, or_false] at hx
    rcases hx with rfl | rfl | rfl | rfl
    · simp only [vcs, fillA, ownSlots, putOuts, outsOf, Nat.reduceAdd, Nat.reduceLT, Nat.reduceLeDiff, ↓reduceIte, q1, q2, q4L]
      rfl
    · simp only [vcs, fillA, ownSlots, putOuts, outsOf, Nat.reduceAdd, Nat.reduceLT, Nat.reduceLeDiff, ↓reduceIte, q1, q2, q4L]
      rfl
    · simp only [vcs, fillA, ownSlots, putOuts, outsOf, Nat.reduceAdd, Nat.reduceLT, Nat.reduceLeDiff, ↓reduceIte, q1, q2, q4L]
      rfl
    · simp only [vcs, fillA, ownSlots, putOuts, outsOf, Nat.reduceAdd, Nat.reduceLT, Nat.reduceLeDiff, ↓reduceIte, q1, q2, q4L]
      rfl
  exact this
theorem up_ev {s : St} {t : Nat} : s.z + (t : Int) * s.t + s.t = s.z + ((t + 1 : Nat) : Int) * s.t := by
  have : ((t + 1 : Nat) : Int) * s.t = (t : Int) * s.t + s.t := by rw [Int.natCast_add, Int.add_mul]; simp
  omega
theorem sums_ev (M : Made own ss cs ts) : d_l_sums [shD own b ss ts, .list (cs.map bxsD)] = .ok (q4L (T4 (own :: plT ss cs ss.length))) [] := by
  have lc := M.lc
  have ls := M.ls
  have o0 := M.o0
  refine fn_of_wp (os := []) ?_
  show wpM b_l_sums [some (shD own b ss ts), some (.list (cs.map bxsD)), none, none, none, none, none] _ _ _ _
  unfold b_l_sums
  have i0 : ixD (shD own b ss ts) (.int 0) = some (ownD own) := rfl
  have i2 : ixD (shD own b ss ts) (.int 2) = some (.list (ss.map stD)) := rfl
  refine wm_cut (fun δ => δ = [some (shD own b ss ts), some (.list (cs.map bxsD)), some (q4L (T4 [own])), none, none, none, none]) ?_ ?_
  · simp only [vcs, fillA, ownSlots, putOuts, outsOf, Nat.reduceAdd, Nat.reduceLT, Nat.reduceLeDiff, ↓reduceIte, i0, ownD]
    refine ⟨by first | exact mok_l (by omega) (by omega) | exact mok_r (by omega) (by omega), by first | exact mok_l (by omega) (by omega) | exact mok_r (by omega) (by omega), by first | exact mok_l (by omega) (by omega) | exact mok_r (by omega) (by omega), ?_⟩
    simp [q4L, T4]
  rintro δ rfl
  have e00 : T4 [own] = T4 (own :: plT ss cs 0) := rfl
  rw [e00]
  simp only [vcs, fillA, ownSlots, putOuts, outsOf, Nat.reduceAdd, Nat.reduceLT, Nat.reduceLeDiff, ↓reduceIte]
  refine wm_rng (j := cs.length) (δ1 := [some (shD own b ss ts), some (.list (cs.map bxsD)), some (q4L (T4 (own :: plT ss cs 0))), none, none, none, none]) (fun k δ => ∃ o3 o4 o5 o6, δ = [some (shD own b ss ts), some (.list (cs.map bxsD)), some (q4L (T4 (own :: plT ss cs k))), o3, o4, o5, o6]) (ok_of_wp2 (by simp only [vcs, fillA, ownSlots, putOuts, outsOf, Nat.reduceAdd, Nat.reduceLT, Nat.reduceLeDiff, ↓reduceIte, List.length_map])) (by omega) ⟨_, _, _, _, rfl⟩ ?_ ?_
  · rintro k δ hk ⟨o3, o4, o5, o6, rfl⟩
    refine ⟨_, rfl, ?_⟩
    have ks : k < ss.length := by omega
    have e1 := at_map (enc := stD) (l := ss) (d := s00) ks
    have e2 := at_map (enc := bxsD) (l := cs) (d := []) hk
    have gb := M.gb _ (getD_mem (d := []) hk)
    have hin : inT (ss.getD k s00) (cs.getD k []) (cs.getD k []).length = inT (ss.getD k s00) (cs.getD k []) (cs.getD k []).length := rfl
    rw [plT_succ]
    generalize ss.getD k s00 = s at *
    generalize cs.getD k [] = bs at *
    have s1 : ixD (stD s) (.int 1) = some (.int s.x) := rfl
    have s2 : ixD (stD s) (.int 2) = some (.int s.y) := rfl
    have s3 : ixD (stD s) (.int 3) = some (.int s.z) := rfl
    have s4 : ixD (stD s) (.int 4) = some (.int s.t) := rfl
    simp only [vcs, fillA, ownSlots, putOuts, outsOf, Nat.reduceAdd, Nat.reduceLT, Nat.reduceLeDiff, ↓reduceIte, i2, e1, s3]
    refine wm_for (ds := bs.map bxD) (δ1 := _) (fun t δ => ∃ o5 o6, δ = [some (shD own b ss ts), some (.list (cs.map bxsD)), some (q4L (T4 (own :: plT ss cs k ++ inT s bs t))), some (.int (k : Int)), some (.int (s.z + (t : Int) * s.t)), o5, o6]) (items_wp (by simp only [vcs, fillA, ownSlots, putOuts, outsOf, Nat.reduceAdd, Nat.reduceLT, Nat.reduceLeDiff, ↓reduceIte, e2, bxsD])) ⟨o5, o6, by simp [inT]⟩ ?_ ?_
    · rintro t d δ ht ⟨o5, o6, rfl⟩
      obtain ⟨t1, rfl⟩ := map_get (d0 := b00) ht
      have gw := (gb _ (getD_mem (d := b00) t1)).w
      have eT : T4 (own :: plT ss cs k ++ inT s bs (t + 1)) = ((T4 (own :: plT ss cs k ++ inT s bs t)).1 + (bs.getD t b00).w, (T4 (own :: plT ss cs k ++ inT s bs t)).2.1 + (bs.getD t b00).w * s.x, (T4 (own :: plT ss cs k ++ inT s bs t)).2.2.1 + (bs.getD t b00).w * s.y, (T4 (own :: plT ss cs k ++ inT s bs t)).2.2.2 + (bs.getD t b00).w * (s.z + (t : Int) * s.t)) := by
        rw [inT_succ, ← List.append_assoc, T4_snoc]
      rw [eT]
      generalize bs.getD t b00 = bx at *
      generalize T4 (own :: plT ss cs k ++ inT s bs t) = q at *
      have b1 : ixD (bxD bx) (.int 1) = some (.int bx.w) := rfl
      refine ⟨_, rfl, ?_⟩
      simp only [vcs, fillA, ownSlots, putOuts, outsOf, Nat.reduceAdd, Nat.reduceLT, Nat.reduceLeDiff, ↓reduceIte, b1, i2, e1, s1, s2, s4]
      refine ⟨by first | exact mok_l (by omega) (by omega) | exact mok_r (by omega) (by omega), by first | exact mok_l (by omega) (by omega) | exact mok_r (by omega) (by omega), by first | exact mok_l (by omega) (by omega) | exact mok_r (by omega) (by omega), wpV.of (plus_ev (p := q) (q := (bx.w, bx.w * s.x, bx.w * s.y, bx.w * (s.z + (t : Int) * s.t))) (o := none) (i := 2) (j := 6) rfl rfl) ?_⟩
      simp only [vcs, fillA, ownSlots, putOuts, outsOf, Nat.reduceAdd, Nat.reduceLT, Nat.reduceLeDiff, ↓reduceIte, i2, e1, s4]
      rw [up_ev]
      exact ⟨_, _, rfl⟩
    · rintro δ ⟨o5, o6, rfl⟩
      rw [List.length_map]
      exact ⟨_, _, _, _, rfl⟩
  · rintro δ ⟨o3, o4, o5, o6, rfl⟩
    rw [lc]
    simp only [vcs, fillA, ownSlots, putOuts, outsOf, Nat.reduceAdd, Nat.reduceLT, Nat.reduceLeDiff, ↓reduceIte]
theorem comp_tk {f : Tk → Int} {δ : DS} {fi : M (List D)} {e : M D} (lt : ts.length ≤ 10) (hf : fi δ = .ok (ts.map tkD) δ) (he : ∀ t : Tk, wpV e (some (tkD t) :: δ) fun a δ1 => a = .int (f t) ∧ δ1 = some (tkD t) :: δ) : dComp 1 (setN 0) fi dTrue e δ = .ok (iL (ts.map f)) δ := by
  have := comp_enc (enc := tkD) (xs := ts) (g := fun t => .int (f t)) (f := fi) (e := e) (δ := δ) hf (by omega) fun t _ => he t
  rw [tkRow] at this
  exact this
theorem due_ev {q : Q4} (lt : ts.length ≤ 10) (g : GoodBds b) : d_l_rows [shD own b ss ts, q4L q] = .ok (.list ((rowsL ts b q).map rowD)) [] := by
  have e24 : sizeLine = 2 ^ 24 := rfl
  obtain ⟨g0, g1, g2, g3, g4, g5⟩ := g
  unfold InB at g0 g1 g2 g3 g4 g5
  refine fn_of_wp (os := []) ?_
  show wpM b_l_rows [some (shD own b ss ts), some (q4L q), none, none, none, none] _ _ _ _
  unfold b_l_rows
  have i1 : ixD (shD own b ss ts) (.int 1) = some (bdD b) := rfl
  have i3 : ixD (shD own b ss ts) (.int 3) = some (.list (ts.map tkD)) := rfl
  simp only [vcs, fillA, ownSlots, putOuts, outsOf, Nat.reduceAdd, Nat.reduceLT, Nat.reduceLeDiff, ↓reduceIte]
  refine wm_unroll items2 ?_
  simp only [vcs, fillA, ownSlots, putOuts, outsOf, Nat.reduceAdd, Nat.reduceLT, Nat.reduceLeDiff, ↓reduceIte, v_loopC, v_loopN, k_setN, i1, bdD, Int.reduceMul, Int.reduceSub]
  refine ⟨by first | exact mok_l (by omega) (by omega) | exact mok_r (by omega) (by omega), by first | exact mok_l (by omega) (by omega) | exact mok_r (by omega) (by omega), wpV.of (comp_tk (f := fun t => t.x - b.b1) lt (items_wp (by simp only [vcs, fillA, ownSlots, putOuts, outsOf, Nat.reduceAdd, Nat.reduceLT, Nat.reduceLeDiff, ↓reduceIte, i3])) fun t => by simp only [vcs, fillA, ownSlots, putOuts, outsOf, Nat.reduceAdd, Nat.reduceLT, Nat.reduceLeDiff, ↓reduceIte, tkD]) ?_⟩
  simp only [vcs, fillA, ownSlots, putOuts, outsOf, Nat.reduceAdd, Nat.reduceLT, Nat.reduceLeDiff, ↓reduceIte, q4L, List.nil_append]
  refine ⟨by first | exact mok_l (by omega) (by omega) | exact mok_r (by omega) (by omega), by omega, wpV.of (comp_tk (f := fun t => b.b0 - t.x) lt (items_wp (by simp only [vcs, fillA, ownSlots, putOuts, outsOf, Nat.reduceAdd, Nat.reduceLT, Nat.reduceLeDiff, ↓reduceIte, i3])) fun t => by simp only [vcs, fillA, ownSlots, putOuts, outsOf, Nat.reduceAdd, Nat.reduceLT, Nat.reduceLeDiff, ↓reduceIte, tkD]) ?_⟩
  simp only [vcs, fillA, ownSlots, putOuts, outsOf, Nat.reduceAdd, Nat.reduceLT, Nat.reduceLeDiff, ↓reduceIte, q4L, List.nil_append, List.cons_append, v_loopC, v_loopN, k_setN, i1, bdD, Int.reduceMul, Int.reduceSub, List.length_cons, List.length_nil, Nat.reduceAdd]
  refine ⟨by first | exact mok_l (by omega) (by omega) | exact mok_r (by omega) (by omega), by omega, by first | exact mok_l (by omega) (by omega) | exact mok_r (by omega) (by omega), by first | exact mok_l (by omega) (by omega) | exact mok_r (by omega) (by omega), wpV.of (comp_tk (f := fun t => t.y - b.b3) lt (items_wp (by simp only [vcs, fillA, ownSlots, putOuts, outsOf, Nat.reduceAdd, Nat.reduceLT, Nat.reduceLeDiff, ↓reduceIte, i3])) fun t => by simp only [vcs, fillA, ownSlots, putOuts, outsOf, Nat.reduceAdd, Nat.reduceLT, Nat.reduceLeDiff, ↓reduceIte, tkD]) ?_⟩
  simp only [vcs, fillA, ownSlots, putOuts, outsOf, Nat.reduceAdd, Nat.reduceLT, Nat.reduceLeDiff, ↓reduceIte, q4L, List.nil_append, List.cons_append, v_loopC, v_loopN, k_setN, i1, bdD, Int.reduceMul, Int.reduceSub, List.length_cons, List.length_nil, Nat.reduceAdd]
  refine ⟨by first | exact mok_l (by omega) (by omega) | exact mok_r (by omega) (by omega), by omega, wpV.of (comp_tk (f := fun t => b.b2 - t.y) lt (items_wp (by simp only [vcs, fillA, ownSlots, putOuts, outsOf, Nat.reduceAdd, Nat.reduceLT, Nat.reduceLeDiff, ↓reduceIte, i3])) fun t => by simp only [vcs, fillA, ownSlots, putOuts, outsOf, Nat.reduceAdd, Nat.reduceLT, Nat.reduceLeDiff, ↓reduceIte, tkD]) ?_⟩
  simp only [vcs, fillA, ownSlots, putOuts, outsOf, Nat.reduceAdd, Nat.reduceLT, Nat.reduceLeDiff, ↓reduceIte, q4L, List.nil_append, List.cons_append, v_loopC, v_loopN, k_setN, i1, bdD, Int.reduceMul, Int.reduceSub, List.length_cons, List.length_nil, Nat.reduceAdd]
  refine ⟨by first | exact mok_l (by omega) (by omega) | exact mok_r (by omega) (by omega), by omega, wpV.of (comp_tk (f := fun t => t.z - b.b4) lt (items_wp (by simp only [vcs, fillA, ownSlots, putOuts, outsOf, Nat.reduceAdd, Nat.reduceLT, Nat.reduceLeDiff, ↓reduceIte, i3])) fun t => by simp only [vcs, fillA, ownSlots, putOuts, outsOf, Nat.reduceAdd, Nat.reduceLT, Nat.reduceLeDiff, ↓reduceIte, tkD, i1, bdD]) ?_⟩
  simp only [vcs, fillA, ownSlots, putOuts, outsOf, Nat.reduceAdd, Nat.reduceLT, Nat.reduceLeDiff, ↓reduceIte, q4L, List.nil_append, List.cons_append, v_loopC, v_loopN, k_setN, i1, bdD, Int.reduceMul, Int.reduceSub, List.length_cons, List.length_nil, Nat.reduceAdd]
  refine ⟨by first | exact mok_l (by omega) (by omega) | exact mok_r (by omega) (by omega), by omega, wpV.of (comp_tk (f := fun _ => 1) lt (items_wp (by simp only [vcs, fillA, ownSlots, putOuts, outsOf, Nat.reduceAdd, Nat.reduceLT, Nat.reduceLeDiff, ↓reduceIte, i3])) fun t => by simp only [vcs, fillA, ownSlots, putOuts, outsOf, Nat.reduceAdd, Nat.reduceLT, Nat.reduceLeDiff, ↓reduceIte]) ?_⟩
  simp only [vcs, fillA, ownSlots, putOuts, outsOf, Nat.reduceAdd, Nat.reduceLT, Nat.reduceLeDiff, ↓reduceIte, q4L, List.nil_append, List.cons_append, v_loopC, v_loopN, k_setN, i1, bdD, Int.reduceMul, Int.reduceSub, List.length_cons, List.length_nil, Nat.reduceAdd]
  exact ⟨by omega, rfl⟩
end
end Toy
namespace Toy
open PySem L2
section
variable {own : Q4} {b : Bds} {ss : List St} {cs : List (List Bx)} {ts : List Tk} {rs : List (List Int × Int)}
theorem whole_ev {n : Int} : d_l_whole [.int n] = .ok (.bool true) [] := by
  refine fn_of_wp (os := []) ?_
  show wpM b_l_whole [some (.int n)] _ _ _ _
  unfold b_l_whole
  have t1 : isiD .int (.int n) = some (.bool true) := rfl
  have t2 : isiD .bool (.int n) = some (.bool false) := rfl
  simp only [vcs, fillA, ownSlots, putOuts, outsOf, Nat.reduceAdd, Nat.reduceLT, Nat.reduceLeDiff, ↓reduceIte, t1, t2]
theorem alike_ev (hl : rs.length = 6) (hr : ∀ r ∈ rs, r.1.length ≤ 10) (heq : eqD (.list (rs.map rowD)) (.list (rs.map rowD)) = some (.bool true)) : d_l_alike [.list (rs.map rowD), .list (rs.map rowD)] = .ok (.bool true) [] := by
  have e24 : sizeLine = 2 ^ 24 := rfl
  refine fn_of_wp (os := []) ?_
  show wpM b_l_alike [some (.list (rs.map rowD)), some (.list (rs.map rowD)), none, none] _ _ _ _
  unfold b_l_alike
  have t1 : ∀ l, isiD .list (.list l) = some (.bool true) := fun _ => rfl
  have t2 : ∀ l, isiD .tuple (.tuple l) = some (.bool true) := fun _ => rfl
  simp only [vcs, fillA, ownSlots, putOuts, outsOf, Nat.reduceAdd, Nat.reduceLT, Nat.reduceLeDiff, ↓reduceIte, t1, List.length_map, hl]
  rw [if_neg (by decide)]
  refine wm_rng (j := 6) (δ1 := [some (.list (rs.map rowD)), some (.list (rs.map rowD)), none, none]) (fun k δ => ∃ o2 o3, δ = [some (.list (rs.map rowD)), some (.list (rs.map rowD)), o2, o3]) (ok_of_wp2 (by simp only [vcs, fillA, ownSlots, putOuts, outsOf, Nat.reduceAdd, Nat.reduceLT, Nat.reduceLeDiff, ↓reduceIte]; rfl)) (by decide) ⟨_, _, rfl⟩ ?_ ?_
  · rintro k δ hk ⟨o2, o3, rfl⟩
    refine ⟨_, rfl, ?_⟩
    have kl : k < rs.length := by omega
    have e1 := at_map (enc := rowD) (l := rs) (d := ([], 0)) kl
    have l1 := hr _ (getD_mem (d := ([], 0)) kl)
    generalize rs.getD k ([], 0) = r at *
    have c1 : addD (iL r.1) (.list [.int r.2]) = some (.list (r.1.map PyData.int ++ [.int r.2])) := by
      show ((none : Option D).or ((none : Option D).or ((none : Option D).or (if (r.1.map PyData.int).length + [PyData.int r.2].length ≤ sizeLine then some (PyData.list (r.1.map PyData.int ++ [.int r.2])) else none)))) = _
      rw [if_pos (by simp; omega)]
      rfl
    simp only [vcs, fillA, ownSlots, putOuts, outsOf, Nat.reduceAdd, Nat.reduceLT, Nat.reduceLeDiff, ↓reduceIte, e1, rowD, t2, t1, List.length_cons, List.length_nil, Nat.reduceAdd]
    rw [if_neg (by decide)]
    have am : ∀ n ∈ r.1 ++ [r.2], d_l_whole [.int n] = .ok (.bool true) [] := fun n _ => whole_ev
    refine wm_for (ds := (r.1 ++ [r.2]).map PyData.int) (δ1 := [some (.list (rs.map rowD)), some (.list (rs.map rowD)), some (.int (k : Int)), o3]) (fun t δ => ∃ o3, δ = [some (.list (rs.map rowD)), some (.list (rs.map rowD)), some (.int (k : Int)), o3]) (items_wp (by simp only [vcs, fillA, ownSlots, putOuts, outsOf, Nat.reduceAdd, Nat.reduceLT, Nat.reduceLeDiff, ↓reduceIte, e1, rowD, c1]; simp)) ⟨_, rfl⟩ ?_ ?_
    · rintro t d δ ht ⟨o3, rfl⟩
      obtain ⟨_, rfl⟩ := map_get (d0 := (0 : Int)) ht
      refine ⟨_, rfl, ?_⟩
      simp only [vcs, fillA, ownSlots, putOuts, outsOf, Nat.reduceAdd, Nat.reduceLT, Nat.reduceLeDiff, ↓reduceIte, whole_ev]
      exact ⟨_, rfl⟩
    · rintro δ ⟨o3, rfl⟩
      exact ⟨_, _, rfl⟩
  · rintro δ ⟨o2, o3, rfl⟩
    simp only [vcs, fillA, ownSlots, putOuts, outsOf, Nat.reduceAdd, Nat.reduceLT, Nat.reduceLeDiff, ↓reduceIte, heq]
theorem rows_len {q : Q4} : ∀ r ∈ rowsL ts b q, r.1.length = ts.length := by
  intro r hr
  unfold rowsL at hr
  simp only [List.mem_cons, List.not_mem_nil, or_false] at hr
  rcases hr with rfl | rfl | rfl | rfl | rfl | rfl <;> simp
theorem rows_sh : Sh 4 (.list (rs.map rowD)) := sh_list fun d hd => by
  obtain ⟨r, _, rfl⟩ := List.mem_map.mp hd
  exact sh_tup fun d hd => by
    simp only [List.mem_cons, List.not_mem_nil, or_false] at hd
    rcases hd with rfl | rfl
    · exact sh_ints
    · exact sh_int.mono (by decide)
theorem cargo_sh (g : ∀ c ∈ cs, ∀ b ∈ c, GoodBx b) : Sh 5 (.list (cs.map bxsD)) := sh_list fun d hd => by
  obtain ⟨c, hc, rfl⟩ := List.mem_map.mp hd
  refine sh_list fun d hd => ?_
  obtain ⟨x, hx, rfl⟩ := List.mem_map.mp hd
  have gx := g c hc x hx
  refine sh_tup fun d hd => ?_
  simp only [List.mem_cons, List.not_mem_nil, or_false] at hd
  rcases hd with rfl | rfl | rfl | rfl | rfl
  · exact gx.nm.sh.mono (by decide)
  · exact sh_int.mono (by decide)
  · exact gx.p.sh.mono (by decide)
  · exact gx.k.sh.mono (by decide)
  · exact sh_int.mono (by decide)
theorem cut_all {ds : List D} (h : ds.length ≤ 120) : cutL (.list ds) none (some 120) = some (.list ds) := by
  show some (PyData.list (cutD ds none (some ((120 : Nat) : Int)))) = _
  unfold cutD
  rw [HT.sIx_none, HT.sIx_nat, List.drop_zero, Nat.sub_zero, List.take_of_length_le (by omega)]
theorem items_okT {i : Nat} {δ : DS} {as : List D} (h1 : δ[i]? = some (some (.tuple as))) : dItems (dVar i) δ = .ok as δ := by
  simp only [dItems, dVar_ok h1, bind_ok]
theorem copy_ev {i : Nat} {δ : DS} (hl : cs.length ≤ 10) (h1 : δ[i]? = some (some (.list (cs.map bxsD)))) : dComp 1 (setN 0) (dItems (dVar i)) dTrue (dFn listD [dVar 0]) δ = .ok (.list (cs.map bxsD)) δ :=
  comp_enc (enc := bxsD) (xs := cs) (g := bxsD) (items_okL h1) (by omega) fun x _ => by
    have : listD [bxsD x] = some (bxsD x) := rfl
    simp only [vcs, fillA, ownSlots, putOuts, outsOf, Nat.reduceAdd, Nat.reduceLT, Nat.reduceLeDiff, ↓reduceIte, this]
theorem mutP_ev {ow : List Nat} {s0 s1 s2 s3 s4 s5 s6 s7 s8 s9 : Option D} {r : List Int × Int} {rest : List D} (h : r.1.length ≤ 10) : dMutP ow 10 (dC (.int 0)) (dC (.int 0)) appD [dC (.int 7)] [s0, s1, s2, s3, s4, s5, s6, s7, s8, s9, some (.list (rowD r :: rest))] = .ok .none [s0, s1, s2, s3, s4, s5, s6, s7, s8, s9, some (.list (.tuple [.list (r.1.map PyData.int ++ [.int 7]), .int r.2] :: rest))] := by
  have e24 : sizeLine = 2 ^ 24 := rfl
  have e1 : appD (r.1.map PyData.int) [.int 7] = some (.none, r.1.map PyData.int ++ [.int 7]) := if_pos (by simp; omega)
  have i1 : ixN (rest.length + 1) 0 = some 0 := ixN_0
  have i2 : ixN 2 0 = some 0 := ixN_0 (m := 1)
  unfold dMutP
  simp only [List.getElem?_cons_succ, List.getElem?_cons_zero, dC, List.length_cons, i1, rowD, List.length_nil, Nat.zero_add, Nat.reduceAdd, i2, if_true, dVals, bind_ok, e1, List.set_cons_zero, List.set_cons_succ]
theorem kill_ev {s0 s1 s2 s3 s4 s5 s6 s7 s8 s9 : Option D} {d : D} {rest : List D} : dKillPop 10 [s0, s1, s2, s3, s4, s5, s6, s7, s8, s9, some (.list (d :: rest))] = .ok .next [s0, s1, s2, s3, s4, s5, s6, s7, s8, s9, none] := by
  unfold dKillPop
  simp
theorem law_true (ns : List Int) (hn : ns.length ≤ 63) : d_law [.list (ns.map .int)] = .ok (.bool true) [] := by
  have e24 : sizeLine = 2 ^ 24 := rfl
  have hm : ns.length ≤ 1000 := by omega
  refine fn_of_wp (os := []) ?_
  show wpM b_law [some (iL ns), none, none, none, none, none, none, none, none, none, none] _ _ _ _
  unfold b_law
  have ec : cutL (iL ns) none (some 120) = some (iL ns) := cut_all (by simp; omega)
  obtain ⟨own, b, ss, cs, ts, a1, em, M, gB⟩ := made_ev (ms := ns) (a := 0) hm
  have em : d_l_ship [.list [iL ns, .int 0]] = .ok (.tuple [shD own b ss ts, .list (cs.map bxsD)]) [some (feed ns a1 [])] := em
  have lt := M.lt
  have lc := M.lc
  have ls := M.ls
  have e1 := sums_ev (b := b) M
  have e2 := weights_ev (bd := bdD b) (tk := .list (ts.map tkD)) (ap := .list []) M
  have e4 := rows_ev (ap := .list []) M gB
  generalize T4 (own :: plT ss cs ss.length) = q at *
  have e3 := due_ev (own := own) (ss := ss) (q := q) lt gB
  have al := alike_ev (rs := rowsL ts b q) rfl (fun r hr => by rw [rows_len r hr]; omega) (eq_refl rows_sh (by decide))
  simp only [vcs, fillA, ownSlots, putOuts, outsOf, Nat.reduceAdd, Nat.reduceLT, Nat.reduceLeDiff, ↓reduceIte, v_sl, v_opt0, v_opt1, k_int, ec, em, e1]
  refine wpV.of (copy_ev (by omega) rfl) ?_
  have t2 : ∀ l, isiD .tuple (.tuple l) = some (.bool true) := fun _ => rfl
  have tl : tupleD [q4L q] = some (q4D q) := rfl
  have nq : neD (q4D q) (q4D q) = some (.bool false) := ne_refl (k := 2) (sh_tup fun d hd => by
    simp only [List.mem_cons, List.not_mem_nil, or_false] at hd
    rcases hd with rfl | rfl | rfl | rfl <;> exact sh_int) (by decide)
  have tq : isiD .tuple (q4D q) = some (.bool true) := rfl
  have lq : lenD [q4D q] = some (.int 4) := rfl
  simp only [vcs, fillA, ownSlots, putOuts, outsOf, Nat.reduceAdd, Nat.reduceLT, Nat.reduceLeDiff, ↓reduceIte, e2, tq, lq, tl, nq]
  rw [if_neg (by decide)]
  refine wm_unroll (items_okT (as := [.int q.1, .int q.2.1, .int q.2.2.1, .int q.2.2.2]) rfl) ?_
  simp only [vcs, fillA, ownSlots, putOuts, outsOf, Nat.reduceAdd, Nat.reduceLT, Nat.reduceLeDiff, ↓reduceIte, v_loopC, v_loopN, k_setN, whole_ev, e3]
  refine wpV.of (copy_ev (by omega) rfl) ?_
  simp only [vcs, fillA, ownSlots, putOuts, outsOf, Nat.reduceAdd, Nat.reduceLT, Nat.reduceLeDiff, ↓reduceIte, e4, v_borT, al]
  obtain ⟨r0, rest, hR⟩ : ∃ r0 rest, rowsL ts b q = r0 :: rest := ⟨_, _, rfl⟩
  have hr0 : r0.1.length ≤ 10 := by
    have := rows_len (ts := ts) (b := b) (q := q) r0 (by rw [hR]; exact List.mem_cons_self)
    omega
  have em2 : (rowsL ts b q).map rowD = rowD r0 :: rest.map rowD := by rw [hR]; rfl
  have cq : eqD (.list (cs.map bxsD)) (.list (cs.map bxsD)) = some (.bool true) := eq_refl (cargo_sh M.gb) (by decide)
  have mp := fun s8 : Option D => mutP_ev (ow := [0, 1, 0, 0, 0, 0, 0, 0, 0, 0, 11]) (s0 := some (iL ns)) (s1 := some (feed ns a1 [])) (s2 := some (.tuple [shD own b ss ts, .list (cs.map bxsD)])) (s3 := some (shD own b ss ts)) (s4 := some (.list (cs.map bxsD))) (s5 := some (q4L q)) (s6 := some (q4D q)) (s7 := some (.int q.2.2.2)) (s8 := s8) (s9 := some (.list (cs.map bxsD))) (rest := rest.map rowD) hr0
  have mp := mp (some (.list ((rowsL ts b q).map rowD)))
  rw [← em2] at mp
  refine wpV.of mp ?_
  rw [v_seq]
  refine wpM.of kill_ev ?_
  show wpM (dRet _) _ _ _ _ _
  simp only [vcs, fillA, ownSlots, putOuts, outsOf, Nat.reduceAdd, Nat.reduceLT, Nat.reduceLeDiff, ↓reduceIte, e4, al, cq]
end
end Toy
namespace Toy
open PySem L2
end Toy
namespace Toy
open PySem
theorem us1 {P : List Value → Prop} {us : List Value} (hl : us.length = 1) (h : ∀ x0, P [x0]) : P us := match us, hl with | [x0], _ => h x0
theorem us2 {P : List Value → Prop} {us : List Value} (hl : us.length = 2) (h : ∀ x0 x1, P [x0, x1]) : P us := match us, hl with | [x0, x1], _ => h x0 x1
theorem us3 {P : List Value → Prop} {us : List Value} (hl : us.length = 3) (h : ∀ x0 x1 x2, P [x0, x1, x2]) : P us := match us, hl with | [x0, x1, x2], _ => h x0 x1 x2
theorem us4 {P : List Value → Prop} {us : List Value} (hl : us.length = 4) (h : ∀ x0 x1 x2 x3, P [x0, x1, x2, x3]) : P us := match us, hl with | [x0, x1, x2, x3], _ => h x0 x1 x2 x3
end Toy
namespace Toy
open PySem L2
noncomputable def txt_mk {K : PySem.W.Frag} {h : Heap} {mg : Str → Option Value} {f1 f2 f3 f4 f5 f6 f7 f8 f9 f10 f11 f12 f13 f14 : Addr} (X : K.In h) (G : h.Ns mainGlobals mg)
    {od1 an1 od2 an2 od3 an3 od4 an4 od5 an5 od6 an6 od7 an7 od8 an8 od9 an9 od10 an10 od11 an11 od12 an12 od13 an13 od14 an14 : Option Addr} {sl1 sl2 sl3 sl4 sl5 sl6 sl7 sl8 sl9 sl10 sl11 sl12 sl13 sl14 : Array (Option Value)} {oc1 kV1 dc1 pm1 cd1 ct1 oc2 kV2 dc2 pm2 cd2 ct2 oc3 kV3 dc3 pm3 cd3 ct3 oc4 kV4 dc4 pm4 cd4 ct4 oc5 kV5 dc5 pm5 cd5 ct5 oc6 kV6 dc6 pm6 cd6 ct6 oc7 kV7 dc7 pm7 cd7 ct7 oc8 kV8 dc8 pm8 cd8 ct8 oc9 kV9 dc9 pm9 cd9 ct9 oc10 kV10 dc10 pm10 cd10 ct10 oc11 kV11 dc11 pm11 cd11 ct11 oc12 kV12 dc12 pm12 cd12 ct12 oc13 kV13 dc13 pm13 cd13 ct13 oc14 kV14 dc14 pm14 cd14 ct14 : Value} {t0 t1 t2 : Tok}
    (a1 : PySem.W.nsIn K mainGlobals "added" = some (some (.ref f1))) (l1 : K.lookup f1 = some ⟨oc1, od1, .func (PySem.W.fnOf "added" "added" (defArgs s_added) (defBody s_added) (defScope s_added) .none kV1 dc1 pm1 an1 cd1 ct1), sl1⟩) (c1 : PySem.W.codeIn K cd1 "added" = true) (k1 : PySem.W.keepIn K (.ref f1) = true)
    (a2 : PySem.W.nsIn K mainGlobals "weights" = some (some (.ref f2))) (l2 : K.lookup f2 = some ⟨oc2, od2, .func (PySem.W.fnOf "weights" "weights" (defArgs s_weights) (defBody s_weights) (defScope s_weights) .none kV2 dc2 pm2 an2 cd2 ct2), sl2⟩) (c2 : PySem.W.codeIn K cd2 "weights" = true) (k2 : PySem.W.keepIn K (.ref f2) = true)
    (a3 : PySem.W.nsIn K mainGlobals "row_of_high" = some (some (.ref f3))) (l3 : K.lookup f3 = some ⟨oc3, od3, .func (PySem.W.fnOf "row_of_high" "row_of_high" (defArgs s_row_of_high) (defBody s_row_of_high) (defScope s_row_of_high) .none kV3 dc3 pm3 an3 cd3 ct3), sl3⟩) (c3 : PySem.W.codeIn K cd3 "row_of_high" = true) (k3 : PySem.W.keepIn K (.ref f3) = true)
    (a4 : PySem.W.nsIn K mainGlobals "row_of_low" = some (some (.ref f4))) (l4 : K.lookup f4 = some ⟨oc4, od4, .func (PySem.W.fnOf "row_of_low" "row_of_low" (defArgs s_row_of_low) (defBody s_row_of_low) (defScope s_row_of_low) .none kV4 dc4 pm4 an4 cd4 ct4), sl4⟩) (c4 : PySem.W.codeIn K cd4 "row_of_low" = true) (k4 : PySem.W.keepIn K (.ref f4) = true)
    (a5 : PySem.W.nsIn K mainGlobals "rows_of" = some (some (.ref f5))) (l5 : K.lookup f5 = some ⟨oc5, od5, .func (PySem.W.fnOf "rows_of" "rows_of" (defArgs s_rows_of) (defBody s_rows_of) (defScope s_rows_of) .none kV5 dc5 pm5 an5 cd5 ct5), sl5⟩) (c5 : PySem.W.codeIn K cd5 "rows_of" = true) (k5 : PySem.W.keepIn K (.ref f5) = true)
    (a6 : PySem.W.nsIn K mainGlobals "_law_draw" = some (some (.ref f6))) (l6 : K.lookup f6 = some ⟨oc6, od6, .func (PySem.W.fnOf "_law_draw" "_law_draw" (defArgs s_l_draw) (defBody s_l_draw) (defScope s_l_draw) .none kV6 dc6 pm6 an6 cd6 ct6), sl6⟩) (c6 : PySem.W.codeIn K cd6 "_law_draw" = true) (k6 : PySem.W.keepIn K (.ref f6) = true)
    (a7 : PySem.W.nsIn K mainGlobals "_law_number" = some (some (.ref f7))) (l7 : K.lookup f7 = some ⟨oc7, od7, .func (PySem.W.fnOf "_law_number" "_law_number" (defArgs s_l_number) (defBody s_l_number) (defScope s_l_number) .none kV7 dc7 pm7 an7 cd7 ct7), sl7⟩) (c7 : PySem.W.codeIn K cd7 "_law_number" = true) (k7 : PySem.W.keepIn K (.ref f7) = true)
    (a8 : PySem.W.nsIn K mainGlobals "_law_size" = some (some (.ref f8))) (l8 : K.lookup f8 = some ⟨oc8, od8, .func (PySem.W.fnOf "_law_size" "_law_size" (defArgs s_l_size) (defBody s_l_size) (defScope s_l_size) .none kV8 dc8 pm8 an8 cd8 ct8), sl8⟩) (c8 : PySem.W.codeIn K cd8 "_law_size" = true) (k8 : PySem.W.keepIn K (.ref f8) = true)
    (a9 : PySem.W.nsIn K mainGlobals "_law_ship" = some (some (.ref f9))) (l9 : K.lookup f9 = some ⟨oc9, od9, .func (PySem.W.fnOf "_law_ship" "_law_ship" (defArgs s_l_ship) (defBody s_l_ship) (defScope s_l_ship) .none kV9 dc9 pm9 an9 cd9 ct9), sl9⟩) (c9 : PySem.W.codeIn K cd9 "_law_ship" = true) (k9 : PySem.W.keepIn K (.ref f9) = true)
    (a10 : PySem.W.nsIn K mainGlobals "_law_sums" = some (some (.ref f10))) (l10 : K.lookup f10 = some ⟨oc10, od10, .func (PySem.W.fnOf "_law_sums" "_law_sums" (defArgs s_l_sums) (defBody s_l_sums) (defScope s_l_sums) .none kV10 dc10 pm10 an10 cd10 ct10), sl10⟩) (c10 : PySem.W.codeIn K cd10 "_law_sums" = true) (k10 : PySem.W.keepIn K (.ref f10) = true)
    (a11 : PySem.W.nsIn K mainGlobals "_law_rows" = some (some (.ref f11))) (l11 : K.lookup f11 = some ⟨oc11, od11, .func (PySem.W.fnOf "_law_rows" "_law_rows" (defArgs s_l_rows) (defBody s_l_rows) (defScope s_l_rows) .none kV11 dc11 pm11 an11 cd11 ct11), sl11⟩) (c11 : PySem.W.codeIn K cd11 "_law_rows" = true) (k11 : PySem.W.keepIn K (.ref f11) = true)
    (a12 : PySem.W.nsIn K mainGlobals "_law_whole" = some (some (.ref f12))) (l12 : K.lookup f12 = some ⟨oc12, od12, .func (PySem.W.fnOf "_law_whole" "_law_whole" (defArgs s_l_whole) (defBody s_l_whole) (defScope s_l_whole) .none kV12 dc12 pm12 an12 cd12 ct12), sl12⟩) (c12 : PySem.W.codeIn K cd12 "_law_whole" = true) (k12 : PySem.W.keepIn K (.ref f12) = true)
    (a13 : PySem.W.nsIn K mainGlobals "_law_alike" = some (some (.ref f13))) (l13 : K.lookup f13 = some ⟨oc13, od13, .func (PySem.W.fnOf "_law_alike" "_law_alike" (defArgs s_l_alike) (defBody s_l_alike) (defScope s_l_alike) .none kV13 dc13 pm13 an13 cd13 ct13), sl13⟩) (c13 : PySem.W.codeIn K cd13 "_law_alike" = true) (k13 : PySem.W.keepIn K (.ref f13) = true)
    (a14 : PySem.W.nsIn K mainGlobals "law" = some (some (.ref f14))) (l14 : K.lookup f14 = some ⟨oc14, od14, .func (PySem.W.fnOf "law" "law" (defArgs s_law) (defBody s_law) (defScope s_law) .none kV14 dc14 pm14 an14 cd14 ct14), sl14⟩) (c14 : PySem.W.codeIn K cd14 "law" = true) (k14 : PySem.W.keepIn K (.ref f14) = true)
    (z0 : PySem.W.nsIn K mainGlobals "abs" = some none)
    (z1 : PySem.W.nsIn K mainGlobals "bool" = some none)
    (z2 : PySem.W.nsIn K mainGlobals "enumerate" = some none)
    (z3 : PySem.W.nsIn K mainGlobals "int" = some none)
    (z4 : PySem.W.nsIn K mainGlobals "isinstance" = some none)
    (z5 : PySem.W.nsIn K mainGlobals "len" = some none)
    (z6 : PySem.W.nsIn K mainGlobals "list" = some none)
    (z7 : PySem.W.nsIn K mainGlobals "min" = some none)
    (z8 : PySem.W.nsIn K mainGlobals "range" = some none)
    (z9 : PySem.W.nsIn K mainGlobals "tuple" = some none)
    (z10 : PySem.W.nsIn K mainGlobals "zip" = some none)
    (y0 : PySem.W.nsIn K mainGlobals "ABOVE" = some (some (.int 3 t0)))
    (y1 : PySem.W.nsIn K mainGlobals "ACROSS" = some (some (.int 2 t1)))
    (y2 : PySem.W.nsIn K mainGlobals "ALONG" = some (some (.int 1 t2))) : Txt K mg where
    f_added := f1
    fd_added := _
    F_added := fun_mk (st := s_added) l1 c1 k1
    b_added := (fun_mk (st := s_added) l1 c1 k1).binds (ps := ["sums", "weight", "place"]) fun _ _ _ _ _ _ us hl => us3 (P := fun us => bindArgs _ { pos := us } = pure (List.zip _ us)) hl (fun _ _ _ => rfl)
    m_added := PySem.W.mg_of X G a1
    f_weights := f2
    fd_weights := _
    F_weights := fun_mk (st := s_weights) l2 c2 k2
    b_weights := (fun_mk (st := s_weights) l2 c2 k2).binds (ps := ["ship", "cargo"]) fun _ _ _ _ _ _ us hl => us2 (P := fun us => bindArgs _ { pos := us } = pure (List.zip _ us)) hl (fun _ _ => rfl)
    m_weights := PySem.W.mg_of X G a2
    f_row_of_high := f3
    fd_row_of_high := _
    F_row_of_high := fun_mk (st := s_row_of_high) l3 c3 k3
    b_row_of_high := (fun_mk (st := s_row_of_high) l3 c3 k3).binds (ps := ["tanks", "axis", "high", "sums"]) fun _ _ _ _ _ _ us hl => us4 (P := fun us => bindArgs _ { pos := us } = pure (List.zip _ us)) hl (fun _ _ _ _ => rfl)
    m_row_of_high := PySem.W.mg_of X G a3
    f_row_of_low := f4
    fd_row_of_low := _
    F_row_of_low := fun_mk (st := s_row_of_low) l4 c4 k4
    b_row_of_low := (fun_mk (st := s_row_of_low) l4 c4 k4).binds (ps := ["tanks", "axis", "low", "sums"]) fun _ _ _ _ _ _ us hl => us4 (P := fun us => bindArgs _ { pos := us } = pure (List.zip _ us)) hl (fun _ _ _ _ => rfl)
    m_row_of_low := PySem.W.mg_of X G a4
    f_rows_of := f5
    fd_rows_of := _
    F_rows_of := fun_mk (st := s_rows_of) l5 c5 k5
    b_rows_of := (fun_mk (st := s_rows_of) l5 c5 k5).binds (ps := ["ship", "cargo"]) fun _ _ _ _ _ _ us hl => us2 (P := fun us => bindArgs _ { pos := us } = pure (List.zip _ us)) hl (fun _ _ => rfl)
    m_rows_of := PySem.W.mg_of X G a5
    f_l_draw := f6
    fd_l_draw := _
    F_l_draw := fun_mk (st := s_l_draw) l6 c6 k6
    b_l_draw := (fun_mk (st := s_l_draw) l6 c6 k6).binds (ps := ["_law_feed", "_law_many"]) fun _ _ _ _ _ _ us hl => us2 (P := fun us => bindArgs _ { pos := us } = pure (List.zip _ us)) hl (fun _ _ => rfl)
    m_l_draw := PySem.W.mg_of X G a6
    f_l_number := f7
    fd_l_number := _
    F_l_number := fun_mk (st := s_l_number) l7 c7 k7
    b_l_number := (fun_mk (st := s_l_number) l7 c7 k7).binds (ps := ["_law_feed"]) fun _ _ _ _ _ _ us hl => us1 (P := fun us => bindArgs _ { pos := us } = pure (List.zip _ us)) hl (fun _ => rfl)
    m_l_number := PySem.W.mg_of X G a7
    f_l_size := f8
    fd_l_size := _
    F_l_size := fun_mk (st := s_l_size) l8 c8 k8
    b_l_size := (fun_mk (st := s_l_size) l8 c8 k8).binds (ps := ["_law_feed"]) fun _ _ _ _ _ _ us hl => us1 (P := fun us => bindArgs _ { pos := us } = pure (List.zip _ us)) hl (fun _ => rfl)
    m_l_size := PySem.W.mg_of X G a8
    f_l_ship := f9
    fd_l_ship := _
    F_l_ship := fun_mk (st := s_l_ship) l9 c9 k9
    b_l_ship := (fun_mk (st := s_l_ship) l9 c9 k9).binds (ps := ["_law_feed"]) fun _ _ _ _ _ _ us hl => us1 (P := fun us => bindArgs _ { pos := us } = pure (List.zip _ us)) hl (fun _ => rfl)
    m_l_ship := PySem.W.mg_of X G a9
    f_l_sums := f10
    fd_l_sums := _
    F_l_sums := fun_mk (st := s_l_sums) l10 c10 k10
    b_l_sums := (fun_mk (st := s_l_sums) l10 c10 k10).binds (ps := ["_law_ship_here", "_law_cargo"]) fun _ _ _ _ _ _ us hl => us2 (P := fun us => bindArgs _ { pos := us } = pure (List.zip _ us)) hl (fun _ _ => rfl)
    m_l_sums := PySem.W.mg_of X G a10
    f_l_rows := f11
    fd_l_rows := _
    F_l_rows := fun_mk (st := s_l_rows) l11 c11 k11
    b_l_rows := (fun_mk (st := s_l_rows) l11 c11 k11).binds (ps := ["_law_ship_here", "_law_sums_here"]) fun _ _ _ _ _ _ us hl => us2 (P := fun us => bindArgs _ { pos := us } = pure (List.zip _ us)) hl (fun _ _ => rfl)
    m_l_rows := PySem.W.mg_of X G a11
    f_l_whole := f12
    fd_l_whole := _
    F_l_whole := fun_mk (st := s_l_whole) l12 c12 k12
    b_l_whole := (fun_mk (st := s_l_whole) l12 c12 k12).binds (ps := ["_law_found"]) fun _ _ _ _ _ _ us hl => us1 (P := fun us => bindArgs _ { pos := us } = pure (List.zip _ us)) hl (fun _ => rfl)
    m_l_whole := PySem.W.mg_of X G a12
    f_l_alike := f13
    fd_l_alike := _
    F_l_alike := fun_mk (st := s_l_alike) l13 c13 k13
    b_l_alike := (fun_mk (st := s_l_alike) l13 c13 k13).binds (ps := ["_law_found", "_law_due"]) fun _ _ _ _ _ _ us hl => us2 (P := fun us => bindArgs _ { pos := us } = pure (List.zip _ us)) hl (fun _ _ => rfl)
    m_l_alike := PySem.W.mg_of X G a13
    f_law := f14
    fd_law := _
    F_law := fun_mk (st := s_law) l14 c14 k14
    b_law := (fun_mk (st := s_law) l14 c14 k14).binds (ps := ["_law_script"]) fun _ _ _ _ _ _ us hl => us1 (P := fun us => bindArgs _ { pos := us } = pure (List.zip _ us)) hl (fun _ => rfl)
    m_law := PySem.W.mg_of X G a14
    z_abs := PySem.W.mg_none_of X G z0
    z_bool := PySem.W.mg_none_of X G z1
    z_enumerate := PySem.W.mg_none_of X G z2
    z_int := PySem.W.mg_none_of X G z3
    z_isinstance := PySem.W.mg_none_of X G z4
    z_len := PySem.W.mg_none_of X G z5
    z_list := PySem.W.mg_none_of X G z6
    z_min := PySem.W.mg_none_of X G z7
    z_range := PySem.W.mg_none_of X G z8
    z_tuple := PySem.W.mg_none_of X G z9
    z_zip := PySem.W.mg_none_of X G z10
    g_ABOVE := ⟨_, PySem.W.mg_of X G y0⟩
    g_ACROSS := ⟨_, PySem.W.mg_of X G y1⟩
    g_ALONG := ⟨_, PySem.W.mg_of X G y2⟩
theorem all_mk {l : PySem.W.OpenLaw} {w : World} {fa : Addr} {K : PySem.W.Frag} {h : Heap} {mg : Str → Option Value} {f1 f2 f3 f4 f5 f6 f7 f8 f9 f10 f11 f12 f13 f14 : Addr} (X : K.In h) (G : h.Ns mainGlobals mg)
    {od1 an1 od2 an2 od3 an3 od4 an4 od5 an5 od6 an6 od7 an7 od8 an8 od9 an9 od10 an10 od11 an11 od12 an12 od13 an13 od14 an14 : Option Addr} {sl1 sl2 sl3 sl4 sl5 sl6 sl7 sl8 sl9 sl10 sl11 sl12 sl13 sl14 : Array (Option Value)} {oc1 kV1 dc1 pm1 cd1 ct1 oc2 kV2 dc2 pm2 cd2 ct2 oc3 kV3 dc3 pm3 cd3 ct3 oc4 kV4 dc4 pm4 cd4 ct4 oc5 kV5 dc5 pm5 cd5 ct5 oc6 kV6 dc6 pm6 cd6 ct6 oc7 kV7 dc7 pm7 cd7 ct7 oc8 kV8 dc8 pm8 cd8 ct8 oc9 kV9 dc9 pm9 cd9 ct9 oc10 kV10 dc10 pm10 cd10 ct10 oc11 kV11 dc11 pm11 cd11 ct11 oc12 kV12 dc12 pm12 cd12 ct12 oc13 kV13 dc13 pm13 cd13 ct13 oc14 kV14 dc14 pm14 cd14 ct14 : Value} {t0 t1 t2 : Tok}
    (a1 : PySem.W.nsIn K mainGlobals "added" = some (some (.ref f1))) (l1 : K.lookup f1 = some ⟨oc1, od1, .func (PySem.W.fnOf "added" "added" (defArgs s_added) (defBody s_added) (defScope s_added) .none kV1 dc1 pm1 an1 cd1 ct1), sl1⟩) (c1 : PySem.W.codeIn K cd1 "added" = true) (k1 : PySem.W.keepIn K (.ref f1) = true)
    (a2 : PySem.W.nsIn K mainGlobals "weights" = some (some (.ref f2))) (l2 : K.lookup f2 = some ⟨oc2, od2, .func (PySem.W.fnOf "weights" "weights" (defArgs s_weights) (defBody s_weights) (defScope s_weights) .none kV2 dc2 pm2 an2 cd2 ct2), sl2⟩) (c2 : PySem.W.codeIn K cd2 "weights" = true) (k2 : PySem.W.keepIn K (.ref f2) = true)
    (a3 : PySem.W.nsIn K mainGlobals "row_of_high" = some (some (.ref f3))) (l3 : K.lookup f3 = some ⟨oc3, od3, .func (PySem.W.fnOf "row_of_high" "row_of_high" (defArgs s_row_of_high) (defBody s_row_of_high) (defScope s_row_of_high) .none kV3 dc3 pm3 an3 cd3 ct3), sl3⟩) (c3 : PySem.W.codeIn K cd3 "row_of_high" = true) (k3 : PySem.W.keepIn K (.ref f3) = true)
    (a4 : PySem.W.nsIn K mainGlobals "row_of_low" = some (some (.ref f4))) (l4 : K.lookup f4 = some ⟨oc4, od4, .func (PySem.W.fnOf "row_of_low" "row_of_low" (defArgs s_row_of_low) (defBody s_row_of_low) (defScope s_row_of_low) .none kV4 dc4 pm4 an4 cd4 ct4), sl4⟩) (c4 : PySem.W.codeIn K cd4 "row_of_low" = true) (k4 : PySem.W.keepIn K (.ref f4) = true)
    (a5 : PySem.W.nsIn K mainGlobals "rows_of" = some (some (.ref f5))) (l5 : K.lookup f5 = some ⟨oc5, od5, .func (PySem.W.fnOf "rows_of" "rows_of" (defArgs s_rows_of) (defBody s_rows_of) (defScope s_rows_of) .none kV5 dc5 pm5 an5 cd5 ct5), sl5⟩) (c5 : PySem.W.codeIn K cd5 "rows_of" = true) (k5 : PySem.W.keepIn K (.ref f5) = true)
    (a6 : PySem.W.nsIn K mainGlobals "_law_draw" = some (some (.ref f6))) (l6 : K.lookup f6 = some ⟨oc6, od6, .func (PySem.W.fnOf "_law_draw" "_law_draw" (defArgs s_l_draw) (defBody s_l_draw) (defScope s_l_draw) .none kV6 dc6 pm6 an6 cd6 ct6), sl6⟩) (c6 : PySem.W.codeIn K cd6 "_law_draw" = true) (k6 : PySem.W.keepIn K (.ref f6) = true)
    (a7 : PySem.W.nsIn K mainGlobals "_law_number" = some (some (.ref f7))) (l7 : K.lookup f7 = some ⟨oc7, od7, .func (PySem.W.fnOf "_law_number" "_law_number" (defArgs s_l_number) (defBody s_l_number) (defScope s_l_number) .none kV7 dc7 pm7 an7 cd7 ct7), sl7⟩) (c7 : PySem.W.codeIn K cd7 "_law_number" = true) (k7 : PySem.W.keepIn K (.ref f7) = true)
    (a8 : PySem.W.nsIn K mainGlobals "_law_size" = some (some (.ref f8))) (l8 : K.lookup f8 = some ⟨oc8, od8, .func (PySem.W.fnOf "_law_size" "_law_size" (defArgs s_l_size) (defBody s_l_size) (defScope s_l_size) .none kV8 dc8 pm8 an8 cd8 ct8), sl8⟩) (c8 : PySem.W.codeIn K cd8 "_law_size" = true) (k8 : PySem.W.keepIn K (.ref f8) = true)
    (a9 : PySem.W.nsIn K mainGlobals "_law_ship" = some (some (.ref f9))) (l9 : K.lookup f9 = some ⟨oc9, od9, .func (PySem.W.fnOf "_law_ship" "_law_ship" (defArgs s_l_ship) (defBody s_l_ship) (defScope s_l_ship) .none kV9 dc9 pm9 an9 cd9 ct9), sl9⟩) (c9 : PySem.W.codeIn K cd9 "_law_ship" = true) (k9 : PySem.W.keepIn K (.ref f9) = true)
    (a10 : PySem.W.nsIn K mainGlobals "_law_sums" = some (some (.ref f10))) (l10 : K.lookup f10 = some ⟨oc10, od10, .func (PySem.W.fnOf "_law_sums" "_law_sums" (defArgs s_l_sums) (defBody s_l_sums) (defScope s_l_sums) .none kV10 dc10 pm10 an10 cd10 ct10), sl10⟩) (c10 : PySem.W.codeIn K cd10 "_law_sums" = true) (k10 : PySem.W.keepIn K (.ref f10) = true)
    (a11 : PySem.W.nsIn K mainGlobals "_law_rows" = some (some (.ref f11))) (l11 : K.lookup f11 = some ⟨oc11, od11, .func (PySem.W.fnOf "_law_rows" "_law_rows" (defArgs s_l_rows) (defBody s_l_rows) (defScope s_l_rows) .none kV11 dc11 pm11 an11 cd11 ct11), sl11⟩) (c11 : PySem.W.codeIn K cd11 "_law_rows" = true) (k11 : PySem.W.keepIn K (.ref f11) = true)
    (a12 : PySem.W.nsIn K mainGlobals "_law_whole" = some (some (.ref f12))) (l12 : K.lookup f12 = some ⟨oc12, od12, .func (PySem.W.fnOf "_law_whole" "_law_whole" (defArgs s_l_whole) (defBody s_l_whole) (defScope s_l_whole) .none kV12 dc12 pm12 an12 cd12 ct12), sl12⟩) (c12 : PySem.W.codeIn K cd12 "_law_whole" = true) (k12 : PySem.W.keepIn K (.ref f12) = true)
    (a13 : PySem.W.nsIn K mainGlobals "_law_alike" = some (some (.ref f13))) (l13 : K.lookup f13 = some ⟨oc13, od13, .func (PySem.W.fnOf "_law_alike" "_law_alike" (defArgs s_l_alike) (defBody s_l_alike) (defScope s_l_alike) .none kV13 dc13 pm13 an13 cd13 ct13), sl13⟩) (c13 : PySem.W.codeIn K cd13 "_law_alike" = true) (k13 : PySem.W.keepIn K (.ref f13) = true)
    (a14 : PySem.W.nsIn K mainGlobals "law" = some (some (.ref f14))) (l14 : K.lookup f14 = some ⟨oc14, od14, .func (PySem.W.fnOf "law" "law" (defArgs s_law) (defBody s_law) (defScope s_law) .none kV14 dc14 pm14 an14 cd14 ct14), sl14⟩) (c14 : PySem.W.codeIn K cd14 "law" = true) (k14 : PySem.W.keepIn K (.ref f14) = true)
    (z0 : PySem.W.nsIn K mainGlobals "abs" = some none)
    (z1 : PySem.W.nsIn K mainGlobals "bool" = some none)
    (z2 : PySem.W.nsIn K mainGlobals "enumerate" = some none)
    (z3 : PySem.W.nsIn K mainGlobals "int" = some none)
    (z4 : PySem.W.nsIn K mainGlobals "isinstance" = some none)
    (z5 : PySem.W.nsIn K mainGlobals "len" = some none)
    (z6 : PySem.W.nsIn K mainGlobals "list" = some none)
    (z7 : PySem.W.nsIn K mainGlobals "min" = some none)
    (z8 : PySem.W.nsIn K mainGlobals "range" = some none)
    (z9 : PySem.W.nsIn K mainGlobals "tuple" = some none)
    (z10 : PySem.W.nsIn K mainGlobals "zip" = some none)
    (y0 : PySem.W.nsIn K mainGlobals "ABOVE" = some (some (.int 3 t0)))
    (y1 : PySem.W.nsIn K mainGlobals "ACROSS" = some (some (.int 2 t1)))
    (y2 : PySem.W.nsIn K mainGlobals "ALONG" = some (some (.int 1 t2)))
    (hfa : mg "law" = some (.ref fa)) :
    ∃ fd : FuncData, (∀ (s : Shared) (v : Value), BindsTo s fd ⟨[v], []⟩ [("_law_script", v)]) ∧ ∀ base : Heap, K.In base → base.Ns mainGlobals mg → FnOk l.prog w K mg base (CXE l.prog w K) 5 fa fd ["_law_script"] (SpN K ["_law_script"] [] [0, 0, 0, 0, 0, 0, 0, 0, 0, 0, 0] 0 d_law) := by
  have e := hfa.symm.trans (PySem.W.mg_of X G a14)
  cases e
  exact ⟨PySem.W.fnOf "law" "law" (defArgs s_law) (defBody s_law) (defScope s_law) .none kV14 dc14 pm14 an14 cd14 ct14, fun s v => .of_eq rfl, fun base _ _ => ok_law (txt_mk X G a1 l1 c1 k1 a2 l2 c2 k2 a3 l3 c3 k3 a4 l4 c4 k4 a5 l5 c5 k5 a6 l6 c6 k6 a7 l7 c7 k7 a8 l8 c8 k8 a9 l9 c9 k9 a10 l10 c10 k10 a11 l11 c11 k11 a12 l12 c12 k12 a13 l13 c13 k13 a14 l14 c14 k14 z0 z1 z2 z3 z4 z5 z6 z7 z8 z9 z10 y0 y1 y2)⟩
theorem walk {l : PySem.W.OpenLaw} {q : Program} {loose : List Str} {XP : (Str → Option Value) → Heap → Prop} {YP : World → Heap → Prop} {d : DefRec} {K : Params → PySem.W.Frag} (hn : l.most = some 63) (hdf : d.params.defaults = [])
    (hY : ∀ (w : World) (h : Heap), YP w h → (K w.params).In h)
    (F : ∀ (w : World) (mg : Str → Option Value) (fa : Addr) (h : Heap), (K w.params).In h → h.Ns mainGlobals mg → mg d.name = some (.ref fa) →
      ∃ fd : FuncData, (∀ (s : Shared) (u : Value), BindsTo s fd ⟨[u], []⟩ [("_law_script", u)]) ∧ ∀ base : Heap, (K w.params).In base → base.Ns mainGlobals mg → FnOk l.prog w (K w.params) mg base (CXE l.prog w (K w.params)) 5 fa fd ["_law_script"] (SpN (K w.params) ["_law_script"] [] [0, 0, 0, 0, 0, 0, 0, 0, 0, 0, 0] 0 d_law)) :
    PySem.W.WalkO q loose XP YP l.row.toRowW d [] (fun f vs => PySem.call f vs) :=
  L2.walk_of (n := 63) (k := 5) (x := "_law_script") (CX := fun w => CXE l.prog w (K w.params)) (sp := fun w => SpN (K w.params) ["_law_script"] [] [0, 0, 0, 0, 0, 0, 0, 0, 0, 0, 0] 0 d_law) hn (by decide) hdf ⟨rfl, by decide, by decide⟩ hY F (fun _ _ a ns hl _ hS => law_start hS (law_true ns hl)) fun _ _ _ _ _ z => cxe_false z
end Toy
open PySem PySem.W PyProof.Rows
set_option maxRecDepth 100000 in
set_option maxHeartbeats 0 in
theorem PySem.Challenge.cw_keel_k10_weights_and_rows_holds : PySem.Challenge.rw_keel_k10_weights_and_rows.Holds := by
  w_on; o_law; k_head; (case hw => w_witness2)
  k_fill
  refine Toy.walk (l := PySem.Challenge.rw_keel_k10_weights_and_rows) rfl rfl (fun w h Y => PySem.W.kIn_of Y) ?F
  case F =>
    intro w mg fa h KX G hmg
    refine' Toy.all_mk KX G ?a1 ?l1 ?c1 ?k1 ?a2 ?l2 ?c2 ?k2 ?a3 ?l3 ?c3 ?k3 ?a4 ?l4 ?c4 ?k4 ?a5 ?l5 ?c5 ?k5 ?a6 ?l6 ?c6 ?k6 ?a7 ?l7 ?c7 ?k7 ?a8 ?l8 ?c8 ?k8 ?a9 ?l9 ?c9 ?k9 ?a10 ?l10 ?c10 ?k10 ?a11 ?l11 ?c11 ?k11 ?a12 ?l12 ?c12 ?k12 ?a13 ?l13 ?c13 ?k13 ?a14 ?l14 ?c14 ?k14 ?z0 ?z1 ?z2 ?z3 ?z4 ?z5 ?z6 ?z7 ?z8 ?z9 ?z10 ?y0 ?y1 ?y2 hmg
    (case a1 => k_is); (case l1 => k_is); (case c1 => k_is); (case k1 => k_is)
    (case a2 => k_is); (case l2 => k_is); (case c2 => k_is); (case k2 => k_is)
    (case a3 => k_is); (case l3 => k_is); (case c3 => k_is); (case k3 => k_is)
    (case a4 => k_is); (case l4 => k_is); (case c4 => k_is); (case k4 => k_is)
    (case a5 => k_is); (case l5 => k_is); (case c5 => k_is); (case k5 => k_is)
    (case a6 => k_is); (case l6 => k_is); (case c6 => k_is); (case k6 => k_is)
    (case a7 => k_is); (case l7 => k_is); (case c7 => k_is); (case k7 => k_is)
    (case a8 => k_is); (case l8 => k_is); (case c8 => k_is); (case k8 => k_is)
    (case a9 => k_is); (case l9 => k_is); (case c9 => k_is); (case k9 => k_is)
    (case a10 => k_is); (case l10 => k_is); (case c10 => k_is); (case k10 => k_is)
    (case a11 => k_is); (case l11 => k_is); (case c11 => k_is); (case k11 => k_is)
    (case a12 => k_is); (case l12 => k_is); (case c12 => k_is); (case k12 => k_is)
    (case a13 => k_is); (case l13 => k_is); (case c13 => k_is); (case k13 => k_is)
    (case a14 => k_is); (case l14 => k_is); (case c14 => k_is); (case k14 => k_is)
    (case z0 => k_is)
    (case z1 => k_is)
    (case z2 => k_is)
    (case z3 => k_is)
    (case z4 => k_is)
    (case z5 => k_is)
    (case z6 => k_is)
    (case z7 => k_is)
    (case z8 => k_is)
    (case z9 => k_is)
    (case z10 => k_is)
    (case y0 => k_is)
    (case y1 => k_is)
    (case y2 => k_is)
