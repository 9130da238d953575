import PyProof.Rows.All
import Wide.All
import OpenK.AllK
import Wide.FinOn
import Lean
import PyProof.EqAt
import PyProof.EqKinds
import PyProof.TupleCall
import PyProof.NeKinds
import KE.KTryMore
import KE.RegKTryMore
import KE.RegKIsAll
import PyProof.ExcBaseAll.ValueError
import PyProof.ExcBaseAll.Exception
import PyProof.ExcAttrAll.ValueError
import PySem.Challenge.RW_tilefall_k06_nets_and_their_posts
set_option Elab.async false
set_option linter.all false
set_option maxRecDepth 100000
namespace L2
open PySem PySem.Spec PyProof.Rows
noncomputable abbrev Key := Sum Int Str
noncomputable def keyIs : Key → Value → Bool
  | .inl k, v => Value.isInt k v
  | .inr x, v => Value.isStrOf x v
noncomputable def keyH (w : World) : Key → Int
  | .inl k => hashInt k
  | .inr x => hashStr w x
theorem keyIs_shape : ∀ {k : Key} {v : Value}, keyIs k v = true → (∃ i t, k = Sum.inl i ∧ v = Value.int i t) ∨ (∃ x t, k = Sum.inr x ∧ v = Value.str x t)
  | .inl i, v, h => by
    obtain ⟨t, e⟩ := Value.isInt_shape (k := i) (v := v) h
    exact .inl ⟨i, t, rfl, e⟩
  | .inr x, v, h => by
    obtain ⟨t, e⟩ := Value.isStrOf_shape (x := x) (v := v) h
    exact .inr ⟨x, t, rfl, e⟩
theorem key_ll (a b : Int) : decide ((Sum.inl a : Key) = Sum.inl b) = (a == b) := by
  by_cases e : a = b
  · subst e; simp
  · have h : ¬ (Sum.inl a : Key) = Sum.inl b := fun q => e (Sum.inl.inj q)
    rw [decide_eq_false h]
    exact (beq_eq_false_iff_ne.mpr e).symm
theorem key_rr (a b : Str) : decide ((Sum.inr a : Key) = Sum.inr b) = decide (a = b) := by
  by_cases e : a = b
  · subst e; simp
  · have h : ¬ (Sum.inr a : Key) = Sum.inr b := fun q => e (Sum.inr.inj q)
    rw [decide_eq_false h, decide_eq_false e]
theorem key_lr (a : Int) (b : Str) : decide ((Sum.inl a : Key) = Sum.inr b) = false := decide_eq_false (fun q => nomatch q)
theorem key_rl (a : Str) (b : Int) : decide ((Sum.inr a : Key) = Sum.inl b) = false := decide_eq_false (fun q => nomatch q)
noncomputable def mixKind (prog : Program) (w : World) : PySem.KeyKind prog w Key where
  is := keyIs
  hash := keyH w
  inj := fun v a b ha hb => by
    rcases keyIs_shape ha with ⟨i, t, rfl, rfl⟩ | ⟨x, t, rfl, rfl⟩
    · rcases keyIs_shape hb with ⟨j, u, rfl, e⟩ | ⟨y, u, rfl, e⟩
      · injection e with e1 _; rw [e1]
      · exact nomatch e
    · rcases keyIs_shape hb with ⟨j, u, rfl, e⟩ | ⟨y, u, rfl, e⟩
      · exact nomatch e
      · injection e with e1 _; rw [e1]
  byValue := fun k v h => by
    rcases keyIs_shape h with ⟨i, t, rfl, rfl⟩ | ⟨x, t, rfl, rfl⟩ <;> rfl
  pyHash := fun hv h => by
    rcases keyIs_shape hv with ⟨i, t, rfl, rfl⟩ | ⟨x, t, rfl, rfl⟩
    · exact wpAny_pyHash_int h
    · exact wpAny_pyHash_str h
  eqBool := fun hu hv h => by
    rcases keyIs_shape hu with ⟨i, t, rfl, rfl⟩ | ⟨x, t, rfl, rfl⟩
    · rcases keyIs_shape hv with ⟨j, u, rfl, rfl⟩ | ⟨y, u, rfl, rfl⟩
      · rw [key_ll] at h; exact wpAny_eqBool_int h
      · rw [key_lr] at h; exact SeqAt.EqAt.int_str i t y u _ _ _ _ h
    · rcases keyIs_shape hv with ⟨j, u, rfl, rfl⟩ | ⟨y, u, rfl, rfl⟩
      · rw [key_rl] at h; exact SeqAt.EqAt.str_int x t j u _ _ _ _ h
      · rw [key_rr] at h; exact wpAny_eqBool_str h
  «strs» := fun k x t v h => by
    rcases keyIs_shape h with ⟨i, u, rfl, e⟩ | ⟨y, u, rfl, e⟩
    · exact nomatch e
    · injection e with e1 _
      subst e1
      cases v <;> rfl
end L2
namespace L2
open PySem PySem.Spec PyProof.Rows
inductive V where
  | non | bl (b : Bool) | int (i : Int) | str (x : Str) | byt (b : Array UInt8) | flt (b : UInt64) | ref (a : Addr) | ty (n : String)
  deriving DecidableEq
noncomputable def RelV : V → Value → Prop
  | .non, u => u = Value.none
  | .bl b, u => u = Value.bool b
  | .int i, u => ∃ t, u = Value.int i t
  | .str x, u => ∃ t, u = Value.str x t
  | .byt b, u => ∃ t, u = Value.bytes b t
  | .flt b, u => ∃ t, u = Value.float b t
  | .ref a, u => u = Value.ref a
  | .ty n, u => u = Value.type n
noncomputable abbrev Vals : List V → List Value → Prop := Paired RelV
theorem Vals.length {xs : List V} {us : List Value} (r : Vals xs us) : xs.length = us.length := Paired.length r
theorem Vals.get : ∀ {xs : List V} {us : List Value} {i : Nat} {x : V}, Vals xs us → xs[i]? = some x → ∃ u, us[i]? = some u ∧ RelV x u
  | _, _, _, _, .nil, e => by simp at e
  | _, _, 0, _, .cons r _, e => by simp at e; subst e; exact ⟨_, rfl, r⟩
  | _, _, i + 1, x, .cons _ t, e => by
    obtain ⟨u, h1, h2⟩ := Vals.get (i := i) (x := x) t (by simpa using e)
    exact ⟨u, by simpa using h1, h2⟩
theorem Vals.set {x : V} {u : Value} (r : RelV x u) : ∀ {xs : List V} {us : List Value} (i : Nat), Vals xs us → Vals (xs.set i x) (us.set i u)
  | _, _, _, .nil => .nil
  | _, _, 0, .cons _ t => .cons r t
  | _, _, i + 1, .cons q t => .cons q (Vals.set r i t)
theorem Vals.append : ∀ {xs ys : List V} {us ws : List Value}, Vals xs us → Vals ys ws → Vals (xs ++ ys) (us ++ ws)
  | _, _, _, _, .nil, s => s
  | _, _, _, _, .cons r t, s => .cons r (Vals.append t s)
theorem Vals.take : ∀ {xs : List V} {us : List Value} (n : Nat), Vals xs us → Vals (xs.take n) (us.take n)
  | _, _, 0, _ => .nil
  | _, _, _ + 1, .nil => .nil
  | _, _, n + 1, .cons r t => .cons r (Vals.take n t)
theorem Vals.drop : ∀ {xs : List V} {us : List Value} (n : Nat), Vals xs us → Vals (xs.drop n) (us.drop n)
  | _, _, 0, r => r
  | _, _, _ + 1, .nil => .nil
  | _, _, n + 1, .cons _ t => Vals.drop n t
noncomputable def RelO : Option V → Option Value → Prop
  | some v, some u => RelV v u
  | none, none => True
  | _, _ => False
noncomputable def KV {κ : Type} : List (κ × V) → List (κ × Value) → Prop := Paired fun (p : κ × V) (q : κ × Value) => p.1 = q.1 ∧ RelV p.2 q.2
noncomputable def kV : Key → V
  | .inl i => .int i
  | .inr x => .str x
inductive HO where
    | lst (xs : List V)
    | tup (xs : List V)
    | dK (kvs : List (Key × V)) | dT (kvs : List (List Key × V))
    | set (S : Int → Bool) (n : Nat)
    | ins (C dx : Addr) (fs : List (Str × V))
    | own (x : Addr)
    | xd (fs : List (Str × V))
    | met (f x : Addr)
    | rng (lo hi : Int)
    | frz (o : Obj) (u : HO)
    | tbl (ps : Array Value)
    | ext (φ : Heap → Prop)
noncomputable abbrev Hp := Addr → Option HO
noncomputable def upd (H : Hp) (a : Addr) (o : HO) : Hp := fun b => if b = a then some o else H b
theorem upd_same {H : Hp} {a : Addr} {o : HO} : upd H a o a = some o := by unfold upd; rw [if_pos rfl]
theorem upd_ne {H : Hp} {a b : Addr} {o : HO} (h : b ≠ a) : upd H a o b = H b := by unfold upd; rw [if_neg h]
theorem upd_upd {H : Hp} {a : Addr} {o u : HO} : upd (upd H a o) a u = upd H a u := by
  funext b; unfold upd; split <;> rfl
theorem ne_of {H : Hp} {a b : Addr} {o u : HO} (h : H a = some o) (h' : H b = some u) (d : o ≠ u) : a ≠ b := by
  intro e; subst e; rw [h] at h'; exact d (Option.some.inj h')
theorem ne_of_none {H : Hp} {a b : Addr} {o : HO} (h : H a = some o) (h' : H b = none) : a ≠ b := by
  intro e; subst e; rw [h] at h'; cases h'
section
variable (P : Program) (w : World)
noncomputable def ObjOk (H : Hp) (h : Heap) (a : Addr) : HO → Prop
  | .lst xs => xs.length ≤ sizeLine ∧ ∃ (its : List Value) (n : Nat), Vals xs its ∧ h.get? a = some { cls := .type "list", data := .seq its.toArray n }
  | .tup xs => xs.length ≤ sizeLine ∧ ∃ its : List Value, Vals xs its ∧ IsTup h a its.toArray
  | .dK kvs => kvs.length ≤ sizeLine ∧ (a == sysModules) = false ∧ ∃ vs, KV kvs vs ∧ h.DictOf (mixKind P w) a vs
  | .dT kvs => kvs.length ≤ sizeLine ∧ (a == sysModules) = false ∧ ∃ xs : List (List Key × Addr × Value),
      Paired (fun (p : List Key × V) (q : List Key × Addr × Value) => p.1 = q.1 ∧ H q.2.1 = some (.tup (p.1.map kV)) ∧ RelV p.2 q.2.2) kvs xs ∧
      ∃ o es ep, h.get? a = some o ∧ o.ExactDict ∧ o.data = .dict es ep ∧ es.toList = xs.map (entryOfKey (tupleKind (mixKind P w))) ∧ (xs.map (·.1)).Nodup
  | .set S n => h.SetOf (intKind P w) a S n
  | .ins C dx fs => H dx = some (.own a) ∧ fs.length ≤ 1000 ∧ dx ≠ a ∧ h.get? a = some (PySem.W.instObj C dx) ∧
      ∃ mA, h.Ns1 dx mA ∧ (∀ f, RelO (fs.lookup f) (mA f)) ∧ PySem.Within mA (fs.map (·.1))
  | .own _ => ∃ o, h.get? a = some o
  | .xd fs => ∃ mA, h.Ns1 a mA ∧ ∀ f, RelO (fs.lookup f) (mA f)
  | .rng lo hi => ∃ t u v, h.get? a = some { cls := .type "range", data := .fields #[.int lo t, .int hi u, .int 1 v] }
  | .frz o u => h.get? a = some o ∧ ObjOk H h a u
  | .tbl ps => h.get? a = some { cls := .none, data := .fields ps }
  | .met f x => h.get? a = some (PySem.W.methodObj (.ref f) (.ref x))
  | .ext φ => φ h ∧ (∃ o, h.get? a = some o) ∧ ∀ h1 h2 : Heap, φ h1 → (∀ o, h1.get? a = some o → h2.get? a = some o) → φ h2
noncomputable def HOk (H : Hp) (h : Heap) : Prop := ∀ a o, H a = some o → ObjOk P w H h a o
end
section
variable {P : Program} {w : World} {H H' : Hp} {h h' : Heap} {a : Addr} {o : HO}
theorem ObjOk.lt (x : ObjOk P w H h a o) : a < h.objs.size := by
  cases o with
  | lst xs => obtain ⟨_, _, _, _, e⟩ := x; exact Heap.lt_size e
  | tup xs => obtain ⟨_, _, _, p⟩ := x; exact p.lt
  | dK kvs => obtain ⟨_, _, _, _, o, _, _, e, _⟩ := x; exact Heap.lt_size e
  | dT kvs => obtain ⟨_, _, _, _, o, _, _, e, _⟩ := x; exact Heap.lt_size e
  | set S n => obtain ⟨o, _, _, _, e, _⟩ := x; exact Heap.lt_size e
  | ins C dx fs => obtain ⟨_, _, _, e, _⟩ := x; exact Heap.lt_size e
  | own y => obtain ⟨_, e⟩ := x; exact Heap.lt_size e
  | xd fs => obtain ⟨_, ⟨_, _, _, e, _⟩, _⟩ := x; exact Heap.lt_size e
  | rng lo hi => obtain ⟨_, _, _, e⟩ := x; exact Heap.lt_size e
  | frz ob u => obtain ⟨e, _⟩ := x; exact Heap.lt_size e
  | tbl ps => exact Heap.lt_size (show h.get? a = some _ from x)
  | met f y => exact Heap.lt_size (show h.get? a = some _ from x)
  | ext φ => obtain ⟨_, ⟨_, e⟩, _⟩ := x; exact Heap.lt_size e
theorem Paired.mapP {α β : Type} {F G : α → β → Prop} : ∀ {l₁ : List α} {l₂ : List β}, Paired F l₁ l₂ → (∀ a b, F a b → G a b) → Paired G l₁ l₂
  | _, _, .nil, _ => .nil
  | _, _, .cons r t, f => .cons (f _ _ r) (Paired.mapP t f)
theorem ObjOk.stay (x : ObjOk P w H h a o) (k : ∀ b u, (b = a ∨ H b = some (.own a)) → h.get? b = some u → h'.get? b = some u)
    (ho : ∀ b, H b = some (.own a) → H' b = some (.own a)) (ht : ∀ b xs, H b = some (.tup xs) → H' b = some (.tup xs)) : ObjOk P w H' h' a o := by
  induction o with
  | lst xs => obtain ⟨z, its, n, r, e⟩ := x; exact ⟨z, its, n, r, k _ _ (.inl rfl) e⟩
  | tup xs => obtain ⟨z, its, r, ob, e, c⟩ := x; exact ⟨z, its, r, ob, k _ _ (.inl rfl) e, c⟩
  | dK kvs => obtain ⟨z, y, vs, r, ob, es, ep, e, c⟩ := x; exact ⟨z, y, vs, r, ob, es, ep, k _ _ (.inl rfl) e, c⟩
  | dT kvs =>
    obtain ⟨z, y, xs, r, ob, es, ep, e, c⟩ := x
    exact ⟨z, y, xs, Paired.mapP r fun p q z => ⟨z.1, ht _ _ z.2.1, z.2.2⟩, ob, es, ep, k _ _ (.inl rfl) e, c⟩
  | set S n => obtain ⟨ob, es, ep, t, e, c⟩ := x; exact ⟨ob, es, ep, t, k _ _ (.inl rfl) e, c⟩
  | ins C dx fs =>
    obtain ⟨d, z, ne, e, mA, ⟨od, es, ep, e2, c⟩, r⟩ := x
    exact ⟨ho _ d, z, ne, k _ _ (.inl rfl) e, mA, ⟨od, es, ep, k _ _ (.inr d) e2, c⟩, r⟩
  | own y => obtain ⟨ob, e⟩ := x; exact ⟨ob, k _ _ (.inl rfl) e⟩
  | xd fs => obtain ⟨mA, ⟨od, es, ep, e, c⟩, r⟩ := x; exact ⟨mA, ⟨od, es, ep, k _ _ (.inl rfl) e, c⟩, r⟩
  | rng lo hi => obtain ⟨t, u, v, e⟩ := x; exact ⟨t, u, v, k _ _ (.inl rfl) e⟩
  | frz ob u ih => obtain ⟨e, q⟩ := x; exact ⟨k _ _ (.inl rfl) e, ih q⟩
  | tbl ps =>
    have e : h.get? a = some { cls := .none, data := .fields ps } := x
    show h'.get? a = some { cls := .none, data := .fields ps }
    exact k a _ (.inl rfl) e
  | met f y =>
    have e : h.get? a = some (PySem.W.methodObj (.ref f) (.ref y)) := x
    show h'.get? a = some (PySem.W.methodObj (.ref f) (.ref y))
    exact k a _ (.inl rfl) e
  | ext φ => obtain ⟨p, ⟨o, e⟩, st⟩ := x; exact ⟨st _ _ p fun o q => k _ _ (.inl rfl) q, ⟨o, k _ _ (.inl rfl) e⟩, st⟩
theorem HOk.lt (x : HOk P w H h) (e : H a = some o) : a < h.objs.size := (x a o e).lt
theorem HOk.fresh (x : HOk P w H h) (e : h.objs.size ≤ a) : H a = none := by
  cases q : H a with
  | none => rfl
  | some u => exact absurd (Nat.lt_of_lt_of_le (x.lt q) e) (Nat.lt_irrefl _)
theorem HOk.kept (x : HOk P w H h) (k : ∀ b u, h.get? b = some u → h'.get? b = some u) : HOk P w H h' := fun a o e =>
  (x a o e).stay (fun b u _ q => k b u q) (fun _ q => q) fun _ _ q => q
theorem HOk.laid (x : HOk P w H h) (k : ∀ b u, h.get? b = some u → h'.get? b = some u) (hp : h.objs.size ≤ a) (new : ObjOk P w (upd H a o) h' a o) : HOk P w (upd H a o) h' := fun b u e => by
  have hn := x.fresh hp
  by_cases hb : b = a
  · subst hb; rw [upd_same] at e; cases e; exact new
  · rw [upd_ne hb] at e
    exact (x b u e).stay (fun c v _ q => k c v q) (fun c q => by rw [upd_ne (ne_of_none q hn)]; exact q) fun c xs q => by rw [upd_ne (ne_of_none q hn)]; exact q
end
noncomputable def Rd (H : Hp) (a : Addr) (u : HO) : Prop := H a = some u ∨ ∃ o, H a = some (.frz o u)
theorem Rd.ok {P : Program} {w : World} {H : Hp} {h : Heap} {a : Addr} {u : HO} (r : Rd H a u) (x : HOk P w H h) : ObjOk P w H h a u := by
  rcases r with r | ⟨o, r⟩
  · exact x a u r
  · obtain ⟨_, q⟩ := x a _ r
    exact q
noncomputable def Mut : Option HO → Prop
  | some (.lst _) => True
  | some (.dK _) => True
  | some (.dT _) => True
  | some (.set _ _) => True
  | some (.ins _ _ _) => True
  | some (.ext _) => True
  | _ => False
section
variable {P : Program} {w : World} {H : Hp} {h h' : Heap} {x e : Addr} {o' : HO}
theorem HOk.write (ok : HOk P w H h) (mu : Mut (H x)) (he : e = x ∨ H e = some (.own x)) (k : ∀ b u, b ≠ e → h.get? b = some u → h'.get? b = some u) (heo : ∃ u, h'.get? e = some u)
    (new : ObjOk P w (upd H x o') h' x o') : HOk P w (upd H x o') h' := fun b u q => by
  have nown : ∀ c y, H c = some (.own y) → c ≠ x := fun c y r z => by subst z; rw [r] at mu; exact mu
  have ntup : ∀ c xs, H c = some (.tup xs) → c ≠ x := fun c xs r z => by subst z; rw [r] at mu; exact mu
  by_cases hb : b = x
  · subst hb; rw [upd_same] at q; cases q; exact new
  · rw [upd_ne hb] at q
    by_cases hbe : b = e
    · have q' : H b = some (.own x) := by
        rcases he with z | z
        · exact absurd (hbe.trans z) hb
        · rw [hbe]; exact z
      rw [q] at q'; cases q'
      obtain ⟨v, hv⟩ := heo
      exact ⟨v, by rw [hbe]; exact hv⟩
    · refine (ok b u q).stay (fun c v hc r => k c v ?_ r) (fun c r => by rw [upd_ne (nown c b r)]; exact r) fun c xs r => by rw [upd_ne (ntup c xs r)]; exact r
      rcases hc with rfl | hc
      · exact hbe
      · rintro rfl
        rcases he with z | z
        · exact nown c b hc z
        · rw [hc] at z; cases z; exact hb rfl
end
structure Un (fs ex : List Addr) (H H' : Hp) (h h' : Heap) : Prop where
  keep : ∀ b o, h.get? b = some o → H b = none → b ∉ fs → b ∉ ex → h'.get? b = some o
  slot : ∀ b o, h.get? b = some o → H b = none → b ∈ fs → b ∉ ex → ∃ sl, h'.get? b = some { o with slots := sl }
  free : ∀ b o, h.get? b = some o → H b = none → b ∉ ex → H' b = none
  there : ∀ b o, h.get? b = some o → b ∉ ex → ∃ o', h'.get? b = some o'
  tups : ∀ b xs, H b = some (.tup xs) → H' b = some (.tup xs)
  frzs : ∀ b o u, H b = some (.frz o u) → H' b = some (.frz o u)
  tbls : ∀ b ps, H b = some (.tbl ps) → ∃ more, H' b = some (.tbl (ps ++ more))
section
variable {fs fs' ex ex' : List Addr} {H H1 H2 : Hp} {h h1 h2 h' : Heap} {a x e : Addr} {o : HO}
theorem Un.any (u : Un fs ex H H1 h h1) {b : Addr} {ob : Obj} (q : h.get? b = some ob) (n : H b = none) (hx : b ∉ ex) : ∃ sl, h1.get? b = some { ob with slots := sl } := by
  by_cases hb : b ∈ fs
  · exact u.slot b ob q n hb hx
  · exact ⟨ob.slots, u.keep b ob q n hb hx⟩
theorem Un.trans (a : Un fs ex H H1 h h1) (b : Un fs ex H1 H2 h1 h2) : Un fs ex H H2 h h2 where
  keep := fun c ob q n hc hx => b.keep c ob (a.keep c ob q n hc hx) (a.free c ob q n hx) hc hx
  slot := fun c ob q n hc hx => by
    obtain ⟨sl, e1⟩ := a.slot c ob q n hc hx
    obtain ⟨sl', e2⟩ := b.slot c _ e1 (a.free c ob q n hx) hc hx
    exact ⟨sl', e2⟩
  free := fun c ob q n hx => by
    obtain ⟨o', e1⟩ := a.there c ob q hx
    exact b.free c o' e1 (a.free c ob q n hx) hx
  there := fun c ob q hx => by
    obtain ⟨o', e1⟩ := a.there c ob q hx
    exact b.there c o' e1 hx
  tups := fun c xs q => b.tups c xs (a.tups c xs q)
  frzs := fun c ob xs q => b.frzs c ob xs (a.frzs c ob xs q)
  tbls := fun c ps q => by
    obtain ⟨m1, e1⟩ := a.tbls c ps q
    obtain ⟨m2, e2⟩ := b.tbls c _ e1
    exact ⟨m1 ++ m2, by rw [e2, Array.append_assoc]⟩
theorem Un.kept (k : ∀ b u, h.get? b = some u → h'.get? b = some u) : Un fs ex H H h h' :=
  ⟨fun b ob q _ _ _ => k b ob q, fun b ob q _ _ _ => ⟨ob.slots, k b ob q⟩, fun _ _ _ n _ => n, fun b ob q _ => ⟨ob, k b ob q⟩, fun _ _ q => q, fun _ _ _ q => q, fun _ ps q => ⟨#[], by rw [q]; simp⟩⟩
theorem Un.refl : Un fs ex H H h h := Un.kept fun _ _ q => q
theorem Un.laid (k : ∀ b u, h.get? b = some u → h'.get? b = some u) (hp : h.objs.size ≤ a) (hn : H a = none) : Un fs ex H (upd H a o) h h' where
  keep := fun b u q _ _ _ => k b u q
  slot := fun b u q _ _ _ => ⟨u.slots, k b u q⟩
  free := fun b u q n _ => by rw [upd_ne (Nat.ne_of_lt (Nat.lt_of_lt_of_le (Heap.lt_size q) hp))]; exact n
  there := fun b u q _ => ⟨u, k b u q⟩
  tups := fun b xs q => by rw [upd_ne (ne_of_none q hn)]; exact q
  frzs := fun b u xs q => by rw [upd_ne (ne_of_none q hn)]; exact q
  tbls := fun b ps q => ⟨#[], by rw [upd_ne (ne_of_none q hn), q]; simp⟩
theorem Un.write (mu : Mut (H x)) (he : e = x ∨ H e = some (.own x)) (k : ∀ b u, b ≠ e → h.get? b = some u → h'.get? b = some u) (heo : ∃ u, h'.get? e = some u) : Un fs ex H (upd H x o) h h' := by
  have hx : ∀ b, H b = none → b ≠ x := fun b n z => by subst z; rw [n] at mu; exact mu
  have hb : ∀ b, H b = none → b ≠ e := fun b n z => by
    subst z
    rcases he with r | r
    · exact hx b n r
    · rw [n] at r; cases r
  have hm : ∀ b u, H b = some u → ¬ Mut (some u) → b ≠ x := fun b u q nm z => by subst z; rw [q] at mu; exact nm mu
  refine ⟨fun b u q n _ _ => k b u (hb b n) q, fun b u q n _ _ => ⟨u.slots, k b u (hb b n) q⟩, fun b u q n _ => by rw [upd_ne (hx b n)]; exact n, fun b u q _ => ?_,
    fun b xs q => by rw [upd_ne (hm b _ q fun z => z)]; exact q, fun b u xs q => by rw [upd_ne (hm b _ q fun z => z)]; exact q, fun b ps q => ⟨#[], by rw [upd_ne (hm b _ q fun z => z), q]; simp⟩⟩
  by_cases hbe : b = e
  · subst hbe; exact heo
  · exact ⟨u, k b u hbe q⟩
end
noncomputable def trk (h : Heap) (H : Hp) : List Addr := (List.range h.objs.size).filter fun a => (H a).isSome
noncomputable def hidT (h : Heap) (H : Hp) : Heap := PySem.W.hideAll h (trk h H)
theorem hidT_size (h : Heap) (H : Hp) : (hidT h H).objs.size = h.objs.size := PySem.W.hideAll_size _ _
theorem hidT_get {h : Heap} {H : Hp} {b : Addr} {o : Obj} (e : h.get? b = some o) (n : H b = none) : (hidT h H).get? b = some o :=
  PySem.W.hideAll_get _ e fun hm => by
    have q : (H b).isSome = true := (List.mem_filter.mp hm).2
    rw [n] at q; simp at q
theorem of_hidT {h : Heap} {H : Hp} {b : Addr} {o : Obj} (e : (hidT h H).get? b = some o) : h.get? b = some o ∧ H b = none := by
  have e' : h.get? b = some o := PySem.W.of_hideAll (trk h H) e
  refine ⟨e', ?_⟩
  cases q : H b with
  | none => rfl
  | some x =>
    have hm : b ∈ trk h H := List.mem_filter.mpr ⟨List.mem_range.mpr (Heap.lt_size e'), by simp [q]⟩
    have z : (hidT h H).get? b = none := PySem.W.hideAll_none (trk h H) hm
    rw [z] at e; cases e
noncomputable def allNews (g h : Heap) (L : Addr) : List (Addr × Obj) := (List.range h.objs.size).filterMap fun a => if a = L ∨ (g.get? a).isSome = true then none else (h.get? a).map fun o => (a, o)
noncomputable def rest (g h : Heap) (L d : Addr) : List (Addr × Obj) := (allNews g h L).filter fun p => decide (p.1 ≠ d)
end L2
namespace L2
open PySem PySem.Spec PyProof.Rows
structure Mod (K : PySem.W.Frag) (mg : Str → Option Value) (base : Heap) : Prop where
  kin : K.In base
  glob : base.Ns mainGlobals mg
  blt : ∃ mb, base.Ns builtinsNs mb ∧ ∀ x : Str, x ≠ "__name__" → mb x = bootBuiltins x
  nolimit : base.NoLimit
structure Cx where
  prog : Program
  w : World
  K : PySem.W.Frag
  mg : Str → Option Value
  base : Heap
  A : Around
  N : List Str
  s₀ : Shared
  H₀ : Hp
  env : Env
  outer : List Env
  stack : List Env
  ex : List Addr
  fn : Str → Bool
  calm : Bool
  pn : List (Addr × Obj)
  xe : Value → Shared → Prop
noncomputable def frs (l : List Env) : List Addr := l.filterMap (·.frame)
noncomputable abbrev Cx.fs (X : Cx) : List Addr := frs X.outer
noncomputable def Vis (sc : Scope) (x : Str) : Prop := sc.names.lookup x = some .local ∨ sc.names.lookup x = some .cell ∨ sc.names.lookup x = some .free
noncomputable def Loc (sc : Scope) (x : Str) : Prop := sc.names.lookup x = some .local ∨ sc.names.lookup x = some .cell
noncomputable def Look (env : Env) (h : Heap) (m : Str → Option Value) (x : Str) (u : Value) : Prop :=
  (env.kindOf x = some .local ∧ m x = some u) ∨ ((env.kindOf x = some .cell ∨ env.kindOf x = some .free) ∧ ∃ c, env.cells.lookup x = some c ∧ h.IsCell c (some u))
structure Cx.Ok (X : Cx) : Prop where
  mod : Mod X.K X.mg X.base
  kind : X.env.scope.kind = .function
  glob : X.env.globals = mainGlobals
  blt : X.env.builtins = builtinsNs
  above : X.s₀.heap.objs.size ≤ X.env.locals
  inj : ∀ x y c, X.env.cells.lookup x = some c → X.env.cells.lookup y = some c → x = y
  has : ∀ x, (X.env.kindOf x = some .cell ∨ X.env.kindOf x = some .free) → ∃ c, X.env.cells.lookup x = some c
  cab : ∀ x c, X.fn x = true → X.env.cells.lookup x = some c → X.s₀.heap.objs.size ≤ c
  hd : X.calm = true → X.A.handled = none
  frames : X.A.frames = some X.stack
  stk : X.stack = X.outer ∨ (X.stack = X.env :: X.outer ∧ X.env.frame = some X.env.locals)
  exf : ∀ b ∈ X.ex, b ≠ X.env.locals ∧ ∀ x c, X.env.cells.lookup x = some c → c ≠ b
  bs : ∀ b o, X.base.get? b = some o → X.s₀.heap.get? b = some o ∧ X.H₀ b = none
  bsz : X.base.objs.size ≤ X.s₀.heap.objs.size
  noex : ∀ b o, X.base.get? b = some o → b ∉ X.ex
  exfs : ∀ b ∈ X.ex, b ∉ X.fs
  funs : X.s₀.heap.FunFrames X.base X.outer
  frf : ∀ b ∈ X.fs, X.H₀ b = none
structure Inv (X : Cx) (pins : List (Addr × Obj)) (σ : List (Option V)) (H : Hp) (s : Shared) : Prop where
  ok : X.Ok
  os : s.os = X.s₀.os
  bare : AllBare s.gens
  base : Un X.fs X.ex X.H₀ H X.s₀.heap s.heap
  loc : ∃ m, s.heap.Ns X.env.locals m ∧ ∀ (i : Nat) (x : Str) (v : V), X.N[i]? = some x → σ[i]? = some (some v) → Vis X.env.scope x → ∃ u, RelV v u ∧ Look X.env s.heap m x u
  cell : ∀ x c, X.env.cells.lookup x = some c → ∃ v, s.heap.IsCell c v
  free : H X.env.locals = none
  freeC : ∀ x c, X.env.cells.lookup x = some c → H c = none
  pin : ∀ p ∈ X.pn ++ pins, s.heap.get? p.1 = some p.2 ∧ H p.1 = none ∧ p.1 ≠ X.env.locals ∧ p.1 ∉ X.fs ∧ ∀ v, p.2.data ≠ .cell v
  hok : HOk X.prog X.w H s.heap
  len : σ.length = X.N.length
section
variable {X : Cx} {pins : List (Addr × Obj)} {σ : List (Option V)} {H H' : Hp} {s : Shared} {h' : Heap}
theorem Cx.Ok.nofr (ok : X.Ok) {b : Addr} {o : Obj} (e : X.base.get? b = some o) : b ∉ X.fs := fun hb => by
  have := (ok.funs.mem hb).1
  rw [e] at this; cases this
theorem Inv.bs (I : Inv X pins σ H s) : ∀ b o, X.base.get? b = some o → s.heap.get? b = some o ∧ H b = none := fun b o e =>
  ⟨I.base.keep b o (I.ok.bs b o e).1 (I.ok.bs b o e).2 (I.ok.nofr e) (I.ok.noex b o e), I.base.free b o (I.ok.bs b o e).1 (I.ok.bs b o e).2 (I.ok.noex b o e)⟩
theorem Inv.bk (I : Inv X pins σ H s) : ∀ b o, X.base.get? b = some o → s.heap.get? b = some o := fun b o e => (I.bs b o e).1
theorem Inv.mod (I : Inv X pins σ H s) : Mod X.K X.mg X.base := I.ok.mod
theorem Inv.kIn (I : Inv X pins σ H s) : X.K.In s.heap := I.ok.mod.kin.keeps I.bk
theorem Inv.lt (I : Inv X pins σ H s) : X.env.locals < s.heap.objs.size := let ⟨_, hn, _⟩ := I.loc; hn.lt
theorem Inv.sz (I : Inv X pins σ H s) : X.s₀.heap.objs.size ≤ s.heap.objs.size := Nat.le_trans I.ok.above (Nat.le_of_lt I.lt)
theorem Inv.nofs (I : Inv X pins σ H s) {a : Addr} (h : s.heap.objs.size ≤ a) : a ∉ X.fs := fun hb => by
  obtain ⟨_, o, ho, _⟩ := I.ok.funs.mem hb
  exact absurd (Nat.lt_of_lt_of_le (Heap.lt_size ho) (Nat.le_trans I.sz h)) (Nat.lt_irrefl _)
theorem Inv.cne (I : Inv X pins σ H s) : ∀ x c, X.env.cells.lookup x = some c → c ≠ X.env.locals := fun x c e z => by
  obtain ⟨v, o, ho, hd⟩ := I.cell x c e
  obtain ⟨m, ⟨o', es, ep, ho', hd', _⟩, _⟩ := I.loc
  rw [z, ho'] at ho; cases ho; rw [hd'] at hd; cases hd
theorem Inv.funs (I : Inv X pins σ H s) : s.heap.FunFrames X.base X.outer := by
  have all : ∀ (l : List Env), (∀ b ∈ frs l, b ∈ X.fs) → X.s₀.heap.FunFrames X.base l → s.heap.FunFrames X.base l := by
    intro l
    induction l with
    | nil => intro _ _; trivial
    | cons env r ih =>
      intro hs hl
      obtain ⟨hk, ⟨L, o, hf, hn, ho, hd⟩, hr⟩ := hl
      have hL : L ∈ X.fs := hs L (by unfold frs; rw [List.filterMap_cons, hf]; exact List.mem_cons_self)
      obtain ⟨sl, e⟩ := I.base.slot L o ho (I.ok.frf L hL) hL fun z => I.ok.exfs L z hL
      exact ⟨hk, ⟨L, _, hf, hn, e, hd⟩, ih (fun b hb => hs b (by unfold frs; rw [List.filterMap_cons, hf]; exact List.mem_cons_of_mem _ hb)) hr⟩
  exact all X.outer (fun _ hb => hb) I.ok.funs
theorem Inv.stack (I : Inv X pins σ H s) : s.heap.FunFrames X.base X.stack := by
  rcases I.ok.stk with e | ⟨e, hf⟩
  · rw [e]; exact I.funs
  · rw [e]
    obtain ⟨m, hn, _⟩ := I.loc
    refine .cons (by rw [I.ok.kind]; decide) hf hn ?_ I.funs
    exact Heap.get?_none_of_le (Nat.le_trans I.ok.bsz I.ok.above)
theorem Inv.stkSub (I : Inv X pins σ H s) : ∀ b ∈ frs X.stack, b ∈ X.env.locals :: X.fs := fun b hb => by
  rcases I.ok.stk with e | ⟨e, hf⟩
  · rw [e] at hb; exact List.mem_cons_of_mem _ hb
  · rw [e] at hb
    unfold frs at hb
    rw [List.filterMap_cons, hf] at hb
    exact hb
theorem Inv.stkFree (I : Inv X pins σ H s) : ∀ b ∈ frs X.stack, H b = none := fun b hb => by
  rcases List.mem_cons.mp (I.stkSub b hb) with e | hb
  · rw [e]; exact I.free
  · obtain ⟨_, o, ho, _⟩ := I.ok.funs.mem hb
    exact I.base.free b o ho (I.ok.frf b hb) fun z => I.ok.exfs b z hb
theorem Inv.step {g' : Array GenState} {t' : Nat} {d' : Drawn} {ch : List Addr} (I : Inv X pins σ H s)
    (hch : ∀ b ∈ ch, (b ∈ X.ex ∨ X.s₀.heap.objs.size ≤ b) ∧ b ≠ X.env.locals ∧ (∀ x c, X.env.cells.lookup x = some c → c ≠ b) ∧ ∀ p ∈ X.pn ++ pins, p.1 ≠ b)
    (keep : ∀ b o, b ≠ X.env.locals → b ∉ X.fs → b ∉ ch → s.heap.get? b = some o → H b = none → h'.get? b = some o)
    (slot : ∀ b o, b ≠ X.env.locals → b ∈ X.fs → b ∉ ch → s.heap.get? b = some o → H b = none → ∃ sl, h'.get? b = some { o with slots := sl }) (free : ∀ b o, b ∉ ch → s.heap.get? b = some o → H b = none → H' b = none)
    (there : ∀ b o, b ∉ ch → s.heap.get? b = some o → ∃ o', h'.get? b = some o')
    (tups : ∀ b xs, H b = some (.tup xs) → H' b = some (.tup xs)) (frzs : ∀ b o u, H b = some (.frz o u) → H' b = some (.frz o u)) (tbls : ∀ b ps, H b = some (.tbl ps) → ∃ more, H' b = some (.tbl (ps ++ more)))
    (ns : ∀ m, s.heap.Ns X.env.locals m → h'.Ns X.env.locals m) (hok : HOk X.prog X.w H' h') (hg : AllBare g') :
    Inv X pins σ H' { s with heap := h', gens := g', drawn := d', toks := t' } := by
  have neL : ∀ b o, X.s₀.heap.get? b = some o → b ≠ X.env.locals := fun b o e => Nat.ne_of_lt (Nat.lt_of_lt_of_le (Heap.lt_size e) I.ok.above)
  have neC : ∀ b o, X.s₀.heap.get? b = some o → b ∉ X.ex → b ∉ ch := fun b o e hx hb => by
    rcases (hch b hb).1 with z | z
    · exact hx z
    · exact absurd (Nat.lt_of_lt_of_le (Heap.lt_size e) z) (Nat.lt_irrefl _)
  have cellK : ∀ x c, X.env.cells.lookup x = some c → ∀ v, s.heap.IsCell c v → h'.IsCell c v := fun x c e v ⟨o, ho, hd⟩ => by
    have nch : c ∉ ch := fun z => (hch c z).2.2.1 x c e rfl
    by_cases hc : c ∈ X.fs
    · obtain ⟨sl, q⟩ := slot c o (I.cne x c e) hc nch ho (I.freeC x c e)
      exact ⟨_, q, hd⟩
    · exact ⟨o, keep c o (I.cne x c e) hc nch ho (I.freeC x c e), hd⟩
  refine ⟨I.ok, I.os, hg, ⟨fun b o e n hb hx => ?_, fun b o e n hb hx => ?_, fun b o e n hx => ?_, fun b o e hx => ?_, fun b xs e => tups b xs (I.base.tups b xs e), fun b o xs e => frzs b o xs (I.base.frzs b o xs e), fun b ps e => ?_⟩, ?_, fun x c e => ?_, ?_, fun x c e => ?_, fun p hp => ?_, hok, I.len⟩
  · exact keep b o (neL b o e) hb (neC b o e hx) (I.base.keep b o e n hb hx) (I.base.free b o e n hx)
  · obtain ⟨sl, e1⟩ := I.base.slot b o e n hb hx
    obtain ⟨sl', e2⟩ := slot b _ (neL b o e) hb (neC b o e hx) e1 (I.base.free b o e n hx)
    exact ⟨sl', e2⟩
  · obtain ⟨o', e1⟩ := I.base.there b o e hx
    exact free b o' (neC b o e hx) e1 (I.base.free b o e n hx)
  · obtain ⟨o', e1⟩ := I.base.there b o e hx
    exact there b o' (neC b o e hx) e1
  · obtain ⟨m1, e1⟩ := I.base.tbls b ps e
    obtain ⟨m2, e2⟩ := tbls b _ e1
    exact ⟨m1 ++ m2, by rw [e2, Array.append_assoc]⟩
  · obtain ⟨m, hn, hl⟩ := I.loc
    refine ⟨m, ns m hn, fun i x v e1 e2 e3 => ?_⟩
    obtain ⟨u, r, l⟩ := hl i x v e1 e2 e3
    refine ⟨u, r, ?_⟩
    rcases l with l | ⟨k, c, e, z⟩
    · exact .inl l
    · exact .inr ⟨k, c, e, cellK x c e _ z⟩
  · obtain ⟨v, z⟩ := I.cell x c e
    exact ⟨v, cellK x c e v z⟩
  · obtain ⟨m, ⟨o, _, _, ho, _⟩, _⟩ := I.loc
    exact free _ o (fun z => (hch _ z).2.1 rfl) ho I.free
  · obtain ⟨v, o, ho, hd⟩ := I.cell x c e
    exact free c o (fun z => (hch c z).2.2.1 x c e rfl) ho (I.freeC x c e)
  · obtain ⟨e, n, ne, nf, d⟩ := I.pin p hp
    have nch : p.1 ∉ ch := fun z => (hch p.1 z).2.2.2 p hp rfl
    exact ⟨keep p.1 p.2 ne nf nch e n, free p.1 p.2 nch e n, ne, nf, d⟩
theorem Inv.un {t' : Nat} (I : Inv X pins σ H s) (u : Un X.fs [] H H' s.heap h') (hok : HOk X.prog X.w H' h') : Inv X pins σ H' { s with heap := h', toks := t' } := by
  obtain ⟨m, ⟨o, es, ep, ho, r⟩, _⟩ := id I.loc
  obtain ⟨sl, hL⟩ := u.any ho I.free (by simp)
  exact I.step (g' := s.gens) (d' := s.drawn) (ch := []) (fun _ z => nomatch z) (fun b o _ hb _ e n => u.keep b o e n hb (by simp)) (fun b o _ hb _ e n => u.slot b o e n hb (by simp)) (fun b o _ e n => u.free b o e n (by simp)) (fun b o _ e => u.there b o e (by simp)) u.tups u.frzs u.tbls (fun m' hm => by
    obtain ⟨o', es', ep', ho', r'⟩ := hm
    rw [ho] at ho'; cases ho'
    exact ⟨_, es', ep', hL, r'⟩) hok I.bare
theorem Inv.call {g' : Array GenState} {t' : Nat} {d' : Drawn} {ch : List Addr} (I : Inv X pins σ H s) (u : Un (frs X.stack) ch H H' s.heap h') (hok : HOk X.prog X.w H' h') (hg : AllBare g')
    (hch : ∀ b ∈ ch, (b ∈ X.ex ∨ X.s₀.heap.objs.size ≤ b) ∧ b ≠ X.env.locals ∧ (∀ x c, X.env.cells.lookup x = some c → c ≠ b) ∧ ∀ p ∈ X.pn ++ pins, p.1 ≠ b) :
    Inv X pins σ H' { s with heap := h', gens := g', drawn := d', toks := t' } := by
  obtain ⟨m, ⟨o, es, ep, ho, r⟩, _⟩ := id I.loc
  obtain ⟨sl, hL⟩ := u.any ho I.free fun z => (hch _ z).2.1 rfl
  exact I.step (ch := ch) hch (fun b o hL hb hc e n => u.keep b o e n (fun z => (List.mem_cons.mp (I.stkSub b z)).elim hL hb) hc) (fun b o _ _ hc e n => u.any e n hc) (fun b o hc e n => u.free b o e n hc) (fun b o hc e => u.there b o e hc) u.tups u.frzs u.tbls (fun m' hm => by
    obtain ⟨o', es', ep', ho', r'⟩ := hm
    rw [ho] at ho'; cases ho'
    exact ⟨_, es', ep', hL, r'⟩) hok hg
theorem Inv.turned {t' : Nat} {it : Addr} (I : Inv X pins σ H s) (k : ∀ b o, b ≠ it → s.heap.get? b = some o → h'.get? b = some o) (hn : H it = none) (hL : it ≠ X.env.locals)
    (h1 : it ∈ X.ex ∨ X.s₀.heap.objs.size ≤ it) (h2 : ∀ x c, X.env.cells.lookup x = some c → c ≠ it) (h3 : ∀ p ∈ X.pn ++ pins, p.1 ≠ it) : Inv X pins σ H { s with heap := h', toks := t' } := by
  have nit : ∀ b u, H b = some u → b ≠ it := fun b u e z => by rw [z, hn] at e; cases e
  refine I.step (g' := s.gens) (d' := s.drawn) (ch := [it]) (fun b hb => ?_) (fun b o _ _ hc e _ => k b o (fun z => hc (by simp [z])) e) (fun b o _ _ hc e _ => ⟨o.slots, k b o (fun z => hc (by simp [z])) e⟩) (fun _ _ _ _ n => n)
    (fun b o hc e => ⟨o, k b o (fun z => hc (by simp [z])) e⟩) (fun _ _ e => e) (fun _ _ _ e => e) (fun b ps e => ⟨#[], by rw [e]; simp⟩) (fun m hm => ?_) (fun b u e => ?_) I.bare
  · have e : b = it := by simpa using hb
    subst e
    exact ⟨h1, hL, h2, h3⟩
  · obtain ⟨o, es, ep, ho, r⟩ := hm
    exact ⟨o, es, ep, k _ o (Ne.symm hL) ho, r⟩
  · refine (I.hok b u e).stay (fun c v hc q => k c v ?_ q) (fun _ q => q) fun _ _ q => q
    rcases hc with z | z
    · rw [z]; exact nit b u e
    · exact nit c _ z
theorem Inv.tok (I : Inv X pins σ H s) (t : Nat) : Inv X pins σ H { s with toks := t } := I.un (h' := s.heap) (t' := t) Un.refl I.hok
theorem Inv.kept {t' : Nat} (I : Inv X pins σ H s) (k : ∀ b u, s.heap.get? b = some u → h'.get? b = some u) : Inv X pins σ H { s with heap := h', toks := t' } := I.un (Un.kept k) (I.hok.kept k)
theorem Inv.laid {a : Addr} {o : HO} {t' : Nat} (I : Inv X pins σ H s) (k : ∀ b u, s.heap.get? b = some u → h'.get? b = some u) (hp : s.heap.objs.size ≤ a) (new : ObjOk X.prog X.w (upd H a o) h' a o) :
    Inv X pins σ (upd H a o) { s with heap := h', toks := t' } := I.un (Un.laid k hp (I.hok.fresh hp)) (I.hok.laid k hp new)
theorem Inv.write {x e : Addr} {o : HO} {t' : Nat} (I : Inv X pins σ H s) (mu : Mut (H x)) (he : e = x ∨ H e = some (.own x)) (k : ∀ b u, b ≠ e → s.heap.get? b = some u → h'.get? b = some u) (heo : ∃ u, h'.get? e = some u)
    (new : ObjOk X.prog X.w (upd H x o) h' x o) : Inv X pins σ (upd H x o) { s with heap := h', toks := t' } := I.un (Un.write mu he k heo) (I.hok.write mu he k heo new)
theorem Inv.pins_of {pins' : List (Addr × Obj)} (I : Inv X pins σ H s) (h : ∀ p ∈ pins', s.heap.get? p.1 = some p.2 ∧ H p.1 = none ∧ p.1 ≠ X.env.locals ∧ p.1 ∉ X.fs ∧ ∀ v, p.2.data ≠ .cell v) : Inv X pins' σ H s :=
  ⟨I.ok, I.os, I.bare, I.base, I.loc, I.cell, I.free, I.freeC, fun p hp => (List.mem_append.mp hp).elim (fun z => I.pin p (List.mem_append_left _ z)) (h p), I.hok, I.len⟩
theorem nodup_ix {N : List Str} (hN : N.Nodup) {i j : Nat} {x : Str} (a : N[i]? = some x) (b : N[j]? = some x) : i = j := by
  obtain ⟨h1, e1⟩ := List.getElem?_eq_some_iff.mp a
  obtain ⟨h2, e2⟩ := List.getElem?_eq_some_iff.mp b
  exact (List.getElem_inj hN).mp (e1.trans e2.symm)
theorem store_ok2 {M : Model} {A : Around} {E : Value → Shared → Prop} {i : Nat} {x : Str} {v : V} {u : Value} {Q : Unit → Shared → Prop} (I : Inv X pins σ H s) (hN : X.N.Nodup) (hi : X.N[i]? = some x) (hx : Loc X.env.scope x) (r : RelV v u)
    (h : ∀ s', Inv X pins (σ.set i (some v)) H s' → (∃ a, Heap.SameBut a s.heap s'.heap ∧ (a = X.env.locals ∨ X.env.cells.lookup x = some a)) → Q () s') (hf : X.fn x = true ∨ X.env.scope.names.lookup x = some .local := by first | exact .inl rfl | exact .inr rfl | assumption) : wpAny M A (storeName X.env x u) Q E s := by
  obtain ⟨m, hn, hl⟩ := id I.loc
  have hcls : (X.env.scope.kind == .class || (X.env.scope.kind == .module && X.env.locals != X.env.globals)) = false := by rw [I.ok.kind]; rfl
  have hiσ : i < σ.length := by rw [I.len]; exact (List.getElem?_eq_some_iff.mp hi).1
  have cne := I.cne
  have tracked : ∀ {a : Addr} {h' : Heap}, (∃ o, s.heap.get? a = some o ∧ H a = none) → Heap.SameBut a s.heap h' → HOk X.prog X.w H h' := fun {a h'} ha hs b ob e => by
    obtain ⟨_, _, hfree⟩ := ha
    refine (I.hok b ob e).stay (fun c w' hc q => (hs.2 c ?_).trans q) (fun _ q => q) fun _ _ q => q
    rintro rfl
    rcases hc with rfl | hc
    · rw [hfree] at e; cases e
    · rw [hfree] at hc; cases hc
  rcases hx with hk | hk
  · refine wpAny_storeName_local hk hn (fun h' hn' hs => ?_) hcls
    obtain ⟨oL, _, _, hoL, _⟩ := id hn
    refine h _ ⟨I.ok, I.os, I.bare, ⟨fun b o e n hb hx => ?_, fun b o e n hb hx => ?_, I.base.free, fun b o e hx => ?_, I.base.tups, I.base.frzs, I.base.tbls⟩, ⟨_, hn', fun j y v' e1 e2 e3 => ?_⟩, fun y c e => ?_, I.free, I.freeC, fun p hp => ?_, tracked ⟨oL, hoL, I.free⟩ hs, by simpa using I.len⟩ ⟨_, hs, .inl rfl⟩
    · exact (hs.2 b (Nat.ne_of_lt (Nat.lt_of_lt_of_le (Heap.lt_size e) I.ok.above))).trans (I.base.keep b o e n hb hx)
    · obtain ⟨sl, e1⟩ := I.base.slot b o e n hb hx
      exact ⟨sl, (hs.2 b (Nat.ne_of_lt (Nat.lt_of_lt_of_le (Heap.lt_size e) I.ok.above))).trans e1⟩
    · obtain ⟨o', e1⟩ := I.base.there b o e hx
      exact ⟨o', (hs.2 b (Nat.ne_of_lt (Nat.lt_of_lt_of_le (Heap.lt_size e) I.ok.above))).trans e1⟩
    · by_cases hj : j = i
      · subst hj
        rw [hi] at e1; cases e1
        rw [List.getElem?_set_self hiσ] at e2
        cases e2
        exact ⟨u, r, .inl ⟨hk, by simp⟩⟩
      · rw [List.getElem?_set_ne (Ne.symm hj)] at e2
        obtain ⟨u', r', q⟩ := hl j y v' e1 e2 e3
        refine ⟨u', r', ?_⟩
        rcases q with ⟨k, e⟩ | ⟨k, c, e, z⟩
        · refine .inl ⟨k, ?_⟩
          have : y ≠ x := fun e => hj (nodup_ix hN e1 (e ▸ hi))
          simp [this, e]
        · exact .inr ⟨k, c, e, z.sameBut hs (cne y c e)⟩
    · obtain ⟨w', z⟩ := I.cell y c e
      exact ⟨w', z.sameBut hs (cne y c e)⟩
    · obtain ⟨e, n, ne, nf, d⟩ := I.pin p hp
      exact ⟨(hs.2 p.1 ne).trans e, n, ne, nf, d⟩
  · have hfn : X.fn x = true := by
      rcases hf with z | z
      · exact z
      · rw [z] at hk; cases hk
    obtain ⟨c, hc⟩ := I.ok.has x (.inl hk)
    obtain ⟨w', z⟩ := I.cell x c hc
    refine wpAny_storeName_cell I.ok.kind hk hc z (fun h' hc' hs => ?_)
    obtain ⟨oc, hoc, hocd⟩ := id z
    refine h { s with heap := h' } ⟨I.ok, I.os, I.bare, ⟨fun b o e n hb hx => ?_, fun b o e n hb hx => ?_, I.base.free, fun b o e hx => ?_, I.base.tups, I.base.frzs, I.base.tbls⟩, ⟨m, hn.sameBut hs (Ne.symm (cne x c hc)), fun j y v' e1 e2 e3 => ?_⟩, fun y c' e => ?_, I.free, I.freeC, fun p hp => ?_, tracked ⟨oc, hoc, I.freeC x c hc⟩ hs, by simpa using I.len⟩ ⟨c, hs, .inr hc⟩
    · exact (hs.2 b (Nat.ne_of_lt (Nat.lt_of_lt_of_le (Heap.lt_size e) (I.ok.cab x c hfn hc)))).trans (I.base.keep b o e n hb hx)
    · obtain ⟨sl, e1⟩ := I.base.slot b o e n hb hx
      exact ⟨sl, (hs.2 b (Nat.ne_of_lt (Nat.lt_of_lt_of_le (Heap.lt_size e) (I.ok.cab x c hfn hc)))).trans e1⟩
    · obtain ⟨o', e1⟩ := I.base.there b o e hx
      exact ⟨o', (hs.2 b (Nat.ne_of_lt (Nat.lt_of_lt_of_le (Heap.lt_size e) (I.ok.cab x c hfn hc)))).trans e1⟩
    · by_cases hj : j = i
      · subst hj
        rw [hi] at e1; cases e1
        rw [List.getElem?_set_self hiσ] at e2
        cases e2
        exact ⟨u, r, .inr ⟨.inl hk, c, hc, hc'⟩⟩
      · rw [List.getElem?_set_ne (Ne.symm hj)] at e2
        obtain ⟨u', r', q⟩ := hl j y v' e1 e2 e3
        refine ⟨u', r', ?_⟩
        rcases q with q | ⟨k, c', e, z'⟩
        · exact .inl q
        · refine .inr ⟨k, c', e, z'.sameBut hs ?_⟩
          rintro rfl
          exact hj (nodup_ix hN e1 (I.ok.inj _ _ _ e hc ▸ hi))
    · by_cases hcc : c' = c
      · subst hcc; exact ⟨_, hc'⟩
      · obtain ⟨w2, z2⟩ := I.cell y c' e
        exact ⟨w2, z2.sameBut hs hcc⟩
    · obtain ⟨e, n, ne, nf, d⟩ := I.pin p hp
      refine ⟨(hs.2 p.1 ?_).trans e, n, ne, nf, d⟩
      intro q
      rw [q, hoc] at e
      have q' : oc = p.2 := Option.some.inj e
      exact d w' (by rw [← q']; exact hocd)
theorem store_ok {M : Model} {A : Around} {E : Value → Shared → Prop} {i : Nat} {x : Str} {v : V} {u : Value} {Q : Unit → Shared → Prop} (I : Inv X pins σ H s) (hN : X.N.Nodup) (hi : X.N[i]? = some x) (hx : Loc X.env.scope x) (r : RelV v u)
    (h : ∀ s', Inv X pins (σ.set i (some v)) H s' → Q () s') (hf : X.fn x = true ∨ X.env.scope.names.lookup x = some .local := by first | exact .inl rfl | exact .inr rfl | assumption) : wpAny M A (storeName X.env x u) Q E s :=
  store_ok2 I hN hi hx r (fun s' I' _ => h s' I') hf
theorem Inv.call' {s' : Shared} {ch : List Addr} (I : Inv X pins σ H s) (ho : s'.os = s.os) (u : Un (frs X.stack) ch H H' s.heap s'.heap) (hok : HOk X.prog X.w H' s'.heap) (hg : AllBare s'.gens)
    (hch : ∀ b ∈ ch, (b ∈ X.ex ∨ X.s₀.heap.objs.size ≤ b) ∧ b ≠ X.env.locals ∧ (∀ x c, X.env.cells.lookup x = some c → c ≠ b) ∧ ∀ p ∈ X.pn ++ pins, p.1 ≠ b) : Inv X pins σ H' s' := by
  obtain ⟨h', g', d', t', o'⟩ := s'
  have e : o' = s.os := ho
  subst e
  exact I.call (g' := g') (t' := t') (d' := d') u hok hg hch
end
noncomputable abbrev XK := Value → Option Addr → Hp → Prop
noncomputable abbrev St := List (Option V)
noncomputable abbrev VK := V → Hp → Prop
noncomputable abbrev TE := St → Hp → VK → Prop
noncomputable abbrev TT := St → Hp → (Bool → Hp → Prop) → Prop
noncomputable abbrev TA := St → Hp → (List V → Hp → Prop) → Prop
structure Ends where
  nx : St → Hp → Prop
  rt : VK
  bk : St → Hp → Prop := fun _ _ => False
  ct : St → Hp → Prop := fun _ _ => False
noncomputable abbrev TS := Ends → St → Hp → Prop
noncomputable def EP (X : Cx) (pins : List (Addr × Obj)) (σ : St) (Q : VK) (u : Value) (s' : Shared) : Prop := ∃ v H', Inv X pins σ H' s' ∧ RelV v u ∧ Q v H'
noncomputable def TP (X : Cx) (pins : List (Addr × Obj)) (σ : St) (Q : Bool → Hp → Prop) (b : Bool) (s' : Shared) : Prop := ∃ H', Inv X pins σ H' s' ∧ Q b H'
noncomputable def AP (X : Cx) (pins : List (Addr × Obj)) (σ : St) (Q : List V → Hp → Prop) (us : List Value) (s' : Shared) : Prop := ∃ vs H', Inv X pins σ H' s' ∧ Vals vs us ∧ Q vs H'
noncomputable def SP (X : Cx) (pins : List (Addr × Obj)) (D : Ends) (f : Flow) (s' : Shared) : Prop :=
  match f with
  | .next => ∃ σ' H', Inv X pins σ' H' s' ∧ D.nx σ' H'
  | .brk => ∃ σ' H', Inv X pins σ' H' s' ∧ D.bk σ' H'
  | .cont => ∃ σ' H', Inv X pins σ' H' s' ∧ D.ct σ' H'
  | .ret u => ∃ v σ' H', Inv X pins σ' H' s' ∧ RelV v u ∧ D.rt v H'
noncomputable def PE (X : Cx) (e : Expr) (t : TE) : Prop :=
  ∀ (pins : List (Addr × Obj)) (s : Shared) (σ : St) (H : Hp) (Q : VK), Inv X pins σ H s → t σ H Q → wpAny (model X.prog X.w) X.A (eval e X.env) (EP X pins σ Q) X.xe s
noncomputable def PT (X : Cx) (e : Expr) (t : TT) : Prop :=
  ∀ (pins : List (Addr × Obj)) (s : Shared) (σ : St) (H : Hp) (Q : Bool → Hp → Prop), Inv X pins σ H s → t σ H Q → wpAny (model X.prog X.w) X.A (isTrue e X.env (eval e X.env)) (TP X pins σ Q) X.xe s
noncomputable def PW (X : Cx) (e : Expr) (t : TT) : Prop :=
  ∀ (whole : Sem Value) (pins : List (Addr × Obj)) (s : Shared) (σ : St) (H : Hp) (Q : Bool → Hp → Prop), Inv X pins σ H s → t σ H Q → wpAny (model X.prog X.w) X.A (isTrue e X.env whole) (TP X pins σ Q) X.xe s
theorem PW.pt {X : Cx} {e : Expr} {t : TT} (h : PW X e t) : PT X e t := h _
noncomputable def PA (X : Cx) (es : List Expr) (t : TA) : Prop :=
  ∀ (pos : Pos) (pins : List (Addr × Obj)) (s : Shared) (σ : St) (H : Hp) (Q : List V → Hp → Prop), Inv X pins σ H s → t σ H Q → wpAny (model X.prog X.w) X.A (spliced (backTo pos (starEach es X.env))) (AP X pins σ Q) X.xe s
noncomputable def PS (X : Cx) (st : Stmt) (t : TS) : Prop :=
  ∀ (pins : List (Addr × Obj)) (s : Shared) (σ : St) (H : Hp) (D : Ends), Inv X pins σ H s → t D σ H → wpAny (model X.prog X.w) X.A (exec st X.env) (SP X pins D) X.xe s
noncomputable def PSs (X : Cx) (st : List Stmt) (t : TS) : Prop :=
  ∀ (pins : List (Addr × Obj)) (s : Shared) (σ : St) (H : Hp) (D : Ends), Inv X pins σ H s → t D σ H → wpAny (model X.prog X.w) X.A (execs st X.env) (SP X pins D) X.xe s
theorem thn {α : Type} {t : Sem α} {Q Q' : α → Shared → Prop} {M : Model} {A : Around} {E : Value → Shared → Prop} {s : Shared} (h : wpAny M A t Q E s) (hQ : ∀ a s, Q a s → Q' a s) : wpAny M A t Q' E s := wpAny_mono h hQ fun _ _ x => x
end L2
namespace L2
open PySem PySem.Spec PyProof.Rows
section
variable {X : Cx}
noncomputable def tVar (i : Nat) : TE := fun σ H Q => ∃ v, σ[i]? = some (some v) ∧ Q v H
noncomputable def tC (v : V) : TE := fun _ H Q => Q v H
theorem pe_var {i : Nat} {x : Str} {pos : Pos} (hN : X.N[i]? = some x) (hv : Vis X.env.scope x) (hd : (x == ("__debug__" : Str)) = false := by decide) (hcd : (x == ("__classdict__" : Str)) = false := by decide) : PE X (.Name x pos) (tVar i) := by
  intro pins s σ H Q I h
  obtain ⟨v, e, h⟩ := h
  obtain ⟨m, hn, hl⟩ := I.loc
  obtain ⟨u, r, l⟩ := hl i x v hN e hv
  have fin : EP X pins σ Q u s := ⟨v, H, I, r, h⟩
  rcases l with ⟨hk, hm⟩ | ⟨hk, c, hc, hcell⟩
  · exact wpAny_Name (wpAny_loadName_local I.ok.kind hk hn hm fin) hd
  · rcases hk with hk | hk
    · exact wpAny_Name (wpAny_loadName_cell I.ok.kind hk hc hcell fin) hd
    · exact wpAny_Name (wpAny_loadName_free I.ok.kind hk hc hcell fin hcd) hd
theorem pe_int {i j pos} : PE X (.Constant (.int i) j pos) (tC (.int i)) := fun _ _ _ H _ I h => wpAny_Constant_int ⟨.int i, H, I.tok _, ⟨_, rfl⟩, h⟩
theorem pe_bl {b j pos} : PE X (.Constant (.bool b) j pos) (tC (.bl b)) := fun _ _ _ H _ I h => Constant_bool ⟨.bl b, H, I, rfl, h⟩
theorem pe_non {j pos} : PE X (.Constant .none j pos) (tC .non) := fun _ _ _ H _ I h => Constant_none ⟨.non, H, I, rfl, h⟩
theorem pe_str {x j pos} : PE X (.Constant (.str x) j pos) (tC (.str x)) := fun _ _ _ H _ I h => Calls.Constant_str ⟨.str x, H, I.tok _, ⟨_, rfl⟩, h⟩
noncomputable def Gl (X : Cx) (x : Str) : Prop := X.env.kindOf x = some .globalImplicit
theorem ld_glob {E : Value → Shared → Prop} {pins : List (Addr × Obj)} {s : Shared} {σ : St} {H : Hp} {x : Str} {u : Value} {pos : Pos} {Q : Value → Shared → Prop} (I : Inv X pins σ H s) (hg : Gl X x) (hm : X.mg x = some u) (h : Q u s)
    (hd : (x == ("__debug__" : Str)) = false := by decide) : wpAny (model X.prog X.w) X.A (eval (.Name x pos) X.env) Q E s :=
  Calls.Name_function_global I.ok.kind hg (Calls.loadGlobal_global (by rw [I.ok.glob]; exact I.mod.glob.keeps I.bk) hm h) hd
theorem ld_blt {E : Value → Shared → Prop} {pins : List (Addr × Obj)} {s : Shared} {σ : St} {H : Hp} {x : Str} {u : Value} {pos : Pos} {Q : Value → Shared → Prop} (I : Inv X pins σ H s) (hg : Gl X x) (hm : X.mg x = none) (hv : bootBuiltins x = some u) (h : Q u s)
    (hn : x ≠ "__name__" := by decide) (hd : (x == ("__debug__" : Str)) = false := by decide) : wpAny (model X.prog X.w) X.A (eval (.Name x pos) X.env) Q E s := by
  obtain ⟨mb, h1, h2⟩ := I.mod.blt
  exact Calls.Name_function_global I.ok.kind hg (Calls.loadGlobal_builtin (by rw [I.ok.glob]; exact I.mod.glob.keeps I.bk) hm (by rw [I.ok.blt]; exact h1.keeps I.bk) ((h2 x hn).trans hv) h) hd
theorem pe_glob {x : Str} {v : V} {u : Value} {pos : Pos} (hg : Gl X x) (hm : X.mg x = some u) (r : RelV v u) (hd : (x == ("__debug__" : Str)) = false := by decide) : PE X (.Name x pos) (tC v) :=
  fun _ _ _ H _ I h => ld_glob I hg hm ⟨v, H, I, r, h⟩ hd
theorem pe_bltn {x : Str} {v : V} {u : Value} {pos : Pos} (hg : Gl X x) (hm : X.mg x = none) (hv : bootBuiltins x = some u) (r : RelV v u) (hn : x ≠ "__name__" := by decide) (hd : (x == ("__debug__" : Str)) = false := by decide) : PE X (.Name x pos) (tC v) :=
  fun _ _ _ H _ I h => ld_blt I hg hm hv ⟨v, H, I, r, h⟩ hn hd
variable {a b : Expr} {ta tb : TE} {pos : Pos}
noncomputable def tB (t : TE) : TT := fun σ H Q => t σ H fun x H1 => ∃ c, x = .bl c ∧ Q c H1
theorem pt_val {e : Expr} {t : TE} (h : PE X e t) (he : ∀ whole, isTrue e X.env whole = (do let v ← whole; standAt e.pos; holding [v] (truthy v)) := by intro _; rfl) : PT X e (tB t) := by
  intro pins s σ H Q I hw
  refine isTrue_plain (thn (h pins s σ H _ I hw) fun v s1 ⟨x, H1, I1, r1, q1⟩ => ?_) (he _)
  obtain ⟨d, rfl, q⟩ := q1
  cases r1
  exact wpAny_truthy_bool ⟨H1, I1, q⟩
variable {tA tB' : TT} {rest : List Expr}
noncomputable def tOr (t u : TT) : TT := fun σ H Q => t σ H fun c H1 => if c = true then Q true H1 else u σ H1 Q
noncomputable def tNot (t : TT) : TT := fun σ H Q => t σ H fun c H1 => Q (!c) H1
theorem pw_or1 (ha : PT X a tA) : PW X (.BoolOp .Or [a] pos) tA := by
  intro wh pins s σ H Q I h
  refine isTrue_or (thn (ha pins s σ H Q I h) fun c s1 e => ?_)
  cases c with
  | false => exact isTrue_or_nil e
  | true => exact e
theorem pw_or (ha : PT X a tA) (hb : PW X (.BoolOp .Or (b :: rest) pos) tB') : PW X (.BoolOp .Or (a :: b :: rest) pos) (tOr tA tB') := by
  intro wh pins s σ H Q I h
  refine isTrue_or (thn (ha pins s σ H _ I h) fun c s1 ⟨H1, I1, q1⟩ => ?_)
  cases c with
  | true => exact ⟨H1, I1, q1⟩
  | false => exact hb wh pins s1 σ H1 Q I1 q1
theorem pt_not (ha : PT X a tA) : PT X (.UnaryOp .Not a pos) (tNot tA) := by
  intro pins s σ H Q I h
  exact isTrue_not (ha pins s σ H (fun c H1 => Q (!c) H1) I h)
noncomputable def tAndV (ta tb : TE) : TE := fun σ H Q => ta σ H fun x H1 => ∃ c, x = .bl c ∧ if c = true then tb σ H1 Q else Q (.bl false) H1
noncomputable def tNotV (ta : TE) : TE := fun σ H Q => ta σ H fun x H1 => ∃ c, x = .bl c ∧ Q (.bl (!c)) H1
theorem pe_one {op} {t : TE} (h : PE X a t) : PE X (.BoolOp op [a] pos) t := fun pins s σ H Q I hw => BoolOp_one (h pins s σ H Q I hw)
theorem pe_and (ha : PE X a ta) (hb : PE X (.BoolOp .And (b :: rest) pos) tb) : PE X (.BoolOp .And (a :: b :: rest) pos) (tAndV ta tb) := by
  intro pins s σ H Q I h
  refine BoolOp_and (thn (ha pins s σ H _ I h) fun v s1 ⟨x, H1, I1, r1, q1⟩ => ?_)
  obtain ⟨c, rfl, q1⟩ := q1
  cases r1
  refine wpAny_truthy_bool ?_
  cases c with
  | true => exact hb pins s1 σ H1 Q I1 q1
  | false => exact ⟨.bl false, H1, I1, rfl, q1⟩
theorem pe_not (ha : PE X a ta) : PE X (.UnaryOp .Not a pos) (tNotV ta) := by
  intro pins s σ H Q I h
  refine UnaryOp_ (thn (ha pins s σ H _ I h) fun v s1 ⟨x, H1, I1, r1, q1⟩ => ?_)
  obtain ⟨c, rfl, q1⟩ := q1
  cases r1
  exact not_of (wpAny_truthy_bool ⟨.bl (!c), H1, I1, rfl, q1⟩)
end
end L2
namespace L2
open PySem PySem.Spec PyProof.Rows
noncomputable def SqL (K : PySem.W.Frag) (H : Hp) (a : Addr) (xs : List V) : Prop :=
  Rd H a (.lst xs) ∨
    ∃ (o : Obj) (its : Array Value) (n : Nat), K.lookup a = some o ∧ o.cls = .type "list" ∧ o.dict = none ∧ o.data = .seq its n ∧ its.size ≤ sizeLine ∧ Vals xs its.toList
noncomputable def SqT (K : PySem.W.Frag) (H : Hp) (a : Addr) (xs : List V) : Prop :=
  Rd H a (.tup xs) ∨
    ∃ (o : Obj) (its : Array Value) (n : Nat), K.lookup a = some o ∧ o.cls = .type "tuple" ∧ o.data = .seq its n ∧ its.size ≤ sizeLine ∧ Vals xs its.toList
noncomputable def absV : Value → Option V
  | .none => some .non
  | .bool b => some (.bl b)
  | .int i _ => some (.int i)
  | .str x _ => some (.str x)
  | .bytes b _ => some (.byt b)
  | .float b _ => some (.flt b)
  | .ref a => some (.ref a)
  | .type n => some (.ty n)
  | _ => none
theorem RelV.abs {x : V} {u : Value} (r : RelV x u) : absV u = some x := by
  cases x with
  | non => cases r; rfl
  | bl _ => cases r; rfl
  | int _ => obtain ⟨t, rfl⟩ := r; rfl
  | str _ => obtain ⟨t, rfl⟩ := r; rfl
  | byt _ => obtain ⟨t, rfl⟩ := r; rfl
  | flt _ => obtain ⟨t, rfl⟩ := r; rfl
  | ref _ => cases r; rfl
  | ty _ => cases r; rfl
theorem RelV.inj {x y : V} {u : Value} (r : RelV x u) (q : RelV y u) : x = y := Option.some.inj (r.abs.symm.trans q.abs)
theorem Vals.inj : ∀ {xs ys : List V} {us : List Value}, Vals xs us → Vals ys us → xs = ys
  | _, _, _, .nil, .nil => rfl
  | _, _, _, .cons r t, .cons r' t' => by rw [r.inj r', Vals.inj t t']
section
variable {X : Cx} {pins : List (Addr × Obj)} {σ : St} {H : Hp} {s : Shared} {a : Addr} {xs ys : List V}
theorem SqL.of {K : PySem.W.Frag} (h : H a = some (.lst xs)) : SqL K H a xs := .inl (.inl h)
theorem SqT.of {K : PySem.W.Frag} (h : H a = some (.tup xs)) : SqT K H a xs := .inl (.inl h)
theorem Inv.list (I : Inv X pins σ H s) (h : SqL X.K H a xs) : ∃ its : List Value, Vals xs its ∧ PlainL s.heap a its.toArray ∧ xs.length ≤ sizeLine := by
  rcases h with h | ⟨o, its, n, hk, hc, hd, hs, hz, r⟩
  · obtain ⟨z, its, n, r, e⟩ := h.ok I.hok
    exact ⟨its, r, ⟨_, n, e, rfl, rfl, rfl⟩, z⟩
  · refine ⟨its.toList, r, ⟨o, n, I.kIn a o hk, hc, hd, by simpa using hs⟩, ?_⟩
    have e := r.length
    simp only [Array.length_toList] at e
    omega
theorem Inv.tuple (I : Inv X pins σ H s) (h : SqT X.K H a xs) : ∃ its : List Value, Vals xs its ∧ IsTup s.heap a its.toArray ∧ xs.length ≤ sizeLine := by
  rcases h with h | ⟨o, its, n, hk, hc, hs, hz, r⟩
  · obtain ⟨z, its, r, p⟩ := h.ok I.hok
    exact ⟨its, r, p, z⟩
  · refine ⟨its.toList, r, ⟨o, I.kIn a o hk, hc, n, by simpa using hs⟩, ?_⟩
    have e := r.length
    simp only [Array.length_toList] at e
    omega
theorem Inv.list_inj (I : Inv X pins σ H s) (h : SqL X.K H a xs) (h' : SqL X.K H a ys) : xs = ys := by
  obtain ⟨its, r, ⟨o, n, e, _, _, d⟩, _⟩ := I.list h
  obtain ⟨its', r', ⟨o', n', e', _, _, d'⟩, _⟩ := I.list h'
  rw [e] at e'; cases e'
  rw [d] at d'
  injection d' with d1 _
  have : its = its' := by simpa using congrArg Array.toList d1
  subst this
  exact r.inj r'
end
noncomputable abbrev Cx.wish (X : Cx) (E : Value → Shared → Prop) : Cx := { X with xe := E }
noncomputable abbrev Cx.nox (X : Cx) : Cx := X.wish fun _ _ => False
theorem Cx.Ok.wish {X : Cx} (ok : X.Ok) (E : Value → Shared → Prop) : (X.wish E).Ok :=
  ⟨ok.mod, ok.kind, ok.glob, ok.blt, ok.above, ok.inj, ok.has, ok.cab, ok.hd, ok.frames, ok.stk, ok.exf, ok.bs, ok.bsz, ok.noex, ok.exfs, ok.funs, ok.frf⟩
theorem Cx.Ok.unwish {X : Cx} {E : Value → Shared → Prop} (ok : (X.wish E).Ok) : X.Ok :=
  ⟨ok.mod, ok.kind, ok.glob, ok.blt, ok.above, ok.inj, ok.has, ok.cab, ok.hd, ok.frames, ok.stk, ok.exf, ok.bs, ok.bsz, ok.noex, ok.exfs, ok.funs, ok.frf⟩
section
variable {X : Cx} {pins : List (Addr × Obj)} {σ : St} {H : Hp} {s : Shared} {E : Value → Shared → Prop}
theorem Inv.wish (I : Inv X pins σ H s) (E : Value → Shared → Prop) : Inv (X.wish E) pins σ H s := ⟨I.ok.wish E, I.os, I.bare, I.base, I.loc, I.cell, I.free, I.freeC, I.pin, I.hok, I.len⟩
theorem Inv.unwish (I : Inv (X.wish E) pins σ H s) : Inv X pins σ H s := ⟨I.ok.unwish, I.os, I.bare, I.base, I.loc, I.cell, I.free, I.freeC, I.pin, I.hok, I.len⟩
theorem SP.unwish {D : Ends} {f : Flow} {s' : Shared} (h : SP (X.wish E) pins D f s') : SP X pins D f s' := by
  cases f with
  | next => obtain ⟨σ', H', I, q⟩ := h; exact ⟨σ', H', I.unwish, q⟩
  | brk => obtain ⟨σ', H', I, q⟩ := h; exact ⟨σ', H', I.unwish, q⟩
  | cont => obtain ⟨σ', H', I, q⟩ := h; exact ⟨σ', H', I.unwish, q⟩
  | ret u => obtain ⟨v, σ', H', I, r, q⟩ := h; exact ⟨v, σ', H', I.unwish, r, q⟩
theorem PSs.nox {st : List Stmt} {t : TS} (h : PSs X.nox st t) : PSs X st t := fun pins s σ H D I hw =>
  wpAny_mono (h pins s σ H D (I.wish _) hw) (fun _ _ q => q.unwish) fun _ _ z => False.elim z
end
section
variable {X : Cx} {st : Stmt} {rest : List Stmt} {t u : TS} {e : Expr} {te : TE} {pos : Pos}
noncomputable def tNext : TS := fun D σ H => D.nx σ H
noncomputable def tSeq (t u : TS) : TS := fun D σ H => t { D with nx := u D } σ H
theorem pss_nil : PSs X [] tNext := fun _ _ σ H _ I h => wpAny_execs_nil ⟨σ, H, I, h⟩
theorem pss_cons (h1 : PS X st t) (h2 : PSs X rest u) : PSs X (st :: rest) (tSeq t u) := by
  intro pins s σ H D I h
  refine wpAny_execs_cons (thn (h1 pins s σ H { D with nx := u D } I h) fun f s1 q => ?_)
  cases f with
  | next =>
    obtain ⟨σ', H', I', q⟩ := q
    exact h2 pins s1 σ' H' D I' q
  | ret v => exact q
  | brk => exact q
  | cont => exact q
theorem pss_one (h1 : PS X st t) : PSs X [st] t := by
  intro pins s σ H D I h
  refine wpAny_execs_cons (thn (h1 pins s σ H D I h) fun f s1 q => ?_)
  cases f with
  | next => exact wpAny_execs_nil q
  | ret v => exact q
  | brk => exact q
  | cont => exact q
theorem Inv.quiet {pins : List (Addr × Obj)} {σ : St} {H : Hp} {s : Shared} (I : Inv X pins σ H s) : interactive X.env = false := by simp [interactive, I.ok.kind]
noncomputable def tDrop (te : TE) : TS := fun D σ H => te σ H fun _ H1 => D.nx σ H1
theorem ps_expr (he : PE X e te) (hs : swapsWith e none pos.line X.env = pure false := by rfl) : PS X (.Expr e pos) (tDrop te) := by
  intro pins s σ H D I h
  exact wpAny_Expr_any (thn (he pins s σ H _ I h) fun v s1 ⟨x, H1, I1, r1, q1⟩ => ⟨σ, H1, I1, q1⟩) I.quiet hs
noncomputable def tRet (te : TE) : TS := fun D σ H => te σ H D.rt
theorem ps_ret (he : PE X e te) : PS X (.Return (some e) pos) (tRet te) := by
  intro pins s σ H D I h
  exact wpAny_Return_some (thn (he pins s σ H _ I h) fun v s1 ⟨x, H1, I1, r1, q1⟩ => ⟨x, σ, H1, I1, r1, q1⟩)
noncomputable def tIfS (c : TT) (t u : TS) : TS := fun D σ H => c σ H fun b H1 => if b = true then t D σ H1 else u D σ H1
theorem ps_if {c : Expr} {a b : List Stmt} {tc : TT} (hc : PT X c tc) (ha : PSs X a t) (hb : PSs X b u) : PS X (.If c a b pos) (tIfS tc t u) := by
  intro pins s σ H D I h
  refine wpAny_If (thn (hc pins s σ H _ I h) fun d s1 ⟨H1, I1, q1⟩ => ?_)
  cases d with
  | true => exact ha pins s1 σ H1 D I1 q1
  | false => exact hb pins s1 σ H1 D I1 q1
end
noncomputable abbrev TG := V → St → Hp → (St → Hp → Prop) → Prop
noncomputable abbrev TGs := List V → St → Hp → (St → Hp → Prop) → Prop
noncomputable def PG (X : Cx) (target : Expr) (t : TG) : Prop :=
  ∀ (pins : List (Addr × Obj)) (s : Shared) (σ : St) (H : Hp) (v : V) (u : Value) (Q : St → Hp → Prop), Inv X pins σ H s → RelV v u → t v σ H Q →
    wpAny (model X.prog X.w) X.A (assign target X.env u) (fun _ s' => ∃ σ' H', Inv X pins σ' H' s' ∧ Q σ' H') X.xe s
noncomputable def PGs (X : Cx) (ts : List Expr) (t : TGs) : Prop :=
  ∀ (pins : List (Addr × Obj)) (s : Shared) (σ : St) (H : Hp) (vs : List V) (us : List Value) (Q : St → Hp → Prop), Inv X pins σ H s → Vals vs us → t vs σ H Q →
    wpAny (model X.prog X.w) X.A (assignInOrder ((assignEach ts X.env).map (·.2)) us) (fun _ s' => ∃ σ' H', Inv X pins σ' H' s' ∧ Q σ' H') X.xe s
noncomputable abbrev TSet := V → V → V → Hp → (Hp → Prop) → Prop
noncomputable def PSet (X : Cx) (t : TSet) : Prop :=
  ∀ (pins : List (Addr × Obj)) (s : Shared) (σ : St) (H : Hp) (o i v : V) (ov iv u : Value) (Q : Hp → Prop), Inv X pins σ H s → RelV o ov → RelV i iv → RelV v u → t o i v H Q →
    wpAny (model X.prog X.w) X.A (setItem ov iv u) (fun _ s' => ∃ H', Inv X pins σ H' s' ∧ Q H') X.xe s
section
variable {X : Cx} {pos : Pos}
noncomputable def gName (i : Nat) : TG := fun v σ H Q => Q (σ.set i (some v)) H
theorem pg_name {i : Nat} {x : Str} (hN : X.N.Nodup) (hi : X.N[i]? = some x) (hx : Loc X.env.scope x) (hf : X.fn x = true ∨ X.env.scope.names.lookup x = some .local := by first | exact .inl rfl | exact .inr rfl | assumption) : PG X (.Name x pos) (gName i) := by
  intro pins s σ H v u Q I r h
  exact wpAny_assign_Name (store_ok I hN hi hx r (fun s' I' => ⟨_, H, I', h⟩) hf)
noncomputable def gNil : TGs := fun vs σ H Q => vs = [] ∧ Q σ H
noncomputable def gCons (t : TG) (u : TGs) : TGs := fun vs σ H Q => ∃ v r, vs = v :: r ∧ t v σ H fun σ' H' => u r σ' H' Q
theorem pgs_nil : PGs X [] gNil := by
  intro pins s σ H vs us Q I r h
  obtain ⟨e, h⟩ := h
  subst e
  cases r
  exact assignInOrder_nil ⟨σ, H, I, h⟩
theorem pgs_cons {e : Expr} {es : List Expr} {t : TG} {u : TGs} (h1 : PG X e t) (h2 : PGs X es u)
    (hs : (assignEach (e :: es) X.env).map (·.2) = assign e X.env :: (assignEach es X.env).map (·.2) := by rfl) : PGs X (e :: es) (gCons t u) := by
  intro pins s σ H vs us Q I r h
  obtain ⟨v, vr, e1, h⟩ := h
  subst e1
  cases r with
  | cons r rr =>
    rw [hs]
    refine assignInOrder_cons (thn (h1 pins s σ H _ _ _ I r h) fun _ s1 ⟨σ1, H1, I1, q1⟩ => ?_)
    exact h2 pins s1 σ1 H1 _ _ Q I1 rr q1
noncomputable def gTup (K : PySem.W.Frag) (n : Nat) (t : TGs) : TG := fun v σ H Q => ∃ a xs, v = .ref a ∧ SqT K H a xs ∧ xs.length = n ∧ t xs σ H Q
theorem pg_tup {es : List Expr} {k : Nat} {t : TGs} {n : Nat} (hc : X.calm = true) (h : PGs X es t)
    (hn : (assignEach es X.env).length = n := by rfl) (hst : (assignEach es X.env).findIdx? (·.1) = none := by rfl) : PG X (.Tuple es k pos) (gTup X.K n t) := by
  intro pins s σ H v u Q I r hw
  obtain ⟨a, xs, e1, hq, hl, hw⟩ := hw
  subst e1
  cases r
  obtain ⟨its, rv, ht, hz⟩ := I.tuple hq
  refine assign_Tuple_tuple (I.ok.hd hc) ht (by simp [hn, ← hl, rv.length]) hst fun h' hx => ?_
  have I1 : Inv X pins σ H { s with heap := h' } := I.kept (t' := s.toks) fun b o e => hx b o (Nat.ne_of_lt (Heap.lt_size e)) e
  exact h pins _ σ H xs _ Q I1 (by simpa using rv) hw
noncomputable def gSub (to ti : TE) (t : TSet) : TG := fun v σ H Q => to σ H fun o H1 => ti σ H1 fun i H2 => t o i v H2 fun H3 => Q σ H3
theorem pg_sub {o i : Expr} {to ti : TE} {t : TSet} (ho : PE X o to) (hi : PE X i ti) (hs : PSet X t)
    (ha : ∀ v, assign (.Subscript o i pos) X.env v = (do
      let ov ← holding [v] (eval o X.env)
      let iv ← holding [v, ov] (eval i X.env)
      standAt pos
      holding [v, ov, iv] (setItem ov iv v)
      release [v, ov, iv] []) := by intro _; rfl) : PG X (.Subscript o i pos) (gSub to ti t) := by
  intro pins s σ H v u Q I r h
  rw [ha]
  refine wpAny_bind (wpAny_holding (thn (ho pins s σ H _ I h) fun ov s1 ⟨x, H1, I1, r1, q1⟩ => ?_))
  refine wpAny_bind (wpAny_holding (thn (hi pins s1 σ H1 _ I1 q1) fun iv s2 ⟨y, H2, I2, r2, q2⟩ => ?_))
  refine wpAny_bind (wpAny_standAt (wpAny_bind (wpAny_holding (thn (hs pins s2 σ H2 x y v ov iv u _ I2 r1 r2 r q2) fun _ s3 ⟨H3, I3, q3⟩ => ?_))))
  exact wpAny_release ⟨σ, H3, I3, q3⟩
noncomputable def tAsg (te : TE) (g : TG) : TS := fun D σ H => te σ H fun x H1 => g x σ H1 D.nx
theorem ps_asg {tg e : Expr} {te : TE} {g : TG} (he : PE X e te) (hg : PG X tg g) (hs : swapsWithSole [tg] e pos.line X.env = pure false := by rfl) (hw : swappedStores [tg] e X.env = pure none := by rfl)
    (h1 : (assignEach [tg] X.env).map (·.2) = [assign tg X.env] := by rfl) : PS X (.Assign [tg] e pos) (tAsg te g) := by
  intro pins s σ H D I h
  refine wpAny_Assign_stores (thn (he pins s σ H _ I h) fun v s1 ⟨x, H1, I1, r1, q1⟩ => ?_) hs hw
  rw [h1]
  exact thn (hg pins s1 σ H1 x v _ I1 r1 q1) fun _ s2 q => q
theorem ps_set {i : Nat} {x : Str} {e : Expr} {te : TE} {pos' : Pos} (hN : X.N.Nodup) (hi : X.N[i]? = some x) (hx : Loc X.env.scope x) (he : PE X e te) (hs : swapsWith e (some (.Name x pos')) pos.line X.env = pure false := by rfl) (hf : X.fn x = true ∨ X.env.scope.names.lookup x = some .local := by first | exact .inl rfl | exact .inr rfl | assumption) :
    PS X (.Assign [.Name x pos'] e pos) (tAsg te (gName i)) := by
  intro pins s σ H D I h
  refine wpAny_Assign_Name (thn (he pins s σ H _ I h) fun v s1 ⟨y, H1, I1, r1, q1⟩ => ?_) hs
  exact store_ok I1 hN hi hx r1 (fun s2 I2 => ⟨_, H1, I2, q1⟩) hf
noncomputable def tPar (i j : Nat) (ta : TA) : TS := fun D σ H => ta σ H fun vs H1 => ∃ v w, vs = [v, w] ∧ D.nx ((σ.set i (some v)).set j (some w)) H1
theorem ps_par {i j : Nat} {x y : Str} {a b : Expr} {ta : TA} {px py pt : Pos} {kt k2 pt2} (hc : X.calm = true) (hN : X.N.Nodup) (hi : X.N[i]? = some x) (hj : X.N[j]? = some y) (hij : i ≠ j)
    (hx : X.env.scope.names.lookup x = some .local) (hy : X.env.scope.names.lookup y = some .local) (ha : PA X [a, b] ta)
    (hw : swappedStores [.Tuple [.Name x px, .Name y py] kt pt] (.Tuple [a, b] k2 pt2) X.env = pure (some [x, y]))
    (hs : swapsWithSole [.Tuple [.Name x px, .Name y py] kt pt] (.Tuple [a, b] k2 pt2) pos.line X.env = pure false := by rfl) :
    PS X (.Assign [.Tuple [.Name x px, .Name y py] kt pt] (.Tuple [a, b] k2 pt2) pos) (tPar i j ta) := by
  intro pins s σ H D I h
  rw [exec_Assign_arm]
  refine wpAny_bind (wpAny_standAt ?_)
  rw [hs]
  refine wpAny_bind (wpAny_pure ?_)
  rw [if_neg (by decide)]
  refine wpAny_bind (Tuple_ (thn (ha _ pins s σ H _ I h) fun us s1 ⟨vs, H1, I1, r1, q1⟩ => ?_))
  obtain ⟨v, w, e1, q1⟩ := q1
  subst e1
  obtain ⟨u1, u2, rfl, rv, rw'⟩ : ∃ u1 u2, us = [u1, u2] ∧ RelV v u1 ∧ RelV w u2 := by
    cases r1 with
    | cons p q =>
      cases q with
      | cons p' q' =>
        cases q'
        exact ⟨_, _, rfl, p, p'⟩
  refine wpAny_newObj_type ?_ (by show 2 ≤ sizeLine; decide)
  have I2 : Inv X pins σ H1 { s1 with heap := s1.heap.push { cls := .type "tuple", data := .seq [u1, u2].toArray } } := I1.kept (t' := s1.toks) fun b o e => Heap.get?_push_of_some _ e
  rw [hw]
  refine wpAny_bind (wpAny_pure ?_)
  show wpAny (model X.prog X.w) X.A (do rule "assign.swapped-stores"; let items ← unpackItems (.ref s1.heap.objs.size) 2 none; assignInOrder [fun v => bindName X.env y v, fun v => bindName X.env x v] items.reverse; pure Flow.next) _ _ _
  refine wpAny_bind (wpAny_rule (wpAny_bind (unpackItems_tuple (items := #[u1, u2]) (I.ok.hd hc) (IsTup.new s1.heap _) fun h' hx' => ?_)))
  have I3 := I2.kept (h' := h') (t' := s1.toks) fun b o e => hx' b o (Nat.ne_of_lt (Heap.lt_size e)) e
  show wpAny _ _ (assignInOrder [fun v => bindName X.env y v, fun v => bindName X.env x v] [u2, u1] >>= fun _ => pure Flow.next) _ _ _
  refine wpAny_bind (assignInOrder_cons (wpAny_bindName (store_ok I3 hN hj (.inl hy) rw' (fun s2 I4 => ?_) (.inr hy))))
  refine assignInOrder_cons (wpAny_bindName (store_ok I4 hN hi (.inl hx) rv (fun s3 I5 => assignInOrder_nil (wpAny_pure ?_)) (.inr hx)))
  rw [List.set_comm _ _ (Ne.symm hij)] at I5
  exact ⟨_, H1, I5, q1⟩
end
section
variable {X : Cx} {pos : Pos}
noncomputable def tWhile (c : TT) (tb : TS) : TS := fun D σ H => ∃ W : Nat → St → Hp → Prop, (∃ m, W m σ H) ∧ ∀ m σ H, W m σ H →
  c σ H fun b H1 => if b = true then ∃ N : St → Hp → Prop, (∀ σ' H', N σ' H' → ∃ m', m' < m ∧ W m' σ' H') ∧ tb { D with nx := N, ct := N, bk := D.nx } σ H1 else D.nx σ H1
theorem ps_while {c : Expr} {body : List Stmt} {tc : TT} {tb : TS} (hp : PassesOwn (model X.prog X.w) X.A X.env X.xe) (hc : PT X c tc) (hb : PSs X body tb) : PS X (.While c body [] pos) (tWhile tc tb) := by
  intro pins s σ H D I h
  obtain ⟨W, ⟨m0, w0⟩, turn⟩ := h
  refine wpAny_While (codeAny_whileLoop (fun n s' => ∃ σ' H', Inv X pins σ' H' s' ∧ W n σ' H') ?_ m0 ⟨σ, H, I, w0⟩)
  rintro n s1 ⟨σ1, H1, I1, w1⟩
  refine wpAny_passesOwn hp (thn (hc pins s1 σ1 H1 _ I1 (turn n σ1 H1 w1)) fun b s2 ⟨H2, I2, q2⟩ => ?_)
  cases b with
  | true =>
    obtain ⟨N, hN, q2⟩ := q2
    rw [if_pos rfl]
    refine wpAny_passesOwn hp (thn (hb pins s2 σ1 H2 _ I2 q2) fun f s3 q3 => ?_)
    cases f with
    | next =>
      obtain ⟨σ3, H3, I3, n3⟩ := q3
      obtain ⟨m', hm, w3⟩ := hN σ3 H3 n3
      exact ⟨m', hm, σ3, H3, I3, w3⟩
    | cont =>
      obtain ⟨σ3, H3, I3, n3⟩ := q3
      obtain ⟨m', hm, w3⟩ := hN σ3 H3 n3
      exact ⟨m', hm, σ3, H3, I3, w3⟩
    | brk => exact q3
    | ret v => exact q3
  | false =>
    rw [if_neg Bool.false_ne_true]
    exact wpAny_execs_nil ⟨σ1, H2, I2, q2⟩
end
structure It where
  go : Nat → Hp → Prop
  yld : Nat → Hp → V → Hp → Prop
  stop : Nat → Hp → Prop
noncomputable def FpOk (X : Cx) (pins : List (Addr × Obj)) (H : Hp) (b : Addr) : Prop :=
  H b = none ∧ b ≠ X.env.locals ∧ b ∉ X.fs ∧ (b ∈ X.ex ∨ X.s₀.heap.objs.size ≤ b) ∧ (∀ x c, X.env.cells.lookup x = some c → c ≠ b) ∧ ∀ p ∈ X.pn ++ pins, p.1 ≠ b
theorem Inv.fpOk {X : Cx} {pins : List (Addr × Obj)} {σ : St} {H H' : Hp} {s : Shared} {b : Addr} (I : Inv X pins σ H s) (hb : s.heap.objs.size ≤ b) (hn : H' b = none) : FpOk X pins H' b := by
  refine ⟨hn, Nat.ne_of_gt (Nat.lt_of_lt_of_le I.lt hb), I.nofs hb, .inr (Nat.le_trans I.sz hb), fun x c e z => ?_, fun p hp z => ?_⟩
  · obtain ⟨v, q⟩ := I.cell x c e
    exact absurd (Nat.lt_of_lt_of_le q.lt (by rw [z]; exact hb)) (Nat.lt_irrefl _)
  · exact absurd (Nat.lt_of_lt_of_le (Heap.lt_size (I.pin p hp).1) (by rw [z]; exact hb)) (Nat.lt_irrefl _)
structure Turn (P : Program) (w : World) (K : PySem.W.Frag) (tg : Expr) (J : It) (fp : List Addr) (it : Addr) (tn : Nat → Heap → Prop) : Prop where
  mem : it ∈ fp
  obj : ∀ i h, tn i h → ∀ b ∈ fp, ∃ o, h.get? b = some o ∧ ∀ v, o.data ≠ .cell v
  keep : ∀ i h h', tn i h → (∀ b ∈ fp, ∀ o, h.get? b = some o → h'.get? b = some o) → tn i h'
  item : ∀ (X : Cx), X.prog = P → X.w = w → X.K = K → X.calm = true → ∀ (i : Nat) (pins : List (Addr × Obj)) (s : Shared) (σ : St) (H : Hp) (E : Value → Shared → Prop), Inv X pins σ H s → (∀ b ∈ fp, FpOk X pins H b) → tn i s.heap → J.go i H →
    wpAny (model P w) X.A (pyNext (.ref it)) (fun r s1 => ∃ u, r = some u ∧
      wpAny (model P w) X.A (letOwnedTupleGo tg (.ref it) u) (fun _ s2 => ∃ x H', Inv X pins σ H' s2 ∧ RelV x u ∧ J.yld i H x H' ∧ tn (i + 1) s2.heap ∧ ∀ b ∈ fp, H' b = none) E s1) E s
  done : ∀ (X : Cx), X.prog = P → X.w = w → X.K = K → X.calm = true → ∀ (i : Nat) (pins : List (Addr × Obj)) (s : Shared) (σ : St) (H : Hp) (E : Value → Shared → Prop), Inv X pins σ H s → (∀ b ∈ fp, FpOk X pins H b) → tn i s.heap → J.stop i H →
    wpAny (model P w) X.A (pyNext (.ref it)) (fun r s1 => r = none ∧ Inv X pins σ H s1) E s
  self : ∀ (A : Around) (i : Nat) (s : Shared) (Q : Value → Shared → Prop) (E : Value → Shared → Prop), tn i s.heap → Q (.ref it) s → wpAny (model P w) A (pyIter (.ref it)) Q E s
noncomputable abbrev TI := St → Hp → (It → Hp → Prop) → Prop
noncomputable def PIE (X : Cx) (pins : List (Addr × Obj)) (σ : St) (tg : Expr) (R : It → Hp → Prop) (itv : Value) (s2 : Shared) : Prop :=
  ∃ (it : Addr) (fp : List Addr) (tn : Nat → Heap → Prop) (J : It) (H' : Hp), itv = .ref it ∧ Inv X pins σ H' s2 ∧ Turn X.prog X.w X.K tg J fp it tn ∧ tn 0 s2.heap ∧ (∀ b ∈ fp, FpOk X pins H' b) ∧ R J H'
noncomputable def PI (X : Cx) (tg iter : Expr) (wi : TI) : Prop :=
  ∀ (pins : List (Addr × Obj)) (s : Shared) (σ : St) (H : Hp) (R : It → Hp → Prop), Inv X pins σ H s → wi σ H R →
    wpAny (model X.prog X.w) X.A (eval iter X.env) (fun v s1 => wpAny (model X.prog X.w) X.A (pyIter v) (PIE X pins σ tg R) X.xe s1) X.xe s
theorem go_of {M : Model} {A : Around} {E : Value → Shared → Prop} {s : Shared} {tg : Expr} {it : Addr} {u : Value} {o : Obj} {n : String} {vs : Array Value} {Q : Unit → Shared → Prop} (ho : s.heap.get? it = some o) (hc : o.cls = .type n) (hd : o.data = .fields vs)
    (hn : ["enumerate", "zip", "dict_itemiterator", "dict_reverseitemiterator", "odict_iterator", "itertools.zip_longest", "itertools.pairwise"].contains n = false) (hQ : Q () s) : wpAny M A (letOwnedTupleGo tg (.ref it) u) Q E s := by
  unfold letOwnedTupleGo
  cases tg <;> first
    | exact wpAny_pure hQ
    | (cases u <;> first
        | exact wpAny_pure hQ
        | (refine wpAny_bind (wpAny_load ho ?_)
           rw [hc, hd]
           show wpAny M A (if (["enumerate", "zip", "dict_itemiterator", "dict_reverseitemiterator", "odict_iterator", "itertools.zip_longest", "itertools.pairwise"].contains n && vs[0]? == some (rawInt _)) = true then _ else _) Q E s
           rw [if_neg (by intro h; rw [hn, Bool.false_and] at h; cases h)]
           exact wpAny_pure hQ))
noncomputable def Itl (K : PySem.W.Frag) (a : Addr) : It :=
  ⟨fun i H => ∃ xs x, SqL K H a xs ∧ xs[i]? = some x, fun i H x H' => H' = H ∧ ∀ xs, SqL K H a xs → xs[i]? = some x, fun i H => ∃ xs, SqL K H a xs ∧ xs.length ≤ i⟩
noncomputable def Itr (lo : Int) (n : Nat) : It := ⟨fun i _ => i < n, fun i H x H' => H' = H ∧ x = .int (lo + i), fun i _ => n ≤ i⟩
theorem turn_list {P : Program} {w : World} {K : PySem.W.Frag} {tg : Expr} (a it : Addr) : Turn P w K tg (Itl K a) [it] it (fun i h => h.IsListIter it a i) where
  mem := by simp
  obj := fun i h st b hb => by
    have e : b = it := by simpa using hb
    subst e
    obtain ⟨o, e, c, d⟩ := st
    exact ⟨o, e, fun v z => by rw [d] at z; cases z⟩
  keep := fun i h h' st k => st.at fun o e => k it (by simp) o e
  item := by
    intro X hP hw hK hc i pins s σ H E I hf st hg
    subst hP hw hK
    obtain ⟨xs, x, hq, hx⟩ := hg
    obtain ⟨its, rv, p, hz⟩ := I.list hq
    obtain ⟨u, hu, ru⟩ := rv.get hx
    obtain ⟨f0, f1, f2, f3, f4, f5⟩ := hf it (by simp)
    refine wpAny_pyNext_list_item st p.isList (x := u) (by simpa using hu) fun h' st' sb => ?_
    have I1 : Inv X pins σ H { s with heap := h' } := I.turned (t' := s.toks) (fun b o hb e => (sb.2 b hb).trans e) f0 f1 f3 f4 f5
    obtain ⟨o, e, c, d⟩ := id st'
    exact ⟨u, rfl, go_of (s := { s with heap := h' }) e c d (by decide) ⟨x, H, I1, ru, ⟨rfl, fun ys hy => by rw [I.list_inj hy hq]; exact hx⟩, st', fun b hb => (hf b hb).1⟩⟩
  done := by
    intro X hP hw hK hc i pins s σ H E I hf st hg
    subst hP hw hK
    obtain ⟨xs, hq, hx⟩ := hg
    obtain ⟨its, rv, p, hz⟩ := I.list hq
    obtain ⟨f0, f1, f2, f3, f4, f5⟩ := hf it (by simp)
    have hl := rv.length
    exact wpAny_pyNext_list_end (I.ok.hd hc) st p.isList (by simp; omega) fun h' eb => ⟨rfl, I.turned (t' := s.toks) (fun b o hb e => eb b o hb e) f0 f1 f3 f4 f5⟩
  self := fun _ _ _ _ _ st h => wpAny_pyIter_listiter st h
theorem turn_range {P : Program} {w : World} {K : PySem.W.Frag} {tg : Expr} (it : Addr) (lo : Int) (n : Nat) : Turn P w K tg (Itr lo n) [it] it (fun i h => IsRangeIter h it (lo + (i : Nat) * 1) ((n : Int) - (i : Nat)) 1) where
  mem := by simp
  obj := fun i h st b hb => by
    have e : b = it := by simpa using hb
    subst e
    exact ⟨_, st, fun v z => by
      have z' : Data.fields _ = Data.cell v := z
      cases z'⟩
  keep := fun i h h' st k => k it (by simp) _ st
  item := by
    intro X hP hw hK hc i pins s σ H E I hf st hg
    subst hP hw hK
    obtain ⟨f0, f1, f2, f3, f4, f5⟩ := hf it (by simp)
    have W := Walks.range (prog := X.prog) (w := X.w) (I.ok.hd hc) it lo 1 n
    refine W.item i s _ _ hg st fun v h' tk hv st' kk => ?_
    obtain ⟨t, rfl⟩ := hv
    have I1 : Inv X pins σ H { s with heap := h', toks := tk } := I.turned (fun b o hb e => kk b o (by simpa using hb) e) f0 f1 f3 f4 f5
    refine ⟨_, rfl, go_of (s := { s with heap := h', toks := tk }) (n := "range_iterator") st' rfl rfl (by decide) ⟨.int (lo + i), H, I1, ⟨t, ?_⟩, ⟨rfl, rfl⟩, st', fun b hb => (hf b hb).1⟩⟩
    rw [Int.mul_one]
  done := by
    intro X hP hw hK hc i pins s σ H E I hf st hg
    subst hP hw hK
    obtain ⟨f0, f1, f2, f3, f4, f5⟩ := hf it (by simp)
    exact wpAny_pyNext_range_end (I.ok.hd hc) st (by have : n ≤ i := hg; omega) fun h' eb => ⟨rfl, I.turned (t' := s.toks) (fun b o hb e => eb b o hb e) f0 f1 f3 f4 f5⟩
  self := fun _ _ _ _ _ st h => wpAny_pyIter_rangeiter st h
end L2
namespace L2
open PySem PySem.Spec PyProof.Rows
section
variable {X : Cx} {tg : Expr}
noncomputable def iList (K : PySem.W.Frag) (tl : TE) : TI := fun σ H R => tl σ H fun x H1 => ∃ a, x = .ref a ∧ (∃ xs, SqL K H1 a xs) ∧ R (Itl K a) H1
theorem pi_list {l : Expr} {tl : TE} (hl : PE X l tl) : PI X tg l (iList X.K tl) := by
  intro pins s σ H R I h
  refine thn (hl pins s σ H _ I h) fun v s1 ⟨x, H1, I1, r1, q1⟩ => ?_
  obtain ⟨a, e, ⟨xs, hq⟩, q⟩ := q1
  subst e
  cases r1
  obtain ⟨its, rv, p, hz⟩ := I1.list hq
  refine wpAny_pyIter_list p.isList ?_
  refine ⟨s1.heap.objs.size, [s1.heap.objs.size], _, _, H1, rfl, I1.kept (t' := s1.toks) fun b o e => Heap.get?_push_of_some _ e, turn_list a _, ⟨_, Heap.get?_push_size _ rfl, rfl, rfl⟩, fun b hb => ?_, q⟩
  have e : b = s1.heap.objs.size := by simpa using hb
  subst e
  exact I1.fpOk (Nat.le_refl _) (I1.hok.fresh (Nat.le_refl _))
theorem range_it {pins : List (Addr × Obj)} {σ : St} {H : Hp} {s : Shared} {R : It → Hp → Prop} {E : Value → Shared → Prop} {lo hi : Int} {t u v : Tok} {tk : Nat} (I : Inv X pins σ H s) (h1 : -(2 ^ 62) ≤ lo) (h2 : lo < 2 ^ 62) (h3 : -(2 ^ 62) ≤ hi) (h4 : hi < 2 ^ 62)
    (q : R (Itr lo (hi - lo).toNat) H) : wpAny (model X.prog X.w) X.A (pyIter (.ref s.heap.objs.size)) (PIE X pins σ tg R) E { s with heap := s.heap.push { cls := .type "range", data := .fields #[.int lo t, .int hi u, .int 1 v] }, toks := tk } := by
  refine wpAny_pyIter_range (IsRange.new ..) (small_one h1 h2 h3 h4) ?_
  have I1 : Inv X pins σ H { s with heap := s.heap.push { cls := .type "range", data := .fields #[.int lo t, .int hi u, .int 1 v] }, toks := tk } := I.kept fun b o e => Heap.get?_push_of_some _ e
  refine ⟨(s.heap.push { cls := .type "range", data := .fields #[.int lo t, .int hi u, .int 1 v] }).objs.size, [(s.heap.push { cls := .type "range", data := .fields #[.int lo t, .int hi u, .int 1 v] }).objs.size], _, _, H, rfl,
    I1.kept (t' := tk) fun b o e => Heap.get?_push_of_some _ e, turn_range _ lo (hi - lo).toNat, ?_, fun b hb => ?_, q⟩
  · have e1 : lo + ((0 : Nat) : Int) * 1 = lo := by simp
    have e2 : (((hi - lo).toNat : Nat) : Int) - ((0 : Nat) : Int) = Builtin.Range.rangeSize lo hi 1 := by rw [rangeSize_one]; split <;> omega
    show IsRangeIter _ _ (lo + ((0 : Nat) : Int) * 1) ((((hi - lo).toNat : Nat) : Int) - ((0 : Nat) : Int)) 1
    rw [e1, e2]
    exact Heap.get?_push_size _ rfl
  · have e : b = (s.heap.push { cls := .type "range", data := .fields #[.int lo t, .int hi u, .int 1 v] }).objs.size := by simpa using hb
    subst e
    exact I1.fpOk (Nat.le_refl _) (I1.hok.fresh (Nat.le_refl _))
noncomputable def iRng1 (ta : TA) : TI := fun σ H R => ta σ H fun vs H1 => ∃ j : Int, vs = [.int j] ∧ -(2 ^ 62) ≤ j ∧ j < 2 ^ 62 ∧ R (Itr 0 j.toNat) H1
noncomputable def iRng2 (ta : TA) : TI := fun σ H R => ta σ H fun vs H1 => ∃ i j : Int, vs = [.int i, .int j] ∧ (-(2 ^ 62) ≤ i ∧ i < 2 ^ 62 ∧ -(2 ^ 62) ≤ j ∧ j < 2 ^ 62) ∧ R (Itr i (j - i).toNat) H1
theorem pi_range1 {a : Expr} {ta : TA} {p pos : Pos} (hg : Gl X "range") (hm : X.mg "range" = none) (ha : PA X [a] ta) (hs : starEach [a] X.env = [(false, eval a X.env)] := by rfl) : PI X tg (.Call (.Name "range" p) [a] [] pos) (iRng1 ta) := by
  intro pins s σ H R I h
  refine Call_ (ld_blt I hg hm boot_range (PyProof.Rows.callWith_type1 (thn (ha pos pins s σ H _ I h) fun us s1 ⟨vs, H1, I1, r1, q1⟩ => ?_) hs rfl))
  obtain ⟨j, e, q1, q2, q⟩ := q1
  subst e
  cases r1 with
  | cons r rr =>
    cases rr
    obtain ⟨t, rfl⟩ := r
    exact call_range_1 (range_it I1 (by omega) (by omega) q1 q2 (by simpa using q))
theorem pi_range2 {a b : Expr} {ta : TA} {p pos : Pos} (hg : Gl X "range") (hm : X.mg "range" = none) (ha : PA X [a, b] ta) (hs : starEach [a, b] X.env = [(false, eval a X.env), (false, eval b X.env)] := by rfl) (hs2 : starEach [b] X.env = [(false, eval b X.env)] := by rfl) :
    PI X tg (.Call (.Name "range" p) [a, b] [] pos) (iRng2 ta) := by
  intro pins s σ H R I h
  refine Call_ (ld_blt I hg hm boot_range (PyProof.Rows.callWith_type1 (thn (ha pos pins s σ H _ I h) fun us s1 ⟨vs, H1, I1, r1, q1⟩ => ?_) (by rw [hs, hs2]) (by rw [hs2]; rfl)))
  obtain ⟨i, j, e, ⟨q1, q2, q3, q4⟩, q⟩ := q1
  subst e
  cases r1 with
  | cons r rr =>
    cases rr with
    | cons r' rr =>
      cases rr
      obtain ⟨t, rfl⟩ := r
      obtain ⟨t', rfl⟩ := r'
      exact call_range_2 (range_it I1 q1 q2 q3 q4 q)
noncomputable def tFor (wi : TI) (g : TG) (tb : TS) : TS := fun D σ H => wi σ H fun J H1 => ∃ W : Nat → Nat → St → Hp → Prop, (∃ m, W 0 m σ H1) ∧ ∀ i m σ H, W i m σ H →
  (J.stop i H ∧ D.nx σ H) ∨ (J.go i H ∧ ∃ N : St → Hp → Prop, (∀ σ' H', N σ' H' → ∃ m', m' < m ∧ W (i + 1) m' σ' H') ∧ ∀ x H', J.yld i H x H' → g x σ H' fun σ2 H2 => tb { D with nx := N, ct := N, bk := D.nx } σ2 H2)
noncomputable def pinsAt (fp : List Addr) (h : Heap) : List (Addr × Obj) := fp.filterMap fun b => (h.get? b).map fun o => (b, o)
theorem mem_pinsAt {fp : List Addr} {h : Heap} {b : Addr} {o : Obj} (hb : b ∈ fp) (e : h.get? b = some o) : (b, o) ∈ pinsAt fp h := List.mem_filterMap.mpr ⟨b, hb, by rw [e]; rfl⟩
theorem of_pinsAt {fp : List Addr} {h : Heap} {p : Addr × Obj} (hp : p ∈ pinsAt fp h) : p.1 ∈ fp ∧ h.get? p.1 = some p.2 := by
  obtain ⟨b, hb, e⟩ := List.mem_filterMap.mp hp
  cases q : h.get? b with
  | none => rw [q] at e; cases e
  | some o =>
    rw [q] at e
    have e' : (b, o) = p := Option.some.inj e
    subst e'
    exact ⟨hb, q⟩
theorem Inv.pinned {pins : List (Addr × Obj)} {σ : St} {H : Hp} {s : Shared} {fp : List Addr} (I : Inv X pins σ H s) (hf : ∀ b ∈ fp, FpOk X pins H b) (ho : ∀ b ∈ fp, ∃ o, s.heap.get? b = some o ∧ ∀ v, o.data ≠ .cell v) : Inv X (pins ++ pinsAt fp s.heap) σ H s :=
  I.pins_of fun p hp => (List.mem_append.mp hp).elim (fun z => I.pin p (List.mem_append_right _ z)) fun z => by
    obtain ⟨hb, e⟩ := of_pinsAt z
    obtain ⟨f0, f1, f2, _⟩ := hf p.1 hb
    obtain ⟨o, e', d⟩ := ho p.1 hb
    rw [e] at e'; cases e'
    exact ⟨e, f0, f1, f2, d⟩
theorem Inv.unpinned {pins pl : List (Addr × Obj)} {σ : St} {H : Hp} {s : Shared} (I : Inv X (pins ++ pl) σ H s) : Inv X pins σ H s := I.pins_of fun p hp => I.pin p (List.mem_append_right _ (List.mem_append_left _ hp))
theorem ps_for {iter : Expr} {body : List Stmt} {wi : TI} {g : TG} {tb : TS} {pos : Pos} (hp : PassesOwn (model X.prog X.w) X.A X.env X.xe) (hc : X.calm = true) (hi : PI X tg iter wi) (hg : PG X tg g) (hb : PSs X body tb)
    (hs : ∀ x, foldedSetIterable iter X.env x = pure x := by intro _; rfl) : PS X (.For tg iter body [] pos) (tFor wi g tb) := by
  intro pins s σ H D I h
  refine wpAny_For (thn (hi pins s σ H _ I h) fun v s1 h1 => thn h1 fun itv s2 h2 => ?_) hs
  obtain ⟨it, fp, tn, J, H2, e, I2, T, st2, f2, W, ⟨m0, w0⟩, turn⟩ := h2
  subst e
  -- what stays true of the iterator's objects through the loop
  have stat : ∀ {H' : Hp}, (∀ b ∈ fp, H' b = none) → ∀ b ∈ fp, FpOk X pins H' b := fun hn b hb => ⟨hn b hb, (f2 b hb).2⟩
  refine codeAny_forLoop_any (fun n s' => ∃ i σ' H', Inv X pins σ' H' s' ∧ tn i s'.heap ∧ (∀ b ∈ fp, H' b = none) ∧ W i n σ' H') ?_ m0 ⟨0, σ, H2, I2, st2, fun b hb => (f2 b hb).1, w0⟩
  rintro n s3 ⟨i, σ3, H3, I3, st3, fr3, w3⟩
  rcases turn i n σ3 H3 w3 with ⟨stop, qn⟩ | ⟨go, N, hN, step⟩
  · refine wpAny_passesOwn hp (thn (T.done X rfl rfl rfl hc i pins s3 σ3 H3 X.xe I3 (stat fr3) st3 stop) fun r s4 ⟨hr, I4⟩ => ?_)
    subst hr
    exact wpAny_execs_nil ⟨σ3, H3, I4, qn⟩
  · refine wpAny_passesOwn hp (thn (T.item X rfl rfl rfl hc i pins s3 σ3 H3 X.xe I3 (stat fr3) st3 go) fun r s4 ⟨u, hr, h4⟩ => ?_)
    subst hr
    refine wpAny_passesOwn hp (thn h4 fun _ s5 ⟨x, H5, I5, r5, y5, st5, fr5⟩ => ?_)
    have I5' := I5.pinned (stat fr5) (T.obj _ _ st5)
    refine wpAny_passesOwn hp (thn (hg _ s5 σ3 H5 x u _ I5' r5 (step x H5 y5)) fun _ s6 ⟨σ6, H6, I6, q6⟩ => ?_)
    refine wpAny_passesOwn hp (thn (hb _ s6 σ6 H6 _ I6 q6) fun f s7 q7 => ?_)
    have again : ∀ {σ7 : St} {H7 : Hp}, Inv X (pins ++ pinsAt fp s5.heap) σ7 H7 s7 → N σ7 H7 → ∃ m, m < n ∧ ∃ i σ' H', Inv X pins σ' H' s7 ∧ tn i s7.heap ∧ (∀ b ∈ fp, H' b = none) ∧ W i m σ' H' := fun {σ7 H7} I7 n7 => by
      obtain ⟨m', hm, w7⟩ := hN σ7 H7 n7
      refine ⟨m', hm, i + 1, σ7, H7, I7.unpinned, T.keep _ _ _ st5 fun b hb o e => (I7.pin (b, o) (List.mem_append_right _ (List.mem_append_right _ (mem_pinsAt hb e)))).1, fun b hb => ?_, w7⟩
      obtain ⟨o, e, d⟩ := T.obj _ _ st5 b hb
      exact (I7.pin (b, o) (List.mem_append_right _ (List.mem_append_right _ (mem_pinsAt hb e)))).2.1
    cases f with
    | next => obtain ⟨σ7, H7, I7, n7⟩ := q7; exact again I7 n7
    | cont => obtain ⟨σ7, H7, I7, n7⟩ := q7; exact again I7 n7
    | brk => obtain ⟨σ7, H7, I7, q7⟩ := q7; exact ⟨σ7, H7, I7.unpinned, q7⟩
    | ret v => obtain ⟨x7, σ7, H7, I7, r7, q7⟩ := q7; exact ⟨x7, σ7, H7, I7.unpinned, r7, q7⟩
end
theorem for_list {K : PySem.W.Frag} {a : Addr} {xs : List V} {g : TG} {tb : TS} {D : Ends} {σ : St} {H : Hp} (Pv : Nat → St → Hp → Prop) (h0 : Pv 0 σ H) (hl : ∀ i σ H, i ≤ xs.length → Pv i σ H → SqL K H a xs)
    (hs : ∀ i x σ H, xs[i]? = some x → Pv i σ H → g x σ H fun σ2 H2 => tb { D with nx := Pv (i + 1), ct := Pv (i + 1), bk := D.nx } σ2 H2) (hd : ∀ σ H, Pv xs.length σ H → D.nx σ H) :
    ∃ W : Nat → Nat → St → Hp → Prop, (∃ m, W 0 m σ H) ∧ ∀ i m σ H, W i m σ H →
      ((Itl K a).stop i H ∧ D.nx σ H) ∨ ((Itl K a).go i H ∧ ∃ N : St → Hp → Prop, (∀ σ' H', N σ' H' → ∃ m', m' < m ∧ W (i + 1) m' σ' H') ∧ ∀ x H', (Itl K a).yld i H x H' → g x σ H' fun σ2 H2 => tb { D with nx := N, ct := N, bk := D.nx } σ2 H2) := by
  refine ⟨fun i m σ H => m = xs.length - i ∧ i ≤ xs.length ∧ Pv i σ H, ⟨xs.length, by simp, Nat.zero_le _, h0⟩, ?_⟩
  rintro i m σ H ⟨rfl, hi, p⟩
  have q := hl i σ H hi p
  by_cases hlt : i < xs.length
  · refine .inr ⟨⟨xs, xs[i], q, by simp [hlt]⟩, Pv (i + 1), fun σ' H' p' => ⟨xs.length - (i + 1), by omega, rfl, hlt, p'⟩, fun x H' y => ?_⟩
    obtain ⟨e, y⟩ := y
    subst e
    exact hs i x σ _ (y xs q) p
  · have e : i = xs.length := by omega
    subst e
    exact .inl ⟨⟨xs, q, Nat.le_refl _⟩, hd σ H p⟩
theorem for_range {lo : Int} {n : Nat} {g : TG} {tb : TS} {D : Ends} {σ : St} {H : Hp} (Pv : Nat → St → Hp → Prop) (h0 : Pv 0 σ H)
    (hs : ∀ i σ H, i < n → Pv i σ H → g (.int (lo + i)) σ H fun σ2 H2 => tb { D with nx := Pv (i + 1), ct := Pv (i + 1), bk := D.nx } σ2 H2) (hd : ∀ σ H, Pv n σ H → D.nx σ H) :
    ∃ W : Nat → Nat → St → Hp → Prop, (∃ m, W 0 m σ H) ∧ ∀ i m σ H, W i m σ H →
      ((Itr lo n).stop i H ∧ D.nx σ H) ∨ ((Itr lo n).go i H ∧ ∃ N : St → Hp → Prop, (∀ σ' H', N σ' H' → ∃ m', m' < m ∧ W (i + 1) m' σ' H') ∧ ∀ x H', (Itr lo n).yld i H x H' → g x σ H' fun σ2 H2 => tb { D with nx := N, ct := N, bk := D.nx } σ2 H2) := by
  refine ⟨fun i m σ H => m = n - i ∧ i ≤ n ∧ Pv i σ H, ⟨n, by simp, Nat.zero_le _, h0⟩, ?_⟩
  rintro i m σ H ⟨rfl, hi, p⟩
  by_cases hlt : i < n
  · refine .inr ⟨hlt, Pv (i + 1), fun σ' H' p' => ⟨n - (i + 1), by omega, rfl, hlt, p'⟩, fun x H' y => ?_⟩
    obtain ⟨e, y⟩ := y
    subst e y
    exact hs i σ _ hlt p
  · have e : i = n := by omega
    subst e
    exact .inl ⟨Nat.le_refl _, hd σ H p⟩
theorem while_by {c : TT} {tb : TS} {D : Ends} {σ : St} {H : Hp} (Pv : St → Hp → Prop) (μ : St → Hp → Nat) (h0 : Pv σ H)
    (hs : ∀ σ H, Pv σ H → c σ H fun b H1 => if b = true then tb { D with nx := fun σ' H' => Pv σ' H' ∧ μ σ' H' < μ σ H, ct := fun σ' H' => Pv σ' H' ∧ μ σ' H' < μ σ H, bk := D.nx } σ H1 else D.nx σ H1)
    (mono : ∀ σ H Q Q', (∀ b H1, Q b H1 → Q' b H1) → c σ H Q → c σ H Q') : tWhile c tb D σ H := by
  refine ⟨fun m σ H => m = μ σ H ∧ Pv σ H, ⟨_, rfl, h0⟩, ?_⟩
  rintro m σ H ⟨rfl, p⟩
  refine mono σ H _ _ (fun b H1 q => ?_) (hs σ H p)
  cases b with
  | true => exact ⟨_, fun σ' H' ⟨p', l⟩ => ⟨_, l, rfl, p'⟩, q⟩
  | false => exact q
end L2
namespace L2
open PySem PySem.Spec PyProof.Rows
noncomputable abbrev R2 := V → V → Hp → VK → Prop
noncomputable def OpR (X : Cx) (f : Value → Value → Sem Value) (r : R2) : Prop :=
  ∀ (pins : List (Addr × Obj)) (s : Shared) (σ : St) (H : Hp) (x y : V) (v u : Value) (Q : VK), Inv X pins σ H s → RelV x v → RelV y u → r x y H Q →
    wpAny (model X.prog X.w) X.A (f v u) (EP X pins σ Q) X.xe s
noncomputable def CallR (X : Cx) (f : Value) (r : List V → Hp → VK → Prop) : Prop :=
  ∀ (pins : List (Addr × Obj)) (s : Shared) (σ : St) (H : Hp) (xs : List V) (us : List Value) (Q : VK), Inv X pins σ H s → Vals xs us → r xs H Q →
    wpAny (model X.prog X.w) X.A (call f us) (EP X pins σ Q) X.xe s
noncomputable def tOp (r : R2) (ta tb : TE) : TE := fun σ H Q => ta σ H fun x H1 => tb σ H1 fun y H2 => r x y H2 Q
noncomputable def rI (C : Int → Int → Prop) (g : Int → Int → V) : R2 := fun x y H Q => ∃ i j, x = .int i ∧ y = .int j ∧ C i j ∧ Q (g i j) H
noncomputable def rI0 (g : Int → Int → V) : R2 := fun x y H Q => ∃ i j, x = .int i ∧ y = .int j ∧ Q (g i j) H
section
variable {X : Cx} {a b c : Expr} {ta tb tc : TE} {pos : Pos}
theorem binT (ha : PE X a ta) (hb : PE X b tb) {pins : List (Addr × Obj)} {s : Shared} {σ : St} {H : Hp} {R : V → V → Hp → Prop} (I : Inv X pins σ H s)
    (h : ta σ H fun x H1 => tb σ H1 fun y H2 => R x y H2) {Q : Value → Shared → Prop} {f : Value → Value → Sem Value}
    (hf : ∀ v u s2 x y H2, Inv X pins σ H2 s2 → RelV x v → RelV y u → R x y H2 → wpAny (model X.prog X.w) X.A (f v u) Q X.xe s2) :
    wpAny (model X.prog X.w) X.A (eval a X.env) (fun v s₁ => wpAny (model X.prog X.w) X.A (eval b X.env) (fun u s₂ => wpAny (model X.prog X.w) X.A (f v u) Q X.xe s₂) X.xe s₁) X.xe s := by
  refine thn (ha pins s σ H _ I h) fun v s1 ⟨x, H1, I1, r1, q1⟩ => ?_
  refine thn (hb pins s1 σ H1 _ I1 q1) fun u s2 ⟨y, H2, I2, r2, q2⟩ => ?_
  exact hf v u s2 x y H2 I2 r1 r2 q2
theorem pe_op {op : Operator} {r : R2} (ho : OpR X (binaryOp op) r) (ha : PE X a ta) (hb : PE X b tb) : PE X (.BinOp a op b pos) (tOp r ta tb) := by
  intro pins s σ H Q I h
  exact wpAny_BinOp (binT ha hb I h fun v u s2 x y H2 I2 rx ry q => ho pins s2 σ H2 x y v u Q I2 rx ry q)
theorem opI {f : Value → Value → Sem Value} {C : Int → Int → Prop} {g : Int → Int → Int}
    (rule : ∀ (i j : Int) (t u : Tok) (s : Shared) (Q : Value → Shared → Prop) (E : Value → Shared → Prop), C i j → Q (.int (g i j) s.toks) { s with toks := s.toks + 1 } → wpAny (model X.prog X.w) X.A (f (.int i t) (.int j u)) Q E s) :
    OpR X f (rI C fun i j => .int (g i j)) := by
  intro pins s σ H x y v u Q I rx ry h
  obtain ⟨i, j, rfl, rfl, hc, q⟩ := h
  obtain ⟨t, rfl⟩ := rx
  obtain ⟨t', rfl⟩ := ry
  exact rule i j t t' s _ _ hc ⟨.int (g i j), H, I.tok _, ⟨_, rfl⟩, q⟩
theorem opI0 {f : Value → Value → Sem Value} {g : Int → Int → Int}
    (rule : ∀ (i j : Int) (t u : Tok) (s : Shared) (Q : Value → Shared → Prop) (E : Value → Shared → Prop), Q (.int (g i j) s.toks) { s with toks := s.toks + 1 } → wpAny (model X.prog X.w) X.A (f (.int i t) (.int j u)) Q E s) :
    OpR X f (rI0 fun i j => .int (g i j)) := by
  intro pins s σ H x y v u Q I rx ry h
  obtain ⟨i, j, rfl, rfl, q⟩ := h
  obtain ⟨t, rfl⟩ := rx
  obtain ⟨t', rfl⟩ := ry
  exact rule i j t t' s _ _ ⟨.int (g i j), H, I.tok _, ⟨_, rfl⟩, q⟩
theorem opB0 {f : Value → Value → Sem Value} {g : Int → Int → Bool}
    (rule : ∀ (i j : Int) (t u : Tok) (s : Shared) (Q : Value → Shared → Prop) (E : Value → Shared → Prop), Q (.bool (g i j)) s → wpAny (model X.prog X.w) X.A (f (.int i t) (.int j u)) Q E s) :
    OpR X f (rI0 fun i j => .bl (g i j)) := by
  intro pins s σ H x y v u Q I rx ry h
  obtain ⟨i, j, rfl, rfl, q⟩ := h
  obtain ⟨t, rfl⟩ := rx
  obtain ⟨t', rfl⟩ := ry
  exact rule i j t t' s _ _ ⟨.bl (g i j), H, I, rfl, q⟩
noncomputable def CPow (i j : Int) : Prop := 0 ≤ j ∧ j ≤ 1000000 ∧ i.natAbs < 2 ^ 64
noncomputable def CMul (i j : Int) : Prop := (-(2 ^ 64) < i ∧ i < 2 ^ 64) ∨ (-(2 ^ 64) < j ∧ j < 2 ^ 64)
theorem CMul.ok {i j : Int} (h : CMul i j) : IntMulOk i j := by
  rcases h with ⟨h1, h2⟩ | ⟨h1, h2⟩
  · exact .of_left (intBits_le_64 h1 h2)
  · exact .of_right (intBits_le_64 h1 h2)
theorem op_add : OpR X (binaryOp .Add) (rI0 fun i j => .int (i + j)) := opI0 fun _ _ _ _ _ _ _ q => add_int q
theorem op_sub : OpR X (binaryOp .Sub) (rI0 fun i j => .int (i - j)) := opI0 fun _ _ _ _ _ _ _ q => sub_int q
theorem op_mod : OpR X (binaryOp .Mod) (rI (fun _ j => 0 < j) fun i j => .int (i % j)) := opI fun i j _ _ _ _ _ hc q => by
  have h1 : (0 : Int) < j := hc
  exact mod_int' (by omega) (by rw [Int.fmod_eq_emod_of_nonneg i (by omega)]; exact q)
theorem op_modN : OpR X (binaryOp .Mod) (rI (fun _ j => j ≠ 0) fun i j => .int (i.fmod j)) := opI fun _ _ _ _ _ _ _ hc q => mod_int' hc q
theorem op_pow : OpR X (binaryOp .Pow) (rI CPow fun i j => .int (i ^ j.toNat)) := opI fun _ _ _ _ _ _ _ hc q => pow_int_small hc.1 hc.2.1 hc.2.2 q
end
noncomputable def scal : V → V → Bool
  | .non, .non => true | .non, .int _ => true | .int _, .non => true | .non, .bl _ => true | .bl _, .non => true | .non, .str _ => true | .str _, .non => true
  | .int _, .int _ => true | .bl _, .bl _ => true | .str _, .str _ => true | .byt _, .byt _ => true
  | .int _, .str _ => true | .str _, .int _ => true | .bl _, .str _ => true | .str _, .bl _ => true
  | _, _ => false
noncomputable def rEq : R2 := fun x y H Q => scal x y = true ∧ Q (.bl (decide (x = y))) H
noncomputable def rNe : R2 := fun x y H Q => scal x y = true ∧ Q (.bl (!decide (x = y))) H
theorem dec_int {i j : Int} : decide (V.int i = V.int j) = (i == j) := by
  rw [Bool.eq_iff_iff]
  simp
theorem dec_bl {i j : Bool} : decide (V.bl i = V.bl j) = (i == j) := by
  rw [Bool.eq_iff_iff]
  simp
theorem dec_str {i j : Str} : decide (V.str i = V.str j) = (i == j) := by
  rw [Bool.eq_iff_iff]
  simp
theorem dec_byt {i j : Array UInt8} : decide (V.byt i = V.byt j) = (i.toList == j.toList) := by
  rw [Bool.eq_iff_iff]
  cases i
  cases j
  simp
section
variable {X : Cx} {a b c : Expr} {ta tb tc : TE} {pos : Pos}
theorem fin_bl {pins : List (Addr × Obj)} {σ : St} {H : Hp} {s : Shared} {Q : VK} {k k' : Bool} (I : Inv X pins σ H s) (q : Q (.bl k) H) (e : k = k') : EP X pins σ Q (.bool k') s := by
  subst e
  exact ⟨.bl k, H, I, rfl, q⟩
theorem op_eq : OpR X (compareOp .Eq) rEq := by
  intro pins s σ H x y v u Q I rx ry h
  obtain ⟨hs, q⟩ := h
  cases x with
  | non =>
    cases rx
    cases y with
    | non => cases ry; exact PySem.EqNone.eq_none_none (fin_bl I q (by simp))
    | bl j => cases ry; exact PySem.EqNone.eq_none_bool (fin_bl I q (by simp))
    | int j => obtain ⟨t', rfl⟩ := ry; exact PySem.EqNone.eq_none_int (fin_bl I q (by simp))
    | str j => obtain ⟨t', rfl⟩ := ry; exact PySem.EqNone.eq_none_str (fin_bl I q (by simp))
    | _ => exact absurd (show false = true from hs) Bool.false_ne_true
  | bl i =>
    cases rx
    cases y with
    | non => cases ry; exact PySem.EqNone.eq_bool_none (fin_bl I q (by simp))
    | bl j => cases ry; exact eq_bool (fin_bl I q dec_bl)
    | str j => obtain ⟨t', rfl⟩ := ry; exact PySem.EqMixed.eq_bool_str (fin_bl I q (by simp))
    | _ => exact absurd (show false = true from hs) Bool.false_ne_true
  | int i =>
    obtain ⟨t, rfl⟩ := rx
    cases y with
    | non => cases ry; exact PySem.EqNone.eq_int_none (fin_bl I q (by simp))
    | int j => obtain ⟨t', rfl⟩ := ry; exact eq_int (fin_bl I q dec_int)
    | str j => obtain ⟨t', rfl⟩ := ry; exact PySem.EqMixed.eq_int_str (fin_bl I q (by simp))
    | _ => exact absurd (show false = true from hs) Bool.false_ne_true
  | str i =>
    obtain ⟨t, rfl⟩ := rx
    cases y with
    | non => cases ry; exact PySem.EqNone.eq_str_none (fin_bl I q (by simp))
    | bl j => cases ry; exact PySem.EqMixed.eq_str_bool (fin_bl I q (by simp))
    | int j => obtain ⟨t', rfl⟩ := ry; exact PySem.EqMixed.eq_str_int (fin_bl I q (by simp))
    | str j => obtain ⟨t', rfl⟩ := ry; exact eq_str (fin_bl I q dec_str)
    | _ => exact absurd (show false = true from hs) Bool.false_ne_true
  | byt i =>
    obtain ⟨t, rfl⟩ := rx
    cases y with
    | byt j => obtain ⟨t', rfl⟩ := ry; exact PySem.W.eq_bytes (fin_bl I q dec_byt)
    | _ => exact absurd (show false = true from hs) Bool.false_ne_true
  | _ => cases y <;> exact absurd (show false = true from hs) Bool.false_ne_true
theorem op_ne : OpR X (compareOp .NotEq) rNe := by
  intro pins s σ H x y v u Q I rx ry h
  obtain ⟨hs, q⟩ := h
  cases x with
  | non =>
    cases rx
    cases y with
    | non => cases ry; exact PySem.EqNone.ne_none_none (fin_bl I q (by simp))
    | bl j => cases ry; exact PySem.EqNone.ne_none_bool (fin_bl I q (by simp))
    | int j => obtain ⟨t', rfl⟩ := ry; exact PySem.EqNone.ne_none_int (fin_bl I q (by simp))
    | str j => obtain ⟨t', rfl⟩ := ry; exact PySem.EqNone.ne_none_str (fin_bl I q (by simp))
    | _ => exact absurd (show false = true from hs) Bool.false_ne_true
  | bl i =>
    cases rx
    cases y with
    | non => cases ry; exact PySem.EqNone.ne_bool_none (fin_bl I q (by simp))
    | bl j => cases ry; exact ne_bool (fin_bl I q (congrArg not dec_bl))
    | str j => obtain ⟨t', rfl⟩ := ry; exact PySem.EqMixed.ne_bool_str (fin_bl I q (by simp))
    | _ => exact absurd (show false = true from hs) Bool.false_ne_true
  | int i =>
    obtain ⟨t, rfl⟩ := rx
    cases y with
    | non => cases ry; exact PySem.EqNone.ne_int_none (fin_bl I q (by simp))
    | int j => obtain ⟨t', rfl⟩ := ry; exact ne_int (fin_bl I q (congrArg not dec_int))
    | str j => obtain ⟨t', rfl⟩ := ry; exact PySem.EqMixed.ne_int_str (fin_bl I q (by simp))
    | _ => exact absurd (show false = true from hs) Bool.false_ne_true
  | str i =>
    obtain ⟨t, rfl⟩ := rx
    cases y with
    | non => cases ry; exact PySem.EqNone.ne_str_none (fin_bl I q (by simp))
    | bl j => cases ry; exact PySem.EqMixed.ne_str_bool (fin_bl I q (by simp))
    | int j => obtain ⟨t', rfl⟩ := ry; exact PySem.EqMixed.ne_str_int (fin_bl I q (by simp))
    | str j => obtain ⟨t', rfl⟩ := ry; exact ne_str (fin_bl I q (congrArg not dec_str))
    | _ => exact absurd (show false = true from hs) Bool.false_ne_true
  | byt i =>
    obtain ⟨t, rfl⟩ := rx
    cases y with
    | byt j => obtain ⟨t', rfl⟩ := ry; exact PySem.W.ne_bytes (fin_bl I q (congrArg not dec_byt))
    | _ => exact absurd (show false = true from hs) Bool.false_ne_true
  | _ => cases y <;> exact absurd (show false = true from hs) Bool.false_ne_true
theorem op_lt : OpR X (compareOp .Lt) (rI0 fun i j => .bl (decide (i < j))) := opB0 fun _ _ _ _ _ _ _ q => lt_int q
theorem op_le : OpR X (compareOp .LtE) (rI0 fun i j => .bl (decide (i ≤ j))) := opB0 fun _ _ _ _ _ _ _ q => le_int q
theorem op_gt : OpR X (compareOp .Gt) (rI0 fun i j => .bl (decide (j < i))) := opB0 fun _ _ _ _ _ _ _ q => gt_int q
theorem op_ge : OpR X (compareOp .GtE) (rI0 fun i j => .bl (decide (j ≤ i))) := opB0 fun _ _ _ _ _ _ _ q => ge_int q
theorem OpR.or {f : Value → Value → Sem Value} {r r' : R2} (h : OpR X f r) (h' : OpR X f r') : OpR X f (fun x y H Q => r x y H Q ∨ r' x y H Q) := by
  intro pins s σ H x y v u Q I rx ry q
  rcases q with q | q
  · exact h pins s σ H x y v u Q I rx ry q
  · exact h' pins s σ H x y v u Q I rx ry q
theorem nomark (b : Expr) {op : CmpOp} (h : op ≠ .In := by decide) (h2 : op ≠ .NotIn := by decide) : behindInMarks op b = false := by
  have e1 : (op == CmpOp.In) = false := by cases op <;> first | rfl | exact absurd rfl h
  have e2 : (op == CmpOp.NotIn) = false := by cases op <;> first | rfl | exact absurd rfl h2
  cases b <;> simp [behindInMarks, e1, e2]
theorem pe_cmpR {op : CmpOp} {r : R2} (ho : OpR X (compareOp op) r) (ha : PE X a ta) (hb : PE X b tb) (hm : behindInMarks op b = false) : PE X (.Compare a [op] [b] pos) (tOp r ta tb) := by
  intro pins s σ H Q I h
  exact wpAny_Compare1 (binT ha hb I h fun v u s2 x y H2 I2 rx ry q => ho pins s2 σ H2 x y v u Q I2 rx ry q) hm
noncomputable def tTest (t : TE) : TT := fun σ H Q => t σ H fun x H' => ∃ k, x = .bl k ∧ Q k H'
theorem pt_cmpR {op : CmpOp} {r : R2} (ho : OpR X (compareOp op) r) (ha : PE X a ta) (hb : PE X b tb) (hm : behindInMarks op b = false) : PT X (.Compare a [op] [b] pos) (tTest (tOp r ta tb)) := by
  intro pins s σ H Q I h
  refine wpAny_isTrue_Compare1 (thn (ha pins s σ H _ I h) fun v s1 ⟨x, H1, I1, r1, q1⟩ => thn (hb pins s1 σ H1 _ I1 q1) fun u s2 ⟨y, H2, I2, r2, q2⟩ =>
    thn (ho pins s2 σ H2 x y v u _ I2 r1 r2 q2) fun c s3 ⟨z, H3, I3, r3, k, e, q3⟩ => ?_) hm
  subst e
  cases r3
  exact wpAny_truthy_bool ⟨H3, I3, q3⟩
noncomputable def tChain (r r' : R2) (ta tb tc : TE) : TE := fun σ H Q => ta σ H fun x H1 => tb σ H1 fun y H2 => r x y H2 fun z H3 => ∃ k, z = .bl k ∧
  (if k = true then tc σ H3 fun w' H4 => r' y w' H4 Q else Q (.bl false) H3)
theorem pe_chain {op op' : CmpOp} {r r' : R2} (ho : OpR X (compareOp op) r) (ho' : OpR X (compareOp op') r') (ha : PE X a ta) (hb : PE X b tb) (hc : PE X c tc)
    (hm : lastMarks [op, op'] [b, c] = false := by with_unfolding_all rfl) : PE X (.Compare a [op, op'] [b, c] pos) (tChain r r' ta tb tc) := by
  intro pins s σ H Q I h
  refine Compare_chain (thn (ha pins s σ H _ I h) fun v s1 ⟨x, H1, I1, r1, q1⟩ => chain_link (thn (hb pins s1 σ H1 _ I1 q1) fun u s2 ⟨y, H2, I2, r2, q2⟩ =>
    thn (ho pins s2 σ H2 x y v u _ I2 r1 r2 q2) fun d s3 ⟨z, H3, I3, r3, k, e, q3⟩ => ?_)) hm
  subst e
  cases r3
  refine wpAny_truthy_bool ?_
  cases k with
  | false => exact ite_ff ⟨.bl false, H3, I3, rfl, q3⟩
  | true => exact ite_tt (chain_last (thn (hc pins s3 σ H3 _ I3 q3) fun w' s4 ⟨z', H4, I4, r4, q4⟩ => ho' pins s4 σ H4 y z' u w' Q I4 r2 r4 q4))
theorem pt_chain {op op' : CmpOp} {r r' : R2} (ho : OpR X (compareOp op) r) (ho' : OpR X (compareOp op') r') (ha : PE X a ta) (hb : PE X b tb) (hc : PE X c tc)
    (hm : lastMarks [op, op'] [b, c] = false := by with_unfolding_all rfl) : PT X (.Compare a [op, op'] [b, c] pos) (tTest (tChain r r' ta tb tc)) := by
  intro pins s σ H Q I h
  refine isTrue_chain (thn (ha pins s σ H _ I h) fun v s1 ⟨x, H1, I1, r1, q1⟩ => test_link (thn (hb pins s1 σ H1 _ I1 q1) fun u s2 ⟨y, H2, I2, r2, q2⟩ =>
    thn (ho pins s2 σ H2 x y v u _ I2 r1 r2 q2) fun d s3 ⟨z, H3, I3, r3, k, e, q3⟩ => ?_)) hm
  subst e
  cases r3
  refine wpAny_truthy_bool ?_
  cases k with
  | false =>
    obtain ⟨k', e', q'⟩ := q3
    cases e'
    exact ite_ff ⟨H3, I3, q'⟩
  | true =>
    refine ite_tt (test_last (thn (hc pins s3 σ H3 _ I3 q3) fun w' s4 ⟨z', H4, I4, r4, q4⟩ => thn (ho' pins s4 σ H4 y z' u w' _ I4 r2 r4 q4) fun d' s5 ⟨z2, H5, I5, r5, k2, e2, q5⟩ => ?_))
    subst e2
    cases r5
    exact wpAny_truthy_bool ⟨H5, I5, q5⟩
theorem line63 : (sizeLine : Nat) < 2 ^ 63 := by rw [sizeLine_eq]; decide
theorem op_add_str : OpR X (binaryOp .Add) (fun x y H Q => ∃ i j, x = .str i ∧ y = .str j ∧ i.length + j.length ≤ sizeLine ∧ Q (.str (i ++ j)) H) := by
  intro pins s σ H x y v u Q I rx ry h
  obtain ⟨i, j, rfl, rfl, hz, q⟩ := h
  obtain ⟨t, rfl⟩ := rx
  obtain ⟨t', rfl⟩ := ry
  exact add_str (fun t' tk => ⟨.str (i ++ j), H, I.tok _, ⟨_, rfl⟩, q⟩) hz
theorem vals1 {x : V} {us : List Value} (r : Vals [x] us) : ∃ u, us = [u] ∧ RelV x u := by
  cases r with
  | cons r1 r2 => cases r2; exact ⟨_, rfl, r1⟩
theorem vals2 {x y : V} {us : List Value} (r : Vals [x, y] us) : ∃ u w', us = [u, w'] ∧ RelV x u ∧ RelV y w' := by
  cases r with
  | cons r1 r2 =>
    cases r2 with
    | cons r3 r4 => cases r4; exact ⟨_, _, rfl, r1, r3⟩
theorem call_abs : CallR X (.builtin "abs") (fun xs H Q => ∃ i, xs = [.int i] ∧ Q (.int (if i < 0 then -i else i)) H) := by
  intro pins s σ H xs us Q I r h
  obtain ⟨i, rfl, q⟩ := h
  obtain ⟨u, rfl, t, rfl⟩ := vals1 r
  exact call_abs_int fun u tk => ⟨.int (if i < 0 then -i else i), H, I.tok _, ⟨_, rfl⟩, q⟩
theorem call_max2 (hc : X.calm = true) : CallR X (.builtin "max") (fun xs H Q => ∃ i j, xs = [.int i, .int j] ∧ Q (.int (if j > i then j else i)) H) := by
  intro pins s σ H xs us Q I r h
  obtain ⟨i, j, rfl, q⟩ := h
  obtain ⟨u, w', rfl, ⟨t, rfl⟩, ⟨t', rfl⟩⟩ := vals2 r
  refine max_two_ints (I.ok.hd hc) fun h' tk k => ⟨_, H, I.kept k, ?_, q⟩
  by_cases hj : j > i
  · rw [if_pos hj, if_pos hj]; exact ⟨_, rfl⟩
  · rw [if_neg hj, if_neg hj]; exact ⟨_, rfl⟩
theorem call_min2 (hc : X.calm = true) : CallR X (.builtin "min") (fun xs H Q => ∃ i j, xs = [.int i, .int j] ∧ Q (.int (if j < i then j else i)) H) := by
  intro pins s σ H xs us Q I r h
  obtain ⟨i, j, rfl, q⟩ := h
  obtain ⟨u, w', rfl, ⟨t, rfl⟩, ⟨t', rfl⟩⟩ := vals2 r
  refine min_two_ints (I.ok.hd hc) fun h' tk k => ⟨_, H, I.kept k, ?_, q⟩
  by_cases hj : j < i
  · rw [if_pos hj, if_pos hj]; exact ⟨_, rfl⟩
  · rw [if_neg hj, if_neg hj]; exact ⟨_, rfl⟩
theorem call_int1 : CallR X (.type "int") (fun xs H Q => (∃ i, xs = [.int i] ∧ Q (.int i) H) ∨ ∃ k, xs = [.bl k] ∧ Q (.int (if k then 1 else 0)) H) := by
  intro pins s σ H xs us Q I r h
  rcases h with ⟨i, rfl, q⟩ | ⟨k, rfl, q⟩
  · obtain ⟨u, rfl, t, rfl⟩ := vals1 r
    exact call_int_int ⟨.int i, H, I, ⟨_, rfl⟩, q⟩
  · obtain ⟨u, rfl, r1⟩ := vals1 r
    cases r1
    exact call_int_bool ⟨.int (if k then 1 else 0), H, I.tok _, ⟨_, rfl⟩, q⟩
noncomputable def LenV (K : PySem.W.Frag) (x : V) (H : Hp) (n : Nat) : Prop :=
  match x with
  | .str y => y.length ≤ sizeLine ∧ n = y.length
  | .byt y => y.size ≤ sizeLine ∧ n = y.size
  | .ref p => (∃ xs, SqL K H p xs ∧ n = xs.length) ∨ ∃ xs, SqT K H p xs ∧ n = xs.length
  | _ => False
theorem call_len : CallR X (.builtin "len") (fun xs H Q => ∃ x n, xs = [x] ∧ LenV X.K x H n ∧ Q (.int n) H) := by
  intro pins s σ H xs us Q I r h
  obtain ⟨x, n, rfl, e, q⟩ := h
  obtain ⟨u, rfl, rx⟩ := vals1 r
  have hl := line63
  have hs : sizeLine = 16777216 := sizeLine_eq
  cases x with
  | str y =>
    obtain ⟨t, rfl⟩ := rx
    obtain ⟨hy, e'⟩ : y.length ≤ sizeLine ∧ n = y.length := e
    subst e'
    exact len_str (by omega) ⟨.int _, H, I.tok _, ⟨_, rfl⟩, q⟩
  | byt y =>
    obtain ⟨t, rfl⟩ := rx
    obtain ⟨hy, e'⟩ : y.size ≤ sizeLine ∧ n = y.size := e
    subst e'
    exact PySem.W.len_bytes (by omega) ⟨.int _, H, I.tok _, ⟨_, rfl⟩, q⟩
  | ref p =>
    cases rx
    have e' : (∃ xs, SqL X.K H p xs ∧ n = xs.length) ∨ ∃ xs, SqT X.K H p xs ∧ n = xs.length := e
    rcases e' with ⟨xs, hx, e'⟩ | ⟨xs, hx, e'⟩
    · subst e'
      obtain ⟨its, r', pl, hz⟩ := I.list hx
      have hlen := r'.length
      exact Calls.call_len_list pl.isList (by simp only [List.size_toArray]; omega) ⟨.int xs.length, H, I.tok _, ⟨_, by simp only [List.size_toArray]; rw [hlen]⟩, q⟩
    · subst e'
      obtain ⟨its, r', pl, hz⟩ := I.tuple hx
      have hlen := r'.length
      exact len_tuple pl (by simp only [List.size_toArray]; omega) ⟨.int xs.length, H, I.tok _, ⟨_, by simp only [List.size_toArray]; rw [hlen]⟩, q⟩
  | _ => exact (show False from e).elim
end
end L2
namespace L2
open PySem PySem.Spec PyProof.Rows
structure ObjM (h : Heap) (x dx C : Addr) (mA : Str → Option Value) : Prop where
  obj : h.get? x = some (PySem.W.instObj C dx)
  ns : h.Ns1 dx mA
  ne : dx ≠ x
theorem lookIn_ns {h : Heap} {dx : Addr} {mA : Str → Option Value} (n : h.Ns1 dx mA) : ∃ od, h.get? dx = some od ∧ ∀ name, PySem.W.lookIn name od = some (mA name) := by
  obtain ⟨o, es, ep, ho, hd, hk, _, hm⟩ := n
  refine ⟨o, ho, fun name => ?_⟩
  have e := hm name
  unfold nsFind findBy at e
  rw [← Array.find?_toList] at e
  unfold PySem.W.lookIn
  rw [hd]
  dsimp only
  split
  · rename_i y q
    rw [q] at e
    exact congrArg some e
  · rename_i q
    rw [q] at e
    have a : es.toList.any (·.refKey) = false := by
      rw [List.any_eq_false]
      intro y hy
      obtain ⟨z, t, hkey⟩ := hk y (Array.mem_toList_iff.mp hy)
      simp [DictEntry.refKey, hkey]
    have a' : ¬ es.toList.any (·.refKey) = true := by rw [a]; exact Bool.false_ne_true
    rw [if_neg a']
    exact congrArg some e
theorem ObjM.look {h : Heap} {x dx C : Addr} {mA : Str → Option Value} (I : ObjM h x dx C mA) : ∃ od, PySem.W.InstAt h x (PySem.W.instObj C dx) C (some od) ∧ ∀ name, PySem.W.lookIn name od = some (mA name) :=
  let ⟨od, ho, hl⟩ := lookIn_ns I.ns
  ⟨od, ⟨I.obj, rfl, rfl, ho⟩, hl⟩
section
variable {prog : Program} {w : World} {A : Around} {E : Value → Shared → Prop} {s : Shared} {K : PySem.W.Frag} {x dx C f : Addr} {mA : Str → Option Value} {name : Str} {v : Value}
end
section
variable {P : Program} {w : World} {H H' : Hp} {h h' : Heap} {a C dx : Addr} {fs fs' : List (Str × V)}
theorem ins_get (hok : HOk P w H h) (e : H a = some (.ins C dx fs)) : ∃ mA, ObjM h a dx C mA ∧ (∀ f, RelO (fs.lookup f) (mA f)) ∧ PySem.Within mA (fs.map (·.1)) ∧ fs.length ≤ 1000 ∧ H dx = some (.own a) := by
  obtain ⟨d, z, ne, ob, mA, n, r, q⟩ := (show ObjOk P w H h a (.ins C dx fs) from hok a _ e)
  exact ⟨mA, ⟨ob, n, ne⟩, r, q, z, d⟩
end
structure Cls (K : PySem.W.Frag) (C : Addr) : Prop where
  pg : PySem.W.plainGet K C Str.empty = true
  hd : PySem.W.hasDictIn K C = true
  po : PySem.W.plainOver K C = true
  sa : PySem.W.findIn K (.ref C) "__setattr__" = some (some (.builtin "object.__setattr__"))
theorem Cls.get {K : PySem.W.Frag} {C : Addr} (c : Cls K C) (f : Str) : PySem.W.plainGet K C f = true := c.pg
section
variable {X : Cx} {pins : List (Addr × Obj)} {σ : St} {H : Hp} {s : Shared} {a C dx : Addr} {fs : List (Str × V)} {f : Str} {v : V} {A : Around} {E : Value → Shared → Prop}
end
section
variable {X : Cx} {o e value : Expr} {f : Str} {pos pos' tpos : Pos} {ta tv : TE}
end
section
variable {X : Cx} {pins : List (Addr × Obj)} {σ : St} {H : Hp} {s : Shared} {A : Around} {E : Value → Shared → Prop} {Q : Value → Shared → Prop} {c : Value} {b : Bool}
inductive TyOf (K : PySem.W.Frag) (H : Hp) : V → Value → Prop where
  | non : TyOf K H .non (.type "NoneType")
  | bl (x : Bool) : TyOf K H (.bl x) (.type "bool")
  | int (i : Int) : TyOf K H (.int i) (.type "int")
  | str (x : Str) : TyOf K H (.str x) (.type "str")
  | flt (x : UInt64) : TyOf K H (.flt x) (.type "float")
  | lst {a : Addr} {xs : List V} (e : H a = some (.lst xs)) : TyOf K H (.ref a) (.type "list")
  | frz {a : Addr} {o : Obj} {xs : List V} (e : H a = some (.frz o (.lst xs))) : TyOf K H (.ref a) (.type "list")
  | tup {a : Addr} {xs : List V} (e : H a = some (.tup xs)) : TyOf K H (.ref a) (.type "tuple")
  | dK {a : Addr} {kvs : List (Key × V)} (e : H a = some (.dK kvs)) : TyOf K H (.ref a) (.type "dict")
  | dT {a : Addr} {kvs : List (List Key × V)} (e : H a = some (.dT kvs)) : TyOf K H (.ref a) (.type "dict")
  | ins {a C dx : Addr} {fs : List (Str × V)} (e : H a = some (.ins C dx fs)) (cl : Cls K C) (ha : PySem.W.findIn K (.ref C) "__class__" = some (some (.builtin "object.__class__")))
      (hn : PySem.W.specialIn K (.builtin "object.__class__") "__get__" = some (some (.builtin "getset_descriptor.__get__"))) (htk : PySem.W.takesIn K (.builtin "object.__class__") = some true)
      (hm : PySem.W.mroIn K C (.type "object") = some true) : TyOf K H (.ref a) (.ref C)
theorem isinst_ok {x : V} {u t : Value} (I : Inv X pins σ H s) (rx : RelV x u) (ty : TyOf X.K H x t) (e : PySem.W.kitOne X.K t c = some b) (h : ∀ tk, Q (.bool b) { s with toks := tk }) :
    wpAny (model X.prog X.w) A (call (.builtin "isinstance") [u, c]) Q E s := by
  cases ty with
  | non => cases (show u = Value.none from rx); exact PySem.W.kia_one PySem.W.kitx_none I.kIn True.intro e (fun z => nomatch z) h
  | bl y => cases (show u = Value.bool y from rx); exact PySem.W.kia_one PySem.W.kitx_bool I.kIn True.intro e (fun z => nomatch z) h
  | int i => obtain ⟨t, q⟩ := (show ∃ t, u = Value.int i t from rx); cases q; exact PySem.W.kia_one PySem.W.kitx_int I.kIn True.intro e (fun z => nomatch z) h
  | str y => obtain ⟨t, q⟩ := (show ∃ t, u = Value.str y t from rx); cases q; exact PySem.W.kia_one PySem.W.kitx_str I.kIn True.intro e (fun z => nomatch z) h
  | flt y => obtain ⟨t, q⟩ := (show ∃ t, u = Value.float y t from rx); cases q; exact PySem.W.kia_one PySem.W.kitx_float I.kIn True.intro e (fun z => nomatch z) h
  | @lst a xs ea =>
    cases (show u = Value.ref a from rx)
    obtain ⟨_, _, n, _, h1⟩ := (show ObjOk X.prog X.w H s.heap a (.lst xs) from I.hok a _ ea)
    exact PySem.W.kia_one PySem.W.kitx_list I.kIn ⟨_, h1, rfl⟩ e (fun z => nomatch z) h
  | @frz a ob xs ea =>
    cases (show u = Value.ref a from rx)
    obtain ⟨_, _, _, n, _, h1⟩ := (show ObjOk X.prog X.w H s.heap a (.frz ob (.lst xs)) from I.hok a _ ea)
    exact PySem.W.kia_one PySem.W.kitx_list I.kIn ⟨_, h1, rfl⟩ e (fun z => nomatch z) h
  | @tup a xs ea =>
    cases (show u = Value.ref a from rx)
    obtain ⟨_, _, _, p⟩ := (show ObjOk X.prog X.w H s.heap a (.tup xs) from I.hok a _ ea)
    obtain ⟨o, h1, h2, _⟩ := p
    exact PySem.W.kia_one PySem.W.kitx_tuple I.kIn ⟨o, h1, h2⟩ e (fun z => nomatch z) h
  | @dK a kvs ea =>
    cases (show u = Value.ref a from rx)
    obtain ⟨_, _, vs, _, p⟩ := (show ObjOk X.prog X.w H s.heap a (.dK kvs) from I.hok a _ ea)
    obtain ⟨o, es, ep, h1, h2, _⟩ := p
    exact PySem.W.kia_one PySem.W.kitx_dict I.kIn ⟨o, h1, h2.1⟩ e (fun z => nomatch z) h
  | @dT a kvs ea =>
    cases (show u = Value.ref a from rx)
    obtain ⟨_, _, xs, _, o, es, ep, h1, h2, _⟩ := (show ObjOk X.prog X.w H s.heap a (.dT kvs) from I.hok a _ ea)
    exact PySem.W.kia_one PySem.W.kitx_dict I.kIn ⟨o, h1, h2.1⟩ e (fun z => nomatch z) h
  | @ins a C dx fs ea cl ha hn htk hm =>
    cases (show u = Value.ref a from rx)
    obtain ⟨mA, O, _⟩ := ins_get I.hok ea
    obtain ⟨od, J, _⟩ := O.look
    exact PySem.W.kia_one (PySem.W.kitx_own (cl.get _) cl.hd ha hn htk hm) I.kIn J e (fun z => nomatch z) h
end
end L2
namespace L2
open PySem PySem.Spec PyProof.Rows
structure Room (k : Nat) (A : Around) : Prop where
  hd : A.handled = none
  dp : A.depth + 3 * k + 5 < recursionLimit
  un : A.units + 16 * k + 200 < cLine
theorem Room.mono {j k : Nat} {A : Around} (r : Room k A) (h : j ≤ k) : Room j A := ⟨r.hd, by have := r.dp; omega, by have := r.un; omega⟩
theorem Room.deeper {k : Nat} {A : Around} (r : Room (k + 1) A) (env : Env) : Room k (A.deeper env) :=
  ⟨r.hd, by have := r.dp; show A.depth + 1 + 3 * k + 5 < _; omega, by have := r.un; show A.units + 3 + 16 * k + 200 < _; omega⟩
theorem Room.depth {k : Nat} {A : Around} (r : Room k A) : A.depth < recursionLimit := by have := r.dp; omega
theorem Room.units {k : Nat} {A : Around} (r : Room k A) : A.units + 64 < cLine := by have := r.un; omega
noncomputable def tNil : TA := fun _ H Q => Q [] H
noncomputable def tCons (ta : TE) (tr : TA) : TA := fun σ H Q => ta σ H fun x H1 => tr σ H1 fun xs H2 => Q (x :: xs) H2
section
variable {X : Cx} {e : Expr} {es : List Expr} {te : TE} {t : TA} {pos : Pos}
theorem pa_nil : PA X [] tNil := fun _ _ _ _ H Q I h => Calls.spliced_nil ⟨[], H, I, .nil, h⟩
theorem pa_cons (ha : PE X e te) (hr : PA X es t) (hs : starEach (e :: es) X.env = (false, eval e X.env) :: starEach es X.env := by rfl) : PA X (e :: es) (tCons te t) := by
  intro pos pins s σ H Q I h
  rw [hs]
  show wpAny _ _ (spliced ((false, eval e X.env) :: backTo pos (starEach es X.env))) _ _ s
  refine Calls.spliced_cons (thn (ha pins s σ H _ I h) fun u s1 ⟨x, H1, I1, r1, q1⟩ => ?_)
  exact thn (hr pos pins s1 σ H1 _ I1 q1) fun us s2 ⟨xs, H2, I2, r2, q2⟩ => ⟨x :: xs, H2, I2, .cons r1 r2, q2⟩
noncomputable def tTup (t : TA) : TE := fun σ H Q => t σ H fun xs H1 => xs.length ≤ sizeLine ∧ ∀ p, H1 p = none → Q (.ref p) (upd H1 p (.tup xs))
noncomputable def tLst (t : TA) : TE := fun σ H Q => t σ H fun xs H1 => xs.length ≤ sizeLine ∧ ∀ p, H1 p = none → Q (.ref p) (upd H1 p (.lst xs))
theorem pe_tup {x1} (h : PA X es t) : PE X (.Tuple es x1 pos) (tTup t) := by
  intro pins s σ H Q I hq
  refine wpAny_Tuple_spliced (thn (h pos pins s σ H _ I hq) fun us s1 ⟨xs, H1, I1, r, z, q⟩ => ⟨by rw [← r.length]; exact z, ?_⟩)
  have hf : H1 s1.heap.objs.size = none := I1.hok.fresh (Nat.le_refl _)
  refine ⟨.ref s1.heap.objs.size, upd H1 s1.heap.objs.size (.tup xs), I1.laid (t' := s1.toks) (fun b u e => Heap.get?_push_of_some _ e) (Nat.le_refl _) ?_, rfl, q _ hf⟩
  exact ⟨z, us, r, ⟨_, Heap.get?_push_size _ rfl, rfl, _, rfl⟩⟩
theorem pe_lst (h : PA X es t) : PE X (.List es pos) (tLst t) := by
  intro pins s σ H Q I hq
  refine wpAny_List_spliced (thn (h pos pins s σ H _ I hq) fun us s1 ⟨xs, H1, I1, r, z, q⟩ => ⟨by rw [← r.length]; exact z, ?_⟩)
  have hf : H1 s1.heap.objs.size = none := I1.hok.fresh (Nat.le_refl _)
  refine ⟨.ref s1.heap.objs.size, upd H1 s1.heap.objs.size (.lst xs), I1.laid (t' := s1.toks) (fun b u e => Heap.get?_push_of_some _ e) (Nat.le_refl _) ?_, rfl, q _ hf⟩
  exact ⟨z, us, 0, r, Heap.get?_push_size _ rfl⟩
end
noncomputable abbrev Sp := List V → Hp → VK → XK → Prop
noncomputable abbrev CXT := List Env → Hp → Shared → XK → Value → Shared → Prop
structure Env0 (P : Program) (w : World) (K : PySem.W.Frag) (mg : Str → Option Value) (base : Heap) (A : Around) (outer : List Env) (s : Shared) (H : Hp) : Prop where
  frames : A.frames = some outer
  mod : Mod K mg base
  bs : ∀ b o, base.get? b = some o → s.heap.get? b = some o ∧ H b = none
  bsz : base.objs.size ≤ s.heap.objs.size
  funs : s.heap.FunFrames base outer
  frf : ∀ b ∈ frs outer, H b = none
  hok : HOk P w H s.heap
  bare : AllBare s.gens
noncomputable def CE (outer : List Env) (P : Program) (w : World) (H : Hp) (s : Shared) (Q : VK) (u : Value) (s' : Shared) : Prop :=
  ∃ v H', s'.os = s.os ∧ AllBare s'.gens ∧ Un (frs outer) [] H H' s.heap s'.heap ∧ HOk P w H' s'.heap ∧ RelV v u ∧ Q v H'
noncomputable def CR (CX : CXT) (outer : List Env) (P : Program) (w : World) (H : Hp) (s : Shared) (Q : VK) (E : XK) (r : Result) (s' : Shared) : Prop :=
  match r with
  | .ok (.ret u) => CE outer P w H s Q u s'
  | .ok _ => False
  | .error e => CX outer H s E e s'
structure FnOk (P : Program) (w : World) (K : PySem.W.Frag) (mg : Str → Option Value) (base : Heap) (CX : CXT) (k : Nat) (f : Addr) (fd : FuncData) (ps : List Str) (sp : Sp) : Prop where
  len : ∀ vs H Q E, sp vs H Q E → vs.length = ps.length
  run : ∀ (A : Around) (outer : List Env) (s : Shared) (H : Hp) (args : Args) (us : List Value) (vs : List V) (Q : VK) (E : XK), Room k A → Env0 P w K mg base A outer s H → BindsTo s fd args (ps.zip us) → Vals vs us → sp vs H Q E →
    codeAny (model P w) A (.call (.ref f) args) (CR CX outer P w H s Q E) s
theorem FnOk.mono {P : Program} {w : World} {K : PySem.W.Frag} {mg : Str → Option Value} {base : Heap} {CX : CXT} {j k : Nat} {f : Addr} {fd : FuncData} {ps : List Str} {sp : Sp} (F : FnOk P w K mg base CX j f fd ps sp) (h : j ≤ k) :
    FnOk P w K mg base CX k f fd ps sp := ⟨F.len, fun A outer s H args us vs Q E hr => F.run A outer s H args us vs Q E (hr.mono h)⟩
section
variable {X : Cx} {pins : List (Addr × Obj)} {σ : St} {H : Hp} {s s' : Shared}
theorem Inv.env0 (I : Inv X pins σ H s) : Env0 X.prog X.w X.K X.mg X.base X.A X.stack s H :=
  ⟨I.ok.frames, I.ok.mod, I.bs, Nat.le_trans I.ok.bsz I.sz, I.stack, I.stkFree, I.hok, I.bare⟩
theorem Inv.after {Q : VK} {u : Value} (I : Inv X pins σ H s) (h : CE X.stack X.prog X.w H s Q u s') : EP X pins σ Q u s' := by
  obtain ⟨v, H', os, bare, un, hok, r, q⟩ := h
  obtain ⟨hh, g, d, t, os'⟩ := s'
  obtain rfl : os' = s.os := os
  exact ⟨v, H', I.call (h' := hh) (g' := g) (d' := d) (t' := t) (ch := []) un hok bare (fun b z => absurd z (by simp)), r, q⟩
end
noncomputable def tCall (sp : Sp) (dvs : List V) (E : XK) (t : TA) : TE := fun σ H Q => t σ H fun vs H1 => sp (vs ++ dvs) H1 Q E
noncomputable def Binds (K : PySem.W.Frag) (fd : FuncData) (ps : List Str) (ds : List Value) : Prop :=
  ∀ (s : Shared) (us : List Value), K.In s.heap → (us ++ ds).length = ps.length → BindsTo s fd ⟨us, []⟩ (ps.zip (us ++ ds))
theorem Binds.all {K : PySem.W.Frag} {fd : FuncData} {ps : List Str} (h : ∀ us : List Value, us.length = ps.length → bindArgs fd ⟨us, []⟩ = pure (ps.zip us)) : Binds K fd ps [] := fun s us _ hl => by
  rw [List.append_nil] at hl ⊢
  exact .of_eq (h us hl)
noncomputable def Passes (CX : CXT) (X : Cx) (E : XK) : Prop := ∀ (pins : List (Addr × Obj)) (σ : St) (H : Hp) (s : Shared) (e : Value) (s' : Shared), Inv X pins σ H s → CX X.stack H s E e s' → X.xe e s'
section
variable {X : Cx} {CX : CXT} {k : Nat} {f C : Addr} {fd : FuncData} {ps : List Str} {sp : Sp} {dvs : List V} {ds : List Value} {E : XK} {x m : Str} {p pos apos : Pos} {e o : Expr} {es : List Expr} {ta : TE} {t : TA}
theorem run_fn {pins : List (Addr × Obj)} {σ : St} {H : Hp} {s : Shared} {Q : VK} {us : List Value} {vs : List V} (F : FnOk X.prog X.w X.K X.mg X.base CX k f fd ps sp) (hr : Room k X.A) (hb : Binds X.K fd ps ds) (hd : Vals dvs ds) (hx : Passes CX X E)
    (I : Inv X pins σ H s) (r : Vals vs us) (h : sp (vs ++ dvs) H Q E) : wpAny (model X.prog X.w) X.A (call (.ref f) us) (EP X pins σ Q) X.xe s := by
  have r2 : Vals (vs ++ dvs) (us ++ ds) := r.append hd
  have hl : (us ++ ds).length = ps.length := by rw [← r2.length]; exact F.len _ _ _ _ h
  refine wpAny_call (codeAny_mono (F.run X.A X.stack s H ⟨us, []⟩ (us ++ ds) (vs ++ dvs) Q E hr I.env0 (hb s us I.kIn hl) r2 h) fun r s' hq => ?_)
  cases r with
  | error e => exact hx pins σ H s e s' I hq
  | ok fl =>
    cases fl with
    | ret u => exact I.after hq
    | next => exact False.elim hq
    | brk => exact False.elim hq
    | cont => exact False.elim hq
theorem pe_call (F : FnOk X.prog X.w X.K X.mg X.base CX k f fd ps sp) (hr : Room k X.A) (hg : Gl X x) (hm : X.mg x = some (.ref f)) (hk : PySem.W.keepIn X.K (.ref f) = true) (hb : Binds X.K fd ps ds) (hd : Vals dvs ds) (hx : Passes CX X E)
    (ha : PA X (e :: es) t) (hdb : (x == ("__debug__" : Str)) = false := by decide) (he : starEach (e :: es) X.env = (false, eval e X.env) :: starEach es X.env := by rfl) (hpl : (backTo pos (starEach es X.env)).any (·.1) = false := by rfl) :
    PE X (.Call (.Name x p) (e :: es) [] pos) (tCall sp dvs E t) := by
  intro pins s σ H Q I h
  refine wpAny_Call_Name_kw (ld_glob I hg hm ?_ hdb)
  refine PySem.W.callWith_K (h₀ := X.base) I.ok.mod.kin hk (thn (ha pos pins s σ H _ I h) fun us s1 ⟨vs, H1, I1, r, q⟩ => ⟨I1.kIn, ?_⟩) he hpl
  exact run_fn F hr hb hd hx I1 r q
end
section
variable {X : Cx} {CX : CXT} {k : Nat} {f C : Addr} {fd : FuncData} {ps ks : List Str} {sp : Sp} {E : XK} {x m : Str} {p pos apos kpos : Pos} {e o : Expr} {es : List Expr} {kws : List Keyword} {te ta : TE} {t tk : TA} {nm : Option Str}
variable {g : List Value → List Value → List Value} {gV : List V → List V → List V}
end
structure FnScope (N P : List Str) (sc : Scope) : Prop where
  kind : sc.kind = .function
  co : sc.isCoroutine = false
  gen : sc.isGenerator = false
  nd : N.Nodup
  pre : N.take P.length = P
  par : ∀ x ∈ P, sc.names.lookup x = some .local ∨ sc.names.lookup x = some .cell
  nofree : ∀ y ∈ sc.names, y.2 ≠ .free
theorem bindL_out {kindOf : Str → Option NameKind} {x : Str} : ∀ {binds : List (Str × Value)} {m : Str → Option Value}, (∀ v, (x, v) ∉ binds) → bindL kindOf binds m x = m x
  | [], _, _ => rfl
  | (n, v) :: r, m, h => by
    unfold bindL
    rw [bindL_out fun w hw => h w (List.mem_cons_of_mem _ hw)]
    split
    · have : x ≠ n := by rintro rfl; exact h v List.mem_cons_self
      simp [this]
    · rfl
theorem bindC_out {kindOf : Str → Option NameKind} {x : Str} : ∀ {binds : List (Str × Value)} {m : Str → Option Value}, (∀ v, (x, v) ∉ binds) → bindC kindOf binds m x = m x
  | [], _, _ => rfl
  | (n, v) :: r, m, h => by
    unfold bindC
    rw [bindC_out fun w hw => h w (List.mem_cons_of_mem _ hw)]
    split
    · rfl
    · have : x ≠ n := by rintro rfl; exact h v List.mem_cons_self
      simp [this]
theorem bindL_get {kindOf : Str → Option NameKind} {x : Str} {v : Value} : ∀ {P : List Str} {vs : List Value} {i : Nat} {m : Str → Option Value}, P.Nodup → P[i]? = some x → vs[i]? = some v → kindOf x = some .local →
    bindL kindOf (P.zip vs) m x = some v
  | [], _, _, _, _, h, _, _ => by simp at h
  | _ :: _, [], _, _, _, _, h, _ => by simp at h
  | p :: P, w :: vs, 0, m, nd, h1, h2, hk => by
    simp at h1 h2; subst h1; subst h2
    show bindL kindOf ((p, w) :: P.zip vs) m p = _
    unfold bindL
    rw [bindL_out fun v hv => (List.nodup_cons.mp nd).1 (List.of_mem_zip hv).1, if_pos hk]
    simp
  | p :: P, w :: vs, i + 1, m, nd, h1, h2, hk => by
    show bindL kindOf ((p, w) :: P.zip vs) m x = _
    unfold bindL
    exact bindL_get (i := i) (List.nodup_cons.mp nd).2 (by simpa using h1) (by simpa using h2) hk
theorem bindC_get {kindOf : Str → Option NameKind} {x : Str} {v : Value} : ∀ {P : List Str} {vs : List Value} {i : Nat} {m : Str → Option Value}, P.Nodup → P[i]? = some x → vs[i]? = some v → kindOf x ≠ some .local →
    bindC kindOf (P.zip vs) m x = some v
  | [], _, _, _, _, h, _, _ => by simp at h
  | _ :: _, [], _, _, _, _, h, _ => by simp at h
  | p :: P, w :: vs, 0, m, nd, h1, h2, hk => by
    simp at h1 h2; subst h1; subst h2
    show bindC kindOf ((p, w) :: P.zip vs) m p = _
    unfold bindC
    rw [bindC_out fun v hv => (List.nodup_cons.mp nd).1 (List.of_mem_zip hv).1, if_neg hk]
    simp
  | p :: P, w :: vs, i + 1, m, nd, h1, h2, hk => by
    show bindC kindOf ((p, w) :: P.zip vs) m x = _
    unfold bindC
    exact bindC_get (i := i) (List.nodup_cons.mp nd).2 (by simpa using h1) (by simpa using h2) hk
noncomputable def start (N : List Str) (vs : List V) : St := vs.map some ++ List.replicate (N.length - vs.length) none
noncomputable def cxOf (CX : CXT) (P : Program) (w : World) (K : PySem.W.Frag) (mg : Str → Option Value) (base : Heap) (N : List Str) (qual : Str) (scope : Scope) (f : Addr) (cd : Value) (A : Around) (outer : List Env) (s : Shared) (H : Hp) (E : XK) : Cx where
  prog := P
  w := w
  K := K
  mg := mg
  base := base
  A := A.deeper (envOfC qual scope s.heap.objs.size f cd)
  N := N
  s₀ := s
  H₀ := H
  env := envOfC qual scope s.heap.objs.size f cd
  outer := outer
  stack := envOfC qual scope s.heap.objs.size f cd :: outer
  ex := []
  calm := true
  fn := fun _ => true
  pn := []
  xe := fun e s' => wpAny (model P w) (A.deeper (envOfC qual scope s.heap.objs.size f cd)) (leaving (envOfC qual scope s.heap.objs.size f cd) e) (fun _ s'' => CX outer H s E e s'') (fun e' s'' => CX outer H s E e' s'') s'
theorem cell_has {sc : Scope} {n : Nat} {x : Str} (h : sc.names.lookup x = some .cell) : ∃ c, (cellsFrom n sc.names []).lookup x = some c := by
  have q := PySem.W.cellsFrom_some sc.names n [] (.inl h)
  exact Option.isSome_iff_exists.mp q
theorem inv_start {CX : CXT} {P : Program} {w : World} {K : PySem.W.Frag} {mg : Str → Option Value} {base : Heap} {N ps : List Str} {qual : Str} {scope : Scope} {f : Addr} {cd : Value} {A : Around} {outer : List Env} {s s1 : Shared} {H : Hp} {E : XK} {us : List Value} {vs : List V}
    (S : FnScope N ps scope) (hd : A.handled = none) (e0 : Env0 P w K mg base A outer s H) (hl : vs.length = ps.length) (r : Vals vs us)
    (x : InCallC s s.heap.objs.size (bindL (envOfC qual scope s.heap.objs.size f cd).kindOf (ps.zip us) fun _ => none) (cellsFrom (s.heap.objs.size + 1) scope.names []) (bindC (envOfC qual scope s.heap.objs.size f cd).kindOf (ps.zip us) fun _ => none) s1) :
    Inv (cxOf CX P w K mg base N qual scope f cd A outer s H E) [] (start N vs) H s1 := by
  have hpl : ps.length ≤ N.length := by have := congrArg List.length S.pre; rw [List.length_take] at this; omega
  obtain ⟨h1, tk, rfl, hk⟩ := x.done
  have noA : ∀ b : Addr, b ∉ (cxOf CX P w K mg base N qual scope f cd A outer s H E).ex := fun b z => absurd (show b ∈ ([] : List Addr) from z) (by simp)
  refine ⟨⟨e0.mod, S.kind, rfl, rfl, Nat.le_refl _, fun y z c h1 h2 => ?_, fun y hy => ?_, fun y c _ h => ?_, fun _ => hd, Around.frames_deeper e0.frames, .inr ⟨rfl, rfl⟩, fun b z => absurd z (noA b), e0.bs, e0.bsz, fun b _ _ => noA b, fun b z => absurd z (noA b), e0.funs, e0.frf⟩,
    rfl, e0.bare, Un.kept hk, ⟨_, x.toInCall.ns, fun i y v h1 h2 h3 => ?_⟩, fun y c h => ⟨_, x.cell y c h⟩, e0.hok.fresh (Nat.le_refl _), fun y c h => ?_, fun p hp => absurd (show p ∈ ([] : List (Addr × Obj)) from hp) (by simp), e0.hok.kept hk, ?_⟩
  · exact name_of_addr x.apart (PySem.mem_of_lookup h1) (PySem.mem_of_lookup h2)
  · have hy : scope.names.lookup y = some .cell ∨ scope.names.lookup y = some .free := hy
    rcases hy with hy | hy
    · exact cell_has hy
    · exact absurd rfl (S.nofree _ (PySem.mem_of_lookup hy))
  · exact Nat.le_of_lt (x.above y c (PySem.mem_of_lookup h))
  · have hi : i < vs.length := by
      unfold start at h2
      by_cases hi : i < vs.length
      · exact hi
      · rw [List.getElem?_append_right (by simpa using hi)] at h2
        rw [List.getElem?_replicate] at h2
        split at h2 <;> cases h2
    have ha : vs[i]? = some v := by
      unfold start at h2
      rw [List.getElem?_append_left (by simpa using hi), List.getElem?_map] at h2
      cases e : vs[i]? with
      | none => rw [e] at h2; cases h2
      | some a => rw [e] at h2; cases h2; rfl
    obtain ⟨u, hu, rv⟩ := r.get ha
    have hp : ps[i]? = some y := by
      rw [← S.pre, List.getElem?_take_of_lt (by omega)]; exact h1
    have ndP : ps.Nodup := by rw [← S.pre]; exact S.nd.sublist (List.take_sublist _ _)
    refine ⟨u, rv, ?_⟩
    rcases S.par y (List.mem_of_getElem? hp) with k | k
    · exact .inl ⟨k, bindL_get ndP hp hu k⟩
    · obtain ⟨c, e⟩ := cell_has (n := s.heap.objs.size + 1) k
      refine .inr ⟨.inl k, c, e, ?_⟩
      have q := x.cell y c e
      rw [bindC_get ndP hp hu (by show scope.names.lookup y ≠ _; rw [k]; decide)] at q
      exact q
  · exact e0.hok.fresh (Nat.le_of_lt (x.above y c (PySem.mem_of_lookup h)))
  · unfold start
    show _ = N.length
    rw [List.length_append, List.length_map, List.length_replicate]
    omega
theorem fn_of {CX : CXT} {P : Program} {w : World} {K : PySem.W.Frag} {mg : Str → Option Value} {base : Heap} {k : Nat} {f : Addr} {name qual : Str} {params : Arguments} {body : List Stmt} {scope : Scope} {dV kV doc pm cdv ct oc : Value} {an od : Option Addr}
    {osl : Array (Option Value)} {N ps : List Str} {sp : Sp} (lk : K.lookup f = some ⟨oc, od, .func (PySem.W.fnOf name qual params body scope dV kV doc pm an cdv ct), osl⟩) (hcd : PySem.W.codeIn K cdv qual = true) (S : FnScope N ps scope)
    (len : ∀ vs H Q E, sp vs H Q E → vs.length = ps.length)
    (hbody : ∀ (A : Around) (outer : List Env) (s : Shared) (H : Hp) (vs : List V) (Q : VK) (E : XK), Room k (A.deeper (envOfC qual scope s.heap.objs.size f cdv)) → sp vs H Q E →
      ∃ t, PSs (cxOf CX P w K mg base N qual scope f cdv A outer s H E) body t ∧ t { nx := fun _ H' => Q .non H', rt := Q } (start N vs) H) :
    FnOk P w K mg base CX (k + 1) f (PySem.W.fnOf name qual params body scope dV kV doc pm an cdv ct) ps sp := by
  refine ⟨len, fun A outer s H args us vs Q E hr e0 hb r hsp => ?_⟩
  have hl := len _ _ _ _ hsp
  have KX : K.In s.heap := e0.mod.kin.keeps fun b o e => (e0.bs b o e).1
  have lim : s.heap.NoLimit := e0.mod.nolimit.keeps fun b o e => (e0.bs b o e).1
  have hkind : ∀ y ∈ ps.zip us, scope.names.lookup y.1 = some .local ∨ (scope.names.lookup y.1 = some .cell ∧ ((cellsFrom (s.heap.objs.size + 1) scope.names []).lookup y.1).isSome = true) := fun ⟨n, v⟩ hy => by
    rcases S.par n (List.of_mem_zip hy).1 with q | q
    · exact .inl q
    · exact .inr ⟨q, PySem.W.cellsFrom_some _ _ _ (.inl q)⟩
  refine codeAny_call_function hr.depth (KX _ _ lk) rfl S.co S.gen rfl (PySem.W.codeRec_of KX hcd) (hb _ _ _ _ ?_)
  refine wpAny_newFunctionEnv_cells S.kind hkind fun env he s1 x => ?_
  subst he
  refine ⟨lim.keeps x.toInCall.keep, codeAny_func ?_⟩
  obtain ⟨t, ht, hq⟩ := hbody A outer s H vs Q E (hr.deeper _) hsp
  have I : Inv (cxOf CX P w K mg base N qual scope f cdv A outer s H E) [] (start N vs) H s1 := inv_start S hr.hd e0 hl r x
  refine wpAny_mono (ht [] s1 (start N vs) H _ I hq) (fun fl s' hs => ?_) fun e s' hs => hs
  have fin : ∀ {σ' : St} {H' : Hp} {v : V} {u : Value}, Inv (cxOf CX P w K mg base N qual scope f cdv A outer s H E) [] σ' H' s' → RelV v u → Q v H' → CE outer P w H s Q u s' :=
    fun {σ' H' v u} J rv q => ⟨v, H', J.os, J.bare, J.base, J.hok, rv, q⟩
  cases fl with
  | ret u =>
    obtain ⟨v, σ', H', J, rv, q⟩ := hs
    exact fin J rv q
  | next =>
    obtain ⟨σ', H', J, q⟩ := hs
    exact fin (v := V.non) (u := Value.none) J rfl q
  | brk =>
    obtain ⟨_, _, _, q⟩ := hs
    exact False.elim q
  | cont =>
    obtain ⟨_, _, _, q⟩ := hs
    exact False.elim q
end L2
namespace L2
open PySem PySem.Spec PyProof.Rows
section
variable {X : Cx} {x : Str} {p pos : Pos} {e : Expr} {es : List Expr} {t : TA} {id T : String} {r : List V → Hp → VK → Prop}
noncomputable def tCB (r : List V → Hp → VK → Prop) (t : TA) : TE := fun σ H Q => t σ H fun vs H1 => r vs H1 Q
theorem pe_callB (hc : CallR X (.builtin id) r) (hg : Gl X x) (hm : X.mg x = none) (hv : bootBuiltins x = some (.builtin id)) (ha : PA X (e :: es) t) (hn : x ≠ "__name__" := by decide) (hdb : (x == ("__debug__" : Str)) = false := by decide)
    (he : starEach (e :: es) X.env = (false, eval e X.env) :: starEach es X.env := by rfl) (hpl : (backTo pos (starEach es X.env)).any (·.1) = false := by rfl) : PE X (.Call (.Name x p) (e :: es) [] pos) (tCB r t) := by
  intro pins s σ H Q I h
  refine wpAny_Call_Name_kw (ld_blt I hg hm hv ?_ hn hdb)
  exact PyProof.Rows.callWith_builtin1 (thn (ha pos pins s σ H _ I h) fun us s1 ⟨vs, H1, I1, r1, q1⟩ => hc pins s1 σ H1 vs us Q I1 r1 q1) he hpl
theorem pe_callTy (hc : CallR X (.type T) r) (hg : Gl X x) (hm : X.mg x = none) (hv : bootBuiltins x = some (.type T)) (ha : PA X (e :: es) t) (hn : x ≠ "__name__" := by decide) (hdb : (x == ("__debug__" : Str)) = false := by decide)
    (he : starEach (e :: es) X.env = (false, eval e X.env) :: starEach es X.env := by rfl) (hpl : (backTo pos (starEach es X.env)).any (·.1) = false := by rfl) : PE X (.Call (.Name x p) (e :: es) [] pos) (tCB r t) := by
  intro pins s σ H Q I h
  refine wpAny_Call_Name_kw (ld_blt I hg hm hv ?_ hn hdb)
  exact PyProof.Rows.callWith_type1 (thn (ha pos pins s σ H _ I h) fun us s1 ⟨vs, H1, I1, r1, q1⟩ => hc pins s1 σ H1 vs us Q I1 r1 q1) he hpl
end
end L2
namespace HT
open PySem PyProof.Rows
section
open PySem.SeqAt
open PySem.AutoSeq1 (wpAny_loadPart')
open PySem.MeetsSeq PySem.MeetsSeq2 PySem.MeetsSeq3
end
section
variable {prog : Program} {w : World} {A : Around} {E : Value → Shared → Prop} {s : Shared}
theorem cat_tup {t b : Addr} {vs ws : List Value} {Q : Value → Shared → Prop} (ht : IsTup s.heap t vs.toArray) (hb : IsTup s.heap b ws.toArray) (hv : vs ≠ [])
    (h1 : ws = [] → Q (.ref t) s) (h2 : ws ≠ [] → Q (.ref s.heap.objs.size) { s with heap := s.heap.push { cls := .type "tuple", data := .seq (vs ++ ws).toArray } })
    (hsz : vs.length + ws.length ≤ sizeLine) : wpAny (model prog w) A (binaryOp .Add (.ref t) (.ref b)) Q E s := by
  obtain ⟨⟨cls, dd, data, sl⟩, ho, hc, n, hd⟩ := id ht
  obtain ⟨⟨cls2, dd2, data2, sl2⟩, ho2, hc2, n2, hd2⟩ := id hb
  simp only at hc hd hc2 hd2
  subst hc hd hc2 hd2
  have e : vs.toArray ++ ws.toArray = (vs ++ ws).toArray := by simp
  by_cases hw : ws = []
  · exact concat_meets ⟨_, ho, rfl⟩ ⟨_, ho2, rfl⟩ noFill_tuple_add seq_tuple_add PySem.F.slot_tuple_add PySem.F.entry_tuple_add (PySem.F.args_tuple_add_2 _ _)
      (tuple_addW1 t b vs.toArray ws.toArray n n2 dd dd2 sl sl2 (by simpa using hv) (by simp [hw])) ⟨ho, ho2, h1 hw⟩
  · refine concat_meets ⟨_, ho, rfl⟩ ⟨_, ho2, rfl⟩ noFill_tuple_add seq_tuple_add PySem.F.slot_tuple_add PySem.F.entry_tuple_add (PySem.F.args_tuple_add_2 _ _)
      (tuple_addW2 t b vs.toArray ws.toArray n n2 dd dd2 sl sl2 (by simpa using hv) (by simpa using hw) (by rw [List.size_toArray, List.size_toArray]; exact hsz)) ⟨ho, ho2, ?_⟩
    rw [e]
    exact h2 hw
noncomputable def sIx (n d : Nat) : Option Int → Nat
  | none => d
  | some v => if v < 0 then (v + (n : Int)).toNat else min v.toNat n
theorem sIx_le (n d : Nat) (hd : d ≤ n) (o : Option Int) : sIx n d o ≤ n := by
  cases o with
  | none => exact hd
  | some v =>
    show (if v < 0 then (v + (n : Int)).toNat else min v.toNat n) ≤ n
    by_cases hv : v < 0
    · rw [if_pos hv]; omega
    · rw [if_neg hv]; exact Nat.min_le_right _ _
theorem clip_eq (v : Int) (n d : Nat) : (if v < 0 then max (v + (n : Int)) 0 else min v (n : Int)) = ((sIx n d (some v) : Nat) : Int) := by
  show (if v < 0 then max (v + (n : Int)) 0 else min v (n : Int)) = (((if v < 0 then (v + (n : Int)).toNat else min v.toNat n) : Nat) : Int)
  by_cases hv : v < 0
  · simp only [if_pos hv]; omega
  · simp only [if_neg hv]; omega
theorem adjust_gen (lo hi : Option Int) (n : Nat) : Builtin.Slice.sliceAdjust lo hi 1 (n : Int) = (((sIx n 0 lo : Nat) : Int), ((sIx n n hi : Nat) : Int)) := by
  have h1 : ¬ ((1 : Int) < 0) := by omega
  unfold Builtin.Slice.sliceAdjust
  simp only [h1, if_false]
  refine Prod.ext ?_ ?_
  · cases lo with
    | none => rfl
    | some v => exact clip_eq v n 0
  · cases hi with
    | none => rfl
    | some v => exact clip_eq v n n
theorem places_gen (i j : Nat) : Builtin.Slice.slicePlaces (i : Int) (j : Int) 1 = j - i := by
  unfold Builtin.Slice.slicePlaces
  have h1 : (1 : Int) > 0 := by omega
  simp only [h1, if_true, Int.ediv_one]
  split <;> omega
theorem slicePart_ {v : Value} {o : Option Int} {Q : Option Int → Shared → Prop} (p : IsPart v o) (h : Q o s) : wpAny (model prog w) A (Builtin.Slice.slicePartIndex v) Q E s := by
  cases p with
  | none => exact slicePart_none h
  | int i t => exact slicePart_int h
theorem sliceApplied_gen {sl : Addr} {vl vu : Value} {lo hi : Option Int} {n : Nat} {Q : Int × Int × Nat → Shared → Prop} (hs : s.heap.IsSliceOf sl vl vu .none) (pl : IsPart vl lo) (pu : IsPart vu hi)
    (h : Q (((sIx n 0 lo : Nat) : Int), 1, sIx n n hi - sIx n 0 lo) s) : wpAny (model prog w) A (Builtin.Slice.sliceApplied (.ref sl) (pure (n : Int))) Q E s := by
  obtain ⟨os, hos, hcs, hds⟩ := id hs
  unfold Builtin.Slice.sliceApplied Builtin.Slice.sliceFields
  refine wpAny_bind (wpAny_bind (wpAny_field hos hds (x := vl) rfl (wpAny_bind (wpAny_field hos hds (x := vu) rfl (wpAny_bind (wpAny_field hos hds (x := .none) rfl (wpAny_pure ?_)))))))
  refine wpAny_bind (slicePart_none ?_)
  show wpAny _ _ (if ((1 : Int) == 0) = true then _ else _) _ _ s
  rw [if_neg (by decide)]
  refine wpAny_bind (slicePart_ pl (wpAny_bind (slicePart_ pu (wpAny_bind (wpAny_pure ?_)))))
  show wpAny _ _ (match Builtin.Slice.sliceAdjust lo hi 1 (n : Int) with | (lo, hi) => pure (lo, (1 : Int), Builtin.Slice.slicePlaces lo hi 1)) _ _ s
  rw [adjust_gen lo hi n]
  show wpAny _ _ (pure (((sIx n 0 lo : Nat) : Int), (1 : Int), Builtin.Slice.slicePlaces ((sIx n 0 lo : Nat) : Int) ((sIx n n hi : Nat) : Int) 1)) _ _ s
  rw [places_gen]
  exact wpAny_pure h
theorem pick_gen (xs : Array Value) (i k : Nat) : ((List.range k).filterMap fun (m : Nat) => xs[((i : Int) + (m : Int) * 1).toNat]?).toArray = ((xs.toList.drop i).take k).toArray := by
  have e : (fun (m : Nat) => xs[((i : Int) + (m : Int) * 1).toNat]?) = fun m => xs[i + m]? := by
    funext m
    have : ((i : Int) + (m : Int) * 1).toNat = i + m := by omega
    rw [this]
  rw [e]
  have := pick_run xs i k
  rw [List.filterMap_map] at this
  have e2 : ((fun x => xs[x]?) ∘ fun x => i + x) = fun m => xs[i + m]? := rfl
  rw [e2] at this
  rw [this]
theorem getItem_tuple_cut {t sl : Addr} {items : Array Value} {vl vu : Value} {lo hi : Option Int} {Q : Value → Shared → Prop} (ht : IsTup s.heap t items) (hs : s.heap.IsSliceOf sl vl vu .none) (pl : IsPart vl lo) (pu : IsPart vu hi)
    (hw : ¬ (sIx items.size 0 lo = 0 ∧ sIx items.size items.size hi = items.size))
    (h : Q (.ref s.heap.objs.size) { s with heap := s.heap.push { cls := .type "tuple", data := .seq ((items.toList.drop (sIx items.size 0 lo)).take (sIx items.size items.size hi - sIx items.size 0 lo)).toArray } })
    (hsz : items.size ≤ sizeLine) : wpAny (model prog w) A (getItem (.ref t) (.ref sl)) Q E s := by
  have htake : sizeOk (.seq ((items.toList.drop (sIx items.size 0 lo)).take (sIx items.size items.size hi - sIx items.size 0 lo)).toArray) := by
    show ((items.toList.drop (sIx items.size 0 lo)).take (sIx items.size items.size hi - sIx items.size 0 lo)).toArray.size ≤ sizeLine
    rw [List.size_toArray, List.length_take, List.length_drop, Array.length_toList]
    omega
  have hj : sIx items.size items.size hi ≤ items.size := sIx_le _ _ (Nat.le_refl _) hi
  obtain ⟨os, hos, hcs, hds⟩ := id hs
  have hTs : s.TypeIs (.ref sl) "slice" := ⟨os, hos, hcs⟩
  unfold getItem
  try with_reducible refine wpAny_holding ?_
  first | refine wpAny_bind (wpAny_pure ?_) | skip
  refine wpAny_bind (wpAny_sequenceKey ht.typeIs (by decide) ?_)
  refine wpAny_bind (wpAny_callSpecial?_slot (name := Str.ofString "__getitem__") ht.typeIs PyProof.Rows.slot_tuple_getitem
    (wpAny_call_entry PyProof.Rows.slot_tuple_getitem ht.typeIs entry_tuple_getitem ?_ (args_tuple_getitem _ _)))
  show wpAny _ _ (Builtin.Tuple.tupleItemsOf (.ref t) >>= _) _ _ s
  refine wpAny_bind (tupleItemsOf_ ht ?_)
  refine wpAny_bind (wpAny_typeOf hTs ?_)
  rw [if_pos (by decide)]
  refine wpAny_bind (sliceApplied_gen hs pl pu ?_)
  have hno : ¬ ((((sIx items.size 0 lo : Nat) : Int) == 0 && (1 : Int) == 1 && (sIx items.size items.size hi - sIx items.size 0 lo) == items.size) = true) := by
    intro q
    rw [Bool.and_eq_true, Bool.and_eq_true] at q
    have q1 : ((sIx items.size 0 lo : Nat) : Int) = 0 := eq_of_beq q.1.1
    have q2 : sIx items.size items.size hi - sIx items.size 0 lo = items.size := eq_of_beq q.2
    exact hw ⟨by omega, by omega⟩
  show wpAny _ _ (if (((sIx items.size 0 lo : Nat) : Int) == 0 && (1 : Int) == 1 && (sIx items.size items.size hi - sIx items.size 0 lo) == items.size) = true then _ else _) _ _ s
  rw [if_neg hno, pick_gen]
  first
    | exact wpAny_bind (m := Builtin.Tuple.tupleExact _) (wpAny_newObj_type (wpAny_pure ⟨_, rfl, wpAny_pure h⟩) htake)
    | exact wpAny_bind (m := Builtin.Tuple.tupleExact _) (wpAny_newObj_type (wpAny_bind (wpAny_pure (wpAny_pure ⟨_, rfl, wpAny_pure h⟩))) htake)
    | exact wpAny_bind (wpAny_bind (m := Builtin.Tuple.tupleExact _) (wpAny_newObj_type (wpAny_pure (wpAny_pure ⟨_, rfl, wpAny_pure h⟩)) htake))
    | exact wpAny_bind (wpAny_bind (m := Builtin.Tuple.tupleExact _) (wpAny_newObj_type (wpAny_pure ⟨_, rfl, wpAny_pure h⟩) htake))
end
end HT
namespace L2
open PySem PySem.Spec PyProof.Rows
noncomputable abbrev TO := St → Hp → (Option Int → Hp → Prop) → Prop
noncomputable def PO (X : Cx) (e : Option Expr) (t : TO) : Prop :=
  ∀ (pins : List (Addr × Obj)) (s : Shared) (σ : St) (H : Hp) (Q : Option Int → Hp → Prop), Inv X pins σ H s → t σ H Q →
    wpAny (model X.prog X.w) X.A (evalPart e X.env) (fun u s' => ∃ o H', Inv X pins σ H' s' ∧ IsPart u o ∧ Q o H') X.xe s
noncomputable def tNoPart : TO := fun _ H Q => Q none H
noncomputable def tPart (t : TE) : TO := fun σ H Q => t σ H fun x H1 => ∃ i, x = .int i ∧ Q (some i) H1
section
variable {X : Cx} {e : Expr} {te : TE} {lo hi : Option Expr} {tl th : TO} {pos p2 : Pos}
theorem po_none : PO X none tNoPart := by
  intro pins s σ H Q I h
  rw [evalPart_none]
  exact wpAny_pure ⟨none, H, I, .none, h⟩
theorem po_some (h : PE X e te) : PO X (some e) (tPart te) := by
  intro pins s σ H Q I hw
  rw [evalPart_some]
  refine thn (h pins s σ H _ I hw) fun u s1 ⟨x, H1, I1, r1, q1⟩ => ?_
  obtain ⟨i, rfl, q⟩ := q1
  obtain ⟨t, rfl⟩ := r1
  exact ⟨some i, H1, I1, .int i t, q⟩
noncomputable def SlR (X : Cx) (r : V → Option Int → Option Int → Hp → VK → Prop) : Prop :=
  ∀ (pins : List (Addr × Obj)) (s : Shared) (σ : St) (H : Hp) (x : V) (v vl vu : Value) (lo hi : Option Int) (sl : Addr) (Q : VK), Inv X pins σ H s → RelV x v → s.heap.IsSliceOf sl vl vu .none → IsPart vl lo → IsPart vu hi → r x lo hi H Q →
    ∃ T id, typeLookup (.type T) "__getitem__" = pure (some (.builtin id)) ∧ s.TypeIs v T ∧ wpAny (model X.prog X.w) X.A (getItem v (.ref sl)) (EP X pins σ Q) X.xe s
theorem SlR.or {r r' : V → Option Int → Option Int → Hp → VK → Prop} (h : SlR X r) (h' : SlR X r') : SlR X (fun x lo hi H Q => r x lo hi H Q ∨ r' x lo hi H Q) := by
  intro pins s σ H x v vl vu lo hi sl Q I rx hs pl pu q
  rcases q with q | q
  · exact h pins s σ H x v vl vu lo hi sl Q I rx hs pl pu q
  · exact h' pins s σ H x v vl vu lo hi sl Q I rx hs pl pu q
noncomputable def tSl (r : V → Option Int → Option Int → Hp → VK → Prop) (te : TE) (tl th : TO) : TE := fun σ H Q => te σ H fun x H1 => tl σ H1 fun l H2 => th σ H2 fun u H3 => r x l u H3 Q
theorem pe_slice {r : V → Option Int → Option Int → Hp → VK → Prop} (hr : SlR X r) (he : PE X e te) (hl : PO X lo tl) (hu : PO X hi th) : PE X (.Subscript e (.Slice lo hi none p2) pos) (tSl r te tl th) := by
  intro pins s σ H Q I h
  refine Subscript_ (thn (he pins s σ H _ I h) fun v s1 ⟨x, H1, I1, r1, q1⟩ => ?_)
  refine wpAny_Slice (thn (hl pins s1 σ H1 _ I1 q1) fun vl s2 ⟨l, H2, I2, pl, q2⟩ => thn (hu pins s2 σ H2 _ I2 q2) fun vu s3 ⟨u, H3, I3, pu, q3⟩ => ?_)
  rw [evalPart_none]
  refine wpAny_pure ?_
  have I4 : Inv X pins σ H3 { s3 with heap := s3.heap.push { cls := .type "slice", data := .fields #[vl, vu, .none] } } := I3.kept (t' := s3.toks) fun b ob q => Heap.get?_push_of_some _ q
  obtain ⟨T, id, hT, ht, hg⟩ := hr pins { s3 with heap := s3.heap.push { cls := .type "slice", data := .fields #[vl, vu, .none] } } σ H3 x v vl vu l u s3.heap.objs.size Q I4 r1 (Heap.IsSliceOf.new ..) pl pu q3
  show wpAny (model X.prog X.w) X.A (subscriptTail e (.Slice lo hi none p2) v (.ref s3.heap.objs.size)) (EP X pins σ Q) X.xe { s3 with heap := s3.heap.push { cls := .type "slice", data := .fields #[vl, vu, .none] } }
  exact tail_any (ops := [.ref s3.heap.objs.size, v]) ht hT hg (by with_unfolding_all rfl)
noncomputable def cutV (xs : List V) (lo hi : Option Int) : List V := (xs.drop (HT.sIx xs.length 0 lo)).take (HT.sIx xs.length xs.length hi - HT.sIx xs.length 0 lo)
theorem cutV_length (xs : List V) (lo hi : Option Int) : (cutV xs lo hi).length ≤ xs.length := by
  unfold cutV
  rw [List.length_take, List.length_drop]
  omega
noncomputable def rSlT (K : PySem.W.Frag) : V → Option Int → Option Int → Hp → VK → Prop := fun x lo hi H Q => ∃ a xs, x = .ref a ∧ SqT K H a xs ∧
  ¬ (HT.sIx xs.length 0 lo = 0 ∧ HT.sIx xs.length xs.length hi = xs.length) ∧ ∀ p, H p = none → Q (.ref p) (upd H p (.tup (cutV xs lo hi)))
theorem sl_tup : SlR X (rSlT X.K) := by
  intro pins s σ H x v vl vu lo hi sl Q I rx hs pl pu h
  obtain ⟨a, xs, rfl, hx, hw, q⟩ := h
  cases rx
  obtain ⟨its, r, ht, hz⟩ := I.tuple hx
  have hlen : its.toArray.size = xs.length := by rw [List.size_toArray]; exact r.length.symm
  refine ⟨"tuple", _, PyProof.Rows.slot_tuple_getitem.lookup, ht.typeIs, ?_⟩
  refine HT.getItem_tuple_cut ht hs pl pu (by rw [hlen]; exact hw) ?_ (by rw [hlen]; exact hz)
  rw [hlen]
  refine ⟨.ref s.heap.objs.size, _, I.laid (t' := s.toks) (o := .tup (cutV xs lo hi)) (fun b ob q => Heap.get?_push_of_some _ q) (Nat.le_refl _) ?_, rfl, q _ (I.hok.fresh (Nat.le_refl _))⟩
  exact ⟨Nat.le_trans (cutV_length xs lo hi) hz, _, (r.drop (HT.sIx xs.length 0 lo)).take (HT.sIx xs.length xs.length hi - HT.sIx xs.length 0 lo), IsTup.new _ _⟩
noncomputable def rCatT (K : PySem.W.Frag) : R2 := fun x y H Q => ∃ a b xs ys, x = .ref a ∧ y = .ref b ∧ SqT K H a xs ∧ SqT K H b ys ∧ xs ≠ [] ∧ xs.length + ys.length ≤ sizeLine ∧
  (ys = [] → Q (.ref a) H) ∧ (ys ≠ [] → ∀ p, H p = none → Q (.ref p) (upd H p (.tup (xs ++ ys))))
theorem Vals.nil_iff {xs : List V} {us : List Value} (r : Vals xs us) : us = [] ↔ xs = [] := by
  cases r with
  | nil => simp
  | cons _ _ => simp
theorem op_catT : OpR X (binaryOp .Add) (rCatT X.K) := by
  intro pins s σ H x y v u Q I rx ry h
  obtain ⟨a, b, xs, ys, rfl, rfl, ha, hb, hx, hz, q1, q2⟩ := h
  cases rx
  cases ry
  obtain ⟨its, r1, p1, _⟩ := I.tuple ha
  obtain ⟨its2, r2, p2, _⟩ := I.tuple hb
  refine HT.cat_tup p1 p2 (fun z => hx (r1.nil_iff.mp z)) (fun z => ⟨.ref a, H, I, rfl, q1 (r2.nil_iff.mp z)⟩) (fun z => ?_) (by rw [← r1.length, ← r2.length]; exact hz)
  refine ⟨.ref s.heap.objs.size, _, I.laid (t' := s.toks) (o := .tup (xs ++ ys)) (fun b ob q => Heap.get?_push_of_some _ q) (Nat.le_refl _) ?_, rfl, q2 (fun w => z (r2.nil_iff.mpr w)) _ (I.hok.fresh (Nat.le_refl _))⟩
  exact ⟨by rw [List.length_append]; exact hz, _, r1.append r2, IsTup.new _ _⟩
end
end L2
namespace L2
open PySem PySem.Spec PyProof.Rows
noncomputable def ixN (n : Nat) (i : Int) : Option Nat := if 0 ≤ i then (if i < n then some i.toNat else none) else if -(n : Int) ≤ i then some (i + n).toNat else none
noncomputable def atI {α : Type} (xs : List α) (i : Int) : Option α := (ixN xs.length i).bind fun j => xs[j]?
theorem ixN_seq {n : Nat} {i : Int} {j : Nat} (h : ixN n i = some j) : seqIndex? i n = some j ∧ j < n ∧ -(n : Int) ≤ i ∧ i < n := by
  unfold ixN at h
  by_cases h0 : 0 ≤ i
  · rw [if_pos h0] at h
    by_cases h1 : i < n
    · rw [if_pos h1] at h
      have e : i.toNat = j := Option.some.inj h
      exact ⟨by rw [seqIndex_of h0 h1, e], by omega, by omega, h1⟩
    · rw [if_neg h1] at h; cases h
  · rw [if_neg h0] at h
    by_cases h1 : -(n : Int) ≤ i
    · rw [if_pos h1] at h
      have e : (i + n).toNat = j := Option.some.inj h
      exact ⟨by rw [seqIndex_neg (by omega) h1, e], by omega, h1, by omega⟩
    · rw [if_neg h1] at h; cases h
theorem atI_get {α : Type} {xs : List α} {i : Int} {v : α} (h : atI xs i = some v) : ∃ j, seqIndex? i xs.length = some j ∧ xs[j]? = some v ∧ j < xs.length ∧ -(xs.length : Int) ≤ i ∧ i < xs.length := by
  unfold atI at h
  cases e : ixN xs.length i with
  | none => rw [e] at h; cases h
  | some j =>
    rw [e] at h
    obtain ⟨h1, h2, h3, h4⟩ := ixN_seq e
    exact ⟨j, h1, h, h2, h3, h4⟩
theorem atI_nat {α : Type} {xs : List α} {j : Nat} {v : α} (h : xs[j]? = some v) : atI xs (j : Int) = some v := by
  have hj : j < xs.length := (List.getElem?_eq_some_iff.mp h).1
  have e : ixN xs.length (j : Int) = some j := by
    unfold ixN
    rw [if_pos (by omega), if_pos (by omega)]; simp
  unfold atI; rw [e]; exact h
noncomputable def PlainIx (b : Expr) : Prop := ∀ o i, subscripted b false o i = operate [o, i] (getItem o i)
noncomputable def IxR (X : Cx) (r : R2) : Prop :=
  ∀ (value slice : Expr) (pins : List (Addr × Obj)) (s : Shared) (σ : St) (H : Hp) (x y : V) (v u : Value) (Q : VK), Inv X pins σ H s → RelV x v → RelV y u → r x y H Q →
    subscripted slice false v u = operate [v, u] (getItem v u) → wpAny (model X.prog X.w) X.A (subscriptTail value slice v u) (EP X pins σ Q) X.xe s
noncomputable def MtR (X : Cx) (id : String) (r : V → List V → Hp → VK → Prop) : Prop :=
  ∀ (pins : List (Addr × Obj)) (s : Shared) (σ : St) (H : Hp) (x : V) (xs : List V) (v : Value) (us : List Value) (Q : VK), Inv X pins σ H s → RelV x v → Vals xs us → r x xs H Q →
    wpAny (model X.prog X.w) X.A (call (.builtin id) (v :: us)) (EP X pins σ Q) X.xe s
section
variable {X : Cx} {a b : Expr} {ta tb : TE} {pos : Pos}
theorem IxR.or {r r' : R2} (h : IxR X r) (h' : IxR X r') : IxR X (fun x y H Q => r x y H Q ∨ r' x y H Q) := by
  intro value slice pins s σ H x y v u Q I rx ry q hs
  rcases q with q | q
  · exact h value slice pins s σ H x y v u Q I rx ry q hs
  · exact h' value slice pins s σ H x y v u Q I rx ry q hs
theorem pe_ix {r : R2} (hr : IxR X r) (ha : PE X a ta) (hb : PE X b tb) (hs : PlainIx b) : PE X (.Subscript a b pos) (tOp r ta tb) := by
  intro pins s σ H Q I h
  exact Subscript_ (binT ha hb I h fun v u s2 x y H2 I2 rx ry q => hr a b pins s2 σ H2 x y v u Q I2 rx ry q (hs _ _))
noncomputable def rIxL (K : PySem.W.Frag) : R2 := fun x y H Q => ∃ p xs i v, x = .ref p ∧ y = .int i ∧ SqL K H p xs ∧ atI xs i = some v ∧ Q v H
noncomputable def rIxT (K : PySem.W.Frag) : R2 := fun x y H Q => ∃ p xs i v, x = .ref p ∧ y = .int i ∧ SqT K H p xs ∧ atI xs i = some v ∧ Q v H
noncomputable def rIxS : R2 := fun x y H Q => ∃ z i c, x = .str z ∧ y = .int i ∧ z.length ≤ sizeLine ∧ atI z.cps.toList i = some c ∧ Q (.str ⟨#[c]⟩) H
theorem ix_list : IxR X (rIxL X.K) := by
  intro value slice pins s σ H x y v u Q I rx ry h hs
  obtain ⟨p, xs, i, z, rfl, rfl, hq, he, q⟩ := h
  cases rx
  obtain ⟨t, rfl⟩ := ry
  obtain ⟨its, r, pl, hz⟩ := I.list hq
  obtain ⟨j, h1, h2, h3, h4, h5⟩ := atI_get he
  obtain ⟨w, ew, rw'⟩ := r.get h2
  have hl := r.length
  have hn := line63
  have fin : EP X pins σ Q w s := ⟨z, H, I, rw', q⟩
  by_cases h0 : 0 ≤ i
  · have hj : i.toNat = j := by
      rw [seqIndex_of h0 h5] at h1
      exact Option.some.inj h1
    exact item_listR pl.isList h0 (by omega) (by rw [hj]; simpa using ew) fin hs
  · have hj : (i + (its.toArray.size : Int)).toNat = j := by
      rw [seqIndex_neg (by omega) h4] at h1
      rw [List.size_toArray, ← hl]
      exact Option.some.inj h1
    exact subscriptTail_builtinR (x := w) pl.isList.typeIs slot_list_getitem.lookup
      (wpAny_getItem_list_neg (Q := fun r s' => r = w ∧ EP X pins σ Q r s') pl.isList (by omega) (by rw [List.size_toArray] <;> omega) (by omega) (by rw [hj]; simpa using ew) ⟨rfl, fin⟩) hs
theorem ix_tup : IxR X (rIxT X.K) := by
  intro value slice pins s σ H x y v u Q I rx ry h hs
  obtain ⟨p, xs, i, z, rfl, rfl, hq, he, q⟩ := h
  cases rx
  obtain ⟨t, rfl⟩ := ry
  obtain ⟨its, r, pl, hz⟩ := I.tuple hq
  obtain ⟨j, h1, h2, h3, h4, h5⟩ := atI_get he
  obtain ⟨w, ew, rw'⟩ := r.get h2
  have hl := r.length
  have hn := line63
  have fin : EP X pins σ Q w s := ⟨z, H, I, rw', q⟩
  exact subscriptTail_builtinR (x := w) pl.typeIs slot_tuple_getitem.lookup
    (getItem_tuple (j := j) (Q := fun r s' => r = w ∧ EP X pins σ Q r s') pl (by omega) (by omega) (by rw [List.size_toArray, ← hl]; exact h1) (by simpa using ew) ⟨rfl, fin⟩) hs
theorem ix_str : IxR X rIxS := by
  intro value slice pins s σ H x y v u Q I rx ry h hs
  obtain ⟨z, i, c, rfl, rfl, hz, he, q⟩ := h
  obtain ⟨t, rfl⟩ := rx
  obtain ⟨t', rfl⟩ := ry
  obtain ⟨j, h1, h2, h3, h4, h5⟩ := atI_get he
  have hl : z.cps.toList.length = z.length := by simp [Str.length]
  rw [hl] at h1 h4 h5
  have hn := line63
  exact tail_any (typeIs_str s z t) slot_str_getitem.lookup (getItem_str (c := c) (by
    have e1 : decide (i < -(2 ^ 63 : Int)) = false := decide_eq_false (by omega)
    have e2 : decide (i ≥ 2 ^ 63) = false := decide_eq_false (by omega)
    rw [e1, e2, Bool.or_false]) (by rw [h1]; simpa using h2) ⟨.str ⟨#[c]⟩, H, I.tok _, ⟨_, rfl⟩, q⟩) hs
noncomputable def rIx (K : PySem.W.Frag) : R2 := fun x y H Q => rIxL K x y H Q ∨ rIxT K x y H Q ∨ rIxS x y H Q
theorem ix_seq : IxR X (rIx X.K) := ix_list.or (ix_tup.or ix_str)
theorem mapSeq_set (its : List Value) (n j : Nat) (u : Value) : Obj.mapSeq (·.setIfInBounds j u) { cls := .type "list", data := .seq its.toArray n } = { cls := .type "list", data := .seq (its.set j u).toArray n } := by
  simp [Obj.mapSeq]
theorem Inv.lst {pins : List (Addr × Obj)} {σ : St} {H : Hp} {s : Shared} {p : Addr} {xs : List V} (I : Inv X pins σ H s) (h : H p = some (.lst xs)) :
    ∃ (its : List Value) (n : Nat), Vals xs its ∧ s.heap.get? p = some { cls := .type "list", data := .seq its.toArray n } ∧ xs.length ≤ sizeLine := by
  obtain ⟨z, its, n, r, e⟩ := I.hok p _ h
  exact ⟨its, n, r, e, z⟩
theorem Inv.lstUpd {pins : List (Addr × Obj)} {σ : St} {H : Hp} {s : Shared} {p : Addr} {xs ys : List V} {its its' : List Value} {n n' : Nat} {f : Obj → Obj} (I : Inv X pins σ H s) (h : H p = some (.lst xs))
    (ho : s.heap.get? p = some { cls := .type "list", data := .seq its.toArray n }) (hf : f { cls := .type "list", data := .seq its.toArray n } = { cls := .type "list", data := .seq its'.toArray n' }) (r : Vals ys its') (hz : ys.length ≤ sizeLine) (t : Nat) :
    Inv X pins σ (upd H p (.lst ys)) { s with heap := s.heap.update p f, toks := t } := by
  have e : (s.heap.update p f).get? p = some { cls := .type "list", data := .seq its'.toArray n' } := by
    rw [Heap.get?_update_self f ho (by rw [hf] <;> rfl), hf]
  refine I.write (x := p) (e := p) (by rw [h]; trivial) (.inl rfl) (fun b u hb q => (Heap.get?_update_other _ _ (Ne.symm hb)).trans q) ⟨_, e⟩ ?_
  exact ⟨hz, its', n', r, e⟩
noncomputable def rSetL : V → V → V → Hp → (Hp → Prop) → Prop := fun o i v H Q => ∃ p xs k j, o = .ref p ∧ i = .int k ∧ H p = some (.lst xs) ∧ ixN xs.length k = some j ∧ Q (upd H p (.lst (xs.set j v)))
theorem set_list : PSet X rSetL := by
  intro pins s σ H o i v ov iv u Q I ro ri rv h
  obtain ⟨p, xs, k, j, rfl, rfl, hp, hj, q⟩ := h
  cases ro
  obtain ⟨t, rfl⟩ := ri
  obtain ⟨its, n, r, ho, hz⟩ := I.lst hp
  obtain ⟨h1, h2, h3, h4⟩ := ixN_seq hj
  have hl := r.length
  have hn := line63
  have I' : Inv X pins σ (upd H p (.lst (xs.set j v))) { s with heap := s.heap.update p (Obj.mapSeq (·.setIfInBounds j u)) } :=
    I.lstUpd hp ho (mapSeq_set its n j u) (r.set rv j) (by rw [List.length_set]; exact hz) s.toks
  by_cases h0 : 0 ≤ k
  · have hk : k.toNat = j := by
      rw [seqIndex_of h0 h4] at h1
      exact Option.some.inj h1
    exact PySem.W.ki_setAt ho h0 (by omega) (by rw [List.size_toArray, ← hl]; exact h4) (by rw [hk]; exact ⟨_, I', q⟩)
  · have hk : (k + (its.toArray.size : Int)).toNat = j := by
      rw [seqIndex_neg (by omega) h3] at h1
      rw [List.size_toArray, ← hl]
      exact Option.some.inj h1
    exact PySem.W.ki_setBack ho (by omega) (by rw [List.size_toArray, ← hl]; exact h3) (by omega) (by rw [hk]; exact ⟨_, I', q⟩)
theorem slice_bounds (lo hi : Option Int) (n : Nat) : (sliceBounds lo hi none n).1 = ((HT.sIx n 0 lo : Nat) : Int) ∧ (sliceBounds lo hi none n).2.1 = ((HT.sIx n n hi : Nat) : Int) ∧ (sliceBounds lo hi none n).2.2 = 1 := by
  refine ⟨?_, ?_, rfl⟩
  · cases lo with
    | none => simp [sliceBounds, HT.sIx]
    | some i =>
      simp only [sliceBounds, HT.sIx, Option.getD_none, show (1 : Int) > 0 by decide, if_true]
      by_cases h : i < 0
      · simp only [h, if_true] <;> omega
      · simp only [h, if_false] <;> omega
  · cases hi with
    | none => simp [sliceBounds, HT.sIx]
    | some i =>
      simp only [sliceBounds, HT.sIx, Option.getD_none, show (1 : Int) > 0 by decide, if_true]
      by_cases h : i < 0
      · simp only [h, if_true] <;> omega
      · simp only [h, if_false] <;> omega
theorem slicePick_cut (its : List Value) (lo hi : Option Int) : slicePick its.toArray lo hi none = ((its.drop (HT.sIx its.length 0 lo)).take (HT.sIx its.length its.length hi - HT.sIx its.length 0 lo)).toArray := by
  obtain ⟨h1, h2, h3⟩ := slice_bounds lo hi its.toArray.size
  unfold slicePick
  rw [h1, h2, h3]
  simp only [sliceRange_one, pick_run, List.size_toArray] <;> rfl
noncomputable def rSlL (K : PySem.W.Frag) : V → Option Int → Option Int → Hp → VK → Prop := fun x lo hi H Q => ∃ a xs, x = .ref a ∧ SqL K H a xs ∧ ∀ p, H p = none → Q (.ref p) (upd H p (.lst (cutV xs lo hi)))
theorem sl_list : SlR X (rSlL X.K) := by
  intro pins s σ H x v vl vu lo hi sl Q I rx hs pl pu h
  obtain ⟨a, xs, rfl, hx, q⟩ := h
  cases rx
  obtain ⟨its, r, ht, hz⟩ := I.list hx
  have hlen := r.length
  refine ⟨"list", _, slot_list_getitem.lookup, ht.isList.typeIs, ?_⟩
  refine wpAny_getItem_list_slice ht.isList hs pl pu .none (by simp) ?_ (by rw [List.size_toArray] <;> omega)
  rw [slicePick_cut, ← hlen]
  refine ⟨.ref s.heap.objs.size, _, I.laid (t' := s.toks) (o := .lst (cutV xs lo hi)) (fun b ob q => Heap.get?_push_of_some _ q) (Nat.le_refl _) ?_, rfl, q _ (I.hok.fresh (Nat.le_refl _))⟩
  exact ⟨Nat.le_trans (cutV_length xs lo hi) hz, _, 0, (r.drop (HT.sIx xs.length 0 lo)).take (HT.sIx xs.length xs.length hi - HT.sIx xs.length 0 lo), Heap.get?_push_size _ rfl⟩
noncomputable def flatV : V → Bool
  | .non => true
  | .bl _ => true
  | .int _ => true
  | .str _ => true
  | _ => false
theorem call_list_of : CallR X (.type "list") (fun xs H Q => ∃ p ys, xs = [.ref p] ∧ (SqL X.K H p ys ∨ SqT X.K H p ys) ∧ ∀ l, H l = none → Q (.ref l) (upd H l (.lst ys))) := by
  intro pins s σ H xs us Q I r h
  obtain ⟨p, ys, rfl, hq, q⟩ := h
  obtain ⟨u, rfl, rx⟩ := vals1 r
  cases rx
  have fin : ∀ (its : List Value), Vals ys its → ys.length ≤ sizeLine → ∀ (h' : Heap) (c' : Nat), (∀ b o', s.heap.get? b = some o' → h'.get? b = some o') →
      h'.get? s.heap.objs.size = some { cls := .type "list", dict := none, data := .seq its.toArray c', slots := #[] } → EP X pins σ Q (.ref s.heap.objs.size) { s with heap := h' } := fun its r' hz h' c' kp e =>
    ⟨.ref s.heap.objs.size, _, I.laid (t' := s.toks) kp (Nat.le_refl _) (show ObjOk X.prog X.w _ h' _ (.lst ys) from ⟨hz, its, c', r', e⟩), rfl, q _ (I.hok.fresh (Nat.le_refl _))⟩
  rcases hq with hq | hq
  · obtain ⟨its, r', pl, hz⟩ := I.list hq
    have hlen := r'.length
    obtain ⟨o, ho, hc, n, hd⟩ := pl.isList
    exact call_list_seq p (.inl rfl) ho hc hd (fun h' c' kp e => fin its r' hz h' c' kp e) (by simp only [List.size_toArray] <;> omega)
  · obtain ⟨its, r', pl, hz⟩ := I.tuple hq
    have hlen := r'.length
    obtain ⟨o, ho, hc, n, hd⟩ := pl
    exact call_list_seq p (.inr rfl) ho hc hd (fun h' c' kp e => fin its r' hz h' c' kp e) (by simp only [List.size_toArray] <;> omega)
theorem call_tuple_of : CallR X (.type "tuple") (fun xs H Q => ∃ p ys, xs = [.ref p] ∧ ((SqL X.K H p ys ∧ ∀ l, H l = none → Q (.ref l) (upd H l (.tup ys))) ∨ (SqT X.K H p ys ∧ Q (.ref p) H))) := by
  intro pins s σ H xs us Q I r h
  obtain ⟨p, ys, rfl, h⟩ := h
  obtain ⟨u, rfl, rx⟩ := vals1 r
  cases rx
  rcases h with ⟨hq, q⟩ | ⟨hq, q⟩
  · obtain ⟨its, r', pl, hz⟩ := I.list hq
    have hlen := r'.length
    refine call_tuple_list pl.isList (fun h' kp => ?_) (by simp only [List.size_toArray] <;> omega)
    have I1 : Inv X pins σ H { s with heap := h' } := I.kept (t' := s.toks) kp
    have I2 : Inv X pins σ (upd H h'.objs.size (.tup ys)) { s with heap := h'.push { cls := .type "tuple", data := .seq its.toArray } } :=
      I1.laid (t' := s.toks) (fun b o e => Heap.get?_push_of_some _ e) (Nat.le_refl _) (show ObjOk X.prog X.w _ _ _ (.tup ys) from ⟨hz, its, r', IsTup.new _ _⟩)
    exact ⟨.ref h'.objs.size, _, I2, rfl, q _ (I1.hok.fresh (Nat.le_refl _))⟩
  · obtain ⟨its, r', pl, hz⟩ := I.tuple hq
    exact call_tuple_same pl ⟨.ref p, H, I, rfl, q⟩
noncomputable def tyV (K : PySem.W.Frag) (T : String) (x : V) (H : Hp) : Prop := match x with
  | .str _ => T = "str"
  | .int _ => T = "int"
  | .ref p => (T = "list" ∧ ∃ xs, SqL K H p xs) ∨ (T = "tuple" ∧ ∃ o, K.lookup p = some o ∧ o.cls = .type "tuple" ∧ o.dict = none) ∨
      (T = "dict" ∧ ((∃ kvs, H p = some (.dK kvs)) ∨ ∃ kvs, H p = some (.dT kvs))) ∨ (T = "set" ∧ ∃ S n, H p = some (.set S n))
  | _ => False
theorem tyV_is {pins : List (Addr × Obj)} {σ : St} {H : Hp} {s : Shared} {T : String} {x : V} {v : Value} (I : Inv X pins σ H s) (r : RelV x v) (ty : tyV X.K T x H) :
    s.TypeIs v T ∧ ∀ a, v = .ref a → ∃ ob, s.heap.get? a = some ob ∧ ob.dict = none := by
  cases x with
  | str z =>
    obtain ⟨t, rfl⟩ := r
    cases (show T = "str" from ty)
    exact ⟨typeIs_str s z t, fun _ e => nomatch e⟩
  | int i =>
    obtain ⟨t, rfl⟩ := r
    cases (show T = "int" from ty)
    exact ⟨typeIs_int s i t, fun _ e => nomatch e⟩
  | ref p =>
    cases r
    rcases ty with ⟨rfl, xs, hq⟩ | ⟨rfl, o, hk, hc, hd⟩ | ⟨rfl, hk⟩ | ⟨rfl, S, n, hk⟩
    · obtain ⟨its, _, pl, _⟩ := I.list hq
      refine ⟨pl.isList.typeIs, fun a e => ?_⟩
      cases e
      obtain ⟨o, n, e, c, hd, _⟩ := pl
      exact ⟨o, e, hd⟩
    · refine ⟨⟨o, I.kIn p o hk, hc⟩, fun a e => ?_⟩
      cases e
      exact ⟨o, I.kIn _ o hk, hd⟩
    · have z : ∃ o, s.heap.get? p = some o ∧ o.ExactDict := by
        rcases hk with ⟨kvs, hk⟩ | ⟨kvs, hk⟩
        · obtain ⟨_, _, _, _, o, _, _, e, ex, _⟩ := I.hok p _ hk
          exact ⟨o, e, ex⟩
        · obtain ⟨_, _, _, _, o, _, _, e, ex, _⟩ := I.hok p _ hk
          exact ⟨o, e, ex⟩
      obtain ⟨o, e, ex⟩ := z
      refine ⟨⟨o, e, ex.1⟩, fun a e2 => ?_⟩
      cases e2
      exact ⟨o, e, ex.2.1⟩
    · obtain ⟨o, _, _, _, e, ex, _⟩ := I.hok p _ hk
      refine ⟨⟨o, e, ex.1⟩, fun a e2 => ?_⟩
      cases e2
      exact ⟨o, e, ex.2.1⟩
  | _ => exact False.elim ty
noncomputable def tBM (K : PySem.W.Frag) (T : String) (r : V → List V → Hp → VK → Prop) (to : TE) (t : TA) : TE := fun σ H Q => to σ H fun x H1 => tyV K T x H1 ∧ t σ H1 fun xs H2 => r x xs H2 Q
variable {o e : Expr} {es : List Expr} {to : TE} {t : TA} {name : Str} {apos cpos : Pos} {T id : String} {r : V → List V → Hp → VK → Prop}
theorem pe_bm (pa : PlainAttrs T) (slot : Slot T name id) (hty : typeOf (.builtin id) = pure (.type "method_descriptor")) (hm : MtR X id r) (ho : PE X o to) (ha : PA X (e :: es) t)
    (hbase : attributeBase o name X.env (eval o X.env) = eval o X.env := by rfl)
    (hfew : ((backTo cpos (starEach (e :: es) X.env)).all (fun x => !x.1) && (backToKw cpos (keywordEach [] X.env)).all (fun x => x.1.isSome)
      && decide ((e :: es).length + ([] : List Keyword).length + (if ([] : List Keyword).isEmpty then 0 else 1) < 30)) = true := by rfl)
    (hline : (apos.endLine == cpos.line) = true := by rfl) (hs : starEach (e :: es) X.env = (false, eval e X.env) :: starEach es X.env := by rfl) (hplain : (backTo cpos (starEach es X.env)).any (·.1) = false := by rfl) :
    PE X (.Call (.Attribute o name apos) (e :: es) [] cpos) (tBM X.K T r to t) := by
  intro pins s σ H Q I h
  refine wpAny_Call_method_late hbase hfew hline rfl (thn (ho pins s σ H _ I h) fun v s1 ⟨x, H1, I1, r1, ty, q1⟩ => ?_)
  obtain ⟨h1, h2⟩ := tyV_is I1 r1 ty
  refine ⟨T, id, pa, slot, hty, h1, h2, ?_⟩
  have hA := ha cpos pins s1 σ H1 _ I1 q1
  rw [hs] at hA ⊢
  refine Calls.callWith_builtin (by show (false || (backTo cpos (starEach es X.env)).any (·.1)) = false; rw [hplain] <;> rfl) (Calls.evalArgs_plain ?_)
  exact thn hA fun us s2 ⟨vs, H2, I2, r2, q2⟩ => hm pins s2 σ H2 x vs v us Q I2 r1 r2 q2
/- xs.append(e), list.index on a module's tuple .. are MtR facts of 06m -/
end
end L2
namespace L2
open PySem PySem.Spec PyProof.Rows
noncomputable def MtM (X : Cx) (id : String) (r : V → List V → Hp → VK → Prop) : Prop :=
  ∀ (pins : List (Addr × Obj)) (s : Shared) (σ : St) (H : Hp) (x : V) (xs : List V) (v : Value) (us : List Value) (Q : VK), Inv X pins σ H s → RelV x v → Vals xs us → r x xs H Q →
    wpAny (model X.prog X.w) X.A (call (.builtin id) (v :: us)) (EP X pins σ Q) X.xe s
theorem Vals.one : ∀ {x : V} {us : List Value}, Vals [x] us → ∃ u, us = [u] ∧ RelV x u
  | _, _, .cons r .nil => ⟨_, rfl, r⟩
theorem Vals.two : ∀ {x y : V} {us : List Value}, Vals [x, y] us → ∃ u v, us = [u, v] ∧ RelV x u ∧ RelV y v
  | _, _, _, .cons r (.cons q .nil) => ⟨_, _, rfl, r, q⟩
section
variable {X : Cx} {pins : List (Addr × Obj)} {σ : St} {H : Hp} {s : Shared} {l b : Addr} {xs ys zs : List V}
theorem Inv.lset {its its' : List Value} {n : Nat} {f : Array Value → Array Value} {t' : Nat} (I : Inv X pins σ H s) (hH : H l = some (.lst xs))
    (e : s.heap.get? l = some { cls := .type "list", data := .seq its.toArray n }) (hf : f its.toArray = its'.toArray) (hv : Vals ys its') (hz : ys.length ≤ sizeLine) :
    Inv X pins σ (upd H l (.lst ys)) { s with heap := s.heap.update l (Obj.mapSeq f), toks := t' } := by
  have q := PySem.IsL.update e f
  rw [hf] at q
  refine I.write (x := l) (e := l) (by rw [hH]; exact trivial) (.inl rfl) (fun b' u hb hu => (Heap.get?_update_other s.heap (Obj.mapSeq f) (Ne.symm hb)).trans hu) ⟨_, q⟩ ?_
  exact ⟨hz, its', _, hv, q⟩
theorem Inv.lnew {its : List Value} {t' : Nat} (I : Inv X pins σ H s) (hv : Vals ys its) (hz : ys.length ≤ sizeLine) :
    Inv X pins σ (upd H s.heap.objs.size (.lst ys)) { s with heap := s.heap.push { cls := .type "list", data := .seq its.toArray }, toks := t' } :=
  I.laid (fun _ _ q => Heap.get?_push_of_some _ q) (Nat.le_refl _) ⟨hz, its, 0, hv, Heap.get?_push_size _ rfl⟩
theorem Inv.fresh (I : Inv X pins σ H s) : H s.heap.objs.size = none := I.hok.fresh (Nat.le_refl _)
theorem Inv.lstM (I : Inv X pins σ H s) (hH : H l = some (.lst xs)) : xs.length ≤ sizeLine ∧ ∃ (its : List Value) (n : Nat), Vals xs its ∧ xs.length = its.length ∧ s.heap.get? l = some { cls := .type "list", data := .seq its.toArray n } := by
  obtain ⟨z, its, n, r, e⟩ := I.hok l _ hH
  exact ⟨z, its, n, r, r.length, e⟩
end
section
variable {X : Cx}
noncomputable def rAppend : V → List V → Hp → VK → Prop := fun x vs H Q => ∃ l xs y, x = .ref l ∧ vs = [y] ∧ H l = some (.lst xs) ∧ xs.length < sizeLine ∧ Q .non (upd H l (.lst (xs ++ [y])))
theorem mt_append : MtM X "list.append" rAppend := by
  intro pins s σ H x vs v us Q I rx rv h
  obtain ⟨l, xs, y, rfl, rfl, hH, hz, q⟩ := h
  cases rx
  obtain ⟨u, rfl, ru⟩ := rv.one
  obtain ⟨z, its, n, r, hl, e⟩ := I.lstM hH
  refine call_meets F.slot_list_append ⟨_, e, rfl⟩ F.entry_list_append (F.args_list_append_2 _ _) (PySem.list_append l its.toArray n u (by rw [List.size_toArray]; omega)) ⟨e, ?_⟩
  refine ⟨.non, _, I.lset (its' := its ++ [u]) hH e (by simp) (r.append (.cons ru .nil)) ?_, rfl, q⟩
  rw [List.length_append, List.length_singleton]
  omega
noncomputable def rCat : R2 := fun x y H Q => ∃ l b xs zs, x = .ref l ∧ y = .ref b ∧ H l = some (.lst xs) ∧ H b = some (.lst zs) ∧ xs.length + zs.length ≤ sizeLine ∧ ∀ p, H p = none → Q (.ref p) (upd H p (.lst (xs ++ zs)))
theorem op_cat : OpR X (binaryOp .Add) rCat := by
  intro pins s σ H x y v u Q I rx ry h
  obtain ⟨l, b, xs, zs, rfl, rfl, hH, hB, hz, q⟩ := h
  cases rx
  cases ry
  obtain ⟨z, its, n, r, hl, e⟩ := I.lstM hH
  obtain ⟨z2, its2, n2, r2, hl2, e2⟩ := I.lstM hB
  refine PySem.P.add_list e e2 ?_ (by rw [List.size_toArray, List.size_toArray]; omega)
  have ea : its.toArray ++ its2.toArray = (its ++ its2).toArray := by simp
  rw [ea]
  exact ⟨.ref _, _, I.lnew (t' := s.toks) (r.append r2) (by rw [List.length_append]; omega), rfl, q _ I.fresh⟩
end
section
variable {prog : Program} {w : World} {A : Around} {E : Value → Shared → Prop} {s : Shared}
end
section
variable {X : Cx}
end
end L2
namespace Att
open PySem PySem.W PySem.Calls PyProof.Rows
theorem ints_of_wellAll {P : Params} {h : Heap} : ∀ (ns : List Int) (vs : List Value), WellAll P h vs (ns.map WData.int) → IntsAre vs ns := by
  intro ns
  induction ns with
  | nil =>
    intro vs w
    rw [List.map_nil] at w
    cases w
    exact .nil
  | cons n ns ih =>
    intro vs w
    rw [List.map_cons] at w
    cases w with
    | cons a b =>
      cases a
      exact .cons _ _ (ih _ b)
theorem script_of {l : OpenLaw} {n : Nat} (hn : l.most = some n) {P : Params} {h : Heap} {args : List WData} {vals : List Value}
    (hpre : l.row.toRowW.claim.pre args = true) (hwl : WellAll P h vals args) :
    ∃ a vs ns, vals = [Value.ref a] ∧ args = [WData.list (ns.map WData.int)] ∧ h.get? a = some { cls := .type "list", data := .seq vs.toArray } ∧ IntsAre vs ns ∧ ns.length ≤ n := by
  have hsh : WShape.hasAll [] args [.list .int] = true := (pre_splitW hpre).1
  have hc : l.pre.holds [] { args := args } = true := (pre_splitW hpre).2
  obtain ⟨d, r, rfl, h1, h2⟩ := hasAllW_cons hsh
  obtain rfl := hasAllW_nil h2
  obtain ⟨xs, rfl, h3⟩ := hasW_list h1
  obtain ⟨ns, rfl⟩ := items_int h3
  have hlen : ns.length ≤ n := by
    unfold OpenLaw.pre at hc
    have h4 : (WTm.not (.lt (.lit (.int (n : Int))) (.len (.arg 0)))).holds [] { args := [.list (ns.map .int)] } = true := by
      have h4 := (holds_andW hc).1
      rw [hn] at h4
      exact h4
    have h5 := condW_of h4 (w_not (w_lt w_lit (w_len_list (w_arg rfl))))
    rw [List.length_map] at h5
    refine Nat.le_of_not_lt fun q => ?_
    have q' : (n : Int) < ((ns.length : Nat) : Int) := by omega
    first
      | (rw [decide_eq_true q'] at h5; exact absurd h5 (by decide))
      | (simp at h5; omega)
  cases hwl with
  | cons w1 w2 =>
    cases w2
    cases w1 with
    | list ho hall => exact ⟨_, _, ns, rfl, rfl, ho, ints_of_wellAll ns _ hall, hlen⟩
theorem post_true (l : OpenLaw) (args : List WData) : l.row.toRowW.claim.post args (.bool true) args = true :=
  postW_of (r := l.row.toRowW) (X := (true == true))
    (show WShape.has [] (.bool true) .bool = true by first | rfl | decide | simp [WShape.has, WShape.arms, WShape.armsAll])
    (show (WTm.eq .res (.lit (.bool true))).value [] { args := args, res := some (.bool true), after := args } = some (.bool (true == true)) from w_eq_bool (w_res rfl) w_lit) rfl
theorem attach_call {l : OpenLaw} {n : Nat} {q : Program} {loose : List Str} {XP : (Str → Option Value) → Heap → Prop} {YP : World → Heap → Prop} {d : DefRec}
    (hn : l.most = some n) (hdf : d.params.defaults = [])
    (call : ∀ (w : World) (s₀ s₁ : Shared) (mg mb : Str → Option Value) (fa : Addr) (o : Obj) (pm cd doc : Value) (a : Addr) (vs : List Value) (ns : List Int),
      Ground q loose [] XP w s₀ mg mb s₁.heap → YP w s₁.heap →
      s₁.heap.get? fa = some o → o.data = .func (docDef d.name d.params d.body d.scope pm cd doc) → s₁.heap.CodeRec cd d.name → mg d.name = some (.ref fa) →
      s₁.heap.get? a = some { cls := .type "list", data := .seq vs.toArray } → IntsAre vs ns → ns.length ≤ n → s₁.gens = #[] →
      codeAny (model l.prog w) callerA (.call (.ref fa) ⟨[.ref a], []⟩) (fun r s' => r = .ok (.ret (.bool true)) ∧ OldK s₁.heap s'.heap ∧ s'.os = s₁.os ∧ AllBare s'.gens) s₁) :
    WalkO q loose XP YP l.row.toRowW d [] (fun f vs => PySem.call f vs) := by
  intro w s₀ s₁ mg mb G Y fa o pm cd doc dV kV ho hd hcd hD hmg hg args vals as hpre hlay hrd hwl hlo
  obtain rfl : dV = .none := Dflts.none hD hdf
  obtain rfl : kV = .none := Dflts.noKw hD
  obtain ⟨a, vs, ns, rfl, rfl, hobj, hints, hlen⟩ := script_of hn hpre hwl
  refine enter_call (codeAny_mono (call w s₀ s₁ mg mb fa o pm cd doc a vs ns G Y ho (fd_plain hd) hcd hmg hobj hints hlen hg) fun r s' hq => ?_)
  obtain ⟨rfl, h2, h3, h4⟩ := hq
  exact ⟨.inl ⟨.bool true, .bool true, [], rfl, fun _ => rfl, .bool true, post_true l _, fun _ => ⟨List.Pairwise.nil, fun _ hm => (nomatch hm)⟩⟩, h2, h3, h4⟩
section
variable {prog : Program} {w : World} {A : Around} {E : Value → Shared → Prop} {s : Shared} {K : Frag}
end
end Att
namespace L2
open PySem PySem.Spec PyProof.Rows
theorem vals_ints : ∀ {vs : List Value} {ns : List Int}, IntsAre vs ns → Vals (ns.map V.int) vs
  | _, _, .nil => .nil
  | _, _, .cons n t h => .cons ⟨t, rfl⟩ (vals_ints h)
noncomputable def Only (H : Hp) : Prop := ∀ b, H b = none ∨ ∃ o xs, H b = some (.frz o (.lst xs))
theorem law_call {P : Program} {w : World} {K : PySem.W.Frag} {mg mb : Str → Option Value} {CX : CXT} {k : Nat} {fa a : Addr} {fd : FuncData} {x : Str} {sp : Sp} {s₁ : Shared} {vs : List Value} {ns : List Int}
    (KX : K.In s₁.heap) (hns : s₁.heap.Ns mainGlobals mg) (hb : s₁.heap.Ns builtinsNs mb) (hbb : ∀ x : Str, x ≠ "__name__" → mb x = bootBuiltins x) (hlim : s₁.heap.NoLimit) (hg : s₁.gens = #[])
    (ha : s₁.heap.get? a = some { cls := .type "list", data := .seq vs.toArray }) (hi : IntsAre vs ns) (hl : ns.length ≤ sizeLine) (hr : Room k callerA)
    (F : ∀ base : Heap, K.In base → base.Ns mainGlobals mg → FnOk P w K mg base CX k fa fd [x] sp) (hbind : ∀ (s : Shared) (u : Value), BindsTo s fd ⟨[u], []⟩ [(x, u)])
    (hsp : ∀ H : Hp, Only H → SqL K H a (ns.map V.int) → sp [.ref a] H (fun v _ => v = .bl true) fun _ _ _ => False)
    (hCX : ∀ H e s', CX [] H s₁ (fun _ _ _ => False) e s' → False) :
    codeAny (model P w) callerA (.call (.ref fa) ⟨[.ref a], []⟩) (fun r s' => r = .ok (.ret (.bool true)) ∧ OldK s₁.heap s'.heap ∧ s'.os = s₁.os ∧ AllBare s'.gens) s₁ := by
  have rv := vals_ints hi
  have lenV := hi.length
  -- from an abstract heap in which nothing but the script may be tracked
  have core : ∀ H : Hp, Only H → SqL K H a (ns.map V.int) → HOk P w H s₁.heap → (∀ b, H b ≠ none → b = a) → (H a ≠ none → K.lookup a = none) →
      codeAny (model P w) callerA (.call (.ref fa) ⟨[.ref a], []⟩) (fun r s' => r = .ok (.ret (.bool true)) ∧ OldK s₁.heap s'.heap ∧ s'.os = s₁.os ∧ AllBare s'.gens) s₁ := by
    intro H hO hS hok hA hK
    have base_of : ∀ {b : Addr} {o : Obj}, s₁.heap.get? b = some o → H b = none → (hidT s₁.heap H).get? b = some o := fun e n => hidT_get e n
    have noA : ∀ {b : Addr} {o : Obj} {es : Array DictEntry} {ep : Nat}, s₁.heap.get? b = some o → o.data = .dict es ep → H b = none := fun {b o es ep} e d => by
      cases q : H b with
      | none => rfl
      | some u =>
        have e' : b = a := hA b (by rw [q]; simp)
        subst e'
        rw [ha] at e; cases e
        have d' : Data.seq vs.toArray _ = Data.dict es ep := d
        cases d'
    have nsK : ∀ {b : Addr} {m : Str → Option Value}, s₁.heap.Ns b m → (hidT s₁.heap H).Ns b m := fun {b m} ⟨o, es, ep, e, d, r⟩ => ⟨o, es, ep, base_of e (noA e d), d, r⟩
    have hKb : K.In (hidT s₁.heap H) := fun b o e => base_of (KX b o e) (by
      cases q : H b with
      | none => rfl
      | some u =>
        have e' : b = a := hA b (by rw [q]; simp)
        subst e'
        rw [hK (by rw [q]; simp)] at e; cases e)
    have hM : Mod K mg (hidT s₁.heap H) := ⟨hKb, nsK hns, ⟨mb, nsK hb, hbb⟩, let ⟨mc, h1, h2⟩ := hlim; ⟨mc, nsK h1, h2⟩⟩
    have e0 : Env0 P w K mg (hidT s₁.heap H) callerA [] s₁ H := ⟨rfl, hM, fun b o e => of_hidT e, Nat.le_of_eq (hidT_size _ _), trivial, fun b hb => absurd (show b ∈ ([] : List Addr) from hb) (by simp), hok, .of_eq hg⟩
    refine codeAny_mono ((F _ hKb (nsK hns)).run callerA [] s₁ H ⟨[.ref a], []⟩ [.ref a] [.ref a] _ _ hr e0 (hbind s₁ (.ref a)) (.cons rfl .nil) (hsp H hO hS)) fun r s' h => ?_
    cases r with
    | error e => exact (hCX H e s' h).elim
    | ok fl =>
      cases fl with
      | next => exact False.elim h
      | brk => exact False.elim h
      | cont => exact False.elim h
      | ret u =>
        obtain ⟨v, H', os, bare, un, hok', r', q⟩ := h
        have q' : v = .bl true := q
        subst q'
        obtain rfl : u = Value.bool true := r'
        refine ⟨rfl, OldK.of_keep fun b o e => ?_, os, bare⟩
        cases q : H b with
        | none => exact un.keep b o e q (by intro z; exact absurd (show b ∈ ([] : List Addr) from z) (by simp)) (by simp)
        | some u =>
          rcases hO b with z | ⟨ob, xs, z⟩
          · rw [q] at z; cases z
          · have z2 := un.frzs b ob _ z
            obtain ⟨e1, _⟩ := hok b _ z
            obtain ⟨e2, _⟩ := hok' b _ z2
            rw [e] at e1; cases e1
            exact e2
  cases hk : K.lookup a with
  | some o =>
    -- the script is one of the module's own objects
    have e := KX a o hk
    rw [ha] at e
    cases e
    refine core (fun _ => none) (fun _ => .inl rfl) (.inr ⟨_, vs.toArray, _, hk, rfl, rfl, rfl, by rw [List.size_toArray, lenV]; exact hl, by simpa using rv⟩) (fun b u z => by have z' : (none : Option HO) = some u := z; cases z') (fun b z => absurd rfl z) fun z => absurd rfl z
  | none =>
    refine core (fun b => if b = a then some (.frz { cls := .type "list", data := .seq vs.toArray } (.lst (ns.map V.int))) else none) (fun b => ?_) (.inl (.inr ⟨{ cls := .type "list", data := .seq vs.toArray }, if_pos rfl⟩)) (fun b u z => ?_) (fun b z => ?_) fun _ => hk
    · by_cases hb : b = a
      · exact .inr ⟨_, _, if_pos hb⟩
      · exact .inl (if_neg hb)
    · by_cases hb : b = a
      · have z' := (if_pos hb).symm.trans z
        cases z'
        subst hb
        exact ⟨ha, by rw [List.length_map]; exact hl, vs, _, rv, ha⟩
      · have z' := (if_neg hb).symm.trans z
        cases z'
    · by_cases hb : b = a
      · exact hb
      · exact absurd (if_neg hb) z
end L2
namespace L2
open PySem PySem.Spec PyProof.Rows
theorem walk_of {l : PySem.W.OpenLaw} {n k : Nat} {q : Program} {loose : List Str} {XP : (Str → Option Value) → Heap → Prop} {YP : World → Heap → Prop} {d : DefRec} {K : Params → PySem.W.Frag} {CX : World → CXT} {sp : World → Sp} {x : Str}
    (hn : l.most = some n) (hn2 : n ≤ sizeLine) (hdf : d.params.defaults = []) (hr : Room k callerA)
    (hY : ∀ (w : World) (h : Heap), YP w h → (K w.params).In h)
    (F : ∀ (w : World) (mg : Str → Option Value) (fa : Addr) (h : Heap), (K w.params).In h → h.Ns mainGlobals mg → mg d.name = some (.ref fa) →
      ∃ fd : FuncData, (∀ (s : Shared) (u : Value), BindsTo s fd ⟨[u], []⟩ [(x, u)]) ∧
        ∀ base : Heap, (K w.params).In base → base.Ns mainGlobals mg → FnOk l.prog w (K w.params) mg base (CX w) k fa fd [x] (sp w))
    (hsp : ∀ (w : World) (H : Hp) (a : Addr) (ns : List Int), ns.length ≤ n → Only H → SqL (K w.params) H a (ns.map V.int) → sp w [.ref a] H (fun v _ => v = .bl true) fun _ _ _ => False)
    (hCX : ∀ (w : World) (H : Hp) (s : Shared) (e : Value) (s' : Shared), CX w [] H s (fun _ _ _ => False) e s' → False) :
    PySem.W.WalkO q loose XP YP l.row.toRowW d [] (fun f vs => PySem.call f vs) := by
  refine Att.attach_call hn hdf fun w s₀ s₁ mg mb fa o pm cd doc a vs ns G Y ho hd hcd hmg hobj hints hlen hg => ?_
  have KX := hY w _ Y
  obtain ⟨fd, hb, hF⟩ := F w mg fa _ KX G.T.g hmg
  exact law_call KX G.T.g G.T.b G.T.builtins G.T.nolimit hg hobj hints (Nat.le_trans hlen hn2) hr hF hb (fun H hO hS => hsp w H a ns hlen hO hS) fun H e s' => hCX w H s₁ e s'
end L2
/- THE LAST THEOREM (shape; LID, My.* are yours):
   My.Adr: a structure of the addresses that your layer names (classes, functions); My.Txt K t: a structure (Prop) of the equations over K;
   My.txt_mk : {K} {implicit addresses ..} (e1 : nsIn K mainGlobals "law" = some (some (.ref f))) (e2 : K.lookup f = some ⟨oc, od, .func (fnOf "law" "law" params body scope dV kV doc pm an cdv ct), sl⟩) (e3 : codeIn K cdv "law" = true) .. : ∃ t, My.Txt K t
(the tactic k_is has no namespace: write k_is) -/
namespace L2
open PySem PySem.Spec PyProof.Rows
noncomputable def defArgs (s : Stmt) : Arguments := match s with
  | .FunctionDef _ a _ _ _ _ _ _ _ _ => a
  | _ => { posonlyargs := [], args := [], vararg := none, kwonlyargs := [], kw_defaults := [], kwarg := none, defaults := [] }
noncomputable def defBody (s : Stmt) : List Stmt := match s with
  | .FunctionDef _ _ b _ _ _ _ _ _ _ => b
  | _ => []
noncomputable def defScope (s : Stmt) : Scope := match s with
  | .FunctionDef _ _ _ _ _ _ sc _ _ _ => sc
  | _ => { kind := .function, names := [], isGenerator := false, isCoroutine := false }
noncomputable abbrev CX0 : CXT := fun _ _ _ _ _ _ => False
noncomputable abbrev E0 : XK := fun _ _ _ => False
theorem pass0 {X : Cx} : Passes CX0 X E0 := fun _ _ _ _ _ _ _ h => h.elim
structure Fun (K : PySem.W.Frag) (x qual : Str) (st : Stmt) (f : Addr) (fd : FuncData) : Prop where
  ex : ∃ (oc : Value) (od : Option Addr) (kV doc pm : Value) (an : Option Addr) (cdv ct : Value) (osl : Array (Option Value)),
    fd = PySem.W.fnOf x qual (defArgs st) (defBody st) (defScope st) .none kV doc pm an cdv ct ∧ K.lookup f = some ⟨oc, od, .func fd, osl⟩ ∧ PySem.W.codeIn K cdv qual = true
  kp : PySem.W.keepIn K (.ref f) = true
section
variable {P : Program} {w : World} {K : PySem.W.Frag} {mg : Str → Option Value} {base : Heap}
theorem Fun.ok {x qual : Str} {st : Stmt} {f : Addr} {fd : FuncData} {N ps : List Str} {k : Nat} {sp : Sp} (F : Fun K x qual st f fd) (S : FnScope N ps (defScope st)) (len : ∀ vs H Q E, sp vs H Q E → vs.length = ps.length)
    (hbody : ∀ (cdv : Value) (A : Around) (outer : List Env) (s : Shared) (H : Hp) (vs : List V) (Q : VK) (E : XK), Room k (A.deeper (envOfC qual (defScope st) s.heap.objs.size f cdv)) → sp vs H Q E →
      ∃ t, PSs (cxOf CX0 P w K mg base N qual (defScope st) f cdv A outer s H E).nox (defBody st) t ∧ t { nx := fun _ H' => Q .non H', rt := Q } (start N vs) H) : FnOk P w K mg base CX0 (k + 1) f fd ps sp := by
  obtain ⟨oc, od, kV, doc, pm, an, cdv, ct, osl, rfl, lk, hcd⟩ := F.ex
  refine fn_of lk hcd S len fun A outer s H vs Q E hr hsp => ?_
  obtain ⟨t, h, q⟩ := hbody cdv A outer s H vs Q E hr hsp
  exact ⟨t, h.nox, q⟩
theorem fun_mk {x qual : Str} {st : Stmt} {f : Addr} {oc : Value} {od an : Option Addr} {osl : Array (Option Value)} {kV doc pm cdv ct : Value} (l : K.lookup f = some ⟨oc, od, .func (PySem.W.fnOf x qual (defArgs st) (defBody st) (defScope st) .none kV doc pm an cdv ct), osl⟩)
    (c : PySem.W.codeIn K cdv qual = true) (k : PySem.W.keepIn K (.ref f) = true) : Fun K x qual st f (PySem.W.fnOf x qual (defArgs st) (defBody st) (defScope st) .none kV doc pm an cdv ct) := ⟨⟨oc, od, kV, doc, pm, an, cdv, ct, osl, rfl, l, c⟩, k⟩
end
theorem small1000 {n : Nat} (h : n ≤ 1000) : n < sizeLine := Nat.lt_of_le_of_lt h (by decide)
section
variable {X : Cx}
theorem pv (i : Nat) {x : Str} {pos : Pos} (hN : X.N[i]? = some x := by rfl) (hv : Vis X.env.scope x := by first | exact Or.inl rfl | exact Or.inr (Or.inl rfl) | exact Or.inr (Or.inr rfl)) (hd : (x == ("__debug__" : Str)) = false := by decide)
    (hcd : (x == ("__classdict__" : Str)) = false := by decide) : PE X (.Name x pos) (tVar i) := pe_var hN hv hd hcd
end
theorem iteF {A B : Prop} (h : B) : if false = true then A else B := by
  rw [if_neg Bool.false_ne_true]
  exact h
theorem iteT {A B : Prop} (h : A) : if true = true then A else B := by
  rw [if_pos rfl]
  exact h
noncomputable def Same (H H' : Hp) : Prop := ∀ b o, H b = some o → H' b = some o
theorem Same.refl (H : Hp) : Same H H := fun _ _ h => h
theorem Same.trans {H H1 H2 : Hp} (a : Same H H1) (b : Same H1 H2) : Same H H2 := fun c o h => b c o (a c o h)
theorem Same.free {H H' : Hp} (e : Same H H') {l : Addr} (h : H' l = Option.none) : H l = Option.none := by
  cases q : H l with
  | none => rfl
  | some o =>
    rw [e l o q] at h
    cases h
theorem Same.seq {K : PySem.W.Frag} {H H' : Hp} {a : Addr} {xs : List V} (e : Same H H') (h : SqL K H a xs) : SqL K H' a xs := by
  rcases h with (h | ⟨o, h⟩) | h
  · exact .inl (.inl (e _ _ h))
  · exact .inl (.inr ⟨o, e _ _ h⟩)
  · exact .inr h
end L2
namespace L2
open PySem PySem.Spec PyProof.Rows
section
variable {κ : Type} [DecidableEq κ]
theorem KV.keys {kvs : List (κ × V)} {vs : List (κ × Value)} (r : KV kvs vs) : kvs.map (·.1) = vs.map (·.1) := by
  unfold KV at r
  induction r with
  | nil => rfl
  | cons h t ih => rw [List.map_cons, List.map_cons, ih, h.1]
theorem KV.length {kvs : List (κ × V)} {vs : List (κ × Value)} (r : KV kvs vs) : kvs.length = vs.length := Paired.length r
end
section
variable {P : Program} {w : World} {H : Hp} {h : Heap} {a : Addr}
theorem rd_of {u : HO} (ok : HOk P w H h) (e : Rd H a u) : ObjOk P w H h a u := e.ok ok
theorem dk_rd {kvs : List (Key × V)} (ok : HOk P w H h) (e : Rd H a (.dK kvs)) : kvs.length ≤ sizeLine ∧ (a == sysModules) = false ∧ ∃ vs, KV kvs vs ∧ h.DictOf (mixKind P w) a vs :=
  show ObjOk P w H h a (.dK kvs) from rd_of ok e
theorem dk_of {kvs : List (Key × V)} (ok : HOk P w H h) (e : H a = some (.dK kvs)) : kvs.length ≤ sizeLine ∧ (a == sysModules) = false ∧ ∃ vs, KV kvs vs ∧ h.DictOf (mixKind P w) a vs := dk_rd ok (.inl e)
end
section
variable {X : Cx} {pins : List (Addr × Obj)} {σ : St} {H : Hp} {s : Shared} {a : Addr} {y v : V} {u r : Value} {o : Option V} {A : Around} {E : Value → Shared → Prop}
theorem Inv.big (I : Inv X pins σ H s) : sysModules < s.heap.objs.size := by
  have h : mainGlobals < s.heap.objs.size := (I.mod.glob.keeps I.bk).lt
  exact Nat.lt_trans (by decide) h
end
section
variable {X : Cx} {pins : List (Addr × Obj)} {σ : St} {H : Hp} {s : Shared} {a : Addr} {kvs : List (Key × V)} {k : Key} {u : Value} {A : Around} {E : Value → Shared → Prop}
end
section
variable {X : Cx} {o i e value : Expr} {pos pos' tpos : Pos} {td ty tv : TE}
end
theorem dk_empty {P : Program} {w : World} {H : Hp} (h : Heap) (hb : sysModules < h.objs.size) : ObjOk P w H (h.push { cls := .type "dict", data := .dict #[] }) h.objs.size (.dK []) :=
  ⟨Nat.zero_le _, beq_eq_false_iff_ne.mpr (Ne.symm (Nat.ne_of_lt hb)), [], .nil, Heap.DictOf.new h⟩
noncomputable def tDNewK : TE := fun _ H Q => ∀ p, H p = none → Q (.ref p) (upd H p (.dK []))
section
variable {X : Cx} {pos : Pos}
theorem pe_dnewK : PE X (.Dict [] [] pos) tDNewK := fun pins s σ H Q I h =>
  wpAny_Dict_empty ⟨.ref s.heap.objs.size, _, I.laid (a := s.heap.objs.size) (o := .dK []) (t' := s.toks) (fun _ _ q => Heap.get?_push_of_some _ q) (Nat.le_refl _) (dk_empty s.heap I.big), rfl, h _ (I.hok.fresh (Nat.le_refl _))⟩
end
section
variable {X : Cx} {pins : List (Addr × Obj)} {σ : St} {H : Hp} {s : Shared} {a : Addr} {y d : V} {u r : Value} {o : Option V} {A : Around} {E : Value → Shared → Prop}
end
section
variable {X : Cx} {o e f : Expr} {apos cpos : Pos} {td ty tx : TE}
end
section
variable {X : Cx} {pins : List (Addr × Obj)} {σ : St} {H : Hp} {s : Shared} {a : Addr} {kvs : List (Key × V)} {A : Around} {E : Value → Shared → Prop}
end
section
variable {X : Cx} {pins : List (Addr × Obj)} {σ : St} {H : Hp} {s : Shared} {a : Addr} {y : V} {u : Value} {A : Around} {E : Value → Shared → Prop}
end
end L2
namespace L2
open PySem PySem.Spec PyProof.Rows
section
variable {κ : Type} [DecidableEq κ]
end
end L2
namespace L2
open PySem PySem.Spec PyProof.Rows
noncomputable def Sm (n : Nat) (x : Int) : Prop := x.natAbs < 2 ^ n
theorem Sm.mono {m n : Nat} {x : Int} (h : Sm m x) (l : m ≤ n) : Sm n x := Nat.lt_of_lt_of_le h (Nat.pow_le_pow_right (by decide) l)
theorem Sm.bits {n : Nat} {x : Int} (h : Sm n x) : Builtin.Int.intBits x ≤ n := by
  unfold Builtin.Int.intBits
  split
  · exact Nat.zero_le _
  · have hn : x.natAbs < 2 ^ n := h
    rename_i hx
    have h0 : x.natAbs ≠ 0 := fun e => hx (by have : x = 0 := by omega
                                              rw [this]; rfl)
    have : x.natAbs.log2 < n := (Nat.log2_lt h0).mpr hn
    omega
theorem Sm.mulOk {a b : Int} {m n : Nat} (ha : Sm m a) (hb : Sm n b) (h : m + n ≤ 134217728) : IntMulOk a b := PyProof.Rows.mulOk_of_bits ha.bits hb.bits h
theorem Sm.log2 {n : Nat} {x : Int} (h : Sm n x) : x.natAbs.log2 < n + 1 := by
  have hn : x.natAbs < 2 ^ n := h
  by_cases h0 : x.natAbs = 0
  · rw [h0, Nat.log2_zero]; omega
  · have := (Nat.log2_lt h0).mpr hn
    omega
theorem Sm.of {n : Nat} {x : Int} (h1 : -(2 ^ n : Nat) < x) (h2 : x < (2 ^ n : Nat)) : Sm n x := by
  unfold Sm
  generalize 2 ^ n = k at *
  omega
theorem Sm.le {a b : Int} {n : Nat} (h : a.natAbs ≤ b.natAbs) (hb : Sm n b) : Sm n a := Nat.lt_of_le_of_lt h hb
section
variable {X : Cx}
noncomputable def CDivB (_ j : Int) : Prop := j ≠ 0 ∧ Sm 8000 j
theorem op_fdivB : OpR X (binaryOp .FloorDiv) (rI CDivB fun i j => .int (i.fdiv j)) := opI fun _ _ _ _ _ _ _ hc q => floordiv_int hc.1 q (.inl (PyProof.noPylong_of_log2 (Nat.lt_trans hc.2.log2 (by decide))))
noncomputable def CMulB (i j : Int) : Prop := CMul i j ∨ (Sm 60000000 i ∧ Sm 60000000 j)
theorem CMulB.ok {i j : Int} (h : CMulB i j) : IntMulOk i j := by
  rcases h with h | ⟨h1, h2⟩
  · exact h.ok
  · exact h1.mulOk h2 (by decide)
theorem CMulB.l {i j : Int} (h1 : -(2 ^ 64) < i) (h2 : i < 2 ^ 64) : CMulB i j := .inl (.inl ⟨h1, h2⟩)
theorem CMulB.r {i j : Int} (h1 : -(2 ^ 64) < j) (h2 : j < 2 ^ 64) : CMulB i j := .inl (.inr ⟨h1, h2⟩)
theorem op_mulB : OpR X (binaryOp .Mult) (rI CMulB fun i j => .int (i * j)) := opI fun _ _ _ _ _ _ _ hc q => mul_int q hc.ok
noncomputable def rIsTy (K : PySem.W.Frag) (T : String) : List V → Hp → VK → Prop := fun xs H Q => ∃ x t b, xs = [x, .ty T] ∧ TyOf K H x t ∧ PySem.W.kitOne K t (.type T) = some b ∧ Q (.bl b) H
theorem call_isTy {T : String} : CallR X (.builtin "isinstance") (rIsTy X.K T) := by
  intro pins s σ H xs us Q I r h
  obtain ⟨x, t, b, rfl, ty, e, q⟩ := h
  obtain ⟨u, v, rfl, ru, rv⟩ := Vals.two r
  obtain rfl : v = Value.type T := rv
  exact isinst_ok I ru ty e fun tk => ⟨.bl b, H, I.tok tk, rfl, q⟩
end
section
variable {σ : St} {H H' : Hp} {Q : VK} {D : Ends} {t u : TS} {te ta tb : TE} {v w x : V} {i j : Int} {b c : Bool} {X : Cx} {K : PySem.W.Frag}
theorem r_var {n : Nat} (h : σ[n]? = some (some v)) (k : Q v H) : tVar n σ H Q := ⟨v, h, k⟩
theorem r_c (k : Q v H) : tC v σ H Q := k
theorem r_seq (k : t ⟨u D, D.rt, D.bk, D.ct⟩ σ H) : tSeq t u D σ H := k
theorem r_nx {n r b' c'} (k : n σ H) : Ends.nx ⟨n, r, b', c'⟩ σ H := k
theorem r_rt {n r b' c'} (k : r v H) : Ends.rt ⟨n, r, b', c'⟩ v H := k
theorem r_next (k : D.nx σ H) : tNext D σ H := k
theorem r_asg {g : TG} (k : te σ H fun x H1 => g x σ H1 D.nx) : tAsg te g D σ H := k
theorem r_gname {n : Nat} {R : St → Hp → Prop} (k : R (σ.set n (some v)) H) : gName n v σ H R := k
theorem r_op {r : R2} (k : ta σ H fun x H1 => tb σ H1 fun y H2 => r x y H2 Q) : tOp r ta tb σ H Q := k
theorem r_I0 {g} (k : Q (g i j) H) : rI0 g (.int i) (.int j) H Q := ⟨i, j, rfl, rfl, k⟩
theorem r_I {C g} (c : C i j) (k : Q (g i j) H) : rI C g (.int i) (.int j) H Q := ⟨i, j, rfl, rfl, c, k⟩
noncomputable def bK (R : Bool → Hp → Prop) : VK := fun x H => ∃ k, x = .bl k ∧ R k H
theorem r_bK {R : Bool → Hp → Prop} (k : R b H) : bK R (.bl b) H := ⟨b, rfl, k⟩
theorem r_test {R : Bool → Hp → Prop} (k : te σ H (bK R)) : tTest te σ H R := k
theorem r_tB {R : Bool → Hp → Prop} (k : te σ H (bK R)) : tB te σ H R := k
theorem r_ifS {tc : TT} (k : tc σ H fun b H1 => if b = true then t D σ H1 else u D σ H1) : tIfS tc t u D σ H := k
theorem r_or {ca cb : TT} {R : Bool → Hp → Prop} (k : ca σ H fun c H1 => if c = true then R true H1 else cb σ H1 R) : tOr ca cb σ H R := k
theorem r_not {ca : TT} {R : Bool → Hp → Prop} (k : ca σ H fun c H1 => R (!c) H1) : tNot ca σ H R := k
noncomputable def andK (tb : TE) (σ : St) (Q : VK) : VK := fun x H1 => ∃ c, x = .bl c ∧ if c = true then tb σ H1 Q else Q (.bl false) H1
noncomputable def notK (Q : VK) : VK := fun x H1 => ∃ c, x = .bl c ∧ Q (.bl (!c)) H1
theorem r_andV (k : ta σ H (andK tb σ Q)) : tAndV ta tb σ H Q := k
theorem r_notV (k : ta σ H (notK Q)) : tNotV ta σ H Q := k
theorem r_andK (k : if c = true then tb σ H Q else Q (.bl false) H) : andK tb σ Q (.bl c) H := ⟨c, rfl, k⟩
theorem r_notK (k : Q (.bl (!c)) H) : notK Q (.bl c) H := ⟨c, rfl, k⟩
theorem r_ret (k : te σ H D.rt) : tRet te D σ H := k
theorem r_drop (k : te σ H fun _ H1 => D.nx σ H1) : tDrop te D σ H := k
theorem r_nil {R : List V → Hp → Prop} (k : R [] H) : tNil σ H R := k
theorem r_cons {tr : TA} {R : List V → Hp → Prop} (k : ta σ H fun x H1 => tr σ H1 fun xs H2 => R (x :: xs) H2) : tCons ta tr σ H R := k
noncomputable def tupK (Q : VK) : List V → Hp → Prop := fun xs H1 => xs.length ≤ sizeLine ∧ ∀ p, H1 p = none → Q (.ref p) (upd H1 p (.tup xs))
noncomputable def lstK (Q : VK) : List V → Hp → Prop := fun xs H1 => xs.length ≤ sizeLine ∧ ∀ p, H1 p = none → Q (.ref p) (upd H1 p (.lst xs))
theorem le_line {n : Nat} (h : n ≤ 1000) : n ≤ sizeLine := Nat.le_of_lt (small1000 h)
theorem r_tup {tr : TA} (k : tr σ H (tupK Q)) : tTup tr σ H Q := k
theorem r_lst {tr : TA} (k : tr σ H (lstK Q)) : tLst tr σ H Q := k
theorem r_tupK {xs : List V} (k : ∀ p, H p = none → Q (.ref p) (upd H p (.tup xs))) (h : xs.length ≤ 1000 := by exact Nat.le_of_ble_eq_true rfl) : tupK Q xs H := ⟨le_line h, k⟩
theorem r_lstK {xs : List V} (k : ∀ p, H p = none → Q (.ref p) (upd H p (.lst xs))) (h : xs.length ≤ 1000 := by exact Nat.le_of_ble_eq_true rfl) : lstK Q xs H := ⟨le_line h, k⟩
theorem r_call {sp : Sp} {E : XK} {tr : TA} (k : tr σ H fun vs H1 => sp vs H1 Q E) : tCall sp [] E tr σ H Q := by
  show tr σ H fun vs H1 => sp (vs ++ []) H1 Q E
  have e : (fun (vs : List V) H1 => sp (vs ++ []) H1 Q E) = fun vs H1 => sp vs H1 Q E := by
    funext vs H1
    rw [List.append_nil]
  rw [e]; exact k
theorem r_CB {r} {tr : TA} (k : tr σ H fun vs H1 => r vs H1 Q) : tCB r tr σ H Q := k
theorem r_par {n m : Nat} {ta : TA} (k : ta σ H fun vs H1 => ∃ v w, vs = [v, w] ∧ D.nx ((σ.set n (some v)).set m (some w)) H1) : tPar n m ta D σ H := k
theorem r_eqI (k : Q (.bl (decide (i = j))) H) : rEq (.int i) (.int j) H Q := ⟨rfl, by rw [dec_int, Bool.beq_eq_decide_eq]; exact k⟩
theorem r_neI (k : Q (.bl (!decide (i = j))) H) : rNe (.int i) (.int j) H Q := ⟨rfl, by rw [dec_int, Bool.beq_eq_decide_eq]; exact k⟩
theorem r_ixL {p : Addr} {xs : List V} (h : SqL K H p xs) (e : atI xs i = some v) (k : Q v H) : rIxL K (.ref p) (.int i) H Q := ⟨p, xs, i, v, rfl, rfl, h, e, k⟩
theorem r_ixT {p : Addr} {xs : List V} (h : SqT K H p xs) (e : atI xs i = some v) (k : Q v H) : rIxT K (.ref p) (.int i) H Q := ⟨p, xs, i, v, rfl, rfl, h, e, k⟩
noncomputable def rIxLT (K : PySem.W.Frag) : R2 := fun x y H Q => rIxL K x y H Q ∨ rIxT K x y H Q ∨ rIxS x y H Q
theorem ix_LT : IxR X (rIxLT X.K) := ix_seq
theorem r_ixl {p : Addr} {xs : List V} (h : H p = some (.lst xs)) (e : atI xs i = some v) (k : Q v H) : rIxLT K (.ref p) (.int i) H Q := .inl (r_ixL (SqL.of h) e k)
theorem r_ixt {p : Addr} {xs : List V} (h : H p = some (.tup xs)) (e : atI xs i = some v) (k : Q v H) : rIxLT K (.ref p) (.int i) H Q := .inr (.inl (r_ixT (SqT.of h) e k))
theorem i_T {A B : Prop} (h : A) : if true = true then A else B := iteT h
theorem i_F {A B : Prop} (h : B) : if false = true then A else B := iteF h
theorem i_dT {p A B : Prop} [Decidable p] (hp : p) (h : A) : if decide p = true then A else B := by rw [decide_eq_true hp]; exact iteT h
theorem i_dF {p A B : Prop} [Decidable p] (hp : ¬ p) (h : B) : if decide p = true then A else B := by rw [decide_eq_false hp]; exact iteF h
theorem i_d {p A B : Prop} [Decidable p] (h1 : p → A) (h2 : ¬ p → B) : if decide p = true then A else B := by
  by_cases h : p
  · exact i_dT h (h1 h)
  · exact i_dF h (h2 h)
theorem i_flip {A B : Prop} (h : if b = true then B else A) : if (!b) = true then A else B := by cases b <;> exact h
theorem i_bT {A B : Prop} (hb : b = true) (h : A) : if b = true then A else B := by rw [hb]; exact i_T h
theorem i_bF {A B : Prop} (hb : b = false) (h : B) : if b = true then A else B := by rw [hb]; exact i_F h
end
noncomputable def Kp (p : Addr) (H H' : Hp) : Prop := ∀ b o, b ≠ p → H b = some o → H' b = some o
theorem Kp.trans {p : Addr} {H H1 H2 : Hp} (a : Kp p H H1) (b : Kp p H1 H2) : Kp p H H2 := fun c o n h => b c o n (a c o n h)
theorem Kp.upd {p : Addr} {H : Hp} {o : HO} : Kp p H (upd H p o) := fun c u n h => by rw [upd_ne n]; exact h
theorem Kp.new {p q : Addr} {H : Hp} {o : HO} (hq : H q = none) : Kp p H (L2.upd H q o) := fun c u n h => by rw [upd_ne (ne_of_none h hq)]; exact h
theorem Same.new {q : Addr} {H : Hp} {o : HO} (hq : H q = none) : Same H (upd H q o) := fun c u h => by rw [upd_ne (ne_of_none h hq)]; exact h
theorem Same.kp {p : Addr} {H H' : Hp} (s : Same H H') : Kp p H H' := fun c o _ h => s c o h
theorem Same.kpn {p : Addr} {H H2 H3 : Hp} (h : H p = none) (a : Same H H2) (k : Kp p H2 H3) : Same H H3 := fun c o e => k c o (ne_of_none e h) (a c o e)
noncomputable def Fr2 (H : Hp) (v : V) (a b : Int) : Prop := ∃ q, v = .ref q ∧ H q = some (.tup [.int a, .int b])
noncomputable def St3 (H : Hp) (p : Addr) (n : Int) : Prop := ∃ a b c : Int, H p = some (.lst [.int a, .int b, .int c]) ∧ 0 ≤ a ∧ 0 ≤ b ∧ b ≤ n
theorem St3.mono {H : Hp} {p : Addr} {m n : Int} (h : St3 H p m) (l : m ≤ n) : St3 H p n := let ⟨a, b, c, h, x, y, z⟩ := h; ⟨a, b, c, h, x, y, Int.le_trans z l⟩
theorem St3.ne {H : Hp} {p q : Addr} {n : Int} {xs : List V} (h : St3 H p n) (hq : H q = some (.tup xs)) : q ≠ p := let ⟨_, _, _, h, _⟩ := h; ne_of hq h (by intro z; cases z)
theorem St3.new {H : Hp} {p q : Addr} {n : Int} {o : HO} (h : St3 H p n) (hq : H q = none) : St3 (upd H q o) p n :=
  let ⟨a, b, c, h, x⟩ := h; ⟨a, b, c, Same.new hq _ _ h, x⟩
structure Df (K : PySem.W.Frag) (mg : Str → Option Value) (x : Str) (st : Stmt) (ps : List Str) : Prop where
  ex : ∃ (f : Addr) (fd : FuncData), (∃ (oc : Value) (od : Option Addr) (dV kV doc pm : Value) (an : Option Addr) (cdv ct : Value) (osl : Array (Option Value)),
    fd = PySem.W.fnOf x x (defArgs st) (defBody st) (defScope st) dV kV doc pm an cdv ct ∧ K.lookup f = some ⟨oc, od, .func fd, osl⟩ ∧ PySem.W.codeIn K cdv x = true) ∧ PySem.W.keepIn K (.ref f) = true ∧ mg x = some (.ref f) ∧ Binds K fd ps []
structure Okf (P : Program) (w : World) (K : PySem.W.Frag) (mg : Str → Option Value) (base : Heap) (k : Nat) (x : Str) (ps : List Str) (sp : Sp) : Prop where
  ex : ∃ (f : Addr) (fd : FuncData), mg x = some (.ref f) ∧ PySem.W.keepIn K (.ref f) = true ∧ Binds K fd ps [] ∧ FnOk P w K mg base CX0 k f fd ps sp
theorem Okf.mono {P : Program} {w : World} {K : PySem.W.Frag} {mg : Str → Option Value} {base : Heap} {j k : Nat} {x : Str} {ps : List Str} {sp : Sp} (o : Okf P w K mg base j x ps sp) (h : j ≤ k) : Okf P w K mg base k x ps sp :=
  let ⟨f, fd, a, b, c, d⟩ := o.ex; ⟨f, fd, a, b, c, d.mono h⟩
theorem Okf.of {P : Program} {w : World} {K : PySem.W.Frag} {mg : Str → Option Value} {base : Heap} {k : Nat} {x : Str} {st : Stmt} {N ps : List Str} {sp : Sp} (d : Df K mg x st ps) (S : FnScope N ps (defScope st)) (len : ∀ vs H Q E, sp vs H Q E → vs.length = ps.length)
    (hbody : ∀ (f : Addr) (cdv : Value) (A : Around) (outer : List Env) (s : Shared) (H : Hp) (vs : List V) (Q : VK) (E : XK), Room k (A.deeper (envOfC x (defScope st) s.heap.objs.size f cdv)) → sp vs H Q E →
      ∃ t, PSs (cxOf CX0 P w K mg base N x (defScope st) f cdv A outer s H E).nox (defBody st) t ∧ t { nx := fun _ H' => Q .non H', rt := Q } (start N vs) H) : Okf P w K mg base (k + 1) x ps sp := by
  obtain ⟨f, fd, ⟨oc, od, dV, kV, doc, pm, an, cdv, ct, osl, rfl, lk, hcd⟩, kp, a, b⟩ := d.ex
  refine ⟨f, _, a, kp, b, fn_of lk hcd S len fun A outer s H vs Q E hr hsp => ?_⟩
  obtain ⟨t, h, q⟩ := hbody f cdv A outer s H vs Q E hr hsp
  exact ⟨t, h.nox, q⟩
theorem df_mk {K : PySem.W.Frag} {mg : Str → Option Value} {h : Heap} {x : Str} {st : Stmt} {ps : List Str} {f : Addr} {oc : Value} {od an : Option Addr} {osl : Array (Option Value)} {dV kV doc pm cdv ct : Value} (X : K.In h) (G : h.Ns mainGlobals mg)
    (a : PySem.W.nsIn K mainGlobals x = some (some (.ref f))) (l : K.lookup f = some ⟨oc, od, .func (PySem.W.fnOf x x (defArgs st) (defBody st) (defScope st) dV kV doc pm an cdv ct), osl⟩)
    (c : PySem.W.codeIn K cdv x = true) (k : PySem.W.keepIn K (.ref f) = true)
    (b : ∀ us : List Value, us.length = ps.length → bindArgs (PySem.W.fnOf x x (defArgs st) (defBody st) (defScope st) dV kV doc pm an cdv ct) ⟨us, []⟩ = pure (ps.zip us)) : Df K mg x st ps :=
  ⟨f, _, ⟨oc, od, dV, kV, doc, pm, an, cdv, ct, osl, rfl, l, c⟩, k, PySem.W.mg_of X G a, .all b⟩
section
variable {X : Cx} {k : Nat} {x : Str} {ps : List Str} {dvs : List V} {sp : Sp} {p pos : Pos} {e : Expr} {es : List Expr} {t : TA}
end
section
variable {X : Cx} {k : Nat} {x : Str} {ps : List Str} {sp : Sp} {p pos : Pos} {e : Expr} {es : List Expr} {t : TA}
theorem pe_callO (o : Okf X.prog X.w X.K X.mg X.base k x ps sp) (hr : Room k X.A) (hg : Gl X x) (ha : PA X (e :: es) t) (hdb : (x == ("__debug__" : Str)) = false := by decide)
    (he : starEach (e :: es) X.env = (false, eval e X.env) :: starEach es X.env := by rfl) (hpl : (backTo pos (starEach es X.env)).any (·.1) = false := by rfl) :
    PE X (.Call (.Name x p) (e :: es) [] pos) (tCall sp [] E0 t) := by
  obtain ⟨f, fd, a, b, c, d⟩ := o.ex
  exact pe_call d hr hg a b c .nil pass0 ha hdb he hpl
end
section
variable {σ : St} {H : Hp} {Q : VK} {D : Ends} {v : V} {i j : Int} {K : PySem.W.Frag}
theorem r_ixs {p : Addr} {xs : List V} (h : SqL K H p xs) (e : atI xs i = some v) (k : Q v H) : rIxLT K (.ref p) (.int i) H Q := .inl (r_ixL h e k)
theorem r_mod (h : 0 < j) (k : Q (.int (i % j)) H) : rI (fun _ j => 0 < j) (fun i j => .int (i % j)) (.int i) (.int j) H Q := r_I h k
theorem r_mul (h : CMulB i j) (k : Q (.int (i * j)) H) : rI CMulB (fun i j => .int (i * j)) (.int i) (.int j) H Q := r_I h k
theorem CDivB.of (h0 : 0 < j) (h1 : j < 2 ^ 64) : CDivB i j := ⟨by omega, Sm.mono (m := 64) (Sm.of (by omega) (by omega)) (by decide)⟩
theorem r_fdiv (h : CDivB i j) (k : Q (.int (i.fdiv j)) H) : rI CDivB (fun i j => .int (i.fdiv j)) (.int i) (.int j) H Q := r_I h k
theorem r_pow18 (k : Q (.int 1000000000000000000) H) : rI CPow (fun i j => .int (i ^ j.toNat)) (.int 10) (.int 18) H Q := r_I ⟨by decide, by decide, by decide⟩ k
theorem r_gsub {to ti : TE} {t : TSet} {R : St → Hp → Prop} (k : to σ H fun o H1 => ti σ H1 fun i H2 => t o i v H2 fun H3 => R σ H3) : gSub to ti t v σ H R := k
theorem r_set3_0 {p : Addr} {x y z : V} {R : Hp → Prop} (h : H p = some (.lst [x, y, z])) (k : R (upd H p (.lst [v, y, z]))) : rSetL (.ref p) (.int 0) v H R := ⟨p, _, 0, 0, rfl, rfl, h, rfl, k⟩
theorem r_set3_1 {p : Addr} {x y z : V} {R : Hp → Prop} (h : H p = some (.lst [x, y, z])) (k : R (upd H p (.lst [x, v, z]))) : rSetL (.ref p) (.int 1) v H R := ⟨p, _, 1, 1, rfl, rfl, h, rfl, k⟩
theorem r_set3_2 {p : Addr} {x y z : V} {R : Hp → Prop} (h : H p = some (.lst [x, y, z])) (k : R (upd H p (.lst [x, y, v]))) : rSetL (.ref p) (.int 2) v H R := ⟨p, _, 2, 2, rfl, rfl, h, rfl, k⟩
theorem r_parK {n m : Nat} {w : V} (k : D.nx ((σ.set n (some v)).set m (some w)) H) : ∃ v' w', [v, w] = [v', w'] ∧ D.nx ((σ.set n (some v')).set m (some w')) H := ⟨v, w, rfl, k⟩
end
theorem bt_int : bootBuiltins "int" = some (.type "int") := by decide +kernel
theorem bt_bool : bootBuiltins "bool" = some (.type "bool") := by decide +kernel
theorem bt_str : bootBuiltins "str" = some (.type "str") := by decide +kernel
theorem bt_list : bootBuiltins "list" = some (.type "list") := by decide +kernel
theorem bt_tuple : bootBuiltins "tuple" = some (.type "tuple") := by decide +kernel
theorem bt_set : bootBuiltins "set" = some (.type "set") := by decide +kernel
theorem bt_enumerate : bootBuiltins "enumerate" = some (.type "enumerate") := by decide +kernel
theorem bt_len : bootBuiltins "len" = some (.builtin "len") := by decide +kernel
theorem bt_abs : bootBuiltins "abs" = some (.builtin "abs") := by decide +kernel
theorem bt_max : bootBuiltins "max" = some (.builtin "max") := by decide +kernel
theorem bt_min : bootBuiltins "min" = some (.builtin "min") := by decide +kernel
theorem bt_isinstance : bootBuiltins "isinstance" = some (.builtin "isinstance") := by decide +kernel
theorem bt_sorted : bootBuiltins "sorted" = some (.builtin "sorted") := by decide +kernel
theorem bt_all : bootBuiltins "all" = some (.builtin "all") := by decide +kernel
structure Bl (mg : Str → Option Value) : Prop where
  z_int : mg "int" = none
  z_bool : mg "bool" = none
  z_str : mg "str" = none
  z_list : mg "list" = none
  z_tuple : mg "tuple" = none
  z_dict : mg "dict" = none
  z_set : mg "set" = none
  z_range : mg "range" = none
  z_enumerate : mg "enumerate" = none
  z_zip : mg "zip" = none
  z_reversed : mg "reversed" = none
  z_len : mg "len" = none
  z_abs : mg "abs" = none
  z_max : mg "max" = none
  z_min : mg "min" = none
  z_isinstance : mg "isinstance" = none
  z_sorted : mg "sorted" = none
  z_all : mg "all" = none
  z_any : mg "any" = none
  z_sum : mg "sum" = none
section
variable {K : PySem.W.Frag} {H : Hp} {Q : VK}
theorem kit_bool_bool : PySem.W.kitOne K (.type "bool") (.type "bool") = some true := by first | rfl | with_unfolding_all rfl | decide
theorem kit_bool_int : PySem.W.kitOne K (.type "bool") (.type "int") = some true := by first | rfl | with_unfolding_all rfl | decide
theorem kit_bool_list : PySem.W.kitOne K (.type "bool") (.type "list") = some false := by first | rfl | with_unfolding_all rfl | decide
theorem kit_int_bool : PySem.W.kitOne K (.type "int") (.type "bool") = some false := by first | rfl | with_unfolding_all rfl | decide
theorem kit_int_int : PySem.W.kitOne K (.type "int") (.type "int") = some true := by first | rfl | with_unfolding_all rfl | decide
theorem kit_int_str : PySem.W.kitOne K (.type "int") (.type "str") = some false := by first | rfl | with_unfolding_all rfl | decide
theorem kit_int_tuple : PySem.W.kitOne K (.type "int") (.type "tuple") = some false := by first | rfl | with_unfolding_all rfl | decide
theorem kit_int_list : PySem.W.kitOne K (.type "int") (.type "list") = some false := by first | rfl | with_unfolding_all rfl | decide
theorem kit_str_bool : PySem.W.kitOne K (.type "str") (.type "bool") = some false := by first | rfl | with_unfolding_all rfl | decide
theorem kit_str_int : PySem.W.kitOne K (.type "str") (.type "int") = some false := by first | rfl | with_unfolding_all rfl | decide
theorem kit_str_str : PySem.W.kitOne K (.type "str") (.type "str") = some true := by first | rfl | with_unfolding_all rfl | decide
theorem kit_str_tuple : PySem.W.kitOne K (.type "str") (.type "tuple") = some false := by first | rfl | with_unfolding_all rfl | decide
theorem kit_str_list : PySem.W.kitOne K (.type "str") (.type "list") = some false := by first | rfl | with_unfolding_all rfl | decide
theorem kit_tuple_tuple : PySem.W.kitOne K (.type "tuple") (.type "tuple") = some true := by first | rfl | with_unfolding_all rfl | decide
theorem kit_tuple_list : PySem.W.kitOne K (.type "tuple") (.type "list") = some false := by first | rfl | with_unfolding_all rfl | decide
theorem kit_list_tuple : PySem.W.kitOne K (.type "list") (.type "tuple") = some false := by first | rfl | with_unfolding_all rfl | decide
theorem kit_list_list : PySem.W.kitOne K (.type "list") (.type "list") = some true := by first | rfl | with_unfolding_all rfl | decide
theorem kit_dict_list : PySem.W.kitOne K (.type "dict") (.type "list") = some false := by first | rfl | with_unfolding_all rfl | decide
theorem kit_NoneType_bool : PySem.W.kitOne K (.type "NoneType") (.type "bool") = some false := by first | rfl | with_unfolding_all rfl | decide
theorem kit_NoneType_int : PySem.W.kitOne K (.type "NoneType") (.type "int") = some false := by first | rfl | with_unfolding_all rfl | decide
theorem kit_NoneType_str : PySem.W.kitOne K (.type "NoneType") (.type "str") = some false := by first | rfl | with_unfolding_all rfl | decide
theorem kit_NoneType_tuple : PySem.W.kitOne K (.type "NoneType") (.type "tuple") = some false := by first | rfl | with_unfolding_all rfl | decide
theorem kit_NoneType_list : PySem.W.kitOne K (.type "NoneType") (.type "list") = some false := by first | rfl | with_unfolding_all rfl | decide
theorem r_isTy {T : String} {x : V} {t : Value} {b : Bool} (ty : TyOf K H x t) (e : PySem.W.kitOne K t (.type T) = some b) (k : Q (.bl b) H) : rIsTy K T [x, .ty T] H Q := ⟨x, t, b, rfl, ty, e, k⟩
end
section
variable {X : Cx} {K : PySem.W.Frag} {σ : St} {H : Hp} {Q : VK} {D : Ends} {i j : Int} {b : Bool}
noncomputable def rAbs : List V → Hp → VK → Prop := fun xs H Q => ∃ i, xs = [.int i] ∧ Q (.int (if i < 0 then -i else i)) H
theorem c_abs : CallR X (.builtin "abs") rAbs := call_abs
theorem r_abs (k : Q (.int (if i < 0 then -i else i)) H) : rAbs [.int i] H Q := ⟨i, rfl, k⟩
noncomputable def rMax2 : List V → Hp → VK → Prop := fun xs H Q => ∃ i j, xs = [.int i, .int j] ∧ Q (.int (if j > i then j else i)) H
theorem c_max (hc : X.calm = true) : CallR X (.builtin "max") rMax2 := call_max2 hc
theorem r_max (k : Q (.int (if j > i then j else i)) H) : rMax2 [.int i, .int j] H Q := ⟨i, j, rfl, k⟩
noncomputable def rMin2 : List V → Hp → VK → Prop := fun xs H Q => ∃ i j, xs = [.int i, .int j] ∧ Q (.int (if j < i then j else i)) H
theorem c_min (hc : X.calm = true) : CallR X (.builtin "min") rMin2 := call_min2 hc
theorem r_min (k : Q (.int (if j < i then j else i)) H) : rMin2 [.int i, .int j] H Q := ⟨i, j, rfl, k⟩
noncomputable def rLen (K : PySem.W.Frag) : List V → Hp → VK → Prop := fun xs H Q => ∃ x n, xs = [x] ∧ LenV K x H n ∧ Q (.int n) H
theorem c_len : CallR X (.builtin "len") (rLen X.K) := call_len
theorem r_lenL {p : Addr} {xs : List V} (h : SqL K H p xs) (k : Q (.int xs.length) H) : rLen K [.ref p] H Q := ⟨_, _, rfl, .inl ⟨xs, h, rfl⟩, k⟩
theorem r_lenl {p : Addr} {xs : List V} (h : H p = some (.lst xs)) (k : Q (.int xs.length) H) : rLen K [.ref p] H Q := r_lenL (SqL.of h) k
theorem r_lent {p : Addr} {xs : List V} (h : H p = some (.tup xs)) (k : Q (.int xs.length) H) : rLen K [.ref p] H Q := ⟨_, _, rfl, .inr ⟨xs, SqT.of h, rfl⟩, k⟩
theorem r_lens {x : Str} (h : x.length ≤ sizeLine) (k : Q (.int x.length) H) : rLen K [.str x] H Q := ⟨_, _, rfl, ⟨h, rfl⟩, k⟩
noncomputable def rInt1 : List V → Hp → VK → Prop := fun xs H Q => (∃ i, xs = [.int i] ∧ Q (.int i) H) ∨ ∃ k, xs = [.bl k] ∧ Q (.int (if k then 1 else 0)) H
theorem c_int : CallR X (.type "int") rInt1 := call_int1
theorem r_intB (k : Q (.int (if b then 1 else 0)) H) : rInt1 [.bl b] H Q := .inr ⟨b, rfl, k⟩
noncomputable def forK (g : TG) (tb : TS) (D : Ends) (σ : St) : It → Hp → Prop := fun J H1 => ∃ W : Nat → Nat → St → Hp → Prop, (∃ m, W 0 m σ H1) ∧ ∀ i m σ H, W i m σ H →
  (J.stop i H ∧ D.nx σ H) ∨ (J.go i H ∧ ∃ N : St → Hp → Prop, (∀ σ' H', N σ' H' → ∃ m', m' < m ∧ W (i + 1) m' σ' H') ∧ ∀ x H', J.yld i H x H' → g x σ H' fun σ2 H2 => tb { D with nx := N, ct := N, bk := D.nx } σ2 H2)
theorem r_for {wi : TI} {g : TG} {tb : TS} (k : wi σ H (forK g tb D σ)) : tFor wi g tb D σ H := k
noncomputable def rng1K (R : It → Hp → Prop) : List V → Hp → Prop := fun vs H1 => ∃ j : Int, vs = [.int j] ∧ -(2 ^ 62) ≤ j ∧ j < 2 ^ 62 ∧ R (Itr 0 j.toNat) H1
noncomputable def rng2K (R : It → Hp → Prop) : List V → Hp → Prop := fun vs H1 => ∃ i j : Int, vs = [.int i, .int j] ∧ (-(2 ^ 62) ≤ i ∧ i < 2 ^ 62 ∧ -(2 ^ 62) ≤ j ∧ j < 2 ^ 62) ∧ R (Itr i (j - i).toNat) H1
theorem r_rng1 {ta : TA} {R : It → Hp → Prop} (k : ta σ H (rng1K R)) : iRng1 ta σ H R := k
theorem r_rng2 {ta : TA} {R : It → Hp → Prop} (k : ta σ H (rng2K R)) : iRng2 ta σ H R := k
theorem r_rng1K {R : It → Hp → Prop} (h1 : -(2 ^ 62) ≤ j) (h2 : j < 2 ^ 62) (k : R (Itr 0 j.toNat) H) : rng1K R [.int j] H := ⟨j, rfl, h1, h2, k⟩
theorem r_rng2K {R : It → Hp → Prop} (h1 : -(2 ^ 62) ≤ i) (h2 : i < 2 ^ 62) (h3 : -(2 ^ 62) ≤ j) (h4 : j < 2 ^ 62) (k : R (Itr i (j - i).toNat) H) : rng2K R [.int i, .int j] H := ⟨i, j, rfl, ⟨h1, h2, h3, h4⟩, k⟩
theorem r_forR {lo : Int} {n : Nat} {g : TG} {tb : TS} (Pv : Nat → St → Hp → Prop) (h0 : Pv 0 σ H)
    (hs : ∀ i σ H, i < n → Pv i σ H → g (.int (lo + i)) σ H fun σ2 H2 => tb ⟨Pv (i + 1), D.rt, D.nx, Pv (i + 1)⟩ σ2 H2) (hd : ∀ σ H, Pv n σ H → D.nx σ H) : forK g tb D σ (Itr lo n) H := for_range Pv h0 hs hd
noncomputable def listK (K : PySem.W.Frag) (R : It → Hp → Prop) : VK := fun x H1 => ∃ a, x = .ref a ∧ (∃ xs, SqL K H1 a xs) ∧ R (Itl K a) H1
theorem r_iList {tl : TE} {R : It → Hp → Prop} (k : tl σ H (listK K R)) : iList K tl σ H R := k
theorem r_listK {a : Addr} {xs : List V} {R : It → Hp → Prop} (h : SqL K H a xs) (k : R (Itl K a) H) : listK K R (.ref a) H := ⟨a, rfl, ⟨xs, h⟩, k⟩
theorem r_forL {a : Addr} {xs : List V} {g : TG} {tb : TS} (Pv : Nat → St → Hp → Prop) (h0 : Pv 0 σ H) (hl : ∀ i σ H, i ≤ xs.length → Pv i σ H → SqL K H a xs)
    (hs : ∀ i x σ H, xs[i]? = some x → Pv i σ H → g x σ H fun σ2 H2 => tb ⟨Pv (i + 1), D.rt, D.nx, Pv (i + 1)⟩ σ2 H2) (hd : ∀ σ H, Pv xs.length σ H → D.nx σ H) : forK g tb D σ (Itl K a) H := for_list Pv h0 hl hs hd
end
end L2
namespace L2
open PySem
noncomputable def sg (t b : Int) : Int := if b < 0 then 0 - (Int.gcd t b : Int) else (Int.gcd t b : Int)
noncomputable def lowT (t b : Int) : Int := t.fdiv (sg t b)
noncomputable def lowB (t b : Int) : Int := b.fdiv (sg t b)
theorem gcd_pos {t b : Int} (h : b ≠ 0) : 0 < Int.gcd t b := Nat.pos_of_ne_zero fun e => h (Int.gcd_eq_zero_iff.mp e).2
theorem sg_ne {t b : Int} (h : b ≠ 0) : sg t b ≠ 0 := by
  have := gcd_pos (t := t) h
  unfold sg
  split <;> omega
theorem sg_dvd_l (t b : Int) : sg t b ∣ t := by
  unfold sg
  split
  · exact (Int.zero_sub _ ▸ Int.neg_dvd.mpr (Int.gcd_dvd_left ..))
  · exact Int.gcd_dvd_left ..
theorem sg_dvd_r (t b : Int) : sg t b ∣ b := by
  unfold sg
  split
  · exact (Int.zero_sub _ ▸ Int.neg_dvd.mpr (Int.gcd_dvd_right ..))
  · exact Int.gcd_dvd_right ..
theorem fdiv_of {a g : Int} (hg : g ≠ 0) (h : g ∣ a) : a.fdiv g * g = a := by
  obtain ⟨c, rfl⟩ := h
  rw [Int.mul_fdiv_cancel_left _ hg, Int.mul_comm]
theorem lowT_mul {t b : Int} (h : b ≠ 0) : lowT t b * sg t b = t := fdiv_of (sg_ne h) (sg_dvd_l t b)
theorem lowB_mul {t b : Int} (h : b ≠ 0) : lowB t b * sg t b = b := fdiv_of (sg_ne h) (sg_dvd_r t b)
theorem sg_natAbs (t b : Int) : (sg t b).natAbs = Int.gcd t b := by
  unfold sg
  split <;> omega
theorem lowB_pos {t b : Int} (h : b ≠ 0) : 0 < lowB t b := by
  have e := lowB_mul (t := t) h
  have hp := gcd_pos (t := t) h
  by_cases hb : b < 0
  · have hs : sg t b < 0 := by unfold sg; rw [if_pos hb]; omega
    rcases Int.lt_or_le 0 (lowB t b) with q | q
    · exact q
    · have : 0 ≤ lowB t b * sg t b := Int.mul_nonneg_of_nonpos_of_nonpos q (Int.le_of_lt hs)
      omega
  · have hs : 0 < sg t b := by unfold sg; rw [if_neg hb]; omega
    rcases Int.lt_or_le 0 (lowB t b) with q | q
    · exact q
    · have : lowB t b * sg t b ≤ 0 := Int.mul_nonpos_of_nonpos_of_nonneg q (Int.le_of_lt hs)
      omega
theorem low_cop {t b : Int} (h : b ≠ 0) : Int.gcd (lowT t b) (lowB t b) = 1 := by
  have e1 := lowT_mul (t := t) h
  have e2 := lowB_mul (t := t) h
  have hp := gcd_pos (t := t) h
  have e : Int.gcd (lowT t b * sg t b) (lowB t b * sg t b) = Int.gcd (lowT t b) (lowB t b) * (sg t b).natAbs := Int.gcd_mul_right ..
  rw [e1, e2, sg_natAbs] at e
  have : 1 * Int.gcd t b = Int.gcd (lowT t b) (lowB t b) * Int.gcd t b := by omega
  exact (Nat.eq_of_mul_eq_mul_right hp this).symm
theorem low_cross {t b : Int} (h : b ≠ 0) : t * lowB t b = b * lowT t b := by
  have e1 := lowT_mul (t := t) h
  have e2 := lowB_mul (t := t) h
  calc t * lowB t b = (lowT t b * sg t b) * lowB t b := by rw [e1]
    _ = (lowB t b * sg t b) * lowT t b := by rw [Int.mul_assoc, Int.mul_comm (sg t b), ← Int.mul_assoc, Int.mul_comm (lowT t b), Int.mul_assoc, Int.mul_comm (lowT t b), ← Int.mul_assoc]
    _ = b * lowT t b := by rw [e2]
theorem natAbs_le_of_mul {a g c : Int} (hg : g ≠ 0) (e : a * g = c) : a.natAbs ≤ c.natAbs := by
  rw [← e, Int.natAbs_mul]
  exact Nat.le_mul_of_pos_right _ (by omega)
theorem lowT_le {t b : Int} (h : b ≠ 0) : (lowT t b).natAbs ≤ t.natAbs := natAbs_le_of_mul (sg_ne h) (lowT_mul h)
theorem lowB_le {t b : Int} (h : b ≠ 0) : (lowB t b).natAbs ≤ b.natAbs := natAbs_le_of_mul (sg_ne h) (lowB_mul h)
theorem gcd_step {one other : Int} (h : 0 < other) : Int.gcd other (one % other) = Int.gcd one other := by
  have e : one % other = one - (one / other) * other := by rw [Int.emod_def, Int.mul_comm]
  rw [e, Int.gcd_comm other, Int.gcd_sub_mul_right_left]
theorem gcd_stepN {one other : Int} (h : other ≠ 0) : Int.gcd other (one.fmod other) = Int.gcd one other := by
  have e : one.fmod other = one - (one.fdiv other) * other := by rw [Int.fmod_def, Int.mul_comm]
  rw [e, Int.gcd_comm other, Int.gcd_sub_mul_right_left]
theorem pick {ns : List Int} {i : Int} (h0 : 0 ≤ i) (h1 : i < ns.length) : ∃ z, z ∈ ns ∧ atI (ns.map V.int) i = some (.int z) := by
  have hk : i.toNat < ns.length := by omega
  have ek : i = ((i.toNat : Nat) : Int) := by omega
  have q : atI (ns.map V.int) ((i.toNat : Nat) : Int) = some (.int ns[i.toNat]) := atI_nat (by rw [List.getElem?_map, List.getElem?_eq_getElem hk] <;> rfl)
  rw [← ek] at q
  exact ⟨ns[i.toNat], List.getElem_mem hk, q⟩
theorem fdiv_nn {a b : Int} (ha : 0 ≤ a) (hb : 0 < b) : 0 ≤ a.fdiv b := by
  rw [Int.fdiv_eq_ediv_of_nonneg _ (Int.le_of_lt hb)]
  exact Int.ediv_nonneg ha (Int.le_of_lt hb)
theorem r_modN {i j : Int} {H : Hp} {Q : VK} (h : j ≠ 0) (k : Q (.int (i.fmod j)) H) : rI (fun _ j => j ≠ 0) (fun i j => .int (i.fmod j)) (.int i) (.int j) H Q := r_I h k
theorem fmod_lt {a b : Int} (h : b ≠ 0) : (a.fmod b).natAbs < b.natAbs := by
  have e := Int.fmod_eq_emod (a := a) (b := b)
  have h1 := Int.emod_nonneg a h
  have h2 := Int.emod_lt a h
  rw [e]
  by_cases hc : 0 ≤ b ∨ b ∣ a
  · rw [if_pos hc]
    omega
  · rw [if_neg hc]
    have h3 : a % b ≠ 0 := fun z => hc (.inr (Int.dvd_of_emod_eq_zero z))
    omega
noncomputable def frV : V → V → Bool
  | .int a, .int b => decide (1 ≤ b) && decide (Int.gcd a b = 1)
  | _, _ => false
theorem low_worth {t b : Int} (h : b ≠ 0) : lowT t b * b = t * lowB t b := by rw [low_cross h, Int.mul_comm]
end L2
namespace L2
open PySem PySem.Spec PyProof.Rows
inductive Dt where
  | non | bl (b : Bool) | int (i : Int) | str (x : Str) | tup (xs : List Dt) | lst (xs : List Dt)
mutual
noncomputable def Den (H : Hp) : Dt → V → Prop
  | .non, v => v = .non
  | .bl b, v => v = .bl b
  | .int i, v => v = .int i
  | .str x, v => v = .str x
  | .tup ds, v => ∃ p vs, v = .ref p ∧ H p = some (.tup vs) ∧ DenL H ds vs
  | .lst ds, v => ∃ p vs, v = .ref p ∧ H p = some (.lst vs) ∧ DenL H ds vs
noncomputable def DenL (H : Hp) : List Dt → List V → Prop
  | [], vs => vs = []
  | d :: ds, vs => ∃ v r, vs = v :: r ∧ Den H d v ∧ DenL H ds r
end
mutual
noncomputable def deq : Dt → Dt → Bool
  | .non, .non => true
  | .bl a, .bl b => a == b
  | .bl a, .int b => (if a then 1 else 0) == b
  | .int a, .bl b => a == (if b then 1 else 0)
  | .int a, .int b => a == b
  | .str a, .str b => a == b
  | .tup xs, .tup ys => deqL xs ys
  | .lst xs, .lst ys => deqL xs ys
  | _, _ => false
noncomputable def deqL : List Dt → List Dt → Bool
  | [], [] => true
  | x :: xs, y :: ys => deq x y && deqL xs ys
  | _, _ => false
end
mutual
noncomputable def dep : Dt → Nat
  | .tup xs => depL xs + 1
  | .lst xs => depL xs + 1
  | _ => 0
noncomputable def depL : List Dt → Nat
  | [] => 0
  | x :: xs => max (dep x) (depL xs)
end
theorem DenL.length {H : Hp} : ∀ {ds : List Dt} {vs : List V}, DenL H ds vs → ds.length = vs.length
  | [], vs, h => by rw [show vs = [] from h]; rfl
  | d :: ds, vs, h => by
    obtain ⟨v, r, rfl, _, t⟩ := h
    rw [List.length_cons, List.length_cons, DenL.length t]
mutual
theorem Den.same_eq {H : Hp} : ∀ (d e : Dt) {x : V}, Den H d x → Den H e x → deq d e = true
  | .tup ds, .tup es, x, h1, h2 => by
    obtain ⟨p, vs, rfl, a, b⟩ := h1
    obtain ⟨q, ws, e1, c, d⟩ := h2
    cases e1
    rw [a] at c
    cases c
    exact DenL.same_eq ds es b d
  | .lst ds, .lst es, x, h1, h2 => by
    obtain ⟨p, vs, rfl, a, b⟩ := h1
    obtain ⟨q, ws, e1, c, d⟩ := h2
    cases e1
    rw [a] at c
    cases c
    exact DenL.same_eq ds es b d
  | .tup ds, .lst es, x, h1, h2 => by
    obtain ⟨p, vs, rfl, a, b⟩ := h1
    obtain ⟨q, ws, e1, c, d⟩ := h2
    cases e1
    rw [a] at c
    cases c
  | .lst ds, .tup es, x, h1, h2 => by
    obtain ⟨p, vs, rfl, a, b⟩ := h1
    obtain ⟨q, ws, e1, c, d⟩ := h2
    cases e1
    rw [a] at c
    cases c
  | .non, e, x, h1, h2 => by
    have h1 : x = .non := h1
    subst h1
    cases e <;> first | rfl | (have h2 : V.non = _ := h2; cases h2) | (obtain ⟨_, _, z, _⟩ := h2; cases z)
  | .bl b, e, x, h1, h2 => by
    have h1 : x = .bl b := h1
    subst h1
    cases e <;> first | (have h2 : V.bl b = _ := h2; cases h2; exact beq_self_eq_true b) | (have h2 : V.bl b = _ := h2; cases h2; done) | (obtain ⟨_, _, z, _⟩ := h2; cases z)
  | .int b, e, x, h1, h2 => by
    have h1 : x = .int b := h1
    subst h1
    cases e <;> first | (have h2 : V.int b = _ := h2; cases h2; exact beq_self_eq_true b) | (have h2 : V.int b = _ := h2; cases h2; done) | (obtain ⟨_, _, z, _⟩ := h2; cases z)
  | .str b, e, x, h1, h2 => by
    have h1 : x = .str b := h1
    subst h1
    cases e <;> first | (have h2 : V.str b = _ := h2; cases h2; exact beq_self_eq_true b) | (have h2 : V.str b = _ := h2; cases h2; done) | (obtain ⟨_, _, z, _⟩ := h2; cases z)
  | .tup ds, .non, x, h1, h2 => by obtain ⟨p, vs, rfl, _⟩ := h1; have h2 : V.ref p = _ := h2; cases h2
  | .tup ds, .bl _, x, h1, h2 => by obtain ⟨p, vs, rfl, _⟩ := h1; have h2 : V.ref p = _ := h2; cases h2
  | .tup ds, .int _, x, h1, h2 => by obtain ⟨p, vs, rfl, _⟩ := h1; have h2 : V.ref p = _ := h2; cases h2
  | .tup ds, .str _, x, h1, h2 => by obtain ⟨p, vs, rfl, _⟩ := h1; have h2 : V.ref p = _ := h2; cases h2
  | .lst ds, .non, x, h1, h2 => by obtain ⟨p, vs, rfl, _⟩ := h1; have h2 : V.ref p = _ := h2; cases h2
  | .lst ds, .bl _, x, h1, h2 => by obtain ⟨p, vs, rfl, _⟩ := h1; have h2 : V.ref p = _ := h2; cases h2
  | .lst ds, .int _, x, h1, h2 => by obtain ⟨p, vs, rfl, _⟩ := h1; have h2 : V.ref p = _ := h2; cases h2
  | .lst ds, .str _, x, h1, h2 => by obtain ⟨p, vs, rfl, _⟩ := h1; have h2 : V.ref p = _ := h2; cases h2
theorem DenL.same_eq {H : Hp} : ∀ (ds es : List Dt) {xs : List V}, DenL H ds xs → DenL H es xs → deqL ds es = true
  | [], [], xs, _, _ => rfl
  | [], e :: es, xs, h1, h2 => by
    have h1 : xs = [] := h1
    subst h1
    obtain ⟨_, _, z, _⟩ := h2
    cases z
  | d :: ds, [], xs, h1, h2 => by
    have h2 : xs = [] := h2
    subst h2
    obtain ⟨_, _, z, _⟩ := h1
    cases z
  | d :: ds, e :: es, xs, h1, h2 => by
    obtain ⟨v, r, rfl, a, b⟩ := h1
    obtain ⟨v', r', z, a', b'⟩ := h2
    cases z
    show (deq d e && deqL ds es) = true
    rw [Den.same_eq d e a a', DenL.same_eq ds es b b']
    rfl
end
noncomputable def nth (ds es : List Dt) (j : Nat) : Bool := match ds[j]?, es[j]? with
  | some d, some e => deq d e
  | _, _ => false
theorem deqL_all : ∀ (ds es : List Dt), ((List.range (min ds.length es.length)).all (nth ds es) && ds.length == es.length) = deqL ds es
  | [], [] => rfl
  | [], e :: es => by show (_ && (0 == es.length + 1)) = false; simp
  | d :: ds, [] => by show (_ && (ds.length + 1 == 0)) = false; simp
  | d :: ds, e :: es => by
    have ih := deqL_all ds es
    show _ = (deq d e && deqL ds es)
    rw [← ih]
    have h1 : min (d :: ds).length (e :: es).length = min ds.length es.length + 1 := by simp only [List.length_cons]; omega
    rw [h1, List.range_succ_eq_map, List.all_cons, List.all_map]
    have h2 : (nth (d :: ds) (e :: es)) ∘ Nat.succ = nth ds es := by funext j; rfl
    rw [h2]
    have h3 : nth (d :: ds) (e :: es) 0 = deq d e := rfl
    rw [h3]
    have h4 : ((d :: ds).length == (e :: es).length) = (ds.length == es.length) := by simp
    rw [h4, Bool.and_assoc]
section
variable {X : Cx} {pins : List (Addr × Obj)} {σ : St} {H : Hp} {s : Shared}
theorem tup_at (I : Inv X pins σ H s) {p : Addr} {vs : List V} (h : H p = some (.tup vs)) : ∃ its : List Value, Vals vs its ∧ s.heap.IsTuple p its.toArray := by
  obtain ⟨_, its, r, q⟩ := (show ObjOk X.prog X.w H s.heap p (.tup vs) from I.hok p _ h)
  exact ⟨its, r, q⟩
theorem lst_at (I : Inv X pins σ H s) {p : Addr} {vs : List V} (h : H p = some (.lst vs)) : ∃ its : List Value, Vals vs its ∧ s.heap.IsList p its.toArray := by
  obtain ⟨_, its, n, r, q⟩ := (show ObjOk X.prog X.w H s.heap p (.lst vs) from I.hok p _ h)
  exact ⟨its, r, _, q, rfl, _, rfl⟩
theorem in1_tup {A : Around} {ds : List Dt} (h : A.units + dep (.tup ds) < cLine) : A.in1.units + depL ds < cLine := by
  have e : dep (.tup ds) = depL ds + 1 := by simp [dep]
  show A.units + 1 + depL ds < cLine
  omega
theorem in1_lst {A : Around} {ds : List Dt} (h : A.units + dep (.lst ds) < cLine) : A.in1.units + depL ds < cLine := by
  have e : dep (.lst ds) = depL ds + 1 := by simp [dep]
  show A.units + 1 + depL ds < cLine
  omega
mutual
theorem eqAt_D (I : Inv X pins σ H s) : ∀ (d e : Dt) {x y : V} {u v : Value} {A : Around}, Den H d x → Den H e y → RelV x u → RelV y v → A.units + dep d < cLine → SeqAt.EqAt A s u v (deq d e)
  | .tup ds, e, x, y, u, v, A, h1, h2, rx, ry, hu => by
    obtain ⟨p, vs, rfl, a, b⟩ := h1
    cases rx
    obtain ⟨its, r, t⟩ := tup_at I a
    have hu' : A.units < cLine := by omega
    cases e with
    | tup es =>
      obtain ⟨q, ws, rfl, a', b'⟩ := id h2
      cases ry
      by_cases hne : p = q
      · subst hne
        have := Den.same_eq (.tup ds) (.tup es) (x := .ref p) ⟨p, vs, rfl, a, b⟩ h2
        rw [this]
        exact SeqAt.EqAt.same _
      · obtain ⟨its', r', t'⟩ := tup_at I a'
        have z := SeqAt.RcAt.tuples (e := nth ds es) t t' hu' (fun j g1 g2 => eqAt_L I ds es b b' r r' (in1_tup hu) j (by simpa using g1) (by simpa using g2))
        have l1 : its.length = ds.length := by rw [b.length, r.length]
        have l2 : its'.length = es.length := by rw [b'.length, r'.length]
        rw [List.size_toArray, List.size_toArray, l1, l2, deqL_all] at z
        exact SeqAt.EqAt.of_refs hne z
    | lst es =>
      obtain ⟨q, ws, rfl, a', b'⟩ := id h2
      cases ry
      obtain ⟨its', r', t'⟩ := lst_at I a'
      exact SeqAt.EqAt.tuple_list t t' hu'
    | non => cases (show y = .non from h2); cases ry; exact SeqAt.EqAt.tuple_none t hu'
    | bl b => cases (show y = .bl b from h2); cases ry; exact SeqAt.EqAt.tuple_bool b t hu'
    | int b => cases (show y = .int b from h2); obtain ⟨tk, rfl⟩ := ry; exact SeqAt.EqAt.tuple_int b tk t hu'
    | str b => cases (show y = .str b from h2); obtain ⟨tk, rfl⟩ := ry; exact SeqAt.EqAt.tuple_str b tk t hu'
  | .lst ds, e, x, y, u, v, A, h1, h2, rx, ry, hu => by
    obtain ⟨p, vs, rfl, a, b⟩ := h1
    cases rx
    obtain ⟨its, r, t⟩ := lst_at I a
    have hu' : A.units < cLine := by omega
    cases e with
    | lst es =>
      obtain ⟨q, ws, rfl, a', b'⟩ := id h2
      cases ry
      by_cases hne : p = q
      · subst hne
        have := Den.same_eq (.lst ds) (.lst es) (x := .ref p) ⟨p, vs, rfl, a, b⟩ h2
        rw [this]
        exact SeqAt.EqAt.same _
      · obtain ⟨its', r', t'⟩ := lst_at I a'
        have l1 : its.length = ds.length := by rw [b.length, r.length]
        have l2 : its'.length = es.length := by rw [b'.length, r'.length]
        by_cases hl : ds.length = es.length
        · have z := SeqAt.RcAt.lists (e := nth ds es) t t' (by rw [List.size_toArray, List.size_toArray, l1, l2, hl]) hu' (fun j g1 g2 => eqAt_L I ds es b b' r r' (in1_lst hu) j (by simpa using g1) (by simpa using g2))
          have e1 := deqL_all ds es
          rw [hl, Nat.min_self, beq_self_eq_true, Bool.and_true] at e1
          rw [List.size_toArray, l1, hl, e1] at z
          exact SeqAt.EqAt.of_refs hne z
        · have z := SeqAt.RcAt.lists_lengths t t' (by rw [List.size_toArray, List.size_toArray, l1, l2]; simpa using hl) hu'
          have e1 := deqL_all ds es
          rw [show (ds.length == es.length) = false from by simpa using hl, Bool.and_false] at e1
          have e2 : deq (.lst ds) (.lst es) = false := by show deqL ds es = false; exact e1.symm
          rw [e2]
          exact SeqAt.EqAt.of_refs hne z
    | tup es =>
      obtain ⟨q, ws, rfl, a', b'⟩ := id h2
      cases ry
      obtain ⟨its', r', t'⟩ := tup_at I a'
      exact SeqAt.EqAt.list_tuple t t' hu'
    | non => cases (show y = .non from h2); cases ry; exact SeqAt.EqAt.list_none t hu'
    | bl b => cases (show y = .bl b from h2); cases ry; exact SeqAt.EqAt.list_bool b t hu'
    | int b => cases (show y = .int b from h2); obtain ⟨tk, rfl⟩ := ry; exact SeqAt.EqAt.list_int b tk t hu'
    | str b => cases (show y = .str b from h2); obtain ⟨tk, rfl⟩ := ry; exact SeqAt.EqAt.list_str b tk t hu'
  | .non, e, x, y, u, v, A, h1, h2, rx, ry, hu => by
    cases (show x = .non from h1); cases rx
    have hu' : A.units < cLine := by omega
    cases e with
    | tup es => obtain ⟨q, ws, rfl, a', b'⟩ := id h2; cases ry; obtain ⟨its', r', t'⟩ := tup_at I a'; exact SeqAt.EqAt.none_tuple t' hu'
    | lst es => obtain ⟨q, ws, rfl, a', b'⟩ := id h2; cases ry; obtain ⟨its', r', t'⟩ := lst_at I a'; exact SeqAt.EqAt.none_list t' hu'
    | non => cases (show y = .non from h2); cases ry; exact SeqAt.EqAt.same _
    | bl b => cases (show y = .bl b from h2); cases ry; exact SeqAt.EqAt.none_bool b
    | int b => cases (show y = .int b from h2); obtain ⟨tk, rfl⟩ := ry; exact SeqAt.EqAt.none_int b tk
    | str b => cases (show y = .str b from h2); obtain ⟨tk, rfl⟩ := ry; exact SeqAt.EqAt.none_str b tk
  | .bl c, e, x, y, u, v, A, h1, h2, rx, ry, hu => by
    cases (show x = .bl c from h1); cases rx
    have hu' : A.units < cLine := by omega
    cases e with
    | tup es => obtain ⟨q, ws, rfl, a', b'⟩ := id h2; cases ry; obtain ⟨its', r', t'⟩ := tup_at I a'; exact SeqAt.EqAt.bool_tuple c t' hu'
    | lst es => obtain ⟨q, ws, rfl, a', b'⟩ := id h2; cases ry; obtain ⟨its', r', t'⟩ := lst_at I a'; exact SeqAt.EqAt.bool_list c t' hu'
    | non => cases (show y = .non from h2); cases ry; exact SeqAt.EqAt.bool_none c
    | bl b => cases (show y = .bl b from h2); cases ry; exact SeqAt.EqAt.bool_bool c b
    | int b => cases (show y = .int b from h2); obtain ⟨tk, rfl⟩ := ry; exact SeqAt.EqAt.bool_int c b tk
    | str b => cases (show y = .str b from h2); obtain ⟨tk, rfl⟩ := ry; exact SeqAt.EqAt.bool_str c b tk
  | .int c, e, x, y, u, v, A, h1, h2, rx, ry, hu => by
    cases (show x = .int c from h1); obtain ⟨tc, rfl⟩ := rx
    have hu' : A.units < cLine := by omega
    cases e with
    | tup es => obtain ⟨q, ws, rfl, a', b'⟩ := id h2; cases ry; obtain ⟨its', r', t'⟩ := tup_at I a'; exact SeqAt.EqAt.int_tuple c tc t' hu'
    | lst es => obtain ⟨q, ws, rfl, a', b'⟩ := id h2; cases ry; obtain ⟨its', r', t'⟩ := lst_at I a'; exact SeqAt.EqAt.int_list c tc t' hu'
    | non => cases (show y = .non from h2); cases ry; exact SeqAt.EqAt.int_none c tc
    | bl b => cases (show y = .bl b from h2); cases ry; exact SeqAt.EqAt.int_bool c tc b
    | int b => cases (show y = .int b from h2); obtain ⟨tk, rfl⟩ := ry; exact SeqAt.EqAt.int_int c tc b tk
    | str b => cases (show y = .str b from h2); obtain ⟨tk, rfl⟩ := ry; exact SeqAt.EqAt.int_str c tc b tk
  | .str c, e, x, y, u, v, A, h1, h2, rx, ry, hu => by
    cases (show x = .str c from h1); obtain ⟨tc, rfl⟩ := rx
    have hu' : A.units < cLine := by omega
    cases e with
    | tup es => obtain ⟨q, ws, rfl, a', b'⟩ := id h2; cases ry; obtain ⟨its', r', t'⟩ := tup_at I a'; exact SeqAt.EqAt.str_tuple c tc t' hu'
    | lst es => obtain ⟨q, ws, rfl, a', b'⟩ := id h2; cases ry; obtain ⟨its', r', t'⟩ := lst_at I a'; exact SeqAt.EqAt.str_list c tc t' hu'
    | non => cases (show y = .non from h2); cases ry; exact SeqAt.EqAt.str_none c tc
    | bl b => cases (show y = .bl b from h2); cases ry; exact SeqAt.EqAt.str_bool c tc b
    | int b => cases (show y = .int b from h2); obtain ⟨tk, rfl⟩ := ry; exact SeqAt.EqAt.str_int c tc b tk
    | str b => cases (show y = .str b from h2); obtain ⟨tk, rfl⟩ := ry; exact SeqAt.EqAt.str_str c tc b tk
theorem eqAt_L (I : Inv X pins σ H s) : ∀ (ds es : List Dt) {xs ys : List V} {us vs : List Value} {A : Around}, DenL H ds xs → DenL H es ys → Vals xs us → Vals ys vs → A.units + depL ds < cLine →
    ∀ (j : Nat) (g1 : j < us.length) (g2 : j < vs.length), SeqAt.EqAt A s us[j] vs[j] (nth ds es j)
  | [], es, xs, ys, us, vs, A, h1, h2, r1, r2, hu => fun j g1 g2 => by
    have h1 : xs = [] := h1
    subst h1
    cases r1
    exact absurd g1 (Nat.not_lt_zero _)
  | d :: ds, [], xs, ys, us, vs, A, h1, h2, r1, r2, hu => fun j g1 g2 => by
    have h2 : ys = [] := h2
    subst h2
    cases r2
    exact absurd g2 (Nat.not_lt_zero _)
  | d :: ds, e :: es, xs, ys, us, vs, A, h1, h2, r1, r2, hu => fun j g1 g2 => by
    obtain ⟨x, xr, rfl, a, b⟩ := h1
    obtain ⟨y, yr, rfl, a', b'⟩ := h2
    cases r1 with
    | cons rx r1 =>
      cases r2 with
      | cons ry r2 =>
        have hd : depL (d :: ds) = max (dep d) (depL ds) := by simp [depL]
        cases j with
        | zero => exact eqAt_D I d e a a' rx ry (by omega)
        | succ j => exact eqAt_L I ds es b b' r1 r2 (by omega) j (by simpa using g1) (by simpa using g2)
end
noncomputable def rEqD : R2 := fun x y H Q => ∃ d e, Den H d x ∧ Den H e y ∧ dep d ≤ 60 ∧ ((∃ ds es, d = .tup ds ∧ e = .tup es) ∨ ∃ ds es, d = .lst ds ∧ e = .lst es) ∧ Q (.bl (deq d e)) H
noncomputable def rNeD : R2 := fun x y H Q => ∃ d e, Den H d x ∧ Den H e y ∧ dep d ≤ 60 ∧ ((∃ ds es, d = .tup ds ∧ e = .tup es) ∨ ∃ ds es, d = .lst ds ∧ e = .lst es) ∧ Q (.bl (!deq d e)) H
theorem op_eqD (hu : X.A.units + 64 < cLine) : OpR X (compareOp .Eq) rEqD := by
  intro pins s σ H x y v u Q I rx ry h
  obtain ⟨d, e, h1, h2, hd, k, q⟩ := h
  rcases k with ⟨ds, es, rfl, rfl⟩ | ⟨ds, es, rfl, rfl⟩
  · obtain ⟨p, vs, rfl, a, b⟩ := h1
    obtain ⟨p', ws, rfl, a', b'⟩ := h2
    cases rx
    cases ry
    obtain ⟨its, r, t⟩ := tup_at I a
    obtain ⟨its', r', t'⟩ := tup_at I a'
    have z := SeqAt.RcAt.tuples (A := X.A) (e := nth ds es) t t' (by omega) (fun j g1 g2 => eqAt_L I ds es b b' r r' (in1_tup (by omega)) j (by simpa using g1) (by simpa using g2))
    have l1 : its.length = ds.length := by rw [b.length, r.length]
    have l2 : its'.length = es.length := by rw [b'.length, r'.length]
    rw [List.size_toArray, List.size_toArray, l1, l2, deqL_all] at z
    exact z _ _ _ _ ⟨.bl _, H, I, rfl, q⟩
  · obtain ⟨p, vs, rfl, a, b⟩ := h1
    obtain ⟨p', ws, rfl, a', b'⟩ := h2
    cases rx
    cases ry
    obtain ⟨its, r, t⟩ := lst_at I a
    obtain ⟨its', r', t'⟩ := lst_at I a'
    have l1 : its.length = ds.length := by rw [b.length, r.length]
    have l2 : its'.length = es.length := by rw [b'.length, r'.length]
    by_cases hl : ds.length = es.length
    · have z := SeqAt.RcAt.lists (A := X.A) (e := nth ds es) t t' (by rw [List.size_toArray, List.size_toArray, l1, l2, hl]) (by omega) (fun j g1 g2 => eqAt_L I ds es b b' r r' (in1_lst (by omega)) j (by simpa using g1) (by simpa using g2))
      have e1 := deqL_all ds es
      rw [hl, Nat.min_self, beq_self_eq_true, Bool.and_true] at e1
      rw [List.size_toArray, l1, hl, e1] at z
      exact z _ _ _ _ ⟨.bl _, H, I, rfl, q⟩
    · have z := SeqAt.RcAt.lists_lengths (A := X.A) t t' (by rw [List.size_toArray, List.size_toArray, l1, l2]; simpa using hl) (by omega)
      have e1 := deqL_all ds es
      rw [show (ds.length == es.length) = false from by simpa using hl, Bool.and_false] at e1
      have e2 : deq (.lst ds) (.lst es) = false := by show deqL ds es = false; exact e1.symm
      rw [e2] at q
      exact z _ _ _ _ ⟨.bl _, H, I, rfl, q⟩
theorem op_neD (hu : X.A.units + 64 < cLine) : OpR X (compareOp .NotEq) rNeD := by
  intro pins s σ H x y v u Q I rx ry h
  obtain ⟨d, e, h1, h2, hd, k, q⟩ := h
  rcases k with ⟨ds, es, rfl, rfl⟩ | ⟨ds, es, rfl, rfl⟩
  · obtain ⟨p, vs, rfl, a, b⟩ := h1
    obtain ⟨p', ws, rfl, a', b'⟩ := h2
    cases rx
    cases ry
    obtain ⟨its, r, t⟩ := tup_at I a
    obtain ⟨its', r', t'⟩ := tup_at I a'
    have z := SeqAt.RcNeAt.tuples (A := X.A) (e := nth ds es) t t' (by omega) (fun j g1 g2 => eqAt_L I ds es b b' r r' (in1_tup (by omega)) j (by simpa using g1) (by simpa using g2))
    have l1 : its.length = ds.length := by rw [b.length, r.length]
    have l2 : its'.length = es.length := by rw [b'.length, r'.length]
    rw [List.size_toArray, List.size_toArray, l1, l2, deqL_all] at z
    exact z _ _ _ _ ⟨.bl _, H, I, rfl, q⟩
  · obtain ⟨p, vs, rfl, a, b⟩ := h1
    obtain ⟨p', ws, rfl, a', b'⟩ := h2
    cases rx
    cases ry
    obtain ⟨its, r, t⟩ := lst_at I a
    obtain ⟨its', r', t'⟩ := lst_at I a'
    have l1 : its.length = ds.length := by rw [b.length, r.length]
    have l2 : its'.length = es.length := by rw [b'.length, r'.length]
    by_cases hl : ds.length = es.length
    · have z := SeqAt.RcNeAt.lists (A := X.A) (e := nth ds es) t t' (by rw [List.size_toArray, List.size_toArray, l1, l2, hl]) (by omega) (fun j g1 g2 => eqAt_L I ds es b b' r r' (in1_lst (by omega)) j (by simpa using g1) (by simpa using g2))
      have e1 := deqL_all ds es
      rw [hl, Nat.min_self, beq_self_eq_true, Bool.and_true] at e1
      rw [List.size_toArray, l1, hl, e1] at z
      exact z _ _ _ _ ⟨.bl _, H, I, rfl, q⟩
    · have z := SeqAt.RcNeAt.lists_lengths (A := X.A) t t' (by rw [List.size_toArray, List.size_toArray, l1, l2]; simpa using hl) (by omega)
      have e1 := deqL_all ds es
      rw [show (ds.length == es.length) = false from by simpa using hl, Bool.and_false] at e1
      have e2 : deq (.lst ds) (.lst es) = false := by show deqL ds es = false; exact e1.symm
      rw [e2] at q
      exact z _ _ _ _ ⟨.bl _, H, I, rfl, q⟩
noncomputable def rEqA : R2 := fun x y H Q => rEq x y H Q ∨ rEqD x y H Q
noncomputable def rNeA : R2 := fun x y H Q => rNe x y H Q ∨ rNeD x y H Q
theorem op_eqA (hu : X.A.units + 64 < cLine) : OpR X (compareOp .Eq) rEqA := op_eq.or (op_eqD hu)
theorem op_neA (hu : X.A.units + 64 < cLine) : OpR X (compareOp .NotEq) rNeA := op_ne.or (op_neD hu)
end
section
variable {H : Hp} {Q : VK} {i j : Int} {b c : Bool} {x y : Str} {u v : V}
theorem e_int (k : Q (.bl (decide (i = j))) H) : rEqA (.int i) (.int j) H Q := .inl (r_eqI k)
theorem n_int (k : Q (.bl (!decide (i = j))) H) : rNeA (.int i) (.int j) H Q := .inl (r_neI k)
theorem e_str (k : Q (.bl (x == y)) H) : rEqA (.str x) (.str y) H Q := .inl ⟨rfl, by rw [dec_str]; exact k⟩
theorem e_lst {ds es : List Dt} (h1 : Den H (.lst ds) u) (h2 : Den H (.lst es) v) (hd : depL ds ≤ 50) (k : Q (.bl (deqL ds es)) H) : rEqA u v H Q :=
  .inr ⟨_, _, h1, h2, by simp [dep]; omega, .inr ⟨_, _, rfl, rfl⟩, k⟩
theorem n_lst {ds es : List Dt} (h1 : Den H (.lst ds) u) (h2 : Den H (.lst es) v) (hd : depL ds ≤ 50) (k : Q (.bl (!deqL ds es)) H) : rNeA u v H Q :=
  .inr ⟨_, _, h1, h2, by simp [dep]; omega, .inr ⟨_, _, rfl, rfl⟩, k⟩
theorem den2 {p : Addr} {a b : Int} (h : H p = some (.tup [.int a, .int b])) : Den H (.tup [.int a, .int b]) (.ref p) := ⟨p, _, rfl, h, _, _, rfl, rfl, _, _, rfl, rfl, rfl⟩
end
end L2
namespace L2
open PySem PySem.Spec PyProof.Rows
section
variable {X : Cx} {K : PySem.W.Frag} {H H' : Hp} {Q : VK} {i j : Int} {σ : St}
noncomputable def rAddS : R2 := fun x y H Q => ∃ i j, x = .str i ∧ y = .str j ∧ i.length + j.length ≤ sizeLine ∧ Q (.str (i ++ j)) H
theorem op_addS : OpR X (binaryOp .Add) rAddS := op_add_str
noncomputable def rAddA (K : PySem.W.Frag) : R2 := fun x y H Q => rI0 (fun i j => .int (i + j)) x y H Q ∨ rCat x y H Q ∨ rCatT K x y H Q ∨ rAddS x y H Q
theorem op_addA : OpR X (binaryOp .Add) (rAddA X.K) := op_add.or (op_cat.or (op_catT.or op_addS))
theorem a_int (k : Q (.int (i + j)) H) : rAddA K (.int i) (.int j) H Q := .inl (r_I0 k)
theorem a_lst {p q : Addr} {xs ys : List V} (h1 : H p = some (.lst xs)) (h2 : H q = some (.lst ys)) (hl : xs.length + ys.length ≤ 1000) (k : ∀ l, H l = none → Q (.ref l) (upd H l (.lst (xs ++ ys)))) : rAddA K (.ref p) (.ref q) H Q :=
  .inr (.inl ⟨p, q, xs, ys, rfl, rfl, h1, h2, le_line hl, k⟩)
theorem a_tup {p q : Addr} {xs ys : List V} (h1 : H p = some (.tup xs)) (h2 : H q = some (.tup ys)) (hl : xs.length + ys.length ≤ 1000) (hx : xs ≠ []) (hy : ys ≠ []) (k : ∀ l, H l = none → Q (.ref l) (upd H l (.tup (xs ++ ys)))) : rAddA K (.ref p) (.ref q) H Q :=
  .inr (.inr (.inl ⟨p, q, xs, ys, rfl, rfl, SqT.of h1, SqT.of h2, hx, le_line hl, fun e => absurd e hy, fun _ => k⟩))
theorem a_str {x y : Str} (hl : x.length + y.length ≤ 1000) (k : Q (.str (x ++ y)) H) : rAddA K (.str x) (.str y) H Q := .inr (.inr (.inr ⟨x, y, rfl, rfl, le_line hl, k⟩))
noncomputable def rListOf (K : PySem.W.Frag) : List V → Hp → VK → Prop := fun xs H Q => ∃ p ys, xs = [.ref p] ∧ (SqL K H p ys ∨ SqT K H p ys) ∧ ∀ l, H l = none → Q (.ref l) (upd H l (.lst ys))
theorem c_list : CallR X (.type "list") (rListOf X.K) := call_list_of
theorem l_lst {p : Addr} {xs : List V} (h : H p = some (.lst xs)) (k : ∀ l, H l = none → Q (.ref l) (upd H l (.lst xs))) : rListOf K [.ref p] H Q := ⟨p, xs, rfl, .inl (SqL.of h), k⟩
theorem l_tup {p : Addr} {xs : List V} (h : H p = some (.tup xs)) (k : ∀ l, H l = none → Q (.ref l) (upd H l (.lst xs))) : rListOf K [.ref p] H Q := ⟨p, xs, rfl, .inr (SqT.of h), k⟩
noncomputable def rSlA (K : PySem.W.Frag) : V → Option Int → Option Int → Hp → VK → Prop := fun x lo hi H Q => rSlL K x lo hi H Q ∨ rSlT K x lo hi H Q
theorem sl_any : SlR X (rSlA X.K) := sl_list.or sl_tup
noncomputable def partK (R : Option Int → Hp → Prop) : VK := fun x H1 => ∃ i, x = .int i ∧ R (some i) H1
theorem r_part {t : TE} {R : Option Int → Hp → Prop} (k : t σ H (partK R)) : tPart t σ H R := k
theorem r_partK {R : Option Int → Hp → Prop} (k : R (some i) H) : partK R (.int i) H := ⟨i, rfl, k⟩
theorem r_nopart {R : Option Int → Hp → Prop} (k : R none H) : tNoPart σ H R := k
theorem r_sl {r : V → Option Int → Option Int → Hp → VK → Prop} {te : TE} {tl th : TO} (k : te σ H fun x H1 => tl σ H1 fun l H2 => th σ H2 fun u H3 => r x l u H3 Q) : tSl r te tl th σ H Q := k
theorem s_lst {p : Addr} {xs : List V} {lo hi : Option Int} (h : H p = some (.lst xs)) (k : ∀ l, H l = none → Q (.ref l) (upd H l (.lst (cutV xs lo hi)))) : rSlA K (.ref p) lo hi H Q := .inl ⟨p, xs, rfl, SqL.of h, k⟩
theorem upd_old {H : Hp} {q b : Addr} {o u : HO} (hq : H q = none) (h : H b = some u) : upd H q o b = some u := by rw [upd_ne (ne_of_none h hq)]; exact h
theorem pickV {xs : List V} {i : Int} (h0 : 0 ≤ i) (h1 : i < xs.length) : ∃ z, z ∈ xs ∧ atI xs i = some z := by
  have hk : i.toNat < xs.length := by omega
  have ek : i = ((i.toNat : Nat) : Int) := by omega
  have q : atI xs ((i.toNat : Nat) : Int) = some xs[i.toNat] := atI_nat (List.getElem?_eq_getElem hk)
  rw [← ek] at q
  exact ⟨xs[i.toNat], List.getElem_mem hk, q⟩
theorem St3.nn {p q : Addr} {n : Int} (h : St3 H p n) (hq : H q = none) : q ≠ p := let ⟨_, _, _, h, _⟩ := h; (ne_of_none h hq).symm
noncomputable def isI : V → Bool
  | .int _ => true
  | _ => false
theorem flat_ty {v : V} (h : flatV v = true) : ∃ t b c, TyOf K H v t ∧ PySem.W.kitOne K t (.type "int") = some b ∧ PySem.W.kitOne K t (.type "bool") = some c ∧ (b && !c) = isI v := by
  cases v with
  | non => exact ⟨_, _, _, .non, kit_NoneType_int, kit_NoneType_bool, rfl⟩
  | bl b => exact ⟨_, _, _, .bl b, kit_bool_int, kit_bool_bool, rfl⟩
  | int b => exact ⟨_, _, _, .int b, kit_int_int, kit_int_bool, rfl⟩
  | str b => exact ⟨_, _, _, .str b, kit_str_int, kit_str_bool, rfl⟩
  | _ => exact absurd (show false = true from h) Bool.false_ne_true
noncomputable def NT (K : PySem.W.Frag) (H : Hp) (x : V) : Prop := ∃ t, TyOf K H x t ∧ PySem.W.kitOne K t (.type "tuple") = some false
theorem NT.int (i : Int) : NT K H (.int i) := ⟨_, .int i, kit_int_tuple⟩
theorem NT.non : NT K H .non := ⟨_, .non, kit_NoneType_tuple⟩
theorem NT.str (x : Str) : NT K H (.str x) := ⟨_, .str x, kit_str_tuple⟩
theorem NT.lst {p : Addr} {xs : List V} (h : H p = some (.lst xs)) : NT K H (.ref p) := ⟨_, .lst h, kit_list_tuple⟩
noncomputable def Frq (K : PySem.W.Frag) (H : Hp) (x : V) (r : Bool) : Prop :=
  (NT K H x ∧ r = false) ∨ (∃ p xs, x = .ref p ∧ H p = some (.tup xs) ∧ xs.length ≠ 2 ∧ r = false) ∨
    ∃ p v w, x = .ref p ∧ H p = some (.tup [v, w]) ∧ flatV v = true ∧ flatV w = true ∧ (∀ a b, v = .int a → w = .int b → Sm 8000 a ∧ Sm 8000 b) ∧ r = frV v w
end
end L2
namespace L2
open PySem PySem.Spec PyProof.Rows
noncomputable def cxComp (X : Cx) (scope : Scope) (cl : List (Str × Addr)) (N : List Str) (C : Addr) (s0 : Shared) (H0 : Hp) (ex : List Addr) : Cx :=
  { X with N := N, s₀ := s0, H₀ := H0, env := compEnvC scope cl C X.env, outer := X.stack, stack := X.stack, ex := ex, fn := fun _ => false, pn := [], xe := fun _ _ => False }
noncomputable def capsOf (env : Env) (names : List Str) : List (Str × Addr) := names.filterMap fun n => (env.cells.lookup n).map fun c => (n, c)
theorem capsOf_sub {env : Env} : ∀ {names : List Str} {x : Str} {c : Addr}, (capsOf env names).lookup x = some c → env.cells.lookup x = some c
  | [], x, c, h => by simp [capsOf] at h
  | n :: r, x, c, h => by
    unfold capsOf at h
    rw [List.filterMap_cons] at h
    cases e : env.cells.lookup n with
    | none =>
      rw [e] at h
      exact capsOf_sub (names := r) h
    | some d =>
      rw [e] at h
      have h' : List.lookup x ((n, d) :: capsOf env r) = some c := h
      rw [List.lookup_cons] at h'
      by_cases hx : x = n
      · subst hx
        rw [beq_self_eq_true] at h'
        cases h'
        exact e
      · rw [beq_eq_false_iff_ne.mpr hx] at h'
        exact capsOf_sub (names := r) h'
theorem capsOf_has {env : Env} : ∀ {names : List Str} {x : Str} {c : Addr}, x ∈ names → env.cells.lookup x = some c → (capsOf env names).lookup x = some c
  | [], x, c, h, _ => by cases h
  | n :: r, x, c, h, e => by
    unfold capsOf
    rw [List.filterMap_cons]
    by_cases hx : x = n
    · subst hx
      rw [e]
      show List.lookup x ((x, c) :: _) = some c
      rw [List.lookup_cons, beq_self_eq_true]
    · have hr : x ∈ r := (List.mem_cons.mp h).resolve_left hx
      have ih := capsOf_has (env := env) hr e
      cases e2 : env.cells.lookup n with
      | none => exact ih
      | some d =>
        show List.lookup x ((n, d) :: capsOf env r) = some c
        rw [List.lookup_cons, beq_eq_false_iff_ne.mpr hx]
        exact ih
noncomputable def capV (σ : St) (is : List Nat) : St := is.map fun i => (σ[i]?).join
noncomputable def compK (te : TE) (tc : Option TT) (g : TG) (ts : St) (caps : St) (Q : VK) : It → Hp → Prop := fun J H1 => ∀ acc, H1 acc = none →
  ∃ W : Nat → Nat → List V → Hp → Prop, (∃ m, W 0 m [] (upd H1 acc (.lst []))) ∧ ∀ i m ys H, W i m ys H →
    H acc = some (.lst ys) ∧ ((J.stop i H ∧ Q (.ref acc) H) ∨ (ys.length < sizeLine ∧ J.go i H ∧ ∀ (us : St) x H', us.length = ts.length → J.yld i H x H' → g x (us ++ caps) H' fun σ2 H2 =>
      (∃ us2, us2.length = ts.length ∧ σ2 = us2 ++ caps) ∧
      let made := te σ2
      let next := fun y H3 => H3 acc = some (.lst ys) ∧ ∃ m', m' < m ∧ W (i + 1) m' (ys ++ [y]) (upd H3 acc (.lst (ys ++ [y])))
      match tc with
      | none => made H2 next
      | some c => c σ2 H2 fun b H3 => if b = true then made H3 next else ∃ m', m' < m ∧ W (i + 1) m' ys H3))
noncomputable def tComp (wi : TI) (te : TE) (tc : Option TT) (g : TG) (k : Nat) (is : List Nat) : TE := fun σ H Q => wi σ H (compK te tc g (List.replicate k none) (capV σ is) Q)
section
variable {X : Cx} {scope : Scope} {N tn names : List Str} {is : List Nat} {elt iter tg : Expr} {ifs : List Expr} {pos : Pos} {wi : TI} {te : TE} {tc : Option TT} {g : TG}
structure CompOk (X : Cx) (scope : Scope) (tn names : List Str) (is : List Nat) : Prop where
  cls : (∀ x ∈ names, ∃ c, X.env.cells.lookup x = some c) → closureFor scope X.env = pure (capsOf X.env names)
  nocell : ∀ y ∈ scope.names, y.2 ≠ .cell
  kind : scope.kind = .function
  nms : ∀ y ∈ scope.names, y.2 = .local → scope.names.lookup y.1 = some .local
  slots : ∀ (j i : Nat) (x : Str), is[j]? = some i → names[j]? = some x → X.N[i]? = some x
  len : is.length = names.length
  outk : ∀ x ∈ names, X.env.kindOf x = some .cell ∨ X.env.kindOf x = some .free
  ink : ∀ x ∈ names, (relabel scope X.env).names.lookup x = some .cell ∨ (relabel scope X.env).names.lookup x = some .free
  free : ∀ x, ((relabel scope X.env).names.lookup x = some .cell ∨ (relabel scope X.env).names.lookup x = some .free) → x ∈ names
theorem closure_go {env : Env} : ∀ (l : List (Str × NameKind)) (acc : List (Str × Addr)), (∀ x ∈ (l.filter fun y => y.2 == .free).map (·.1), ∃ c, env.cells.lookup x = some c) →
    (forIn l acc fun (x : Str × NameKind) (cs : List (Str × Addr)) => (if (x.2 == .free) = true then (do let a ← cellOf env x.1; pure (ForInStep.yield ((x.1, a) :: cs))) else pure (ForInStep.yield cs)) : Sem (List (Str × Addr)))
      = pure ((((l.filter fun y => y.2 == .free).map (·.1)).reverse.filterMap fun n => (env.cells.lookup n).map fun c => (n, c)) ++ acc)
  | [], acc, _ => rfl
  | (n, k) :: r, acc, h => by
    rw [List.forIn_cons]
    by_cases hk : (k == NameKind.free) = true
    · have hf : ((n, k) :: r).filter (fun y => y.2 == .free) = (n, k) :: r.filter fun y => y.2 == .free := by rw [List.filter_cons]; exact if_pos hk
      rw [hf] at h ⊢
      obtain ⟨c, e⟩ := h n (by simp)
      have e1 : cellOf env n = pure c := by unfold cellOf; rw [e]
      show (((if (k == NameKind.free) = true then (do let a ← cellOf env n; pure (ForInStep.yield ((n, a) :: acc))) else pure (ForInStep.yield acc)) : Sem _) >>= _) = _
      rw [if_pos hk, e1]
      have ih := closure_go r ((n, c) :: acc) fun x hx => h x (by simp at hx ⊢; exact .inr hx)
      have e2 : (((n, k) :: r.filter fun y => y.2 == .free).map (·.1)).reverse.filterMap (fun n => (env.cells.lookup n).map fun c => (n, c)) = ((r.filter fun y => y.2 == .free).map (·.1)).reverse.filterMap (fun n => (env.cells.lookup n).map fun c => (n, c)) ++ [(n, c)] := by
        rw [List.map_cons, List.reverse_cons, List.filterMap_append, List.filterMap_cons, e]
        rfl
      rw [e2, List.append_assoc]
      exact ih
    · have hf : ((n, k) :: r).filter (fun y => y.2 == .free) = r.filter fun y => y.2 == .free := by rw [List.filter_cons]; exact if_neg hk
      rw [hf] at h ⊢
      show (((if (k == NameKind.free) = true then (do let a ← cellOf env n; pure (ForInStep.yield ((n, a) :: acc))) else pure (ForInStep.yield acc)) : Sem _) >>= _) = _
      rw [if_neg hk]
      exact closure_go r acc h
theorem closureFor_caps {scope : Scope} {env : Env} {names : List Str} (hn : ((scope.names.filter fun y => y.2 == .free).map (·.1)).reverse = names) (h : ∀ x ∈ names, ∃ c, env.cells.lookup x = some c) :
    closureFor scope env = pure (capsOf env names) := by
  unfold closureFor capsOf
  have q := closure_go (env := env) scope.names [] fun x hx => h x (by rw [← hn]; exact List.mem_reverse.mpr hx)
  rw [hn, List.append_nil] at q
  show (_ >>= fun r => pure r) = _
  have q2 : (forIn scope.names ([] : List (Str × Addr)) fun (x : Str × NameKind) (cs : List (Str × Addr)) => match x with
      | (name, kind) => (if (kind == .free) = true then (do let a ← cellOf env name; pure (ForInStep.yield ((name, a) :: cs))) else pure (ForInStep.yield cs)) : Sem (List (Str × Addr))) = pure (names.filterMap fun n => (env.cells.lookup n).map fun c => (n, c)) := q
  first
    | exact (congrArg (fun z => z >>= fun r => pure r) q2)
    | simpa using q2
noncomputable def relab (scope sc : Scope) : Scope := { scope with names := scope.names.map fun (n, k) => if (k == .free && sc.kind == .function && sc.names.lookup n == some .cell) then (n, .cell) else (n, k) }
theorem comp_ck {X : Cx} {scope sc : Scope} {N tn names : List Str} {is : List Nat} (hsc : X.env.scope = sc) (hN : X.N = N) (h1 : ((scope.names.filter fun y => y.2 == .free).map (·.1)).reverse = names) (h2 : ∀ y ∈ scope.names, y.2 ≠ .cell) (h3 : scope.kind = .function)
    (h4 : ∀ y ∈ scope.names, y.2 = .local → scope.names.lookup y.1 = some .local) (h5 : (is.map fun i => N[i]?) = names.map some) (h6 : ∀ x ∈ names, sc.names.lookup x = some .cell ∨ sc.names.lookup x = some .free)
    (h7 : ∀ x ∈ names, (relab scope sc).names.lookup x = some .cell ∨ (relab scope sc).names.lookup x = some .free) (h8 : ∀ y ∈ (relab scope sc).names, (y.2 = .cell ∨ y.2 = .free) → y.1 ∈ names) : CompOk X scope tn names is := by
  subst hsc hN
  have hr : relabel scope X.env = relab scope X.env.scope := rfl
  refine ⟨closureFor_caps h1, h2, h3, h4, fun j i x e1 e2 => ?_, ?_, h6, ?_, fun x hx => ?_⟩
  · have q := congrArg (fun l => l[j]?) h5
    simp only [List.getElem?_map, e1, e2, Option.map_some] at q
    exact Option.some.inj q
  · have q := congrArg List.length h5
    simpa using q
  · rw [hr]; exact h7
  · rw [hr] at hx
    have mem : ∀ {l : List (Str × NameKind)} {k : NameKind}, l.lookup x = some k → (x, k) ∈ l := fun {l} {k} => by
      induction l with
      | nil => intro e; cases e
      | cons y r ih =>
        intro e
        obtain ⟨n, k'⟩ := y
        rw [List.lookup_cons] at e
        by_cases hx : x = n
        · subst hx
          rw [beq_self_eq_true] at e
          cases e
          exact List.mem_cons_self
        · rw [beq_eq_false_iff_ne.mpr hx] at e
          exact List.mem_cons_of_mem _ (ih e)
    rcases hx with hx | hx
    · exact h8 _ (mem hx) (.inl rfl)
    · exact h8 _ (mem hx) (.inr rfl)
theorem comp_ok {X : Cx} {scope : Scope} {tn names : List Str} {is : List Nat} (C : CompOk X scope tn names is) {pins : List (Addr × Obj)} {σ : St} {H : Hp} {s : Shared} (I : Inv X pins σ H s) {acc : Addr} {fp : List Addr}
    {s3 : Shared} {h1 : Heap} {t4 : Nat} (I3 : Inv X pins σ (upd H acc (.lst [])) s3) (hf : ∀ b ∈ fp, FpOk X pins H b) (hfl : ∀ b ∈ fp, b < s3.heap.objs.size) (hacc : ∀ b ∈ fp, b ≠ acc)
    (ns : h1.Ns s3.heap.objs.size fun _ => none) (kp : ∀ b o, s3.heap.get? b = some o → h1.get? b = some o) :
    Inv (cxComp X scope (capsOf X.env names) (tn ++ names) s3.heap.objs.size s3 (upd H acc (.lst [])) fp) [] (List.replicate tn.length none ++ capV σ is) (upd H acc (.lst [])) { s3 with heap := h1, toks := t4 } := by
  have ok := I3.ok
  have hC : ∀ x c, (capsOf X.env names).lookup x = some c → X.env.cells.lookup x = some c := fun x c h => capsOf_sub h
  have cellLt : ∀ x c, X.env.cells.lookup x = some c → c < s3.heap.objs.size := fun x c e => let ⟨v, z⟩ := I3.cell x c e; z.lt
  refine ⟨⟨ok.mod, ?_, ok.glob, ok.blt, Nat.le_refl _, fun x y c a b => ok.inj x y c (hC _ _ a) (hC _ _ b), fun x hx => ?_, fun _ _ z => absurd z (by simp [cxComp]), ok.hd, ok.frames, .inl rfl, fun b hb => ?_, fun b o e => I3.bs b o e, Nat.le_trans ok.bsz I3.sz, fun b o e hb => ?_, fun b hb z => ?_, I3.stack, fun b hb => I3.stkFree b hb⟩,
    rfl, I3.bare, Un.kept kp, ⟨_, ns, fun i x v e1 e2 e3 => ?_⟩, fun x c e => ?_, ?_, fun x c e => I3.freeC x c (hC _ _ e), fun p hp => absurd hp (by simp [cxComp]), I3.hok.kept kp, ?_⟩
  · show (relabel scope X.env).kind = .function
    exact C.kind
  · have hm := C.free x hx
    obtain ⟨c, e⟩ := ok.has x (C.outk x hm)
    exact ⟨c, capsOf_has hm e⟩
  · refine ⟨Nat.ne_of_lt (hfl b hb), fun x c e => (hf b hb).2.2.2.2.1 x c (hC _ _ e)⟩
  · rcases (hf b hb).2.2.2.1 with z | z
    · exact ok.noex b o e z
    · have := Nat.lt_of_lt_of_le (Heap.lt_size e) ok.bsz
      omega
  · have := I3.stkSub b z
    rcases List.mem_cons.mp this with q | q
    · exact (hf b hb).2.1 q
    · exact (hf b hb).2.2.1 q
  · by_cases hi : i < tn.length
    · rw [List.getElem?_append_left (by rw [List.length_replicate]; exact hi), List.getElem?_replicate] at e2
      rw [if_pos hi] at e2
      cases e2
    · have e1 : (tn ++ names)[i]? = some x := e1
      rw [List.getElem?_append_right (by omega)] at e1
      rw [List.getElem?_append_right (by rw [List.length_replicate]; omega), List.length_replicate] at e2
      generalize hj : i - tn.length = j at e1 e2
      unfold capV at e2
      rw [List.getElem?_map] at e2
      cases e4 : is[j]? with
      | none => rw [e4] at e2; cases e2
      | some i0 =>
        rw [e4] at e2
        have e5 : (σ[i0]?).join = some v := Option.some.inj e2
        have e6 : σ[i0]? = some (some v) := by
          cases q : σ[i0]? with
          | none => rw [q] at e5; cases e5
          | some o => rw [q] at e5; exact congrArg some e5
        have hx : x ∈ names := List.mem_of_getElem? e1
        obtain ⟨m, hm, look⟩ := I3.loc
        have hv : Vis X.env.scope x := by
          rcases C.outk x hx with q | q
          · exact .inr (.inl q)
          · exact .inr (.inr q)
        obtain ⟨u, ru, lk⟩ := look i0 x v (C.slots j i0 x e4 e1) e6 hv
        refine ⟨u, ru, .inr ⟨C.ink x hx, ?_⟩⟩
        rcases lk with ⟨q, _⟩ | ⟨_, c, ec, z⟩
        · rcases C.outk x hx with q' | q' <;> (rw [q] at q'; cases q')
        · exact ⟨c, capsOf_has hx ec, let ⟨o, a, b⟩ := z; ⟨o, kp _ _ a, b⟩⟩
  · obtain ⟨v, o, a, b⟩ := I3.cell x c (hC _ _ e)
    exact ⟨v, o, kp _ _ a, b⟩
  · exact I3.hok.fresh (Nat.le_refl _)
  · show (List.replicate tn.length none ++ capV σ is).length = (tn ++ names).length
    rw [List.length_append, List.length_append, List.length_replicate]
    unfold capV
    rw [List.length_map, C.len]
theorem compLoop_any {prog : Program} {w : World} {A : Around} {R : Result → Shared → Prop} {s : Shared} {elt target iter : Expr} {ifs : List Expr} {scope : Scope} {pos : Pos} {it acc : Value} {env : Env} (I : Nat → Shared → Prop)
    (turn : ∀ n s, I n s → wpAny (model prog w) A (pyNext it) (fun r s₁ => match r with
      | none => R (.ok .next) s₁
      | some v => wpAny (model prog w) A (letOwnedTupleGo target it v) (fun _ s₁' => wpAny (model prog w) A (assign target env v) (fun _ s₂ =>
          wpAny (model prog w) A (forIn ifs true fun c r => if r = true then do let ok ← isTrue c env (eval c env); pure (ForInStep.yield ok) else pure (ForInStep.yield r)) (fun ok s₃ =>
            if ok = true then wpAny (model prog w) A (eval elt env) (fun x s₄ =>
              wpAny (model prog w) A (call (.builtin "list.append") [acc, x]) (fun _ s₅ => ∃ m, m < n ∧ I m s₅) (fun _ _ => False) s₄) (fun _ _ => False) s₃
            else ∃ m, m < n ∧ I m s₃) (fun _ _ => False) s₂) (fun _ _ => False) s₁') (fun _ _ => False) s₁) (fun _ _ => False) s)
    (n : Nat) (h : I n s) :
    codeAny (model prog w) A (.compLoop (.ListComp elt [⟨target, iter, ifs, 0⟩] scope pos) 0 it acc env) R s := by
  refine codeAny_loop rfl I (fun n s hI => ?_) n h
  show wpAny _ A ((compTurn (.ListComp elt [⟨target, iter, ifs, 0⟩] scope pos) 0 it acc env).onRaise (fun x => do noteFrame x env; theTreesLotGoes x)) _ _ s
  refine wpAny_noted ?_
  rw [compTurn_list]
  refine wpAny_bind (wpAny_standAt (wpAny_bind (wpAny_mono (turn n s hI) (fun r s₁ h₁ => ?_) fun _ _ h' => h'.elim)))
  cases r with
  | none => exact wpAny_pure h₁
  | some v =>
    refine wpAny_bind (wpAny_mono h₁ (fun _ s₁' h₁' => ?_) fun _ _ h' => h'.elim)
    refine wpAny_bind (wpAny_mono h₁' (fun _ s₂ h₂ => wpAny_bind (wpAny_mono h₂ (fun ok s₃ h₃ => ?_) fun _ _ h' => h'.elim)) fun _ _ h' => h'.elim)
    cases ok with
    | false => exact wpAny_pure ⟨rfl, h₃⟩
    | true =>
      exact wpAny_bind (wpAny_bind (wpAny_mono h₃ (fun x s₄ h₄ => wpAny_bind (wpAny_mono h₄ (fun _ s₅ h₅ => wpAny_pure (wpAny_pure ⟨rfl, h₅⟩)) fun _ _ h' => h'.elim)) fun _ _ h' => h'.elim))
noncomputable def PTs (X' : Cx) (ifs : List Expr) (tc : Option TT) : Prop := match ifs, tc with
  | [], none => True
  | [c], some t => PT X' c t
  | _, _ => False
theorem pts_none {X' : Cx} : PTs X' [] none := trivial
theorem pts_one {X' : Cx} {c : Expr} {t : TT} (h : PT X' c t) : PTs X' [c] (some t) := h
structure TurnG (ok : Cx → Prop) (P : Program) (w : World) (K : PySem.W.Frag) (tg : Expr) (J : It) (fp : List Addr) (it : Addr) (tn : Nat → Heap → Prop) : Prop where
  mem : it ∈ fp
  obj : ∀ i h, tn i h → ∀ b ∈ fp, ∃ o, h.get? b = some o ∧ ∀ v, o.data ≠ .cell v
  keep : ∀ i h h', tn i h → (∀ b ∈ fp, ∀ o, h.get? b = some o → h'.get? b = some o) → tn i h'
  item : ∀ (X : Cx), X.prog = P → X.w = w → X.K = K → ok X → ∀ (i : Nat) (pins : List (Addr × Obj)) (s : Shared) (σ : St) (H : Hp) (E : Value → Shared → Prop), Inv X pins σ H s → (∀ b ∈ fp, FpOk X pins H b) → tn i s.heap → J.go i H →
    wpAny (model P w) X.A (pyNext (.ref it)) (fun r s1 => ∃ u, r = some u ∧ wpAny (model P w) X.A (letOwnedTupleGo tg (.ref it) u) (fun _ s2 => ∃ x H', Inv X pins σ H' s2 ∧ RelV x u ∧ J.yld i H x H' ∧ tn (i + 1) s2.heap ∧ ∀ b ∈ fp, H' b = none) E s1) E s
  done : ∀ (X : Cx), X.prog = P → X.w = w → X.K = K → ok X → ∀ (i : Nat) (pins : List (Addr × Obj)) (s : Shared) (σ : St) (H : Hp) (E : Value → Shared → Prop), Inv X pins σ H s → (∀ b ∈ fp, FpOk X pins H b) → tn i s.heap → J.stop i H →
    wpAny (model P w) X.A (pyNext (.ref it)) (fun r s1 => r = none ∧ Inv X pins σ H s1) E s
  self : ∀ (A : Around) (i : Nat) (s : Shared) (Q : Value → Shared → Prop) (E : Value → Shared → Prop), tn i s.heap → Q (.ref it) s → wpAny (model P w) A (pyIter (.ref it)) Q E s
noncomputable def PIEG (ok : Cx → Prop) (X : Cx) (pins : List (Addr × Obj)) (σ : St) (tg : Expr) (R : It → Hp → Prop) (itv : Value) (s2 : Shared) : Prop :=
  ∃ (it : Addr) (fp : List Addr) (tn : Nat → Heap → Prop) (J : It) (H' : Hp), itv = .ref it ∧ Inv X pins σ H' s2 ∧ TurnG ok X.prog X.w X.K tg J fp it tn ∧ tn 0 s2.heap ∧ (∀ b ∈ fp, FpOk X pins H' b) ∧ R J H'
theorem pie_g {X : Cx} {pins : List (Addr × Obj)} {σ : St} {tg : Expr} {R : It → Hp → Prop} {itv : Value} {s2 : Shared} (h : PIE X pins σ tg R itv s2) : PIEG (fun X => X.calm = true) X pins σ tg R itv s2 :=
  let ⟨it, fp, tn, J, H', a, b, T, c, d, e⟩ := h; ⟨it, fp, tn, J, H', a, b, ⟨T.mem, T.obj, T.keep, T.item, T.done, T.self⟩, c, d, e⟩
theorem comp_run {X : Cx} {ok : Cx → Prop} {scope : Scope} {tn names : List Str} {is : List Nat} (ck : CompOk X scope tn names is) (hc : ∀ C s0 H0 ex, ok (cxComp X scope (capsOf X.env names) (tn ++ names) C s0 H0 ex)) {elt tg iter : Expr} {ifs : List Expr} {pos : Pos} {te : TE} {tc : Option TT} {g : TG}
    (hg : ∀ C s0 H0 ex, PG (cxComp X scope (capsOf X.env names) (tn ++ names) C s0 H0 ex) tg g) (he : ∀ C s0 H0 ex, PE (cxComp X scope (capsOf X.env names) (tn ++ names) C s0 H0 ex) elt te)
    (ht : ∀ C s0 H0 ex, PTs (cxComp X scope (capsOf X.env names) (tn ++ names) C s0 H0 ex) ifs tc)
    {pins : List (Addr × Obj)} {σ : St} {Q : VK} {s2 : Shared} {itv : Value} {E : Value → Shared → Prop} (h2 : PIEG ok X pins σ tg (compK te tc g (List.replicate tn.length none) (capV σ is) Q) itv s2) {RR : Value → Addr → Result → Shared → Prop}
    (fin : ∀ (acc C : Addr) (H' : Hp) (s' : Shared) (m : Str → Option Value), Inv X pins σ H' s' → s'.heap.Ns C m → H' C = none → C ≠ X.env.locals → (∀ x c, X.env.cells.lookup x = some c → c ≠ C) → (∀ p ∈ X.pn ++ pins, p.1 ≠ C) → X.s₀.heap.objs.size ≤ C → Q (.ref acc) H' →
      RR (.ref acc) C (.ok .next) s') :
    wpAny (model X.prog X.w) X.A (newList []) (fun acc s₃ => wpAny (model X.prog X.w) X.A (newFunctionEnv scope X.env.globals (capsOf X.env names) [] X.env.qual none .none (some X.env)) (fun cenv s₄ =>
      codeAny (model X.prog X.w) X.A (.compStart (.ListComp elt [⟨tg, iter, ifs, 0⟩] scope pos) 0 itv acc { cenv with scope := relabel scope X.env }) (RR acc cenv.locals) s₄) E s₃) E s2 := by
  obtain ⟨it, fp, tnx, J, H2, rfl, I2, T, st2, f2, hK⟩ := h2
  have facc : H2 s2.heap.objs.size = none := I2.hok.fresh (Nat.le_refl _)
  refine wpAny_newObj_type ?_ (by show 0 ≤ sizeLine; decide)
  have fpl : ∀ b ∈ fp, b < s2.heap.objs.size := fun b hb => let ⟨o, e, _⟩ := T.obj 0 _ st2 b hb; Heap.lt_size e
  generalize hs3 : ({ s2 with heap := s2.heap.push { cls := .type "list", data := .seq ([] : List Value).toArray } } : Shared) = s3
  have hsz3 : s3.heap.objs.size = s2.heap.objs.size + 1 := by rw [← hs3]; exact Heap.size_push ..
  have keep23 : ∀ b o, s2.heap.get? b = some o → s3.heap.get? b = some o := fun b o e => by rw [← hs3]; exact Heap.get?_push_of_some _ e
  have I3 : Inv X pins σ (upd H2 s2.heap.objs.size (.lst [])) s3 := by
    rw [← hs3]
    exact I2.laid (t' := s2.toks) (fun b u e => Heap.get?_push_of_some _ e) (Nat.le_refl _) ⟨Nat.zero_le _, [], 0, .nil, Heap.get?_push_size _ rfl⟩
  refine wpAny_newFunctionEnv ck.nocell (by intro y hy; simp at hy) (fun h1 ns sb => ?_) ck.kind
  have kp : ∀ b o, s3.heap.get? b = some o → h1.get? b = some o := fun b o e => sb.extBut b o (Nat.ne_of_lt (Heap.lt_size e)) (Heap.get?_push_of_some _ e)
  have lt3 : ∀ b : Addr, b < s2.heap.objs.size → b < s3.heap.objs.size := fun b hb => Nat.lt_of_lt_of_le hb (by rw [hsz3]; exact Nat.le_succ _)
  have ns' : h1.Ns s3.heap.objs.size fun _ => none := ns
  have I4 := comp_ok (t4 := s3.toks + ([] : List (Str × Value)).length) ck I2 I3 f2 (fun b hb => lt3 b (fpl b hb)) (fun b hb => Nat.ne_of_lt (fpl b hb)) ns' kp
  generalize hX' : cxComp X scope (capsOf X.env names) (tn ++ names) s3.heap.objs.size s3 (upd H2 s2.heap.objs.size (.lst [])) fp = X' at I4
  have hA : X'.A = X.A := by rw [← hX']; rfl
  have hP : X'.prog = X.prog := by rw [← hX']; rfl
  have hW : X'.w = X.w := by rw [← hX']; rfl
  have hKK : X'.K = X.K := by rw [← hX']; rfl
  have hcm : ok X' := by rw [← hX']; exact hc _ _ _ _
  have hfs : X'.fs = frs X.stack := by rw [← hX']; rfl
  have hex : X'.ex = fp := by rw [← hX']; rfl
  have hloc : X'.env.locals = s3.heap.objs.size := by rw [← hX']; rfl
  have hs0 : X'.s₀ = s3 := by rw [← hX']; rfl
  have hH0 : X'.H₀ = upd H2 s2.heap.objs.size (.lst []) := by rw [← hX']; rfl
  have hxe : X'.xe = fun _ _ => False := by rw [← hX']; rfl
  have henv : X'.env = compEnvC scope (capsOf X.env names) s3.heap.objs.size X.env := by rw [← hX']; rfl
  have hg' : PG X' tg g := by rw [← hX']; exact hg _ _ _ _
  have he' : PE X' elt te := by rw [← hX']; exact he _ _ _ _
  have ht' : PTs X' ifs tc := by rw [← hX']; exact ht _ _ _ _
  have cells' : ∀ x c, X'.env.cells.lookup x = some c → X.env.cells.lookup x = some c := fun x c e => by rw [henv] at e; exact capsOf_sub e
  obtain ⟨W, ⟨m0, w0⟩, turn⟩ := hK _ facc
  have stat : ∀ {H' : Hp}, (∀ b ∈ fp, H' b = none) → ∀ b ∈ fp, FpOk X' [] H' b := fun {H'} hn b hb => by
    refine ⟨hn b hb, ?_, ?_, .inl (by rw [hex]; exact hb), fun x c e => (f2 b hb).2.2.2.2.1 x c (cells' x c e), fun p hp => ?_⟩
    · rw [hloc]; exact Nat.ne_of_lt (lt3 b (fpl b hb))
    · rw [hfs]
      intro z
      rcases List.mem_cons.mp (I2.stkSub b z) with q | q
      · exact (f2 b hb).2.1 q
      · exact (f2 b hb).2.2.1 q
    · rw [← hX'] at hp
      exact absurd hp (by simp [cxComp])
  have loop : ∀ s4 : Shared, Inv X' [] (List.replicate tn.length none ++ capV σ is) (upd H2 s2.heap.objs.size (.lst [])) s4 → tnx 0 s4.heap →
      codeAny (model X.prog X.w) X.A (.compLoop (.ListComp elt [⟨tg, iter, ifs, 0⟩] scope pos) 0 (.ref it) (.ref s2.heap.objs.size) X'.env) (RR (.ref s2.heap.objs.size) s3.heap.objs.size) s4 := by
    intro s4 J4 st4
    refine compLoop_any (fun n s' => ∃ i ys ts H', Inv X' [] (ts ++ capV σ is) H' s' ∧ ts.length = tn.length ∧ tnx i s'.heap ∧ (∀ b ∈ fp, H' b = none) ∧ W i n ys H') ?_ m0
      ⟨0, [], _, _, J4, List.length_replicate .., st4, fun b hb => by rw [upd_ne (Nat.ne_of_lt (fpl b hb))]; exact (f2 b hb).1, w0⟩
    rintro n s5 ⟨i, ys, ts, H5, I5, hts, st5, fr5, w5⟩
    obtain ⟨hacc5, hcase⟩ := turn i n ys H5 w5
    have hrun : ∀ {α : Type} {m : Sem α} {Q' : α → Shared → Prop} {s' : Shared}, wpAny (model X'.prog X'.w) X'.A m Q' (fun _ _ => False) s' → wpAny (model X.prog X.w) X.A m Q' (fun _ _ => False) s' := fun {α m Q' s'} z => by
      rw [hP, hW, hA] at z; exact z
    rcases hcase with ⟨stop, qn⟩ | ⟨hlen, go, step⟩
    · have z := T.done X' hP hW hKK hcm i [] s5 _ H5 (fun _ _ => False) I5 (stat fr5) st5 stop
      rw [hA] at z
      refine thn z fun r s6 ⟨hr, I6⟩ => ?_
      subst hr
      -- the frame around, behind the block
      have u23 : Un (frs X.stack) fp H2 (upd H2 s2.heap.objs.size (.lst [])) s2.heap s3.heap := Un.laid keep23 (Nat.le_refl _) facc
      have u36 : Un (frs X.stack) fp (upd H2 s2.heap.objs.size (.lst [])) H5 s3.heap s6.heap := by
        have b := I6.base
        rw [hfs, hex, hs0, hH0] at b
        exact b
      have hos : s6.os = s2.os := by
        have b := I6.os
        rw [hs0, ← hs3] at b
        exact b
      have IO : Inv X pins σ H5 s6 := I2.call' hos (u23.trans u36) (by have b := I6.hok; rw [hP, hW] at b; exact b) I6.bare fun b hb => by
        obtain ⟨_, f1, f2', f3, f4, f5⟩ := f2 b hb
        exact ⟨f3, f1, fun x c e => f4 x c e, fun p hp => f5 p hp⟩
      obtain ⟨m, hm, _⟩ := I6.loc
      rw [hloc] at hm
      have fC : H5 s3.heap.objs.size = none := by have b := I6.free; rw [hloc] at b; exact b
      refine fin _ _ H5 s6 m IO hm fC ?_ (fun x c e => ?_) (fun p hp => ?_) ?_ qn
      · exact Nat.ne_of_gt (Nat.lt_of_lt_of_le I2.lt (by omega))
      · obtain ⟨v, z⟩ := I2.cell x c e
        exact Nat.ne_of_lt (lt3 c z.lt)
      · exact Nat.ne_of_lt (lt3 p.1 (Heap.lt_size (I2.pin p hp).1))
      · exact Nat.le_trans I2.sz (by omega)
    · have z := T.item X' hP hW hKK hcm i [] s5 _ H5 (fun _ _ => False) I5 (stat fr5) st5 go
      rw [hA] at z
      refine thn z fun r s6 ⟨u, hr, h6⟩ => ?_
      subst hr
      refine thn h6 fun _ s7 ⟨x, H7, I7, r7, y7, st7, fr7⟩ => ?_
      have I7' := I7.pinned (stat fr7) (T.obj _ _ st7)
      have zg := hg' _ s7 _ H7 x u _ I7' r7 (step ts x H7 (by rw [hts, List.length_replicate]) y7)
      rw [hxe] at zg
      refine thn (hrun zg) fun _ s8 ⟨σ8, H8, I8, ⟨us2, hus, e8⟩, q8⟩ => ?_
      subst e8
      rw [List.length_replicate] at hus
      have back : ∀ {s9 : Shared} {H9 : Hp}, Inv X' ([] ++ pinsAt fp s7.heap) (us2 ++ capV σ is) H9 s9 → tnx (i + 1) s9.heap ∧ ∀ b ∈ fp, H9 b = none := fun {s9 H9} I9 => by
        refine ⟨T.keep _ _ _ st7 fun b hb o e => (I9.pin (b, o) (List.mem_append_right _ (List.mem_append_right _ (mem_pinsAt hb e)))).1, fun b hb => ?_⟩
        obtain ⟨o, e, d⟩ := T.obj _ _ st7 b hb
        exact (I9.pin (b, o) (List.mem_append_right _ (List.mem_append_right _ (mem_pinsAt hb e)))).2.1
      have made : ∀ {s9 : Shared} {H9 : Hp}, Inv X' ([] ++ pinsAt fp s7.heap) (us2 ++ capV σ is) H9 s9 → te (us2 ++ capV σ is) H9 (fun y H3 => H3 s2.heap.objs.size = some (.lst ys) ∧ ∃ m', m' < n ∧ W (i + 1) m' (ys ++ [y]) (upd H3 s2.heap.objs.size (.lst (ys ++ [y])))) →
          wpAny (model X.prog X.w) X.A (eval elt X'.env) (fun x s₄ => wpAny (model X.prog X.w) X.A (call (.builtin "list.append") [.ref s2.heap.objs.size, x]) (fun _ s₅ => ∃ m, m < n ∧ ∃ i ys ts H', Inv X' [] (ts ++ capV σ is) H' s₅ ∧ ts.length = tn.length ∧ tnx i s₅.heap ∧ (∀ b ∈ fp, H' b = none) ∧ W i m ys H') (fun _ _ => False) s₄) (fun _ _ => False) s9 := fun {s9 H9} I9 q9 => by
        have ze := he' _ s9 _ H9 _ I9 q9
        rw [hxe] at ze
        refine thn (hrun ze) fun y s10 ⟨yv, H10, I10, ry, ha10, m', hm', w10⟩ => ?_
        have za := (mt_append (X := X')) ([] ++ pinsAt fp s7.heap) s10 (us2 ++ capV σ is) H10 (.ref s2.heap.objs.size) [yv] (.ref s2.heap.objs.size) [y] (fun v H' => v = .non ∧ H' = upd H10 s2.heap.objs.size (.lst (ys ++ [yv]))) I10 rfl (.cons ry .nil)
          ⟨_, ys, yv, rfl, rfl, ha10, hlen, rfl, rfl⟩
        rw [hxe] at za
        refine thn (hrun za) fun _ s11 ⟨_, H11, I11, _, _, e11⟩ => ?_
        subst e11
        obtain ⟨b1, b2⟩ := back I11
        exact ⟨m', hm', i + 1, _, us2, _, I11.unpinned, hus, b1, b2, w10⟩
      cases ifs with
      | nil =>
        cases tc with
        | some t => exact ht'.elim
        | none => exact wpAny_tests_nil (by rw [if_pos rfl]; exact made I8 q8)
      | cons c0 rest =>
        cases rest with
        | cons _ _ => cases tc <;> exact ht'.elim
        | nil =>
          cases tc with
          | none => exact ht'.elim
          | some t =>
            have zt := (show PT X' c0 t from ht') _ s8 _ H8 _ I8 q8
            rw [hxe] at zt
            refine wpAny_tests_one (thn (hrun zt) fun ok s9 ⟨H9, I9, q9⟩ => ?_)
            cases ok with
            | true => rw [if_pos rfl]; rw [if_pos rfl] at q9; exact made I9 q9
            | false =>
              rw [if_neg Bool.false_ne_true]
              rw [if_neg Bool.false_ne_true] at q9
              obtain ⟨m', hm', w9⟩ := q9
              obtain ⟨b1, b2⟩ := back I9
              exact ⟨m', hm', i + 1, _, us2, _, I9.unpinned, hus, b1, b2, w9⟩
  have st4 : tnx 0 h1 := T.keep _ _ _ st2 fun b hb o e => kp b o (keep23 b o e)
  have goal0 := loop _ I4 st4
  rw [henv] at goal0
  refine codeAny_compStart_list goal0 (T.self X.A 0 _ _ _ st4 goal0)
theorem pe_comp (ck : CompOk X scope tn names is) (hc : X.calm = true) (hi : PI X tg iter wi)
    (hg : ∀ C s0 H0 ex, PG (cxComp X scope (capsOf X.env names) (tn ++ names) C s0 H0 ex) tg g) (he : ∀ C s0 H0 ex, PE (cxComp X scope (capsOf X.env names) (tn ++ names) C s0 H0 ex) elt te)
    (ht : ∀ C s0 H0 ex, PTs (cxComp X scope (capsOf X.env names) (tn ++ names) C s0 H0 ex) ifs tc) (hs : ∀ x, foldedSetIterable iter X.env x = pure x := by intro _; rfl) :
    PE X (.ListComp elt [⟨tg, iter, ifs, 0⟩] scope pos) (tComp wi te tc g tn.length is) := by
  intro pins s σ H Q I h
  rw [eval_ListComp]
  refine wpAny_comprehension_free (use := none) rfl hs (ck.cls fun x hx => I.ok.has x (ck.outk x hx)) ck.kind ck.nms (thn (hi pins s σ H _ I h) fun v s1 h1 => thn h1 fun itv s2 h2 => ?_)
  refine comp_run (RR := fun acc C => compPost (model X.prog X.w) X.A X.xe none (EP X pins σ Q) acc C) (ok := fun X => X.calm = true) ck (fun _ _ _ _ => hc) hg he ht (pie_g h2) fun acc C H' s' m I' hn hC hL hcl hpn hsz q => ?_
  refine ⟨m, hn, fun h' sb => ⟨.ref acc, H', ?_, rfl, q⟩⟩
  exact I'.turned (t' := s'.toks) (fun b o hb e => sb.extBut b o hb e) hC hL (.inr hsz) hcl hpn
theorem ps_setC {i : Nat} {x : Str} {pos' spos : Pos} (hN : X.N.Nodup) (hi' : X.N[i]? = some x) (hx : Loc X.env.scope x) (ck : CompOk X scope tn names is) (hc : X.calm = true) (hi : PI X tg iter wi)
    (hg : ∀ C s0 H0 ex, PG (cxComp X scope (capsOf X.env names) (tn ++ names) C s0 H0 ex) tg g) (he : ∀ C s0 H0 ex, PE (cxComp X scope (capsOf X.env names) (tn ++ names) C s0 H0 ex) elt te)
    (ht : ∀ C s0 H0 ex, PTs (cxComp X scope (capsOf X.env names) (tn ++ names) C s0 H0 ex) ifs tc) (hs : ∀ x, foldedSetIterable iter X.env x = pure x := by intro _; rfl)
    (hsw : swapsWith (.ListComp elt [⟨tg, iter, ifs, 0⟩] scope pos) (some (.Name x pos')) spos.line X.env = pure true := by rfl) (hf : X.fn x = true ∨ X.env.scope.names.lookup x = some .local := by first | exact .inl rfl | exact .inr rfl | assumption) :
    PS X (.Assign [.Name x pos'] (.ListComp elt [⟨tg, iter, ifs, 0⟩] scope pos) spos) (tAsg (tComp wi te tc g tn.length is) (gName i)) := by
  intro pins s σ H D I h
  rw [exec_Assign_Name_used _ _ _ _ hsw]
  refine wpAny_bind (wpAny_standAt (wpAny_bind ?_))
  show wpAny _ X.A (do let _ ← comprehension (.ListComp elt [⟨tg, iter, ifs, 0⟩] scope pos) scope X.env _ (newList []) false (eval iter X.env) (some (assign (.Name x pos') X.env))) _ _ s
  refine wpAny_bind (wpAny_mono (wpAny_comprehension_free (use := some (assign (.Name x pos') X.env)) (Q := fun _ s' => SP X pins D .next s') rfl hs (ck.cls fun x hx => I.ok.has x (ck.outk x hx)) ck.kind ck.nms
    (thn (hi pins s σ H _ I h) fun v s1 h1 => thn h1 fun itv s2 h2 => ?_)) (fun _ s' hq => wpAny_pure (wpAny_pure hq)) fun _ _ e => e)
  refine comp_run (RR := fun acc C => compPost (model X.prog X.w) X.A X.xe (some (assign (.Name x pos') X.env)) (fun _ s' => SP X pins D .next s') acc C) (ok := fun X => X.calm = true) ck (fun _ _ _ _ => hc) hg he ht (pie_g h2) fun acc C H' s' m I' hn hC hL hcl hpn hsz q => ?_
  show wpAny _ X.A (assign (.Name x pos') X.env (.ref acc)) _ _ s'
  refine wpAny_assign_Name (store_ok2 I' hN hi' hx (v := .ref acc) rfl (fun s'' I'' sb => ?_) hf)
  obtain ⟨a, sb, ha⟩ := sb
  have hne : C ≠ a := by
    rcases ha with rfl | ha
    · exact hL
    · exact fun z => hcl x a ha z.symm
  refine ⟨m, hn.sameBut sb hne, fun h' sb' => ⟨_, H', I''.turned (t' := s''.toks) (fun b o hb e => sb'.extBut b o hb e) hC hL (.inr hsz) hcl hpn, q⟩⟩
end
section
variable {te : TE} {Q : VK} {H : Hp} {σ caps : St} {wi : TI} {tc : TT} {K : PySem.W.Frag}
theorem r_comp {o : Option TT} {g : TG} {k : Nat} {is : List Nat} (h : wi σ H (compK te o g (List.replicate k none) (capV σ is) Q)) : tComp wi te o g k is σ H Q := h
theorem len1 {us : St} (h : us.length = 1) : ∃ o, us = [o] := by
  cases us with
  | nil => cases h
  | cons o r =>
    cases r with
    | nil => exact ⟨o, rfl⟩
    | cons _ _ => simp at h
noncomputable def cW (n : Nat) (acc : Addr) (Pv : Nat → List V → Hp → Prop) : Nat → Nat → List V → Hp → Prop := fun i m ys H1 => m = n - i ∧ i ≤ n ∧ ys.length = i ∧ H1 acc = some (.lst ys) ∧ Pv i ys H1
noncomputable def cNext (n : Nat) (acc : Addr) (Pv : Nat → List V → Hp → Prop) (ys : List V) (i : Nat) : VK := fun y H3 => H3 acc = some (.lst ys) ∧ ∃ m', m' < n - i ∧ cW n acc Pv (i + 1) m' (ys ++ [y]) (upd H3 acc (.lst (ys ++ [y])))
theorem c_next {n : Nat} {acc : Addr} {Pv : Nat → List V → Hp → Prop} {ys : List V} {i : Nat} {y : V} {H3 : Hp} (hlt : i < n) (hl : ys.length = i) (ha : H3 acc = some (.lst ys)) (p : Pv (i + 1) (ys ++ [y]) (upd H3 acc (.lst (ys ++ [y])))) : cNext n acc Pv ys i y H3 :=
  ⟨ha, n - (i + 1), by omega, rfl, hlt, by rw [List.length_append, hl]; rfl, upd_same, p⟩
theorem r_compR {lo : Int} {n : Nat} (hn : n ≤ 1000) (Pv : Addr → Nat → List V → Hp → Prop) (h0 : ∀ acc, H acc = none → Pv acc 0 [] (upd H acc (.lst [])))
    (hs : ∀ acc i ys H1, H acc = none → i < n → ys.length = i → H1 acc = some (.lst ys) → Pv acc i ys H1 → te (some (.int (lo + i)) :: caps) H1 (cNext n acc (Pv acc) ys i))
    (hd : ∀ acc ys H1, H acc = none → H1 acc = some (.lst ys) → ys.length = n → Pv acc n ys H1 → Q (.ref acc) H1) : compK te none (gName 0) (List.replicate 1 none) caps Q (Itr lo n) H := by
  intro acc hacc
  refine ⟨cW n acc (Pv acc), ⟨n, by simp, Nat.zero_le _, rfl, upd_same, h0 acc hacc⟩, ?_⟩
  rintro i m ys H1 ⟨rfl, hi, hl, ha, p⟩
  refine ⟨ha, ?_⟩
  by_cases hlt : i < n
  · refine .inr ⟨small1000 (by omega), hlt, fun us x H' hu y => ?_⟩
    obtain ⟨e, y⟩ := y
    subst e y
    obtain ⟨o, rfl⟩ := len1 hu
    exact ⟨⟨[some (.int (lo + i))], rfl, rfl⟩, hs acc i ys _ hacc hlt hl ha p⟩
  · have e : i = n := by omega
    subst e
    exact .inl ⟨Nat.le_refl _, hd acc ys H1 hacc ha hl p⟩
theorem r_compL {a : Addr} {xs : List V} (hn : xs.length ≤ 1000) (Pv : Addr → Nat → List V → Hp → Prop) (h0 : ∀ acc, H acc = none → Pv acc 0 [] (upd H acc (.lst []))) (hl' : ∀ acc i ys H1, H acc = none → i ≤ xs.length → Pv acc i ys H1 → SqL K H1 a xs)
    (hs : ∀ acc i ys H1 x, H acc = none → xs[i]? = some x → ys.length = i → H1 acc = some (.lst ys) → Pv acc i ys H1 → te (some x :: caps) H1 (cNext xs.length acc (Pv acc) ys i))
    (hd : ∀ acc ys H1, H acc = none → H1 acc = some (.lst ys) → ys.length = xs.length → Pv acc xs.length ys H1 → Q (.ref acc) H1) : compK te none (gName 0) (List.replicate 1 none) caps Q (Itl K a) H := by
  intro acc hacc
  refine ⟨cW xs.length acc (Pv acc), ⟨xs.length, by simp, Nat.zero_le _, rfl, upd_same, h0 acc hacc⟩, ?_⟩
  rintro i m ys H1 ⟨rfl, hi, hl, ha, p⟩
  have q := hl' acc i ys H1 hacc hi p
  refine ⟨ha, ?_⟩
  by_cases hlt : i < xs.length
  · refine .inr ⟨small1000 (by omega), ⟨xs, xs[i], q, by simp [hlt]⟩, fun us x H' hu y => ?_⟩
    obtain ⟨e, y⟩ := y
    subst e
    obtain ⟨o, rfl⟩ := len1 hu
    exact ⟨⟨[some x], rfl, rfl⟩, hs acc i ys _ x hacc (y xs q) hl ha p⟩
  · have e : i = xs.length := by omega
    subst e
    exact .inl ⟨⟨xs, q, Nat.le_refl _⟩, hd acc ys H1 hacc ha hl p⟩
end
end L2
namespace L2
open PySem
section
variable {H : Hp} {Q : VK} {u v : V} {a b c d : Int} {m n : Nat} {K : PySem.W.Frag}
end
end L2
namespace L2
theorem rat_of {t b f g : Int} (hb : b ≠ 0) (hg : 0 < g) (hc : Int.gcd f g = 1) (e : f * b = t * g) : (Rat.divInt t b).num = f ∧ ((Rat.divInt t b).den : Int) = g := by
  obtain ⟨n, rfl⟩ : ∃ n : Nat, g = n := ⟨g.toNat, by omega⟩
  have h1 : Rat.divInt t b = Rat.divInt f n := (Rat.divInt_eq_divInt_iff hb (by omega)).mpr e.symm
  have h2 : Rat.divInt f n = Rat.mk' f n (by omega) hc := Rat.num_divInt_den (Rat.mk' f n (by omega) hc)
  rw [h1, h2]
  exact ⟨rfl, rfl⟩
end L2
namespace L2
end L2
namespace L2
open PySem
noncomputable def Tb (w : World) (t : SetTable) (n : Nat) : Prop := t.led = !(w.params.followText "set-order") ∧ (n ≠ 0 → t.plain = false)
theorem layNew_led (t : SetTable) (es : Array (Int × Value)) (h : Int) (x : Value) : (layNew t es h x).2.1.led = t.led := by
  unfold layNew
  split
  · dsimp only
    unfold SetTable.orStandIn
    split <;> rfl
  · rfl
theorem relay_led (t : SetTable) (es : Array (Int × Value)) (k : Nat) (hp : t.plain = false) : (relayAll t es k).2.1.led = t.led ∧ (relayAll t es k).2.1.plain = false := by
  unfold relayAll
  split
  · rename_i t' order e
    unfold SetTable.relaid SetTable.laid at e
    cases hc : SetTable.layClean (SetTable.sizeAbove k - 1) (Array.map (fun x => x.fst) es) with
    | none =>
      rw [hc] at e
      exact nomatch e
    | some ow =>
    rw [hc] at e
    have e3 := congrArg Prod.fst (Option.some.inj e)
    dsimp only at e3
    subst e3
    dsimp only
    split
    · exact ⟨rfl, hp⟩
    · exact ⟨rfl, rfl⟩
  · exact ⟨rfl, rfl⟩
section
variable {prog : Program} {w : World} {K : Type} [DecidableEq K] {knd : KeyKind prog w K} {A : Around} {E : Value → Shared → Prop} {s : Shared}
theorem add_text {a : Addr} {o : Obj} {es : Array (Int × Value)} {ep : Nat} {t : SetTable} {y : Str} {tk : Tok} {k : K} {Q : Bool → Shared → Prop} (hkey : knd.is k (.str y tk) = true) (ho : s.heap.get? a = some o) (hex : o.ExactSet) (hd : o.data = .set es ep t)
    (hel : ElemsOf knd es.toList) (hb : es.size + 1 < scanBound) (hf : t.fits es.size = true) (ht : Tb w t es.size)
    (h1 : (∃ e ∈ es.toList, knd.is k e.2 = true) → Q false s)
    (h2 : (∀ e ∈ es.toList, knd.is k e.2 = false) → ∀ (h' : Heap) (es' : Array (Int × Value)) (t' : SetTable) (ep' : Nat), Heap.SameBut a s.heap h' → h'.get? a = some { o with data := .set es' ep' t' } → List.Perm es'.toList (es.toList ++ [(knd.hash k, .str y tk)]) →
      t'.fits es'.size = true → Tb w t' es'.size → Q true { s with heap := h' }) : wpAny (model prog w) A (setAddHashed a (.str y tk) (knd.hash k)) Q E s := by
  unfold setAddHashed setAddHashedIn
  refine wpAny_holding (wpAny_bind (wpAny_setState_of ho hd hf ?_))
  have hsc : (Value.str y tk).scannable = true := rfl
  dsimp only
  rw [byScan_of hsc (by omega) hel, if_pos rfl]
  unfold setAddByScan
  refine wpAny_bind (wpAny_bind (wpAny_rule (wpAny_bind (wpAny_setScan_of hkey ho hd hf hel ?_))))
  cases hr : List.findIdx? (fun e => knd.is k e.2) es.toList with
  | some j =>
    obtain ⟨hj, hpj, _⟩ := List.findIdx?_eq_some_iff_getElem.mp hr
    exact wpAny_pure (wpAny_pure (h1 ⟨_, List.getElem_mem hj, hpj⟩))
  | none =>
    have hno := List.findIdx?_eq_none_iff.mp hr
    have gw : ∀ (b : Bool) {s₁ : Shared} {Q' : Unit → Shared → Prop}, Q' () s₁ → wpAny (model prog w) A (match b with | true => rule "set.scan.the-table-gave-way" | false => pure ()) Q' E s₁ := fun b _ _ hq => by
      cases b
      · exact wpAny_pure hq
      · exact wpAny_rule hq
    dsimp only
    have p1 := layNew_perm t es (knd.hash k) (.str y tk)
    have f1 := layNew_fits t es (knd.hash k) (.str y tk)
    have l1 := layNew_led t es (knd.hash k) (.str y tk)
    generalize layNew t es (knd.hash k) (.str y tk) = L at p1 f1 l1 ⊢
    obtain ⟨es1, t1, wd, gave⟩ := L
    dsimp only at p1 f1 l1 ⊢
    rw [Array.toList_push] at p1
    have hz : es1.size = es.size + 1 := by
      have := p1.length_eq
      simpa using this
    refine wpAny_bind (gw _ ?_)
    have fin : ∀ t2 : SetTable, t2.fits es1.size = true → t2.led = t.led → t2.plain = false → wpAny (model prog w) A (do
        storeSet a es1 t2
        if (!wd && t2.tooFull) = true then do
            (match (relayAll t2 es1 (SetTable.grown es1.size)).2.2 with | true => rule "set.scan.the-table-gave-way" | false => pure ())
            storeSet a (relayAll t2 es1 (SetTable.grown es1.size)).1 (relayAll t2 es1 (SetTable.grown es1.size)).2.1
            pure (some true)
          else pure (some true)) (fun r s₁ => wpAny (model prog w) A (match r with | some added => pure added | none => setAddHashedIn a (.str y tk) (knd.hash k) 99999) Q E s₁) E s := by
      intro t2 f2 l2 pl2
      refine wpAny_bind (wpAny_storeSet_of ho hd ?_ (fits_of_scanBound (by omega)))
      have g1 : (s.heap.update a (Obj.putSet es1 t2)).get? a = some { o with data := .set es1 (ep + 1) t2 } := by
        have z := Heap.get?_update_self (Obj.putSet es1 t2) ho (by rw [putSet_of es1 t2 hd]; rfl)
        rw [putSet_of es1 t2 hd] at z
        exact z
      have sb1 := Heap.SameBut.update s.heap a (Obj.putSet es1 t2)
      split
      · have p2 := relayAll_perm t2 es1 (SetTable.grown es1.size)
        have f3 := relayAll_fits t2 es1 (SetTable.grown es1.size)
        have l3 := relay_led t2 es1 (SetTable.grown es1.size) pl2
        generalize relayAll t2 es1 (SetTable.grown es1.size) = R at p2 f3 l3 ⊢
        obtain ⟨es2, t3, gave2⟩ := R
        dsimp only at p2 f3 l3 ⊢
        have hz2 : es2.size = es1.size := by
          have := p2.length_eq
          simpa using this
        refine wpAny_bind (gw _ ?_)
        refine wpAny_bind (wpAny_storeSet_of g1 rfl ?_ (fits_of_scanBound (by omega)))
        have g2 : ((s.heap.update a (Obj.putSet es1 t2)).update a (Obj.putSet es2 t3)).get? a = some { o with data := .set es2 (ep + 1 + 1) t3 } := by
          have z := Heap.get?_update_self (Obj.putSet es2 t3) g1 (by rw [putSet_of es2 t3 rfl]; rfl)
          rw [putSet_of es2 t3 rfl] at z
          exact z
        exact wpAny_pure (wpAny_pure (h2 hno _ es2 t3 _ (sb1.trans (Heap.SameBut.update _ a _)) g2 (p2.trans p1) f3 ⟨by rw [l3.1, l2]; exact ht.1, fun _ => l3.2⟩))
      · exact wpAny_pure (wpAny_pure (h2 hno _ es1 t2 _ sb1 g1 p1 f2 ⟨by rw [l2]; exact ht.1, fun _ => pl2⟩))
    split
    · refine wpAny_bind ?_
      rw [hashByValue_scannable 8 hsc]
      refine wpAny_pure ?_
      have e0 : plainKind (Value.str y tk) = false := rfl
      rw [e0, if_neg Bool.false_ne_true]
      exact fin _ (SetTable.fits_plain_off f1) l1 rfl
    · rename_i hpl
      refine wpAny_bind (wpAny_pure ?_)
      rw [if_pos rfl]
      exact fin t1 f1 l1 (by simpa using hpl)
end
end L2
namespace L2
open PySem
section
variable {prog : Program} {w : World} {A : Around} {E : Value → Shared → Prop} {s : Shared}
theorem drawn_any {M : Model} {src : Source} {n : Nat} {Q : Nat → Shared → Prop} (hn : n ≠ 0) (h : ∀ i d, i < n → Q i { s with drawn := d }) : wpAny M A (choose src n) Q E s := by
  intro Γ p _
  show Sem.wp M Γ (.choose src n .pure) _ _ p s
  rw [Sem.wp_choose]
  exact ⟨hn, by rw [Sem.wp]; exact h _ _ (Nat.mod_lt _ (Nat.pos_of_ne_zero hn))⟩
theorem erase_perm {α : Type} : ∀ {l : List α} {i : Nat} {x : α}, l[i]? = some x → (x :: l.eraseIdx i).Perm l
  | [], i, x, h => by simp at h
  | a :: l, 0, x, h => by simp at h; subst h; exact .refl _
  | a :: l, i + 1, x, h => by
    have ih := erase_perm (l := l) (i := i) (x := x) (by simpa using h)
    show (x :: a :: l.eraseIdx i).Perm (a :: l)
    exact (List.Perm.swap ..).trans (ih.cons a)
theorem order_any {M : Model} {α : Type} : ∀ (n : Nat) (xs : List α) (s : Shared) (Q : List α → Shared → Prop), xs.length = n → (∀ ys d, ys.Perm xs → Q ys { s with drawn := d }) → wpAny M A (drawOrder n xs) Q E s
  | 0, xs, s, Q, hl, h => by
    have : xs = [] := List.length_eq_zero_iff.mp hl
    subst this
    exact wpAny_pure (h [] s.drawn (.refl _))
  | n + 1, [], s, Q, hl, h => by cases hl
  | n + 1, x :: xs, s, Q, hl, h => by
    unfold drawOrder
    refine wpAny_bind (drawn_any (by simp) fun i d hi => ?_)
    obtain ⟨y, hy⟩ : ∃ y, (x :: xs)[i]? = some y := ⟨_, List.getElem?_eq_getElem hi⟩
    rw [hy]
    refine wpAny_bind (order_any n _ _ _ ?_ fun ys d' hp => wpAny_pure (h _ d' ?_))
    · have := (erase_perm hy).length_eq
      simp at this hl ⊢
      omega
    · exact (hp.cons y).trans (erase_perm hy)
theorem pick_go {α : Type} (next : Nat → Nat) : ∀ (fuel k : Nat) (left : List α) (out : Array α), left.length = fuel → (pickOrder.go next fuel k left out).toList.Perm (out.toList ++ left)
  | 0, k, left, out, hl => by
    have : left = [] := List.length_eq_zero_iff.mp hl
    subst this
    unfold pickOrder.go
    simp
  | fuel + 1, k, left, out, hl => by
    unfold pickOrder.go
    have hlt : next k % left.length < left.length := Nat.mod_lt _ (by omega)
    obtain ⟨y, hy⟩ : ∃ y, left[next k % left.length]? = some y := ⟨_, List.getElem?_eq_getElem hlt⟩
    rw [hy]
    dsimp only
    have hp := erase_perm hy
    have ih := pick_go next fuel (k + 1) (left.eraseIdx (next k % left.length)) (out.push y) (by
      have := hp.length_eq
      simp at this
      omega)
    refine ih.trans ?_
    rw [Array.toList_push, List.append_assoc]
    exact List.Perm.append_left _ hp
theorem pick_perm {α : Type} (next : Nat → Nat) (xs : Array α) : (pickOrder next xs).toList.Perm xs.toList := by
  unfold pickOrder
  have := pick_go next xs.size 0 xs.toList #[] (by simp)
  simpa using this
theorem slot_si_next : Slot "set_iterator" "__next__" "set_iterator.__next__" :=
  .of (owner := "set_iterator") (n := "__next__") (by rw [typeLookup_type, builtinLookup_eq_fast]; kernel_rfl) (by decide +kernel) (by decide +kernel) (by decide +kernel) (by first | exact .inl (by decide +kernel) | exact .inr (by decide +kernel)) (by rw [isSubtype_type]; kernel_rfl)
theorem entry_si_next : entryFor table "set_iterator.__next__" = some Builtin.«set_iterator.__next__» := entryFor_of_tree (by kernel_rfl)
theorem entry_s_iter : entryFor table "set.__iter__" = some Builtin.«frozenset.__iter__» := entryFor_alias (id' := "frozenset.__iter__") (by kernel_rfl) rfl (by decide +kernel) (by kernel_rfl)
theorem args_si_next (a : Value) : argsOk "set_iterator.__next__" ⟨[a], []⟩ := by
  unfold argsOk
  kernel_rfl
end
end L2
namespace L2
open PySem
noncomputable def setObj (es : Array (Int × Value)) (ep : Nat) (t : SetTable) : Obj := { cls := .type "set", dict := none, data := .set es ep t, slots := #[] }
noncomputable def IsSI (h : Heap) (it : Addr) (first : Value) (i : Nat) (a : Addr) (n ep : Nat) : Prop :=
  ∃ o, h.get? it = some o ∧ o.cls = .type "set_iterator" ∧ o.data = .fields #[first, .int i 0, .ref a, .int n 0, .int ep 0]
theorem IsSI.typeIs {s : Shared} {it a : Addr} {first : Value} {i n ep : Nat} (x : IsSI s.heap it first i a n ep) : s.TypeIs (.ref it) "set_iterator" := let ⟨o, ho, hc, _⟩ := x; ⟨o, ho, hc⟩
section
variable {prog : Program} {w : World} {A : Around} {E : Value → Shared → Prop} {s : Shared}
theorem si_call {it : Addr} {Q : Option Value → Shared → Prop} (hT : s.TypeIs (.ref it) "set_iterator")
    (h : wpAny (model prog w) A.in1 (Builtin.«set_iterator.__next__» ⟨[.ref it], []⟩) (fun fin s' => ∃ v, fin = .done (.ret v) ∧ Q (some v) s') (fun e s' => wpAny (model prog w) A (do if ← isInstance e (.type "StopIteration") then pure none else throw e) Q E s') s) :
    wpAny (model prog w) A (pyNext (.ref it)) Q E s := by
  unfold pyNext
  have hc : wpAny (model prog w) A (callSpecial? (.ref it) (Str.ofString "__next__")) (fun r s' => ∃ v, r = some v ∧ Q (some v) s') (fun e s' => wpAny (model prog w) A (do if ← isInstance e (.type "StopIteration") then pure none else throw e) Q E s') s :=
    wpAny_callSpecial?_slot (name := Str.ofString "__next__") hT slot_si_next (wpAny_call_entry slot_si_next hT entry_si_next (wpAny_mono h (fun fin s' ⟨v, e, q⟩ => ⟨v, e, v, rfl, q⟩) fun _ _ e => e) (args_si_next _))
  refine wpAny_bind (wpAny_attempt (wpAny_mono hc (fun r s' hr => ?_) fun e s' he => he))
  obtain ⟨v, rfl, q⟩ := hr
  exact wpAny_pure q
theorem si_stop {e : Value} {Q : Option Value → Shared → Prop} (hT : s.TypeIs e "StopIteration") (h : Q none s) : wpAny (model prog w) A (do if ← isInstance e (.type "StopIteration") then pure none else throw e) Q E s := by
  refine wpAny_bind (wpAny_isInstance hT isSubtype_stop ?_)
  exact wpAny_pure h
theorem si_raise {α : Type} {Q : α → Shared → Prop} (hh : A.handled = none) (h : ∀ e h', (∀ b o, s.heap.get? b = some o → h'.get? b = some o) → Shared.TypeIs { s with heap := h' } e "StopIteration" → E e { s with heap := h' }) :
    wpAny (model prog w) A (do raiseNew (← newExc (.type "StopIteration") []) : Sem α) Q E s := by
  refine wpAny_bind ?_
  simp only [newExc, newTuple]
  refine wpAny_bind (wpAny_newObj_type ?_ (by size_fits))
  refine wpAny_bind (m := firstArgMember _ _) (wpAny_of_eq (a := Value.none) (by first | rfl | (simp only [firstArgMember]; rfl)) ?_)
  refine wpAny_newObj_type ?_ (by size_fits)
  simp only [raiseNew]
  refine wpAny_bind (wpAny_handled ?_)
  rw [hh]
  refine wpAny_bind (wpAny_pure (wpAny_throw ?_))
  exact h (.ref _) _ (fun b o e => Heap.get?_push_of_some _ (Heap.get?_push_of_some _ e)) ⟨_, Heap.get?_push_size _ rfl, rfl⟩
variable {a it : Addr} {es : Array (Int × Value)} {ep i n : Nat} {t : SetTable} {first : Value}
theorem si_open {Q : Fin → Shared → Prop} (hi : IsSI s.heap it first i a es.size ep) (ha : s.heap.get? a = some (setObj es ep t)) (hf : t.fits es.size = true)
    (h : wpAny (model prog w) A (if let .int slot _ := first then do
        match ← setNext a slot.toNat i ep with
        | some (x, next) =>
          setField (.ref it) 0 (rawInt next)
          setField (.ref it) 1 (rawInt ((i : Int) + 1))
          ret x
        | none => setField (.ref it) 2 .none; raiseNew (← newExc (.type "StopIteration") [])
      else do
        let some places ← seqItems? first | unsupported "internal:set_iterator"
        match places[i]? with
        | some (.int place _) =>
          let x ← setNextDrawn a place.toNat ep
          setField (.ref it) 1 (rawInt ((i : Int) + 1))
          ret x
        | some _ => unsupported "internal:set_iterator"
        | none => setField (.ref it) 0 (rawInt 0); setField (.ref it) 2 .none; raiseNew (← newExc (.type "StopIteration") [])) Q E s) :
    wpAny (model prog w) A (Builtin.«set_iterator.__next__» ⟨[.ref it], []⟩) Q E s := by
  obtain ⟨o, ho, hc, hd⟩ := hi
  unfold Builtin.«set_iterator.__next__»
  refine wpAny_bind (m := slotArgs _ _ _) (wpAny_pure ?_)
  refine wpAny_bind (wpAny_fieldsOf ho hd ?_)
  dsimp only
  refine wpAny_bind (wpAny_setEntries_of ha rfl hf ?_)
  rw [if_neg (by simp)]
  exact h
theorem si_set {o : Obj} {vs : Array Value} {k : Nat} {v : Value} (h : Heap) (ho : h.get? it = some o) (hd : o.data = .fields vs) : (h.update it (Obj.mapFields (·.setIfInBounds k v))).get? it = some (o.mapFields (·.setIfInBounds k v)) :=
  Heap.get?_update_self _ ho (Obj.isFreed_of_fields (Obj.data_mapFields hd _))
theorem si_next_d {tp : Addr} {places : List Nat} {p : Nat} {x : Int × Value} {Q : Option Value → Shared → Prop} (hi : IsSI s.heap it (.ref tp) i a es.size ep) (ha : s.heap.get? a = some (setObj es ep t)) (hf : t.fits es.size = true) (hta : it ≠ a) (htt : it ≠ tp)
    (ht : ∃ o k, s.heap.get? tp = some o ∧ o.data = .seq (places.map fun j => rawInt (j : Nat)).toArray k) (hp : places[i]? = some p) (hx : es[p]? = some x)
    (h : ∀ h', IsSI h' it (.ref tp) (i + 1) a es.size ep → Heap.SameBut it s.heap h' → Q (some x.2) { s with heap := h' }) : wpAny (model prog w) A (pyNext (.ref it)) Q E s := by
  refine si_call hi.typeIs (si_open hi ha hf ?_)
  obtain ⟨o, ho, hc, hd⟩ := hi
  obtain ⟨ot, kt, h1, h2⟩ := ht
  show wpAny (model prog w) A.in1 (do
        let some places ← seqItems? (.ref tp) | unsupported "internal:set_iterator"
        match places[i]? with
        | some (.int place _) =>
          let x ← setNextDrawn a place.toNat ep
          setField (.ref it) 1 (rawInt ((i : Int) + 1))
          ret x
        | some _ => unsupported "internal:set_iterator"
        | none => setField (.ref it) 0 (rawInt 0); setField (.ref it) 2 .none; raiseNew (← newExc (.type "StopIteration") [])) _ _ s
  unfold seqItems?
  refine wpAny_bind (wpAny_bind (wpAny_load h1 ?_))
  rw [h2]
  refine wpAny_pure ?_
  have e1 : (places.map fun j => rawInt (j : Nat)).toArray[i]? = some (rawInt (p : Nat)) := by simp [hp]
  dsimp only
  rw [e1]
  show wpAny (model prog w) A.in1 (do
          let x ← setNextDrawn a ((p : Int)).toNat ep
          setField (.ref it) 1 (rawInt ((i : Int) + 1))
          ret x) _ _ s
  unfold setNextDrawn
  refine wpAny_bind (wpAny_bind (wpAny_setState_of ha rfl hf ?_))
  dsimp only
  rw [if_neg (by simp), Int.toNat_natCast, hx]
  refine wpAny_pure ?_
  refine wpAny_bind (wpAny_setField ho hd (by simp) ?_)
  refine wpAny_pure ⟨_, rfl, h _ ⟨_, si_set s.heap ho hd, (Obj.cls_mapFields ..).trans hc, ?_⟩ (Heap.SameBut.update ..)⟩
  rw [Obj.data_mapFields hd]
  simp [rawInt]
theorem si_end_d {tp : Addr} {places : List Nat} {Q : Option Value → Shared → Prop} (hh : A.handled = none) (hi : IsSI s.heap it (.ref tp) i a es.size ep) (ha : s.heap.get? a = some (setObj es ep t)) (hf : t.fits es.size = true)
    (ht : ∃ o k, s.heap.get? tp = some o ∧ o.data = .seq (places.map fun j => rawInt (j : Nat)).toArray k) (hp : places[i]? = none)
    (h : ∀ h', Heap.ExtBut it s.heap h' → Q none { s with heap := h' }) : wpAny (model prog w) A (pyNext (.ref it)) Q E s := by
  refine si_call hi.typeIs (si_open hi ha hf ?_)
  obtain ⟨o, ho, hc, hd⟩ := hi
  obtain ⟨ot, kt, h1, h2⟩ := ht
  show wpAny (model prog w) A.in1 (do
        let some places ← seqItems? (.ref tp) | unsupported "internal:set_iterator"
        match places[i]? with
        | some (.int place _) =>
          let x ← setNextDrawn a place.toNat ep
          setField (.ref it) 1 (rawInt ((i : Int) + 1))
          ret x
        | some _ => unsupported "internal:set_iterator"
        | none => setField (.ref it) 0 (rawInt 0); setField (.ref it) 2 .none; raiseNew (← newExc (.type "StopIteration") [])) _ _ s
  unfold seqItems?
  refine wpAny_bind (wpAny_bind (wpAny_load h1 ?_))
  rw [h2]
  refine wpAny_pure ?_
  have e1 : (places.map fun j => rawInt (j : Nat)).toArray[i]? = none := by simpa using hp
  dsimp only
  rw [e1]
  refine wpAny_bind (wpAny_setField ho hd (by simp) ?_)
  have g1 := si_set (k := 0) (v := rawInt 0) s.heap ho hd
  refine wpAny_bind (wpAny_setField g1 (Obj.data_mapFields hd _) (by simp) ?_)
  refine si_raise (by simpa using hh) fun e h' k hT => ?_
  refine si_stop hT (h h' fun b o' hb e' => k b o' ?_)
  exact (Heap.get?_update_other _ _ (Ne.symm hb)).trans ((Heap.get?_update_other _ _ (Ne.symm hb)).trans e')
theorem si_next_s {slot next : Nat} {x : Value} {Q : Option Value → Shared → Prop} (hi : IsSI s.heap it (.int slot 0) i a es.size ep) (ha : s.heap.get? a = some (setObj es ep t)) (hf : t.fits es.size = true)
    (hn : ∀ (A : Around) (E : Value → Shared → Prop) (Q : Option (Value × Nat) → Shared → Prop), Q (some (x, next)) s → wpAny (model prog w) A (setNext a slot i ep) Q E s)
    (h : ∀ h', IsSI h' it (.int next 0) (i + 1) a es.size ep → Heap.SameBut it s.heap h' → Q (some x) { s with heap := h' }) : wpAny (model prog w) A (pyNext (.ref it)) Q E s := by
  refine si_call hi.typeIs (si_open hi ha hf ?_)
  obtain ⟨o, ho, hc, hd⟩ := hi
  show wpAny (model prog w) A.in1 (do
        match ← setNext a ((slot : Int)).toNat i ep with
        | some (x, next) =>
          setField (.ref it) 0 (rawInt next)
          setField (.ref it) 1 (rawInt ((i : Int) + 1))
          ret x
        | none => setField (.ref it) 2 .none; raiseNew (← newExc (.type "StopIteration") [])) _ _ s
  rw [Int.toNat_natCast]
  refine wpAny_bind (hn _ _ _ ?_)
  refine wpAny_bind (wpAny_setField ho hd (by simp) ?_)
  have g1 := si_set (k := 0) (v := rawInt next) s.heap ho hd
  refine wpAny_bind (wpAny_setField g1 (Obj.data_mapFields hd _) (by simp) ?_)
  refine wpAny_pure ⟨_, rfl, h _ ⟨_, si_set _ g1 (Obj.data_mapFields hd _), (Obj.cls_mapFields ..).trans ((Obj.cls_mapFields ..).trans hc), ?_⟩ ((Heap.SameBut.update ..).trans (Heap.SameBut.update ..))⟩
  rw [Obj.data_mapFields (Obj.data_mapFields hd _)]
  simp [rawInt]
theorem si_end_s {slot : Nat} {Q : Option Value → Shared → Prop} (hh : A.handled = none) (hi : IsSI s.heap it (.int slot 0) i a es.size ep) (ha : s.heap.get? a = some (setObj es ep t)) (hf : t.fits es.size = true)
    (hn : ∀ (A : Around) (E : Value → Shared → Prop) (Q : Option (Value × Nat) → Shared → Prop), Q none s → wpAny (model prog w) A (setNext a slot i ep) Q E s)
    (h : ∀ h', Heap.ExtBut it s.heap h' → Q none { s with heap := h' }) : wpAny (model prog w) A (pyNext (.ref it)) Q E s := by
  refine si_call hi.typeIs (si_open hi ha hf ?_)
  obtain ⟨o, ho, hc, hd⟩ := hi
  show wpAny (model prog w) A.in1 (do
        match ← setNext a ((slot : Int)).toNat i ep with
        | some (x, next) =>
          setField (.ref it) 0 (rawInt next)
          setField (.ref it) 1 (rawInt ((i : Int) + 1))
          ret x
        | none => setField (.ref it) 2 .none; raiseNew (← newExc (.type "StopIteration") [])) _ _ s
  rw [Int.toNat_natCast]
  refine wpAny_bind (hn _ _ _ ?_)
  refine wpAny_bind (wpAny_setField ho hd (by simp) ?_)
  refine si_raise (by simpa using hh) fun e h' k hT => ?_
  refine si_stop hT (h h' fun b o' hb e' => k b o' ?_)
  exact (Heap.get?_update_other _ _ (Ne.symm hb)).trans e'
end
end L2
namespace L2
open PySem
section
variable {prog : Program} {w : World} {A : Around} {E : Value → Shared → Prop} {s : Shared} {a it : Addr} {es : Array (Int × Value)} {ep i n : Nat} {t : SetTable}
theorem byText_is {Q : Bool → Shared → Prop} (h : Q (w.params.followText "set-order") s) : wpAny (model prog w) A setsByText Q E s := by
  unfold setsByText
  exact wpAny_bind (wpAny_askSetting (wpAny_pure h))
theorem next_text {slot : Nat} (ht : w.params.followText "set-order" = true) (ha : s.heap.get? a = some (setObj es ep t)) (hf : t.fits es.size = true) {Q : Option (Value × Nat) → Shared → Prop}
    (h : Q (((pickOrder (w.params.setOrder a ep) es)[i]?).map fun e => (e.2, slot)) s) : wpAny (model prog w) A (setNext a slot i ep) Q E s := by
  unfold setNext
  refine wpAny_bind (wpAny_setState_of ha rfl hf ?_)
  dsimp only
  refine wpAny_bind (byText_is ?_)
  rw [ht, if_pos rfl, if_neg (by simp)]
  unfold setWalk
  refine wpAny_bind (wpAny_bind (wpAny_setState_of ha rfl hf ?_))
  dsimp only
  refine wpAny_bind (byText_is ?_)
  rw [ht, if_pos rfl]
  exact wpAny_bind (wpAny_askSetting (wpAny_pure (wpAny_pure h)))
theorem next_few {slot : Nat} (ht : w.params.followText "set-order" = false) (hl : t.led = true) (h1 : es.size ≤ 1) (ha : s.heap.get? a = some (setObj es ep t)) (hf : t.fits es.size = true) {Q : Option (Value × Nat) → Shared → Prop}
    (h : Q (match es[SetTable.below t.place slot]?, t.place[SetTable.below t.place slot]? with | some (_, x), some j => some (x, j + 1) | _, _ => none) s) : wpAny (model prog w) A (setNext a slot i ep) Q E s := by
  unfold setNext
  refine wpAny_bind (wpAny_setState_of ha rfl hf ?_)
  dsimp only
  refine wpAny_bind (byText_is ?_)
  rw [ht, if_neg Bool.false_ne_true]
  have hd : (!t.plain && decide (es.size > 1)) = false := by
    rw [decide_eq_false (by omega), Bool.and_false]
  show wpAny (model prog w) A (if (!t.plain && decide (es.size > 1)) = true then _ else _) Q E s
  rw [if_neg (by rw [hd]; exact Bool.false_ne_true)]
  refine wpAny_bind ?_
  show wpAny (model prog w) A (if (!t.led && !es.isEmpty) = true then unsupported "set:maker-not-led" else pure ()) _ _ s
  rw [if_neg (by rw [hl]; simp)]
  exact wpAny_pure (wpAny_pure h)
structure SetWalk (prog : Program) (w : World) (A : Around) (it : Addr) (fp : List Addr) (ord : List Value) (St : Nat → Heap → Prop) : Prop where
  ws : Walks prog w A it fp [it] ord.length (fun i v => ord[i]? = some v) St
  ty : ∀ i (s : Shared), St i s.heap → s.TypeIs (.ref it) "set_iterator"
theorem si_self {first : Value} {Q : Value → Shared → Prop} (hi : IsSI s.heap it first i a n ep) (h : Q (.ref it) s) (slot : Slot "set_iterator" "__iter__" "set_iterator.__iter__") (entry : entryFor table "set_iterator.__iter__" = some Builtin.«dict_keyiterator.__iter__»)
    (args : argsOk "set_iterator.__iter__" ⟨[.ref it], []⟩) : wpAny (model prog w) A (pyIter (.ref it)) Q E s := by
  refine wpAny_pyIter_slot hi.typeIs slot (wpAny_call_entry slot hi.typeIs entry ?_ args)
  show wpAny _ _ (ret (.ref it)) _ _ s
  exact wpAny_pure ⟨_, rfl, "set_iterator", _, hi.typeIs, slot_si_next.lookup, h⟩
end
theorem slot_si_iter : Slot "set_iterator" "__iter__" "set_iterator.__iter__" :=
  .of (owner := "set_iterator") (n := "__iter__") (by rw [typeLookup_type, builtinLookup_eq_fast]; kernel_rfl) (by decide +kernel) (by decide +kernel) (by decide +kernel) (by first | exact .inl (by decide +kernel) | exact .inr (by decide +kernel)) (by rw [isSubtype_type]; kernel_rfl)
theorem entry_si_iter : entryFor table "set_iterator.__iter__" = some Builtin.«dict_keyiterator.__iter__» := entryFor_alias (id' := "dict_keyiterator.__iter__") (by kernel_rfl) rfl (by decide +kernel) (by kernel_rfl)
theorem args_si_iter (a : Value) : argsOk "set_iterator.__iter__" ⟨[a], []⟩ := by
  unfold argsOk
  kernel_rfl
section
variable {prog : Program} {w : World} {A : Around} {E : Value → Shared → Prop} {s : Shared} {a it : Addr} {es : Array (Int × Value)} {ep i n : Nat} {t : SetTable}
theorem IsSI.at {h h' : Heap} {first : Value} (x : IsSI h it first i a n ep) (e : ∀ o, h.get? it = some o → h'.get? it = some o) : IsSI h' it first i a n ep := let ⟨o, ho, r⟩ := x; ⟨o, e _ ho, r⟩
theorem below_one {j k : Nat} : SetTable.below #[j] k = if j < k then 1 else 0 := by
  unfold SetTable.below
  show SetTable.below.go #[j] k 1 0 1 = _
  unfold SetTable.below.go
  by_cases h : j < k
  · simp [h, SetTable.below.go]
  · simp [h, SetTable.below.go]
theorem walk_text (hh : A.handled = none) (hne : a ≠ it) (ht : w.params.followText "set-order" = true) (hf : t.fits es.size = true) :
    SetWalk prog w A it [it, a] ((pickOrder (w.params.setOrder a ep) es).toList.map (·.2)) (fun i h => IsSI h it (.int (0 : Nat) 0) i a es.size ep ∧ h.get? a = some (setObj es ep t)) where
  ws := {
    sub := fun b hb => by simp at hb; simp [hb]
    frame := fun _ _ _ st hk => ⟨st.1.at fun o e => hk it (by simp) o e, hk a (by simp) _ st.2⟩
    item := fun i s Q E hi st hQ => by
      have hlt : i < (pickOrder (w.params.setOrder a ep) es).size := by simpa using hi
      refine si_next_s (slot := 0) (next := 0) (x := ((pickOrder (w.params.setOrder a ep) es)[i]).2) st.1 st.2 hf (fun A E Q q => next_text ht st.2 hf (by simpa [hlt] using q)) fun h' hit sb => ?_
      exact hQ _ h' s.toks (by simp [hlt]) ⟨hit, (sb.2 a hne).trans st.2⟩ fun b o hb e => (sb.2 b (by simpa using hb)).trans e
    done := fun s Q E st hQ => by
      refine si_end_s (slot := 0) hh st.1 st.2 hf (fun A E Q q => next_text ht st.2 hf (by simpa using q)) fun h' eb => ?_
      exact hQ h' s.toks fun b o hb e => eb b o (by simpa using hb) e
    self := fun _ _ _ _ st hQ => si_self st.1 hQ slot_si_iter entry_si_iter (args_si_iter _) }
  ty := fun _ _ st => st.1.typeIs
theorem walk_few (hh : A.handled = none) (hne : a ≠ it) (ht : w.params.followText "set-order" = false) (hl : t.led = true) (h1 : es.size ≤ 1) (hf : t.fits es.size = true) :
    SetWalk prog w A it [it, a] (es.toList.map (·.2)) (fun i h => (∃ slot : Nat, IsSI h it (.int slot 0) i a es.size ep ∧ (i = 0 → slot = 0) ∧ (0 < i → ∀ j, t.place[0]? = some j → slot = j + 1)) ∧ h.get? a = some (setObj es ep t)) where
  ws := {
    sub := fun b hb => by simp at hb; simp [hb]
    frame := fun _ _ _ ⟨⟨sl, st, r⟩, st2⟩ hk => ⟨⟨sl, st.at fun o e => hk it (by simp) o e, r⟩, hk a (by simp) _ st2⟩
    item := fun i s Q E hi st hQ => by
      obtain ⟨⟨sl, st1, z1, z2⟩, st2⟩ := st
      have hlt : i < es.size := by simpa using hi
      have i0 : i = 0 := by omega
      subst i0
      have z1 := z1 rfl
      subst z1
      have hps : t.place.size = 1 := by
        have := hf
        unfold SetTable.fits at this
        simp at this
        omega
      obtain ⟨j, hj⟩ : ∃ j, t.place = #[j] := by
        match hp : t.place, hps with
        | ⟨[j]⟩, _ => exact ⟨j, rfl⟩
      have e0 : SetTable.below t.place 0 = 0 := by rw [hj, below_one, if_neg (by omega)]
      refine si_next_s (slot := 0) (next := j + 1) (x := es[0].2) st1 st2 hf (fun A E Q q => next_few ht hl h1 st2 hf ?_) fun h' hit sb => ?_
      · rw [e0, hj]
        simpa [hlt] using q
      · exact hQ _ h' s.toks (by simp [hlt]) ⟨⟨j + 1, hit, fun z => by omega, fun _ j' e => by rw [hj] at e; simpa using e⟩, (sb.2 a hne).trans st2⟩ fun b o hb e => (sb.2 b (by simpa using hb)).trans e
    done := fun s Q E st hQ => by
      obtain ⟨⟨sl, st1, z1, z2⟩, st2⟩ := st
      have hps : t.place.size = es.size := by
        have := hf
        unfold SetTable.fits at this
        simp at this
        omega
      rw [List.length_map, Array.length_toList] at st1 z1 z2
      refine si_end_s (slot := sl) hh st1 st2 hf (fun A E Q q => next_few ht hl h1 st2 hf ?_) fun h' eb => ?_
      · by_cases h0 : es.size = 0
        · have : es = #[] := Array.eq_empty_of_size_eq_zero h0
          subst this
          simpa using q
        · have hp1 : t.place.size = 1 := by omega
          obtain ⟨j, hj⟩ : ∃ j, t.place = #[j] := by
            match hp : t.place, hp1 with
            | ⟨[j]⟩, _ => exact ⟨j, rfl⟩
          have := z2 (by omega) j (by rw [hj]; rfl)
          subst this
          have e1 : SetTable.below t.place (j + 1) = 1 := by rw [hj, below_one, if_pos (by omega)]
          rw [e1]
          have : es[1]? = none := by simp; omega
          rw [this]
          exact q
      · exact hQ h' s.toks fun b o hb e => eb b o (by simpa using hb) e
    self := fun _ _ _ _ ⟨⟨_, st, _⟩, _⟩ hQ => si_self st hQ slot_si_iter entry_si_iter (args_si_iter _) }
  ty := fun _ _ ⟨⟨_, st, _⟩, _⟩ => st.typeIs
theorem walk_drawn {tp : Addr} {places : List Nat} (hh : A.handled = none) (hne : a ≠ it) (hnt : tp ≠ it) (hf : t.fits es.size = true) (hp : ∀ p ∈ places, p < es.size) :
    SetWalk prog w A it [it, a, tp] (places.map fun p => ((es[p]?).getD (0, .none)).2) (fun i h => IsSI h it (.ref tp) i a es.size ep ∧ h.get? a = some (setObj es ep t) ∧ ∃ o k, h.get? tp = some o ∧ o.data = .seq (places.map fun j => rawInt (j : Nat)).toArray k) where
  ws := {
    sub := fun b hb => by simp at hb; simp [hb]
    frame := fun _ _ _ ⟨st, st2, o, k, e, d⟩ hk => ⟨st.at fun o e => hk it (by simp) o e, hk a (by simp) _ st2, o, k, hk tp (by simp) _ e, d⟩
    item := fun i s Q E hi st hQ => by
      have hlt : i < places.length := by simpa using hi
      have hps := hp _ (List.getElem_mem hlt)
      obtain ⟨st1, st2, o, k, e, d⟩ := st
      refine si_next_d (p := places[i]) (x := es[places[i]]) st1 st2 hf hne.symm hnt.symm ⟨o, k, e, d⟩ (by simp [hlt]) (by simp [hps]) fun h' hit sb => ?_
      exact hQ _ h' s.toks (by simp [hlt, hps]) ⟨hit, (sb.2 a hne).trans st2, o, k, (sb.2 tp hnt).trans e, d⟩ fun b o hb e => (sb.2 b (by simpa using hb)).trans e
    done := fun s Q E st hQ => by
      obtain ⟨st1, st2, o, k, e, d⟩ := st
      rw [List.length_map] at st1
      refine si_end_d hh st1 st2 hf ⟨o, k, e, d⟩ (by simp) fun h' eb => ?_
      exact hQ h' s.toks fun b o hb e => eb b o (by simpa using hb) e
    self := fun _ _ _ _ st hQ => si_self st.1 hQ slot_si_iter entry_si_iter (args_si_iter _) }
  ty := fun _ _ st => st.1.typeIs
end
end L2
namespace L2
open PySem
theorem map_range_get {α : Type} (es : Array α) (d : α) : (List.range es.size).map (fun p => (es[p]?).getD d) = es.toList := by
  apply List.ext_getElem
  · simp
  · intro i h1 h2
    simp at h1 h2 ⊢
    simp [h1]
section
variable {prog : Program} {w : World} {A A₂ : Around} {E : Value → Shared → Prop} {s : Shared} {a it : Addr} {es : Array (Int × Value)} {ep i n : Nat} {t : SetTable}
theorem setObj_ty (ha : s.heap.get? a = some (setObj es ep t)) : s.TypeIs (.ref a) "set" := ⟨_, ha, rfl⟩
theorem iter_set (hh : A₂.handled = none) (ha : s.heap.get? a = some (setObj es ep t)) (hf : t.fits es.size = true) (ht : Tb w t es.size) (hb : es.size ≤ sizeLine) {Q : Value → Shared → Prop}
    (h : ∀ it h' d fp ord St, SetWalk prog w A₂ it fp ord St → ord.Perm (es.toList.map (·.2)) → St 0 h' → (∀ b o, s.heap.get? b = some o → h'.get? b = some o) → (∀ b ∈ fp, (b = a ∨ s.heap.objs.size ≤ b) ∧ b < h'.objs.size) → it ∈ fp → it ≠ a →
      Q (.ref it) { s with heap := h', drawn := d }) : wpAny (model prog w) A (pyIter (.ref a)) Q E s := by
  have hT := setObj_ty ha
  have hlt : a < s.heap.objs.size := Heap.lt_size ha
  refine wpAny_pyIter_slot hT F.slot_set_iter (wpAny_call_entry F.slot_set_iter hT entry_s_iter ?_ (F.args_set_iter_1 _))
  unfold Builtin.«frozenset.__iter__»
  refine wpAny_bind (m := Builtin.Frozenset.slot0 _ _) (wpAny_pure ?_)
  refine wpAny_bind ?_
  show wpAny _ _ (do return (← setEntries a).size) _ _ s
  refine wpAny_bind (wpAny_setEntries_of ha rfl hf (wpAny_pure ?_))
  refine wpAny_bind ?_
  unfold setDrawn
  refine wpAny_bind (wpAny_setState_of ha rfl hf ?_)
  dsimp only
  refine wpAny_bind (byText_is (wpAny_pure ?_))
  have fin : ∀ (first : Value) (s1 : Shared), s1.heap.get? a = some (setObj es ep t) → (∀ (h2 : Q (.ref s1.heap.objs.size) { s1 with heap := s1.heap.push { cls := .type "set_iterator", data := .fields #[first, .int (0 : Nat) 0, .ref a, .int es.size 0, .int ep 0] } }),
      wpAny (model prog w) A.in1 (do ret (← newFields "set_iterator" [first, rawInt 0, .ref a, rawInt es.size, rawInt (← setEpoch a)])) (fun fin s' => ∃ v, fin = .done (.ret v) ∧ ∃ T' r, s'.TypeIs v T' ∧ typeLookup (.type T') "__next__" = pure (some r) ∧ Q v s') E s1) := fun first s1 h1 h2 => by
    refine wpAny_bind (wpAny_setEpoch_of h1 rfl hf ?_)
    refine wpAny_bind (wpAny_newObj_type (wpAny_pure ⟨_, rfl, "set_iterator", _, ⟨_, Heap.get?_push_size _ rfl, rfl⟩, slot_si_next.lookup, ?_⟩))
    exact h2
  by_cases hbt : w.params.followText "set-order" = true
  · rw [hbt, if_neg (by simp)]
    refine wpAny_bind (wpAny_pure (fin _ s ha ?_))
    have W := walk_text (prog := prog) (w := w) (A := A₂) (a := a) (it := s.heap.objs.size) (es := es) (ep := ep) (t := t) hh (Nat.ne_of_lt hlt) hbt hf
    refine h _ (s.heap.push _) s.drawn _ _ _ W ?_ ⟨⟨_, Heap.get?_push_size _ rfl, rfl, rfl⟩, Heap.get?_push_of_some _ ha⟩ (fun b o e => Heap.get?_push_of_some _ e) (fun b hb => ?_) (by simp) (Nat.ne_of_gt hlt)
    · exact (pick_perm _ es).map _
    · rw [Heap.size_push]
      simp at hb
      rcases hb with rfl | rfl
      · exact ⟨.inr (Nat.le_refl _), Nat.lt_succ_self _⟩
      · exact ⟨.inl rfl, Nat.lt_succ_of_lt hlt⟩
  · have hbf : w.params.followText "set-order" = false := by simpa using hbt
    rw [hbf]
    have hled : t.led = true := by rw [ht.1, hbf]; rfl
    show wpAny _ _ (if (!false && (!t.plain && decide (es.size > 1))) = true then _ else _) _ _ s
    by_cases h1 : es.size ≤ 1
    · have e0 : (!false && (!t.plain && decide (es.size > 1))) = false := by rw [decide_eq_false (by omega)]; simp
      rw [if_neg (by rw [e0]; exact Bool.false_ne_true)]
      refine wpAny_bind (wpAny_pure (fin _ s ha ?_))
      have W := walk_few (prog := prog) (w := w) (A := A₂) (a := a) (it := s.heap.objs.size) (es := es) (ep := ep) (t := t) hh (Nat.ne_of_lt hlt) hbf hled h1 hf
      refine h _ (s.heap.push _) s.drawn _ _ _ W (.refl _) ⟨⟨0, ⟨_, Heap.get?_push_size _ rfl, rfl, rfl⟩, fun _ => rfl, fun z => by omega⟩, Heap.get?_push_of_some _ ha⟩ (fun b o e => Heap.get?_push_of_some _ e) (fun b hb => ?_) (by simp) (Nat.ne_of_gt hlt)
      rw [Heap.size_push]
      simp at hb
      rcases hb with rfl | rfl
      · exact ⟨.inr (Nat.le_refl _), Nat.lt_succ_self _⟩
      · exact ⟨.inl rfl, Nat.lt_succ_of_lt hlt⟩
    · have e0 : (!false && (!t.plain && decide (es.size > 1))) = true := by rw [decide_eq_true (by omega), ht.2 (by omega)]; rfl
      rw [if_pos e0]
      refine wpAny_bind (order_any es.size (List.range es.size) s _ (by simp) fun ys d hp => ?_)
      unfold newTuple
      refine wpAny_bind (wpAny_newObj_type ?_ ?hs)
      case hs =>
        show (List.map (fun (i : Nat) => rawInt i) ys).toArray.size ≤ sizeLine
        have := hp.length_eq
        simp at this ⊢
        omega
      refine fin (.ref s.heap.objs.size) _ (Heap.get?_push_of_some _ ha) ?_
      have hys : ∀ p ∈ ys, p < es.size := fun p hm => by simpa using hp.mem_iff.mp hm
      have W := walk_drawn (prog := prog) (w := w) (A := A₂) (a := a) (it := (s.heap.push { cls := .type "tuple", data := .seq (List.map (fun (i : Nat) => rawInt i) ys).toArray }).objs.size) (tp := s.heap.objs.size) (es := es) (ep := ep) (t := t) (places := ys) hh
        (by rw [Heap.size_push]; exact Nat.ne_of_lt (Nat.lt_succ_of_lt hlt)) (by rw [Heap.size_push]; exact Nat.ne_of_lt (Nat.lt_succ_self _)) hf hys
      refine h _ _ d _ _ _ W ?_ ⟨⟨_, Heap.get?_push_size _ rfl, rfl, rfl⟩, Heap.get?_push_of_some _ (Heap.get?_push_of_some _ ha), _, 0, Heap.get?_push_of_some _ (Heap.get?_push_size _ rfl), rfl⟩ (fun b o e => Heap.get?_push_of_some _ (Heap.get?_push_of_some _ e)) (fun b hb => ?_) (by simp) (by rw [Heap.size_push]; exact Nat.ne_of_gt (Nat.lt_succ_of_lt hlt))
      · have q := hp.map (fun p => ((es[p]?).getD (0, .none)).2)
        have e1 : (List.range es.size).map (fun p => ((es[p]?).getD (0, .none)).2) = es.toList.map (·.2) := by
          have := congrArg (List.map (·.2)) (map_range_get es (0, Value.none))
          rw [List.map_map] at this
          exact this
        rw [e1] at q
        exact q
      · rw [Heap.size_push, Heap.size_push]
        simp at hb
        rcases hb with rfl | rfl | rfl
        · exact ⟨.inr (Nat.le_succ _), Nat.lt_succ_self _⟩
        · exact ⟨.inl rfl, Nat.lt_succ_of_lt (Nat.lt_succ_of_lt hlt)⟩
        · exact ⟨.inr (Nat.le_refl _), Nat.lt_succ_of_lt (Nat.lt_succ_self _)⟩
end
end L2
namespace L2
open PySem
theorem split_s_len : splitId "set.__len__" = some ("set", "__len__") := by kernel_rfl
theorem sub_s_s : isSubtype (.type "set") (.type "set") = pure true := by rw [isSubtype_type]; kernel_rfl
section
variable {prog : Program} {w : World} {A A₂ : Around} {E : Value → Shared → Prop} {s : Shared} {a it : Addr} {es : Array (Int × Value)} {ep i n : Nat} {t : SetTable}
theorem hint_set {Q : Bool → Shared → Prop} (ha : s.heap.get? a = some (setObj es ep t)) (h : Q false s) : wpAny (model prog w) A (Builtin.List.listLengthHint (.ref a)) Q E s := by
  unfold Builtin.List.listLengthHint
  have hT := setObj_ty ha
  refine wpAny_bind (wpAny_specialOf hT F.slot_set_len.lookup ?_)
  dsimp only
  rw [split_s_len]
  dsimp only
  refine wpAny_bind (wpAny_isInstance hT sub_s_s ?_)
  rw [if_neg (by simp)]
  show wpAny (model prog w) A (if true = true then _ else _) Q E s
  rw [if_pos rfl]
  refine wpAny_bind (wpAny_typeOf hT ?_)
  exact wpAny_pure h
theorem collect_set {Q : List Value → Shared → Prop} (hh : A.handled = none) (ha : s.heap.get? a = some (setObj es ep t)) (hf : t.fits es.size = true) (ht : Tb w t es.size) (hb : es.size ≤ sizeLine)
    (h : ∀ vs h' d tk, vs.Perm (es.toList.map (·.2)) → (∀ b o, s.heap.get? b = some o → h'.get? b = some o) → s.heap.objs.size ≤ h'.objs.size → Q vs { s with heap := h', drawn := d, toks := tk }) : wpAny (model prog w) A (collect (.ref a)) Q E s := by
  have hlt : a < s.heap.objs.size := Heap.lt_size ha
  unfold collect
  refine wpAny_bind (wpAny_runValue (codeAny_builtin F.entry_proto_collect ?_))
  rw [Around.under_plainId F.plain_proto_collect _]
  show wpAny _ A.in1 (newList [] >>= fun l => again (.builtin "list.__iadd__" ⟨[l, .ref a], []⟩)) _ _ s
  refine wpAny_bind (wpAny_newObj_type ?_)
  refine wpAny_pure ⟨plainId_quiet F.plain_list_iadd _, codeAny_builtin F.entry_list_iadd ?_⟩
  rw [Around.under_plainId F.plain_list_iadd _]
  generalize hN : s.heap.objs.size = S at *
  have g0 : (s.heap.push { cls := .type "list", data := .seq ([] : List Value).toArray }).get? S = some { cls := .type "list", data := .seq ([] : List Value).toArray } := hN ▸ Heap.get?_push_size _ rfl
  have kp0 : ∀ b o, s.heap.get? b = some o → (s.heap.push { cls := .type "list", data := .seq ([] : List Value).toArray }).get? b = some o := fun b o e => Heap.get?_push_of_some _ e
  have z0 : (s.heap.push { cls := .type "list", data := .seq ([] : List Value).toArray }).objs.size = S + 1 := by rw [Heap.size_push, hN]
  generalize s.heap.push { cls := .type "list", data := .seq ([] : List Value).toArray } = h0 at g0 kp0 z0 ⊢
  show wpAny _ A.in1 (Builtin.List.listExtendWith (.ref S) (.ref a) (.ref S)) _ _ _
  unfold Builtin.List.listExtendWith
  have hT0 : Shared.TypeIs { s with heap := h0 } (.ref a) "set" := ⟨_, kp0 _ _ ha, rfl⟩
  refine wpAny_bind (wpAny_typeOf hT0 ?_)
  have h1 : Builtin.List.listSameRef (.ref S) (.ref a) = false := by
    simp [Builtin.List.listSameRef]
    exact Nat.ne_of_gt hlt
  have h2 : (Value.type "set" == Value.type "list") = false := by decide
  have h3 : (Value.type "set" == Value.type "tuple") = false := by decide
  simp only [h1, h2, h3, Bool.or_false, Bool.false_eq_true, if_false]
  refine wpAny_bind (iter_set (A₂ := A.in1) (by simpa using hh) (show (Shared.heap { s with heap := h0 }).get? a = _ from kp0 _ _ ha) hf ht hb fun it h' d fp ord St W hp st kp fpo hit hia => ?_)
  have hz : ord.length = es.size := by
    have := hp.length_eq
    simpa using this
  have ha' : h'.get? a = some (setObj es ep t) := kp _ _ (kp0 _ _ ha)
  have gS : h'.get? S = some { cls := .type "list", data := .seq ([] : List Value).toArray } := kp _ _ g0
  have hSf : S ∉ fp := fun hm => by
    rcases (fpo S hm).1 with e | e
    · exact Nat.ne_of_gt hlt e
    · have e : S + 1 ≤ S := z0 ▸ e
      exact Nat.not_succ_le_self _ e
  refine wpAny_bind (wpAny_holding (hint_set ha' ?_))
  show wpAny _ A.in1 (if (false || _) = true then _ else _) _ _ _
  rw [if_pos (by first | rfl | decide)]
  refine wpAny_bind (wpAny_rule ?_)
  refine wpAny_bind ?_
  show wpAny _ A.in1 (updateSeq S (·.push .none) >>= fun _ => updateSeq S (·.pop)) _ _ _
  refine wpAny_bind (wpAny_updateSeq gS rfl ?_)
  have gS2 := Heap.get?_update_self (Obj.mapSeq (·.push Value.none)) gS rfl
  refine wpAny_updateSeq gS2 rfl ?_
  have gS3 := Heap.get?_update_self (Obj.mapSeq (·.pop)) gS2 rfl
  have oth : ∀ b o, b ≠ S → h'.get? b = some o → ((h'.update S (Obj.mapSeq (·.push Value.none))).update S (Obj.mapSeq (·.pop))).get? b = some o :=
    fun b o hb e => (Heap.get?_update_other _ _ (Ne.symm hb)).trans ((Heap.get?_update_other _ _ (Ne.symm hb)).trans e)
  generalize (h'.update S (Obj.mapSeq (·.push Value.none))).update S (Obj.mapSeq (·.pop)) = h3 at gS3 oth ⊢
  refine wpAny_pure ⟨plainId_quiet F.plain_extend_loop _, codeAny_extend_loopS W.ws.toS (by omega) S hSf _ ord.length 0 _ _ _ rfl (Nat.zero_le _)
    (W.ws.frame 0 h' h3 st fun b hb o e => oth b o (fun z => hSf (z ▸ hb)) e) gS3 (ItemsOf.nil _) fun s' acc' c' hm hS' hacc => ?_⟩
  show wpAny _ A (load S >>= _) _ _ s'
  refine wpAny_bind (wpAny_load hS' ?_)
  refine wpAny_pure ?_
  obtain ⟨h4, g4, d4, t4, o4⟩ := s'
  have eg : g4 = s.gens := hm.gens
  have ed : d4 = d := hm.drawn
  have eo : o4 = s.os := hm.os
  subst eg ed eo
  have ev : acc'.toList = ord := by
    apply List.ext_getElem?
    intro j
    by_cases hj : j < acc'.size
    · have := hacc.2 j acc'[j] (by simp [hj])
      rw [this]
      simp [hj]
    · have e1 : acc'.toList[j]? = none := by simp; omega
      have e2 : ord[j]? = none := by
        have := hacc.1
        simp
        omega
      rw [e1, e2]
  rw [ev]
  refine h ord h4 d4 t4 hp (fun b o e => ?_) (Nat.le_of_lt (Heap.lt_size hS'))
  have hbS : b ≠ S := Nat.ne_of_lt (hN ▸ Heap.lt_size e)
  have hbi : b ≠ it := fun z => by
    subst z
    rcases (fpo b hit).1 with e2 | e2
    · exact hia e2
    · have e2 : S + 1 ≤ b := z0 ▸ e2
      have e3 : b < S := hN ▸ Heap.lt_size e
      exact Nat.lt_irrefl _ (Nat.lt_of_lt_of_le e3 (Nat.le_of_succ_le e2))
  exact hm.heap b o (by simp [hbS, hbi]) (oth b o hbS (kp _ _ (kp0 _ _ e)))
end
end L2
namespace L2
open PySem
noncomputable def txKind (prog : Program) (w : World) : KeyKind prog w Str where
  is := Value.isStrOf
  hash := hashStr w
  inj := Value.isStrOf_inj
  byValue := fun k v h => by obtain ⟨t, rfl⟩ := Value.isStrOf_shape h; rfl
  pyHash := fun hv h => by obtain ⟨t, rfl⟩ := Value.isStrOf_shape hv; exact wpAny_pyHash_str h
  eqBool := fun hu hv h => by
    obtain ⟨t, rfl⟩ := Value.isStrOf_shape hu
    obtain ⟨u, rfl⟩ := Value.isStrOf_shape hv
    exact wpAny_eqBool_str h
  «strs» := fun k x t v h => by
    obtain ⟨u, e⟩ := Value.isStrOf_shape h
    cases e
    cases v <;> rfl
noncomputable def txOf : Value → Str
  | .str x _ => x
  | _ => ⟨#[]⟩
noncomputable def TxSet (w : World) (h : Heap) (a : Addr) (xs : List Str) : Prop :=
  ∃ es ep t, h.get? a = some (setObj es ep t) ∧ (∀ e ∈ es.toList, ∃ y u, e = (hashStr w y, Value.str y u)) ∧ es.toList.map (fun e => txOf e.2) = xs ∧ xs.Nodup ∧ es.size < scanBound ∧ t.fits es.size = true ∧ Tb w t es.size
theorem TxSet.at {w : World} {h h' : Heap} {a : Addr} {xs : List Str} (x : TxSet w h a xs) (e : ∀ o, h.get? a = some o → h'.get? a = some o) : TxSet w h' a xs :=
  let ⟨es, ep, t, g, r⟩ := x; ⟨es, ep, t, e _ g, r⟩
section
variable {prog : Program} {w : World} {A : Around} {E : Value → Shared → Prop} {s : Shared} {a : Addr}
theorem add_tx {xs : List Str} {y : Str} {tk : Tok} {Q : Bool → Shared → Prop} (hx : TxSet w s.heap a xs) (hb : xs.length + 1 < scanBound)
    (h1 : y ∈ xs → Q false s) (h2 : y ∉ xs → ∀ h' xs', Heap.SameBut a s.heap h' → xs'.Perm (xs ++ [y]) → TxSet w h' a xs' → Q true { s with heap := h' }) : wpAny (model prog w) A (setAddHashed a (.str y tk) (hashStr w y)) Q E s := by
  obtain ⟨es, ep, t, g, hel, hxs, hnd, hsz, hf, ht⟩ := hx
  have hl : xs.length = es.size := by rw [← hxs]; simp
  have hE : ElemsOf (txKind prog w) es.toList := fun e he => by
    obtain ⟨z, u, rfl⟩ := hel e he
    exact ⟨⟨z, by show Value.isStrOf z (.str z u) = true; simp [Value.isStrOf], rfl⟩, rfl⟩
  have his : ∀ e ∈ es.toList, ((txKind prog w).is y e.2 = true ↔ txOf e.2 = y) := fun e he => by
    obtain ⟨z, u, rfl⟩ := hel e he
    constructor
    · intro q
      obtain ⟨u', q'⟩ := Value.isStrOf_shape (show Value.isStrOf y (.str z u) = true from q)
      cases q'
      rfl
    · intro q
      have q : z = y := q
      subst q
      show Value.isStrOf z (.str z u) = true
      simp [Value.isStrOf]
  refine add_text (knd := txKind prog w) (k := y) (by show Value.isStrOf y (.str y tk) = true; simp [Value.isStrOf]) g ⟨rfl, rfl, rfl⟩ rfl hE (by omega) hf ht (fun ⟨e, he, q⟩ => h1 ?_) fun hno h' es' t' ep' sb g' hp hf' ht' => h2 ?_ h' (es'.toList.map fun e => txOf e.2) sb ?_ ⟨es', ep', t', g', ?_, rfl, ?_, ?_, hf', ht'⟩
  · rw [← hxs]
    exact List.mem_map.mpr ⟨e, he, (his e he).mp q⟩
  · intro hm
    rw [← hxs] at hm
    obtain ⟨e, he, q⟩ := List.mem_map.mp hm
    have := hno e he
    rw [(his e he).mpr q] at this
    cases this
  · have q := hp.map fun e => txOf e.2
    rw [List.map_append, hxs] at q
    exact q
  · intro e he
    rcases List.mem_append.mp (hp.mem_iff.mp he) with q | q
    · exact hel e q
    · rw [List.mem_singleton] at q
      exact ⟨y, tk, q⟩
  · have q := hp.map fun e => txOf e.2
    rw [List.map_append, hxs] at q
    refine q.nodup_iff.mpr (List.nodup_append.mpr ⟨hnd, by simp, fun z hz z' hz' => ?_⟩)
    have hz' : z' = y := by simpa [txOf] using hz'
    subst hz'
    rintro rfl
    rw [← hxs] at hz
    obtain ⟨e, he, q⟩ := List.mem_map.mp hz
    have := hno e he
    rw [(his e he).mpr q] at this
    cases this
  · have := hp.length_eq
    simp at this
    omega
end
section
variable {prog : Program} {w : World} {A : Around} {R : Result → Shared → Prop} {I : Addr} {fp wr : List Addr} {G : Array GenState → Array GenState → Prop} {n : Nat} {P : Nat → Value → Prop} {St : Nat → Shared → Prop}
theorem entry_su_loop : entryFor table "set.update.loop" = some Builtin.«set.update.loop» := entryFor_of_tree (by kernel_rfl)
theorem plain_su_loop : plainId "set.update.loop" = true := by decide +kernel
theorem fill_tx (W : WalksS prog w A.in1 I fp wr G n P St) (S : Addr) (hSf : S ∉ fp) (val : Nat → Str) (hval : ∀ i v, P i v → ∃ t, v = .str (val i) t) (hb : n + 1 < scanBound) :
    ∀ (k i : Nat) (s : Shared) (xs : List Str), n - i = k → i ≤ n → St i s → TxSet w s.heap S xs → xs.length ≤ i → (∀ z, z ∈ xs ↔ ∃ j, j < i ∧ val j = z) →
      (∀ s' xs', Moved (S :: wr) G s s' → TxSet w s'.heap S xs' → (∀ z, z ∈ xs' ↔ ∃ j, j < n ∧ val j = z) → R (.ok (.ret .none)) s') →
      codeAny (model prog w) A (.builtin "set.update.loop" ⟨[.ref S, .ref I], []⟩) R s := by
  have hSw : S ∉ wr := fun h => hSf (W.sub _ h)
  have sub : ∀ b ∈ wr, b ∈ S :: wr := fun b hb => List.mem_cons_of_mem _ hb
  intro k
  induction k with
  | zero =>
    intro i s xs hk hi hst hS hl hm hR
    have : i = n := by omega
    subst this
    refine codeAny_builtin entry_su_loop ?_
    rw [Around.under_plainId plain_su_loop _]
    show wpAny _ A.in1 (pyNext (.ref I) >>= _) _ _ s
    refine wpAny_bind (W.done s _ _ hst fun s' mv => wpAny_pure (hR s' xs (mv.mono sub) (hS.at fun o e => mv.heap S _ hSw e) hm))
  | succ k ih =>
    intro i s xs hk hi hst hS hl hm hR
    have hlt : i < n := by omega
    refine codeAny_builtin entry_su_loop ?_
    rw [Around.under_plainId plain_su_loop _]
    show wpAny _ A.in1 (pyNext (.ref I) >>= _) _ _ s
    refine wpAny_bind (W.item i s _ _ hlt hst fun v s' hP hst' mv => ?_)
    obtain ⟨tk, rfl⟩ := hval i v hP
    have hS' : TxSet w s'.heap S xs := hS.at fun o e => mv.heap S _ hSw e
    show wpAny _ A.in1 (holding [Value.str (val i) tk] (setAdd S (.str (val i) tk)) >>= _) _ _ s'
    refine wpAny_bind (wpAny_holding ?_)
    unfold setAdd
    refine wpAny_holding (wpAny_bind (wpAny_pyHash_str ?_))
    have go : ∀ (s2 : Shared) (xs2 : List Str), Moved (S :: wr) G s s2 → St (i + 1) s2 → TxSet w s2.heap S xs2 → xs2.length ≤ i + 1 → (∀ z, z ∈ xs2 ↔ z ∈ xs ∨ z = val i) → codeAny (model prog w) A (.builtin "set.update.loop" ⟨[.ref S, .ref I], []⟩) R s2 := fun s2 xs2 mv2 st2 t2 l2 m2 => by
      refine ih (i + 1) s2 xs2 (by omega) (by omega) st2 t2 l2 (fun z => ?_) fun s3 xs3 mv3 t3 m3 => hR s3 xs3 (Moved.trans W.gtrans mv2 mv3) t3 m3
      rw [m2, hm]
      constructor
      · rintro (⟨j, hj, e⟩ | rfl)
        · exact ⟨j, by omega, e⟩
        · exact ⟨i, by omega, rfl⟩
      · rintro ⟨j, hj, e⟩
        by_cases q : j < i
        · exact .inl ⟨j, q, e⟩
        · have : j = i := by omega
          subst this
          exact .inr e.symm
    refine add_tx (s := { s' with toks := s'.toks + 1 }) hS' (by omega) (fun hin => ?_) fun hout h' xs' sb hp ht => ?_
    · refine wpAny_pure ⟨plainId_quiet plain_su_loop _, go _ xs ((mv.mono sub).then_heap (Nat.le_succ _) fun b o _ e => e) ?_ hS' (by omega) fun z => ⟨.inl, fun q => q.elim id fun e => e ▸ hin⟩⟩
      exact W.frame _ s' _ _ hst' (Nat.le_succ _) fun b _ o e => e
    · refine wpAny_pure ⟨plainId_quiet plain_su_loop _, go _ xs' ((mv.mono sub).then_heap (Nat.le_succ _) fun b o hb e => ?_) ?_ ht ?_ fun z => ?_⟩
      · rw [sb.2 b (fun q : b = S => hb (by rw [q]; exact List.mem_cons_self))]; exact e
      · exact W.frame _ s' _ _ hst' (Nat.le_succ _) fun b hb o e => by rw [sb.2 b (fun q : b = S => hSf (by rw [← q]; exact hb))]; exact e
      · have := hp.length_eq
        simp at this
        omega
      · rw [hp.mem_iff]
        simp
end
end L2
namespace L2
open PySem
section
variable {prog : Program} {w : World} {A : Around} {E : Value → Shared → Prop} {s : Shared}
noncomputable abbrev newSetObj (w : World) : Obj := setObj #[] 0 (.fresh 0 0 (!(w.params.followText "set-order")))
theorem set_new1 (a : Value) {Q₁ : Value → Shared → Prop} (h : Q₁ (.ref s.heap.objs.size) { s with heap := s.heap.push (newSetObj w) }) :
    codeAny (model prog w) A (.call (.builtin "set.__new__") ⟨[.type "set", a], []⟩) (wants Q₁ E) s := by
  refine codeAny_of_tree ?_
  show wpAny _ A.in1 (checkBuiltinCall "set.__new__" ⟨[.type "set", a], []⟩ >>= fun _ => again (.builtin "set.__new__" ⟨[.type "set", a], []⟩)) _ _ s
  refine wpAny_bind (wpAny_of_eq (F.newCall_set_1 a) (wpAny_pure ⟨plainId_quiet F.plain_set_new _, codeAny_builtin F.entry_set_new ?_⟩))
  rw [Around.under_plainId F.plain_set_new _]
  unfold Builtin.«set.__new__» Builtin.Frozenset.newClass
  have hsub := sub_set_self
  obtain ⟨hp, g, d, tk, os⟩ := s
  dsimp only
  wp_walk
  refine wpAny_askSetting (wpAny_pure ?_)
  dsimp only
  simp only [newObj]
  exact wpAny_bind (wpAny_alloc (wpAny_pure (wpAny_pure h)))
theorem txset_new {h : Heap} {a : Addr} (g : h.get? a = some (newSetObj w)) : TxSet w h a [] :=
  ⟨#[], 0, _, g, fun e he => by simp at he, rfl, List.nodup_nil, by decide, rfl, rfl, fun z => absurd rfl z⟩
set_option maxRecDepth 100000 in
set_option maxHeartbeats 3200000 in
theorem set_texts {l : Addr} {items : Array Value} {xs : List Str} {Q : Value → Shared → Prop} (hh : A.handled = none) (hl : s.heap.IsList l items) (hi : ∀ (i : Nat) (v : Value), items[i]? = some v → ∃ t, v = .str (xs.getD i ⟨#[]⟩) t) (hlen : items.size = xs.length) (hb : xs.length + 1 < scanBound)
    (h : ∀ h' tk ys, TxSet w h' s.heap.objs.size ys → (∀ z, z ∈ ys ↔ z ∈ xs) → (∀ b o, b < s.heap.objs.size → s.heap.get? b = some o → h'.get? b = some o) → Q (.ref s.heap.objs.size) { s with heap := h', toks := tk }) :
    wpAny (model prog w) A (call (.type "set") [.ref l]) Q E s := by
  obtain ⟨c, tl, hmro⟩ := F.called_set.mro
  have hmade := F.called_set.made
  have hsub := F.called_set.sub
  refine wpAny_call (codeAny_of_tree ?_)
  show wpAny _ _ (callAny (.type "set") _) _ _ _
  refine wpAny_pure ⟨Code.quiet_builtin _ (by decide +kernel), codeAny_builtin F.entry_type_call ?_⟩
  rw [Around.under_plain (weight_type_call_type "set" [.ref l] []) rfl]
  have h1 := F.called_set.notType
  have h2 := F.called_set.canCreate
  have hct := F.typeCall_set_1 (.ref l)
  repeat (any_goals (first | assumption | wp_step))
  refine codeAny_mono (set_new1 (.ref l) (E := E) (Q₁ := fun obj s₁ => obj = .ref s.heap.objs.size ∧ s₁ = { s with heap := s.heap.push (newSetObj w) }) ⟨rfl, rfl⟩) fun r s₁ hr => ?_
  cases r with
  | error e => exact hr
  | ok fl =>
    cases fl with
    | ret obj =>
      obtain ⟨rfl, rfl⟩ := hr
      have hS : (s.heap.push (newSetObj w)).get? s.heap.objs.size = some (newSetObj w) := Heap.get?_push_size _ rfl
      have hT : Shared.TypeIs { s with heap := s.heap.push (newSetObj w) } (.ref s.heap.objs.size) "set" := ⟨_, hS, rfl⟩
      have hli := F.called_set.init.lookup
      have hbi := F.called_set.init.bind (.ref s.heap.objs.size)
      repeat (any_goals (first | assumption | wp_step))
      refine codeAny_mono (codeAny_call_builtin (R := wants (fun r s₂ => r = .none ∧ ∃ h' tk ys, s₂ = { s with heap := h', toks := tk } ∧ TxSet w h' s.heap.objs.size ys ∧ (∀ z, z ∈ ys ↔ z ∈ xs) ∧
          (∀ b o, b < s.heap.objs.size → s.heap.get? b = some o → h'.get? b = some o)) E) F.called_set.init.plain F.entry_set_init (check_set_init_1 hT ?_)) fun r₂ s₂ hr₂ => ?_
      · obtain ⟨ol, hol, hcl, nl, hdl⟩ := hl
        obtain ⟨ocls, odict, odata, oslots⟩ := ol
        simp only at hcl hdl
        subst hcl; subst hdl
        have hol' : (s.heap.push (newSetObj w)).get? l = some { cls := .type "list", dict := odict, data := .seq items nl, slots := oslots } := Heap.get?_push_of_some _ hol
        have hsls := F.sub_list_set
        have hslf := F.sub_list_frozenset
        have hne : (Value.type "list" == Value.type "dict") = false := by decide
        have hl1 : (s.heap.push (newSetObj w)).IsList l items := ⟨_, hol', rfl, nl, rfl⟩
        unfold Builtin.«set.__init__» noKeywords Builtin.Frozenset.updateFrom
        generalize hPI : pyIter = PI
        wp_walk
        subst hPI
        refine wpAny_pyIter_list hl1 ?_
        refine wpAny_bind (wpAny_runValue ?_)
        have hlS : l < s.heap.objs.size := Heap.lt_size hol
        have hh3 : A.in1.in1.in1.handled = none := by simp [hh]
        have zP : (s.heap.push (newSetObj w)).objs.size = s.heap.objs.size + 1 := Heap.size_push ..
        have hneI : l ≠ (s.heap.push (newSetObj w)).objs.size := by rw [zP]; exact Nat.ne_of_lt (Nat.lt_succ_of_lt hlS)
        have hSf : s.heap.objs.size ∉ [(s.heap.push (newSetObj w)).objs.size, l] := by
          rw [zP]
          simp only [List.mem_cons, List.not_mem_nil, or_false, not_or]
          exact ⟨Nat.ne_of_lt (Nat.lt_succ_self _), Nat.ne_of_gt hlS⟩
        refine fill_tx ((Walks.list hh3 _ l hneI items).toS) s.heap.objs.size hSf (fun i => xs.getD i ⟨#[]⟩) hi (by rw [hlen]; exact hb) (items.size - 0) 0 _ [] (by omega) (Nat.zero_le _)
          ⟨⟨_, Heap.get?_push_size _ rfl, rfl, rfl⟩, (hl1.push _)⟩ (txset_new (Heap.get?_push_of_some _ hS)) (Nat.le_refl _) (fun z => by simp) fun s' ys hm hS' hmem => ?_
        obtain ⟨h', g', d', tk', os'⟩ := s'
        have eg : g' = s.gens := hm.gens
        have ed : d' = s.drawn := hm.drawn
        have eo : os' = s.os := hm.os
        subst eg ed eo
        refine wpAny_pure ?_
        refine wpAny_pure ⟨rfl, h', tk', ys, rfl, hS', fun z => ?_, fun b o hb e => ?_⟩
        · rw [hmem, hlen]
          constructor
          · rintro ⟨j, hj, rfl⟩
            have : xs.getD j ⟨#[]⟩ = xs[j] := by simp [List.getD, hj]
            rw [this]
            exact List.getElem_mem hj
          · intro hz
            obtain ⟨j, hj, e⟩ := List.getElem_of_mem hz
            exact ⟨j, hj, by simp [List.getD, hj, e]⟩
        · have hb1 : b ≠ s.heap.objs.size := Nat.ne_of_lt hb
          have hb2 : b ≠ (s.heap.push (newSetObj w)).objs.size := by rw [zP]; exact Nat.ne_of_lt (Nat.lt_succ_of_lt hb)
          exact hm.heap b o (by simp only [List.mem_cons, List.not_mem_nil, or_false, not_or]; exact ⟨hb1, hb2⟩) (Heap.get?_push_of_some _ (Heap.get?_push_of_some _ e))
      · cases r₂ with
        | error e => exact hr₂
        | ok fl₂ =>
          cases fl₂ with
          | ret r =>
            obtain ⟨rfl, h', tk, ys, rfl, q1, q2, q3⟩ := hr₂
            repeat (any_goals (first | assumption | wp_step))
            exact h _ _ _ q1 q2 q3
          | _ => exact hr₂.elim
    | _ => exact hr.elim
end
end L2
namespace L2
open PySem PyProof.Rows
theorem strsAre_of : ∀ {vs : List Value} , (∀ v ∈ vs, ∃ y u, v = .str y u) → StrsAre vs (vs.map txOf)
  | [], _ => .nil
  | v :: vs, h => by
    obtain ⟨y, u, rfl⟩ := h v (List.mem_cons_self ..)
    exact .cons y u (strsAre_of fun x hx => h x (List.mem_cons_of_mem _ hx))
section
variable {prog : Program} {w : World} {A : Around} {E : Value → Shared → Prop} {s : Shared}
theorem sorted_col {a : Addr} {xs : List Str} {Q : Value → Shared → Prop} (h64 : xs.length < 64)
    (hc : ∀ (A' : Around) (Q' : List Value → Shared → Prop), A'.handled = A.handled → (∀ vs h' d tk, (∃ ss, StrsAre vs ss ∧ ss.Perm xs) → (∀ b o, s.heap.get? b = some o → h'.get? b = some o) → s.heap.objs.size ≤ h'.objs.size → Q' vs { s with heap := h', drawn := d, toks := tk }) → wpAny (model prog w) A' (collect (.ref a)) Q' E s)
    (h : ∀ h' d tk L its ys n, s.heap.objs.size ≤ L → StrsAre its ys → ys.Perm xs → sortedS ys = true → h'.get? L = some (seqObj "list" its.toArray n) → (∀ b o, s.heap.get? b = some o → h'.get? b = some o) → Q (.ref L) { s with heap := h', drawn := d, toks := tk }) :
    wpAny (model prog w) A (call (.builtin "sorted") [.ref a]) Q E s := by
  refine Calls.call_function_entry kind_sorted plain_sorted entry_sorted (args_sorted1 _) ?_
  unfold Builtin.«sorted»
  refine wpAny_bind (m := checkCount "sorted" 1 1 _) (wpAny_pure ?_)
  refine wpAny_bind (hc _ _ (by simp) fun vs h1 d tk ⟨ss, hS, hp⟩ kp hge => ?_)
  have hv : vs.length = xs.length := by rw [← hp.length_eq, ← hS.strs, List.length_map]
  refine wpAny_bind (wpAny_newList ?_ (by rw [sizeLine_eq]; omega))
  have g0 : (h1.push (seqObj "list" vs.toArray 0)).get? h1.objs.size = some (seqObj "list" vs.toArray 0) := Heap.get?_push_size _ rfl
  show wpAny _ _ _ _ _ { s with heap := h1.push (seqObj "list" vs.toArray 0), drawn := d, toks := tk }
  refine wpAny_bind (wpAny_holding (wpAny_call_entry slot_list_sort ⟨_, g0, rfl⟩ entry_list_sort (list_sort_treeK strKind_oneLt g0 hS.keysOf (fun v₁ v₂ rest e => keyKind_strs (by rw [← e]; exact hS)) (by omega) fun st' a1 a2 => ⟨_, rfl, ?_⟩) (args_list_sort _)))
  refine wpAny_pure ⟨_, rfl, ?_⟩
  obtain ⟨ys, q1, q2, q3⟩ := sorted_out_str hS a1 a2
  obtain ⟨e, he⟩ := sortedHeap_at (vs := vs) (out := (arrOf st').map (·.2)) g0
  refine h _ d tk h1.objs.size _ ys e hge q1 (q2.trans hp) q3 (by rw [Array.toArray_toList]; exact he) fun b o eb => ?_
  have hb1 := Heap.lt_size (kp b o eb)
  rw [sortedHeap_old (Nat.ne_of_lt hb1) (by rw [size_push']; exact Nat.lt_succ_of_lt hb1)]
  exact Heap.get?_push_of_some _ (kp b o eb)
theorem sorted_tx {a : Addr} {xs : List Str} {Q : Value → Shared → Prop} (hh : A.handled = none) (hx : TxSet w s.heap a xs) (h64 : xs.length < 64)
    (h : ∀ h' d tk L its ys n, s.heap.objs.size ≤ L → StrsAre its ys → ys.Perm xs → sortedS ys = true → h'.get? L = some (seqObj "list" its.toArray n) → (∀ b o, s.heap.get? b = some o → h'.get? b = some o) → Q (.ref L) { s with heap := h', drawn := d, toks := tk }) :
    wpAny (model prog w) A (call (.builtin "sorted") [.ref a]) Q E s := by
  refine sorted_col h64 (fun A' Q' hA q => ?_) h
  obtain ⟨es, ep, t, g, hel, hxs, hnd, hsz, hf, ht⟩ := hx
  refine collect_set (hA.trans hh) g hf ht (fits_of_scanBound hsz) fun vs h' d tk hp kp hge => q vs h' d tk ⟨_, strsAre_of fun v hv => ?_, ?_⟩ kp hge
  · obtain ⟨e, he, rfl⟩ := List.mem_map.mp (hp.mem_iff.mp hv)
    obtain ⟨y, u, rfl⟩ := hel e he
    exact ⟨y, u, rfl⟩
  · have := hp.map txOf
    rw [List.map_map] at this
    rw [← hxs]
    exact this
end
end L2
namespace L2
open PySem PyProof.Rows
theorem split_d_len : splitId "dict.__len__" = some ("dict", "__len__") := by kernel_rfl
theorem sub_d_d : isSubtype (.type "dict") (.type "dict") = pure true := by rw [isSubtype_type]; kernel_rfl
section
variable {prog : Program} {w : World} {K : Type} [DecidableEq K] {knd : KeyKind prog w K} {A A₂ : Around} {E : Value → Shared → Prop} {s : Shared} {a it : Addr} {kvs : List (K × Value)} {ep : Nat}
theorem hint_dict {Q : Bool → Shared → Prop} (hT : s.TypeIs (.ref a) "dict") (h : Q false s) : wpAny (model prog w) A (Builtin.List.listLengthHint (.ref a)) Q E s := by
  unfold Builtin.List.listLengthHint
  refine wpAny_bind (wpAny_specialOf hT F.slot_dict_len.lookup ?_)
  dsimp only
  rw [split_d_len]
  dsimp only
  refine wpAny_bind (wpAny_isInstance hT sub_d_d ?_)
  rw [if_neg (by simp)]
  show wpAny (model prog w) A (if true = true then _ else _) Q E s
  rw [if_pos rfl]
  refine wpAny_bind (wpAny_typeOf hT ?_)
  exact wpAny_pure h
theorem collect_keys {Q : List Value → Shared → Prop} (hh : A.handled = none) (hd : (a == sysModules) = false) (hm : s.heap.DictAt knd a kvs ep) (hb : kvs.length ≤ sizeLine)
    (h : ∀ vs h' tk, vs.length = kvs.length → (∀ (i : Nat) (v : Value), vs[i]? = some v → ∃ k x, kvs[i]? = some (k, x) ∧ knd.is k v = true) → (∀ b o, s.heap.get? b = some o → h'.get? b = some o) → s.heap.objs.size ≤ h'.objs.size → Q vs { s with heap := h', toks := tk }) :
    wpAny (model prog w) A (collect (.ref a)) Q E s := by
  have hlt : a < s.heap.objs.size := hm.lt_size
  unfold collect
  refine wpAny_bind (wpAny_runValue (codeAny_builtin F.entry_proto_collect ?_))
  rw [Around.under_plainId F.plain_proto_collect _]
  show wpAny _ A.in1 (newList [] >>= fun l => again (.builtin "list.__iadd__" ⟨[l, .ref a], []⟩)) _ _ s
  refine wpAny_bind (wpAny_newObj_type ?_)
  refine wpAny_pure ⟨plainId_quiet F.plain_list_iadd _, codeAny_builtin F.entry_list_iadd ?_⟩
  rw [Around.under_plainId F.plain_list_iadd _]
  generalize hN : s.heap.objs.size = S at *
  have g0 : (s.heap.push { cls := .type "list", data := .seq ([] : List Value).toArray }).get? S = some { cls := .type "list", data := .seq ([] : List Value).toArray } := hN ▸ Heap.get?_push_size _ rfl
  have kp0 : ∀ b o, s.heap.get? b = some o → (s.heap.push { cls := .type "list", data := .seq ([] : List Value).toArray }).get? b = some o := fun b o e => Heap.get?_push_of_some _ e
  have z0 : (s.heap.push { cls := .type "list", data := .seq ([] : List Value).toArray }).objs.size = S + 1 := by rw [Heap.size_push, hN]
  generalize s.heap.push { cls := .type "list", data := .seq ([] : List Value).toArray } = h0 at g0 kp0 z0 ⊢
  have hm0 : h0.DictAt knd a kvs ep := hm.keep kp0
  show wpAny _ A.in1 (Builtin.List.listExtendWith (.ref S) (.ref a) (.ref S)) _ _ _
  unfold Builtin.List.listExtendWith
  have hT0 : Shared.TypeIs { s with heap := h0 } (.ref a) "dict" := hm0.dictOf.typeIs
  refine wpAny_bind (wpAny_typeOf hT0 ?_)
  have h1 : Builtin.List.listSameRef (.ref S) (.ref a) = false := by
    simp [Builtin.List.listSameRef]
    exact Nat.ne_of_gt hlt
  have h2 : (Value.type "dict" == Value.type "list") = false := by decide
  have h3 : (Value.type "dict" == Value.type "tuple") = false := by decide
  simp only [h1, h2, h3, Bool.or_false, Bool.false_eq_true, if_false]
  refine wpAny_bind (wpAny_pyIter_dict (s := { s with heap := h0 }) hd hm0 ?_)
  have hni : a ≠ h0.objs.size := by rw [z0]; exact Nat.ne_of_lt (Nat.lt_succ_of_lt hlt)
  have W := Walks.dictKeys (prog := prog) (w := w) (knd := knd) (A := A.in1) (by simpa using hh) h0.objs.size a hni kvs ep
  have st : (h0.push { cls := .type "dict_keyiterator", data := .fields #[.ref a, .int (0 : Nat) 0, .int kvs.length 0, .int ep 0] }).IsKeyIter h0.objs.size a 0 kvs.length ep ∧
      (h0.push { cls := .type "dict_keyiterator", data := .fields #[.ref a, .int (0 : Nat) 0, .int kvs.length 0, .int ep 0] }).DictAt knd a kvs ep := ⟨⟨_, Heap.get?_push_size _ rfl, rfl, rfl⟩, hm0.push _⟩
  have kp1 : ∀ b o, h0.get? b = some o → (h0.push { cls := .type "dict_keyiterator", data := .fields #[.ref a, .int (0 : Nat) 0, .int kvs.length 0, .int ep 0] }).get? b = some o := fun b o e => Heap.get?_push_of_some _ e
  show wpAny _ A.in1 _ _ _ { s with heap := h0.push { cls := .type "dict_keyiterator", data := .fields #[.ref a, .int (0 : Nat) 0, .int kvs.length 0, .int ep 0] } }
  generalize h0.push { cls := .type "dict_keyiterator", data := .fields #[.ref a, .int (0 : Nat) 0, .int kvs.length 0, .int ep 0] } = h' at st kp1 ⊢
  have gS : h'.get? S = some { cls := .type "list", data := .seq ([] : List Value).toArray } := kp1 _ _ g0
  have hSf : S ∉ [h0.objs.size, a] := by
    rw [z0]
    simp only [List.mem_cons, List.not_mem_nil, or_false, not_or]
    exact ⟨Nat.ne_of_lt (Nat.lt_succ_self _), Nat.ne_of_gt hlt⟩
  refine wpAny_bind (wpAny_holding (hint_dict (show Shared.TypeIs { s with heap := h' } (.ref a) "dict" from st.2.dictOf.typeIs) ?_))
  show wpAny _ A.in1 (if (false || _) = true then _ else _) _ _ _
  rw [if_pos (by first | rfl | decide)]
  refine wpAny_bind (wpAny_rule ?_)
  refine wpAny_bind ?_
  show wpAny _ A.in1 (updateSeq S (·.push .none) >>= fun _ => updateSeq S (·.pop)) _ _ _
  refine wpAny_bind (wpAny_updateSeq gS rfl ?_)
  have gS2 := Heap.get?_update_self (Obj.mapSeq (·.push Value.none)) gS rfl
  refine wpAny_updateSeq gS2 rfl ?_
  have gS3 := Heap.get?_update_self (Obj.mapSeq (·.pop)) gS2 rfl
  have oth : ∀ b o, b ≠ S → h'.get? b = some o → ((h'.update S (Obj.mapSeq (·.push Value.none))).update S (Obj.mapSeq (·.pop))).get? b = some o :=
    fun b o hb e => (Heap.get?_update_other _ _ (Ne.symm hb)).trans ((Heap.get?_update_other _ _ (Ne.symm hb)).trans e)
  generalize (h'.update S (Obj.mapSeq (·.push Value.none))).update S (Obj.mapSeq (·.pop)) = h3 at gS3 oth ⊢
  refine wpAny_pure ⟨plainId_quiet F.plain_extend_loop _, codeAny_extend_loopS W.toS hb S hSf _ kvs.length 0 _ _ _ rfl (Nat.zero_le _)
    (W.frame 0 h' h3 st fun b hb o e => oth b o (fun z => hSf (z ▸ hb)) e) gS3 (ItemsOf.nil _) fun s' acc' c' mv hS' hacc => ?_⟩
  show wpAny _ A (load S >>= _) _ _ s'
  refine wpAny_bind (wpAny_load hS' ?_)
  refine wpAny_pure ?_
  obtain ⟨h4, g4, d4, t4, o4⟩ := s'
  have eg : g4 = s.gens := mv.gens
  have ed : d4 = s.drawn := mv.drawn
  have eo : o4 = s.os := mv.os
  subst eg ed eo
  refine h acc'.toList h4 t4 (by rw [Array.length_toList]; exact hacc.1) (fun i v hv => hacc.2 i v (by simpa using hv)) (fun b o e => ?_) (Nat.le_of_lt (Heap.lt_size hS'))
  have hbS : b < S := hN ▸ Heap.lt_size e
  exact mv.heap b o (by
    rw [z0]
    simp only [List.mem_cons, List.not_mem_nil, or_false, not_or]
    exact ⟨Nat.ne_of_lt hbS, Nat.ne_of_lt (Nat.lt_succ_of_lt hbS)⟩) (oth b o (Nat.ne_of_lt hbS) (kp1 _ _ (kp0 _ _ e)))
end
end L2
namespace L2
open PySem PyProof.Rows
section
variable {prog : Program} {w : World} {A : Around} {E : Value → Shared → Prop} {s : Shared}
variable {K : Type} [DecidableEq K] {knd : KeyKind prog w K}
end
end L2
namespace L2
open PySem PyProof.Rows
section
variable {prog : Program} {w : World} {K : Type} [DecidableEq K] {knd : KeyKind prog w K} {A : Around} {E : Value → Shared → Prop} {s : Shared} {d : Addr} {kvs : List (K × Value)} {k : K} {key dflt : Value}
end
end L2
namespace L2
open PySem PyProof.Rows
theorem rising_pw : ∀ (p : Str) (l : List Str), risingS p l = true → (p :: l).Pairwise fun a b => a.cps.toList ≤ b.cps.toList
  | p, [], _ => by simp
  | p, x :: r, h => by
    have h : (!Spec.ltCps x.cps.toList p.cps.toList && risingS x r) = true := h
    rw [Bool.and_eq_true] at h
    have ih := rising_pw x r h.2
    have h1 : p.cps.toList ≤ x.cps.toList := by
      have := h.1
      rw [ltCps_eq] at this
      exact List.not_lt.mp (by simpa using this)
    refine List.pairwise_cons.mpr ⟨fun z hz => ?_, ih⟩
    rcases List.mem_cons.mp hz with rfl | hz
    · exact h1
    · exact List.le_trans h1 ((List.pairwise_cons.mp ih).1 z hz)
theorem sorted_pw : ∀ {l : List Str}, sortedS l = true → l.Pairwise fun a b => a.cps.toList ≤ b.cps.toList
  | [], _ => by simp
  | x :: r, h => rising_pw x r h
theorem sorted_uniq {xs ys : List Str} (h1 : sortedS xs = true) (h2 : sortedS ys = true) (hp : xs.Perm ys) : xs = ys := by
  refine List.Perm.eq_of_pairwise (le := fun a b => a.cps.toList ≤ b.cps.toList) (fun a b _ _ p q => ?_) (sorted_pw h1) (sorted_pw h2) hp
  have e := List.le_antisymm p q
  obtain ⟨⟨x⟩⟩ := a
  obtain ⟨⟨y⟩⟩ := b
  simp only at e
  rw [e]
theorem sorted_same {xs ys : List Str} (h1 : sortedS xs = true) (h2 : sortedS ys = true) (n1 : xs.Nodup) (n2 : ys.Nodup) (h : ∀ z, z ∈ xs ↔ z ∈ ys) : xs = ys := sorted_uniq h1 h2 ((List.perm_ext_iff_of_nodup n1 n2).mpr h)
end L2
namespace L2
open PySem PySem.Spec PyProof.Rows
noncomputable def melt (a : Addr) (H : Hp) : Hp := fun b => if b = a then (match H a with | some (.frz _ u) => some u | o => o) else H b
section
variable {X : Cx} {pins : List (Addr × Obj)} {σ : St} {H : Hp} {s : Shared} {a : Addr}
end
theorem key_rel {P : Program} {w : World} {k : Key} {u : Value} (h : (mixKind P w).is k u = true) : RelV (kV k) u := by
  rcases keyIs_shape h with ⟨i, t, rfl, rfl⟩ | ⟨x, t, rfl, rfl⟩
  · exact ⟨t, rfl⟩
  · exact ⟨t, rfl⟩
section
variable {X : Cx} {tg : Expr}
variable {scope : Scope} {tn names : List Str} {is : List Nat} {elt iter : Expr} {ifs : List Expr} {pos : Pos} {tl te : TE} {tc : Option TT} {g : TG}
end
end L2
namespace L2
open PySem PySem.Spec PyProof.Rows
section
variable {X : Cx} {pins : List (Addr × Obj)} {σ : St} {H : Hp} {s : Shared} {tg : Expr}
theorem Inv.dr (I : Inv X pins σ H s) (d : Drawn) : Inv X pins σ H { s with drawn := d } := ⟨I.ok, I.os, I.bare, I.base, I.loc, I.cell, I.free, I.freeC, I.pin, I.hok, I.len⟩
noncomputable def Ite (K : PySem.W.Frag) (a : Addr) : It :=
  ⟨fun i H => ∃ xs x, SqL K H a xs ∧ xs[i]? = some x, fun i H v H' => ∃ T x, v = .ref T ∧ H T = none ∧ H' = upd H T (.tup [.int i, x]) ∧ ∀ xs, SqL K H a xs → xs[i]? = some x, fun i H => ∃ xs, SqL K H a xs ∧ xs.length ≤ i⟩
theorem turn_enum {P : Program} {w : World} {K : PySem.W.Frag} {elts : List Expr} {k1 : Nat} {tpos : Pos} (a e it : Addr) (hei : e ≠ it) :
    Turn P w K (.Tuple elts k1 tpos) (Ite K a) [e, it] e (fun i h => (∃ old, IsEnum h e it i old) ∧ h.IsListIter it a i) where
  mem := by simp
  obj := fun i h st b hb => by
    obtain ⟨⟨old, he⟩, o, e1, c, d⟩ := st
    rcases List.mem_cons.mp hb with rfl | hb
    · exact ⟨_, he, fun v z => nomatch z⟩
    · have hb : b = it := by simpa using hb
      subst hb
      exact ⟨o, e1, fun v z => by rw [d] at z; cases z⟩
  keep := fun i h h' ⟨⟨old, he⟩, st⟩ k => ⟨⟨old, k e (by simp) _ he⟩, st.at fun o q => k it (by simp) o q⟩
  item := by
    intro X hP hw hK hc i pins s σ H E I hf st hg
    subst hP hw hK
    obtain ⟨xs, x, hq, hx⟩ := hg
    obtain ⟨its, rv, p, hz⟩ := I.list hq
    obtain ⟨u, hu, ru⟩ := rv.get hx
    obtain ⟨⟨old, he⟩, hit⟩ := st
    obtain ⟨f0, f1, f2, f3, f4, f5⟩ := hf e (by simp)
    obtain ⟨g0, g1, g2, g3, g4, g5⟩ := hf it (by simp)
    refine wpAny_pyNext_enum_item he hit p.isList (by simpa using hu) hei fun h' ho hit' hT hsz hk => ?_
    refine ⟨_, rfl, wpAny_letOwnedTupleGo_enum (s := { s with heap := h', toks := s.toks + 1 }) ho fun h2 he2 sb => ?_⟩
    have hTn : H s.heap.objs.size = none := I.hok.fresh (Nat.le_refl _)
    have hTe : s.heap.objs.size ≠ e := Nat.ne_of_gt (Heap.lt_size he)
    have hTi : s.heap.objs.size ≠ it := by obtain ⟨_, q, _⟩ := hit; exact Nat.ne_of_gt (Heap.lt_size q)
    have k2 : ∀ b o, b ≠ e → b ≠ it → s.heap.get? b = some o → h2.get? b = some o := fun b o n1 n2 q => (sb.2 b n1).trans (hk b o n1 n2 q)
    -- first the iterators turn, then the tuple is tracked
    have I1 : Inv X pins σ H { s with heap := h2, toks := s.toks + 1 } := by
      refine I.step (g' := s.gens) (d' := s.drawn) (t' := s.toks + 1) (ch := [e, it]) (fun b hb => ?_) (fun b o _ _ hb q _ => k2 b o (fun z => hb (by simp [z])) (fun z => hb (by simp [z])) q) (fun b o _ _ hb q _ => ⟨o.slots, k2 b o (fun z => hb (by simp [z])) (fun z => hb (by simp [z])) q⟩)
        (fun b o _ _ q => q) (fun b o hb q => ⟨o, k2 b o (fun z => hb (by simp [z])) (fun z => hb (by simp [z])) q⟩) (fun _ _ q => q) (fun _ _ _ q => q) (fun _ ps q => ⟨#[], by simpa using q⟩) (fun m hm => ?_) ?_ I.bare
      · rcases List.mem_cons.mp hb with rfl | hb
        · exact ⟨f3, f1, f4, f5⟩
        · have hb : b = it := by simpa using hb
          subst hb
          exact ⟨g3, g1, g4, g5⟩
      · obtain ⟨o, es, ep, q, r⟩ := hm
        exact ⟨o, es, ep, k2 _ _ (Ne.symm f1) (Ne.symm g1) q, r⟩
      · intro b u q
        refine (I.hok b u q).stay (fun c v hc r => k2 c v ?_ ?_ r) (fun _ q => q) fun _ _ q => q
        · rintro rfl
          rcases hc with rfl | hc
          · rw [f0] at q; cases q
          · rw [f0] at hc; cases hc
        · rintro rfl
          rcases hc with rfl | hc
          · rw [g0] at q; cases q
          · rw [g0] at hc; cases hc
    have hT2 : h2.get? s.heap.objs.size = some { cls := .type "tuple", data := .seq #[.int i s.toks, u] } := (sb.2 _ hTe).trans hT
    have I2 : Inv X pins σ (upd H s.heap.objs.size (.tup [.int i, x])) { s with heap := h2, toks := s.toks + 1 } := by
      have nn : ∀ {b : Addr}, b < s.heap.objs.size → H b = none → upd H s.heap.objs.size (.tup [.int i, x]) b = none := fun {b} hb e => by rw [upd_ne (Nat.ne_of_lt hb)]; exact e
      have old : ∀ {b : Addr} {o : HO}, H b = some o → upd H s.heap.objs.size (.tup [.int i, x]) b = some o := fun {b o} e => by rw [upd_ne (ne_of_none e hTn)]; exact e
      refine ⟨I1.ok, I1.os, I1.bare, ⟨I1.base.keep, I1.base.slot, fun b o q n hx => nn ?_ (I1.base.free b o q n hx), I1.base.there, fun b ys q => old (I1.base.tups b ys q), fun b o v q => old (I1.base.frzs b o v q), fun b ps q => ?_⟩, I1.loc, I1.cell, nn I.lt I1.free, fun y c q => nn ?_ (I1.freeC y c q), fun p hp => ?_, fun b o q => ?_, I1.len⟩
      · exact Nat.lt_of_lt_of_le (Heap.lt_size q) I.sz
      · obtain ⟨more, z⟩ := I1.base.tbls b ps q
        exact ⟨more, old z⟩
      · obtain ⟨v, z⟩ := I.cell y c q
        exact z.lt
      · obtain ⟨z1, z2, z3⟩ := I1.pin p hp
        exact ⟨z1, nn (Heap.lt_size (I.pin p hp).1) z2, z3⟩
      · by_cases hb : b = s.heap.objs.size
        · subst hb
          rw [upd_same] at q
          cases q
          exact ⟨by rw [sizeLine_eq]; simp, [.int i s.toks, u], .cons ⟨_, rfl⟩ (.cons ru .nil), _, hT2, rfl, _, rfl⟩
        · rw [upd_ne hb] at q
          exact (I1.hok b o q).stay (fun _ _ _ z => z) (fun c z => old z) fun c ys z => old z
    exact ⟨.ref s.heap.objs.size, _, I2, rfl, ⟨s.heap.objs.size, x, rfl, hTn, rfl, fun ys hy => by rw [I.list_inj hy hq]; exact hx⟩, ⟨⟨u, by simpa using he2⟩, hit'.at fun o q => (sb.2 it (Ne.symm hei)).trans q⟩, fun b hb => by
      rcases List.mem_cons.mp hb with rfl | hb
      · rw [upd_ne (Ne.symm hTe)]; exact f0
      · have hb : b = it := by simpa using hb
        subst hb
        rw [upd_ne (Ne.symm hTi)]; exact g0⟩
  done := by
    intro X hP hw hK hc i pins s σ H E I hf st hg
    subst hP hw hK
    obtain ⟨xs, hq, hx⟩ := hg
    obtain ⟨its, rv, p, hz⟩ := I.list hq
    obtain ⟨⟨old, he⟩, hit⟩ := st
    obtain ⟨g0, g1, g2, g3, g4, g5⟩ := hf it (by simp)
    have hl := rv.length
    exact wpAny_pyNext_enum_end (I.ok.hd hc) he hit p.isList (by simp; omega) fun h' eb => ⟨rfl, I.turned (t' := s.toks) (fun b o hb e => eb b o hb e) g0 g1 g3 g4 g5⟩
  self := fun _ _ _ _ _ ⟨⟨_, he⟩, _⟩ h => wpAny_pyIter_enum he h
noncomputable def iEnum (K : PySem.W.Frag) (tl : TA) : TI := fun σ H R => tl σ H fun vs H1 => ∃ a, vs = [.ref a] ∧ (∃ xs, SqL K H1 a xs) ∧ R (Ite K a) H1
theorem pi_enum {l : Expr} {tl : TA} {elts : List Expr} {k1 : Nat} {tpos p pos : Pos} (hg : Gl X "enumerate") (hm : X.mg "enumerate" = none) (ha : PA X [l] tl) (hs : starEach [l] X.env = [(false, eval l X.env)] := by rfl) :
    PI X (.Tuple elts k1 tpos) (.Call (.Name "enumerate" p) [l] [] pos) (iEnum X.K tl) := by
  intro pins s σ H R I h
  refine Call_ (ld_blt I hg hm bt_enumerate (PyProof.Rows.callWith_type1 (thn (ha pos pins s σ H _ I h) fun us s1 ⟨vs, H1, I1, r1, q1⟩ => ?_) hs rfl))
  obtain ⟨a, e, ⟨xs, hq⟩, q⟩ := q1
  subst e
  cases r1 with
  | cons r rr =>
    cases rr
    cases r
    obtain ⟨its, rv, p, hz⟩ := I1.list hq
    refine call_enumerate_list p.isList fun h' he hit hsz kp => ?_
    refine wpAny_pyIter_enum he ?_
    have I2 : Inv X pins σ H1 { s1 with heap := h' } := I1.kept (t' := s1.toks) kp
    refine ⟨_, [s1.heap.objs.size + 1, s1.heap.objs.size], _, _, H1, rfl, I2, turn_enum a _ _ (Nat.ne_of_gt (Nat.lt_succ_self _)), ⟨⟨_, he⟩, hit⟩, fun b hb => ?_, q⟩
    rcases List.mem_cons.mp hb with rfl | hb
    · exact I1.fpOk (Nat.le_succ _) (I1.hok.fresh (Nat.le_succ _))
    · have hb : b = s1.heap.objs.size := by simpa using hb
      subst hb
      exact I1.fpOk (Nat.le_refl _) (I1.hok.fresh (Nat.le_refl _))
noncomputable def SetS (w : World) (a : Addr) (xs : List Str) : HO := .ext fun h => TxSet w h a xs
theorem vals_strs : ∀ {xs : List Str} {us : List Value}, Vals (xs.map V.str) us → StrsAre us xs
  | [], _, .nil => .nil
  | x :: xs, _, .cons r t => by
    obtain ⟨tk, rfl⟩ := r
    exact .cons x tk (vals_strs t)
theorem strs_vals : ∀ {us : List Value} {xs : List Str}, StrsAre us xs → Vals (xs.map V.str) us
  | _, _, .nil => .nil
  | _, _, .cons x t h => .cons ⟨t, rfl⟩ (strs_vals h)
noncomputable def rSetS (w : World) : List V → Hp → VK → Prop := fun vs H Q => ∃ (p : Addr) (xs : List Str), vs = [.ref p] ∧ H p = some (.lst (xs.map V.str)) ∧ xs.length ≤ 4000 ∧ ∀ (l : Addr) (ys : List Str), H l = none → ys.Nodup → (∀ z, z ∈ ys ↔ z ∈ xs) → Q (.ref l) (upd H l (SetS w l ys))
theorem call_setS (hc : X.calm = true) : CallR X (.type "set") (rSetS X.w) := by
  intro pins s σ H vs us Q I r h
  obtain ⟨p, xs, rfl, hp, hl, q⟩ := h
  obtain ⟨u, rfl, ru⟩ := r.one
  cases ru
  obtain ⟨z, its, n, rv, hlen, e⟩ := I.lstM hp
  have hst := vals_strs rv
  refine set_texts (items := its.toArray) (xs := xs) (I.ok.hd hc) ⟨_, e, rfl, n, rfl⟩ (fun i v hv => ?_) (by rw [List.size_toArray, ← hlen, List.length_map]) (by unfold scanBound; omega) fun h' tk ys ht hm kp => ?_
  · have hv : its[i]? = some v := by simpa using hv
    have hi : i < xs.length := by
      have := (List.getElem?_eq_some_iff.mp hv).1
      rw [← hlen, List.length_map] at this
      exact this
    obtain ⟨u, e1, r1⟩ := rv.get (i := i) (x := .str xs[i]) (by simp [hi])
    rw [hv] at e1
    cases e1
    obtain ⟨t, rfl⟩ := r1
    exact ⟨t, by simp [List.getD, hi]⟩
  · have hnd : ys.Nodup := by obtain ⟨_, _, _, _, _, _, nd, _⟩ := ht; exact nd
    have hex : ∃ o, h'.get? s.heap.objs.size = some o := by obtain ⟨es, ep, t, g, _⟩ := ht; exact ⟨_, g⟩
    refine ⟨.ref s.heap.objs.size, _, I.laid (o := SetS X.w s.heap.objs.size ys) (fun b o e => kp b o (Heap.lt_size e) e) (Nat.le_refl _) ⟨ht, hex, fun h1 h2 x k => x.at k⟩, rfl, q _ ys (I.hok.fresh (Nat.le_refl _)) hnd hm⟩
noncomputable def SortOf (w : World) (H : Hp) (p : Addr) (xs : List Str) : Prop := H p = some (SetS w p xs) ∨ H p = some (.lst (xs.map V.str)) ∨ ∃ kvs : List (Key × V), H p = some (.dK kvs) ∧ kvs.map (·.1) = xs.map Sum.inr
noncomputable def rSortS (w : World) : List V → Hp → VK → Prop := fun vs H Q => ∃ (p : Addr) (xs : List Str), vs = [.ref p] ∧ SortOf w H p xs ∧ xs.length < 64 ∧ ∀ (l : Addr) (ys : List Str), H l = none → ys.Perm xs → sortedS ys = true → Q (.ref l) (upd H l (.lst (ys.map V.str)))
theorem call_sortS (hc : X.calm = true) : CallR X (.builtin "sorted") (rSortS X.w) := by
  intro pins s σ H vs us Q I r h
  obtain ⟨p, xs, rfl, hp, hl, q⟩ := h
  obtain ⟨u, rfl, ru⟩ := r.one
  cases ru
  have fin : ∀ h' d tk L its ys n, s.heap.objs.size ≤ L → StrsAre its ys → ys.Perm xs → sortedS ys = true → h'.get? L = some (seqObj "list" its.toArray n) → (∀ b o, s.heap.get? b = some o → h'.get? b = some o) → EP X pins σ Q (.ref L) { s with heap := h', drawn := d, toks := tk } := fun h' d tk L its ys n hL hS hP hO g kp => by
    have I1 := (I.dr d).laid (h' := h') (a := L) (o := .lst (ys.map V.str)) (t' := tk) kp hL ⟨by
      have := hP.length_eq
      rw [List.length_map, sizeLine_eq]
      omega, its, n, strs_vals hS, g⟩
    exact ⟨.ref L, _, I1, rfl, q L ys (I.hok.fresh hL) hP hO⟩
  rcases hp with hp | hp | ⟨kvs, hp, hk⟩
  · exact sorted_tx (I.ok.hd hc) (show TxSet X.w s.heap p xs from (I.hok p _ hp).1) hl fin
  · obtain ⟨z, its, n, rv, hlen, e⟩ := I.lstM hp
    refine sorted_col hl (fun A' Q' hA k => collect_list (vs := its) ⟨_, e, rfl, n, rfl⟩ ?_ (by rw [← hlen]; exact z)) fin
    refine k its _ s.drawn s.toks ⟨xs, vals_strs rv, .refl _⟩ (fun b o q => ?_) ?_
    · have hb : b ≠ s.heap.objs.size := Nat.ne_of_lt (Heap.lt_size q)
      exact (Heap.get?_update_other _ _ (Ne.symm hb)).trans (Heap.get?_push_of_some _ q)
    · rw [Heap.size_update, size_push']
      exact Nat.le_succ _
  · obtain ⟨z, hd, vs', rel, dd⟩ := dk_of I.hok hp
    obtain ⟨ep, dd⟩ := dd.dictAt
    refine sorted_col hl (fun A' Q' hA k => collect_keys (hA.trans (I.ok.hd hc)) hd dd (by rw [← rel.length]; exact z) fun vs h' tk hn hv kp hge => ?_) fin
    refine k vs h' s.drawn tk ⟨xs, ?_, .refl _⟩ kp hge
    have hxl : xs.length = vs.length := by
      have := congrArg List.length hk
      rw [List.length_map, List.length_map] at this
      rw [hn, ← rel.length, this]
    have all : ∀ (i : Nat) (v : Value), vs[i]? = some v → ∃ x t, xs[i]? = some x ∧ v = .str x t := fun i v e => by
      obtain ⟨k', x', e1, e2⟩ := hv i v e
      have e3 : (vs'.map (·.1))[i]? = some k' := by rw [List.getElem?_map, e1]; rfl
      rw [← rel.keys, hk, List.getElem?_map] at e3
      cases e4 : xs[i]? with
      | none => rw [e4] at e3; cases e3
      | some y =>
        rw [e4] at e3
        have e5 : Sum.inr y = k' := Option.some.inj e3
        subst e5
        obtain ⟨t, rfl⟩ := key_rel e2
        exact ⟨y, t, rfl, rfl⟩
    have go : ∀ (us : List Value) (ys : List Str), ys.length = us.length → (∀ (i : Nat) (v : Value), us[i]? = some v → ∃ x t, ys[i]? = some x ∧ v = .str x t) → StrsAre us ys := by
      intro us
      induction us with
      | nil =>
        intro ys hl _
        have : ys = [] := List.length_eq_zero_iff.mp hl
        subst this
        exact .nil
      | cons u us ih =>
        intro ys hl ha
        cases ys with
        | nil => cases hl
        | cons y ys =>
          obtain ⟨x, t, e1, rfl⟩ := ha 0 u rfl
          cases e1
          exact .cons y t (ih ys (by simpa using hl) fun i v e => by simpa using ha (i + 1) v (by simpa using e))
    exact go vs xs hxl all
theorem Paired.at {α β : Type} {F : α → β → Prop} : ∀ {xs : List α} {ys : List β} {i : Nat} {x : α}, Paired F xs ys → xs[i]? = some x → ∃ y, ys[i]? = some y ∧ F x y
  | _, _, _, _, .nil, e => by simp at e
  | _, _, 0, _, .cons r _, e => by simp at e; subst e; exact ⟨_, rfl, r⟩
  | _, _, i + 1, x, .cons _ t, e => by
    obtain ⟨y, h1, h2⟩ := Paired.at (i := i) (x := x) t (by simpa using e)
    exact ⟨y, by simpa using h1, h2⟩
end
end L2
namespace L2
open PySem PySem.Spec PyProof.Rows
section
variable {X : Cx}
noncomputable def rJoin : V → List V → Hp → VK → Prop := fun x vs H Q => ∃ (z : Str) (l : Addr) (ys : List Str), x = .str z ∧ vs = [.ref l] ∧ H l = some (.lst (ys.map V.str)) ∧ (ys.map (·.length)).sum + ys.length * z.length ≤ 16777216 ∧ Q (.str (Str.join z ys)) H
theorem mt_join : MtR X "str.join" rJoin := by
  intro pins s σ H x vs v us Q I rx rv h
  obtain ⟨z, l, ys, rfl, rfl, hl, hs, q⟩ := h
  obtain ⟨t, rfl⟩ := rx
  obtain ⟨u, rfl, ru⟩ := rv.one
  cases ru
  obtain ⟨_, its, n, r, _, e⟩ := I.lstM hl
  refine join_list ⟨_, e, rfl, n, rfl⟩ (by simpa using vals_strs r) hs fun t' k => ?_
  have e1 : Txt.join z ys = Str.join z ys := StrLaws.glued_eq_join z ys
  rw [e1]
  exact ⟨.str _, H, I.tok _, ⟨_, rfl⟩, q⟩
noncomputable def rSlS : V → Option Int → Option Int → Hp → VK → Prop := fun x lo hi H Q => ∃ z : Str, x = .str z ∧ z.length ≤ sizeLine ∧ Q (.str (Txt.slice z lo hi)) H
theorem part_of {v : Value} {lo : Option Int} (h : IsPart v lo) : ∃ l : Option (Int × Tok), l.map (·.1) = lo ∧ v = partValue l := by
  cases h with
  | none => exact ⟨none, rfl, rfl⟩
  | int i t => exact ⟨some (i, t), rfl, rfl⟩
theorem sl_str : SlR X rSlS := by
  intro pins s σ H x v vl vu lo hi sl Q I rx hs pl pu h
  obtain ⟨z, rfl, hz, q⟩ := h
  obtain ⟨t, rfl⟩ := rx
  obtain ⟨l, e1, rfl⟩ := part_of pl
  obtain ⟨u, e2, rfl⟩ := part_of pu
  subst e1 e2
  refine ⟨"str", _, F.slot_str_getitem.lookup, typeIs_str _ _ _, wpAny_getItem_str_slice (l := l) (u := u) (st := none) ?_ rfl (post_val_or_str ?_)⟩
  · obtain ⟨o, a, b, c⟩ := hs
    exact ⟨o, a, b, c⟩
  · exact ⟨Nat.le_trans (Txt.slice_le z _ _) hz, fun t' k => ⟨.str _, H, I.tok _, ⟨_, rfl⟩, q⟩⟩
end
end L2
namespace L2
section
variable {α : Type} [DecidableEq α]
noncomputable abbrev RunD (α : Type) := α × α × Rat
noncomputable abbrev EntD (α : Type) := Rat × Option (Nat × α)
noncomputable abbrev AL (α β : Type) := List (α × β)
noncomputable def aget {β : Type} (l : AL α β) (k : α) : Option β := (l.find? fun kv => decide (kv.1 = k)).map (·.2)
noncomputable def aput {β : Type} (l : AL α β) (k : α) (v : β) : AL α β := if (l.any fun kv => decide (kv.1 = k)) then l.map (fun kv => if kv.1 = k then (kv.1, v) else kv) else l ++ [(k, v)]
variable (net : List (RunD α)) (push : α → Option Rat) (tk : Nat → Option Rat)
variable {net push tk}
end
end L2
namespace L2
section
variable {α : Type} [DecidableEq α] {net : List (RunD α)} {push : α → Option Rat} {tk : Nat → Option Rat} {F : AL α (EntD α)}
end
end L2
namespace L2
section
variable {κ : Type} [DecidableEq κ]
noncomputable def lstep (m : AL κ Rat) (x : κ × Rat) : AL κ Rat := match aget m x.1 with
  | none => aput m x.1 x.2
  | some r => if x.2 < r then aput m x.1 x.2 else m
noncomputable def lst (l : List (κ × Rat)) : AL κ Rat := l.foldl lstep []
end
end L2
namespace L2
end L2
namespace L2
open PySem PySem.Spec PyProof.Rows
section
variable {X : Cx} {a b : Expr} {ta tb td ty tv : TE} {pos : Pos} {rest : List Expr} {σ : St} {H H' : Hp} {Q : VK} {D : Ends} {K : PySem.W.Frag} {w : World} {v x : V}
theorem r_dnew (k : ∀ p, H p = none → Q (.ref p) (upd H p (.dK []))) : tDNewK σ H Q := k
theorem r_forE {a : Addr} {xs : List V} {g : TG} {tb : TS} (Pv : Nat → St → Hp → Prop) (h0 : Pv 0 σ H) (hl : ∀ i σ H, i ≤ xs.length → Pv i σ H → SqL K H a xs)
    (hs : ∀ i x T σ H, xs[i]? = some x → H T = none → Pv i σ H → g (.ref T) σ (upd H T (.tup [.int i, x])) fun σ2 H2 => tb ⟨Pv (i + 1), D.rt, D.nx, Pv (i + 1)⟩ σ2 H2) (hd : ∀ σ H, Pv xs.length σ H → D.nx σ H) : forK g tb D σ (Ite K a) H := by
  refine ⟨fun i m σ H => m = xs.length - i ∧ i ≤ xs.length ∧ Pv i σ H, ⟨_, rfl, Nat.zero_le _, h0⟩, ?_⟩
  rintro i m σ H ⟨rfl, hi, p⟩
  have q := hl i σ H hi p
  by_cases hlt : i < xs.length
  · refine .inr ⟨⟨xs, xs[i], q, by simp [hlt]⟩, Pv (i + 1), fun σ' H' q => ⟨xs.length - (i + 1), by omega, rfl, hlt, q⟩, fun x H' y => ?_⟩
    obtain ⟨T, x', rfl, hT, rfl, e⟩ := y
    exact hs i x' T σ H (e xs q) hT p
  · have : i = xs.length := by omega
    subst this
    exact .inl ⟨⟨xs, q, Nat.le_refl _⟩, hd σ H p⟩
theorem r_iEnum {tl : TA} {R : It → Hp → Prop} (k : tl σ H fun vs H1 => ∃ a, vs = [.ref a] ∧ (∃ xs, SqL K H1 a xs) ∧ R (Ite K a) H1) : iEnum K tl σ H R := k
theorem e_K {a : Addr} {xs : List V} {R : It → Hp → Prop} (h : H a = some (.lst xs)) (k : R (Ite K a) H) : ∃ a', [V.ref a] = [.ref a'] ∧ (∃ xs, SqL K H a' xs) ∧ R (Ite K a') H := ⟨a, rfl, ⟨xs, SqL.of h⟩, k⟩
theorem r_gtup2 {p : Addr} {x y : V} {t : TGs} {R : St → Hp → Prop} (h : H p = some (.tup [x, y])) (k : t [x, y] σ H R) : gTup K 2 t (.ref p) σ H R := ⟨p, _, rfl, SqT.of h, rfl, k⟩
theorem r_gtup3 {p : Addr} {x y z : V} {t : TGs} {R : St → Hp → Prop} (h : H p = some (.tup [x, y, z])) (k : t [x, y, z] σ H R) : gTup K 3 t (.ref p) σ H R := ⟨p, _, rfl, SqT.of h, rfl, k⟩
theorem r_gnil {R : St → Hp → Prop} (k : R σ H) : gNil [] σ H R := ⟨rfl, k⟩
theorem r_gcons {t : TG} {u : TGs} {r : List V} {R : St → Hp → Prop} (k : t v σ H fun σ' H' => u r σ' H' R) : gCons t u (v :: r) σ H R := ⟨v, r, rfl, k⟩
end
noncomputable def TK (H H' : Hp) : Prop := ∀ p xs, H p = some (.tup xs) → H' p = some (.tup xs)
theorem TK.trans {H H1 H2 : Hp} (a : TK H H1) (b : TK H1 H2) : TK H H2 := fun p xs h => b p xs (a p xs h)
theorem Same.tk {H H' : Hp} (s : Same H H') : TK H H' := fun p xs h => s _ _ h
theorem TK.lst {H : Hp} {q : Addr} {o : HO} {ys : List V} (h : H q = some (.lst ys)) : TK H (upd H q o) := fun p xs e => by rw [upd_ne (ne_of e h (by intro z; cases z))]; exact e
theorem St3.tk {H H' : Hp} {p : Addr} {n : Int} (s : St3 H p n) (k : Kp p H H') : TK H H' := fun q xs e => k _ _ (s.ne e) e
noncomputable def FrQ (H : Hp) (v : V) (q : Rat) : Prop := ∃ p, v = .ref p ∧ H p = some (.tup [.int q.num, .int q.den])
theorem FrQ.tk {H H' : Hp} {v : V} {q : Rat} (h : FrQ H v q) (t : TK H H') : FrQ H' v q := let ⟨p, e, h⟩ := h; ⟨p, e, t _ _ h⟩
noncomputable def RunQ (H : Hp) (v : V) (r : Key × Key × Rat) : Prop := ∃ p u, v = .ref p ∧ H p = some (.tup [kV r.1, kV r.2.1, u]) ∧ FrQ H u r.2.2
theorem RunQ.tk {H H' : Hp} {v : V} {r : Key × Key × Rat} (h : RunQ H v r) (t : TK H H') : RunQ H' v r := let ⟨p, u, e, h, f⟩ := h; ⟨p, u, e, t _ _ h, f.tk t⟩
section
variable {α β : Type} {F G : α → β → Prop}
theorem Pd.imp : ∀ {l : List α} {m : List β}, Paired F l m → (∀ a b, F a b → G a b) → Paired G l m
  | _, _, .nil, _ => .nil
  | _, _, .cons r t, f => .cons (f _ _ r) (Pd.imp t f)
theorem Pd.snoc : ∀ {l : List α} {m : List β} {a : α} {b : β}, Paired F l m → F a b → Paired F (l ++ [a]) (m ++ [b])
  | _, _, _, _, .nil, r => .cons r .nil
  | _, _, _, _, .cons q t, r => .cons q (Pd.snoc t r)
end
noncomputable def LQ {β : Type} (R : Hp → V → β → Prop) (H : Hp) (l : Addr) (ds : List β) : Prop := ∃ vs, H l = some (.lst vs) ∧ Paired (R H) vs ds
section
variable {β : Type} {R : Hp → V → β → Prop} {H H' : Hp} {l d : Addr} {ds : List β} {m : List (Key × β)} {kvs : List (Key × V)}
end
theorem r_nxD {D : Ends} {σ : St} {H : Hp} (k : D.nx σ H) : D.nx σ H := k
theorem r_rtD {D : Ends} {v : V} {H : Hp} (k : D.rt v H) : D.rt v H := k
section
variable {X : Cx} {σ : St} {H H' : Hp} {Q : VK} {K : PySem.W.Frag} {v x y : V} {w : World}
noncomputable def bmK (K : PySem.W.Frag) (T : String) (r : V → List V → Hp → VK → Prop) (t : TA) (σ : St) (Q : VK) : VK := fun x H1 => tyV K T x H1 ∧ t σ H1 fun xs H2 => r x xs H2 Q
theorem r_bm {T : String} {r : V → List V → Hp → VK → Prop} {to : TE} {t : TA} (k : to σ H (bmK K T r t σ Q)) : tBM K T r to t σ H Q := k
theorem r_bmL {r : V → List V → Hp → VK → Prop} {t : TA} {l : Addr} {xs : List V} (h : H l = some (.lst xs)) (k : t σ H fun vs H2 => r (.ref l) vs H2 Q) : bmK K "list" r t σ Q (.ref l) H := ⟨.inl ⟨rfl, xs, SqL.of h⟩, k⟩
theorem r_bmS {r : V → List V → Hp → VK → Prop} {t : TA} {s : Str} (k : t σ H fun vs H2 => r (.str s) vs H2 Q) : bmK K "str" r t σ Q (.str s) H := ⟨rfl, k⟩
theorem r_app {l : Addr} {xs : List V} (h : H l = some (.lst xs)) (hl : xs.length ≤ 1000) (k : Q .non (upd H l (.lst (xs ++ [y])))) : rAppend (.ref l) [y] H Q := ⟨l, xs, y, rfl, rfl, h, small1000 hl, k⟩
end
end L2
namespace L2
open PySem PySem.Spec PyProof.Rows
theorem nd_len {α : Type} [DecidableEq α] : ∀ {l m : List α}, l.Nodup → (∀ x ∈ l, x ∈ m) → l.length ≤ m.length
  | [], _, _, _ => Nat.zero_le _
  | a :: l, m, nd, h => by
    rw [List.nodup_cons] at nd
    have ha := h a (by simp)
    have := nd_len (l := l) (m := m.erase a) nd.2 fun x hx => by
      have hne : x ≠ a := fun z => nd.1 (by rw [← z]; exact hx)
      exact (List.mem_erase_of_ne hne).mpr (h x (by simp [hx]))
    have h2 := List.length_erase_of_mem ha
    have h3 : 0 < m.length := List.length_pos_of_mem ha
    rw [List.length_cons]
    omega
section
variable {te : TE} {Q : VK} {H : Hp} {caps : St}
end
section
variable {σ : St} {H : Hp} {Q : VK} {K : PySem.W.Frag}
end
theorem ix_LTc {X : Cx} {scope : Scope} {caps : List (Str × Addr)} {N : List Str} {C : Addr} {s0 : Shared} {H0 : Hp} {ex : List Addr} : IxR (cxComp X scope caps N C s0 H0 ex) (rIxLT X.K) := ix_LT
noncomputable def Srt (ys : List Str) : Prop := sortedS ys = true
noncomputable abbrev TRun := Str × Str × Rat
noncomputable def kn (n : List TRun) : List (RunD Key) := n.map fun r => (Sum.inr r.1, Sum.inr r.2.1, r.2.2)
noncomputable def names (n : List TRun) : List Str := n.map (·.1) ++ n.map (·.2.1)
theorem kn_at {n : List TRun} {i : Nat} {r : RunD Key} (h : (kn n)[i]? = some r) : ∃ s, n[i]? = some s ∧ r = (Sum.inr s.1, Sum.inr s.2.1, s.2.2) := by
  unfold kn at h
  rw [List.getElem?_map] at h
  cases e : n[i]? with
  | none => rw [e] at h; cases h
  | some s => rw [e] at h; exact ⟨s, rfl, (Option.some.inj h).symm⟩
theorem low_rat {t b : Int} (hb : b ≠ 0) : (Rat.divInt t b).num = lowT t b ∧ ((Rat.divInt t b).den : Int) = lowB t b := rat_of hb (lowB_pos hb) (low_cop hb) (low_worth hb)
theorem FrQ.low {H : Hp} {t b : Int} {p : Addr} (hb : b ≠ 0) (h : H p = some (.tup [.int (lowT t b), .int (lowB t b)])) : FrQ H (.ref p) (Rat.divInt t b) := ⟨p, rfl, by rw [h, (low_rat hb).1, (low_rat hb).2]⟩
noncomputable abbrev abc : Str := Str.ofString "abcdefghijklmnopqrstuvwxyz"
theorem abc_len : abc.length = 26 := by decide +kernel
theorem abc_at : ∀ j : Nat, j < 26 → atI abc.cps.toList (j : Int) = some (97 + j) := by decide +kernel
theorem join_ones : ∀ cs : List Nat, Str.join Str.empty (cs.map fun c => (⟨#[c]⟩ : Str)) = ⟨cs.toArray⟩
  | [] => rfl
  | [c] => rfl
  | c :: d :: r => by
    show (⟨#[c]⟩ : Str) ++ Str.empty ++ Str.join Str.empty ((d :: r).map fun c => (⟨#[c]⟩ : Str)) = _
    rw [join_ones (d :: r)]
    show Str.mk _ = Str.mk _
    congr 1
    show (#[c] ++ #[]) ++ (d :: r).toArray = _
    simp
section
variable {σ : St} {H : Hp} {Q : VK} {K : PySem.W.Frag}
theorem r_ixS {z : Str} {i : Int} {c : Nat} (hz : z.length ≤ 100000) (e : atI z.cps.toList i = some c) (k : Q (.str ⟨#[c]⟩) H) : rIxLT K (.str z) (.int i) H Q := .inr (.inr ⟨z, i, c, rfl, rfl, by rw [sizeLine_eq]; omega, e, k⟩)
theorem r_addS {a b : Str} (h : a.length + b.length ≤ 100000) (k : Q (.str (a ++ b)) H) : rAddA K (.str a) (.str b) H Q := .inr (.inr (.inr ⟨a, b, rfl, rfl, by rw [sizeLine_eq]; omega, k⟩))
end
theorem Kp.sm {p : Addr} {H H1 H2 : Hp} (k : Kp p H1 H2) (s : Same H H1) (hp : H p = none) : Same H H2 := fun b o h => k _ _ (ne_of_none h hp) (s _ _ h)
theorem St3.sm {H H' : Hp} {p : Addr} {n : Int} (h : St3 H p n) (s : Same H H') : St3 H' p n := let ⟨a, b, c, x, y⟩ := h; ⟨a, b, c, s _ _ x, y⟩
noncomputable def dFr (q : Rat) : Dt := .tup [.int q.num, .int q.den]
noncomputable def dRun (r : TRun) : Dt := .tup [.str r.1, .str r.2.1, dFr r.2.2]
theorem den_fr {H : Hp} {v : V} {q : Rat} (h : FrQ H v q) : Den H (dFr q) v := let ⟨p, e, h⟩ := h; e ▸ den2 h
theorem den_runs {H : Hp} : ∀ {n : List TRun} {vs : List V}, Paired (RunQ H) vs (kn n) → DenL H (n.map dRun) vs
  | [], _, .nil => rfl
  | r :: n, _, .cons h t => by
    obtain ⟨p, u, rfl, h1, h2⟩ := h
    exact ⟨_, _, rfl, ⟨p, _, rfl, h1, _, _, rfl, rfl, _, _, rfl, rfl, _, _, rfl, den_fr h2, rfl⟩, den_runs t⟩
theorem dep_runs : ∀ n : List TRun, depL (n.map dRun) ≤ 10
  | [] => by decide
  | r :: n => by
    have h1 := dep_runs n
    have h2 : dep (dRun r) ≤ 10 := Nat.le_of_ble_eq_true rfl
    show max _ _ ≤ _
    omega
noncomputable abbrev sA : Str := Str.ofString "a"
noncomputable abbrev sB : Str := Str.ofString "b"
noncomputable def n0 : List TRun := [(sA, sB, Rat.divInt 1 2)]
theorem lowT_pos {t b : Int} (ht : 0 < t) (hb : 0 < b) : 0 < lowT t b := by
  have e := low_worth (t := t) (b := b) (by omega)
  have hp := lowB_pos (t := t) (b := b) (by omega)
  have : 0 < lowT t b * b := by rw [e]; exact Int.mul_pos ht hp
  exact Int.pos_of_mul_pos_left this hb
end L2
namespace L2
open PySem PySem.Spec PySem.W PySem.Calls PyProof.Rows PySem.Builtin PySem.Builtin.ObjectAttr PySem.Builtin.Getset_descriptor
structure XCls (K : Frag) (C : Addr) : Prop where
  ga : findIn K (.ref C) "__getattribute__" = some (some (.builtin "BaseException.__getattribute__"))
  gt : findIn K (.ref C) "__getattr__" = some none
  ca : findIn K (.ref C) "__class__" = some (some (.builtin "object.__class__"))
  ob : subIn K (.ref C) (.type "object") = some true
  be : subIn K (.ref C) (.type "BaseException") = some true
  ic : (clsIn K C).isSome = true
theorem XCls.obj {K : Frag} {C : Addr} (Z : XCls K C) : ∃ c d cd sl, K.lookup C = some ⟨c, d, .cls cd, sl⟩ := by
  have q := Z.ic
  unfold clsIn at q
  split at q
  · exact ⟨_, _, _, _, by assumption⟩
  · cases q
noncomputable def KitR (a C : Addr) (h : Heap) : Prop := ∃ o, h.get? a = some o ∧ o.cls = .ref C
theorem KitR.ty {a C : Addr} {h : Heap} (M : Model) (p : KitR a C h) : Looks M h (typeOf (.ref a)) (.ref C) := by
  obtain ⟨o, h1, h2⟩ := p
  have q := (Looks.ld (M := M) (part := some headPart) h1).andThen (f := fun o => pure o.cls) .now
  rw [h2] at q; exact q
section
variable {prog : Program} {w : World} {A : Around} {E : Value → Shared → Prop} {s : Shared} {K : Frag} {x C : Addr}
theorem x_class_get {R : Result → Shared → Prop} {tp : Value} (Z : XCls K C) (X : K.In s.heap) (p : KitR x C s.heap) (h : R (.ok (.ret (.ref C))) s) :
    codeAny (model prog w) A (.call (.builtin "getset_descriptor.__get__") ⟨[.builtin "object.__class__", .ref x, tp], []⟩) R s := by
  obtain ⟨h1, gs, dw, tn, so⟩ := s
  have L0 := p.ty (model prog w)
  have L1 := looks_subIn (M := model prog w) X Z.ob
  refine codeAny_call_builtin (h := KF.slot_gs.check _ _ _ _ _ _ _ _ KF.type_class (KF.args_gs _ _ _) ?_) KF.slot_gs.plain KF.entry_gs
  unfold Builtin.«getset_descriptor.__get__»; unfold descrGet; rw [dga_obj]; refine wpAny_bind (wpAny_pure ?_)
  unfold descrGetter descrCheckInstance; unfold descrNameAndClass isInstance; simp only [KF.owner_class]
  repeat lk
  refine ⟨Code.quiet_builtin _ (by decide +kernel), ?_⟩; refine codeAny_builtin KF.entry_class ?_; unfold Builtin.«object.__class__»; unfold shownTypeOf
  repeat lk
  exact h
theorem x_check {nameV : Value} {Q : Unit → Shared → Prop} (Z : XCls K C) (X : K.In s.heap) (p : KitR x C s.heap) (h : Q () s) : wpAny (model prog w) A (checkBuiltinCall "BaseException.__getattribute__" ⟨[.ref x, nameV], []⟩) Q E s := by
  obtain ⟨h1, gs, dw, tn, so⟩ := s
  have q1 : builtinKind "BaseException.__getattribute__" = some .slot := by decide +kernel
  have q2 : splitId "BaseException.__getattribute__" = some ("BaseException", "__getattribute__") := by decide +kernel
  have L0 := p.ty (model prog w)
  have L1 := looks_subIn (M := model prog w) X Z.be
  have ha := F.args_bexc_ga (.ref x) nameV
  simp only [checkBuiltinCall, q1, q2]
  refine wpAny_bind ?_
  · unfold isInstance
    repeat (first | lk | wp_step)
    exact h
theorem x_entry {tk : Tok} {Q : Fin → Shared → Prop} (Z : XCls K C) (X : K.In s.heap) (p : KitR x C s.heap) (h : Q (.done (.ret (.ref C))) s) :
    wpAny (model prog w) A (Builtin.«object.__getattribute__» ⟨[.ref x, .str "__class__" tk], []⟩) Q E s := by
  obtain ⟨h1, gs, dw, tn, so⟩ := s
  have L0 := p.ty (model prog w)
  have L1 := looks_findIn (M := model prog w) X Z.ca
  have q5 := F.typeOf_object_class; have q6 := F.slot_gs_get.lookup; have q7 := F.slot_gs_set.lookup
  obtain ⟨o, hx, hc⟩ := id p
  repeat (any_goals (first | assumption | (with_reducible refine wpAny_loadPart_at hx ?_; rw [hc]) | with_reducible refine L1.here ?_ | wp_step))
  refine x_class_get Z X p ?_
  repeat any_goals (first | assumption | wp_step)
theorem x_call {tk : Tok} {R : Result → Shared → Prop} (Z : XCls K C) (X : K.In s.heap) (p : KitR x C s.heap) (h : R (.ok (.ret (.ref C))) s) :
    codeAny (model prog w) A (.call (.builtin "BaseException.__getattribute__") ⟨[.ref x, .str "__class__" tk], []⟩) R s :=
  codeAny_call_builtin F.attr_ValueError.ga.plain F.entry_bexc_ga (x_check Z X p (x_entry Z X p h))
theorem x_by {tk : Tok} {Q : Value → Shared → Prop} (Z : XCls K C) (X : K.In s.heap) (p : KitR x C s.heap) (h : Q (.ref C) s) :
    wpAny (model prog w) A (getAttrBy (.ref x) (.str "__class__" tk) false) Q E s := by
  obtain ⟨h1, gs, dw, tn, so⟩ := s
  have L0 := p.ty (model prog w)
  have L1 := looks_findIn (M := model prog w) X Z.ga
  have L2 := looks_findIn (M := model prog w) X Z.gt
  have f3 := F.attr_ValueError.ga.bind (.ref x)
  have n2 : (Value.builtin "BaseException.__getattribute__" == Value.builtin "object.__getattribute__") = false := by decide +kernel
  have n1 : (onTheHeap (Value.ref C) && Value.builtin "BaseException.__getattribute__" == Value.builtin "object.__getattribute__") = false := by rw [n2]; rfl
  have n0 : (false && onTheHeap (Value.builtin "BaseException.__getattribute__")) = false := rfl
  obtain ⟨o, hx, hc⟩ := id p
  repeat (any_goals (first | assumption | (with_reducible refine wpAny_loadPart_at hx ?_; rw [hc]) | with_reducible refine L1.here ?_ | with_reducible refine L2.here ?_ | wp_step))
  refine x_call Z X p ?_
  repeat any_goals (first | assumption | wp_step)
theorem x_cls {Q : Option Value → Shared → Prop} (Z : XCls K C) (X : K.In s.heap) (p : KitR x C s.heap) (h : Q (some (.ref C)) { s with toks := s.toks + 1 }) : wpAny (model prog w) A (getAttr? (.ref x) "__class__") Q E s := by
  obtain ⟨h1, gs, dw, tn, so⟩ := s
  unfold getAttr? getAttrBy?
  exact wpAny_bind (wpAny_mkText (wpAny_bind (wpAny_attempt (x_by (s := ⟨h1, gs, dw, tn + 1, so⟩) Z X p (wpAny_pure h)))))
end
theorem kitx_exc {K : Frag} {a C : Addr} (Z : XCls K C) : KitX K (.ref a) (.ref C) (KitR a C) where
  ty := fun M h _ p => p.ty M
  it := fun M h X _ => by
    obtain ⟨c, d, cd, sl, ho⟩ := Z.obj
    intro A' Q' E' s' k q
    unfold isType loadHead
    exact wpAny_bind (wpAny_loadPart (k C _ (X C _ ho)) (wpAny_pure q))
  ne := fun h b _ _ _ _ X hb => by
    obtain ⟨c, d, cd, sl, ho⟩ := Z.obj
    refine Bool.eq_false_iff.mpr ?_
    intro q
    obtain rfl : C = b := Value.ref.inj (beq_iff_eq.mp q)
    rw [X C _ ho] at hb; cases hb
  ca := fun X p k => x_cls Z X p k
end L2
namespace L2
open PySem PySem.Spec PyProof.Rows
structure Kpt (fs xs : List Addr) (h h' : Heap) : Prop where
  keep : ∀ b o, h.get? b = some o → b ∉ fs → b ∉ xs → h'.get? b = some o
  slot : ∀ b o, h.get? b = some o → b ∈ fs → b ∉ xs → ∃ sl, h'.get? b = some { o with slots := sl }
section
variable {fs fs' xs xs' : List Addr} {h h0 h1 h2 h' : Heap} {H H' : Hp} {P : Program} {w : World}
theorem Kpt.there (k : Kpt fs xs h h') {b : Addr} {o : Obj} (e : h.get? b = some o) (n : b ∉ xs) : ∃ sl, h'.get? b = some { o with slots := sl } := by
  by_cases hb : b ∈ fs
  · exact k.slot b o e hb n
  · exact ⟨o.slots, k.keep b o e hb n⟩
theorem Kpt.mv {L : Addr} (k : Kpt (L :: fs) xs h h') : Kpt fs (L :: xs) h h' where
  keep := fun b o e n m => k.keep b o e (fun z => (List.mem_cons.mp z).elim (fun q => m (q ▸ List.mem_cons_self)) n) fun z => m (List.mem_cons_of_mem _ z)
  slot := fun b o e n m => k.slot b o e (List.mem_cons_of_mem _ n) fun z => m (List.mem_cons_of_mem _ z)
theorem ObjOk.at {a : Addr} {o : HO} (x : ObjOk P w H h a o) : ∃ ob, h.get? a = some ob := by
  cases o with
  | lst xs => obtain ⟨_, _, _, _, e⟩ := x; exact ⟨_, e⟩
  | tup xs => obtain ⟨_, _, _, ⟨o, e, _⟩⟩ := x; exact ⟨_, e⟩
  | dK kvs => obtain ⟨_, _, _, _, o, _, _, e, _⟩ := x; exact ⟨_, e⟩
  | dT kvs => obtain ⟨_, _, _, _, o, _, _, e, _⟩ := x; exact ⟨_, e⟩
  | set S n => obtain ⟨o, _, _, _, e, _⟩ := x; exact ⟨_, e⟩
  | ins C dx fs => obtain ⟨_, _, _, e, _⟩ := x; exact ⟨_, e⟩
  | own y => obtain ⟨_, e⟩ := x; exact ⟨_, e⟩
  | xd fs => obtain ⟨_, ⟨_, _, _, e, _⟩, _⟩ := x; exact ⟨_, e⟩
  | rng lo hi => obtain ⟨_, _, _, e⟩ := x; exact ⟨_, e⟩
  | frz ob u => obtain ⟨e, _⟩ := x; exact ⟨_, e⟩
  | tbl ps => exact ⟨_, (show h.get? a = some _ from x)⟩
  | met f y => exact ⟨_, (show h.get? a = some _ from x)⟩
  | ext φ => obtain ⟨_, ⟨_, e⟩, _⟩ := x; exact ⟨_, e⟩
theorem HOk.none_of (x : HOk P w H h) {a : Addr} (e : h.get? a = none) : H a = none := by
  cases q : H a with
  | none => rfl
  | some o =>
    obtain ⟨ob, z⟩ := (x a o q).at
    rw [e] at z; cases z
theorem HOk.kpt (ok : HOk P w H h) (k : Kpt fs xs h h') (hf : ∀ b ∈ fs, H b = none) (hx : ∀ b ∈ xs, H b = none) : HOk P w H h' := fun a o e => by
  have key : ∀ b u, H b = some u → b ∉ fs ∧ b ∉ xs := fun b u q => ⟨fun z => (by rw [hf b z] at q; cases q), fun z => (by rw [hx b z] at q; cases q)⟩
  refine (ok a o e).stay (fun b u hb q => ?_) (fun _ q => q) fun _ _ q => q
  rcases hb with rfl | hb
  · exact k.keep b u q (key b o e).1 (key b o e).2
  · exact k.keep b u q (key b _ hb).1 (key b _ hb).2
theorem HOk.track (ok : HOk P w H h) {a : Addr} {o : HO} (hn : H a = none) (new : ObjOk P w (upd H a o) h a o) : HOk P w (upd H a o) h := fun b u q => by
  by_cases hb : b = a
  · subst hb; rw [upd_same] at q; cases q; exact new
  · rw [upd_ne hb] at q
    exact (ok b u q).stay (fun _ _ _ z => z) (fun c r => by rw [upd_ne (ne_of_none r hn)]; exact r) fun c xs r => by rw [upd_ne (ne_of_none r hn)]; exact r
theorem Un.kpt (u : Un fs [] H H' h0 h) (k : Kpt fs xs h h') (hx : ∀ b ∈ xs, h0.get? b = none) : Un fs [] H H' h0 h' := by
  have nx : ∀ b o, h0.get? b = some o → b ∉ xs := fun b o e z => by rw [hx b z] at e; cases e
  refine ⟨fun b o e n hb he => k.keep b o (u.keep b o e n hb he) hb (nx b o e), fun b o e n hb he => ?_, u.free, fun b o e he => ?_, u.tups, u.frzs, u.tbls⟩
  · obtain ⟨sl, q⟩ := u.slot b o e n hb he
    obtain ⟨sl', q'⟩ := k.slot b _ q hb (nx b o e)
    exact ⟨sl', q'⟩
  · obtain ⟨o', q⟩ := u.there b o e he
    obtain ⟨sl, q'⟩ := k.there q (nx b o e)
    exact ⟨_, q'⟩
theorem Un.track {ex : List Addr} {a : Addr} {o : HO} (u : Un fs ex H H' h h') (hn : H' a = none) (hh : h.get? a = none) : Un fs ex H (upd H' a o) h h' where
  keep := u.keep
  slot := u.slot
  free := fun b ob e n hx => by rw [upd_ne (fun z => by rw [z, hh] at e; cases e)]; exact u.free b ob e n hx
  there := u.there
  tups := fun b xs q => by rw [upd_ne (ne_of_none (u.tups b xs q) hn)]; exact u.tups b xs q
  frzs := fun b ob xs q => by rw [upd_ne (ne_of_none (u.frzs b ob xs q) hn)]; exact u.frzs b ob xs q
  tbls := fun b ps q => by
    obtain ⟨m, e⟩ := u.tbls b ps q
    exact ⟨m, by rw [upd_ne (ne_of_none e hn)]; exact e⟩
theorem Un.was (u : Un fs [] H H' h h') {a : Addr} (e : h'.get? a = none) : h.get? a = none := by
  cases q : h.get? a with
  | none => rfl
  | some o =>
    obtain ⟨o', z⟩ := u.there a o q (by simp)
    rw [e] at z; cases z
end
noncomputable def FlyA (x T C : Addr) (fl : Value) (h : Heap) : Prop := ∃ oe vs oT ts, h.get? x = some oe ∧ oe.cls = .ref C ∧ oe.data = .fields vs ∧ vs[1]? = some (.ref T) ∧ vs[2]? = some .none ∧ T ≠ x ∧ h.get? T = some oT ∧ oT.data = .fields ts ∧ ts[3]? = some fl
noncomputable abbrev Fly (x T C : Addr) (h : Heap) : Prop := FlyA x T C .none h
noncomputable def ExR (x C : Addr) (h : Heap) : Prop := ∃ o vs, h.get? x = some o ∧ o.cls = .ref C ∧ o.data = .fields vs ∧ vs[2]? = some .none
theorem ExR.kitR {x C : Addr} {h : Heap} (f : ExR x C h) : KitR x C h := by
  obtain ⟨oe, _, e, c, _⟩ := f
  exact ⟨oe, e, c⟩
theorem FlyA.exR {x T C : Addr} {fl : Value} {h : Heap} (f : FlyA x T C fl h) : ExR x C h := by
  obtain ⟨oe, vs, _, _, e, c, d, _, z, _⟩ := f
  exact ⟨oe, vs, e, c, d, z⟩
theorem Kpt.refl {fs xs : List Addr} {h : Heap} : Kpt fs xs h h := ⟨fun _ _ e _ _ => e, fun _ o e _ _ => ⟨o.slots, e⟩⟩
theorem Kpt.upd {fs xs : List Addr} {h h1 : Heap} {a : Addr} (k : Kpt fs xs h h1) (f : Obj → Obj) (ha : a ∈ xs ∨ h.get? a = none) : Kpt fs xs h (h1.update a f) := by
  have na : ∀ b o, h.get? b = some o → b ∉ xs → a ≠ b := fun b o e n z => by
    rcases ha with q | q
    · exact n (z ▸ q)
    · rw [z, e] at q; cases q
  exact ⟨fun b o e n m => (Heap.get?_update_other _ _ (na b o e m)).trans (k.keep b o e n m), fun b o e n m => (k.slot b o e n m).imp fun sl q => (Heap.get?_update_other _ _ (na b o e m)).trans q⟩
theorem Kpt.push {fs xs : List Addr} {h h1 : Heap} (k : Kpt fs xs h h1) (o : Obj) : Kpt fs xs h (h1.push o) :=
  ⟨fun b u e n m => Heap.get?_push_of_some _ (k.keep b u e n m), fun b u e n m => (k.slot b u e n m).imp fun sl q => Heap.get?_push_of_some _ q⟩
section
variable {M : Model} {A : Around} {E : Value → Shared → Prop} {s : Shared} {base : Heap} {env : Env} {outer l : List Env} {L x T C : Addr} {Q : Unit → Shared → Prop}
noncomputable def newHead (env : Env) (L x : Addr) (head : Value) (b : Bool) : Sem Unit := frameOf env >>= fun a => entryPlaceOf L b >>= fun pl => EntryCells.newEntry head a .none (rawInt L) .none pl >>= fun v => setField (.ref x) 1 v
theorem fl_entry {oe : Obj} {vs : Array Value} {head : Value} {b : Bool} (hfr : A.frames = some (env :: outer)) (hf : env.frame = some L) (hl : s.heap.FunFrames base (env :: outer)) (he : s.heap.get? x = some oe) (hc : oe.cls = .ref C) (hd : oe.data = .fields vs)
    (h1 : 1 < vs.size) (h2 : vs[2]? = some .none) (k : ∀ h' T', FlyA x T' C (rawInt L) h' → s.heap.get? T' = none → Kpt (frs (env :: outer)) [x] s.heap h' → Q () { s with heap := h' }) : wpAny M A (newHead env L x head b) Q E s := by
  have nfr : x ∉ frs (env :: outer) := fun hm => by
    obtain ⟨_, o, ho, hn⟩ := hl.mem hm
    rw [he] at ho; cases ho
    exact hn vs hd
  refine wpAny_bind (wpAny_frameOf_fun hfr hl hf fun g hg => wpAny_bind (wpAny_entryPlaceOf fun pl hpl => wpAny_bind ?_))
  unfold EntryCells.newEntry newFields
  refine wpAny_newObj_type ?_ (hpl.sizeOk5 _ _ _ _ _)
  generalize hts : ([head, Value.ref L, Value.none, rawInt L, Value.none] ++ (if pl.isEmpty then List.replicate 6 Value.none else pl)).toArray = ts
  have e1 : g.get? x = some oe := (hg.2.1 x nfr).trans he
  have nT : g.objs.size ≠ x := Nat.ne_of_gt (Heap.lt_size e1)
  have e2 := Heap.get?_push_of_some (h := g) { cls := .type "traceback", dict := none, data := .fields ts } e1
  refine wpAny_setField e2 hd h1 (k _ g.objs.size ?_ ?_ ?_)
  · have d3 := Obj.data_mapFields hd (·.setIfInBounds 1 (Value.ref g.objs.size))
    refine ⟨_, _, _, ts, Heap.get?_update_self _ e2 (Obj.isFreed_of_fields d3), (Obj.cls_mapFields _ _).trans hc, d3, by simp [h1], ?_, nT, (Heap.get?_update_other _ _ (Ne.symm nT)).trans (Heap.get?_push_size g rfl), rfl, by rw [← hts]; simp⟩
    rw [Array.getElem?_setIfInBounds_ne (by decide)]; exact h2
  · exact Heap.get?_none_of_le (Nat.le_of_eq hg.1.symm)
  · refine Kpt.upd (Kpt.push ⟨fun b o e n m => (hg.2.1 b n).trans e, fun b o e n m => hg.2.2 b o e⟩ _) _ (.inl (by simp))
theorem fl_land {fl : Value} {h0 : Heap} {fs : List Addr} (f : FlyA x T C fl s.heap) (k0 : Kpt fs [x, T] h0 s.heap ∨ (Kpt fs [x] h0 s.heap ∧ h0.get? T = none))
    (k : ∀ h', Fly x T C h' → (Kpt fs [x, T] h0 h') → (h0.get? T = none → Kpt fs [x] h0 s.heap → Kpt fs [x] h0 h') → Q () { s with heap := h' }) : wpAny M A (setFlight (.ref x) none) Q E s := by
  obtain ⟨oe, vs, oT, ts, e1, e2, e3, e4, e5, e6, e7, e8, e9⟩ := f
  have sz : 3 < ts.size := (Array.getElem?_eq_some_iff.mp e9).1
  unfold setFlight
  refine wpAny_bind (wpAny_field e1 e3 e4 ?_)
  rw [if_pos (by simp)]
  have d3 := Obj.data_mapFields e8 (·.setIfInBounds 3 ((none : Option Addr).elim Value.none fun f => rawInt f))
  refine wpAny_setField e7 e8 sz (k _ ⟨oe, vs, _, _, (Heap.get?_update_other _ _ e6).trans e1, e2, e3, e4, e5, e6, Heap.get?_update_self _ e7 (Obj.isFreed_of_fields d3), d3, by simp [sz]⟩ ?_ fun q z => z.upd _ (.inr q))
  rcases k0 with z | ⟨z, q⟩
  · exact z.upd _ (.inl (by simp))
  · exact Kpt.upd ⟨fun b o e n m => z.keep b o e n fun y => m (by simp at y; simp [y]), fun b o e n m => z.slot b o e n fun y => m (by simp at y; simp [y])⟩ _ (.inl (by simp))
theorem fl_note0 {oe : Obj} {vs : Array Value} (hfr : A.frames = some (env :: outer)) (hf : env.frame = some L) (hl : s.heap.FunFrames base (env :: outer)) (he : s.heap.get? x = some oe) (hc : oe.cls = .ref C) (hd : oe.data = .fields vs)
    (h1 : vs[1]? = some .none) (h2 : vs[2]? = some .none) (k : ∀ h' T', FlyA x T' C (rawInt L) h' → s.heap.get? T' = none → Kpt (frs (env :: outer)) [x] s.heap h' → Q () { s with heap := h' }) : wpAny M A (noteFrame (.ref x) env) Q E s := by
  unfold noteFrame
  simp only [hf]
  refine wpAny_bind (wpAny_field he hd h1 ?_)
  rw [if_neg (by decide)]
  exact fl_entry hfr hf hl he hc hd (Array.getElem?_eq_some_iff.mp h1).1 h2 k
theorem fl_note1 (hfr : A.frames = some (env :: outer)) (hf : env.frame = some L) (hl : s.heap.FunFrames base (env :: outer)) (f : Fly x T C s.heap)
    (k : ∀ h' T', FlyA x T' C (rawInt L) h' → s.heap.get? T' = none → Kpt (frs (env :: outer)) [x, T] s.heap h' → Q () { s with heap := h' }) : wpAny M A (noteFrame (.ref x) env) Q E s := by
  obtain ⟨oe, vs, oT, ts, e1, e2, e3, e4, e5, e6, e7, e8, e9⟩ := f
  unfold noteFrame
  simp only [hf]
  refine wpAny_bind (wpAny_field e1 e3 e4 ?_)
  rw [if_pos (by simp)]
  refine wpAny_bind (wpAny_field e7 e8 e9 ?_)
  rw [if_neg (by simp [rawInt])]
  refine wpAny_bind (wpAny_setField e7 e8 (Array.getElem?_eq_some_iff.mp e9).1 ?_)
  have oth : ∀ b, b ≠ T → (s.heap.update T (Obj.mapFields (·.setIfInBounds 3 Value.none))).get? b = s.heap.get? b := fun b hb => Heap.get?_update_other _ _ (Ne.symm hb)
  have hl' : (s.heap.update T (Obj.mapFields (·.setIfInBounds 3 Value.none))).FunFrames base (env :: outer) := hl.of_keeps fun b o hb hn => ⟨o, (oth b fun z => by rw [z, e7] at hb; cases hb; exact hn ts e8).trans hb, rfl⟩
  refine fl_entry (s := { s with heap := s.heap.update T (Obj.mapFields (·.setIfInBounds 3 Value.none)) }) hfr hf hl' ((oth x (Ne.symm e6)).trans e1) e2 e3 (Array.getElem?_eq_some_iff.mp e4).1 e5 fun h' T' f' n' k' => k h' T' f' ?_ ?_
  · cases z : s.heap.get? T' with
    | none => rfl
    | some o =>
      exfalso
      by_cases q : T' = T
      · have d3 := Obj.data_mapFields e8 (·.setIfInBounds 3 Value.none)
        have := Heap.get?_update_self (Obj.mapFields (·.setIfInBounds 3 Value.none)) e7 (Obj.isFreed_of_fields d3)
        rw [← q, show Heap.get? (s.heap.update T' _) T' = none from q ▸ n'] at this; cases this
      · have := (oth T' q).trans z
        rw [show Heap.get? (s.heap.update T _) T' = none from n'] at this; cases this
  · refine ⟨fun b o e n m => k'.keep b o ((oth b fun z => m (by simp [z])).trans e) n fun y => m (by simp at y; simp [y]), fun b o e n m => k'.slot b o ((oth b fun z => m (by simp [z])).trans e) n fun y => m (by simp at y; simp [y])⟩
theorem fly_note (hfr : A.frames = some (env :: outer)) (hf : env.frame = some L) (hl : s.heap.FunFrames base (env :: outer)) (f : Fly x T C s.heap)
    (k : ∀ h' T', Fly x T' C h' → (T' = T ∨ s.heap.get? T' = none) → Kpt (frs (env :: outer)) [x, T] s.heap h' → Q () { s with heap := h' }) :
    wpAny M A (noteFrame (.ref x) env) (fun _ s₂ => wpAny M A (setFlight (.ref x) none) Q E s₂) E s := by
  refine fl_note1 hfr hf hl f fun h1 T1 f1 n1 k1 => ?_
  refine fl_land (s := { s with heap := h1 }) (h0 := h1) (fs := []) f1 (.inl .refl) fun h2 f2 k2 _ => k h2 T1 f2 (.inr n1) ?_
  have nT : ∀ b o, s.heap.get? b = some o → b ∉ [x, T] → b ∉ [x, T1] := fun b o e m z => by
    rcases List.mem_cons.mp z with z | z
    · exact m (by simp [z])
    · rw [List.mem_singleton.mp z, n1] at e; cases e
  exact ⟨fun b o e n m => k2.keep b o (k1.keep b o e n m) (by simp) (nT b o e m), fun b o e n m => (k1.slot b o e n m).imp fun sl q => k2.keep b _ q (by simp) (nT b o e m)⟩
theorem fly_again (f : Fly x T C s.heap) (k : ∀ h', Fly x T C h' → Kpt (frs l) [x, T] s.heap h' → Q () { s with heap := h' }) : wpAny M A (setFlight (.ref x) none) Q E s :=
  fl_land f (.inl (Kpt.refl (fs := frs l))) fun h' f' k' _ => k h' f' k'
theorem fly_first {oe : Obj} {vs : Array Value} (hfr : A.frames = some (env :: outer)) (hf : env.frame = some L) (hl : s.heap.FunFrames base (env :: outer)) (he : s.heap.get? x = some oe) (hc : oe.cls = .ref C) (hd : oe.data = .fields vs)
    (h1 : vs[1]? = some .none) (h2 : vs[2]? = some .none)
    (k : ∀ h' T', Fly x T' C h' → s.heap.get? T' = none → Kpt (frs (env :: outer)) [x] s.heap h' → Q () { s with heap := h' }) : wpAny M A (leaving env (.ref x)) Q E s := by
  unfold leaving
  refine wpAny_bind (fl_note0 hfr hf hl he hc hd h1 h2 fun g T1 f1 n1 k1 => ?_)
  exact fl_land (s := { s with heap := g }) f1 (.inr ⟨k1, n1⟩) fun h2 f2 _ k2 => k h2 T1 f2 n1 (k2 n1 k1)
end
end L2
namespace L2
open PySem PySem.Spec PyProof.Rows
noncomputable def excO (x C : Addr) : HO := .ext (ExR x C)
theorem excO_ok {P : Program} {w : World} {H : Hp} {h : Heap} {x C : Addr} (k : ExR x C h) : ObjOk P w H h x (excO x C) :=
  ⟨k, (let ⟨o, _, e, _⟩ := k; ⟨o, e⟩), fun _ _ ⟨o, vs, e, c⟩ kp => ⟨o, vs, kp o e, c⟩⟩
noncomputable def CXe (P : Program) (w : World) : CXT := fun outer H s E e s' => ∃ x T C H', e = Value.ref x ∧ s'.os = s.os ∧ AllBare s'.gens ∧ Un (frs outer) [] H H' s.heap s'.heap ∧ HOk P w H' s'.heap ∧
  s.heap.get? x = none ∧ s.heap.get? T = none ∧ H' x = none ∧ H' T = none ∧ Fly x T C s'.heap ∧ E (.ref C) none H'
section
variable {P : Program} {w : World} {K : PySem.W.Frag} {mg : Str → Option Value} {base : Heap} {N : List Str} {qual : Str} {scope : Scope} {f : Addr} {cd : Value} {A : Around} {outer : List Env} {s : Shared} {H : Hp} {E : XK}
theorem xe_new {pins : List (Addr × Obj)} {σ : St} {H1 : Hp} {s1 : Shared} {h' : Heap} {x C : Addr} {args : List Value} (I : Inv (cxOf (CXe P w) P w K mg base N qual scope f cd A outer s H E) pins σ H1 s1)
    (m : Heap.MadeExcOf s1.heap h' x (.ref C) args) (q : E (.ref C) none H1) : (cxOf (CXe P w) P w K mg base N qual scope f cd A outer s H E).xe (.ref x) { s1 with heap := h' } := by
  obtain ⟨t, he, htn, ht⟩ := m.there
  have fr := I.stack
  refine fly_first (s := { s1 with heap := h' }) I.ok.frames rfl (fr.of_keeps fun b o z _ => ⟨o, m.keeps b o z, rfl⟩) he rfl rfl rfl rfl fun h2 T fl n k => ?_
  have k' : Kpt (s.heap.objs.size :: frs outer) [x] h' h2 := k
  have u : Un (frs outer) [] H H1 s.heap s1.heap := I.base
  have hn : ∀ b, s1.heap.get? b = none → s.heap.get? b = none := fun b z => u.was z
  have hT : s1.heap.get? T = none := by
    cases z : s1.heap.get? T with
    | none => rfl
    | some o =>
      have := m.keeps T o z
      rw [show h'.get? T = none from n] at this; cases this
  refine ⟨x, T, C, H1, rfl, I.os, I.bare, ((u.trans (Un.kept m.keeps)).kpt k'.mv fun b hb => ?_), (I.hok.kept m.keeps).kpt k' (fun b hb => I.stkFree b hb) (fun b hb => ?_), hn x m.new, hn T hT, I.hok.none_of m.new, I.hok.none_of hT, fl, q⟩
  · rcases List.mem_cons.mp hb with z | z
    · rw [z]; exact Heap.get?_none_of_le (Nat.le_refl _)
    · rw [List.mem_singleton.mp z]; exact hn x m.new
  · rw [List.mem_singleton.mp hb]; exact I.hok.none_of m.new
theorem passN {X : Cx} : Passes (CXe P w) X E0 := fun _ _ _ _ _ _ _ h => by
  obtain ⟨_, _, _, _, _, _, _, _, _, _, _, _, _, _, q⟩ := h
  exact q.elim
end
def bmVE : List Value := [.type "ValueError", .type "Exception", .type "BaseException", .type "object"]
theorem exc_obj {K : PySem.W.Frag} {h : Heap} {C : Addr} {bmB : List Value} {newId : String} (X : K.In h) (q : PySem.W.excIn K C bmB newId = true) :
    ∃ nm qn N bs bm hdct sn sub ab col dd k0 k1 k2 k3 k5 mN, h.get? C = some (excClassObj nm qn C N bs bm hdct sn sub ab col dd k0 k1 k2 k3 k5 newId) ∧ h.Ns N mN ∧ mN "__init__" = none ∧ OwnTail h bmB bm := by
  unfold PySem.W.excIn at q
  split at q
  case h_2 => cases q
  rename_i dd cd sl ho
  split at q
  case h_2 => cases q
  rename_i C' bm k0 k1 k2 k3 n k5 hm hs
  simp only [Bool.and_eq_true, beq_iff_eq, Bool.not_eq_true'] at q
  obtain ⟨⟨⟨⟨⟨q1, q2⟩, q3⟩, q4⟩, q5⟩, q6⟩ := q
  subst q1 q2
  obtain ⟨c1, c2, c3, c4, c5, c6, c7, c8, c9, c10, c11⟩ := cd
  dsimp only at hm q3 q5 q6
  subst hm q3
  obtain ⟨l⟩ := sl
  have e : l = [k0, k1, k2, k3, some (.builtin n), k5] := hs
  subst e
  exact ⟨_, _, _, _, _, _, _, _, _, _, _, _, _, _, _, _, _, X C' _ ho, .of_isNs (PySem.W.isNs_of_in X q5), PySem.W.nsMap_none_of_in X q5 q6, PySem.W.tail_of_in X q4⟩
noncomputable def tRaise (C : Addr) (E : XK) (t : TA) : TS := fun _ σ H => t σ H fun vs H1 => vs.length ≤ sizeLine ∧ E (.ref C) none H1
theorem r_raise {C : Addr} {E : XK} {t : TA} {D : Ends} {σ : St} {H : Hp} (k : t σ H fun vs H1 => vs.length ≤ sizeLine ∧ E (.ref C) none H1) : tRaise C E t D σ H := k
noncomputable def Raises (X : Cx) (E : XK) : Prop := ∀ (pins : List (Addr × Obj)) (σ : St) (H1 : Hp) (s1 : Shared) (h' : Heap) (x C : Addr) (args : List Value), Inv X pins σ H1 s1 → Heap.MadeExcOf s1.heap h' x (.ref C) args → E (.ref C) none H1 → X.xe (.ref x) { s1 with heap := h' }
theorem ps_raise {X : Cx} {E : XK} {C : Addr} {n : Str} {newId Bn inN : String} {bmN : List Value} {e : Expr} {es : List Expr} {t : TA} {np cpos pos : Pos} (hr : Raises X E) (hc : X.calm = true) (hg : Gl X n) (hm : X.mg n = some (.ref C))
    (hx : PySem.W.excIn X.K C bmVE newId = true) (Fn : ExcBaseFacts Bn newId inN bmN) (hBn : bmVE.contains (.type Bn) = true) (ha : PA X (e :: es) t)
    (hd : (n == ("__debug__" : Str)) = false := by decide) (he : starEach (e :: es) X.env = (false, eval e X.env) :: starEach es X.env := by rfl) (hpl : (backTo cpos (starEach es X.env)).any (·.1) = false := by rfl) :
    PS X (.Raise (some (.Call (.Name n np) (e :: es) [] cpos)) none pos) (tRaise C E t) := by
  intro pins s σ H D I h
  obtain ⟨nm, qn, N, bs, bm, hdct, sn, sub, ab, col, dd, k0, k1, k2, k3, k5, mN, hC, hN, hni, T0⟩ := exc_obj I.mod.kin hx
  have hpl' : (backTo cpos (starEach (e :: es) X.env)).any (·.1) = false := by rw [he]; exact hpl
  refine wpAny_Raise_call_subU (C := C) (nm := nm) (q := qn) (N := N) (bs := bs) (hdct := hdct) (sn := sn) (sub := sub) (ab := ab) (col := col) (dd := dd) (k0 := k0) (k1 := k1) (k2 := k2) (k3 := k3) (k5 := k5)
    Fn hBn F.excBase_ValueError (T0.hasType (by decide)) (I.ok.hd hc) hpl' hni (mN := mN) (ld_glob I hg hm ⟨rfl, ?_⟩ hd)
  have hs := ha cpos pins s σ H _ I h
  rw [he] at hs ⊢
  refine Calls.evalArgs_plain (thn hs fun us s1 ⟨vs, H1, I1, r, q1, q2⟩ => ?_)
  exact ⟨rfl, by rw [← r.length]; exact q1, I1.bk C _ hC, hN.keeps I1.bk, T0.keeps I1.bk, fun h' x m => hr pins σ H1 s1 h' x C us I1 m q2⟩
end L2
namespace L2
open PySem PySem.Spec PyProof.Rows
structure OkfX (P : Program) (w : World) (K : PySem.W.Frag) (mg : Str → Option Value) (base : Heap) (k : Nat) (x : Str) (ps : List Str) (dvs : List V) (sp : Sp) : Prop where
  ex : ∃ (f : Addr) (fd : FuncData), mg x = some (.ref f) ∧ PySem.W.keepIn K (.ref f) = true ∧ Binds K fd ps [] ∧ (∃ ds, Vals dvs ds ∧ Binds K fd ps ds) ∧ FnOk P w K mg base (CXe P w) k f fd ps sp
section
variable {P : Program} {w : World} {K : PySem.W.Frag} {mg : Str → Option Value} {base : Heap} {j k : Nat} {x : Str} {st : Stmt} {N ps : List Str} {dvs : List V} {sp : Sp}
theorem OkfX.mono (o : OkfX P w K mg base j x ps dvs sp) (h : j ≤ k) : OkfX P w K mg base k x ps dvs sp :=
  let ⟨f, fd, a, b, c, e, d⟩ := o.ex; ⟨f, fd, a, b, c, e, d.mono h⟩
theorem OkfX.of (d : Df K mg x st ps) (S : FnScope N ps (defScope st)) (len : ∀ vs H Q E, sp vs H Q E → vs.length = ps.length)
    (hbody : ∀ (f : Addr) (cdv : Value) (A : Around) (outer : List Env) (s : Shared) (H : Hp) (vs : List V) (Q : VK) (E : XK), Room k (A.deeper (envOfC x (defScope st) s.heap.objs.size f cdv)) → sp vs H Q E →
      ∃ t, PSs (cxOf (CXe P w) P w K mg base N x (defScope st) f cdv A outer s H E) (defBody st) t ∧ t { nx := fun _ H' => Q .non H', rt := Q } (start N vs) H) : OkfX P w K mg base (k + 1) x ps [] sp := by
  obtain ⟨f, fd, ⟨oc, od, dV, kV, doc, pm, an, cdv, ct, osl, rfl, lk, hcd⟩, kp, a, b⟩ := d.ex
  exact ⟨f, _, a, kp, b, ⟨[], .nil, b⟩, fn_of lk hcd S len fun A outer s H vs Q E hr hsp => hbody f cdv A outer s H vs Q E hr hsp⟩
end
section
variable {X : Cx} {k : Nat} {x : Str} {ps : List Str} {dvs : List V} {sp : Sp} {p pos : Pos} {e : Expr} {es : List Expr} {t : TA} {E : XK}
theorem pe_callX (o : OkfX X.prog X.w X.K X.mg X.base k x ps dvs sp) (hr : Room k X.A) (hg : Gl X x) (hx : Passes (CXe X.prog X.w) X E) (ha : PA X (e :: es) t) (hdb : (x == ("__debug__" : Str)) = false := by decide)
    (he : starEach (e :: es) X.env = (false, eval e X.env) :: starEach es X.env := by rfl) (hpl : (backTo pos (starEach es X.env)).any (·.1) = false := by rfl) :
    PE X (.Call (.Name x p) (e :: es) [] pos) (tCall sp [] E t) := by
  obtain ⟨f, fd, a, b, c, _, d⟩ := o.ex
  exact pe_call d hr hg a b c .nil hx ha hdb he hpl
end
structure Frsh (X : Cx) (pins : List (Addr × Obj)) (H : Hp) (a : Addr) : Prop where
  h : H a = none
  s : X.s₀.heap.get? a = none
  l : a ≠ X.env.locals
  c : ∀ n c, X.env.cells.lookup n = some c → c ≠ a
  p : ∀ p ∈ X.pn ++ pins, p.1 ≠ a
theorem Inv.kpt {X : Cx} {pins : List (Addr × Obj)} {σ : St} {H : Hp} {s : Shared} {xs : List Addr} {h' : Heap} (I : Inv X pins σ H s) (k : Kpt (frs X.stack) xs s.heap h') (hx : ∀ b ∈ xs, Frsh X pins H b) : Inv X pins σ H { s with heap := h' } := by
  have neL : ∀ b o, X.s₀.heap.get? b = some o → b ≠ X.env.locals := fun b o e => Nat.ne_of_lt (Nat.lt_of_lt_of_le (Heap.lt_size e) I.ok.above)
  have nX : ∀ b o, X.s₀.heap.get? b = some o → b ∉ xs := fun b o e z => by rw [(hx b z).s] at e; cases e
  have nS : ∀ b, b ≠ X.env.locals → b ∉ X.fs → b ∉ frs X.stack := fun b h1 h2 z => (List.mem_cons.mp (I.stkSub b z)).elim h1 h2
  have lX : X.env.locals ∉ xs := fun z => (hx _ z).l rfl
  have cX : ∀ n c, X.env.cells.lookup n = some c → c ∉ xs := fun n c e z => (hx _ z).c n c e rfl
  have cellK : ∀ x c, X.env.cells.lookup x = some c → ∀ v, s.heap.IsCell c v → h'.IsCell c v := fun x c e v ⟨o, ho, hd⟩ => by
    obtain ⟨sl, q⟩ := k.there ho (cX x c e)
    exact ⟨_, q, hd⟩
  refine ⟨I.ok, I.os, I.bare, ⟨fun b o e n hb hx => ?_, fun b o e n hb hx => ?_, I.base.free, fun b o e hx => ?_, I.base.tups, I.base.frzs, I.base.tbls⟩, ?_, fun x c e => ?_, I.free, I.freeC, fun p hp => ?_, I.hok.kpt k (fun b hb => I.stkFree b hb) fun b hb => (hx b hb).h, I.len⟩
  · exact k.keep b o (I.base.keep b o e n hb hx) (nS b (neL b o e) hb) (nX b o e)
  · obtain ⟨sl, q⟩ := I.base.slot b o e n hb hx
    obtain ⟨sl', q'⟩ := k.there q (nX b o e)
    exact ⟨sl', q'⟩
  · obtain ⟨o', q⟩ := I.base.there b o e hx
    obtain ⟨sl', q'⟩ := k.there q (nX b o e)
    exact ⟨_, q'⟩
  · obtain ⟨m, ⟨o, es, ep, ho, r⟩, hl⟩ := I.loc
    obtain ⟨sl, q⟩ := k.there ho lX
    refine ⟨m, ⟨_, es, ep, q, r⟩, fun i x v e1 e2 e3 => ?_⟩
    obtain ⟨u, rv, l⟩ := hl i x v e1 e2 e3
    refine ⟨u, rv, ?_⟩
    rcases l with l | ⟨kk, c, e, z⟩
    · exact .inl l
    · exact .inr ⟨kk, c, e, cellK x c e _ z⟩
  · obtain ⟨v, z⟩ := I.cell x c e
    exact ⟨v, cellK x c e v z⟩
  · obtain ⟨e, n, ne, nf, d⟩ := I.pin p hp
    exact ⟨k.keep p.1 p.2 e (nS _ ne nf) (fun z => (hx _ z).p p hp rfl), n, ne, nf, d⟩
theorem Inv.frsh {X : Cx} {pins : List (Addr × Obj)} {σ : St} {H H' : Hp} {s : Shared} {a : Addr} (I : Inv X pins σ H s) (hex : X.ex = []) (e : s.heap.get? a = none) (h : H' a = none) : Frsh X pins H' a where
  h := h
  s := by
    have u : Un X.fs [] X.H₀ H X.s₀.heap s.heap := hex ▸ I.base
    exact u.was e
  l := fun z => by
    obtain ⟨m, ⟨o, es, ep, ho, r⟩, _⟩ := I.loc
    rw [← z, e] at ho; cases ho
  c := fun n c q z => by
    obtain ⟨v, o, ho, hd⟩ := I.cell n c q
    rw [z, e] at ho; cases ho
  p := fun p hp z => by
    obtain ⟨q, _⟩ := I.pin p hp
    rw [z, e] at q; cases q
noncomputable def caught (X : Cx) (pins : List (Addr × Obj)) (σ : St) (E : XK) (e : Value) (s' : Shared) : Prop := ∃ x T C H', e = .ref x ∧ Inv X pins σ H' s' ∧ Fly x T C s'.heap ∧ Frsh X pins H' x ∧ Frsh X pins H' T ∧ E (.ref C) none H'
theorem caught_of {X : Cx} {pins : List (Addr × Obj)} {σ : St} {H : Hp} {s s' : Shared} {E : XK} {e : Value} (hex : X.ex = []) (I : Inv X pins σ H s) (h : CXe X.prog X.w X.stack H s E e s') : caught X pins σ E e s' := by
  obtain ⟨x, T, C, H', rfl, ho, hg, un, hok, nx, nT, hx, hT, fl, q⟩ := h
  exact ⟨x, T, C, H', rfl, I.call' (ch := []) ho un hok hg (fun b z => absurd z (by simp)), fl, I.frsh hex nx hx, I.frsh hex nT hT, q⟩
noncomputable abbrev TEX := St → Hp → VK → XK → Prop
noncomputable abbrev TX := Ends → XK → St → Hp → Prop
noncomputable def PEX (X : Cx) (e : Expr) (t : TEX) : Prop :=
  ∀ (pins : List (Addr × Obj)) (s : Shared) (σ : St) (H : Hp) (Q : VK) (E : XK), Inv X pins σ H s → t σ H Q E → wpAny (model X.prog X.w) X.A (eval e X.env) (EP X pins σ Q) (caught X pins σ E) s
noncomputable def PX (X : Cx) (st : Stmt) (t : TX) : Prop :=
  ∀ (pins : List (Addr × Obj)) (s : Shared) (σ : St) (H : Hp) (D : Ends) (E : XK), Inv X pins σ H s → t D E σ H → wpAny (model X.prog X.w) X.A (exec st X.env) (SP X pins D) (caught X pins σ E) s
noncomputable def tCallX (sp : Sp) (dvs : List V) (t : TA) : TEX := fun σ H Q E => t σ H fun vs H1 => sp (vs ++ dvs) H1 Q E
section
variable {X : Cx} {k : Nat} {f : Addr} {fd : FuncData} {x : Str} {ps : List Str} {dvs : List V} {ds : List Value} {sp : Sp} {p pos : Pos} {e : Expr} {es : List Expr} {t : TA} {E : XK}
theorem pex_run (F : FnOk X.prog X.w X.K X.mg X.base (CXe X.prog X.w) k f fd ps sp) (hex : X.ex = []) (hxe : ∀ e s, X.xe e s → False) (hr : Room k X.A) (hg : Gl X x) (hm : X.mg x = some (.ref f)) (hk : PySem.W.keepIn X.K (.ref f) = true) (hb : Binds X.K fd ps ds) (hd : Vals dvs ds)
    (ha : PA X (e :: es) t) (hdb : (x == ("__debug__" : Str)) = false) (he : starEach (e :: es) X.env = (false, eval e X.env) :: starEach es X.env) (hpl : (backTo pos (starEach es X.env)).any (·.1) = false) :
    PEX X (.Call (.Name x p) (e :: es) [] pos) (tCallX sp dvs t) := by
  intro pins s σ H Q E I h
  refine wpAny_Call_Name_kw (ld_glob I hg hm ?_ hdb)
  refine PySem.W.callWith_K (h₀ := X.base) I.ok.mod.kin hk (wpAny_mono (ha pos pins s σ H _ I h) (fun us s1 ⟨vs, H1, I1, r, q⟩ => ⟨I1.kIn, ?_⟩) fun e s z => (hxe e s z).elim) he hpl
  have r2 : Vals (vs ++ dvs) (us ++ ds) := r.append hd
  have hl : (us ++ ds).length = ps.length := by rw [← r2.length]; exact F.len _ _ _ _ q
  refine wpAny_call (codeAny_mono (F.run X.A X.stack s1 H1 ⟨us, []⟩ (us ++ ds) (vs ++ dvs) Q E hr I1.env0 (hb s1 us I1.kIn hl) r2 q) fun r s' hq => ?_)
  cases r with
  | error e => exact caught_of hex I1 hq
  | ok fl =>
    cases fl with
    | ret u => exact I1.after hq
    | next => exact False.elim hq
    | brk => exact False.elim hq
    | cont => exact False.elim hq
theorem pex_call (o : OkfX X.prog X.w X.K X.mg X.base k x ps dvs sp) (hex : X.ex = []) (hxe : ∀ e s, X.xe e s → False) (hr : Room k X.A) (hg : Gl X x) (ha : PA X (e :: es) t) (hdb : (x == ("__debug__" : Str)) = false := by decide)
    (he : starEach (e :: es) X.env = (false, eval e X.env) :: starEach es X.env := by rfl) (hpl : (backTo pos (starEach es X.env)).any (·.1) = false := by rfl) :
    PEX X (.Call (.Name x p) (e :: es) [] pos) (tCallX sp [] t) := by
  obtain ⟨f, fd, a, b, c, _, d⟩ := o.ex
  exact pex_run d hex hxe hr hg a b c .nil ha hdb he hpl
end
end L2
namespace L2
open PySem PySem.Spec PyProof.Rows
section
variable {X : Cx} {e : Expr} {te : TEX} {pos : Pos}
noncomputable def xDrop (te : TEX) : TX := fun D E σ H => te σ H (fun _ H1 => D.nx σ H1) E
theorem px_expr (he : PEX X e te) (hs : swapsWith e none pos.line X.env = pure false := by rfl) : PX X (.Expr e pos) (xDrop te) := by
  intro pins s σ H D E I h
  exact wpAny_Expr_any (thn (he pins s σ H _ E I h) fun v s1 ⟨x, H1, I1, r1, q1⟩ => ⟨σ, H1, I1, q1⟩) I.quiet hs
end
noncomputable abbrev Cx.hld (X : Cx) (x : Addr) : Cx := { X with A := X.A.mark (some (.ref x)), calm := false, xe := fun _ _ => False }
section
variable {X : Cx} {pins : List (Addr × Obj)} {σ : St} {H : Hp} {s : Shared} {x : Addr}
theorem Inv.hld (I : Inv X pins σ H s) (x : Addr) : Inv (X.hld x) pins σ H s :=
  ⟨⟨I.ok.mod, I.ok.kind, I.ok.glob, I.ok.blt, I.ok.above, I.ok.inj, I.ok.has, I.ok.cab, (fun z => nomatch z), I.ok.frames, I.ok.stk, I.ok.exf, I.ok.bs, I.ok.bsz, I.ok.noex, I.ok.exfs, I.ok.funs, I.ok.frf⟩, I.os, I.bare, I.base, I.loc, I.cell, I.free, I.freeC, I.pin, I.hok, I.len⟩
theorem Inv.unhld (hd : X.calm = true → X.A.handled = none) (I : Inv (X.hld x) pins σ H s) : Inv X pins σ H s :=
  ⟨⟨I.ok.mod, I.ok.kind, I.ok.glob, I.ok.blt, I.ok.above, I.ok.inj, I.ok.has, I.ok.cab, hd, I.ok.frames, I.ok.stk, I.ok.exf, I.ok.bs, I.ok.bsz, I.ok.noex, I.ok.exfs, I.ok.funs, I.ok.frf⟩, I.os, I.bare, I.base, I.loc, I.cell, I.free, I.freeC, I.pin, I.hok, I.len⟩
theorem goes_ok {M : Model} {A : Around} {E : Value → Shared → Prop} {i : Nat} {n : Str} {pos : Pos} {Q : Unit → Shared → Prop} (I : Inv X pins σ H s) (hN : X.N.Nodup) (hi : X.N[i]? = some n) (hl : X.env.scope.names.lookup n = some .local)
    (h : ∀ s', Inv X pins (σ.set i none) H s' → Q () s') : wpAny M A (do bindName X.env n .none; unbindBehindTheSuite X.env n pos) Q E s := by
  obtain ⟨m, hn, hv⟩ := id I.loc
  have hcls : (X.env.scope.kind == .class || (X.env.scope.kind == .module && X.env.locals != X.env.globals)) = false := by rw [I.ok.kind]; rfl
  refine wpAny_nameGoes_keeps hl hn hcls fun h' v hn' hs => h _ ?_
  have old : ∀ b o, X.s₀.heap.get? b = some o → b ≠ X.env.locals := fun b o e => Nat.ne_of_lt (Nat.lt_of_lt_of_le (Heap.lt_size e) I.ok.above)
  refine ⟨I.ok, I.os, I.bare, ⟨fun b o e n hb hx => (hs.2 b (old b o e)).trans (I.base.keep b o e n hb hx), fun b o e n hb hx => ?_, I.base.free, fun b o e hx => ?_, I.base.tups, I.base.frzs, I.base.tbls⟩, ⟨_, hn', fun j y v' e1 e2 e3 => ?_⟩, fun y c e => ?_, I.free, I.freeC, fun p hp => ?_, ?_, by simpa using I.len⟩
  · obtain ⟨sl, e1⟩ := I.base.slot b o e n hb hx
    exact ⟨sl, (hs.2 b (old b o e)).trans e1⟩
  · obtain ⟨o', e1⟩ := I.base.there b o e hx
    exact ⟨o', (hs.2 b (old b o e)).trans e1⟩
  · have hj : j ≠ i := fun z => by
      rw [z] at e2
      by_cases hi' : i < σ.length
      · rw [List.getElem?_set_self hi'] at e2; cases e2
      · rw [List.getElem?_eq_none (by rw [List.length_set]; omega)] at e2; cases e2
    rw [List.getElem?_set_ne (Ne.symm hj)] at e2
    obtain ⟨u', r', q⟩ := hv j y v' e1 e2 e3
    refine ⟨u', r', ?_⟩
    rcases q with ⟨k, e⟩ | ⟨k, c, e, z⟩
    · refine .inl ⟨k, ?_⟩
      have : y ≠ n := fun e => hj (nodup_ix hN e1 (e ▸ hi))
      show (if y = n then v else m y) = some u'
      rw [if_neg this]; exact e
    · exact .inr ⟨k, c, e, z.sameBut hs (I.cne y c e)⟩
  · obtain ⟨w', z⟩ := I.cell y c e
    exact ⟨w', z.sameBut hs (I.cne y c e)⟩
  · obtain ⟨e, n, ne, nf, d⟩ := I.pin p hp
    exact ⟨(hs.2 p.1 ne).trans e, n, ne, nf, d⟩
  · intro b ob e
    refine (I.hok b ob e).stay (fun c w' hc q => (hs.2 c ?_).trans q) (fun _ q => q) fun _ _ q => q
    rintro rfl
    rcases hc with rfl | hc
    · rw [I.free] at e; cases e
    · rw [I.free] at hc; cases hc
theorem Inv.track {a : Addr} {o : HO} (I : Inv X pins σ H s) (fr : Frsh X pins H a) (new : ObjOk X.prog X.w (upd H a o) s.heap a o) : Inv X pins σ (upd H a o) s := by
  refine ⟨I.ok, I.os, I.bare, I.base.track fr.h fr.s, I.loc, I.cell, ?_, fun x c e => ?_, fun p hp => ?_, I.hok.track fr.h new, I.len⟩
  · rw [upd_ne (Ne.symm fr.l)]; exact I.free
  · rw [upd_ne (fr.c x c e)]; exact I.freeC x c e
  · obtain ⟨e, n, r⟩ := I.pin p hp
    exact ⟨e, by rw [upd_ne (fr.p p hp)]; exact n, r⟩
end
noncomputable def tTry (K : PySem.W.Frag) (CT : Addr) (i : Nat) (tb : TX) (ts : Addr → TS) : TS := fun D σ H => tb D (fun cv _ H' => ∃ C, cv = .ref C ∧ PySem.W.exmOne K (.ref C) (.ref CT) = some true ∧
  ∀ x, H' x = none → ts x ⟨fun σ' H2 => D.nx (σ'.set i none) H2, D.rt, fun σ' H2 => D.bk (σ'.set i none) H2, fun σ' H2 => D.ct (σ'.set i none) H2⟩ (σ.set i (some (.ref x))) (upd H' x (excO x C))) σ H
section
variable {X : Cx}
theorem ps_try {CT : Addr} {nc n : Str} {i : Nat} {st s0 : Stmt} {suite : List Stmt} {tb : TX} {ts : Addr → TS} {np hp pos : Pos} (hex : X.ex = []) (hst : X.stack = X.env :: X.outer) (hfr : X.env.frame = some X.env.locals)
    (hg : Gl X nc) (hm : X.mg nc = some (.ref CT)) (hN : X.N.Nodup) (hi : X.N[i]? = some n) (hl : X.env.scope.names.lookup n = some .local) (hb : PX X st tb) (hs : ∀ x, PSs (X.hld x) (s0 :: suite) (ts x)) (hd : (nc == ("__debug__" : Str)) = false := by decide) :
    PS X (.Try [st] [.ExceptHandler (some (.Name nc np)) (some n) (s0 :: suite) hp] [] [] pos) (tTry X.K CT i tb ts) := by
  intro pins s σ H D I h
  refine wpAny_Try_except (wpAny_execs_cons (wpAny_mono (hb pins s σ H D _ I h) (fun f s1 q => ?_) fun e s1 q => ?_))
  · cases f with
    | next => exact wpAny_execs_nil (wpAny_execs_nil q)
    | ret v => exact q
    | brk => exact q
    | cont => exact q
  · obtain ⟨x, T, C, H', rfl, I1, fl, fx, fT, C', hC, hm1, q⟩ := q
    cases hC
    have mov : ∀ {s2 : Shared} {h2 : Heap} {T1 T2 : Addr}, Inv X pins σ H' s2 → Frsh X pins H' T1 → (T2 = T1 ∨ s2.heap.get? T2 = none) → Kpt (frs X.stack) [x, T1] s2.heap h2 → Inv X pins σ H' { s2 with heap := h2 } ∧ Frsh X pins H' T2 := fun {s2 h2 T1 T2} J f1 z k => by
      refine ⟨J.kpt k fun b hb => ?_, ?_⟩
      · rcases List.mem_cons.mp hb with e | e
        · rw [e]; exact fx
        · rw [List.mem_singleton.mp e]; exact f1
      · rcases z with z | z
        · rw [z]; exact f1
        · exact J.frsh hex z (J.hok.none_of z)
    have hfr' : X.A.frames = some (X.env :: X.outer) := hst ▸ I1.ok.frames
    have hF1 : s1.heap.FunFrames X.base (X.env :: X.outer) := hst ▸ I1.stack
    refine fly_note hfr' hfr hF1 fl fun h2 T2 fl2 z2 k2 => ?_
    obtain ⟨I2, fT2⟩ := mov I1 fT z2 (hst ▸ k2)
    refine wpAny_handleBy_cons (codeAny_handlers_test (ld_glob (I2.hld x) hg hm ?_ hd)) (by intro q; cases q)
    refine (PySem.W.exm_one I2.kIn (fl2.exR.kitR.ty _) hm1).here ?_
    refine codeAny_handlers_suite_as ?_
    refine fly_again (l := X.stack) fl2 fun h3 fl3 k3 => ?_
    obtain ⟨I3, _⟩ := mov I2 fT2 (.inl rfl) k3
    have I4 := I3.track fx (excO_ok (C := C) fl3.exR)
    refine store_ok (v := .ref x) I4 hN hi (.inl hl) rfl (fun s5 I5 => ?_) (.inr hl)
    refine wpAny_mono (hs x pins s5 _ _ _ (I5.hld x) (q x fx.h)) (fun f s6 q6 => ?_) fun _ _ z => z.elim
    cases f with
    | next =>
      obtain ⟨σ', H2, I6, q6⟩ := q6
      exact goes_ok (I6.unhld I.ok.hd) hN hi hl fun s7 I7 => ⟨_, H2, I7, q6⟩
    | brk =>
      obtain ⟨σ', H2, I6, q6⟩ := q6
      exact goes_ok (I6.unhld I.ok.hd) hN hi hl fun s7 I7 => ⟨_, H2, I7, q6⟩
    | cont =>
      obtain ⟨σ', H2, I6, q6⟩ := q6
      exact goes_ok (I6.unhld I.ok.hd) hN hi hl fun s7 I7 => ⟨_, H2, I7, q6⟩
    | ret u =>
      obtain ⟨v, σ', H2, I6, r, q6⟩ := q6
      exact goes_ok (I6.unhld I.ok.hd) hN hi hl fun s7 I7 => ⟨v, _, H2, I7, r, q6⟩
end
end L2
namespace L2
open PySem PySem.Spec PyProof.Rows
section
variable {X : Cx} {e : Expr} {te : TEX} {pos : Pos}
end
section
variable {X : Cx}
end
end L2
namespace L2
open PySem PySem.Spec PyProof.Rows
theorem entry_unchain : entryFor table "proto.unchain" = some Builtin.«proto.unchain» := by kernel_rfl
theorem plain_unchain : plainId "proto.unchain" = true := by decide +kernel
section
variable {prog : Program} {w : World} {A : Around} {E : Value → Shared → Prop} {s : Shared}
theorem range_endH {it y C : Addr} {x n d : Int} {Q : Option Value → Shared → Prop} (hh : A.handled = some (.ref y)) (hy : ExR y C s.heap) (hr : IsRangeIter s.heap it x n d) (hn : n ≤ 0)
    (k : ∀ h', (∀ b o, s.heap.get? b = some o → h'.get? b = some o) → Q none { s with heap := h' }) : wpAny (model prog w) A (pyNext (.ref it)) Q E s := by
  have hT : s.TypeIs (.ref it) "range_iterator" := ⟨_, hr, rfl⟩
  obtain ⟨oy, vs, y1, y2, y3, y4⟩ := hy
  unfold pyNext
  refine wpAny_bind (wpAny_attempt (wpAny_callSpecial?_slot (name := Str.ofString "__next__") hT F.slot_range_iterator_next (wpAny_call_entry F.slot_range_iterator_next hT F.entry_range_iterator_next ?_ (F.args_range_iterator_next_1 _))))
  show wpAny _ _ (field (.ref it) 0 >>= _) _ _ s; refine wpAny_bind (wpAny_field hr rfl (x := rawInt x) rfl ?_)
  show wpAny _ _ (field (.ref it) 1 >>= _) _ _ s; refine wpAny_bind (wpAny_field hr rfl (x := rawInt n) rfl ?_)
  show wpAny _ _ (field (.ref it) 2 >>= _) _ _ s; refine wpAny_bind (wpAny_field hr rfl (x := rawInt d) rfl ?_)
  show wpAny _ _ (if n ≤ 0 then _ else _) _ _ s; rw [if_pos hn]
  refine wpAny_bind (wpAny_rule (wpAny_bind ?_))
  show wpAny _ _ (newExc (.type "StopIteration") [] >>= _) _ _ _; refine wpAny_bind ?_
  simp only [newExc, newTuple]
  refine wpAny_bind (wpAny_newObj_type (wpAny_bind (m := firstArgMember _ _) (wpAny_of_eq (a := Value.none) (by simp only [firstArgMember]; rfl) (wpAny_newObj_type ?_ (by size_fits)))) (by size_fits))
  generalize hg : (s.heap.push { cls := .type "tuple", dict := none, data := .seq ([] : List Value).toArray }) = g
  have kg : ∀ b o, s.heap.get? b = some o → g.get? b = some o := fun b o e => by rw [← hg]; exact Heap.get?_push_of_some _ e
  simp only [raiseNew]
  refine wpAny_bind (wpAny_handled ?_)
  rw [show A.in1.handled = some (.ref y) from hh]
  have ny : y ≠ g.objs.size := Nat.ne_of_lt (Heap.lt_size (kg y _ y1))
  have e1 := Heap.get?_push_size g (o := { cls := .type "StopIteration", dict := none, data := .fields (#[.ref s.heap.objs.size, .none, .none, .none, .bool false, .none] ++ ownMembersOf (.type "StopIteration") []) }) rfl
  have nb : (Value.ref y != Value.ref g.objs.size) = true := by simpa using ny
  simp only [nb, if_true]
  refine wpAny_bind (wpAny_holding (wpAny_runValue (codeAny_builtin entry_unchain ?_)))
  rw [Around.under_plainId plain_unchain _]
  show wpAny _ _ (field (.ref y) 2 >>= _) _ _ _
  refine wpAny_bind (wpAny_field (Heap.get?_push_of_some _ (kg y _ y1)) y3 y4 ?_)
  simp only [beq_self_eq_true, if_true]
  refine wpAny_pure ?_
  refine wpAny_bind (show wpAny _ _ (setField (.ref g.objs.size) 2 (.ref y)) _ _ _ from wpAny_setField e1 rfl (by simp; omega) (wpAny_throw ?_))
  have d3 := Obj.data_mapFields (o := { cls := .type "StopIteration", dict := none, data := .fields (#[.ref s.heap.objs.size, .none, .none, .none, .bool false, .none] ++ ownMembersOf (.type "StopIteration") []) }) rfl (·.setIfInBounds 2 (Value.ref y))
  refine wpAny_bind (wpAny_isInstance (T := "StopIteration") (b := true) ⟨_, Heap.get?_update_self _ e1 (Obj.isFreed_of_fields d3), Obj.cls_mapFields _ _⟩ isSubtype_stop ?_)
  refine wpAny_pure (k _ fun b o e => ?_)
  rw [Heap.get?_update_other _ _ (Nat.ne_of_gt (Heap.lt_size (kg b o e)))]
  exact Heap.get?_push_of_some _ (kg b o e)
end
noncomputable def HasX (y : Addr) (H : Hp) : Prop := ∃ C, H y = some (excO y C)
noncomputable def ItrH (y : Addr) (lo : Int) (n : Nat) : It := ⟨fun i _ => i < n, fun i H x H' => H' = H ∧ x = .int (lo + i), fun i H => n ≤ i ∧ HasX y H⟩
noncomputable abbrev Hok (y : Addr) : Cx → Prop := fun X => X.A.handled = some (.ref y)
theorem turn_rangeH {P : Program} {w : World} {K : PySem.W.Frag} {tg : Expr} (y it : Addr) (lo : Int) (n : Nat) : TurnG (Hok y) P w K tg (ItrH y lo n) [it] it (fun i h => IsRangeIter h it (lo + (i : Nat) * 1) ((n : Int) - (i : Nat)) 1) where
  mem := by simp
  obj := fun i h st b hb => by
    obtain rfl : b = it := List.mem_singleton.mp hb
    exact ⟨_, st, fun v z => by
      have z' : Data.fields _ = Data.cell v := z
      cases z'⟩
  keep := fun i h h' st k => k it (by simp) _ st
  item := by
    intro X hP hw hK hc i pins s σ H E I hf st hg
    subst hP hw hK
    obtain ⟨f0, f1, f2, f3, f4, f5⟩ := hf it (by simp)
    have hg' : i < n := hg
    refine wpAny_pyNext_range_item st (by omega) fun h' st' sb => ?_
    have e1 : lo + (i : Int) * 1 + 1 = lo + ((i + 1 : Nat) : Int) * 1 := by omega
    have e2 : ((n : Int) - (i : Int)) - 1 = (n : Int) - ((i + 1 : Nat) : Int) := by omega
    rw [e1, e2] at st'
    have I1 : Inv X pins σ H { s with heap := h', toks := s.toks + 1 } := I.turned (fun b o hb e => (sb.2 b hb).trans e) f0 f1 f3 f4 f5
    refine ⟨_, rfl, go_of (s := { s with heap := h', toks := s.toks + 1 }) (n := "range_iterator") st' rfl rfl (by decide) ⟨.int (lo + i), H, I1, ⟨s.toks, ?_⟩, ⟨rfl, rfl⟩, st', fun b hb => (hf b hb).1⟩⟩
    rw [Int.mul_one]
  done := by
    intro X hP hw hK hc i pins s σ H E I hf st hg
    subst hP hw hK
    obtain ⟨f0, f1, f2, f3, f4, f5⟩ := hf it (by simp)
    obtain ⟨hn, C, hy⟩ := hg
    exact range_endH hc (I.hok y _ hy).1 st (by omega) fun h' kp => ⟨rfl, I.turned (t' := s.toks) (fun b o _ e => kp b o e) f0 f1 f3 f4 f5⟩
  self := fun _ _ _ _ _ st h => wpAny_pyIter_rangeiter st h
section
variable {X : Cx} {tg : Expr} {y : Addr}
noncomputable def PIH (y : Addr) (X : Cx) (tg iter : Expr) (wi : TI) : Prop :=
  ∀ (pins : List (Addr × Obj)) (s : Shared) (σ : St) (H : Hp) (R : It → Hp → Prop), Inv X pins σ H s → wi σ H R →
    wpAny (model X.prog X.w) X.A (eval iter X.env) (fun v s1 => wpAny (model X.prog X.w) X.A (pyIter v) (PIEG (Hok y) X pins σ tg R) X.xe s1) X.xe s
theorem range_itH {pins : List (Addr × Obj)} {σ : St} {H : Hp} {s : Shared} {R : It → Hp → Prop} {E : Value → Shared → Prop} {hi : Int} {t u v : Tok} {tk : Nat} (I : Inv X pins σ H s) (h3 : -(2 ^ 62) ≤ hi) (h4 : hi < 2 ^ 62)
    (q : R (ItrH y 0 hi.toNat) H) : wpAny (model X.prog X.w) X.A (pyIter (.ref s.heap.objs.size)) (PIEG (Hok y) X pins σ tg R) E { s with heap := s.heap.push { cls := .type "range", data := .fields #[.int 0 t, .int hi u, .int 1 v] }, toks := tk } := by
  refine wpAny_pyIter_range (IsRange.new ..) (small_one (by omega) (by omega) h3 h4) ?_
  have I1 : Inv X pins σ H { s with heap := s.heap.push { cls := .type "range", data := .fields #[.int 0 t, .int hi u, .int 1 v] }, toks := tk } := I.kept fun b o e => Heap.get?_push_of_some _ e
  refine ⟨(s.heap.push { cls := .type "range", data := .fields #[.int 0 t, .int hi u, .int 1 v] }).objs.size, [(s.heap.push { cls := .type "range", data := .fields #[.int 0 t, .int hi u, .int 1 v] }).objs.size], _, _, H, rfl,
    I1.kept (t' := tk) fun b o e => Heap.get?_push_of_some _ e, turn_rangeH y _ 0 hi.toNat, ?_, fun b hb => ?_, q⟩
  · have e1 : (0 : Int) + ((0 : Nat) : Int) * 1 = 0 := by simp
    have e2 : ((hi.toNat : Nat) : Int) - ((0 : Nat) : Int) = Builtin.Range.rangeSize 0 hi 1 := by rw [rangeSize_one]; split <;> omega
    show IsRangeIter _ _ ((0 : Int) + ((0 : Nat) : Int) * 1) (((hi.toNat : Nat) : Int) - ((0 : Nat) : Int)) 1
    rw [e1, e2]
    exact Heap.get?_push_size _ rfl
  · obtain rfl := List.mem_singleton.mp hb
    exact I1.fpOk (Nat.le_refl _) (I1.hok.fresh (Nat.le_refl _))
noncomputable def iRng1H (y : Addr) (ta : TA) : TI := fun σ H R => ta σ H fun vs H1 => ∃ j : Int, vs = [.int j] ∧ -(2 ^ 62) ≤ j ∧ j < 2 ^ 62 ∧ R (ItrH y 0 j.toNat) H1
theorem pi_range1H {a : Expr} {ta : TA} {p pos : Pos} (hg : Gl X "range") (hm : X.mg "range" = none) (ha : PA X [a] ta) (hs : starEach [a] X.env = [(false, eval a X.env)] := by rfl) : PIH y X tg (.Call (.Name "range" p) [a] [] pos) (iRng1H y ta) := by
  intro pins s σ H R I h
  refine Call_ (ld_blt I hg hm boot_range (PyProof.Rows.callWith_type1 (thn (ha pos pins s σ H _ I h) fun us s1 ⟨vs, H1, I1, r1, q1⟩ => ?_) hs rfl))
  obtain ⟨j, e, q1, q2, q⟩ := q1
  subst e
  cases r1 with
  | cons r rr =>
    cases rr
    obtain ⟨t, rfl⟩ := r
    exact call_range_1 (range_itH I1 q1 q2 q)
variable {scope : Scope} {tn names : List Str} {is : List Nat} {elt iter : Expr} {ifs : List Expr} {pos : Pos} {wi : TI} {te : TE} {tc : Option TT} {g : TG}
theorem pe_compH (ck : CompOk X scope tn names is) (hc : X.A.handled = some (.ref y)) (hi : PIH y X tg iter wi)
    (hg : ∀ C s0 H0 ex, PG (cxComp X scope (capsOf X.env names) (tn ++ names) C s0 H0 ex) tg g) (he : ∀ C s0 H0 ex, PE (cxComp X scope (capsOf X.env names) (tn ++ names) C s0 H0 ex) elt te)
    (ht : ∀ C s0 H0 ex, PTs (cxComp X scope (capsOf X.env names) (tn ++ names) C s0 H0 ex) ifs tc) (hs : ∀ x, foldedSetIterable iter X.env x = pure x := by intro _; rfl) :
    PE X (.ListComp elt [⟨tg, iter, ifs, 0⟩] scope pos) (tComp wi te tc g tn.length is) := by
  intro pins s σ H Q I h
  rw [eval_ListComp]
  refine wpAny_comprehension_free (use := none) rfl hs (ck.cls fun x hx => I.ok.has x (ck.outk x hx)) ck.kind ck.nms (thn (hi pins s σ H _ I h) fun v s1 h1 => thn h1 fun itv s2 h2 => ?_)
  refine comp_run (ok := Hok y) (RR := fun acc C => compPost (model X.prog X.w) X.A X.xe none (EP X pins σ Q) acc C) ck (fun _ _ _ _ => hc) hg he ht h2 fun acc C H' s' m I' hn hC hL hcl hpn hsz q => ?_
  refine ⟨m, hn, fun h' sb => ⟨.ref acc, H', ?_, rfl, q⟩⟩
  exact I'.turned (t' := s'.toks) (fun b o hb e => sb.extBut b o hb e) hC hL (.inr hsz) hcl hpn
end
section
variable {te : TE} {Q : VK} {H : Hp} {caps : St} {y : Addr}
theorem r_compRH {n : Nat} (hn : n ≤ 1000) (Pv : Addr → Nat → List V → Hp → Prop) (h0 : ∀ acc, H acc = none → Pv acc 0 [] (upd H acc (.lst [])))
    (hs : ∀ acc i ys H1, H acc = none → i < n → ys.length = i → H1 acc = some (.lst ys) → Pv acc i ys H1 → te (some (.int (0 + i)) :: caps) H1 (cNext n acc (Pv acc) ys i))
    (hx : ∀ acc ys H1, H acc = none → Pv acc n ys H1 → HasX y H1)
    (hd : ∀ acc ys H1, H acc = none → H1 acc = some (.lst ys) → ys.length = n → Pv acc n ys H1 → Q (.ref acc) H1) : compK te none (gName 0) (List.replicate 1 none) caps Q (ItrH y 0 n) H := by
  intro acc hacc
  refine ⟨cW n acc (Pv acc), ⟨n, by simp, Nat.zero_le _, rfl, upd_same, h0 acc hacc⟩, ?_⟩
  rintro i m ys H1 ⟨rfl, hi, hl, ha, p⟩
  refine ⟨ha, ?_⟩
  by_cases hlt : i < n
  · refine .inr ⟨small1000 (by omega), hlt, fun us x H' hu z => ?_⟩
    obtain ⟨e, z⟩ := z
    subst e z
    obtain ⟨o, rfl⟩ := len1 hu
    exact ⟨⟨[some (.int (0 + i))], rfl, rfl⟩, hs acc i ys _ hacc hlt hl ha p⟩
  · have e : i = n := by omega
    subst e
    exact .inl ⟨⟨Nat.le_refl _, hx acc ys H1 hacc p⟩, hd acc ys H1 hacc ha hl p⟩
end
structure RoomH (k : Nat) (A : Around) : Prop where
  dp : A.depth + 3 * k + 5 < recursionLimit
  un : A.units + 16 * k + 200 < cLine
theorem Room.h {k : Nat} {A : Around} (r : Room k A) (v : Option Value) : RoomH k (A.mark v) := ⟨r.dp, r.un⟩
theorem RoomH.mono {j k : Nat} {A : Around} (r : RoomH k A) (h : j ≤ k) : RoomH j A := ⟨by have := r.dp; omega, by have := r.un; omega⟩
theorem RoomH.deeper {k : Nat} {A : Around} (r : RoomH (k + 1) A) (env : Env) : RoomH k (A.deeper env) :=
  ⟨by have := r.dp; show A.depth + 1 + 3 * k + 5 < _; omega, by have := r.un; show A.units + 3 + 16 * k + 200 < _; omega⟩
structure FnH (P : Program) (w : World) (K : PySem.W.Frag) (mg : Str → Option Value) (base : Heap) (k : Nat) (f : Addr) (fd : FuncData) (ps : List Str) (sp : Addr → Sp) : Prop where
  len : ∀ y vs H Q E, sp y vs H Q E → vs.length = ps.length
  run : ∀ (y : Addr) (A : Around) (outer : List Env) (s : Shared) (H : Hp) (args : Args) (us : List Value) (vs : List V) (Q : VK), RoomH k A → A.handled = some (.ref y) → Env0 P w K mg base A outer s H → BindsTo s fd args (ps.zip us) → Vals vs us → sp y vs H Q E0 →
    codeAny (model P w) A (.call (.ref f) args) (CR CX0 outer P w H s Q E0) s
noncomputable abbrev cxH (P : Program) (w : World) (K : PySem.W.Frag) (mg : Str → Option Value) (base : Heap) (N : List Str) (qual : Str) (scope : Scope) (f : Addr) (cd : Value) (A : Around) (outer : List Env) (s : Shared) (H : Hp) : Cx :=
  { cxOf CX0 P w K mg base N qual scope f cd A outer s H E0 with calm := false, xe := fun _ _ => False }
theorem inv_h {P : Program} {w : World} {K : PySem.W.Frag} {mg : Str → Option Value} {base : Heap} {N : List Str} {qual : Str} {scope : Scope} {f : Addr} {cd : Value} {A : Around} {outer : List Env} {s : Shared} {H H1 : Hp} {pins : List (Addr × Obj)} {σ : St} {s1 : Shared}
    (fr : (A.deeper (envOfC qual scope s.heap.objs.size f cd)).frames = some (envOfC qual scope s.heap.objs.size f cd :: outer)) (I : Inv (cxOf CX0 P w K mg base N qual scope f cd { A with handled := none } outer s H E0) pins σ H1 s1) : Inv (cxH P w K mg base N qual scope f cd A outer s H) pins σ H1 s1 :=
  ⟨⟨I.ok.mod, I.ok.kind, I.ok.glob, I.ok.blt, I.ok.above, I.ok.inj, I.ok.has, I.ok.cab, (fun z => nomatch z), fr, I.ok.stk, I.ok.exf, I.ok.bs, I.ok.bsz, I.ok.noex, I.ok.exfs, I.ok.funs, I.ok.frf⟩, I.os, I.bare, I.base, I.loc, I.cell, I.free, I.freeC, I.pin, I.hok, I.len⟩
theorem fn_ofH {P : Program} {w : World} {K : PySem.W.Frag} {mg : Str → Option Value} {base : Heap} {k : Nat} {f : Addr} {name qual : Str} {params : Arguments} {body : List Stmt} {scope : Scope} {dV kV doc pm cdv ct oc : Value} {an od : Option Addr}
    {osl : Array (Option Value)} {N ps : List Str} {sp : Addr → Sp} (lk : K.lookup f = some ⟨oc, od, .func (PySem.W.fnOf name qual params body scope dV kV doc pm an cdv ct), osl⟩) (hcd : PySem.W.codeIn K cdv qual = true) (S : FnScope N ps scope)
    (len : ∀ y vs H Q E, sp y vs H Q E → vs.length = ps.length)
    (hbody : ∀ (y : Addr) (A : Around) (outer : List Env) (s : Shared) (H : Hp) (vs : List V) (Q : VK), RoomH k (A.deeper (envOfC qual scope s.heap.objs.size f cdv)) → A.handled = some (.ref y) → sp y vs H Q E0 →
      ∃ t, PSs (cxH P w K mg base N qual scope f cdv A outer s H) body t ∧ t { nx := fun _ H' => Q .non H', rt := Q } (start N vs) H) :
    FnH P w K mg base (k + 1) f (PySem.W.fnOf name qual params body scope dV kV doc pm an cdv ct) ps sp := by
  refine ⟨len, fun y A outer s H args us vs Q hr hh e0 hb r hsp => ?_⟩
  have hl := len _ _ _ _ _ hsp
  have KX : K.In s.heap := e0.mod.kin.keeps fun b o e => (e0.bs b o e).1
  have lim : s.heap.NoLimit := e0.mod.nolimit.keeps fun b o e => (e0.bs b o e).1
  have hkind : ∀ y ∈ ps.zip us, scope.names.lookup y.1 = some .local ∨ (scope.names.lookup y.1 = some .cell ∧ ((cellsFrom (s.heap.objs.size + 1) scope.names []).lookup y.1).isSome = true) := fun ⟨n, v⟩ hy => by
    rcases S.par n (List.of_mem_zip hy).1 with q | q
    · exact .inl q
    · exact .inr ⟨q, PySem.W.cellsFrom_some _ _ _ (.inl q)⟩
  refine codeAny_call_function (by have := hr.dp; omega) (KX _ _ lk) rfl S.co S.gen rfl (PySem.W.codeRec_of KX hcd) (hb _ _ _ _ ?_)
  refine wpAny_newFunctionEnv_cells S.kind hkind fun env he s1 x => ?_
  subst he
  refine ⟨lim.keeps x.toInCall.keep, codeAny_func ?_⟩
  obtain ⟨t, ht, hq⟩ := hbody y A outer s H vs Q (hr.deeper _) hh hsp
  have e0' : Env0 P w K mg base { A with handled := none } outer s H := ⟨e0.frames, e0.mod, e0.bs, e0.bsz, e0.funs, e0.frf, e0.hok, e0.bare⟩
  have I : Inv (cxH P w K mg base N qual scope f cdv A outer s H) [] (start N vs) H s1 := inv_h (Around.frames_deeper e0.frames) (inv_start S rfl e0' hl r x)
  refine wpAny_mono (ht [] s1 (start N vs) H _ I hq) (fun fl s' hs => ?_) fun e s' hs => hs.elim
  have fin : ∀ {σ' : St} {H' : Hp} {v : V} {u : Value}, Inv (cxH P w K mg base N qual scope f cdv A outer s H) [] σ' H' s' → RelV v u → Q v H' → CE outer P w H s Q u s' :=
    fun {σ' H' v u} J rv q => ⟨v, H', J.os, J.bare, J.base, J.hok, rv, q⟩
  cases fl with
  | ret u =>
    obtain ⟨v, σ', H', J, rv, q⟩ := hs
    exact fin J rv q
  | next =>
    obtain ⟨σ', H', J, q⟩ := hs
    exact fin (v := V.non) (u := Value.none) J rfl q
  | brk =>
    obtain ⟨_, _, _, q⟩ := hs
    exact False.elim q
  | cont =>
    obtain ⟨_, _, _, q⟩ := hs
    exact False.elim q
structure OkfH (P : Program) (w : World) (K : PySem.W.Frag) (mg : Str → Option Value) (base : Heap) (k : Nat) (x : Str) (ps : List Str) (sp : Addr → Sp) : Prop where
  ex : ∃ (f : Addr) (fd : FuncData), mg x = some (.ref f) ∧ PySem.W.keepIn K (.ref f) = true ∧ Binds K fd ps [] ∧ FnH P w K mg base k f fd ps sp
theorem OkfH.mono {P : Program} {w : World} {K : PySem.W.Frag} {mg : Str → Option Value} {base : Heap} {j k : Nat} {x : Str} {ps : List Str} {sp : Addr → Sp} (o : OkfH P w K mg base j x ps sp) (h : j ≤ k) : OkfH P w K mg base k x ps sp :=
  let ⟨f, fd, a, b, c, d⟩ := o.ex; ⟨f, fd, a, b, c, d.len, fun y A outer s H args us vs Q hr => d.run y A outer s H args us vs Q (hr.mono h)⟩
theorem OkfH.of {P : Program} {w : World} {K : PySem.W.Frag} {mg : Str → Option Value} {base : Heap} {k : Nat} {x : Str} {st : Stmt} {N ps : List Str} {sp : Addr → Sp} (d : Df K mg x st ps) (S : FnScope N ps (defScope st)) (len : ∀ y vs H Q E, sp y vs H Q E → vs.length = ps.length)
    (hbody : ∀ (y f : Addr) (cdv : Value) (A : Around) (outer : List Env) (s : Shared) (H : Hp) (vs : List V) (Q : VK), RoomH k (A.deeper (envOfC x (defScope st) s.heap.objs.size f cdv)) → A.handled = some (.ref y) → sp y vs H Q E0 →
      ∃ t, PSs (cxH P w K mg base N x (defScope st) f cdv A outer s H) (defBody st) t ∧ t { nx := fun _ H' => Q .non H', rt := Q } (start N vs) H) : OkfH P w K mg base (k + 1) x ps sp := by
  obtain ⟨f, fd, ⟨oc, od, dV, kV, doc, pm, an, cdv, ct, osl, rfl, lk, hcd⟩, kp, a, b⟩ := d.ex
  exact ⟨f, _, a, kp, b, fn_ofH lk hcd S len fun y A outer s H vs Q hr hh hsp => hbody y f cdv A outer s H vs Q hr hh hsp⟩
noncomputable def tCallH (sp : Sp) (t : TA) : TE := fun σ H Q => t σ H fun vs H1 => sp vs H1 Q E0
theorem r_callH {sp : Sp} {t : TA} {σ : St} {H : Hp} {Q : VK} (k : t σ H fun vs H1 => sp vs H1 Q E0) : tCallH sp t σ H Q := k
section
variable {X : Cx} {k : Nat} {x : Str} {ps : List Str} {sp : Addr → Sp} {p pos : Pos} {e : Expr} {es : List Expr} {t : TA} {y : Addr}
theorem pe_callH (o : OkfH X.prog X.w X.K X.mg X.base k x ps sp) (hr : RoomH k X.A) (hh : X.A.handled = some (.ref y)) (hg : Gl X x) (ha : PA X (e :: es) t) (hdb : (x == ("__debug__" : Str)) = false := by decide)
    (he : starEach (e :: es) X.env = (false, eval e X.env) :: starEach es X.env := by rfl) (hpl : (backTo pos (starEach es X.env)).any (·.1) = false := by rfl) :
    PE X (.Call (.Name x p) (e :: es) [] pos) (tCallH (sp y) t) := by
  obtain ⟨f, fd, hm, hk, hb, F⟩ := o.ex
  intro pins s σ H Q I h
  refine wpAny_Call_Name_kw (ld_glob I hg hm ?_ hdb)
  refine PySem.W.callWith_K (h₀ := X.base) I.ok.mod.kin hk (thn (ha pos pins s σ H _ I h) fun us s1 ⟨vs, H1, I1, r, q⟩ => ⟨I1.kIn, ?_⟩) he hpl
  have hl : us.length = ps.length := by rw [← r.length]; exact F.len _ _ _ _ _ q
  have hb' := hb s1 us I1.kIn (by rw [List.append_nil]; exact hl)
  rw [List.append_nil] at hb'
  refine wpAny_call (codeAny_mono (F.run y X.A X.stack s1 H1 ⟨us, []⟩ us vs Q hr hh I1.env0 hb' r q) fun r s' hq => ?_)
  cases r with
  | error e => exact False.elim hq
  | ok fl =>
    cases fl with
    | ret u => exact I1.after hq
    | next => exact False.elim hq
    | brk => exact False.elim hq
    | cont => exact False.elim hq
end
end L2
namespace L2
open PySem PySem.Spec PyProof.Rows
noncomputable def XrE (K : PySem.W.Frag) (C : Addr) : Prop := ∃ (newId Bn inN : String) (bmN : List Value), PySem.W.excIn K C bmVE newId = true ∧ ExcBaseFacts Bn newId inN bmN ∧ bmVE.contains (.type Bn) = true
theorem XrE.ve {K : PySem.W.Frag} {C : Addr} (h : PySem.W.excIn K C bmVE "ValueError.__new__" = true) : XrE K C := ⟨_, _, _, _, h, F.excBase_ValueError, by decide⟩
structure Xm (mg : Str → Option Value) (xt x0 x1 x2 x3 x4 x5 x6 x7 x8 x9 x10 x11 : Addr) : Prop where
  t : mg "TileError" = some (.ref xt)
  m_NoNumber : mg "NoNumber" = some (.ref x0)
  m_NoNet : mg "NoNet" = some (.ref x1)
  m_NoBell : mg "NoBell" = some (.ref x2)
  m_NoSum : mg "NoSum" = some (.ref x3)
  m_TooMany : mg "TooMany" = some (.ref x4)
  m_NoText : mg "NoText" = some (.ref x5)
  m_NoPost : mg "NoPost" = some (.ref x6)
  m_Fallen : mg "Fallen" = some (.ref x7)
  m_NoRun : mg "NoRun" = some (.ref x8)
  m_Gone : mg "Gone" = some (.ref x9)
  m_NoRow : mg "NoRow" = some (.ref x10)
  m_NoWish : mg "NoWish" = some (.ref x11)
  zV : mg "ValueError" = none
structure Xr (K : PySem.W.Frag) (xt x0 x1 x2 x3 x4 x5 x6 x7 x8 x9 x10 x11 C : Addr) (i : Nat) : Prop where
  x : XCls K C
  e : XrE K C
  v : PySem.W.kitOne K (.ref C) (.type "ValueError") = some true
  t : PySem.W.exmOne K (.ref C) (.ref xt) = some true
  k0 : PySem.W.kitOne K (.ref C) (.ref x0) = some (Nat.beq 0 i)
  k1 : PySem.W.kitOne K (.ref C) (.ref x1) = some (Nat.beq 1 i)
  k2 : PySem.W.kitOne K (.ref C) (.ref x2) = some (Nat.beq 2 i)
  k3 : PySem.W.kitOne K (.ref C) (.ref x3) = some (Nat.beq 3 i)
  k4 : PySem.W.kitOne K (.ref C) (.ref x4) = some (Nat.beq 4 i)
  k5 : PySem.W.kitOne K (.ref C) (.ref x5) = some (Nat.beq 5 i)
  k6 : PySem.W.kitOne K (.ref C) (.ref x6) = some (Nat.beq 6 i)
  k7 : PySem.W.kitOne K (.ref C) (.ref x7) = some (Nat.beq 7 i)
  k8 : PySem.W.kitOne K (.ref C) (.ref x8) = some (Nat.beq 8 i)
  k9 : PySem.W.kitOne K (.ref C) (.ref x9) = some (Nat.beq 9 i)
  k10 : PySem.W.kitOne K (.ref C) (.ref x10) = some (Nat.beq 10 i)
  k11 : PySem.W.kitOne K (.ref C) (.ref x11) = some (Nat.beq 11 i)
theorem bt_ValueError : bootBuiltins "ValueError" = some (.type "ValueError") := by decide +kernel
theorem RoomH.units {k : Nat} {A : Around} (r : RoomH k A) : A.units + 64 < cLine := by have := r.un; omega
section
variable {X : Cx}
theorem ps_raiseR {E : XK} {C : Addr} {n : Str} {e : Expr} {es : List Expr} {t : TA} {np cpos pos : Pos} (hr : Raises X E) (hc : X.calm = true) (hg : Gl X n) (hm : X.mg n = some (.ref C)) (hx : XrE X.K C) (ha : PA X (e :: es) t)
    (hd : (n == ("__debug__" : Str)) = false := by decide) (he : starEach (e :: es) X.env = (false, eval e X.env) :: starEach es X.env := by rfl) (hpl : (backTo cpos (starEach es X.env)).any (·.1) = false := by rfl) :
    PS X (.Raise (some (.Call (.Name n np) (e :: es) [] cpos)) none pos) (tRaise C E t) := by
  obtain ⟨newId, Bn, inN, bmN, h1, h2, h3⟩ := hx
  exact ps_raise hr hc hg hm h1 h2 h3 ha hd he hpl
noncomputable def rIsX (K : PySem.W.Frag) : List V → Hp → VK → Prop := fun xs H Q => ∃ y C v c b, xs = [.ref y, v] ∧ H y = some (excO y C) ∧ XCls K C ∧ RelV v c ∧ PySem.W.kitOne K (.ref C) c = some b ∧ Q (.bl b) H
theorem call_isX : CallR X (.builtin "isinstance") (rIsX X.K) := by
  intro pins s σ H xs us Q I r h
  obtain ⟨y, C, v, c, b, rfl, hy, z, rc, e, q⟩ := h
  obtain ⟨u, u', rfl, ru, rv⟩ := Vals.two r
  obtain rfl : u = Value.ref y := ru
  have ec : u' = c := by
    cases v with
    | ref a => exact rv.trans rc.symm
    | ty n => exact rv.trans rc.symm
    | non => exact rv.trans rc.symm
    | bl a => exact rv.trans rc.symm
    | int _ => obtain ⟨t, rfl⟩ := rc; simp [PySem.W.kitOne, PySem.W.kitCls] at e
    | str _ => obtain ⟨t, rfl⟩ := rc; simp [PySem.W.kitOne, PySem.W.kitCls] at e
    | byt _ => obtain ⟨t, rfl⟩ := rc; simp [PySem.W.kitOne, PySem.W.kitCls] at e
    | flt _ => obtain ⟨t, rfl⟩ := rc; simp [PySem.W.kitOne, PySem.W.kitCls] at e
  subst ec
  exact PySem.W.kia_one (kitx_exc z) I.kIn (I.hok y _ hy).1.kitR e (by intro q; cases q) fun tk => ⟨.bl b, H, I.tok tk, rfl, q⟩
end
section
variable {K : PySem.W.Frag} {σ : St} {H : Hp} {Q : VK} {D : Ends} {E : XK}
theorem r_isXc {y C c : Addr} {b : Bool} (hy : H y = some (excO y C)) (z : XCls K C) (e : PySem.W.kitOne K (.ref C) (.ref c) = some b) (k : Q (.bl b) H) : rIsX K [.ref y, .ref c] H Q := ⟨y, C, _, _, b, rfl, hy, z, rfl, e, k⟩
theorem r_isXt {y C : Addr} {T : String} {b : Bool} (hy : H y = some (excO y C)) (z : XCls K C) (e : PySem.W.kitOne K (.ref C) (.type T) = some b) (k : Q (.bl b) H) : rIsX K [.ref y, .ty T] H Q := ⟨y, C, _, _, b, rfl, hy, z, rfl, e, k⟩
noncomputable def tryE (K : PySem.W.Frag) (CT : Addr) (i : Nat) (ts : Addr → TS) (D : Ends) (σ : St) : XK := fun cv _ H' => ∃ C, cv = .ref C ∧ PySem.W.exmOne K (.ref C) (.ref CT) = some true ∧
  ∀ x, H' x = none → ts x ⟨fun σ' H2 => D.nx (σ'.set i none) H2, D.rt, fun σ' H2 => D.bk (σ'.set i none) H2, fun σ' H2 => D.ct (σ'.set i none) H2⟩ (σ.set i (some (.ref x))) (upd H' x (excO x C))
theorem r_try {CT : Addr} {i : Nat} {tb : TX} {ts : Addr → TS} (k : tb D (tryE K CT i ts D σ) σ H) : tTry K CT i tb ts D σ H := k
theorem r_tryE {C CT : Addr} {i : Nat} {ts : Addr → TS} {o : Option Addr} (e : PySem.W.exmOne K (.ref C) (.ref CT) = some true)
    (k : ∀ x, H x = none → ts x ⟨fun σ' H2 => D.nx (σ'.set i none) H2, D.rt, fun σ' H2 => D.bk (σ'.set i none) H2, fun σ' H2 => D.ct (σ'.set i none) H2⟩ (σ.set i (some (.ref x))) (upd H x (excO x C))) : tryE K CT i ts D σ (.ref C) o H := ⟨C, rfl, e, k⟩
theorem r_xdrop {te : TEX} (k : te σ H (fun _ H1 => D.nx σ H1) E) : xDrop te D E σ H := k
theorem r_callX {sp : Sp} {t : TA} (k : t σ H fun vs H1 => sp vs H1 Q E) : tCallX sp [] t σ H Q E := by
  have e : (fun (vs : List V) H1 => sp (vs ++ []) H1 Q E) = fun vs H1 => sp vs H1 Q E := by
    funext vs H1
    rw [List.append_nil]
  show t σ H fun vs H1 => sp (vs ++ []) H1 Q E
  rw [e]; exact k
theorem r_rng1H {y : Addr} {ta : TA} {R : It → Hp → Prop} (k : ta σ H fun vs H1 => ∃ j : Int, vs = [.int j] ∧ -(2 ^ 62) ≤ j ∧ j < 2 ^ 62 ∧ R (ItrH y 0 j.toNat) H1) : iRng1H y ta σ H R := k
end
theorem denB {H : Hp} : ∀ bs : List Bool, DenL H (bs.map Dt.bl) (bs.map V.bl)
  | [] => rfl
  | b :: bs => ⟨_, _, rfl, rfl, denB bs⟩
theorem deqB : ∀ bs : List Bool, deqL (bs.map Dt.bl) (bs.map Dt.bl) = true
  | [] => rfl
  | b :: bs => by
    show (b == b && deqL (bs.map Dt.bl) (bs.map Dt.bl)) = true
    rw [beq_self_eq_true, deqB bs]; rfl
theorem depB : ∀ bs : List Bool, depL (bs.map Dt.bl) ≤ 0
  | [] => Nat.le_refl _
  | b :: bs => by
    show max 0 (depL (bs.map Dt.bl)) ≤ 0
    have := depB bs
    omega
theorem e_bls {H : Hp} {Q : VK} {p q : Addr} (bs : List Bool) (h1 : H p = some (.lst (bs.map V.bl))) (h2 : H q = some (.lst (bs.map V.bl))) (k : Q (.bl true) H) : rEqA (.ref p) (.ref q) H Q :=
  e_lst ⟨p, _, rfl, h1, denB bs⟩ ⟨q, _, rfl, h2, denB bs⟩ (Nat.le_trans (depB bs) (by decide)) (by rw [deqB bs]; exact k)
end L2
namespace L2
open PySem PySem.Spec PyProof.Rows
section
variable {X : Cx}
noncomputable def rSplit : V → List V → Hp → VK → Prop := fun x vs H Q => ∃ z y : Str, x = .str z ∧ vs = [.str y] ∧ (y.length == 0) = false ∧ z.length ≤ 100000 ∧ ∀ l, H l = none → Q (.ref l) (upd H l (.lst ((Txt.split z y).map V.str)))
theorem texts_vals : ∀ (l : List (Str × Tok)), Vals ((l.map (·.1)).map V.str) (strValues l)
  | [] => .nil
  | p :: r => .cons ⟨p.2, rfl⟩ (texts_vals r)
theorem mt_split : MtR X "str.split" rSplit := by
  intro pins s σ H x vs v us Q I rx rv h
  obtain ⟨z, y, rfl, rfl, hy, hz, q⟩ := h
  obtain ⟨t, rfl⟩ := rx
  obtain ⟨u, rfl, ru⟩ := rv.one
  obtain ⟨t', rfl⟩ := ru
  have hn : (Builtin.Str.partsBetween z (Builtin.Str.occurrences z y 0 z.length (z.length + 1)) y.length).length ≤ z.length + 2 := by
    have := StrLaws.occ_length_le z y 0 z.length (z.length + 1)
    rw [length_partsBetween]
    omega
  have fin : ∀ (l : List (Str × Tok)) (k : Nat), l.map (·.1) = Txt.split z y → l.length ≤ 200000 → EP X pins σ Q (.ref s.heap.objs.size) { s with heap := s.heap.push { cls := .type "list", data := .seq (strValues l).toArray }, toks := k } := fun l k e hl => by
    refine ⟨.ref s.heap.objs.size, _, I.laid (t' := k) (a := s.heap.objs.size) (o := .lst ((Txt.split z y).map V.str)) (fun b o g => Heap.get?_push_of_some _ g) (Nat.le_refl _) ⟨?_, _, 0, ?_, Heap.get?_push_size _ rfl⟩, rfl, q _ (I.hok.fresh (Nat.le_refl _))⟩
    · rw [← e, List.length_map, List.length_map, sizeLine_eq]
      omega
    · rw [← e]
      exact texts_vals l
  have sz : z.length ≤ sizeLine := by rw [sizeLine_eq]; omega
  cases h1 : (decide (z.length < y.length) || decide (Builtin.Str.strKind z < Builtin.Str.strKind y))
  · cases hf : (Builtin.Str.occurrences z y 0 z.length (z.length + 1)).isEmpty
    · refine call_meets F.slot_str_split (typeIs_str _ _ _) F.entry_str_split (F.args_str_split_2 _ _) (meets_str_split_sep z y t t' h1 hy hf sz (by rw [sizeLine_eq]; omega)) ?_
      show wants _ _ _ { s with toks := _, heap := s.heap.push { cls := .type "list", data := .seq (strsFrom s.toks (Builtin.Str.partsBetween z (Builtin.Str.occurrences z y 0 z.length (z.length + 1)) y.length)).toArray } }
      rw [strsFrom_eq]
      have e := numbered_texts s.toks (Builtin.Str.partsBetween z (Builtin.Str.occurrences z y 0 z.length (z.length + 1)) y.length)
      have e2 := congrArg List.length e
      rw [List.length_map] at e2
      exact fin _ _ (e.trans ((if_neg (ne_true_of_eq_false h1)).trans (if_neg (ne_true_of_eq_false hf))).symm) (by omega)
    · refine call_meets F.slot_str_split (typeIs_str _ _ _) F.entry_str_split (F.args_str_split_2 _ _) (meets_str_split_not_found z y t t' h1 hy hf) ?_
      exact fin [(z, t)] s.toks ((if_neg (ne_true_of_eq_false h1)).trans (if_pos hf)).symm (by simp)
  · refine call_meets F.slot_str_split (typeIs_str _ _ _) F.entry_str_split (F.args_str_split_2 _ _) (meets_str_split_cannot_occur z y t t' h1) ?_
    exact fin [(z, t)] s.toks (if_pos h1).symm (by simp)
end
end L2
namespace L2
open PySem PySem.Spec PyProof.Rows
noncomputable def Its (z : Str) : It := ⟨fun i _ => i < z.cps.size, fun i H x H' => H' = H ∧ ∃ c, z.cps[i]? = some c ∧ x = .str ⟨#[c]⟩, fun i _ => z.cps.size ≤ i⟩
theorem turn_signs {P : Program} {w : World} {K : PySem.W.Frag} {tg : Expr} (it : Addr) (z : Str) (t : Tok) (n : String) (hn : n = "str_ascii_iterator" ∨ n = "str_iterator") : Turn P w K tg (Its z) [it] it (fun i h => h.IsStrIter it n z t i) where
  mem := by simp
  obj := fun i h st b hb => by
    obtain rfl : b = it := by simpa using hb
    obtain ⟨o, e, c, d⟩ := st
    exact ⟨o, e, fun v y => by rw [d] at y; cases y⟩
  keep := fun i h h' st k => let ⟨o, e, r⟩ := st; ⟨o, k it (by simp) o e, r⟩
  item := by
    intro X hP hw hK hc i pins s σ H E I hf st hg
    subst hP hw hK
    obtain ⟨f0, f1, f2, f3, f4, f5⟩ := hf it (by simp)
    have hg : i < z.cps.size := hg
    have ec : z.cps[i]? = some z.cps[i] := by simp [hg]
    have fin : ∀ h', h'.IsStrIter it n z t (i + 1) → Heap.SameBut it s.heap h' → ∃ u, some (Value.str ⟨#[z.cps[i]]⟩ s.toks) = some u ∧
        wpAny (model X.prog X.w) X.A (letOwnedTupleGo tg (.ref it) u) (fun _ s2 => ∃ x H', Inv X pins σ H' s2 ∧ RelV x u ∧ (Its z).yld i H x H' ∧ s2.heap.IsStrIter it n z t (i + 1) ∧ ∀ b ∈ [it], H' b = none) E { s with heap := h', toks := s.toks + 1 } := fun h' st' sb => by
      have I1 : Inv X pins σ H { s with heap := h', toks := s.toks + 1 } := I.turned (fun b o hb e => (sb.2 b hb).trans e) f0 f1 f3 f4 f5
      obtain ⟨o, e, c, d⟩ := id st'
      have hno : ["enumerate", "zip", "dict_itemiterator", "dict_reverseitemiterator", "odict_iterator", "itertools.zip_longest", "itertools.pairwise"].contains n = false := by
        rcases hn with rfl | rfl <;> decide
      exact ⟨_, rfl, go_of (s := { s with heap := h', toks := s.toks + 1 }) e c d hno ⟨.str ⟨#[z.cps[i]]⟩, H, I1, ⟨_, rfl⟩, ⟨rfl, _, ec, rfl⟩, st', fun b hb => (hf b hb).1⟩⟩
    rcases hn with rfl | rfl
    · exact wpAny_pyNext_ascii_item st ec fin
    · exact wpAny_pyNext_wide_item st ec fin
  done := by
    intro X hP hw hK hc i pins s σ H E I hf st hg
    subst hP hw hK
    obtain ⟨f0, f1, f2, f3, f4, f5⟩ := hf it (by simp)
    have hg : z.cps.size ≤ i := hg
    have ec : z.cps[i]? = none := by simp [hg]
    rcases hn with rfl | rfl
    · exact wpAny_pyNext_ascii_end (I.ok.hd hc) st ec fun h' eb => ⟨rfl, I.turned (t' := s.toks) (fun b o hb e => eb b o hb e) f0 f1 f3 f4 f5⟩
    · exact wpAny_pyNext_wide_end (I.ok.hd hc) st ec fun h' eb => ⟨rfl, I.turned (t' := s.toks) (fun b o hb e => eb b o hb e) f0 f1 f3 f4 f5⟩
  self := fun _ _ _ _ _ st h => by
    rcases hn with rfl | rfl
    · exact wpAny_pyIter_striter_ascii st h
    · exact wpAny_pyIter_striter_wide st h
section
variable {X : Cx} {tg : Expr}
noncomputable def iSigns (tl : TE) : TI := fun σ H R => tl σ H fun x H1 => ∃ z, x = .str z ∧ R (Its z) H1
theorem pi_signs {l : Expr} {tl : TE} (hl : PE X l tl) : PI X tg l (iSigns tl) := by
  intro pins s σ H R I h
  refine thn (hl pins s σ H _ I h) fun v s1 ⟨x, H1, I1, r1, z, e, q⟩ => ?_
  subst e
  obtain ⟨t, rfl⟩ := r1
  refine wpAny_pyIter_strU ?_
  refine ⟨s1.heap.objs.size, [s1.heap.objs.size], _, _, H1, rfl, I1.kept (t' := s1.toks) fun b o e => Heap.get?_push_of_some _ e, turn_signs _ z t (strIterType z) ?_, ⟨_, Heap.get?_push_size _ rfl, rfl, rfl⟩, fun b hb => ?_, q⟩
  · unfold strIterType
    split
    · exact .inl rfl
    · exact .inr rfl
  · obtain rfl : b = s1.heap.objs.size := by simpa using hb
    exact I1.fpOk (Nat.le_refl _) (I1.hok.fresh (Nat.le_refl _))
noncomputable def rInTx : R2 := fun x y H Q => ∃ (c : Nat) (z : Str), x = .str ⟨#[c]⟩ ∧ y = .str z ∧ Q (.bl (decide (c ∈ z.cps.toList))) H
theorem op_inTx : OpR X (compareOp .In) rInTx := by
  intro pins s σ H x y v u Q I rx ry h
  obtain ⟨c, z, rfl, rfl, q⟩ := h
  obtain ⟨t, rfl⟩ := rx
  obtain ⟨t', rfl⟩ := ry
  refine P.in_str ⟨.bl _, H, I, rfl, ?_⟩
  rw [StrLaws.found_one]
  exact q
noncomputable def rAllB (K : PySem.W.Frag) : List V → Hp → VK → Prop := fun vs H Q => ∃ (p : Addr) (bs : List Bool), vs = [.ref p] ∧ SqL K H p (bs.map V.bl) ∧ Q (.bl (bs.all id)) H
theorem all_range : ∀ (bs : List Bool), (List.range bs.length).all (fun i => (bs[i]?).getD true) = bs.all id := by
  intro bs
  rw [Bool.eq_iff_iff, List.all_eq_true, List.all_eq_true]
  constructor
  · intro h x hx
    obtain ⟨i, hi, e⟩ := List.getElem_of_mem hx
    have q := h i (List.mem_range.mpr hi)
    rw [List.getElem?_eq_getElem hi, e] at q
    exact q
  · intro h i hi
    have hi := List.mem_range.mp hi
    have q := h bs[i] (List.getElem_mem hi)
    rw [List.getElem?_eq_getElem hi]
    exact q
theorem c_allB (hc : X.calm = true) : CallR X (.builtin "all") (rAllB X.K) := by
  intro pins s σ H xs us Q I r h
  obtain ⟨p, bs, rfl, hp, q⟩ := h
  obtain ⟨u, rfl, rx⟩ := r.one
  cases rx
  obtain ⟨its, rl, ht, hz⟩ := I.list hp
  have hlt : p < s.heap.objs.size := by
    obtain ⟨_, e, _⟩ := ht.isList
    exact Heap.lt_size e
  have hlen := rl.length
  rw [List.length_map] at hlen
  refine call_all_walk (wpAny_pyIter_list ht.isList ?_)
  refine ⟨s.heap.objs.size, [s.heap.objs.size, p], [s.heap.objs.size], its.toArray.size, _, _, fun i => (bs[i]?).getD true, rfl, Walks.list (A := X.A.in1) (I.ok.hd hc) _ p (Nat.ne_of_lt hlt) its.toArray, ⟨⟨_, Heap.get?_push_size _ rfl, rfl, rfl⟩, ht.isList.at fun o e => Heap.get?_push_of_some _ e⟩, ?_, fun h' tk hk => ?_⟩
  · intro i v s' Q' E' hv hq
    have hv : its[i]? = some v := by simpa using hv
    have hi : i < bs.length := by
      have := (List.getElem?_eq_some_iff.mp hv).1
      omega
    obtain ⟨u, e1, r1⟩ := rl.get (i := i) (x := .bl bs[i]) (by simp [hi])
    rw [hv] at e1
    cases e1
    obtain rfl : v = Value.bool bs[i] := r1
    refine wpAny_truthy_bool ?_
    have hq : Q' ((bs[i]?).getD true) s' := hq
    rw [List.getElem?_eq_getElem hi] at hq
    exact hq
  · refine ⟨.bl _, H, I.kept (t' := tk) fun b o e => hk b o (fun z => ?_) (Heap.get?_push_of_some _ e), ?_, q⟩
    · exact absurd (Heap.lt_size e) (by rw [List.mem_singleton.mp z]; exact Nat.lt_irrefl _)
    · show Value.bool _ = Value.bool _
      rw [List.size_toArray, ← hlen, all_range]
end
section
variable {te : TE} {Q : VK} {H : Hp} {σ caps : St} {wi : TI} {tc : TT} {K : PySem.W.Frag}
theorem r_iSigns {tl : TE} {R : It → Hp → Prop} (k : tl σ H fun x H1 => ∃ z, x = .str z ∧ R (Its z) H1) : iSigns tl σ H R := k
theorem r_compS {z : Str} (hn : z.length ≤ 1000) (Pv : Addr → Nat → List V → Hp → Prop) (h0 : ∀ acc, H acc = none → Pv acc 0 [] (upd H acc (.lst [])))
    (hs : ∀ acc i ys H1 c, H acc = none → z.cps[i]? = some c → ys.length = i → H1 acc = some (.lst ys) → Pv acc i ys H1 → te (some (.str ⟨#[c]⟩) :: caps) H1 (cNext z.length acc (Pv acc) ys i))
    (hd : ∀ acc ys H1, H acc = none → H1 acc = some (.lst ys) → ys.length = z.length → Pv acc z.length ys H1 → Q (.ref acc) H1) : compK te none (gName 0) (List.replicate 1 none) caps Q (Its z) H := by
  intro acc hacc
  refine ⟨cW z.length acc (Pv acc), ⟨z.length, by simp, Nat.zero_le _, rfl, upd_same, h0 acc hacc⟩, ?_⟩
  rintro i m ys H1 ⟨rfl, hi, hl, ha, p⟩
  refine ⟨ha, ?_⟩
  by_cases hlt : i < z.length
  · refine .inr ⟨small1000 (by omega), hlt, fun us x H' hu y => ?_⟩
    obtain ⟨e, c, ec, y⟩ := y
    subst e y
    obtain ⟨o, rfl⟩ := len1 hu
    exact ⟨⟨[some (.str ⟨#[c]⟩)], rfl, rfl⟩, hs acc i ys _ c hacc ec hl ha p⟩
  · have e : i = z.length := by omega
    subst e
    exact .inl ⟨Nat.le_refl _, hd acc ys H1 hacc ha hl p⟩
theorem r_inTx {c : Nat} {z : Str} (k : Q (.bl (decide (c ∈ z.cps.toList))) H) : rInTx (.str ⟨#[c]⟩) (.str z) H Q := ⟨c, z, rfl, rfl, k⟩
theorem r_allB {p : Addr} {bs : List Bool} (h : H p = some (.lst (bs.map V.bl))) (k : Q (.bl (bs.all id)) H) : rAllB K [.ref p] H Q := ⟨p, bs, rfl, SqL.of h, k⟩
theorem r_split {z y : Str} (hy : (y.length == 0) = false) (hz : z.length ≤ 100000) (k : ∀ l, H l = none → Q (.ref l) (upd H l (.lst ((Txt.split z y).map V.str)))) : rSplit (.str z) [.str y] H Q := ⟨z, y, rfl, rfl, hy, hz, k⟩
end
section
variable {r r' : R2} {ta tb tc : TE} {x y : V} {σ : St} {H : Hp} {Q : VK} {c : Bool}
noncomputable def chnD (r' : R2) (y : V) (Q : VK) : VK := fun w' H4 => r' y w' H4 Q
noncomputable def chnC (r' : R2) (tc : TE) (y : V) (σ : St) (Q : VK) : VK := fun z H3 => ∃ k, z = .bl k ∧ (if k = true then tc σ H3 (chnD r' y Q) else Q (.bl false) H3)
noncomputable def chnB (r r' : R2) (tc : TE) (x : V) (σ : St) (Q : VK) : VK := fun y H2 => r x y H2 (chnC r' tc y σ Q)
noncomputable def chnA (r r' : R2) (tb tc : TE) (σ : St) (Q : VK) : VK := fun x H1 => tb σ H1 (chnB r r' tc x σ Q)
theorem r_chain (k : ta σ H (chnA r r' tb tc σ Q)) : tChain r r' ta tb tc σ H Q := k
theorem r_chnA (k : tb σ H (chnB r r' tc x σ Q)) : chnA r r' tb tc σ Q x H := k
theorem r_chnB (k : r x y H (chnC r' tc y σ Q)) : chnB r r' tc x σ Q y H := k
theorem r_chnC (k : if c = true then tc σ H (chnD r' y Q) else Q (.bl false) H) : chnC r' tc y σ Q (.bl c) H := ⟨c, rfl, k⟩
theorem r_chnD (k : r' x y H Q) : chnD r' x Q y H := k
end
section
variable {K : PySem.W.Frag} {H H' : Hp}
noncomputable def NS (K : PySem.W.Frag) (H : Hp) (x : V) : Prop := ∃ t, TyOf K H x t ∧ PySem.W.kitOne K t (.type "str") = some false
theorem NS.int (i : Int) : NS K H (.int i) := ⟨_, .int i, kit_int_str⟩
theorem NS.non : NS K H .non := ⟨_, .non, kit_NoneType_str⟩
end
noncomputable def pst : List Nat → Nat → Nat → Bool
  | [], k, n => decide (k ≤ 4) && (decide (1 ≤ n) && decide (n ≤ 8))
  | c :: r, k, n => if c = 46 then (decide (1 ≤ n) && decide (n ≤ 8)) && pst r (k + 1) 0 else (decide (97 ≤ c) && decide (c < 123)) && pst r k (n + 1)
noncomputable def postB (z : Str) : Bool := pst z.cps.toList 1 0
noncomputable def partB (z : Str) : Bool := (decide (1 ≤ z.length) && decide (z.length ≤ 8)) && z.cps.toList.all fun c => decide (97 ≤ c) && decide (c < 123)
theorem pst_part : ∀ (l : List Nat) (r : List Nat) (k n : Nat), 46 ∉ l → pst (l ++ r) k n = ((l.all fun c => decide (97 ≤ c) && decide (c < 123)) && pst r k (n + l.length))
  | [], r, k, n, _ => by simp
  | c :: l, r, k, n, h => by
    have h1 : c ≠ 46 := fun e => h (by simp [e])
    have h2 : 46 ∉ l := fun e => h (by simp [e])
    show (if c = 46 then _ else _) = _
    rw [if_neg h1]
    show ((decide (97 ≤ c) && decide (c < 123)) && pst (l ++ r) k (n + 1)) = _
    rw [pst_part l r k (n + 1) h2, List.all_cons, List.length_cons, show n + 1 + l.length = n + (l.length + 1) by omega]
    simp only [Bool.and_assoc]
theorem join_cps1 (x : Str) : (Str.join ⟨#[46]⟩ [x]).cps.toList = x.cps.toList := rfl
theorem join_cps2 (x y : Str) (r : List Str) : (Str.join ⟨#[46]⟩ (x :: y :: r)).cps.toList = x.cps.toList ++ 46 :: (Str.join ⟨#[46]⟩ (y :: r)).cps.toList := by
  show (((x.cps ++ #[46]) ++ (Str.join ⟨#[46]⟩ (y :: r)).cps) : Array Nat).toList = _
  simp
theorem len_cps (z : Str) : z.length = z.cps.toList.length := by unfold Str.length; simp
theorem pst_join : ∀ (ps : List Str) (x : Str) (k : Nat), (∀ p ∈ x :: ps, 46 ∉ p.cps.toList) → pst (Str.join ⟨#[46]⟩ (x :: ps)).cps.toList k 0 = (decide (k + ps.length ≤ 4) && (x :: ps).all partB)
  | [], x, k, h => by
    rw [join_cps1]
    have q := pst_part x.cps.toList [] k 0 (h x (by simp))
    rw [List.append_nil] at q
    rw [q, Nat.zero_add, ← len_cps]
    show (_ && (decide (k ≤ 4) && _)) = _
    simp only [List.all_cons, List.all_nil, Bool.and_true, partB, List.length_nil, Nat.add_zero]
    cases decide (k ≤ 4) <;> cases (decide (1 ≤ x.length) && decide (x.length ≤ 8)) <;> cases (x.cps.toList.all fun c => decide (97 ≤ c) && decide (c < 123)) <;> rfl
  | y :: r, x, k, h => by
    have ih := pst_join r y (k + 1) fun p hp => h p (List.mem_cons_of_mem _ hp)
    rw [join_cps2, pst_part _ _ k 0 (h x (by simp))]
    show (_ && (if 46 = 46 then _ else _)) = _
    rw [if_pos rfl, ih, Nat.zero_add, ← len_cps, List.all_cons (a := x), List.length_cons]
    show (_ && (_ && (decide (k + 1 + r.length ≤ 4) && _))) = (decide (k + (r.length + 1) ≤ 4) && (((_ && _) && _) && _))
    rw [show k + 1 + r.length = k + (r.length + 1) by omega]
    cases decide (k + (r.length + 1) ≤ 4) <;> cases decide (1 ≤ x.length) <;> cases decide (x.length ≤ 8) <;> cases (x.cps.toList.all fun c => decide (97 ≤ c) && decide (c < 123)) <;> cases (y :: r).all partB <;> rfl
theorem post_split (z : Str) : postB z = (decide ((Txt.split z ⟨#[46]⟩).length ≤ 4) && (Txt.split z ⟨#[46]⟩).all partB) := by
  have h1 := StrLaws.join_split z ⟨#[46]⟩
  have h2 := StrLaws.split_free z 46
  have h3 := split_pos z ⟨#[46]⟩
  unfold postB
  generalize hs : Txt.split z ⟨#[46]⟩ = ps at h1 h2 h3 ⊢
  cases ps with
  | nil => simp at h3
  | cons x r =>
    rw [← h1, pst_join r x 1 h2, List.length_cons, show 1 + r.length = r.length + 1 by omega]
theorem pst_bad {x : Nat} (h1 : x ≠ 46) (h2 : ¬ (97 ≤ x ∧ x < 123)) : ∀ (l : List Nat) (k n : Nat), x ∈ l → pst l k n = false
  | [], _, _, h => by cases h
  | c :: l, k, n, h => by
    unfold pst
    rcases List.mem_cons.mp h with rfl | h
    · rw [if_neg h1]
      have e : (decide (97 ≤ x) && decide (x < 123)) = false := by
        rw [Bool.and_eq_false_iff, decide_eq_false_iff_not, decide_eq_false_iff_not]
        omega
      rw [e]
      rfl
    · split
      · rw [pst_bad h1 h2 l (k + 1) 0 h, Bool.and_false]
      · rw [pst_bad h1 h2 l k (n + 1) h, Bool.and_false]
theorem sp_short {x y a : Str} (h : a ∈ Txt.split x y) : a.length ≤ x.length := part_short h
theorem sp_few (x y : Str) : (Txt.split x y).length ≤ x.length + 2 := split_le x y
noncomputable def PostQ (K : PySem.W.Frag) (H : Hp) (x : V) (b : Bool) : Prop := (∃ z : Str, x = .str z ∧ z.length ≤ 1000 ∧ b = postB z) ∨ (NS K H x ∧ b = false)
theorem TyOf.sm {K : PySem.W.Frag} {H H' : Hp} {x : V} {t : Value} (ty : TyOf K H x t) (s : Same H H') : TyOf K H' x t := by
  cases ty with
  | non => exact .non
  | bl x => exact .bl x
  | int i => exact .int i
  | str x => exact .str x
  | flt x => exact .flt x
  | lst e => exact .lst (s _ _ e)
  | frz e => exact .frz (s _ _ e)
  | tup e => exact .tup (s _ _ e)
  | dK e => exact .dK (s _ _ e)
  | dT e => exact .dT (s _ _ e)
  | ins e cl ha hn htk hm => exact .ins (s _ _ e) cl ha hn htk hm
theorem NS.sm {K : PySem.W.Frag} {H H' : Hp} {x : V} (h : NS K H x) (s : Same H H') : NS K H' x := let ⟨t, ty, e⟩ := h; ⟨t, TyOf.sm ty s, e⟩
theorem PostQ.sm {K : PySem.W.Frag} {H H' : Hp} {x : V} {b : Bool} (h : PostQ K H x b) (s : Same H H') : PostQ K H' x b := h.imp id fun z => ⟨z.1.sm s, z.2⟩
inductive IsRunQ (K : PySem.W.Frag) (H : Hp) : V → Bool → Prop
  | nt {x : V} (h : NT K H x) : IsRunQ K H x false
  | len {p : Addr} {xs : List V} (h : H p = some (.tup xs)) (n : xs.length ≠ 3) : IsRunQ K H (.ref p) false
  | one {p : Addr} {u v t : V} (h : H p = some (.tup [u, v, t])) (hu : PostQ K H u false) : IsRunQ K H (.ref p) false
  | two {p : Addr} {u v t : V} (h : H p = some (.tup [u, v, t])) (hu : PostQ K H u true) (hv : PostQ K H v false) : IsRunQ K H (.ref p) false
  | same {p : Addr} {s : Str} {t : V} (h : H p = some (.tup [.str s, .str s, t])) (hu : PostQ K H (.str s) true) : IsRunQ K H (.ref p) false
  | time {p : Addr} {s s' : Str} {t : V} (h : H p = some (.tup [.str s, .str s', t])) (hu : PostQ K H (.str s) true) (hv : PostQ K H (.str s') true) (hn : s ≠ s') (ht : ∀ H', Same H H' → Frq K H' t false) : IsRunQ K H (.ref p) false
  | run {p tp : Addr} {s s' : Str} {a c : Int} (h : H p = some (.tup [.str s, .str s', .ref tp])) (hu : PostQ K H (.str s) true) (hv : PostQ K H (.str s') true) (hn : s ≠ s') (ht : H tp = some (.tup [.int a, .int c])) (hf : frV (.int a) (.int c) = true) (sa : Sm 8000 a) (sc : Sm 8000 c) : IsRunQ K H (.ref p) (decide (0 < a))
theorem cps_app (a b : Str) : (a ++ b).cps.toList = a.cps.toList ++ b.cps.toList := by
  show (a.cps ++ b.cps).toList = _
  simp
theorem len_plus (a b : Str) : (a ++ b).length = a.length + b.length := by
  rw [len_cps, len_cps, len_cps, cps_app, List.length_append]
theorem post_bad {z : Str} {x : Nat} (h1 : x ≠ 46) (h2 : ¬ (97 ≤ x ∧ x < 123)) (h : x ∈ z.cps.toList) : postB z = false := pst_bad h1 h2 _ _ _ h
theorem IsRunQ.of3 {K : PySem.W.Frag} {H : Hp} {p : Addr} {s s' : Str} {t : V} (h : H p = some (.tup [.str s, .str s', t])) (hu : PostQ K H (.str s) true) (hv : PostQ K H (.str s') true) (ht : ∀ H', Same H H' → Frq K H' t false) : IsRunQ K H (.ref p) false := by
  by_cases e : s = s'
  · subst e; exact .same h hu
  · exact .time h hu hv e ht
theorem IsRunQ.of4 {K : PySem.W.Frag} {H : Hp} {p tp : Addr} {s s' : Str} {a c : Int} (h : H p = some (.tup [.str s, .str s', .ref tp])) (hu : PostQ K H (.str s) true) (hv : PostQ K H (.str s') true) (ht : H tp = some (.tup [.int a, .int c])) (hf : frV (.int a) (.int c) = true) (sa : Sm 8000 a) (sc : Sm 8000 c) (ha : a ≤ 0) : IsRunQ K H (.ref p) false := by
  by_cases e : s = s'
  · subst e; exact .same h hu
  · have := IsRunQ.run (K := K) h hu hv e ht hf sa sc
    rw [decide_eq_false (by omega)] at this
    exact this
theorem part_facts {z : Str} (h : partB z = true) : 1 ≤ z.length ∧ z.length ≤ 8 ∧ 46 ∉ z.cps.toList := by
  unfold partB at h
  rw [Bool.and_eq_true, Bool.and_eq_true, decide_eq_true_iff, decide_eq_true_iff, List.all_eq_true] at h
  refine ⟨h.1.1, h.1.2, fun m => ?_⟩
  exact absurd (h.2 _ m) (by decide)
theorem sum_le : ∀ {cs : List Str}, (∀ c ∈ cs, c.length ≤ 8) → (cs.map (·.length)).sum ≤ 8 * cs.length
  | [], _ => Nat.le_refl _
  | c :: r, h => by
    have h1 := h c (by simp)
    have h2 := sum_le (cs := r) fun d hd => h d (List.mem_cons_of_mem _ hd)
    rw [List.map_cons, List.sum_cons, List.length_cons]
    omega
theorem letters_mem (c : Nat) : decide (c ∈ ("abcdefghijklmnopqrstuvwxyz" : Str).cps.toList) = (decide (97 ≤ c) && decide (c < 123)) := by
  have e : ("abcdefghijklmnopqrstuvwxyz" : Str).cps.toList = List.range' 97 26 := by decide +kernel
  rw [e, Bool.eq_iff_iff, Bool.and_eq_true, decide_eq_true_iff, decide_eq_true_iff, decide_eq_true_iff]
  exact List.mem_range'_1
end L2
namespace L2
open PySem PySem.Spec PyProof.Rows
section
variable {σ : St} {H : Hp} {Q : VK} {K : PySem.W.Frag}
theorem slice_mem {z : Str} {lo hi : Option Int} : ∀ c ∈ (Txt.slice z lo hi).cps.toList, c ∈ z.cps.toList := by
  intro c hc
  unfold Txt.slice at hc
  split at hc
  · exact hc
  · have h2 : c ∈ List.filterMap (z.cps[·]?) (Builtin.Str.strSliceIndices lo hi 1 z.length) := by simpa using hc
    obtain ⟨i, _, h⟩ := List.mem_filterMap.mp h2
    exact Array.mem_toList_iff.mpr (Array.mem_of_getElem? h)
theorem r_slSm {z : Str} {lo hi : Option Int} (hz : z.length ≤ 100000) (k : ∀ y : Str, y.length ≤ z.length → (∀ c ∈ y.cps.toList, c ∈ z.cps.toList) → Q (.str y) H) : rSlS (.str z) lo hi H Q := ⟨z, rfl, by rw [sizeLine_eq]; omega, k _ (Txt.slice_le z _ _) slice_mem⟩
theorem e_nets {l1 l3 : Addr} {n : List TRun} (h1 : LQ RunQ H l1 (kn n)) (h3 : LQ RunQ H l3 (kn n)) (k : Q (.bl true) H) : rEqA (.ref l1) (.ref l3) H Q := by
  obtain ⟨v1, a1, p1⟩ := h1
  obtain ⟨v3, a3, p3⟩ := h3
  refine e_lst (ds := n.map dRun) (es := n.map dRun) ⟨l1, _, rfl, a1, den_runs p1⟩ ⟨l3, _, rfl, a3, den_runs p3⟩ (Nat.le_trans (dep_runs n) (by decide)) ?_
  rw [DenL.same_eq _ _ (den_runs p1) (den_runs p1)]
  exact k
end
noncomputable abbrev sC : Str := Str.ofString "c"
noncomputable def n2 : List TRun := [(sA, sB, Rat.divInt 1 2), (sB, sC, Rat.divInt 1 3)]
end L2
namespace L2
open PySem PySem.Spec PyProof.Rows
section
variable {X : Cx} {k n : Nat} {x : Str} {ps ks : List Str} {dvs : List V} {sp : Sp} {p pos : Pos} {e : Expr} {es : List Expr} {kws : List Keyword} {t tk : TA}
end
theorem r_cut {s : TS} {D : Ends} {σ : St} {H : Hp} (J : St → Hp → Prop) (hJ : ∀ σ H, J σ H → D.nx σ H) (k : ∀ NX : St → Hp → Prop, (∀ σ H, J σ H → NX σ H) → s ⟨NX, D.rt, D.bk, D.ct⟩ σ H) : s D σ H := k D.nx hJ
section
variable {σ : St} {H : Hp} {Q : VK} {K : PySem.W.Frag}
end
noncomputable def n3 : List TRun := [(sA, sB, Rat.divInt 1 2), (sB, sC, Rat.divInt 1 1)]
noncomputable def ts3 : List (Key × Rat) := [(Sum.inl 0, Rat.divInt 1 2), (Sum.inl 1, Rat.divInt 1 1)]
noncomputable def tk3 : Nat → Option Rat := fun k => aget (lst ts3) (Sum.inl (k : Int))
end L2
namespace L2
open PySem PySem.Spec PyProof.Rows
section
variable {X : Cx}
end
section
variable {H : Hp} {Q : VK} {u v : V} {a b : Option Rat}
end
section
variable {net : List (RunD Key)} {a b : Key} {m : Rat} {tk : Nat → Option Rat} {f : Key → Option Rat}
end
open Classical in
open Classical in
theorem Pd.cut {β : Type} {R : V → β → Prop} {xs : List V} {ds : List β} (h : Paired R xs ds) (a b : Nat) : Paired R ((xs.drop a).take b) ((ds.drop a).take b) := by
  have hd : ∀ (a : Nat) {xs : List V} {ds : List β}, Paired R xs ds → Paired R (xs.drop a) (ds.drop a) := fun a => by
    induction a with
    | zero => exact fun h => h
    | succ a ih =>
      intro xs ds h
      cases h with
      | nil => exact .nil
      | cons r t => exact ih t
  have ht : ∀ (b : Nat) {xs : List V} {ds : List β}, Paired R xs ds → Paired R (xs.take b) (ds.take b) := fun b => by
    induction b with
    | zero => exact fun h => .nil
    | succ b ih =>
      intro xs ds h
      cases h with
      | nil => exact .nil
      | cons r t => exact .cons r (ih t)
  exact ht b (hd a h)
end L2
namespace L2
open PySem PySem.Spec PyProof.Rows
noncomputable def fW (n : Nat) (acc : Addr) (Pv : Nat → List V → Hp → Prop) : Nat → Nat → List V → Hp → Prop := fun i m ys H1 => m = n - i ∧ i ≤ n ∧ ys.length ≤ i ∧ H1 acc = some (.lst ys) ∧ Pv i ys H1
noncomputable def fNext (n : Nat) (acc : Addr) (Pv : Nat → List V → Hp → Prop) (ys : List V) (i : Nat) : VK := fun y H3 => H3 acc = some (.lst ys) ∧ ∃ m', m' < n - i ∧ fW n acc Pv (i + 1) m' (ys ++ [y]) (upd H3 acc (.lst (ys ++ [y])))
noncomputable def fSkip (n : Nat) (acc : Addr) (Pv : Nat → List V → Hp → Prop) (ys : List V) (i : Nat) (H3 : Hp) : Prop := ∃ m', m' < n - i ∧ fW n acc Pv (i + 1) m' ys H3
theorem f_next {n : Nat} {acc : Addr} {Pv : Nat → List V → Hp → Prop} {ys : List V} {i : Nat} {y : V} {H3 : Hp} (hlt : i < n) (hl : ys.length ≤ i) (ha : H3 acc = some (.lst ys)) (p : Pv (i + 1) (ys ++ [y]) (upd H3 acc (.lst (ys ++ [y])))) : fNext n acc Pv ys i y H3 :=
  ⟨ha, n - (i + 1), by omega, rfl, hlt, by rw [List.length_append]; simp; exact hl, upd_same, p⟩
theorem f_skip {n : Nat} {acc : Addr} {Pv : Nat → List V → Hp → Prop} {ys : List V} {i : Nat} {H3 : Hp} (hlt : i < n) (hl : ys.length ≤ i) (ha : H3 acc = some (.lst ys)) (p : Pv (i + 1) ys H3) : fSkip n acc Pv ys i H3 :=
  ⟨n - (i + 1), by omega, rfl, hlt, by omega, ha, p⟩
section
variable {te : TE} {Q : VK} {H : Hp} {caps : St} {K : PySem.W.Frag}
theorem r_compLT {c : TT} {a : Addr} {xs : List V} (hn : xs.length ≤ 1000) (Pv : Addr → Nat → List V → Hp → Prop) (h0 : ∀ acc, H acc = none → Pv acc 0 [] (upd H acc (.lst []))) (hl' : ∀ acc i ys H1, H acc = none → i ≤ xs.length → Pv acc i ys H1 → SqL K H1 a xs)
    (hs : ∀ acc i ys H1 x, H acc = none → xs[i]? = some x → ys.length ≤ i → H1 acc = some (.lst ys) → Pv acc i ys H1 → c (some x :: caps) H1 fun b H3 => if b = true then te (some x :: caps) H3 (fNext xs.length acc (Pv acc) ys i) else fSkip xs.length acc (Pv acc) ys i H3)
    (hd : ∀ acc ys H1, H acc = none → H1 acc = some (.lst ys) → ys.length ≤ xs.length → Pv acc xs.length ys H1 → Q (.ref acc) H1) : compK te (some c) (gName 0) (List.replicate 1 none) caps Q (Itl K a) H := by
  intro acc hacc
  refine ⟨fW xs.length acc (Pv acc), ⟨xs.length, by simp, Nat.zero_le _, Nat.le_refl _, upd_same, h0 acc hacc⟩, ?_⟩
  rintro i m ys H1 ⟨rfl, hi, hl, ha, p⟩
  have q := hl' acc i ys H1 hacc hi p
  refine ⟨ha, ?_⟩
  by_cases hlt : i < xs.length
  · refine .inr ⟨small1000 (by omega), ⟨xs, xs[i], q, by simp [hlt]⟩, fun us x H' hu y => ?_⟩
    obtain ⟨e, y⟩ := y
    subst e
    obtain ⟨o, rfl⟩ := len1 hu
    exact ⟨⟨[some x], rfl, rfl⟩, hs acc i ys _ x hacc (y xs q) hl ha p⟩
  · have e : i = xs.length := by omega
    subst e
    exact .inl ⟨⟨xs, q, Nat.le_refl _⟩, hd acc ys H1 hacc ha hl p⟩
end
section
variable {X : Cx} {tg : Expr}
end
section
variable {σ : St} {H : Hp} {D : Ends} {K : PySem.W.Frag}
end
section
variable {X : Cx}
end
section
variable {H : Hp} {Q : VK}
end
end L2
namespace L2
open PySem PySem.Spec PyProof.Rows
section
variable {net : List (RunD Key)} {push : Key → Option Rat} {tk : Nat → Option Rat}
end
open Classical in
noncomputable def but (ks : List Nat) (j : Nat) : List Nat := ks.filter fun k => decide (k ≠ j)
theorem n_nets {H : Hp} {Q : VK} {l1 l3 : Addr} {n : List TRun} (h1 : LQ RunQ H l1 (kn n)) (h3 : LQ RunQ H l3 (kn n)) (k : Q (.bl false) H) : rNeA (.ref l1) (.ref l3) H Q := by
  obtain ⟨v1, a1, p1⟩ := h1
  obtain ⟨v3, a3, p3⟩ := h3
  refine n_lst (ds := n.map dRun) (es := n.map dRun) ⟨l1, _, rfl, a1, den_runs p1⟩ ⟨l3, _, rfl, a3, den_runs p3⟩ (Nat.le_trans (dep_runs n) (by decide)) ?_
  rw [DenL.same_eq _ _ (den_runs p1) (den_runs p1)]
  exact k
theorem r_slSe {H : Hp} {Q : VK} {z : Str} {lo hi : Option Int} (hz : z.length ≤ 100000) (k : Q (.str (Txt.slice z lo hi)) H) : rSlS (.str z) lo hi H Q := ⟨z, rfl, by rw [sizeLine_eq]; omega, k⟩
section
variable {X : Cx} {scope : Scope} {caps : List (Str × Addr)} {N : List Str} {C : Addr} {s0 : Shared} {H0 : Hp} {ex : List Addr}
end
section
variable {te : TE} {Q : VK} {H : Hp} {caps : St} {K : PySem.W.Frag} {σ : St}
end
theorem op_addAc {X : Cx} {scope : Scope} {caps : List (Str × Addr)} {N : List Str} {C : Addr} {s0 : Shared} {H0 : Hp} {ex : List Addr} : OpR (cxComp X scope caps N C s0 H0 ex) (binaryOp .Add) (rAddA X.K) := op_addA
end L2
namespace L2
open PySem PySem.Spec PyProof.Rows
theorem dig_len : ∀ i, i < 1000 → (Str.ofString (toString ((i : Nat) : Int))).length ≤ 10 := by decide +kernel
section
variable {X : Cx}
noncomputable def tFmtI (te : TE) : TE := fun σ H Q => te σ H fun x H1 => ∃ i : Nat, x = .int i ∧ i < 1000 ∧ ∀ z : Str, z.length ≤ 10 → Q (.str z) H1
theorem log_small {i : Nat} (h : i < 1000) : ((i : Nat) : Int).natAbs.log2 < 1920 := by
  rw [Int.natAbs_natCast]
  by_cases e : i = 0
  · subst e; decide
  · have h1 : i.log2 < 10 := (Nat.log2_lt e).mpr (by omega)
    omega
theorem pe_fmt {e : Expr} {te : TE} {pos : Pos} (he : PE X e te) : PE X (.FormattedValue e (-1) none pos) (tFmtI te) := by
  intro pins s σ H Q I h
  refine wpAny_FormattedValue_plain (thn (he pins s σ H _ I h) fun v s1 ⟨x, H1, I1, r1, i, e1, hi, q⟩ => ?_)
  subst e1
  obtain ⟨t, rfl⟩ := r1
  exact wpAny_formatField_int (log_small hi) ⟨.str _, H1, I1.tok _, ⟨_, rfl⟩, q _ (dig_len i hi)⟩
noncomputable def tJn : List TE → TE
  | [], _, H, Q => ∀ z : Str, Q (.str z) H
  | t :: r, σ, H, Q => t σ H fun x H1 => ∃ y : Str, x = .str y ∧ y.length ≤ 1000 ∧ tJn r σ H1 Q
inductive PJs (X : Cx) : List Expr → List TE → Prop
  | nil : PJs X [] []
  | cons {v : Expr} {vs : List Expr} {t : TE} {ts : List TE} (h : PE X v t) (r : PJs X vs ts) : PJs X (v :: vs) (t :: ts)
theorem pj_nil : PJs X [] [] := .nil
theorem pj_cons {v : Expr} {vs : List Expr} {t : TE} {ts : List TE} (h : PE X v t) (r : PJs X vs ts) : PJs X (v :: vs) (t :: ts) := .cons h r
theorem joins_of {pins : List (Addr × Obj)} {σ : St} {Q : VK} : ∀ {vs : List Expr} {ts : List TE} (_ : PJs X vs ts) (n : Nat) (acc : Str) (s : Shared) (H : Hp), acc.length ≤ 1000 * n → ts.length + n ≤ 100 → Inv X pins σ H s → tJn ts σ H Q →
    Joins (model X.prog X.w) X.A X.xe (evalEach vs X.env) acc (fun out s₁ => out.length ≤ sizeLine ∧ EP X pins σ Q (.str out s₁.toks) { s₁ with toks := s₁.toks + 1 }) s
  | _, _, .nil, n, acc, s, H, ha, hn, I, h => ⟨by rw [sizeLine_eq]; omega, .str acc, H, I.tok _, ⟨_, rfl⟩, h acc⟩
  | v :: vs, t :: ts, .cons hp r, n, acc, s, H, ha, hn, I, h => by
    show wpAny _ _ (eval v X.env) _ _ s
    rw [List.length_cons] at hn
    refine thn (hp pins s σ H _ I h) fun u s1 ⟨x, H1, I1, r1, y, e1, hy, q⟩ => ?_
    subst e1
    obtain ⟨tk, rfl⟩ := r1
    have hl := len_plus acc y
    refine ⟨y, tk, rfl, by rw [hl, sizeLine_eq]; omega, joins_of r (n + 1) (acc ++ y) s1 H1 (by omega) (by omega) I1 q⟩
theorem pe_fst {v1 v2 : Expr} {rest : List Expr} {ts : List TE} {pos : Pos} (h : PJs X (v1 :: v2 :: rest) ts) (hn : ts.length ≤ 50) : PE X (.JoinedStr (v1 :: v2 :: rest) pos) (tJn ts) := by
  intro pins s σ H Q I hq
  exact wpAny_JoinedStr (joins_of h 0 Str.empty s H (Nat.le_refl _) (by omega) I hq)
theorem r_jn0 {σ : St} {H : Hp} {Q : VK} (k : ∀ z : Str, Q (.str z) H) : tJn [] σ H Q := k
noncomputable def jnK (r : List TE) (σ : St) (Q : VK) : VK := fun x H1 => ∃ y : Str, x = .str y ∧ y.length ≤ 1000 ∧ tJn r σ H1 Q
theorem r_jn {t : TE} {r : List TE} {σ : St} {H : Hp} {Q : VK} (k : t σ H (jnK r σ Q)) : tJn (t :: r) σ H Q := k
theorem r_jnK {r : List TE} {σ : St} {H : Hp} {Q : VK} {y : Str} (hy : y.length ≤ 1000) (k : tJn r σ H Q) : jnK r σ Q (.str y) H := ⟨y, rfl, hy, k⟩
noncomputable def fmK (Q : VK) : VK := fun x H1 => ∃ i : Nat, x = .int i ∧ i < 1000 ∧ ∀ z : Str, z.length ≤ 10 → Q (.str z) H1
theorem r_fmt {te : TE} {σ : St} {H : Hp} {Q : VK} (k : te σ H (fmK Q)) : tFmtI te σ H Q := k
theorem r_fmK {i : Nat} {H : Hp} {Q : VK} (hi : i < 1000) (k : ∀ z : Str, z.length ≤ 10 → Q (.str z) H) : fmK Q (.int i) H := ⟨i, rfl, hi, k⟩
noncomputable def rEndP : V → List V → Hp → VK → Prop := fun x vs H Q => ∃ z : Str, x = .str z ∧ vs = [.str ⟨#[46]⟩] ∧ Q (.bl (decide (z.cps.toList.getLast? = some 46))) H
theorem ends_last (z : Str) : Txt.endswith z ⟨#[46]⟩ = decide (z.cps.toList.getLast? = some 46) := by
  unfold Txt.endswith
  show (decide (0 + 1 ≤ z.length) && Builtin.Str.subAt z ⟨#[46]⟩ (z.length - 1)) = _
  rw [Bool.eq_iff_iff, Bool.and_eq_true, decide_eq_true_iff, decide_eq_true_iff]
  have e1 := StrLaws.subAt_one z 46 (z.length - 1)
  rw [List.getLast?_eq_getElem?, ← len_cps, ← e1]
  show _ ↔ (z.length - 1 + 1 ≤ z.length ∧ _)
  constructor
  · exact fun h => ⟨by omega, h.2⟩
  · exact fun h => ⟨by omega, h.2⟩
theorem mt_endP : MtR X "str.endswith" rEndP := by
  intro pins s σ H x vs v us Q I rx rv h
  obtain ⟨z, rfl, rfl, q⟩ := h
  obtain ⟨t, rfl⟩ := rx
  obtain ⟨u, rfl, ru⟩ := rv.one
  obtain ⟨t', rfl⟩ := ru
  refine call_gives F.slot_str_endswith (typeIs_str _ _ _) F.entry_str_endswith (F.args_str_endswith_2 _ _) (gives_str_endswith z ⟨#[46]⟩ t t') ?_
  refine ⟨.bl _, H, I, rfl, ?_⟩
  have e := ends_last z
  unfold Txt.endswith at e
  rw [e]
  exact q
end
theorem pe_bmc {X : Cx} {scope : Scope} {caps : List (Str × Addr)} {N : List Str} {C : Addr} {s0 : Shared} {H0 : Hp} {ex : List Addr} {o e : Expr} {es : List Expr} {to : TE} {t : TA} {name : Str} {apos cpos : Pos} {T id : String} {r : V → List V → Hp → VK → Prop}
    (pa : PlainAttrs T) (slot : Slot T name id) (hty : typeOf (.builtin id) = pure (.type "method_descriptor")) (hm : MtR (cxComp X scope caps N C s0 H0 ex) id r) (ho : PE (cxComp X scope caps N C s0 H0 ex) o to) (ha : PA (cxComp X scope caps N C s0 H0 ex) (e :: es) t)
    (hbase : attributeBase o name (cxComp X scope caps N C s0 H0 ex).env (eval o (cxComp X scope caps N C s0 H0 ex).env) = eval o (cxComp X scope caps N C s0 H0 ex).env := by rfl)
    (hfew : ((backTo cpos (starEach (e :: es) (cxComp X scope caps N C s0 H0 ex).env)).all (fun x => !x.1) && (backToKw cpos (keywordEach [] (cxComp X scope caps N C s0 H0 ex).env)).all (fun x => x.1.isSome)
      && decide ((e :: es).length + ([] : List Keyword).length + (if ([] : List Keyword).isEmpty then 0 else 1) < 30)) = true := by rfl)
    (hline : (apos.endLine == cpos.line) = true := by rfl) (hs : starEach (e :: es) (cxComp X scope caps N C s0 H0 ex).env = (false, eval e (cxComp X scope caps N C s0 H0 ex).env) :: starEach es (cxComp X scope caps N C s0 H0 ex).env := by rfl)
    (hplain : (backTo cpos (starEach es (cxComp X scope caps N C s0 H0 ex).env)).any (·.1) = false := by rfl) :
    PE (cxComp X scope caps N C s0 H0 ex) (.Call (.Attribute o name apos) (e :: es) [] cpos) (tBM X.K T r to t) := pe_bm pa slot hty hm ho ha hbase hfew hline hs hplain
noncomputable def wkN : List Nat → Nat → Nat → Prop
  | [], _, _ => True
  | c :: r, k, n => if c = 46 then 1 ≤ n ∧ k + 1 ≤ 4 ∧ wkN r (k + 1) 0 else (97 ≤ c ∧ c < 123) ∧ wkN r k (n + 1)
theorem pst_le : ∀ {l : List Nat} {k n : Nat}, pst l k n = true → k ≤ 4
  | [], k, n, h => by
    unfold pst at h
    rw [Bool.and_eq_true, decide_eq_true_iff] at h
    exact h.1
  | c :: r, k, n, h => by
    unfold pst at h
    split at h
    · rw [Bool.and_eq_true] at h
      have := pst_le h.2
      omega
    · rw [Bool.and_eq_true] at h
      exact pst_le h.2
theorem pst_wk : ∀ {l : List Nat} {k n : Nat}, pst l k n = true → wkN l k n
  | [], _, _, _ => trivial
  | c :: r, k, n, h => by
    unfold pst at h
    unfold wkN
    split at h
    · rename_i e
      rw [if_pos e]
      rw [Bool.and_eq_true, Bool.and_eq_true, decide_eq_true_iff] at h
      exact ⟨h.1.1, pst_le h.2, pst_wk h.2⟩
    · rename_i e
      rw [if_neg e]
      rw [Bool.and_eq_true, Bool.and_eq_true, decide_eq_true_iff, decide_eq_true_iff] at h
      exact ⟨h.1, pst_wk h.2⟩
theorem wk_app : ∀ {l r : List Nat} {k n : Nat}, wkN l k n → (∀ c ∈ r, 97 ≤ c ∧ c < 123) → wkN (l ++ r) k n
  | [], [], _, _, _, _ => trivial
  | [], c :: r, k, n, _, h => by
    have hc := h c (by simp)
    show wkN (c :: r) k n
    unfold wkN
    rw [if_neg (by omega)]
    exact ⟨hc, wk_app (l := []) trivial fun d hd => h d (List.mem_cons_of_mem _ hd)⟩
  | c :: l, r, k, n, h, hr => by
    rw [List.cons_append]
    unfold wkN at h ⊢
    split at h
    · rename_i e
      rw [if_pos e]
      exact ⟨h.1, h.2.1, wk_app h.2.2 hr⟩
    · rename_i e
      rw [if_neg e]
      exact ⟨h.1, wk_app h.2 hr⟩
theorem wk_take : ∀ {l : List Nat} {k n : Nat} (m : Nat), wkN l k n → wkN (l.take m) k n
  | _, _, _, 0, _ => by rw [List.take_zero]; trivial
  | [], _, _, m + 1, _ => trivial
  | c :: l, k, n, m + 1, h => by
    rw [List.take_succ_cons]
    unfold wkN at h ⊢
    split at h
    · rename_i e
      rw [if_pos e]
      exact ⟨h.1, h.2.1, wk_take m h.2.2⟩
    · rename_i e
      rw [if_neg e]
      exact ⟨h.1, wk_take m h.2⟩
theorem wk_pst : ∀ {l : List Nat} {k n : Nat}, wkN l k n → n + l.length ≤ 8 → k ≤ 4 → l.getLast? ≠ some 46 → (l = [] → 1 ≤ n) → pst l k n = true
  | [], k, n, _, h1, h2, _, h4 => by
    have := h4 rfl
    rw [List.length_nil] at h1
    unfold pst
    rw [decide_eq_true h2, decide_eq_true this, decide_eq_true (show n ≤ 8 by omega)]
    rfl
  | c :: r, k, n, h, h1, h2, h3, _ => by
    rw [List.length_cons] at h1
    unfold wkN at h
    unfold pst
    have hl : ∀ d s, r = d :: s → r.getLast? ≠ some 46 := fun d s e => by rw [e] at h3 ⊢; rw [List.getLast?_cons_cons] at h3; exact h3
    split at h
    · rename_i e
      rw [if_pos e, decide_eq_true h.1, decide_eq_true (show n ≤ 8 by omega)]
      cases r with
      | nil => exact absurd (by rw [e]; rfl) h3
      | cons d s => exact wk_pst h.2.2 (by omega) h.2.1 (hl d s rfl) (fun z => by cases z)
    · rename_i e
      rw [if_neg e, decide_eq_true h.1.1, decide_eq_true h.1.2]
      cases r with
      | nil => exact wk_pst h.2 (by simpa using (by omega : n + 1 ≤ 8)) h2 (by simp) fun _ => by omega
      | cons d s => exact wk_pst h.2 (by omega) h2 (hl d s rfl) (fun z => by cases z)
theorem idx8 (n : Nat) : Builtin.Str.strSliceIndices none (some 8) 1 n = Builtin.Str.strSliceIndices (some ((0 : Nat) : Int)) (some ((min 8 n : Nat) : Int)) 1 n := by
  have e1 : max (0 : Int) (min (8 : Int) (n : Int)) = ((min 8 n : Nat) : Int) := by omega
  have e2 : max (0 : Int) (min ((min 8 n : Nat) : Int) (n : Int)) = ((min 8 n : Nat) : Int) := by omega
  have e3 : ¬ (((min 8 n : Nat) : Int) < 0) := by omega
  have e4 : max (0 : Int) (min ((0 : Nat) : Int) (n : Int)) = 0 := by omega
  simp only [Builtin.Str.strSliceIndices, show ((1 : Int) > 0) = True from by simp, if_true, show ¬ ((8 : Int) < 0) by decide, if_false, e1, e2, e3, e4, show ¬ (((0 : Nat) : Int) < 0) by decide]
theorem slice8 (z : Str) : (Txt.slice z none (some 8)).cps.toList = z.cps.toList.take 8 := by
  have h := StrLaws.sliced_plain z (a := 0) (b := min 8 z.length) (Nat.zero_le _) (by omega)
  have hl := congrArg List.length (StrLaws.strSliceIndices_plain (a := 0) (b := min 8 z.length) (len := z.length) (Nat.zero_le _) (by omega))
  rw [List.length_map, List.length_range, Nat.sub_zero] at hl
  rw [← idx8] at hl
  rw [← idx8, List.drop_zero, Nat.sub_zero] at h
  have e : z.cps.toList.take (min 8 z.length) = z.cps.toList.take 8 := by
    rw [len_cps, List.take_eq_take_iff]
    omega
  rw [e] at h
  unfold Txt.slice
  split
  · rename_i hc
    rw [hl] at hc
    have hc : min 8 z.length = z.length := by simpa using hc
    rw [List.take_of_length_le (by rw [← len_cps]; omega)]
  · simpa using h
theorem slice8_post {z y : Str} (hz : postB z = true) (hy : ∀ c ∈ y.cps.toList, 97 ≤ c ∧ c < 123) (he : (Txt.slice (z ++ y) none (some 8)).cps.toList.getLast? ≠ some 46) : postB (Txt.slice (z ++ y) none (some 8)) = true ∧ (Txt.slice (z ++ y) none (some 8)).length ≤ 8 := by
  have e := slice8 (z ++ y)
  have hl : (Txt.slice (z ++ y) none (some 8)).length ≤ 8 := by rw [len_cps, e, List.length_take]; omega
  refine ⟨?_, hl⟩
  unfold postB
  rw [e] at he ⊢
  rw [cps_app] at he ⊢
  refine wk_pst (wk_take 8 (wk_app (pst_wk hz) hy)) (by rw [List.length_take]; omega) (by decide) he fun h0 => ?_
  have hz0 : z.cps.toList ≠ [] := fun h => by
    unfold postB at hz
    rw [h] at hz
    exact absurd hz (by decide)
  have := congrArg List.length h0
  rw [List.length_take, List.length_append, List.length_nil] at this
  have hp : 0 < z.cps.toList.length := List.length_pos_iff.mpr hz0
  omega
theorem NT.sm {K : PySem.W.Frag} {H H' : Hp} {x : V} (h : NT K H x) (s : Same H H') : NT K H' x := let ⟨t, ty, e⟩ := h; ⟨t, TyOf.sm ty s, e⟩
theorem IsRunQ.sm {K : PySem.W.Frag} {H H' : Hp} {x : V} {b : Bool} (h : IsRunQ K H x b) (s : Same H H') : IsRunQ K H' x b := by
  cases h with
  | nt h => exact .nt (h.sm s)
  | len h n => exact .len (s _ _ h) n
  | one h hu => exact .one (s _ _ h) (hu.sm s)
  | two h hu hv => exact .two (s _ _ h) (hu.sm s) (hv.sm s)
  | same h hu => exact .same (s _ _ h) (hu.sm s)
  | time h hu hv hn ht => exact .time (s _ _ h) (hu.sm s) (hv.sm s) hn fun H2 s2 => ht H2 (s.trans s2)
  | run h hu hv hn ht hf sa sc => exact .run (s _ _ h) (hu.sm s) (hv.sm s) hn (s _ _ ht) hf sa sc
theorem IsRunQ.ofL {K : PySem.W.Frag} {H : Hp} {p l : Addr} {s s' : Str} {xs : List V} (h : H p = some (.tup [.str s, .str s', .ref l])) (hu : PostQ K H (.str s) true) (hv : PostQ K H (.str s') true) (hl : H l = some (.lst xs)) : IsRunQ K H (.ref p) false := .of3 h hu hv fun H' s' => .inl ⟨NT.lst (s' _ _ hl), rfl⟩
theorem IsRunQ.ofT {K : PySem.W.Frag} {H : Hp} {p q : Addr} {s s' : Str} {xs : List V} (h : H p = some (.tup [.str s, .str s', .ref q])) (hu : PostQ K H (.str s) true) (hv : PostQ K H (.str s') true) (hq : H q = some (.tup xs)) (n : xs.length ≠ 2) : IsRunQ K H (.ref p) false := .of3 h hu hv fun H' s' => .inr (.inl ⟨q, xs, rfl, s' _ _ hq, n, rfl⟩)
noncomputable def NL (K : PySem.W.Frag) (H : Hp) (x : V) : Prop := ∃ t, TyOf K H x t ∧ PySem.W.kitOne K t (.type "list") = some false
section
variable {σ : St} {H : Hp} {D : Ends} {K : PySem.W.Frag}
theorem r_forRp {lo : Int} {n : Nat} {g : TG} {tb : TS} (Pv : Nat → St → Hp → Prop) (h0 : Pv 0 σ H)
    (hs : ∀ (P' : Nat → St → Hp → Prop) (rt : VK) (bk : St → Hp → Prop), (∀ i σ H, Pv i σ H → P' i σ H) → ∀ i σ H, i < n → Pv i σ H → g (.int (lo + i)) σ H fun σ2 H2 => tb ⟨P' (i + 1), rt, bk, P' (i + 1)⟩ σ2 H2) (hd : ∀ σ H, Pv n σ H → D.nx σ H) : forK g tb D σ (Itr lo n) H := r_forR Pv h0 (hs Pv D.rt D.nx fun _ _ _ h => h) hd
theorem r_forLp {a : Addr} {xs : List V} {g : TG} {tb : TS} (Pv : Nat → St → Hp → Prop) (h0 : Pv 0 σ H) (hl : ∀ i σ H, i ≤ xs.length → Pv i σ H → SqL K H a xs)
    (hs : ∀ (P' : Nat → St → Hp → Prop) (rt : VK) (bk : St → Hp → Prop), (∀ i σ H, Pv i σ H → P' i σ H) → ∀ i x σ H, xs[i]? = some x → Pv i σ H → g x σ H fun σ2 H2 => tb ⟨P' (i + 1), rt, bk, P' (i + 1)⟩ σ2 H2) (hd : ∀ σ H, Pv xs.length σ H → D.nx σ H) : forK g tb D σ (Itl K a) H := r_forL Pv h0 hl (hs Pv D.rt D.nx fun _ _ _ h => h) hd
end
end L2
namespace L2
open PySem PySem.Spec PyProof.Rows
inductive Wsh where
  | after (s u : Str) (q : Rat) | within (s u : Str) (q : Rat) | wit (s u : Str) | frm (s : Str) (q : Rat)
noncomputable def PostS (s : Str) : Prop := postB s = true ∧ s.length ≤ 100
theorem PostS.q {K : PySem.W.Frag} {H : Hp} {s : Str} (h : PostS s) : PostQ K H (.str s) true := .inl ⟨s, rfl, by have := h.2; omega, h.1.symm⟩
noncomputable def SmR (q : Rat) : Prop := Sm 8000 q.num ∧ Sm 8000 (q.den : Int)
noncomputable def Wsh.ok : Wsh → Prop
  | .after s u q => PostS s ∧ PostS u ∧ s ≠ u ∧ SmR q
  | .within s u q => PostS s ∧ PostS u ∧ s ≠ u ∧ SmR q
  | .wit s u => PostS s ∧ PostS u ∧ s ≠ u
  | .frm s q => PostS s ∧ 0 ≤ q.num ∧ SmR q
theorem fr_frV (q : Rat) : frV (.int q.num) (.int q.den) = true := by
  show (decide (1 ≤ (q.den : Int)) && decide (Int.gcd q.num q.den = 1)) = true
  have h1 : 1 ≤ (q.den : Int) := by have := q.den_pos; omega
  have h2 : Int.gcd q.num q.den = 1 := q.reduced
  rw [decide_eq_true h1, decide_eq_true h2]
  rfl
section
variable {H : Hp} {Q : VK} {l1 l2 : Addr}
end
theorem pd_app {β : Type} {R : V → β → Prop} : ∀ {xs ys : List V} {ds es : List β}, Paired R xs ds → Paired R ys es → Paired R (xs ++ ys) (ds ++ es)
  | [], _, [], _, .nil, s => s
  | _ :: _, _, _ :: _, _, .cons r t, s => .cons r (pd_app t s)
theorem nd_at {U : List Str} (h : U.Nodup) {a c : Nat} (ha : a < U.length) (hc : c < U.length) (e : U[a] = U[c]) : a = c := by
  rcases Nat.lt_trichotomy a c with l | l | l
  · exact absurd e (List.pairwise_iff_getElem.mp h a c ha hc l)
  · exact l
  · exact absurd e.symm (List.pairwise_iff_getElem.mp h c a hc ha l)
end L2
namespace Lw
open PySem L2
local macro_rules | `(tactic| walk_at "st") => `(tactic| first
  | with_reducible assumption
  | ((with_reducible refine St3.new ?_ ?hn); (case hn => with_reducible assumption); walk_at "st"))
local macro_rules | `(tactic| walk_at "kp") => `(tactic| first
  | with_reducible assumption
  | with_reducible exact Kp.refl _ _
  | ((with_reducible refine Kp.trans ?_ (Kp.new ?hn)); (case hn => with_reducible assumption); walk_at "kp"))
local macro_rules | `(tactic| walk_at "sm") => `(tactic| first
  | with_reducible assumption
  | with_reducible exact Same.refl _
  | ((with_reducible refine Same.trans ?_ (Same.new ?hn)); (case hn => with_reducible assumption); walk_at "sm"))
local macro_rules | `(tactic| walk_at "hp") => `(tactic| first
  | with_reducible assumption
  | with_reducible exact upd_same
  | ((with_reducible refine upd_old ?hn ?_); (case hn => with_reducible assumption); walk_at "hp")
  | ((with_reducible refine upd_not ?hn ?_); (case hn => first | with_reducible assumption | (refine Ne.symm ?_; with_reducible assumption)); walk_at "hp")
  | ((with_reducible refine Same.app ?hn ?_); (case hn => with_reducible assumption); walk_at "hp")
  | ((with_reducible refine Kp.app ?hk ?hn ?_); (case hk => with_reducible assumption); (case hn => first | with_reducible assumption | (refine Ne.symm ?_; with_reducible assumption)); walk_at "hp"))
local macro_rules | `(tactic| walk_at "tk") => `(tactic| first
  | with_reducible exact TK.refl _
  | with_reducible assumption
  | ((with_reducible refine TK.trans ?_ (TK.new ?hn)); (case hn => with_reducible assumption); walk_at "tk")
  | ((with_reducible refine TK.trans ?_ (TK.lst ?hn)); (case hn => walk_at "hp"); walk_at "tk")
  | ((with_reducible refine TK.trans ?_ (TK.dic ?hn)); (case hn => walk_at "hp"); walk_at "tk")
  | ((with_reducible refine TK.trans ?_ (TK.frz ?hn)); (case hn => walk_at "hp"); walk_at "tk")
  | ((with_reducible refine TK.trans ?_ TK.melt); walk_at "tk")
  | ((with_reducible refine TK.trans ?_ (Same.tk ?hn)); (case hn => with_reducible assumption); walk_at "tk")
  | ((with_reducible refine TK.trans ?_ (St3.tk ?hs ?hn)); (case hn => with_reducible assumption); (case hs => with_reducible assumption); walk_at "tk"))
local macro_rules | `(tactic| walk_at "fq") => `(tactic| first
  | with_reducible assumption
  | ((with_reducible refine FrQ.tk ?fa ?ft); (case fa => with_reducible assumption); (case ft => walk_at "tk")))
local macro_rules | `(tactic| walk_at "go1") => `(tactic| first
  | with_reducible refine r_seq ?_
  | ((with_reducible refine r_nxD ?_); (with_reducible refine r_nx ?_))
  | ((with_reducible refine r_rtD ?_); (with_reducible refine r_rt ?_))
  | ((with_reducible refine r_bkD ?_); (with_reducible refine r_bk ?_))
  | ((with_reducible refine r_ctD ?_); (with_reducible refine r_ct ?_))
  | with_reducible refine r_asg ?_
  | with_reducible refine r_gname ?_
  | ((with_reducible refine' r_var ?rv ?_); case rv => exact rfl)
  | with_reducible refine r_c ?_
  | with_reducible refine r_op ?_
  | with_reducible refine r_un ?_
  | with_reducible refine r_I0 ?_
  | with_reducible refine r_U ?_
  | with_reducible refine a_int ?_
  | with_reducible refine r_sl ?_
  | with_reducible refine r_part ?_
  | with_reducible refine r_partK ?_
  | with_reducible refine r_nopart ?_
  | ((with_reducible refine r_mod ?mc ?_); case mc => first | decide | omega)
  | ((with_reducible refine r_modN ?mc ?_); case mc => first | decide | omega)
  | ((with_reducible refine r_mul ?mc ?_); case mc => first | exact CMulB.l (by omega) (by omega) | exact CMulB.r (by omega) (by omega))
  | ((with_reducible refine r_fdiv ?mc ?_); case mc => exact CDivB.of (by omega) (by omega))
  | with_reducible refine r_pow18 ?_
  | with_reducible refine r_pow9 ?_
  | with_reducible refine r_test ?_
  | with_reducible refine r_tB ?_
  | with_reducible refine r_bK ?_
  | with_reducible refine r_ifS ?_
  | with_reducible refine r_if ?_
  | with_reducible refine r_and ?_
  | with_reducible refine r_or ?_
  | with_reducible refine r_not ?_
  | with_reducible refine r_andV ?_
  | with_reducible refine r_orV ?_
  | with_reducible refine r_notV ?_
  | with_reducible refine r_andK ?_
  | with_reducible refine r_orK ?_
  | with_reducible refine r_notK ?_
  | with_reducible refine r_ret ?_
  | with_reducible refine r_retN ?_
  | with_reducible refine r_next ?_
  | with_reducible refine r_drop ?_
  | with_reducible refine r_nil ?_
  | with_reducible refine r_cons ?_
  | with_reducible refine r_tup ?_
  | with_reducible refine r_lst ?_
  | with_reducible refine r_call ?_
  | with_reducible refine r_callD ?_
  | with_reducible refine r_callK ?_
  | with_reducible refine r_lrng ?_
  | with_reducible refine r_iTup ?_
  | with_reducible refine r_rngD ?_
  | with_reducible refine r_CB ?_
  | with_reducible refine r_dget ?_
  | with_reducible refine r_din ?_
  | with_reducible refine r_dnin ?_
  | with_reducible refine r_dput ?_
  | with_reducible refine r_dget1 ?_
  | with_reducible refine r_dget2 ?_
  | with_reducible refine r_dpop1 ?_
  | with_reducible refine r_bm ?_
  | with_reducible refine r_bm0 ?_
  | with_reducible refine r_bmS ?_
  | with_reducible refine r_gcons ?_
  | with_reducible refine r_gnil ?_
  | with_reducible refine r_iEnum ?_
  | with_reducible refine r_tru ?_
  | with_reducible refine r_orT ?_
  | with_reducible refine r_cont ?_
  | with_reducible refine r_break ?_
  | with_reducible refine r_isNr ?_
  | with_reducible refine r_isNn ?_
  | with_reducible refine r_isNs ?_
  | with_reducible refine r_isNi ?_
  | with_reducible refine r_isNk ?_
  | with_reducible refine r_noNr ?_
  | with_reducible refine r_noNn ?_
  | with_reducible refine r_noNs ?_
  | ((with_reducible refine' r_bmL ?ih ?_); (case ih => walk_at "hp"))
  | ((with_reducible refine' r_bmD ?ih ?_); (case ih => walk_at "hp"))
  | ((with_reducible refine' r_bm0D ?ih ?_); (case ih => walk_at "hp"))
  | ((with_reducible refine' r_gtup2 ?ih ?_); (case ih => walk_at "hp"))
  | ((with_reducible refine' r_gtup3 ?ih ?_); (case ih => walk_at "hp"))
  | ((with_reducible refine' r_gtup4 ?ih ?_); (case ih => walk_at "hp"))
  | with_reducible refine r_par ?_
  | with_reducible refine r_parK ?_
  | with_reducible refine e_int ?_
  | with_reducible refine n_int ?_
  | with_reducible refine e_bl ?_
  | with_reducible refine n_bl ?_
  | with_reducible refine e_str ?_
  | with_reducible refine n_str ?_
  | with_reducible refine r_isB ?_
  | with_reducible refine r_isNB ?_
  | with_reducible refine r_gsub ?_
  | with_reducible refine r_abs ?_
  | with_reducible refine r_max ?_
  | with_reducible refine r_min ?_
  | with_reducible refine r_intB ?_
  | with_reducible refine r_for ?_
  | with_reducible refine r_comp ?_
  | with_reducible refine r_rng1 ?_
  | with_reducible refine r_rng2 ?_
  | with_reducible refine r_iList ?_
  | ((with_reducible refine' r_lent ?ih ?_); (case ih => walk_at "hp"))
  | ((with_reducible refine' r_lenl ?ih ?_); (case ih => walk_at "hp"))
  | ((with_reducible refine' r_ixt ?ih ?ie ?_); (case ih => walk_at "hp"); (case ie => exact rfl))
  | ((with_reducible refine' r_ixl ?ih ?ie ?_); (case ih => walk_at "hp"); (case ie => exact rfl))
  | with_reducible refine r_dmN ?_
  | with_reducible refine r_dmR ?_
  | with_reducible refine i_sN ?_
  | with_reducible refine i_sS ?_
  | with_reducible refine i_T ?_
  | with_reducible refine i_F ?_
  | with_reducible refine i_flip ?_
  | ((with_reducible refine i_dT ?dc ?_); case dc => omega)
  | ((with_reducible refine i_dF ?dc ?_); case dc => omega))
local macro_rules | `(tactic| walk_at "go") => `(tactic| repeat (walk_at "go1"))
local macro_rules | `(tactic| walk_at "gos") => `(tactic| repeat ((fail_if_success (with_reducible refine r_seq ?_)); walk_at "go1"))
local macro_rules | `(tactic| walk_at "go1") => `(tactic| first
  | with_reducible refine r_try ?_
  | with_reducible refine r_xdrop ?_
  | with_reducible refine r_xset ?_
  | with_reducible refine r_xret ?_
  | with_reducible refine r_callX ?_
  | with_reducible refine r_callXD ?_
  | with_reducible refine r_callH ?_
  | with_reducible refine r_raise ?_
  | with_reducible refine r_rng1H ?_)
theorem el_1 {P : List Value → Prop} (h : ∀ a0, P [a0]) : ∀ us : List Value, us.length = 1 → P us
  | [a0], _ => h a0
theorem el_2 {P : List Value → Prop} (h : ∀ a0 a1, P [a0, a1]) : ∀ us : List Value, us.length = 2 → P us
  | [a0, a1], _ => h a0 a1
noncomputable def top (i : Nat) : Stmt := PySem.Challenge.pw_tilefall_k06_nets_and_their_posts.main.body.getD i (.Pass ⟨0, 0, 0, 0⟩)
local macro_rules | `(tactic| walk_at "go1") => `(tactic| first
  | with_reducible refine r_chain ?_
  | with_reducible refine r_chnA ?_
  | with_reducible refine r_chnB ?_
  | with_reducible refine r_chnC ?_
  | with_reducible refine r_chnD ?_
  | with_reducible refine r_inTx ?_
  | with_reducible refine r_iSigns ?_)
local macro_rules | `(tactic| walk_at "go1") => `(tactic| first
  | with_reducible refine r_jn ?_
  | with_reducible refine r_fmt ?_
  | with_reducible refine r_jn0 ?_
  | ((with_reducible refine r_jnK ?jy ?_); case jy => first | omega | decide +kernel))
noncomputable def runT (r : TRun) : Prop := PostS r.1 ∧ PostS r.2.1 ∧ r.1 ≠ r.2.1 ∧ 0 < r.2.2.num ∧ r.2.2.num ≤ 100 ∧ r.2.2.den ≤ 100
theorem run_is {K : PySem.W.Frag} {H : Hp} {v : V} {r : TRun} (h : RunQ H v (Sum.inr r.1, Sum.inr r.2.1, r.2.2)) (t : runT r) : IsRunQ K H v true := by
  obtain ⟨p, u, rfl, hp, pt, rfl, hpt⟩ := h
  obtain ⟨h1, h2, h3, h4, h5, h6⟩ := t
  have hd := r.2.2.den_pos
  have m1 : Sm 8000 r.2.2.num := (Sm.of (n := 64) (by omega) (by omega)).mono (by decide)
  have m2 : Sm 8000 (r.2.2.den : Int) := (Sm.of (n := 64) (by omega) (by omega)).mono (by decide)
  have := IsRunQ.run (K := K) hp h1.q h2.q h3 hpt (fr_frV _) m1 m2
  rw [decide_eq_true h4] at this
  exact this
theorem runs_are {K : PySem.W.Frag} {H : Hp} : ∀ {n : List TRun} {vs : List V}, Paired (RunQ H) vs (kn n) → (∀ r ∈ n, runT r) → Paired (IsRunQ K H) vs (List.replicate n.length true)
  | [], _, .nil, _ => .nil
  | r :: n, _, .cons h t, hr => .cons (run_is h (hr r (by simp))) (runs_are t fun x hx => hr x (List.mem_cons_of_mem _ hx))
noncomputable def NetBad (K : PySem.W.Frag) (H : Hp) (v : V) : Prop := (∃ l vs bs, v = .ref l ∧ H l = some (.lst vs) ∧ Paired (IsRunQ K H) vs bs ∧ vs.length ≤ 900 ∧ (vs.length = 0 ∨ 120 < vs.length ∨ false ∈ bs)) ∨ NL K H v
theorem den_strs6 {G : Hp} : ∀ ys : List Str, DenL G (ys.map Dt.str) (ys.map V.str)
  | [] => rfl
  | y :: r => ⟨_, _, rfl, rfl, den_strs6 r⟩
theorem dep_strs6 : ∀ ys : List Str, depL (ys.map Dt.str) ≤ 50
  | [] => by simp [depL]
  | y :: r => by
    have := dep_strs6 r
    rw [List.map_cons]
    simp only [depL, dep]
    omega
noncomputable abbrev s_is_whole : Stmt := top 15
theorem sc_is_whole : FnScope ["thing"] ["thing"] (defScope s_is_whole) := ⟨rfl, rfl, rfl, by decide +kernel, rfl, by decide +kernel, by decide +kernel⟩
noncomputable abbrev s_common_divisor : Stmt := top 16
theorem sc_common_divisor : FnScope ["one", "other", "rest"] ["one", "other"] (defScope s_common_divisor) := ⟨rfl, rfl, rfl, by decide +kernel, rfl, by decide +kernel, by decide +kernel⟩
noncomputable abbrev s_is_fraction : Stmt := top 17
theorem sc_is_fraction : FnScope ["thing"] ["thing"] (defScope s_is_fraction) := ⟨rfl, rfl, rfl, by decide +kernel, rfl, by decide +kernel, by decide +kernel⟩
noncomputable abbrev s_is_less : Stmt := top 18
theorem sc_is_less : FnScope ["one", "other"] ["one", "other"] (defScope s_is_less) := ⟨rfl, rfl, rfl, by decide +kernel, rfl, by decide +kernel, by decide +kernel⟩
noncomputable abbrev s_is_part : Stmt := top 24
theorem sc_is_part : FnScope ["text"] ["text"] (defScope s_is_part) := ⟨rfl, rfl, rfl, by decide +kernel, rfl, by decide +kernel, by decide +kernel⟩
noncomputable abbrev s_is_post : Stmt := top 25
theorem sc_is_post : FnScope ["thing", "parts"] ["thing"] (defScope s_is_post) := ⟨rfl, rfl, rfl, by decide +kernel, rfl, by decide +kernel, by decide +kernel⟩
noncomputable abbrev s_is_run : Stmt := top 26
theorem sc_is_run : FnScope ["thing"] ["thing"] (defScope s_is_run) := ⟨rfl, rfl, rfl, by decide +kernel, rfl, by decide +kernel, by decide +kernel⟩
noncomputable abbrev s_net_of : Stmt := top 27
theorem sc_net_of : FnScope ["runs", "number", "run"] ["runs"] (defScope s_net_of) := ⟨rfl, rfl, rfl, by decide +kernel, rfl, by decide +kernel, by decide +kernel⟩
noncomputable abbrev s_posts_of : Stmt := top 28
theorem sc_posts_of : FnScope ["net"] ["net"] (defScope s_posts_of) := ⟨rfl, rfl, rfl, by decide +kernel, rfl, by decide +kernel, by decide +kernel⟩
noncomputable abbrev s_cell_at : Stmt := top 30
theorem sc_cell_at : FnScope ["_law_script", "_law_k"] ["_law_script", "_law_k"] (defScope s_cell_at) := ⟨rfl, rfl, rfl, by decide +kernel, rfl, by decide +kernel, by decide +kernel⟩
noncomputable abbrev s_begun : Stmt := top 31
theorem sc_begun : FnScope ["_law_script", "_law_k", "_law_cell", "_law_seed"] ["_law_script", "_law_k"] (defScope s_begun) := ⟨rfl, rfl, rfl, by decide +kernel, rfl, by decide +kernel, by decide +kernel⟩
noncomputable abbrev s_draw : Stmt := top 32
theorem sc_draw : FnScope ["_law_state", "_law_many", "_law_number"] ["_law_state", "_law_many"] (defScope s_draw) := ⟨rfl, rfl, rfl, by decide +kernel, rfl, by decide +kernel, by decide +kernel⟩
noncomputable abbrev s_low : Stmt := top 33
theorem sc_low : FnScope ["_law_top", "_law_bottom", "_law_one", "_law_other"] ["_law_top", "_law_bottom"] (defScope s_low) := ⟨rfl, rfl, rfl, by decide +kernel, rfl, by decide +kernel, by decide +kernel⟩
noncomputable abbrev s_only : Stmt := top 34
theorem sc_only : FnScope ["_law_e", "_law_place", "_law_kinds"] ["_law_e", "_law_place"] (defScope s_only) := ⟨rfl, rfl, rfl, by decide +kernel, rfl, by decide +kernel, by decide +kernel⟩
noncomputable abbrev s_part : Stmt := top 35
theorem sc_part : FnScope ["_law_state", "_law_letters"] ["_law_state"] (defScope s_part) := ⟨rfl, rfl, rfl, by decide +kernel, rfl, by decide +kernel, by decide +kernel⟩
noncomputable abbrev s_name : Stmt := top 36
theorem sc_name : FnScope ["_law_state"] ["_law_state"] (defScope s_name) := ⟨rfl, rfl, rfl, by decide +kernel, rfl, by decide +kernel, by decide +kernel⟩
noncomputable abbrev s_runs : Stmt := top 37
theorem sc_runs : FnScope ["_law_state", "_law_script", "_law_names", "_law_runs_here", "_law_many", "_law_k", "_law_at", "_law_other", "_law_time"] ["_law_state", "_law_script"] (defScope s_runs) := ⟨rfl, rfl, rfl, by decide +kernel, rfl, by decide +kernel, by decide +kernel⟩
noncomputable abbrev s_no_runs : Stmt := top 38
theorem sc_no_runs : FnScope ["_law_run", "_law_one", "_law_other", "_law_time", "_law_some", "_law_name_here"] ["_law_run"] (defScope s_no_runs) := ⟨rfl, rfl, rfl, by decide +kernel, rfl, by decide +kernel, by decide +kernel⟩
noncomputable abbrev s_refused : Stmt := top 39
theorem sc_refused : FnScope ["_law_thing", "_law_right", "_law_e"] ["_law_thing"] (defScope s_refused) := ⟨rfl, rfl, rfl, by decide +kernel, rfl, by decide +kernel, by decide +kernel⟩
noncomputable abbrev s_is_list : Stmt := top 40
theorem sc_is_list : FnScope ["_law_found", "_law_due"] ["_law_found", "_law_due"] (defScope s_is_list) := ⟨rfl, rfl, rfl, by decide +kernel, rfl, by decide +kernel, by decide +kernel⟩
noncomputable abbrev s_law : Stmt := top 41
theorem sc_law : FnScope ["_law_script", "_law_state", "_law_runs_here", "_law_handed", "_law_at", "_law_wrong", "_law_k", "_law_number", "_law_ends", "_law_one", "_law_other", "_law_time", "_law_found"] ["_law_script"] (defScope s_law) := ⟨rfl, rfl, rfl, by decide +kernel, rfl, by decide +kernel, by decide +kernel⟩
noncomputable def spWhole (K : PySem.W.Frag) : Sp := fun vs H Q _ => ∃ (x : V) (t : Value) (b c : Bool), vs = [x] ∧ TyOf K H x t ∧ PySem.W.kitOne K t (.type "int") = some b ∧ PySem.W.kitOne K t (.type "bool") = some c ∧ Q (.bl (b && !c)) H
noncomputable def spGcd : Sp := fun vs H Q _ => ∃ (a b : Int), vs = [.int a, .int b] ∧ Q (.int (Int.gcd a b : Int)) H
noncomputable def spIsFrac (K : PySem.W.Frag) : Sp := fun vs H Q _ => ∃ (x : V) (r : Bool), vs = [x] ∧ Frq K H x r ∧ Q (.bl r) H
noncomputable def spLess : Sp := fun vs H Q _ => ∃ (x y : V) (a b c d : Int), vs = [x, y] ∧ Fr2 H x a b ∧ Fr2 H y c d ∧ CMulB a d ∧ CMulB c b ∧ Q (.bl (decide (a * d < c * b))) H
noncomputable def spPart : Sp := fun vs H Q _ => ∃ z : Str, vs = [.str z] ∧ z.length ≤ 1000 ∧ ∀ H', Same H H' → Q (.bl (partB z)) H'
noncomputable def spPost (K : PySem.W.Frag) : Sp := fun vs H Q _ => ∃ (x : V) (b : Bool), vs = [x] ∧ PostQ K H x b ∧ ∀ H', Same H H' → Q (.bl b) H'
noncomputable def spIsRun (K : PySem.W.Frag) : Sp := fun vs H Q _ => ∃ (x : V) (b : Bool), vs = [x] ∧ IsRunQ K H x b ∧ ∀ H', Same H H' → Q (.bl b) H'
noncomputable def spNetOf (K : PySem.W.Frag) (x : Addr) : Sp := fun vs H Q E => ∃ v : V, vs = [v] ∧
  ((∃ l vs' bs, v = .ref l ∧ H l = some (.lst vs') ∧ Paired (IsRunQ K H) vs' bs ∧ 1 ≤ vs'.length ∧ vs'.length ≤ 120 ∧ (∀ b ∈ bs, b = true) ∧ ∀ l' H', H l' = none → Same H H' → H' l' = some (.lst vs') → Q (.ref l') H') ∨
   (NetBad K H v ∧ ∀ H', Same H H' → E (.ref x) none H'))
noncomputable def spPosts (w : World) : Sp := fun vs H Q _ => ∃ (l : Addr) (n : List TRun) (U : List Str), vs = [.ref l] ∧ LQ RunQ H l (kn n) ∧ n.length ≤ 120 ∧ U.length < 64 ∧ (∀ x ∈ names n, x ∈ U) ∧ ∀ p H' ys, H p = none → Same H H' → H' p = some (.lst (ys.map V.str)) → Srt ys → ys.Nodup → (∀ x, x ∈ ys ↔ x ∈ names n) → Q (.ref p) H'
noncomputable def spCell (K : PySem.W.Frag) : Sp := fun vs H Q _ => ∃ (a : Addr) (ns : List Int) (k : Int), vs = [.ref a, .int k] ∧ SqL K H a (ns.map V.int) ∧ 0 ≤ k ∧ ∀ r, Q (.int r) H
noncomputable def spBegun (K : PySem.W.Frag) : Sp := fun vs H Q _ => ∃ (a : Addr) (ns : List Int) (k : Int), vs = [.ref a, .int k] ∧ SqL K H a (ns.map V.int) ∧ 0 ≤ k ∧
  ∀ p H', H p = none → St3 H' p k → Same H H' → Q (.ref p) H'
noncomputable def spDraw : Sp := fun vs H Q _ => ∃ (p : Addr) (m n : Int), vs = [.ref p, .int m] ∧ St3 H p n ∧ n < 1000000 ∧ 0 < m ∧ m < 2 ^ 64 ∧
  ∀ r H', 0 ≤ r → r < m → St3 H' p (n + 1) → Kp p H H' → Q (.int r) H'
noncomputable def spLow : Sp := fun vs H Q _ => ∃ (t b : Int), vs = [.int t, .int b] ∧ b ≠ 0 ∧ Sm 8000 t ∧ Sm 8000 b ∧
  ∀ p, H p = none → Q (.ref p) (upd H p (.tup [.int (lowT t b), .int (lowB t b)]))
noncomputable def spOnly (K : PySem.W.Frag) (xt x0 x1 x2 x3 x4 x5 x6 x7 x8 x9 x10 x11 : Addr) : Addr → Sp := fun y vs H Q _ => ∃ (C : Addr) (i : Nat), vs = [.ref y, .int i] ∧ i < 12 ∧ H y = some (excO y C) ∧ Xr K xt x0 x1 x2 x3 x4 x5 x6 x7 x8 x9 x10 x11 C i ∧ ∀ H', Same H H' → Q (.bl true) H'
noncomputable def spLPart : Sp := fun vs H Q _ => ∃ (p : Addr) (n : Int), vs = [.ref p] ∧ St3 H p n ∧ n < 800000 ∧ ∀ (z : Str) (H' : Hp), partB z = true → St3 H' p (n + 10) → Kp p H H' → Q (.str z) H'
noncomputable def spLName : Sp := fun vs H Q _ => ∃ (p : Addr) (n : Int), vs = [.ref p] ∧ St3 H p n ∧ n < 700000 ∧ ∀ (z : Str) (H' : Hp), postB z = true → z.length ≤ 40 → St3 H' p (n + 50) → Kp p H H' → Q (.str z) H'
noncomputable def spRuns6 (w : World) (K : PySem.W.Frag) : Sp := fun vs H Q _ => ∃ (p : Addr) (m : Int) (a : Addr) (ns : List Int) (H0 : Hp), vs = [.ref p, .ref a] ∧ St3 H p m ∧ m < 1000 ∧ Same H0 H ∧ H0 p = none ∧ SqL K H0 a (ns.map V.int) ∧
  ∀ (l : Addr) (H' : Hp) (n : List TRun) (U : List Str), H l = none → LQ RunQ H' l (kn n) → 1 ≤ n.length → n.length ≤ 122 → (∀ r ∈ n, runT r) → U.length < 64 → (∀ x ∈ names n, x ∈ U) → St3 H' p (m + 2000) → Kp p H H' → Q (.ref l) H'
noncomputable def spNoRuns (K : PySem.W.Frag) : Sp := fun vs H Q _ => ∃ (v : V) (r : TRun), vs = [v] ∧ RunQ H v (Sum.inr r.1, Sum.inr r.2.1, r.2.2) ∧ runT r ∧ ∀ l H' vs', H l = none → Same H H' → H' l = some (.lst vs') → vs'.length ≤ 50 → (∀ x ∈ vs', IsRunQ K H' x false) → Q (.ref l) H'
noncomputable def spRef6 (K : PySem.W.Frag) : Sp := fun vs H Q _ => ∃ v : V, vs = [v] ∧ NetBad K H v ∧ ∀ H', Same H H' → Q (.bl true) H'
noncomputable def spIsL : Sp := fun vs H Q _ => ∃ (l1 l2 : Addr) (ds : List Dt), vs = [.ref l1, .ref l2] ∧ Den H (.lst ds) (.ref l1) ∧ Den H (.lst ds) (.ref l2) ∧ depL ds ≤ 50 ∧ Q (.bl true) H
noncomputable def spLaw (K : PySem.W.Frag) : Sp := fun vs H Q _ => ∃ (a : Addr) (ns : List Int), vs = [.ref a] ∧ SqL K H a (ns.map V.int) ∧ ns.length ≤ 63 ∧ ∀ H', Q (.bl true) H'
section
variable {P : Program} {w : World} {K : PySem.W.Frag} {mg : Str → Option Value} {base : Heap} {k : Nat} {xt x0 x1 x2 x3 x4 x5 x6 x7 x8 x9 x10 x11 : Addr}
theorem ok_is_whole (T : Bl mg) (d : Df K mg "is_whole" s_is_whole ["thing"]  ) (W : Xm mg xt x0 x1 x2 x3 x4 x5 x6 x7 x8 x9 x10 x11) (R_NoNet : Xr K xt x0 x1 x2 x3 x4 x5 x6 x7 x8 x9 x10 x11 x1 1) : Okf P w K mg base (k + 1) "is_whole" ["thing"] (spWhole K) := by
  refine Okf.of d sc_is_whole (fun vs H Q E h => ?_) (fun f cdv A outer s H vs Q E hr h => ?_)
  · obtain ⟨x, t, b, c, rfl, _⟩ := h
    rfl
  · obtain ⟨x, t, b, c, rfl, ty, e1, e2, q⟩ := h
    refine ⟨_, (@pss_one _ _ _ (@ps_ret _ _ _ _ (@pe_and _ _ _ _ _ _ _ (@pe_callB _ _ _ _ _ _ _ _ _ (call_isTy (T := "int")) rfl T.z_isinstance bt_isinstance (@pa_cons _ _ _ _ _ (pv 0) (@pa_cons _ _ _ _ _ (@pe_bltn _ _ (v := .ty "int") _ _ rfl T.z_int bt_int rfl (by decide) (by decide)) (@pa_nil _) (by rfl)) (by rfl)) (by decide) (by decide) (by rfl) (by rfl)) (@pe_one _ _ _ _ _ (@pe_not _ _ _ _ (@pe_callB _ _ _ _ _ _ _ _ _ (call_isTy (T := "bool")) rfl T.z_isinstance bt_isinstance (@pa_cons _ _ _ _ _ (pv 0) (@pa_cons _ _ _ _ _ (@pe_bltn _ _ (v := .ty "bool") _ _ rfl T.z_bool bt_bool rfl (by decide) (by decide)) (@pa_nil _) (by rfl)) (by rfl)) (by decide) (by decide) (by rfl) (by rfl))))))), ?_⟩
    walk_at "go"
    refine r_isTy ty e1 ?_
    cases b
    · walk_at "go"
      exact q
    · walk_at "go"
      refine r_isTy ty e2 ?_
      walk_at "go"
      exact q
theorem ok_common_divisor (T : Bl mg) (d : Df K mg "common_divisor" s_common_divisor ["one", "other"]  ) (W : Xm mg xt x0 x1 x2 x3 x4 x5 x6 x7 x8 x9 x10 x11) (R_NoNet : Xr K xt x0 x1 x2 x3 x4 x5 x6 x7 x8 x9 x10 x11 x1 1) : Okf P w K mg base (k + 1) "common_divisor" ["one", "other"] spGcd := by
  refine Okf.of d sc_common_divisor (fun vs H Q E h => ?_) (fun f cdv A outer s H vs Q E hr h => ?_)
  · obtain ⟨a, b, rfl, _⟩ := h
    rfl
  · obtain ⟨a, b, rfl, q⟩ := h
    refine ⟨_, (@pss_cons _ _ _ _ _ (@ps_while _ _ _ _ _ _ PassesOwn.never (@pt_cmpR _ _ _ _ _ _ _ _ (op_neA hr.units) (pv 1) (@pe_int _ _ _ _) (nomark _)) (@pss_cons _ _ _ _ _ (@ps_set _ _ (i := 2) _ _ _ _ sc_common_divisor.nd rfl (by first | exact Or.inl rfl | exact Or.inr rfl) (@pe_op _ _ _ _ _ _ _ _ op_modN (pv 0) (pv 1)) (by rfl) (by first | exact .inl rfl | exact .inr rfl | assumption)) (@pss_cons _ _ _ _ _ (@ps_set _ _ (i := 0) _ _ _ _ sc_common_divisor.nd rfl (by first | exact Or.inl rfl | exact Or.inr rfl) (pv 1) (by rfl) (by first | exact .inl rfl | exact .inr rfl | assumption)) (@pss_one _ _ _ (@ps_set _ _ (i := 1) _ _ _ _ sc_common_divisor.nd rfl (by first | exact Or.inl rfl | exact Or.inr rfl) (pv 2) (by rfl) (by first | exact .inl rfl | exact .inr rfl | assumption)))))) (@pss_one _ _ _ (@ps_ret _ _ _ _ (@pe_callB _ _ _ _ _ _ _ _ _ c_abs rfl T.z_abs bt_abs (@pa_cons _ _ _ _ _ (pv 0) (@pa_nil _) (by rfl)) (by decide) (by decide) (by rfl) (by rfl))))), ?_⟩
    walk_at "go"
    refine while_by (fun σ H' => ∃ (one other : Int) (o : Option V), σ = [some (.int one), some (.int other), o] ∧ H' = H ∧ Int.gcd one other = Int.gcd a b)
      (fun σ _ => match σ with | [_, some (.int z), _] => z.natAbs | _ => 0) ⟨_, _, _, rfl, rfl, rfl⟩ ?_ ?_
    · rintro σ H' ⟨one, other, o, rfl, rfl, hg⟩
      walk_at "go"
      refine i_d (fun c => ?_) (fun c => ?_)
      · subst c
        walk_at "go"
        rw [Int.gcd_zero_right] at hg
        have e : (if one < 0 then -one else one) = (Int.gcd a b : Int) := by rw [← hg]; split <;> omega
        rw [e]
        exact q
      · walk_at "go"
        refine ⟨⟨_, _, _, rfl, rfl, by rw [gcd_stepN c]; exact hg⟩, ?_⟩
        show (one.fmod other).natAbs < other.natAbs
        exact fmod_lt c
    · intro σ H Q Q' hQ h
      obtain ⟨v, e1, h⟩ := h
      rcases h with ⟨e2, b', e3, q'⟩ | ⟨d, e, e2, e3, e4, e5, b', e6, q'⟩
      · exact ⟨v, e1, .inl ⟨e2, b', e3, hQ _ _ q'⟩⟩
      · exact ⟨v, e1, .inr ⟨d, e, e2, e3, e4, e5, b', e6, hQ _ _ q'⟩⟩
theorem ok_is_fraction (T : Bl mg) (d : Df K mg "is_fraction" s_is_fraction ["thing"]  ) (W : Xm mg xt x0 x1 x2 x3 x4 x5 x6 x7 x8 x9 x10 x11) (R_NoNet : Xr K xt x0 x1 x2 x3 x4 x5 x6 x7 x8 x9 x10 x11 x1 1) (o_common_divisor : Okf P w K mg base k "common_divisor" ["one", "other"] spGcd) (o_is_whole : Okf P w K mg base k "is_whole" ["thing"] (spWhole K)) : Okf P w K mg base (k + 1) "is_fraction" ["thing"] (spIsFrac K) := by
  refine Okf.of d sc_is_fraction (fun vs H Q E h => ?_) (fun f cdv A outer s H vs Q E hr h => ?_)
  · obtain ⟨x, r, rfl, _⟩ := h
    rfl
  · obtain ⟨x, r, rfl, h, q⟩ := h
    refine ⟨_, (@pss_cons _ _ _ _ _ (@ps_if _ _ _ _ _ _ _ _ (@PW.pt _ _ _ (@pw_or _ _ _ _ _ _ _ (@pt_not _ _ _ _ (@pt_val _ _ _ (@pe_callB _ _ _ _ _ _ _ _ _ (call_isTy (T := "tuple")) rfl T.z_isinstance bt_isinstance (@pa_cons _ _ _ _ _ (pv 0) (@pa_cons _ _ _ _ _ (@pe_bltn _ _ (v := .ty "tuple") _ _ rfl T.z_tuple bt_tuple rfl (by decide) (by decide)) (@pa_nil _) (by rfl)) (by rfl)) (by decide) (by decide) (by rfl) (by rfl)) (by intro _; rfl))) (@pw_or1 _ _ _ _ (@pt_cmpR _ _ _ _ _ _ _ _ (op_neA hr.units) (@pe_callB _ _ _ _ _ _ _ _ _ c_len rfl T.z_len bt_len (@pa_cons _ _ _ _ _ (pv 0) (@pa_nil _) (by rfl)) (by decide) (by decide) (by rfl) (by rfl)) (@pe_int _ _ _ _) (nomark _))))) (@pss_one _ _ _ (@ps_ret _ _ _ _ (@pe_bl _ _ _ _))) (@pss_nil _)) (@pss_cons _ _ _ _ _ (@ps_if _ _ _ _ _ _ _ _ (@PW.pt _ _ _ (@pw_or _ _ _ _ _ _ _ (@pt_not _ _ _ _ (@pt_val _ _ _ (@pe_callO _ _ _ _ _ _ _ _ _ _ o_is_whole hr rfl (@pa_cons _ _ _ _ _ (@pe_ix _ _ _ _ _ _ _ ix_LT (pv 0) (@pe_int _ _ _ _) (fun _ _ => rfl)) (@pa_nil _) (by rfl)) (by decide) (by rfl) (by rfl)) (by intro _; rfl))) (@pw_or1 _ _ _ _ (@pt_not _ _ _ _ (@pt_val _ _ _ (@pe_callO _ _ _ _ _ _ _ _ _ _ o_is_whole hr rfl (@pa_cons _ _ _ _ _ (@pe_ix _ _ _ _ _ _ _ ix_LT (pv 0) (@pe_int _ _ _ _) (fun _ _ => rfl)) (@pa_nil _) (by rfl)) (by decide) (by rfl) (by rfl)) (by intro _; rfl)))))) (@pss_one _ _ _ (@ps_ret _ _ _ _ (@pe_bl _ _ _ _))) (@pss_nil _)) (@pss_one _ _ _ (@ps_ret _ _ _ _ (@pe_and _ _ _ _ _ _ _ (@pe_cmpR _ _ _ _ _ _ _ _ op_ge (@pe_ix _ _ _ _ _ _ _ ix_LT (pv 0) (@pe_int _ _ _ _) (fun _ _ => rfl)) (@pe_int _ _ _ _) (nomark _)) (@pe_one _ _ _ _ _ (@pe_cmpR _ _ _ _ _ _ _ _ (op_eqA hr.units) (@pe_callO _ _ _ _ _ _ _ _ _ _ o_common_divisor hr rfl (@pa_cons _ _ _ _ _ (@pe_ix _ _ _ _ _ _ _ ix_LT (pv 0) (@pe_int _ _ _ _) (fun _ _ => rfl)) (@pa_cons _ _ _ _ _ (@pe_ix _ _ _ _ _ _ _ ix_LT (pv 0) (@pe_int _ _ _ _) (fun _ _ => rfl)) (@pa_nil _) (by rfl)) (by rfl)) (by decide) (by rfl) (by rfl)) (@pe_int _ _ _ _) (nomark _)))))))), ?_⟩
    rcases h with ⟨⟨t, ty, e1⟩, rfl⟩ | ⟨p, xs, rfl, h1, h2, rfl⟩ | ⟨p, v, w', rfl, h1, fv, fw, hsm, rfl⟩
    · walk_at "go"
      refine r_isTy ty e1 ?_
      walk_at "go"
      exact q
    · walk_at "go"
      refine r_isTy (.tup h1) kit_tuple_tuple ?_
      walk_at "go"
      exact q
    · walk_at "go"
      refine r_isTy (.tup h1) kit_tuple_tuple ?_
      walk_at "go"
      refine i_d (fun _ => ?_) (fun c => absurd rfl c)
      walk_at "go"
      obtain ⟨t1, b1, c1, ty1, k1, k2, e1⟩ := flat_ty (K := K) (H := H) fv
      refine ⟨v, t1, b1, c1, rfl, ty1, k1, k2, ?_⟩
      rw [e1]
      walk_at "go"
      cases v with
      | int a =>
        refine i_bT rfl ?_
        walk_at "go"
        obtain ⟨t2, b2, c2, ty2, k3, k4, e2⟩ := flat_ty (K := K) (H := H) fw
        refine ⟨w', t2, b2, c2, rfl, ty2, k3, k4, ?_⟩
        rw [e2]
        walk_at "go"
        cases w' with
        | int b =>
          refine i_bT rfl ?_
          walk_at "go"
          refine i_d (fun c => ?_) (fun c => ?_)
          · walk_at "go"
            refine ⟨a, b, rfl, ?_⟩
            walk_at "go"
            have e : decide ((Int.gcd a b : Int) = 1) = frV (.int a) (.int b) := by
              show _ = (decide (1 ≤ b) && decide (Int.gcd a b = 1))
              rw [decide_eq_true c, Bool.true_and]
              by_cases hg : Int.gcd a b = 1
              · rw [decide_eq_true hg, decide_eq_true (by omega)]
              · rw [decide_eq_false hg, decide_eq_false (by omega)]
            rw [e]
            exact q
          · walk_at "go"
            have e : frV (.int a) (.int b) = false := by
              show (decide (1 ≤ b) && decide (Int.gcd a b = 1)) = false
              rw [decide_eq_false c, Bool.false_and]
            rw [e] at q
            exact q
        | non => refine i_bF rfl ?_; walk_at "go"; exact q
        | bl _ => refine i_bF rfl ?_; walk_at "go"; exact q
        | str _ => refine i_bF rfl ?_; walk_at "go"; exact q
        | _ => exact absurd (show false = true from fw) Bool.false_ne_true
      | non => refine i_bF rfl ?_; walk_at "go"; exact q
      | bl _ => refine i_bF rfl ?_; walk_at "go"; exact q
      | str _ => refine i_bF rfl ?_; walk_at "go"; exact q
      | _ => exact absurd (show false = true from fv) Bool.false_ne_true
theorem ok_is_less (T : Bl mg) (d : Df K mg "is_less" s_is_less ["one", "other"]  ) (W : Xm mg xt x0 x1 x2 x3 x4 x5 x6 x7 x8 x9 x10 x11) (R_NoNet : Xr K xt x0 x1 x2 x3 x4 x5 x6 x7 x8 x9 x10 x11 x1 1) : Okf P w K mg base (k + 1) "is_less" ["one", "other"] spLess := by
  refine Okf.of d sc_is_less (fun vs H Q E h => ?_) (fun f cdv A outer s H vs Q E hr h => ?_)
  · obtain ⟨x, y, a, b, c, d, rfl, _⟩ := h
    rfl
  · obtain ⟨x, y, a, b, c, d, rfl, ⟨q1, rfl, h1⟩, ⟨q2, rfl, h2⟩, m1, m2, q⟩ := h
    refine ⟨_, (@pss_one _ _ _ (@ps_ret _ _ _ _ (@pe_cmpR _ _ _ _ _ _ _ _ op_lt (@pe_op _ _ _ _ _ _ _ _ op_mulB (@pe_ix _ _ _ _ _ _ _ ix_LT (pv 0) (@pe_int _ _ _ _) (fun _ _ => rfl)) (@pe_ix _ _ _ _ _ _ _ ix_LT (pv 1) (@pe_int _ _ _ _) (fun _ _ => rfl))) (@pe_op _ _ _ _ _ _ _ _ op_mulB (@pe_ix _ _ _ _ _ _ _ ix_LT (pv 1) (@pe_int _ _ _ _) (fun _ _ => rfl)) (@pe_ix _ _ _ _ _ _ _ ix_LT (pv 0) (@pe_int _ _ _ _) (fun _ _ => rfl))) (nomark _)))), ?_⟩
    walk_at "go"
    refine r_mul m1 ?_
    walk_at "go"
    refine r_mul m2 ?_
    walk_at "go"
    exact q
theorem ok_is_part (T : Bl mg) (d : Df K mg "is_part" s_is_part ["text"]  ) (W : Xm mg xt x0 x1 x2 x3 x4 x5 x6 x7 x8 x9 x10 x11) (R_NoNet : Xr K xt x0 x1 x2 x3 x4 x5 x6 x7 x8 x9 x10 x11 x1 1) {tk_LETTERS : Tok} (g_LETTERS : mg "LETTERS" = some (.str "abcdefghijklmnopqrstuvwxyz" tk_LETTERS)) {tk_MOST_LETTERS : Tok} (g_MOST_LETTERS : mg "MOST_LETTERS" = some (.int 8 tk_MOST_LETTERS)) : Okf P w K mg base (k + 1) "is_part" ["text"] spPart := by
  refine Okf.of d sc_is_part (fun vs H Q E h => ?_) (fun f cdv A outer s H vs Q E hr h => ?_)
  · obtain ⟨z, rfl, _⟩ := h
    rfl
  · obtain ⟨z, rfl, hz, q⟩ := h
    refine ⟨_, (@pss_one _ _ _ (@ps_ret _ _ _ _ (@pe_and _ _ _ _ _ _ _ (@pe_chain _ _ _ _ _ _ _ _ _ _ _ _ op_le op_le (@pe_int _ _ _ _) (@pe_callB _ _ _ _ _ _ _ _ _ c_len rfl T.z_len bt_len (@pa_cons _ _ _ _ _ (pv 0) (@pa_nil _) (by rfl)) (by decide) (by decide) (by rfl) (by rfl)) (@pe_glob _ _ (v := (.int 8)) _ _ rfl g_MOST_LETTERS ⟨_, rfl⟩ (by decide)) (by with_unfolding_all rfl)) (@pe_one _ _ _ _ _ (@pe_callB _ _ _ _ _ _ _ _ _ (c_allB rfl) rfl T.z_all bt_all (@pa_cons _ _ _ _ _ (@pe_comp _ _ _ _ _ _ _ _ _ _ _ _ _ _ (@comp_ck _ _ (sc := defScope s_is_part) (N := ["text"]) (tn := ["sign"]) (names := []) (is := []) rfl rfl (by decide +kernel) (by decide +kernel) rfl (by decide +kernel) rfl (by decide +kernel) (by decide +kernel) (by decide +kernel)) rfl (@pi_signs _ _ _ _ (pv 0)) (fun _ _ _ _ => (@pg_name _ _ (i := 0) _ (show (["sign"] : List Str).Nodup by decide +kernel) rfl (Or.inl rfl) (Or.inr rfl))) (fun _ _ _ _ => (@pe_cmpR _ _ _ _ _ _ _ _ op_inTx (pv 0) (@pe_glob _ _ (v := (.str "abcdefghijklmnopqrstuvwxyz")) _ _ rfl g_LETTERS ⟨_, rfl⟩ (by decide)) (by with_unfolding_all rfl))) (fun _ _ _ _ => (@pts_none _)) (by intro _; rfl)) (@pa_nil _) (by rfl)) (by decide) (by decide) (by rfl) (by rfl)))))), ?_⟩
    walk_at "go"
    have hzs : z.length ≤ sizeLine := by rw [sizeLine_eq]; omega
    refine r_lens hzs ?_
    walk_at "go"
    refine i_d (fun c1 => ?_) (fun c1 => ?_)
    · walk_at "go"
      refine i_d (fun c2 => ?_) (fun c2 => ?_)
      · walk_at "go"
        refine ⟨z, rfl, ?_⟩
        refine r_compS hz (fun acc i ys G => Kp acc H G ∧ ys = (z.cps.toList.take i).map fun c => V.bl (decide (97 ≤ c) && decide (c < 123))) (fun acc h0 => ⟨Kp.new h0, rfl⟩) ?_ ?_
        · intro acc i ys G c h0 hx hyl hG ⟨kp, e⟩
          walk_at "go"
          have hx' : z.cps.toList[i]? = some c := by simpa using hx
          have hi : i < z.cps.toList.length := (List.getElem?_eq_some_iff.mp hx').1
          refine c_next (by rw [len_cps]; exact hi) hyl hG ⟨Kp.trans kp Kp.upd, ?_⟩
          have e2 : z.cps.toList[i] = c := by
            rw [List.getElem?_eq_getElem hi] at hx'
            exact Option.some.inj hx'
          rw [List.take_succ_eq_append_getElem hi, List.map_append, ← e, e2, letters_mem]
          rfl
        · intro acc ys G h0 hG hl ⟨kp, e⟩
          walk_at "go"
          rw [len_cps, List.take_length] at e
          subst e
          have e3 : (z.cps.toList.map fun c => V.bl (decide (97 ≤ c) && decide (c < 123))) = (z.cps.toList.map fun c => (decide (97 ≤ c) && decide (c < 123))).map V.bl := by rw [List.map_map]; rfl
          rw [e3] at hG
          refine r_allB hG ?_
          walk_at "go"
          have e4 : (z.cps.toList.map fun c => (decide (97 ≤ c) && decide (c < 123))).all id = partB z := by
            unfold partB
            rw [decide_eq_true (show 1 ≤ z.length by omega), decide_eq_true (show z.length ≤ 8 by omega), Bool.and_true, Bool.true_and, List.all_map]
            rfl
          rw [e4]
          exact q _ (Same.kpn h0 (Same.refl _) kp)
      · walk_at "go"
        have e : partB z = false := by
          unfold partB
          rw [decide_eq_false (show ¬ z.length ≤ 8 by omega), Bool.and_false, Bool.false_and]
        rw [e] at q
        exact q _ (Same.refl _)
    · walk_at "go"
      have e : partB z = false := by
        unfold partB
        rw [decide_eq_false (show ¬ 1 ≤ z.length by omega), Bool.false_and, Bool.false_and]
      rw [e] at q
      exact q _ (Same.refl _)
theorem ok_is_post (T : Bl mg) (d : Df K mg "is_post" s_is_post ["thing"]  ) (W : Xm mg xt x0 x1 x2 x3 x4 x5 x6 x7 x8 x9 x10 x11) (R_NoNet : Xr K xt x0 x1 x2 x3 x4 x5 x6 x7 x8 x9 x10 x11 x1 1) {tk_MOST_PARTS : Tok} (g_MOST_PARTS : mg "MOST_PARTS" = some (.int 4 tk_MOST_PARTS)) (o_is_part : Okf P w K mg base k "is_part" ["text"] spPart) : Okf P w K mg base (k + 1) "is_post" ["thing"] (spPost K) := by
  refine Okf.of d sc_is_post (fun vs H Q E h => ?_) (fun f cdv A outer s H vs Q E hr h => ?_)
  · obtain ⟨x, b, rfl, _⟩ := h
    rfl
  · obtain ⟨x, b, rfl, h, q⟩ := h
    refine ⟨_, (@pss_cons _ _ _ _ _ (@ps_if _ _ _ _ _ _ _ _ (@pt_not _ _ _ _ (@pt_val _ _ _ (@pe_callB _ _ _ _ _ _ _ _ _ (call_isTy (T := "str")) rfl T.z_isinstance bt_isinstance (@pa_cons _ _ _ _ _ (pv 0) (@pa_cons _ _ _ _ _ (@pe_bltn _ _ (v := .ty "str") _ _ rfl T.z_str bt_str rfl (by decide) (by decide)) (@pa_nil _) (by rfl)) (by rfl)) (by decide) (by decide) (by rfl) (by rfl)) (by intro _; rfl))) (@pss_one _ _ _ (@ps_ret _ _ _ _ (@pe_bl _ _ _ _))) (@pss_nil _)) (@pss_cons _ _ _ _ _ (@ps_set _ _ (i := 1) _ _ _ _ sc_is_post.nd rfl (by first | exact Or.inl rfl | exact Or.inr rfl) (@pe_bm _ _ _ _ _ _ _ _ _ _ _ _ PySem.F.plainAttrs_str PySem.F.slot_str_split PySem.F.type_str_split mt_split (pv 0) (@pa_cons _ _ _ _ _ (@pe_str _ _ _ _) (@pa_nil _) (by rfl)) (by rfl) (by rfl) (by rfl) (by rfl) (by rfl)) (by rfl) (by first | exact .inl rfl | exact .inr rfl | assumption)) (@pss_one _ _ _ (@ps_ret _ _ _ _ (@pe_and _ _ _ _ _ _ _ (@pe_cmpR _ _ _ _ _ _ _ _ op_le (@pe_callB _ _ _ _ _ _ _ _ _ c_len rfl T.z_len bt_len (@pa_cons _ _ _ _ _ (pv 1) (@pa_nil _) (by rfl)) (by decide) (by decide) (by rfl) (by rfl)) (@pe_glob _ _ (v := (.int 4)) _ _ rfl g_MOST_PARTS ⟨_, rfl⟩ (by decide)) (nomark _)) (@pe_one _ _ _ _ _ (@pe_callB _ _ _ _ _ _ _ _ _ (c_allB rfl) rfl T.z_all bt_all (@pa_cons _ _ _ _ _ (@pe_comp _ _ _ _ _ _ _ _ _ _ _ _ _ _ (@comp_ck _ _ (sc := defScope s_is_post) (N := ["thing", "parts"]) (tn := ["part"]) (names := []) (is := []) rfl rfl (by decide +kernel) (by decide +kernel) rfl (by decide +kernel) rfl (by decide +kernel) (by decide +kernel) (by decide +kernel)) rfl (@pi_list _ _ _ _ (pv 1)) (fun _ _ _ _ => (@pg_name _ _ (i := 0) _ (show (["part"] : List Str).Nodup by decide +kernel) rfl (Or.inl rfl) (Or.inr rfl))) (fun _ _ _ _ => (@pe_callO _ _ _ _ _ _ _ _ _ _ o_is_part hr rfl (@pa_cons _ _ _ _ _ (pv 0) (@pa_nil _) (by rfl)) (by decide) (by rfl) (by rfl))) (fun _ _ _ _ => (@pts_none _)) (by intro _; rfl)) (@pa_nil _) (by rfl)) (by decide) (by decide) (by rfl) (by rfl)))))))), ?_⟩
    rcases h with ⟨z, rfl, hz, rfl⟩ | ⟨⟨t, ty, e1⟩, rfl⟩
    · walk_at "go"
      refine r_isTy (.str z) kit_str_str ?_
      walk_at "go"
      have ep : ("." : Str) = ⟨#[46]⟩ := by decide +kernel
      rw [ep]
      refine r_split (z := z) (y := ⟨#[46]⟩) (by decide) (by omega) fun l hl => ?_
      have hps := post_split z
      have hsh : ∀ p ∈ Txt.split z ⟨#[46]⟩, p.length ≤ 1000 := fun p hp => Nat.le_trans (sp_short hp) hz
      have hsl := sp_few z ⟨#[46]⟩
      generalize Txt.split z ⟨#[46]⟩ = ps at hps hsh hsl ⊢
      walk_at "go"
      rw [List.length_map]
      refine i_d (fun c => ?_) (fun c => ?_)
      · walk_at "go"
        refine r_listK (SqL.of upd_same) ?_
        refine r_compL (xs := ps.map V.str) (by rw [List.length_map]; omega) (fun acc i ys G => Kp acc (upd H l (.lst (ps.map V.str))) G ∧ ys = (ps.take i).map fun p => V.bl (partB p)) (fun acc h0 => ⟨Kp.new h0, rfl⟩) ?_ ?_ ?_
        · intro acc i ys G h0 _ ⟨kp, _⟩
          exact SqL.of (kp _ _ (ne_of_none upd_same h0) upd_same)
        · intro acc i ys G x h0 hx hyl hG ⟨kp, e⟩
          rw [List.getElem?_map] at hx
          cases hy : ps[i]? with
          | none => rw [hy] at hx; cases hx
          | some y =>
            rw [hy] at hx
            cases (Option.some.inj hx : V.str y = x)
            walk_at "go"
            refine ⟨y, rfl, hsh y (List.mem_of_getElem? hy), fun G1 s1 => ?_⟩
            have hi : i < ps.length := (List.getElem?_eq_some_iff.mp hy).1
            refine c_next (by rw [List.length_map]; exact hi) hyl (s1 _ _ hG) ⟨Kp.trans (Kp.trans kp s1.kp) Kp.upd, ?_⟩
            have e2 : ps[i] = y := by
              rw [List.getElem?_eq_getElem hi] at hy
              exact Option.some.inj hy
            rw [List.take_succ_eq_append_getElem hi, List.map_append, ← e, e2]
            rfl
        · intro acc ys G h0 hG hyl ⟨kp, e⟩
          rw [List.length_map, List.take_length] at e
          subst e
          walk_at "go"
          have e3 : (ps.map fun p => V.bl (partB p)) = (ps.map partB).map V.bl := by rw [List.map_map]; rfl
          rw [e3] at hG
          refine r_allB hG ?_
          walk_at "go"
          have e4 : (ps.map partB).all id = postB z := by
            rw [hps, decide_eq_true (show ps.length ≤ 4 by omega), Bool.true_and, List.all_map]
            rfl
          rw [e4]
          exact q _ ((Same.new hl).trans (Same.kpn h0 (Same.refl _) kp))
      · walk_at "go"
        rw [decide_eq_false (show ¬ ps.length ≤ 4 by omega), Bool.false_and] at hps
        rw [hps] at q
        exact q _ (Same.new hl)
    · walk_at "go"
      refine r_isTy ty e1 ?_
      walk_at "go"
      exact q _ (Same.refl _)
theorem ok_is_run (T : Bl mg) (d : Df K mg "is_run" s_is_run ["thing"]  ) (W : Xm mg xt x0 x1 x2 x3 x4 x5 x6 x7 x8 x9 x10 x11) (R_NoNet : Xr K xt x0 x1 x2 x3 x4 x5 x6 x7 x8 x9 x10 x11 x1 1) (o_is_less : Okf P w K mg base k "is_less" ["one", "other"] spLess) (o_is_fraction : Okf P w K mg base k "is_fraction" ["thing"] (spIsFrac K)) (o_is_post : Okf P w K mg base k "is_post" ["thing"] (spPost K)) : Okf P w K mg base (k + 1) "is_run" ["thing"] (spIsRun K) := by
  refine Okf.of d sc_is_run (fun vs H Q E h => ?_) (fun f cdv A outer s H vs Q E hr h => ?_)
  · obtain ⟨x, b, rfl, _⟩ := h
    rfl
  · obtain ⟨x, b, rfl, h, q⟩ := h
    refine ⟨_, (@pss_cons _ _ _ _ _ (@ps_if _ _ _ _ _ _ _ _ (@PW.pt _ _ _ (@pw_or _ _ _ _ _ _ _ (@pt_not _ _ _ _ (@pt_val _ _ _ (@pe_callB _ _ _ _ _ _ _ _ _ (call_isTy (T := "tuple")) rfl T.z_isinstance bt_isinstance (@pa_cons _ _ _ _ _ (pv 0) (@pa_cons _ _ _ _ _ (@pe_bltn _ _ (v := .ty "tuple") _ _ rfl T.z_tuple bt_tuple rfl (by decide) (by decide)) (@pa_nil _) (by rfl)) (by rfl)) (by decide) (by decide) (by rfl) (by rfl)) (by intro _; rfl))) (@pw_or1 _ _ _ _ (@pt_cmpR _ _ _ _ _ _ _ _ (op_neA hr.units) (@pe_callB _ _ _ _ _ _ _ _ _ c_len rfl T.z_len bt_len (@pa_cons _ _ _ _ _ (pv 0) (@pa_nil _) (by rfl)) (by decide) (by decide) (by rfl) (by rfl)) (@pe_int _ _ _ _) (nomark _))))) (@pss_one _ _ _ (@ps_ret _ _ _ _ (@pe_bl _ _ _ _))) (@pss_nil _)) (@pss_cons _ _ _ _ _ (@ps_if _ _ _ _ _ _ _ _ (@PW.pt _ _ _ (@pw_or _ _ _ _ _ _ _ (@pt_not _ _ _ _ (@pt_val _ _ _ (@pe_callO _ _ _ _ _ _ _ _ _ _ o_is_post hr rfl (@pa_cons _ _ _ _ _ (@pe_ix _ _ _ _ _ _ _ ix_LT (pv 0) (@pe_int _ _ _ _) (fun _ _ => rfl)) (@pa_nil _) (by rfl)) (by decide) (by rfl) (by rfl)) (by intro _; rfl))) (@pw_or _ _ _ _ _ _ _ (@pt_not _ _ _ _ (@pt_val _ _ _ (@pe_callO _ _ _ _ _ _ _ _ _ _ o_is_post hr rfl (@pa_cons _ _ _ _ _ (@pe_ix _ _ _ _ _ _ _ ix_LT (pv 0) (@pe_int _ _ _ _) (fun _ _ => rfl)) (@pa_nil _) (by rfl)) (by decide) (by rfl) (by rfl)) (by intro _; rfl))) (@pw_or1 _ _ _ _ (@pt_cmpR _ _ _ _ _ _ _ _ (op_eqA hr.units) (@pe_ix _ _ _ _ _ _ _ ix_LT (pv 0) (@pe_int _ _ _ _) (fun _ _ => rfl)) (@pe_ix _ _ _ _ _ _ _ ix_LT (pv 0) (@pe_int _ _ _ _) (fun _ _ => rfl)) (nomark _)))))) (@pss_one _ _ _ (@ps_ret _ _ _ _ (@pe_bl _ _ _ _))) (@pss_nil _)) (@pss_one _ _ _ (@ps_ret _ _ _ _ (@pe_and _ _ _ _ _ _ _ (@pe_callO _ _ _ _ _ _ _ _ _ _ o_is_fraction hr rfl (@pa_cons _ _ _ _ _ (@pe_ix _ _ _ _ _ _ _ ix_LT (pv 0) (@pe_int _ _ _ _) (fun _ _ => rfl)) (@pa_nil _) (by rfl)) (by decide) (by rfl) (by rfl)) (@pe_one _ _ _ _ _ (@pe_callO _ _ _ _ _ _ _ _ _ _ o_is_less hr rfl (@pa_cons _ _ _ _ _ (@pe_tup _ _ _ _ _ (@pa_cons _ _ _ _ _ (@pe_int _ _ _ _) (@pa_cons _ _ _ _ _ (@pe_int _ _ _ _) (@pa_nil _) (by rfl)) (by rfl))) (@pa_cons _ _ _ _ _ (@pe_ix _ _ _ _ _ _ _ ix_LT (pv 0) (@pe_int _ _ _ _) (fun _ _ => rfl)) (@pa_nil _) (by rfl)) (by rfl)) (by decide) (by rfl) (by rfl)))))))), ?_⟩
    cases h with
    | nt h =>
      obtain ⟨t, ty, e⟩ := h
      walk_at "go"
      refine r_isTy ty e ?_
      walk_at "go"
      exact q _ (Same.refl _)
    | len h n =>
      walk_at "go"
      refine r_isTy (.tup h) kit_tuple_tuple ?_
      walk_at "go"
      exact q _ (Same.refl _)
    | @one p u v t h hu =>
      walk_at "go"
      refine r_isTy (.tup h) kit_tuple_tuple ?_
      walk_at "go"
      refine i_d (fun c => ?_) (fun c => absurd rfl c)
      walk_at "go"
      refine ⟨u, false, rfl, hu, fun H1 s1 => ?_⟩
      walk_at "go"
      exact q _ s1
    | @two p u v t h hu hv =>
      walk_at "go"
      refine r_isTy (.tup h) kit_tuple_tuple ?_
      walk_at "go"
      refine i_d (fun c => ?_) (fun c => absurd rfl c)
      walk_at "go"
      refine ⟨u, true, rfl, hu, fun H1 s1 => ?_⟩
      have h1 := s1 _ _ h
      walk_at "go"
      refine ⟨v, false, rfl, hv.sm s1, fun H2 s2 => ?_⟩
      walk_at "go"
      exact q _ (s1.trans s2)
    | @same p z t h hu =>
      walk_at "go"
      refine r_isTy (.tup h) kit_tuple_tuple ?_
      walk_at "go"
      refine i_d (fun c => ?_) (fun c => absurd rfl c)
      walk_at "go"
      refine ⟨_, true, rfl, hu, fun H1 s1 => ?_⟩
      have h1 := s1 _ _ h
      walk_at "go"
      refine ⟨_, true, rfl, hu.sm s1, fun H2 s2 => ?_⟩
      have h2 := s2 _ _ h1
      walk_at "go"
      refine i_d (fun _ => ?_) (fun c => absurd rfl c)
      walk_at "go"
      exact q _ (s1.trans s2)
    | @time p z z' t h hu hv hn ht =>
      walk_at "go"
      refine r_isTy (.tup h) kit_tuple_tuple ?_
      walk_at "go"
      refine i_d (fun c => ?_) (fun c => absurd rfl c)
      walk_at "go"
      refine ⟨_, true, rfl, hu, fun H1 s1 => ?_⟩
      have h1 := s1 _ _ h
      walk_at "go"
      refine ⟨_, true, rfl, hv.sm s1, fun H2 s2 => ?_⟩
      have h2 := s2 _ _ h1
      walk_at "go"
      refine i_d (fun c => absurd c hn) (fun _ => ?_)
      walk_at "go"
      refine ⟨_, false, rfl, ht _ (s1.trans s2), ?_⟩
      walk_at "go"
      exact q _ (s1.trans s2)
    | @run p tp z z' a c h hu hv hn ht hf sa sc =>
      walk_at "go"
      refine r_isTy (.tup h) kit_tuple_tuple ?_
      walk_at "go"
      refine i_d (fun _ => ?_) (fun e => absurd rfl e)
      walk_at "go"
      refine ⟨_, true, rfl, hu, fun H1 s1 => ?_⟩
      have h1 := s1 _ _ h
      walk_at "go"
      refine ⟨_, true, rfl, hv.sm s1, fun H2 s2 => ?_⟩
      have h2 := s2 _ _ h1
      have ht2 := s2 _ _ (s1 _ _ ht)
      walk_at "go"
      refine i_d (fun e => absurd e hn) (fun _ => ?_)
      walk_at "go"
      refine ⟨_, true, rfl, .inr (.inr ⟨tp, _, _, rfl, ht2, rfl, rfl, ?_, hf.symm⟩), ?_⟩
      · intro a' c' e1 e2
        cases e1
        cases e2
        exact ⟨sa, sc⟩
      walk_at "go"
      refine r_tupK fun p0 hp0 => ?_
      walk_at "go"
      refine ⟨_, _, 0, 1, a, c, rfl, ⟨p0, rfl, upd_same⟩, ⟨tp, rfl, upd_old hp0 ht2⟩, CMulB.l (by omega) (by omega), CMulB.r (by omega) (by omega), ?_⟩
      walk_at "go"
      rw [Int.zero_mul, Int.mul_one]
      exact q _ ((s1.trans s2).trans (Same.new hp0))
theorem ok_net_of (T : Bl mg) (d : Df K mg "net_of" s_net_of ["runs"] ) (W : Xm mg xt x0 x1 x2 x3 x4 x5 x6 x7 x8 x9 x10 x11) (R_NoNet : Xr K xt x0 x1 x2 x3 x4 x5 x6 x7 x8 x9 x10 x11 x1 1) {tk_MOST_RUNS : Tok} (g_MOST_RUNS : mg "MOST_RUNS" = some (.int 120 tk_MOST_RUNS)) (o_is_run : Okf P w K mg base k "is_run" ["thing"] (spIsRun K)) : OkfX P w K mg base (k + 1) "net_of" ["runs"] [] (spNetOf K x1) := by
  refine OkfX.of d sc_net_of (fun vs H Q E h => ?_) (fun f cdv A outer s H vs Q E hr h => ?_)
  · obtain ⟨v, rfl, _⟩ := h
    rfl
  · obtain ⟨v, rfl, h⟩ := h
    refine ⟨_, (@pss_cons _ _ _ _ _ (@ps_if _ _ _ _ _ _ _ _ (@PW.pt _ _ _ (@pw_or _ _ _ _ _ _ _ (@pt_not _ _ _ _ (@pt_val _ _ _ (@pe_callB _ _ _ _ _ _ _ _ _ (call_isTy (T := "list")) rfl T.z_isinstance bt_isinstance (@pa_cons _ _ _ _ _ (pv 0) (@pa_cons _ _ _ _ _ (@pe_bltn _ _ (v := .ty "list") _ _ rfl T.z_list bt_list rfl (by decide) (by decide)) (@pa_nil _) (by rfl)) (by rfl)) (by decide) (by decide) (by rfl) (by rfl)) (by intro _; rfl))) (@pw_or1 _ _ _ _ (@pt_not _ _ _ _ (@pt_chain _ _ _ _ _ _ _ _ _ _ _ _ op_le op_le (@pe_int _ _ _ _) (@pe_callB _ _ _ _ _ _ _ _ _ c_len rfl T.z_len bt_len (@pa_cons _ _ _ _ _ (pv 0) (@pa_nil _) (by rfl)) (by decide) (by decide) (by rfl) (by rfl)) (@pe_glob _ _ (v := (.int 120)) _ _ rfl g_MOST_RUNS ⟨_, rfl⟩ (by decide)) (by with_unfolding_all rfl)))))) (@pss_one _ _ _ (@ps_raiseR _ _ _ _ _ _ _ _ _ _ (fun _ _ _ _ _ _ _ _ I m q => xe_new I m q) rfl rfl W.m_NoNet R_NoNet.e (@pa_cons _ _ _ _ _ (@pe_fst _ _ _ _ _ _ (@pj_cons _ _ _ _ _ (@pe_str _ _ _ _) (@pj_cons _ _ _ _ _ (@pe_fmt _ _ _ _ (@pe_glob _ _ (v := (.int 120)) _ _ rfl g_MOST_RUNS ⟨_, rfl⟩ (by decide))) (@pj_cons _ _ _ _ _ (@pe_str _ _ _ _) (@pj_nil _)))) (by decide)) (@pa_nil _) (by rfl)) (by decide) (by rfl) (by rfl))) (@pss_nil _)) (@pss_cons _ _ _ _ _ (@ps_for _ _ _ _ _ _ _ _ PassesOwn.leaving rfl (@pi_enum _ _ _ _ _ _ _ _ rfl T.z_enumerate (@pa_cons _ _ _ _ _ (pv 0) (@pa_nil _) (by rfl)) (by rfl)) (@pg_tup _ _ _ _ _ (n := 2) rfl (@pgs_cons _ _ _ _ _ (@pg_name _ _ (i := 1) _ sc_net_of.nd rfl (by first | exact Or.inl rfl | exact Or.inr rfl) (by first | exact .inl rfl | exact .inr rfl | assumption)) (@pgs_cons _ _ _ _ _ (@pg_name _ _ (i := 2) _ sc_net_of.nd rfl (by first | exact Or.inl rfl | exact Or.inr rfl) (by first | exact .inl rfl | exact .inr rfl | assumption)) (@pgs_nil _) (by rfl)) (by rfl)) (by rfl) (by rfl)) (@pss_one _ _ _ (@ps_if _ _ _ _ _ _ _ _ (@pt_not _ _ _ _ (@pt_val _ _ _ (@pe_callO _ _ _ _ _ _ _ _ _ _ o_is_run hr rfl (@pa_cons _ _ _ _ _ (pv 2) (@pa_nil _) (by rfl)) (by decide) (by rfl) (by rfl)) (by intro _; rfl))) (@pss_one _ _ _ (@ps_raiseR _ _ _ _ _ _ _ _ _ _ (fun _ _ _ _ _ _ _ _ I m q => xe_new I m q) rfl rfl W.m_NoNet R_NoNet.e (@pa_cons _ _ _ _ _ (@pe_fst _ _ _ _ _ _ (@pj_cons _ _ _ _ _ (@pe_str _ _ _ _) (@pj_cons _ _ _ _ _ (@pe_fmt _ _ _ _ (pv 1)) (@pj_cons _ _ _ _ _ (@pe_str _ _ _ _) (@pj_nil _)))) (by decide)) (@pa_nil _) (by rfl)) (by decide) (by rfl) (by rfl))) (@pss_nil _))) (by intro _; rfl)) (@pss_one _ _ _ (@ps_ret _ _ _ _ (@pe_callTy _ _ _ _ _ _ _ _ _ c_list rfl T.z_list bt_list (@pa_cons _ _ _ _ _ (pv 0) (@pa_nil _) (by rfl)) (by decide) (by decide) (by rfl) (by rfl)))))), ?_⟩
    rcases h with ⟨l, vs', bs, rfl, hl, pb, h1, h2, hall, q⟩ | ⟨h, q⟩
    · walk_at "go"
      refine r_isTy (.lst hl) kit_list_list ?_
      walk_at "go"
      refine e_K hl ?_
      refine r_forE (xs := vs') (fun i σ G => ∃ o1 o2, σ = [some (.ref l), o1, o2] ∧ Same H G) ⟨_, _, rfl, Same.refl _⟩ ?_ ?_ ?_
      · rintro i σ G _ ⟨o1, o2, rfl, sG⟩
        exact SqL.of (sG _ _ hl)
      · rintro i x T0 σ G hx hT ⟨o1, o2, rfl, sG⟩
        obtain ⟨b, hb, qb⟩ := Paired.at pb hx
        have hbt := hall b (List.mem_of_getElem? hb)
        subst hbt
        have s1 := sG.trans (Same.new (o := .tup [.int i, x]) hT)
        have hT2 := upd_same (H := G) (a := T0) (o := .tup [.int i, x])
        generalize upd G T0 (.tup [.int i, x]) = G1 at s1 hT2 ⊢
        walk_at "go"
        refine ⟨_, true, rfl, qb.sm s1, fun G2 s2 => ?_⟩
        walk_at "go"
        exact ⟨_, _, rfl, s1.trans s2⟩
      · rintro σ G ⟨o1, o2, rfl, sG⟩
        walk_at "go"
        refine l_lst (sG _ _ hl) fun l' g' => ?_
        walk_at "go"
        exact q l' _ (sG.free g') (sG.trans (Same.new g')) upd_same
    · rcases h with ⟨l, vs', bs, rfl, hl, pb, hlen, hbad⟩ | ⟨t, ty, e⟩
      · walk_at "go"
        refine r_isTy (.lst hl) kit_list_list ?_
        walk_at "go"
        refine i_d (fun c1 => ?_) (fun c1 => ?_)
        · walk_at "go"
          refine i_d (fun c2 => ?_) (fun c2 => ?_)
          · walk_at "go"
            refine e_K hl ?_
            refine r_forE (xs := vs') (fun i σ G => ∃ o1 o2, σ = [some (.ref l), o1, o2] ∧ Same H G ∧ ∀ j, j < i → bs[j]? ≠ some false) ⟨_, _, rfl, Same.refl _, fun j hj => absurd hj (Nat.not_lt_zero _)⟩ ?_ ?_ ?_
            · rintro i σ G _ ⟨o1, o2, rfl, sG, _⟩
              exact SqL.of (sG _ _ hl)
            · rintro i x T0 σ G hx hT ⟨o1, o2, rfl, sG, hno⟩
              obtain ⟨b, hb, qb⟩ := Paired.at pb hx
              have s1 := sG.trans (Same.new (o := .tup [.int i, x]) hT)
              have hT2 := upd_same (H := G) (a := T0) (o := .tup [.int i, x])
              generalize upd G T0 (.tup [.int i, x]) = G1 at s1 hT2 ⊢
              have hi : i < vs'.length := (List.getElem?_eq_some_iff.mp hx).1
              walk_at "go"
              refine ⟨_, b, rfl, qb.sm s1, fun G2 s2 => ?_⟩
              cases b with
              | false =>
                walk_at "go"
                refine r_fmK (i := i) (by omega) fun z hz => ?_
                walk_at "go"
                intro z'
                walk_at "go"
                exact ⟨by rw [sizeLine_eq]; exact (show 1 ≤ 16777216 by decide), q _ (s1.trans s2)⟩
              | true =>
                walk_at "go"
                refine ⟨_, _, rfl, s1.trans s2, fun j hj => ?_⟩
                by_cases e : j = i
                · subst e
                  rw [hb]
                  intro z
                  cases z
                · exact hno j (by omega)
            · rintro σ G ⟨o1, o2, rfl, sG, hno⟩
              rcases hbad with hbad | hbad | hbad
              · omega
              · omega
              · obtain ⟨j, hj, e⟩ := List.getElem_of_mem hbad
                have := hno j (by rw [Paired.length pb]; exact hj)
                rw [List.getElem?_eq_getElem hj, e] at this
                exact absurd rfl this
          · walk_at "go"
            refine r_fmK (i := 120) (by decide) fun z hz => ?_
            walk_at "go"
            intro z'
            walk_at "go"
            exact ⟨by rw [sizeLine_eq]; exact (show 1 ≤ 16777216 by decide), q _ (Same.refl _)⟩
        · walk_at "go"
          refine r_fmK (i := 120) (by decide) fun z hz => ?_
          walk_at "go"
          intro z'
          walk_at "go"
          exact ⟨by rw [sizeLine_eq]; exact (show 1 ≤ 16777216 by decide), q _ (Same.refl _)⟩
      · walk_at "go"
        refine r_isTy ty e ?_
        walk_at "go"
        refine r_fmK (i := 120) (by decide) fun z hz => ?_
        walk_at "go"
        intro z'
        walk_at "go"
        exact ⟨by rw [sizeLine_eq]; exact (show 1 ≤ 16777216 by decide), q _ (Same.refl _)⟩
theorem ok_posts_of (T : Bl mg) (d : Df K mg "posts_of" s_posts_of ["net"]  ) (W : Xm mg xt x0 x1 x2 x3 x4 x5 x6 x7 x8 x9 x10 x11) (R_NoNet : Xr K xt x0 x1 x2 x3 x4 x5 x6 x7 x8 x9 x10 x11 x1 1) : Okf P w K mg base (k + 1) "posts_of" ["net"] (spPosts w) := by
  refine Okf.of d sc_posts_of (fun vs H Q E h => ?_) (fun f cdv A outer s H vs Q E hr h => ?_)
  · obtain ⟨l, n, U, rfl, _⟩ := h
    rfl
  · obtain ⟨l, n, U, rfl, ⟨vs', hl, pvs⟩, hlen, hU, hUn, q⟩ := h
    refine ⟨_, (@pss_one _ _ _ (@ps_ret _ _ _ _ (@pe_callB _ _ _ _ _ _ _ _ _ (call_sortS rfl) rfl T.z_sorted bt_sorted (@pa_cons _ _ _ _ _ (@pe_callTy _ _ _ _ _ _ _ _ _ (call_setS rfl) rfl T.z_set bt_set (@pa_cons _ _ _ _ _ (@pe_op _ _ _ _ _ _ _ _ op_addA (@pe_comp _ _ _ _ _ _ _ _ _ _ _ _ _ _ (@comp_ck _ _ (sc := defScope s_posts_of) (N := ["net"]) (tn := ["run"]) (names := []) (is := []) rfl rfl (by decide +kernel) (by decide +kernel) rfl (by decide +kernel) rfl (by decide +kernel) (by decide +kernel) (by decide +kernel)) rfl (@pi_list _ _ _ _ (pv 0)) (fun _ _ _ _ => (@pg_name _ _ (i := 0) _ (show (["run"] : List Str).Nodup by decide +kernel) rfl (Or.inl rfl) (Or.inr rfl))) (fun _ _ _ _ => (@pe_ix _ _ _ _ _ _ _ ix_LTc (pv 0) (@pe_int _ _ _ _) (fun _ _ => rfl))) (fun _ _ _ _ => (@pts_none _)) (by intro _; rfl)) (@pe_comp _ _ _ _ _ _ _ _ _ _ _ _ _ _ (@comp_ck _ _ (sc := defScope s_posts_of) (N := ["net"]) (tn := ["run"]) (names := []) (is := []) rfl rfl (by decide +kernel) (by decide +kernel) rfl (by decide +kernel) rfl (by decide +kernel) (by decide +kernel) (by decide +kernel)) rfl (@pi_list _ _ _ _ (pv 0)) (fun _ _ _ _ => (@pg_name _ _ (i := 0) _ (show (["run"] : List Str).Nodup by decide +kernel) rfl (Or.inl rfl) (Or.inr rfl))) (fun _ _ _ _ => (@pe_ix _ _ _ _ _ _ _ ix_LTc (pv 0) (@pe_int _ _ _ _) (fun _ _ => rfl))) (fun _ _ _ _ => (@pts_none _)) (by intro _; rfl))) (@pa_nil _) (by rfl)) (by decide) (by decide) (by rfl) (by rfl)) (@pa_nil _) (by rfl)) (by decide) (by decide) (by rfl) (by rfl)))), ?_⟩
    have hvl : vs'.length = n.length := (Paired.length pvs).trans (by simp [kn])
    walk_at "go"
    refine r_listK (SqL.of hl) ?_
    refine r_compL (xs := vs') (by omega) (fun acc i ys G => Kp acc H G ∧ ys = (n.take i).map fun r => V.str r.1) (fun acc h0 => ⟨Kp.new h0, rfl⟩) ?_ ?_ ?_
    · intro acc i ys G h0 _ ⟨kp, _⟩
      exact SqL.of (kp _ _ (ne_of_none hl h0) hl)
    · intro acc i ys G x h0 hx hyl hG ⟨kp, e⟩
      obtain ⟨r, hr, p, u, rfl, hp, fu⟩ := Paired.at pvs hx
      obtain ⟨sr, hs, rfl⟩ := kn_at hr
      have hp1 := hp
      have hpG := kp _ _ (ne_of_none hp1 h0) hp1
      walk_at "go"
      refine c_next (List.getElem?_eq_some_iff.mp hx).1 hyl hG ⟨Kp.trans kp Kp.upd, ?_⟩
      have hi : i < n.length := (List.getElem?_eq_some_iff.mp hs).1
      rw [List.take_succ_eq_append_getElem hi, List.map_append, ← e]
      have : n[i] = sr := by
        rw [List.getElem?_eq_getElem hi] at hs
        exact Option.some.inj hs
      rw [this]
      rfl
    · intro a1 ys1 G1 h1 hG1 hy1 ⟨kp1, e1⟩
      have hl1 := kp1 _ _ (ne_of_none hl h1) hl
      rw [hvl, List.take_length] at e1
      subst e1
      walk_at "go"
      refine r_listK (SqL.of hl1) ?_
      refine r_compL (xs := vs') (by omega) (fun acc i ys G => Kp acc G1 G ∧ ys = (n.take i).map fun r => V.str r.2.1) (fun acc h0 => ⟨Kp.new h0, rfl⟩) ?_ ?_ ?_
      · intro acc i ys G h0 _ ⟨kp, _⟩
        exact SqL.of (kp _ _ (ne_of_none hl1 h0) hl1)
      · intro acc i ys G x h0 hx hyl hG ⟨kp, e⟩
        obtain ⟨r, hr, p, u, rfl, hp, fu⟩ := Paired.at pvs hx
        obtain ⟨sr, hs, rfl⟩ := kn_at hr
        have hp1 := kp1 _ _ (ne_of_none hp h1) hp
        have hpG := kp _ _ (ne_of_none hp1 h0) hp1
        walk_at "go"
        refine c_next (List.getElem?_eq_some_iff.mp hx).1 hyl hG ⟨Kp.trans kp Kp.upd, ?_⟩
        have hi : i < n.length := (List.getElem?_eq_some_iff.mp hs).1
        rw [List.take_succ_eq_append_getElem hi, List.map_append, ← e]
        have : n[i] = sr := by
          rw [List.getElem?_eq_getElem hi] at hs
          exact Option.some.inj hs
        rw [this]
        rfl
      · intro a2 ys2 G2 h2 hG2 hy2 ⟨kp2, e2⟩
        rw [hvl, List.take_length] at e2
        subst e2
        have h1G := kp2 _ _ (ne_of_none hG1 h2) hG1
        walk_at "go"
        refine .inr (.inl ⟨a1, a2, _, _, rfl, rfl, h1G, hG2, le_line (by simp; omega), fun a3 h3 => ?_⟩)
        walk_at "go"
        have hcat : ((n.map fun r => V.str r.1) ++ n.map fun r => V.str r.2.1) = (names n).map V.str := by
          rw [names, List.map_append, List.map_map, List.map_map]
          rfl
        rw [hcat]
        refine ⟨a3, names n, rfl, upd_same, by simp [names]; omega, fun a4 zs h4 nd hz => ?_⟩
        walk_at "go"
        refine ⟨a4, zs, rfl, .inl upd_same, Nat.lt_of_le_of_lt (nd_len nd fun x hx => hUn x ((hz x).mp hx)) hU, fun a5 ys h5 hpm hs => ?_⟩
        walk_at "go"
        have sH : Same H (upd (upd (upd G2 a3 (.lst ((names n).map V.str))) a4 (SetS w a4 zs)) a5 (.lst (ys.map V.str))) := fun b o hb => by
          have hb1 := kp1 _ _ (ne_of_none hb h1) hb
          exact upd_old h5 (upd_old h4 (upd_old h3 (kp2 _ _ (ne_of_none hb1 h2) hb1)))
        refine q a5 _ ys ?_ sH upd_same hs (hpm.nodup_iff.mpr nd) fun x => (hpm.mem_iff).trans (hz x)
        cases z : H a5 with
        | none => rfl
        | some o =>
          have hb1 := kp1 _ _ (ne_of_none z h1) z
          rw [upd_old h4 (upd_old h3 (kp2 _ _ (ne_of_none hb1 h2) hb1))] at h5
          cases h5
theorem ok_cell_at (T : Bl mg) (d : Df K mg "_law_cell_at" s_cell_at ["_law_script", "_law_k"]  ) (W : Xm mg xt x0 x1 x2 x3 x4 x5 x6 x7 x8 x9 x10 x11) (R_NoNet : Xr K xt x0 x1 x2 x3 x4 x5 x6 x7 x8 x9 x10 x11 x1 1) : Okf P w K mg base (k + 1) "_law_cell_at" ["_law_script", "_law_k"] (spCell K) := by
  refine Okf.of d sc_cell_at (fun vs H Q E h => ?_) (fun f cdv A outer s H vs Q E hr h => ?_)
  · obtain ⟨a, ns, k', rfl, _⟩ := h
    rfl
  · obtain ⟨a, ns, k', rfl, hS, h0, q⟩ := h
    refine ⟨_, (@pss_cons _ _ _ _ _ (@ps_if _ _ _ _ _ _ _ _ (@pt_cmpR _ _ _ _ _ _ _ _ op_lt (pv 1) (@pe_callB _ _ _ _ _ _ _ _ _ c_len rfl T.z_len bt_len (@pa_cons _ _ _ _ _ (pv 0) (@pa_nil _) (by rfl)) (by decide) (by decide) (by rfl) (by rfl)) (nomark _)) (@pss_one _ _ _ (@ps_ret _ _ _ _ (@pe_ix _ _ _ _ _ _ _ ix_LT (pv 0) (pv 1) (fun _ _ => rfl)))) (@pss_nil _)) (@pss_one _ _ _ (@ps_ret _ _ _ _ (@pe_int _ _ _ _)))), ?_⟩
    walk_at "go"
    refine r_lenL hS ?_
    walk_at "go"
    refine i_d (fun c => ?_) (fun c => ?_)
    · rw [List.length_map] at c
      obtain ⟨z, _, hz⟩ := pick (ns := ns) h0 c
      walk_at "go"
      refine r_ixs hS hz ?_
      walk_at "go"
      exact q z
    · walk_at "go"
      exact q 0
theorem ok_begun (T : Bl mg) (d : Df K mg "_law_begun" s_begun ["_law_script", "_law_k"]  ) (W : Xm mg xt x0 x1 x2 x3 x4 x5 x6 x7 x8 x9 x10 x11) (R_NoNet : Xr K xt x0 x1 x2 x3 x4 x5 x6 x7 x8 x9 x10 x11 x1 1) (o_cell_at : Okf P w K mg base k "_law_cell_at" ["_law_script", "_law_k"] (spCell K)) : Okf P w K mg base (k + 1) "_law_begun" ["_law_script", "_law_k"] (spBegun K) := by
  refine Okf.of d sc_begun (fun vs H Q E h => ?_) (fun f cdv A outer s H vs Q E hr h => ?_)
  · obtain ⟨a, ns, k', rfl, _⟩ := h
    rfl
  · obtain ⟨a, ns, k', rfl, hS, h0, q⟩ := h
    refine ⟨_, (@pss_cons _ _ _ _ _ (@ps_set _ _ (i := 2) _ _ _ _ sc_begun.nd rfl (by first | exact Or.inl rfl | exact Or.inr rfl) (@pe_callB _ _ _ _ _ _ _ _ _ c_abs rfl T.z_abs bt_abs (@pa_cons _ _ _ _ _ (@pe_callO _ _ _ _ _ _ _ _ _ _ o_cell_at hr rfl (@pa_cons _ _ _ _ _ (pv 0) (@pa_cons _ _ _ _ _ (pv 1) (@pa_nil _) (by rfl)) (by rfl)) (by decide) (by rfl) (by rfl)) (@pa_nil _) (by rfl)) (by decide) (by decide) (by rfl) (by rfl)) (by rfl) (by first | exact .inl rfl | exact .inr rfl | assumption)) (@pss_cons _ _ _ _ _ (@ps_set _ _ (i := 3) _ _ _ _ sc_begun.nd rfl (by first | exact Or.inl rfl | exact Or.inr rfl) (@pe_op _ _ _ _ _ _ _ _ op_addA (@pe_op _ _ _ _ _ _ _ _ op_addA (@pe_callO _ _ _ _ _ _ _ _ _ _ o_cell_at hr rfl (@pa_cons _ _ _ _ _ (pv 0) (@pa_cons _ _ _ _ _ (pv 1) (@pa_nil _) (by rfl)) (by rfl)) (by decide) (by rfl) (by rfl)) (@pe_op _ _ _ _ _ _ _ _ op_mulB (@pe_int _ _ _ _) (@pe_callO _ _ _ _ _ _ _ _ _ _ o_cell_at hr rfl (@pa_cons _ _ _ _ _ (pv 0) (@pa_cons _ _ _ _ _ (@pe_int _ _ _ _) (@pa_nil _) (by rfl)) (by rfl)) (by decide) (by rfl) (by rfl)))) (@pe_callB _ _ _ _ _ _ _ _ _ c_len rfl T.z_len bt_len (@pa_cons _ _ _ _ _ (pv 0) (@pa_nil _) (by rfl)) (by decide) (by decide) (by rfl) (by rfl))) (by rfl) (by first | exact .inl rfl | exact .inr rfl | assumption)) (@pss_one _ _ _ (@ps_ret _ _ _ _ (@pe_lst _ _ _ _ (@pa_cons _ _ _ _ _ (@pe_op _ _ _ _ _ _ _ _ op_mulB (pv 2) (@pe_callTy _ _ _ _ _ _ _ _ _ c_int rfl T.z_int bt_int (@pa_cons _ _ _ _ _ (@pe_cmpR _ _ _ _ _ _ _ _ op_ge (pv 2) (@pe_op _ _ _ _ _ _ _ _ op_pow (@pe_int _ _ _ _) (@pe_int _ _ _ _)) (nomark _)) (@pa_nil _) (by rfl)) (by decide) (by decide) (by rfl) (by rfl))) (@pa_cons _ _ _ _ _ (pv 1) (@pa_cons _ _ _ _ _ (pv 3) (@pa_nil _) (by rfl)) (by rfl)) (by rfl))))))), ?_⟩
    walk_at "go"
    refine ⟨a, ns, k', rfl, hS, h0, fun r1 => ?_⟩
    walk_at "go"
    refine ⟨a, ns, k', rfl, hS, h0, fun r2 => ?_⟩
    walk_at "go"
    refine ⟨a, ns, 0, rfl, hS, Int.le_refl 0, fun r3 => ?_⟩
    walk_at "go"
    refine r_lenL hS ?_
    walk_at "go"
    have hb : ∀ c : Bool, (0 : Int) ≤ (if c = true then 1 else 0) ∧ (if c = true then (1 : Int) else 0) ≤ 1 := fun c => by cases c <;> decide
    generalize (decide ((1000000000000000000 : Int) ≤ if r1 < 0 then -r1 else r1)) = cc
    have h1 := hb cc
    walk_at "go"
    refine r_lstK fun p hp => ?_
    walk_at "go"
    refine q p _ hp ⟨_, _, _, upd_same, Int.mul_nonneg (by split <;> omega) h1.1, h0, Int.le_refl _⟩ (Same.new hp)
theorem ok_draw (T : Bl mg) (d : Df K mg "_law_draw" s_draw ["_law_state", "_law_many"]  ) (W : Xm mg xt x0 x1 x2 x3 x4 x5 x6 x7 x8 x9 x10 x11) (R_NoNet : Xr K xt x0 x1 x2 x3 x4 x5 x6 x7 x8 x9 x10 x11 x1 1) : Okf P w K mg base (k + 1) "_law_draw" ["_law_state", "_law_many"] spDraw := by
  refine Okf.of d sc_draw (fun vs H Q E h => ?_) (fun f cdv A outer s H vs Q E hr h => ?_)
  · obtain ⟨p, m, n, rfl, _⟩ := h
    rfl
  · obtain ⟨p, m, n, rfl, ⟨a, b, c, hs, ha, hb, hc⟩, hn, h0, h1, q⟩ := h
    refine ⟨_, (@pss_cons _ _ _ _ _ (@ps_if _ _ _ _ _ _ _ _ (@pt_cmpR _ _ _ _ _ _ _ _ op_gt (@pe_ix _ _ _ _ _ _ _ ix_LT (pv 0) (@pe_int _ _ _ _) (fun _ _ => rfl)) (@pe_int _ _ _ _) (nomark _)) (@pss_cons _ _ _ _ _ (@ps_set _ _ (i := 2) _ _ _ _ sc_draw.nd rfl (by first | exact Or.inl rfl | exact Or.inr rfl) (@pe_ix _ _ _ _ _ _ _ ix_LT (pv 0) (@pe_int _ _ _ _) (fun _ _ => rfl)) (by rfl) (by first | exact .inl rfl | exact .inr rfl | assumption)) (@pss_cons _ _ _ _ _ (@ps_asg _ _ _ _ _ _ (@pe_op _ _ _ _ _ _ _ _ op_fdivB (pv 2) (pv 1)) (@pg_sub _ _ _ _ _ _ _ (pv 0) (@pe_int _ _ _ _) set_list (by intro _; rfl)) (by rfl) (by rfl) (by rfl)) (@pss_one _ _ _ (@ps_ret _ _ _ _ (@pe_op _ _ _ _ _ _ _ _ op_mod (pv 2) (pv 1)))))) (@pss_nil _)) (@pss_cons _ _ _ _ _ (@ps_asg _ _ _ _ _ _ (@pe_op _ _ _ _ _ _ _ _ op_addA (@pe_ix _ _ _ _ _ _ _ ix_LT (pv 0) (@pe_int _ _ _ _) (fun _ _ => rfl)) (@pe_int _ _ _ _)) (@pg_sub _ _ _ _ _ _ _ (pv 0) (@pe_int _ _ _ _) set_list (by intro _; rfl)) (by rfl) (by rfl) (by rfl)) (@pss_cons _ _ _ _ _ (@ps_asg _ _ _ _ _ _ (@pe_op _ _ _ _ _ _ _ _ op_mod (@pe_op _ _ _ _ _ _ _ _ op_addA (@pe_op _ _ _ _ _ _ _ _ op_addA (@pe_op _ _ _ _ _ _ _ _ op_mulB (@pe_op _ _ _ _ _ _ _ _ op_mod (@pe_ix _ _ _ _ _ _ _ ix_LT (pv 0) (@pe_int _ _ _ _) (fun _ _ => rfl)) (@pe_int _ _ _ _)) (@pe_int _ _ _ _)) (@pe_op _ _ _ _ _ _ _ _ op_mulB (@pe_op _ _ _ _ _ _ _ _ op_mulB (@pe_int _ _ _ _) (@pe_ix _ _ _ _ _ _ _ ix_LT (pv 0) (@pe_int _ _ _ _) (fun _ _ => rfl))) (@pe_ix _ _ _ _ _ _ _ ix_LT (pv 0) (@pe_int _ _ _ _) (fun _ _ => rfl)))) (@pe_int _ _ _ _)) (@pe_int _ _ _ _)) (@pg_sub _ _ _ _ _ _ _ (pv 0) (@pe_int _ _ _ _) set_list (by intro _; rfl)) (by rfl) (by rfl) (by rfl)) (@pss_one _ _ _ (@ps_ret _ _ _ _ (@pe_op _ _ _ _ _ _ _ _ op_mod (@pe_op _ _ _ _ _ _ _ _ op_fdivB (@pe_op _ _ _ _ _ _ _ _ op_mod (@pe_op _ _ _ _ _ _ _ _ op_mulB (@pe_ix _ _ _ _ _ _ _ ix_LT (pv 0) (@pe_int _ _ _ _) (fun _ _ => rfl)) (@pe_int _ _ _ _)) (@pe_int _ _ _ _)) (@pe_int _ _ _ _)) (pv 1))))))), ?_⟩
    walk_at "go"
    refine i_d (fun c0 => ?_) (fun c0 => ?_)
    · walk_at "go"
      refine r_set3_0 hs ?_
      walk_at "go"
      exact q _ _ (Int.emod_nonneg _ (by omega)) (Int.emod_lt_of_pos _ h0) ⟨_, _, _, upd_same, fdiv_nn ha h0, hb, by omega⟩ Kp.upd
    · walk_at "go"
      refine r_set3_1 hs ?_
      walk_at "go"
      refine r_set3_2 upd_same ?_
      rw [upd_upd]
      have hx : ∀ z : Int, 0 ≤ z % 2147483647 ∧ z % 2147483647 < 2147483647 := fun z => by omega
      generalize hz : (c % 2147483647 * 48271 + 7919 * (b + 1) * (b + 1) + 11) = z
      have h2 := hx z
      walk_at "go"
      exact q _ _ (Int.emod_nonneg _ (by omega)) (Int.emod_lt_of_pos _ h0) ⟨_, _, _, upd_same, ha, by omega, by omega⟩ Kp.upd
theorem ok_low (T : Bl mg) (d : Df K mg "_law_low" s_low ["_law_top", "_law_bottom"]  ) (W : Xm mg xt x0 x1 x2 x3 x4 x5 x6 x7 x8 x9 x10 x11) (R_NoNet : Xr K xt x0 x1 x2 x3 x4 x5 x6 x7 x8 x9 x10 x11 x1 1) : Okf P w K mg base (k + 1) "_law_low" ["_law_top", "_law_bottom"] spLow := by
  refine Okf.of d sc_low (fun vs H Q E h => ?_) (fun f cdv A outer s H vs Q E hr h => ?_)
  · obtain ⟨t, b, rfl, _⟩ := h
    rfl
  · obtain ⟨t, b, rfl, hb, hs1, hs2, q⟩ := h
    refine ⟨_, (@pss_cons _ _ _ _ _ (@ps_set _ _ (i := 2) _ _ _ _ sc_low.nd rfl (by first | exact Or.inl rfl | exact Or.inr rfl) (@pe_callB _ _ _ _ _ _ _ _ _ c_abs rfl T.z_abs bt_abs (@pa_cons _ _ _ _ _ (pv 0) (@pa_nil _) (by rfl)) (by decide) (by decide) (by rfl) (by rfl)) (by rfl) (by first | exact .inl rfl | exact .inr rfl | assumption)) (@pss_cons _ _ _ _ _ (@ps_set _ _ (i := 3) _ _ _ _ sc_low.nd rfl (by first | exact Or.inl rfl | exact Or.inr rfl) (@pe_callB _ _ _ _ _ _ _ _ _ c_abs rfl T.z_abs bt_abs (@pa_cons _ _ _ _ _ (pv 1) (@pa_nil _) (by rfl)) (by decide) (by decide) (by rfl) (by rfl)) (by rfl) (by first | exact .inl rfl | exact .inr rfl | assumption)) (@pss_cons _ _ _ _ _ (@ps_while _ _ _ _ _ _ PassesOwn.never (@pt_cmpR _ _ _ _ _ _ _ _ op_gt (pv 3) (@pe_int _ _ _ _) (nomark _)) (@pss_one _ _ _ (@ps_par _ _ (i := 2) (j := 3) _ _ _ _ _ _ _ _ _ _ _ rfl sc_low.nd rfl rfl (by decide) rfl rfl (@pa_cons _ _ _ _ _ (pv 3) (@pa_cons _ _ _ _ _ (@pe_op _ _ _ _ _ _ _ _ op_mod (pv 2) (pv 3)) (@pa_nil _) (by rfl)) (by rfl)) rfl (by rfl)))) (@pss_cons _ _ _ _ _ (@ps_if _ _ _ _ _ _ _ _ (@pt_cmpR _ _ _ _ _ _ _ _ op_lt (pv 1) (@pe_int _ _ _ _) (nomark _)) (@pss_one _ _ _ (@ps_set _ _ (i := 2) _ _ _ _ sc_low.nd rfl (by first | exact Or.inl rfl | exact Or.inr rfl) (@pe_op _ _ _ _ _ _ _ _ op_sub (@pe_int _ _ _ _) (pv 2)) (by rfl) (by first | exact .inl rfl | exact .inr rfl | assumption))) (@pss_nil _)) (@pss_one _ _ _ (@ps_ret _ _ _ _ (@pe_tup _ _ _ _ _ (@pa_cons _ _ _ _ _ (@pe_op _ _ _ _ _ _ _ _ op_fdivB (pv 0) (pv 2)) (@pa_cons _ _ _ _ _ (@pe_op _ _ _ _ _ _ _ _ op_fdivB (pv 1) (pv 2)) (@pa_nil _) (by rfl)) (by rfl))))))))), ?_⟩
    walk_at "go"
    refine while_by (fun σ H' => ∃ one other : Int, σ = [some (.int t), some (.int b), some (.int one), some (.int other)] ∧ H' = H ∧ 0 ≤ one ∧ 0 ≤ other ∧ Int.gcd one other = Int.gcd t b)
      (fun σ _ => match σ with | [_, _, _, some (.int z)] => z.toNat | _ => 0) ⟨_, _, rfl, rfl, by split <;> omega, by split <;> omega, ?_⟩ ?_ ?_
    · have e : ∀ z : Int, (if z < 0 then -z else z) = (z.natAbs : Int) := fun z => by split <;> omega
      rw [e, e]
      simp [Int.gcd]
    · rintro σ H' ⟨one, other, rfl, rfl, h1, h2, hg⟩
      walk_at "go"
      refine i_d (fun c => ?_) (fun c => ?_)
      · walk_at "go"
        refine ⟨⟨_, _, rfl, rfl, h2, Int.emod_nonneg _ (by omega), by rw [gcd_step c]; exact hg⟩, ?_⟩
        have := Int.emod_lt_of_pos one c
        show (one % other).toNat < other.toNat
        omega
      · have e : other = 0 := by omega
        subst e
        have e1 : one = (Int.gcd t b : Int) := by rw [← hg, Int.gcd_zero_right]; omega
        have hpos := gcd_pos (t := t) hb
        have hgb : (Int.gcd t b : Int).natAbs ≤ b.natAbs := by
          have := Nat.le_of_dvd (by omega) (Int.gcd_dvd_natAbs_right t b)
          omega
        have hsm : Sm 8000 one := by rw [e1]; exact Sm.le hgb hs2
        subst e1
        walk_at "go"
        refine i_d (fun c2 => ?_) (fun c2 => ?_)
        · walk_at "go"
          have es : (0 : Int) - (Int.gcd t b : Int) = sg t b := by unfold sg; rw [if_pos c2]
          rw [es]
          have hc : ∀ z, CDivB z (sg t b) := fun _ => ⟨sg_ne hb, Sm.le (by rw [sg_natAbs]; omega) hs2⟩
          refine r_fdiv (hc _) ?_
          walk_at "go"
          refine r_fdiv (hc _) ?_
          walk_at "go"
          refine r_tupK fun p hp => ?_
          walk_at "go"
          exact q p hp
        · walk_at "go"
          have es : (Int.gcd t b : Int) = sg t b := by unfold sg; rw [if_neg c2]
          rw [es]
          have hc : ∀ z, CDivB z (sg t b) := fun _ => ⟨sg_ne hb, Sm.le (by rw [sg_natAbs]; omega) hs2⟩
          refine r_fdiv (hc _) ?_
          walk_at "go"
          refine r_fdiv (hc _) ?_
          walk_at "go"
          refine r_tupK fun p hp => ?_
          walk_at "go"
          exact q p hp
    · intro σ H Q Q' hQ h
      obtain ⟨v, e1, i, j, e2, e3, b', e4, q'⟩ := h
      exact ⟨v, e1, i, j, e2, e3, b', e4, hQ _ _ q'⟩
theorem ok_only (T : Bl mg) (d : Df K mg "_law_only" s_only ["_law_e", "_law_place"] ) (W : Xm mg xt x0 x1 x2 x3 x4 x5 x6 x7 x8 x9 x10 x11) (R_NoNet : Xr K xt x0 x1 x2 x3 x4 x5 x6 x7 x8 x9 x10 x11 x1 1) : OkfH P w K mg base (k + 1) "_law_only" ["_law_e", "_law_place"] (spOnly K xt x0 x1 x2 x3 x4 x5 x6 x7 x8 x9 x10 x11) := by
  refine OkfH.of d sc_only (fun y vs H Q E h => ?_) (fun y f cdv A outer s H vs Q hr hh h => ?_)
  · obtain ⟨C, i, rfl, _⟩ := h
    rfl
  · obtain ⟨C, i, rfl, hi, hy, R, q⟩ := h
    refine ⟨_, (@pss_cons _ _ _ _ _ (@ps_set _ _ (i := 2) _ _ _ _ sc_only.nd rfl (by first | exact Or.inl rfl | exact Or.inr rfl) (@pe_lst _ _ _ _ (@pa_cons _ _ _ _ _ (@pe_callB _ _ _ _ _ _ _ _ _ call_isX rfl T.z_isinstance bt_isinstance (@pa_cons _ _ _ _ _ (pv 0) (@pa_cons _ _ _ _ _ (@pe_glob _ _ (v := .ref x0) _ _ rfl W.m_NoNumber rfl (by decide)) (@pa_nil _) (by rfl)) (by rfl)) (by decide) (by decide) (by rfl) (by rfl)) (@pa_cons _ _ _ _ _ (@pe_callB _ _ _ _ _ _ _ _ _ call_isX rfl T.z_isinstance bt_isinstance (@pa_cons _ _ _ _ _ (pv 0) (@pa_cons _ _ _ _ _ (@pe_glob _ _ (v := .ref x1) _ _ rfl W.m_NoNet rfl (by decide)) (@pa_nil _) (by rfl)) (by rfl)) (by decide) (by decide) (by rfl) (by rfl)) (@pa_cons _ _ _ _ _ (@pe_callB _ _ _ _ _ _ _ _ _ call_isX rfl T.z_isinstance bt_isinstance (@pa_cons _ _ _ _ _ (pv 0) (@pa_cons _ _ _ _ _ (@pe_glob _ _ (v := .ref x2) _ _ rfl W.m_NoBell rfl (by decide)) (@pa_nil _) (by rfl)) (by rfl)) (by decide) (by decide) (by rfl) (by rfl)) (@pa_cons _ _ _ _ _ (@pe_callB _ _ _ _ _ _ _ _ _ call_isX rfl T.z_isinstance bt_isinstance (@pa_cons _ _ _ _ _ (pv 0) (@pa_cons _ _ _ _ _ (@pe_glob _ _ (v := .ref x3) _ _ rfl W.m_NoSum rfl (by decide)) (@pa_nil _) (by rfl)) (by rfl)) (by decide) (by decide) (by rfl) (by rfl)) (@pa_nil _) (by rfl)) (by rfl)) (by rfl)) (by rfl))) (by rfl) (by first | exact .inl rfl | exact .inr rfl | assumption)) (@pss_cons _ _ _ _ _ (@ps_set _ _ (i := 2) _ _ _ _ sc_only.nd rfl (by first | exact Or.inl rfl | exact Or.inr rfl) (@pe_op _ _ _ _ _ _ _ _ op_addA (pv 2) (@pe_lst _ _ _ _ (@pa_cons _ _ _ _ _ (@pe_callB _ _ _ _ _ _ _ _ _ call_isX rfl T.z_isinstance bt_isinstance (@pa_cons _ _ _ _ _ (pv 0) (@pa_cons _ _ _ _ _ (@pe_glob _ _ (v := .ref x4) _ _ rfl W.m_TooMany rfl (by decide)) (@pa_nil _) (by rfl)) (by rfl)) (by decide) (by decide) (by rfl) (by rfl)) (@pa_cons _ _ _ _ _ (@pe_callB _ _ _ _ _ _ _ _ _ call_isX rfl T.z_isinstance bt_isinstance (@pa_cons _ _ _ _ _ (pv 0) (@pa_cons _ _ _ _ _ (@pe_glob _ _ (v := .ref x5) _ _ rfl W.m_NoText rfl (by decide)) (@pa_nil _) (by rfl)) (by rfl)) (by decide) (by decide) (by rfl) (by rfl)) (@pa_cons _ _ _ _ _ (@pe_callB _ _ _ _ _ _ _ _ _ call_isX rfl T.z_isinstance bt_isinstance (@pa_cons _ _ _ _ _ (pv 0) (@pa_cons _ _ _ _ _ (@pe_glob _ _ (v := .ref x6) _ _ rfl W.m_NoPost rfl (by decide)) (@pa_nil _) (by rfl)) (by rfl)) (by decide) (by decide) (by rfl) (by rfl)) (@pa_cons _ _ _ _ _ (@pe_callB _ _ _ _ _ _ _ _ _ call_isX rfl T.z_isinstance bt_isinstance (@pa_cons _ _ _ _ _ (pv 0) (@pa_cons _ _ _ _ _ (@pe_glob _ _ (v := .ref x7) _ _ rfl W.m_Fallen rfl (by decide)) (@pa_nil _) (by rfl)) (by rfl)) (by decide) (by decide) (by rfl) (by rfl)) (@pa_nil _) (by rfl)) (by rfl)) (by rfl)) (by rfl)))) (by rfl) (by first | exact .inl rfl | exact .inr rfl | assumption)) (@pss_cons _ _ _ _ _ (@ps_set _ _ (i := 2) _ _ _ _ sc_only.nd rfl (by first | exact Or.inl rfl | exact Or.inr rfl) (@pe_op _ _ _ _ _ _ _ _ op_addA (pv 2) (@pe_lst _ _ _ _ (@pa_cons _ _ _ _ _ (@pe_callB _ _ _ _ _ _ _ _ _ call_isX rfl T.z_isinstance bt_isinstance (@pa_cons _ _ _ _ _ (pv 0) (@pa_cons _ _ _ _ _ (@pe_glob _ _ (v := .ref x8) _ _ rfl W.m_NoRun rfl (by decide)) (@pa_nil _) (by rfl)) (by rfl)) (by decide) (by decide) (by rfl) (by rfl)) (@pa_cons _ _ _ _ _ (@pe_callB _ _ _ _ _ _ _ _ _ call_isX rfl T.z_isinstance bt_isinstance (@pa_cons _ _ _ _ _ (pv 0) (@pa_cons _ _ _ _ _ (@pe_glob _ _ (v := .ref x9) _ _ rfl W.m_Gone rfl (by decide)) (@pa_nil _) (by rfl)) (by rfl)) (by decide) (by decide) (by rfl) (by rfl)) (@pa_cons _ _ _ _ _ (@pe_callB _ _ _ _ _ _ _ _ _ call_isX rfl T.z_isinstance bt_isinstance (@pa_cons _ _ _ _ _ (pv 0) (@pa_cons _ _ _ _ _ (@pe_glob _ _ (v := .ref x10) _ _ rfl W.m_NoRow rfl (by decide)) (@pa_nil _) (by rfl)) (by rfl)) (by decide) (by decide) (by rfl) (by rfl)) (@pa_cons _ _ _ _ _ (@pe_callB _ _ _ _ _ _ _ _ _ call_isX rfl T.z_isinstance bt_isinstance (@pa_cons _ _ _ _ _ (pv 0) (@pa_cons _ _ _ _ _ (@pe_glob _ _ (v := .ref x11) _ _ rfl W.m_NoWish rfl (by decide)) (@pa_nil _) (by rfl)) (by rfl)) (by decide) (by decide) (by rfl) (by rfl)) (@pa_nil _) (by rfl)) (by rfl)) (by rfl)) (by rfl)))) (by rfl) (by first | exact .inl rfl | exact .inr rfl | assumption)) (@pss_one _ _ _ (@ps_ret _ _ _ _ (@pe_and _ _ _ _ _ _ _ (@pe_callB _ _ _ _ _ _ _ _ _ call_isX rfl T.z_isinstance bt_isinstance (@pa_cons _ _ _ _ _ (pv 0) (@pa_cons _ _ _ _ _ (@pe_bltn _ _ (v := .ty "ValueError") _ _ rfl W.zV bt_ValueError rfl (by decide) (by decide)) (@pa_nil _) (by rfl)) (by rfl)) (by decide) (by decide) (by rfl) (by rfl)) (@pe_one _ _ _ _ _ (@pe_cmpR _ _ _ _ _ _ _ _ (op_eqA hr.units) (pv 2) (@pe_compH _ _ _ _ _ _ _ _ _ _ _ _ _ _ _ (@comp_ck _ _ (sc := defScope s_only) (N := ["_law_e", "_law_place", "_law_kinds"]) (tn := ["_law_k"]) (names := ["_law_place"]) (is := [1]) rfl rfl (by decide +kernel) (by decide +kernel) rfl (by decide +kernel) rfl (by decide +kernel) (by decide +kernel) (by decide +kernel)) hh (@pi_range1H _ _ _ _ _ _ _ rfl T.z_range (@pa_cons _ _ _ _ _ (@pe_int _ _ _ _) (@pa_nil _) (by rfl)) (by rfl)) (fun _ _ _ _ => (@pg_name _ _ (i := 0) _ (show (["_law_k", "_law_place"] : List Str).Nodup by decide +kernel) rfl (Or.inl rfl) (Or.inr rfl))) (fun _ _ _ _ => (@pe_cmpR _ _ _ _ _ _ _ _ (op_eqA hr.units) (pv 0) (pv 1) (nomark _))) (fun _ _ _ _ => (@pts_none _)) (by intro _; rfl)) (nomark _))))))))), ?_⟩
    walk_at "go"
    refine r_isXc hy R.x R.k0 ?_
    walk_at "go"
    refine r_isXc hy R.x R.k1 ?_
    walk_at "go"
    refine r_isXc hy R.x R.k2 ?_
    walk_at "go"
    refine r_isXc hy R.x R.k3 ?_
    walk_at "go"
    refine r_lstK fun l1 h1 => ?_
    have s1 := Same.new (o := .lst [.bl (Nat.beq 0 i), .bl (Nat.beq 1 i), .bl (Nat.beq 2 i), .bl (Nat.beq 3 i)]) h1
    have y1 := s1 _ _ hy
    walk_at "go"
    refine r_isXc y1 R.x R.k4 ?_
    walk_at "go"
    refine r_isXc y1 R.x R.k5 ?_
    walk_at "go"
    refine r_isXc y1 R.x R.k6 ?_
    walk_at "go"
    refine r_isXc y1 R.x R.k7 ?_
    walk_at "go"
    refine r_lstK fun l2 h2 => ?_
    have s2 := Same.new (o := .lst [.bl (Nat.beq 4 i), .bl (Nat.beq 5 i), .bl (Nat.beq 6 i), .bl (Nat.beq 7 i)]) h2
    refine a_lst (s2 _ _ upd_same) upd_same (Nat.le_of_ble_eq_true rfl) fun l3 h3 => ?_
    have s3 := Same.new (o := .lst ([.bl (Nat.beq 0 i), .bl (Nat.beq 1 i), .bl (Nat.beq 2 i), .bl (Nat.beq 3 i)] ++ [.bl (Nat.beq 4 i), .bl (Nat.beq 5 i), .bl (Nat.beq 6 i), .bl (Nat.beq 7 i)])) h3
    have y3 := s3 _ _ (s2 _ _ y1)
    walk_at "go"
    refine r_isXc y3 R.x R.k8 ?_
    walk_at "go"
    refine r_isXc y3 R.x R.k9 ?_
    walk_at "go"
    refine r_isXc y3 R.x R.k10 ?_
    walk_at "go"
    refine r_isXc y3 R.x R.k11 ?_
    walk_at "go"
    refine r_lstK fun l4 h4 => ?_
    have s4 := Same.new (o := .lst [.bl (Nat.beq 8 i), .bl (Nat.beq 9 i), .bl (Nat.beq 10 i), .bl (Nat.beq 11 i)]) h4
    refine a_lst (s4 _ _ upd_same) upd_same (Nat.le_of_ble_eq_true rfl) fun l5 h5 => ?_
    generalize hks : (([V.bl (Nat.beq 0 i), .bl (Nat.beq 1 i), .bl (Nat.beq 2 i), .bl (Nat.beq 3 i)] ++ [.bl (Nat.beq 4 i), .bl (Nat.beq 5 i), .bl (Nat.beq 6 i), .bl (Nat.beq 7 i)]) ++ [.bl (Nat.beq 8 i), .bl (Nat.beq 9 i), .bl (Nat.beq 10 i), .bl (Nat.beq 11 i)]) = ks
    have s5 := Same.new (o := .lst ks) h5
    have y5 := s5 _ _ (s4 _ _ y3)
    have sA := s1.trans (s2.trans (s3.trans (s4.trans s5)))
    walk_at "go"
    refine r_isXt y5 R.x R.v ?_
    walk_at "go"
    refine ⟨12, rfl, by decide, by decide, ?_⟩
    refine r_compRH (by decide) (fun acc j ys H' => Same (upd _ l5 (.lst ks)) H' ∧ ys = (List.range j).map fun m => V.bl (decide (((m : Nat) : Int) = i))) (fun acc h => ⟨Same.new h, rfl⟩) ?_ ?_ ?_
    · rintro acc j ys H1 ha hj hl hc ⟨sm, rfl⟩
      walk_at "go"
      refine c_next hj hl hc ⟨?_, ?_⟩
      · exact fun b o e => by rw [upd_ne (ne_of_none e ha)]; exact sm b o e
      · rw [List.range_succ, List.map_append]
        simp
    · rintro acc ys H1 ha ⟨sm, _⟩
      exact ⟨C, sm _ _ y5⟩
    · rintro acc ys H1 ha hc hl ⟨sm, rfl⟩
      have hk : ks = (List.range 12).map fun m => V.bl (decide (((m : Nat) : Int) = i)) := by
        rw [← hks]
        have hz : i = 0 ∨ i = 1 ∨ i = 2 ∨ i = 3 ∨ i = 4 ∨ i = 5 ∨ i = 6 ∨ i = 7 ∨ i = 8 ∨ i = 9 ∨ i = 10 ∨ i = 11 := by omega
        rcases hz with rfl | rfl | rfl | rfl | rfl | rfl | rfl | rfl | rfl | rfl | rfl | rfl <;> decide
      have hm : ((List.range 12).map fun m => V.bl (decide (((m : Nat) : Int) = i))) = ((List.range 12).map fun m => decide (((m : Nat) : Int) = i)).map V.bl := by rw [List.map_map]; rfl
      rw [show Int.toNat 12 = 12 from rfl, hm] at hc
      rw [hm] at hk
      refine e_bls _ (sm _ _ (by rw [← hk]; exact upd_same)) hc ?_
      walk_at "go"
      exact q _ (sA.trans sm)
theorem ok_part (T : Bl mg) (d : Df K mg "_law_part" s_part ["_law_state"]  ) (W : Xm mg xt x0 x1 x2 x3 x4 x5 x6 x7 x8 x9 x10 x11) (R_NoNet : Xr K xt x0 x1 x2 x3 x4 x5 x6 x7 x8 x9 x10 x11 x1 1) (o_draw : Okf P w K mg base k "_law_draw" ["_law_state", "_law_many"] spDraw) : Okf P w K mg base (k + 1) "_law_part" ["_law_state"] spLPart := by
  refine Okf.of d sc_part (fun vs H Q E h => ?_) (fun f cdv A outer s H vs Q E hr h => ?_)
  · obtain ⟨p, m, rfl, _⟩ := h
    rfl
  · obtain ⟨p, m, rfl, hs, hm, q⟩ := h
    refine ⟨_, (@pss_cons _ _ _ _ _ (@ps_set _ _ (i := 1) _ _ _ _ sc_part.nd rfl (by first | exact Or.inl rfl | exact Or.inr rfl) (@pe_str _ _ _ _) (by rfl) (by first | exact .inl rfl | exact .inr rfl | assumption)) (@pss_one _ _ _ (@ps_ret _ _ _ _ (@pe_bm _ _ _ _ _ _ _ _ _ _ _ _ PySem.F.plainAttrs_str PySem.F.slot_str_join PySem.F.type_str_join mt_join (@pe_str _ _ _ _) (@pa_cons _ _ _ _ _ (@pe_comp _ _ _ _ _ _ _ _ _ _ _ _ _ _ (@comp_ck _ _ (sc := defScope s_part) (N := ["_law_state", "_law_letters"]) (tn := ["_law_k"]) (names := ["_law_state", "_law_letters"]) (is := [0, 1]) rfl rfl (by decide +kernel) (by decide +kernel) rfl (by decide +kernel) rfl (by decide +kernel) (by decide +kernel) (by decide +kernel)) rfl (@pi_range1 _ _ _ _ _ _ rfl T.z_range (@pa_cons _ _ _ _ _ (@pe_op _ _ _ _ _ _ _ _ op_addA (@pe_int _ _ _ _) (@pe_callO _ _ _ _ _ _ _ _ _ _ o_draw hr rfl (@pa_cons _ _ _ _ _ (pv 0) (@pa_cons _ _ _ _ _ (@pe_int _ _ _ _) (@pa_nil _) (by rfl)) (by rfl)) (by decide) (by rfl) (by rfl))) (@pa_nil _) (by rfl)) (by rfl)) (fun _ _ _ _ => (@pg_name _ _ (i := 0) _ (show (["_law_k", "_law_state", "_law_letters"] : List Str).Nodup by decide +kernel) rfl (Or.inl rfl) (Or.inr rfl))) (fun _ _ _ _ => (@pe_ix _ _ _ _ _ _ _ ix_LTc (pv 2) (@pe_callO _ _ _ _ _ _ _ _ _ _ o_draw hr rfl (@pa_cons _ _ _ _ _ (pv 1) (@pa_cons _ _ _ _ _ (@pe_int _ _ _ _) (@pa_nil _) (by rfl)) (by rfl)) (by decide) (by rfl) (by rfl)) (fun _ _ => rfl))) (fun _ _ _ _ => (@pts_none _)) (by intro _; rfl)) (@pa_nil _) (by rfl)) (by rfl) (by rfl) (by rfl) (by rfl) (by rfl))))), ?_⟩
    have h26 : abc.length ≤ 100000 := by rw [abc_len]; decide
    walk_at "go"
    refine ⟨p, 8, m, rfl, hs, by omega, by decide, by decide, fun r0 H0 a0 b0 s0 k0 => ?_⟩
    walk_at "go"
    refine r_rng1K (by omega) (by omega) ?_
    refine r_compR (n := (1 + r0).toNat) (by omega) (fun acc i ys G => ∃ cs : List Nat, ys = (cs.map fun c => (⟨#[c]⟩ : Str)).map V.str ∧ (∀ c ∈ cs, 97 ≤ c ∧ c < 123) ∧ cs.length = i ∧ St3 G p (m + 1 + i) ∧ (∀ b o, b ≠ p → b ≠ acc → H0 b = some o → G b = some o)) ?_ ?_ ?_
    · intro acc hacc
      exact ⟨[], rfl, fun c hc => by simp at hc, rfl, (s0.new hacc).mono (by omega), fun b o _ _ h => upd_old hacc h⟩
    · intro acc i ys G hacc hi hyl hG ⟨cs, e, hcs, hcl, sG, kG⟩
      have hap : acc ≠ p := by
        obtain ⟨a, b, c, h1, _⟩ := id s0
        exact Ne.symm (ne_of_none h1 hacc)
      walk_at "go"
      refine ⟨p, 26, _, rfl, sG, by omega, by decide, by decide, fun r1 G1 a1 b1 s1 k1 => ?_⟩
      obtain ⟨j, rfl⟩ : ∃ j : Nat, r1 = j := ⟨r1.toNat, by omega⟩
      refine r_ixS h26 (abc_at j (by omega)) ?_
      have hG1 := k1 _ _ hap hG
      refine c_next hi hyl hG1 ⟨cs ++ [97 + j], by rw [e]; simp, fun c hc => ?_, by simp; omega, ?_, fun b o h1 h2 h => ?_⟩
      · rcases List.mem_append.mp hc with hc | hc
        · exact hcs c hc
        · rw [List.mem_singleton] at hc
          omega
      · obtain ⟨a, b, c, h1, h2, h3, h4⟩ := s1.mono (show _ ≤ m + 1 + ((i + 1 : Nat) : Int) by omega)
        exact ⟨a, b, c, by rw [upd_ne (Ne.symm hap)]; exact h1, h2, h3, h4⟩
      · rw [upd_ne h2]
        exact k1 _ _ h1 (kG _ _ h1 h2 h)
    · intro acc ys G hacc hG hyl ⟨cs, e, hcs, hcl, sG, kG⟩
      subst e
      have kp1 : Kp p H G := fun b o hb h => by
        have h1 := k0 _ _ hb h
        exact kG _ _ hb (ne_of_none h1 hacc) h1
      have hsum : (((cs.map fun c => (⟨#[c]⟩ : Str))).map (·.length)).sum = cs.length := by
        clear hG hyl hcs hcl
        induction cs with
        | nil => rfl
        | cons c r ih => rw [List.map_cons, List.map_cons, List.sum_cons, ih, List.length_cons]; show 1 + r.length = _; omega
      walk_at "go"
      refine ⟨_, acc, _, rfl, rfl, hG, ?_, ?_⟩
      · rw [hsum]
        show cs.length + _ * 0 ≤ _
        omega
      rw [show (Str.ofString "").join (cs.map fun c => (⟨#[c]⟩ : Str)) = ⟨cs.toArray⟩ from join_ones cs]
      have hzl : (⟨cs.toArray⟩ : Str).length = cs.length := by show cs.toArray.size = _; simp
      walk_at "go"
      refine q _ _ ?_ (sG.mono (by omega)) kp1
      unfold partB
      rw [hzl, decide_eq_true (show 1 ≤ cs.length by omega), decide_eq_true (show cs.length ≤ 8 by omega), Bool.and_true, Bool.true_and, List.all_eq_true]
      intro c hc
      have := hcs c (by simpa using hc)
      rw [decide_eq_true this.1, decide_eq_true this.2]
      rfl
theorem ok_name (T : Bl mg) (d : Df K mg "_law_name" s_name ["_law_state"]  ) (W : Xm mg xt x0 x1 x2 x3 x4 x5 x6 x7 x8 x9 x10 x11) (R_NoNet : Xr K xt x0 x1 x2 x3 x4 x5 x6 x7 x8 x9 x10 x11 x1 1) (o_draw : Okf P w K mg base k "_law_draw" ["_law_state", "_law_many"] spDraw) (o_part : Okf P w K mg base k "_law_part" ["_law_state"] spLPart) : Okf P w K mg base (k + 1) "_law_name" ["_law_state"] spLName := by
  refine Okf.of d sc_name (fun vs H Q E h => ?_) (fun f cdv A outer s H vs Q E hr h => ?_)
  · obtain ⟨p, m, rfl, _⟩ := h
    rfl
  · obtain ⟨p, m, rfl, hs, hm, q⟩ := h
    refine ⟨_, (@pss_one _ _ _ (@ps_ret _ _ _ _ (@pe_bm _ _ _ _ _ _ _ _ _ _ _ _ PySem.F.plainAttrs_str PySem.F.slot_str_join PySem.F.type_str_join mt_join (@pe_str _ _ _ _) (@pa_cons _ _ _ _ _ (@pe_comp _ _ _ _ _ _ _ _ _ _ _ _ _ _ (@comp_ck _ _ (sc := defScope s_name) (N := ["_law_state"]) (tn := ["_law_k"]) (names := ["_law_state"]) (is := [0]) rfl rfl (by decide +kernel) (by decide +kernel) rfl (by decide +kernel) rfl (by decide +kernel) (by decide +kernel) (by decide +kernel)) rfl (@pi_range1 _ _ _ _ _ _ rfl T.z_range (@pa_cons _ _ _ _ _ (@pe_op _ _ _ _ _ _ _ _ op_addA (@pe_int _ _ _ _) (@pe_callO _ _ _ _ _ _ _ _ _ _ o_draw hr rfl (@pa_cons _ _ _ _ _ (pv 0) (@pa_cons _ _ _ _ _ (@pe_int _ _ _ _) (@pa_nil _) (by rfl)) (by rfl)) (by decide) (by rfl) (by rfl))) (@pa_nil _) (by rfl)) (by rfl)) (fun _ _ _ _ => (@pg_name _ _ (i := 0) _ (show (["_law_k", "_law_state"] : List Str).Nodup by decide +kernel) rfl (Or.inl rfl) (Or.inr rfl))) (fun _ _ _ _ => (@pe_callO _ _ _ _ _ _ _ _ _ _ o_part hr rfl (@pa_cons _ _ _ _ _ (pv 1) (@pa_nil _) (by rfl)) (by decide) (by rfl) (by rfl))) (fun _ _ _ _ => (@pts_none _)) (by intro _; rfl)) (@pa_nil _) (by rfl)) (by rfl) (by rfl) (by rfl) (by rfl) (by rfl)))), ?_⟩
    walk_at "go"
    refine ⟨p, 4, m, rfl, hs, by omega, by decide, by decide, fun r0 H0 a0 b0 s0 k0 => ?_⟩
    walk_at "go"
    refine r_rng1K (by omega) (by omega) ?_
    refine r_compR (n := (1 + r0).toNat) (by omega) (fun acc i ys G => ∃ cs : List Str, ys = cs.map V.str ∧ (∀ c ∈ cs, partB c = true) ∧ cs.length = i ∧ St3 G p (m + 1 + 10 * i) ∧ (∀ b o, b ≠ p → b ≠ acc → H0 b = some o → G b = some o)) ?_ ?_ ?_
    · intro acc hacc
      exact ⟨[], rfl, fun c hc => by simp at hc, rfl, (s0.new hacc).mono (by omega), fun b o _ _ h => upd_old hacc h⟩
    · intro acc i ys G hacc hi hyl hG ⟨cs, e, hcs, hcl, sG, kG⟩
      have hap : acc ≠ p := by
        obtain ⟨a, b, c, h1, _⟩ := id s0
        exact Ne.symm (ne_of_none h1 hacc)
      walk_at "go"
      refine ⟨p, _, rfl, sG, by omega, fun z G1 hz s1 k1 => ?_⟩
      have hG1 := k1 _ _ hap hG
      refine c_next hi hyl hG1 ⟨cs ++ [z], by rw [e]; simp, fun c hc => ?_, by simp; omega, ?_, fun b o h1 h2 h => ?_⟩
      · rcases List.mem_append.mp hc with hc | hc
        · exact hcs c hc
        · rw [List.mem_singleton] at hc
          rw [hc]
          exact hz
      · obtain ⟨a, b, c, h1, h2, h3, h4⟩ := s1.mono (show _ ≤ m + 1 + 10 * ((i + 1 : Nat) : Int) by omega)
        exact ⟨a, b, c, by rw [upd_ne (Ne.symm hap)]; exact h1, h2, h3, h4⟩
      · rw [upd_ne h2]
        exact k1 _ _ h1 (kG _ _ h1 h2 h)
    · intro acc ys G hacc hG hyl ⟨cs, e, hcs, hcl, sG, kG⟩
      subst e
      have kp1 : Kp p H G := fun b o hb h => by
        have h1 := k0 _ _ hb h
        exact kG _ _ hb (ne_of_none h1 hacc) h1
      have hlen : ∀ c ∈ cs, c.length ≤ 8 := fun c hc => (part_facts (hcs c hc)).2.1
      have hsum := sum_le hlen
      have ep : ("." : Str) = ⟨#[46]⟩ := by decide +kernel
      walk_at "go"
      rw [ep]
      refine ⟨_, acc, _, rfl, rfl, hG, ?_, ?_⟩
      · show _ + cs.length * 1 ≤ _
        omega
      walk_at "go"
      cases cs with
      | nil => exact absurd hcl (by show ¬ 0 = _; omega)
      | cons x r =>
        rw [List.length_cons] at hcl hsum
        refine q _ _ ?_ ?_ (sG.mono (by omega)) kp1
        · show pst _ 1 0 = true
          rw [pst_join r x 1 fun c hc => (part_facts (hcs c hc)).2.2, decide_eq_true (show 1 + r.length ≤ 4 by omega), Bool.true_and, List.all_eq_true]
          exact hcs
        · have e2 := PyProof.Rows.len_join_cons ⟨#[46]⟩ x r
          have e3 : (⟨#[46]⟩ : Str).length = 1 := rfl
          rw [e3] at e2
          omega
set_option maxHeartbeats 0 in
theorem ok_runs (T : Bl mg) (d : Df K mg "_law_runs" s_runs ["_law_state", "_law_script"]  ) (W : Xm mg xt x0 x1 x2 x3 x4 x5 x6 x7 x8 x9 x10 x11) (R_NoNet : Xr K xt x0 x1 x2 x3 x4 x5 x6 x7 x8 x9 x10 x11 x1 1) (o_draw : Okf P w K mg base k "_law_draw" ["_law_state", "_law_many"] spDraw) (o_low : Okf P w K mg base k "_law_low" ["_law_top", "_law_bottom"] spLow) (o_cell_at : Okf P w K mg base k "_law_cell_at" ["_law_script", "_law_k"] (spCell K)) (o_name : Okf P w K mg base k "_law_name" ["_law_state"] spLName) : Okf P w K mg base (k + 1) "_law_runs" ["_law_state", "_law_script"] (spRuns6 w K) := by
  refine Okf.of d sc_runs (fun vs H Q E h => ?_) (fun f cdv A outer s H vs Q E hr h => ?_)
  · obtain ⟨p, m, a, ns, H0, rfl, _⟩ := h
    rfl
  · obtain ⟨p, m, a, ns, H0, rfl, hs, hm, s00, hp0, hS, q⟩ := h
    refine ⟨_, (@pss_cons _ _ _ _ _ (@ps_setC _ _ _ _ _ _ _ _ _ _ _ _ _ _ (i := 2) _ _ _ sc_runs.nd rfl (by first | exact Or.inl rfl | exact Or.inr rfl) (@comp_ck _ _ (sc := defScope s_runs) (N := ["_law_state", "_law_script", "_law_names", "_law_runs_here", "_law_many", "_law_k", "_law_at", "_law_other", "_law_time"]) (tn := ["_law_k"]) (names := ["_law_state"]) (is := [0]) rfl rfl (by decide +kernel) (by decide +kernel) rfl (by decide +kernel) rfl (by decide +kernel) (by decide +kernel) (by decide +kernel)) rfl (@pi_range1 _ _ _ _ _ _ rfl T.z_range (@pa_cons _ _ _ _ _ (@pe_op _ _ _ _ _ _ _ _ op_addA (@pe_int _ _ _ _) (@pe_callO _ _ _ _ _ _ _ _ _ _ o_draw hr rfl (@pa_cons _ _ _ _ _ (pv 0) (@pa_cons _ _ _ _ _ (@pe_int _ _ _ _) (@pa_nil _) (by rfl)) (by rfl)) (by decide) (by rfl) (by rfl))) (@pa_nil _) (by rfl)) (by rfl)) (fun _ _ _ _ => (@pg_name _ _ (i := 0) _ (show (["_law_k", "_law_state"] : List Str).Nodup by decide +kernel) rfl (Or.inl rfl) (Or.inr rfl))) (fun _ _ _ _ => (@pe_op _ _ _ _ _ _ _ _ op_addAc (@pe_callO _ _ _ _ _ _ _ _ _ _ o_name hr rfl (@pa_cons _ _ _ _ _ (pv 1) (@pa_nil _) (by rfl)) (by decide) (by rfl) (by rfl)) (@pe_slice _ _ _ _ _ _ _ _ _ _ sl_str (@pe_str _ _ _ _) (@po_some _ _ _ (@pe_op _ _ _ _ _ _ _ _ op_mod (pv 0) (@pe_int _ _ _ _))) (@po_none _)))) (fun _ _ _ _ => (@pts_none _)) (by intro _; rfl) (by rfl) (by first | exact .inl rfl | exact .inr rfl | assumption)) (@pss_cons _ _ _ _ _ (@ps_set _ _ (i := 2) _ _ _ _ sc_runs.nd rfl (by first | exact Or.inl rfl | exact Or.inr rfl) (@pe_callB _ _ _ _ _ _ _ _ _ (call_sortS rfl) rfl T.z_sorted bt_sorted (@pa_cons _ _ _ _ _ (@pe_callTy _ _ _ _ _ _ _ _ _ (call_setS rfl) rfl T.z_set bt_set (@pa_cons _ _ _ _ _ (@pe_op _ _ _ _ _ _ _ _ op_addA (@pe_comp _ _ _ _ _ _ _ _ _ _ _ _ _ _ (@comp_ck _ _ (sc := defScope s_runs) (N := ["_law_state", "_law_script", "_law_names", "_law_runs_here", "_law_many", "_law_k", "_law_at", "_law_other", "_law_time"]) (tn := ["_law_name_here"]) (names := []) (is := []) rfl rfl (by decide +kernel) (by decide +kernel) rfl (by decide +kernel) rfl (by decide +kernel) (by decide +kernel) (by decide +kernel)) rfl (@pi_list _ _ _ _ (pv 2)) (fun _ _ _ _ => (@pg_name _ _ (i := 0) _ (show (["_law_name_here"] : List Str).Nodup by decide +kernel) rfl (Or.inl rfl) (Or.inr rfl))) (fun _ _ _ _ => (@pe_slice _ _ _ _ _ _ _ _ _ _ sl_str (pv 0) (@po_none _) (@po_some _ _ _ (@pe_int _ _ _ _)))) (fun _ _ _ _ => (@pts_none _)) (by intro _; rfl)) (@pe_lst _ _ _ _ (@pa_cons _ _ _ _ _ (@pe_str _ _ _ _) (@pa_cons _ _ _ _ _ (@pe_str _ _ _ _) (@pa_cons _ _ _ _ _ (@pe_str _ _ _ _) (@pa_nil _) (by rfl)) (by rfl)) (by rfl)))) (@pa_nil _) (by rfl)) (by decide) (by decide) (by rfl) (by rfl)) (@pa_nil _) (by rfl)) (by decide) (by decide) (by rfl) (by rfl)) (by rfl) (by first | exact .inl rfl | exact .inr rfl | assumption)) (@pss_cons _ _ _ _ _ (@ps_setC _ _ _ _ _ _ _ _ _ _ _ _ _ _ (i := 2) _ _ _ sc_runs.nd rfl (by first | exact Or.inl rfl | exact Or.inr rfl) (@comp_ck _ _ (sc := defScope s_runs) (N := ["_law_state", "_law_script", "_law_names", "_law_runs_here", "_law_many", "_law_k", "_law_at", "_law_other", "_law_time"]) (tn := ["_law_name_here"]) (names := []) (is := []) rfl rfl (by decide +kernel) (by decide +kernel) rfl (by decide +kernel) rfl (by decide +kernel) (by decide +kernel) (by decide +kernel)) rfl (@pi_list _ _ _ _ (pv 2)) (fun _ _ _ _ => (@pg_name _ _ (i := 0) _ (show (["_law_name_here"] : List Str).Nodup by decide +kernel) rfl (Or.inl rfl) (Or.inr rfl))) (fun _ _ _ _ => (pv 0)) (fun _ _ _ _ => (@pts_one _ _ _ (@pt_not _ _ _ _ (@pt_val _ _ _ (@pe_bmc _ _ _ _ _ _ _ _ _ _ _ _ _ _ _ _ _ _ _ PySem.F.plainAttrs_str PySem.F.slot_str_endswith PySem.F.type_str_endswith mt_endP (pv 0) (@pa_cons _ _ _ _ _ (@pe_str _ _ _ _) (@pa_nil _) (by rfl)) (by rfl) (by rfl) (by rfl) (by rfl) (by rfl)) (by intro _; rfl))))) (by intro _; rfl) (by rfl) (by first | exact .inl rfl | exact .inr rfl | assumption)) (@pss_cons _ _ _ _ _ (@ps_set _ _ (i := 3) _ _ _ _ sc_runs.nd rfl (by first | exact Or.inl rfl | exact Or.inr rfl) (@pe_lst _ _ _ _ (@pa_nil _)) (by rfl) (by first | exact .inl rfl | exact .inr rfl | assumption)) (@pss_cons _ _ _ _ _ (@ps_set _ _ (i := 4) _ _ _ _ sc_runs.nd rfl (by first | exact Or.inl rfl | exact Or.inr rfl) (@pe_op _ _ _ _ _ _ _ _ op_addA (@pe_int _ _ _ _) (@pe_callO _ _ _ _ _ _ _ _ _ _ o_draw hr rfl (@pa_cons _ _ _ _ _ (pv 0) (@pa_cons _ _ _ _ _ (@pe_int _ _ _ _) (@pa_nil _) (by rfl)) (by rfl)) (by decide) (by rfl) (by rfl))) (by rfl) (by first | exact .inl rfl | exact .inr rfl | assumption)) (@pss_cons _ _ _ _ _ (@ps_if _ _ _ _ _ _ _ _ (@pt_cmpR _ _ _ _ _ _ _ _ (op_eqA hr.units) (@pe_op _ _ _ _ _ _ _ _ op_mod (@pe_callO _ _ _ _ _ _ _ _ _ _ o_cell_at hr rfl (@pa_cons _ _ _ _ _ (pv 1) (@pa_cons _ _ _ _ _ (@pe_int _ _ _ _) (@pa_nil _) (by rfl)) (by rfl)) (by decide) (by rfl) (by rfl)) (@pe_int _ _ _ _)) (@pe_int _ _ _ _) (nomark _)) (@pss_one _ _ _ (@ps_set _ _ (i := 4) _ _ _ _ sc_runs.nd rfl (by first | exact Or.inl rfl | exact Or.inr rfl) (@pe_op _ _ _ _ _ _ _ _ op_addA (@pe_int _ _ _ _) (@pe_op _ _ _ _ _ _ _ _ op_mod (@pe_op _ _ _ _ _ _ _ _ op_fdivB (@pe_callO _ _ _ _ _ _ _ _ _ _ o_cell_at hr rfl (@pa_cons _ _ _ _ _ (pv 1) (@pa_cons _ _ _ _ _ (@pe_int _ _ _ _) (@pa_nil _) (by rfl)) (by rfl)) (by decide) (by rfl) (by rfl)) (@pe_int _ _ _ _)) (@pe_int _ _ _ _))) (by rfl) (by first | exact .inl rfl | exact .inr rfl | assumption))) (@pss_nil _)) (@pss_cons _ _ _ _ _ (@ps_for _ _ _ _ _ _ _ _ PassesOwn.never rfl (@pi_range1 _ _ _ _ _ _ rfl T.z_range (@pa_cons _ _ _ _ _ (pv 4) (@pa_nil _) (by rfl)) (by rfl)) (@pg_name _ _ (i := 5) _ sc_runs.nd rfl (by first | exact Or.inl rfl | exact Or.inr rfl) (by first | exact .inl rfl | exact .inr rfl | assumption)) (@pss_cons _ _ _ _ _ (@ps_set _ _ (i := 6) _ _ _ _ sc_runs.nd rfl (by first | exact Or.inl rfl | exact Or.inr rfl) (@pe_callO _ _ _ _ _ _ _ _ _ _ o_draw hr rfl (@pa_cons _ _ _ _ _ (pv 0) (@pa_cons _ _ _ _ _ (@pe_callB _ _ _ _ _ _ _ _ _ c_len rfl T.z_len bt_len (@pa_cons _ _ _ _ _ (pv 2) (@pa_nil _) (by rfl)) (by decide) (by decide) (by rfl) (by rfl)) (@pa_nil _) (by rfl)) (by rfl)) (by decide) (by rfl) (by rfl)) (by rfl) (by first | exact .inl rfl | exact .inr rfl | assumption)) (@pss_cons _ _ _ _ _ (@ps_set _ _ (i := 7) _ _ _ _ sc_runs.nd rfl (by first | exact Or.inl rfl | exact Or.inr rfl) (@pe_op _ _ _ _ _ _ _ _ op_mod (@pe_op _ _ _ _ _ _ _ _ op_addA (@pe_op _ _ _ _ _ _ _ _ op_addA (pv 6) (@pe_int _ _ _ _)) (@pe_callO _ _ _ _ _ _ _ _ _ _ o_draw hr rfl (@pa_cons _ _ _ _ _ (pv 0) (@pa_cons _ _ _ _ _ (@pe_op _ _ _ _ _ _ _ _ op_sub (@pe_callB _ _ _ _ _ _ _ _ _ c_len rfl T.z_len bt_len (@pa_cons _ _ _ _ _ (pv 2) (@pa_nil _) (by rfl)) (by decide) (by decide) (by rfl) (by rfl)) (@pe_int _ _ _ _)) (@pa_nil _) (by rfl)) (by rfl)) (by decide) (by rfl) (by rfl))) (@pe_callB _ _ _ _ _ _ _ _ _ c_len rfl T.z_len bt_len (@pa_cons _ _ _ _ _ (pv 2) (@pa_nil _) (by rfl)) (by decide) (by decide) (by rfl) (by rfl))) (by rfl) (by first | exact .inl rfl | exact .inr rfl | assumption)) (@pss_cons _ _ _ _ _ (@ps_set _ _ (i := 8) _ _ _ _ sc_runs.nd rfl (by first | exact Or.inl rfl | exact Or.inr rfl) (@pe_callO _ _ _ _ _ _ _ _ _ _ o_low hr rfl (@pa_cons _ _ _ _ _ (@pe_op _ _ _ _ _ _ _ _ op_addA (@pe_int _ _ _ _) (@pe_callO _ _ _ _ _ _ _ _ _ _ o_draw hr rfl (@pa_cons _ _ _ _ _ (pv 0) (@pa_cons _ _ _ _ _ (@pe_int _ _ _ _) (@pa_nil _) (by rfl)) (by rfl)) (by decide) (by rfl) (by rfl))) (@pa_cons _ _ _ _ _ (@pe_op _ _ _ _ _ _ _ _ op_addA (@pe_int _ _ _ _) (@pe_callO _ _ _ _ _ _ _ _ _ _ o_draw hr rfl (@pa_cons _ _ _ _ _ (pv 0) (@pa_cons _ _ _ _ _ (@pe_int _ _ _ _) (@pa_nil _) (by rfl)) (by rfl)) (by decide) (by rfl) (by rfl))) (@pa_nil _) (by rfl)) (by rfl)) (by decide) (by rfl) (by rfl)) (by rfl) (by first | exact .inl rfl | exact .inr rfl | assumption)) (@pss_one _ _ _ (@ps_expr _ _ _ _ (@pe_bm _ _ _ _ _ _ _ _ _ _ _ _ PySem.F.plainAttrs_list PySem.F.slot_list_append PySem.F.type_list_append mt_append (pv 3) (@pa_cons _ _ _ _ _ (@pe_tup _ _ _ _ _ (@pa_cons _ _ _ _ _ (@pe_ix _ _ _ _ _ _ _ ix_LT (pv 2) (pv 6) (fun _ _ => rfl)) (@pa_cons _ _ _ _ _ (@pe_ix _ _ _ _ _ _ _ ix_LT (pv 2) (pv 7) (fun _ _ => rfl)) (@pa_cons _ _ _ _ _ (pv 8) (@pa_nil _) (by rfl)) (by rfl)) (by rfl))) (@pa_nil _) (by rfl)) (by rfl) (by rfl) (by rfl) (by rfl) (by rfl)) (by rfl)))))) (by intro _; rfl)) (@pss_one _ _ _ (@ps_ret _ _ _ _ (pv 3)))))))))), ?_⟩
    walk_at "go"
    refine ⟨p, 3, m, rfl, hs, by omega, by decide, by decide, fun r0 H1 x1 x2 s1 k1 => ?_⟩
    walk_at "go"
    refine r_rng1K (by omega) (by omega) ?_
    refine r_compR (n := (2 + r0).toNat) (by omega) (fun acc i ys G => ∃ cs : List Str, ys = cs.map V.str ∧ (∀ c ∈ cs, c.length ≤ 50 ∧ ∃ z y : Str, c = z ++ y ∧ postB z = true ∧ ∀ d ∈ y.cps.toList, 97 ≤ d ∧ d < 123) ∧ cs.length = i ∧ St3 G p (m + 1 + 50 * i) ∧ (∀ b o, b ≠ p → b ≠ acc → H1 b = some o → G b = some o)) ?_ ?_ ?_
    · intro acc hacc
      exact ⟨[], rfl, fun c hc => by simp at hc, rfl, (s1.new hacc).mono (by omega), fun b o _ _ h => upd_old hacc h⟩
    · intro acc i ys G hacc hi hyl hG ⟨cs, e, hcs, hcl, sG, kG⟩
      have hap : acc ≠ p := by
        obtain ⟨a, b, c, h1, _⟩ := id s1
        exact Ne.symm (ne_of_none h1 hacc)
      walk_at "go"
      refine ⟨p, _, rfl, sG, by omega, fun z G1 pz lz s2 k2 => ?_⟩
      have hG1 := k2 _ _ hap hG
      walk_at "go"
      refine r_slSm (by decide +kernel) fun y ly hy => ?_
      have ly2 : ("xy" : Str).length = 2 := by decide +kernel
      have hyl2 : ∀ d ∈ y.cps.toList, 97 ≤ d ∧ d < 123 := fun d hd => by
        have h1 := hy d hd
        have e1 : ("xy" : Str).cps.toList = [120, 121] := by decide +kernel
        rw [e1] at h1
        simp only [List.mem_cons, List.not_mem_nil, or_false] at h1
        omega
      walk_at "go"
      refine r_addS (by omega) ?_
      refine c_next hi hyl hG1 ⟨cs ++ [z ++ y], by rw [e]; simp, fun c hc => ?_, by simp; omega, ?_, fun b o h1 h2 h => ?_⟩
      · rcases List.mem_append.mp hc with hc | hc
        · exact hcs c hc
        · rw [List.mem_singleton] at hc
          rw [hc]
          exact ⟨by rw [len_plus]; omega, z, y, rfl, pz, hyl2⟩
      · obtain ⟨a, b, c, h1, h2, h3, h4⟩ := s2.mono (show _ ≤ m + 1 + 50 * ((i + 1 : Nat) : Int) by omega)
        exact ⟨a, b, c, by rw [upd_ne (Ne.symm hap)]; exact h1, h2, h3, h4⟩
      · rw [upd_ne h2]
        exact k2 _ _ h1 (kG _ _ h1 h2 h)
    · intro a1 ys G hacc hG hyl ⟨cs, e, hcs, hcl, sG, kG⟩
      subst e
      have kp1 : Kp p H G := fun b o hb h => by
        have h1 := k1 _ _ hb h
        exact kG _ _ hb (ne_of_none h1 hacc) h1
      replace sG := sG.mono (show _ ≤ m + 300 by omega)
      have hcs5 : cs.length ≤ 5 := by omega
      clear kG k1 s1
      walk_at "go"
      refine r_listK (SqL.of hG) ?_
      refine r_compL (xs := cs.map V.str) (by rw [List.length_map]; omega) (fun acc i ys G2 => Kp acc G G2 ∧ ys = (cs.take i).map fun c => V.str (Txt.slice c none (some 8))) (fun acc h0 => ⟨Kp.new h0, rfl⟩) ?_ ?_ ?_
      · intro acc i ys G2 h0 _ ⟨kp, _⟩
        exact SqL.of (kp _ _ (ne_of_none hG h0) hG)
      · intro acc i ys G2 x h0 hx hyl hG2 ⟨kp, e⟩
        rw [List.getElem?_map] at hx
        cases hy : cs[i]? with
        | none => rw [hy] at hx; cases hx
        | some y =>
          rw [hy] at hx
          cases (Option.some.inj hx : V.str y = x)
          have hy5 := (hcs y (List.mem_of_getElem? hy)).1
          walk_at "go"
          refine r_slSe (by omega) ?_
          walk_at "go"
          have hi : i < cs.length := (List.getElem?_eq_some_iff.mp hy).1
          refine c_next (by rw [List.length_map]; exact hi) hyl hG2 ⟨Kp.trans kp Kp.upd, ?_⟩
          have e2 : cs[i] = y := by
            rw [List.getElem?_eq_getElem hi] at hy
            exact Option.some.inj hy
          rw [List.take_succ_eq_append_getElem hi, List.map_append, ← e, e2]
          rfl
      · intro a2 ys G2 h2 hG2 hyl2 ⟨kp2, e2⟩
        rw [List.length_map, List.take_length] at e2
        subst e2
        walk_at "go"
        refine r_lstK fun a3 h3 => ?_
        walk_at "go"
        refine a_lst (upd_old h3 hG2) upd_same (by rw [List.length_map]; show _ + 3 ≤ 1000; omega) fun a4 h4 => ?_
        have e5 : (cs.map fun c => V.str (Txt.slice c none (some 8))) ++ [V.str (Str.ofString "a"), V.str (Str.ofString "b"), V.str (Str.ofString "c.d")] = ((cs.map fun c => Txt.slice c none (some 8)) ++ [(Str.ofString "a"), (Str.ofString "b"), (Str.ofString "c.d")]).map V.str := by
          rw [List.map_append, List.map_map]
          rfl
        rw [e5]
        generalize hW : (cs.map fun c => Txt.slice c none (some 8)) ++ [(Str.ofString "a"), (Str.ofString "b"), (Str.ofString "c.d")] = W
        have hWl : W.length ≤ 8 := by rw [← hW, List.length_append, List.length_map]; show _ + 3 ≤ _; omega
        walk_at "go"
        refine ⟨a4, W, rfl, upd_same, by omega, fun a5 zs h5 nd hz => ?_⟩
        have hzl : zs.length ≤ 8 := Nat.le_trans (nd_len nd fun x hx => (hz x).mp hx) hWl
        walk_at "go"
        refine ⟨a5, zs, rfl, .inl upd_same, by omega, fun a6 us h6 hpm hsr => ?_⟩
        have ndu : us.Nodup := hpm.nodup_iff.mpr nd
        have hul : us.length ≤ 8 := by rw [hpm.length_eq]; exact hzl
        have hum : ∀ x, x ∈ us ↔ x ∈ W := fun x => (hpm.mem_iff).trans (hz x)
        have S6 : Same G (upd (upd (upd (upd G2 a3 (.lst [V.str (Str.ofString "a"), V.str (Str.ofString "b"), V.str (Str.ofString "c.d")])) a4 (.lst (W.map V.str))) a5 (SetS w a5 zs)) a6 (.lst (us.map V.str))) := fun b o hb => upd_old h6 (upd_old h5 (upd_old h4 (upd_old h3 (kp2 _ _ (ne_of_none hb h2) hb))))
        have hG6 := upd_same (H := upd (upd (upd G2 a3 (.lst [V.str (Str.ofString "a"), V.str (Str.ofString "b"), V.str (Str.ofString "c.d")])) a4 (.lst (W.map V.str))) a5 (SetS w a5 zs)) (a := a6) (o := .lst (us.map V.str))
        walk_at "go"
        refine (fun (main : ∀ G6 : Hp, Same G G6 → G6 a6 = some (.lst (us.map V.str)) → listK _ _ (.ref a6) G6) => main _ S6 hG6) ?_
        clear S6 hG6 h6 hz nd hpm hsr h5 h4 h3 e5 kp2 hG2 h2
        intro G6 S6 hG6
        refine r_listK (SqL.of hG6) ?_
        have ep : ("." : Str) = ⟨#[46]⟩ := by decide +kernel
        refine r_compLT (xs := us.map V.str) (by rw [List.length_map]; omega) (fun acc i ys G7 => Kp acc G6 G7 ∧ ys = ((us.take i).filter fun u => !decide (u.cps.toList.getLast? = some 46)).map V.str) (fun acc h0 => ⟨Kp.new h0, rfl⟩) ?_ ?_ ?_
        · intro acc i ys G7 h0 _ ⟨kp, _⟩
          exact SqL.of (kp _ _ (ne_of_none hG6 h0) hG6)
        · intro acc i ys G7 x h0 hx hyl hG7 ⟨kp, e⟩
          rw [List.getElem?_map] at hx
          cases hy : us[i]? with
          | none => rw [hy] at hx; cases hx
          | some y =>
            rw [hy] at hx
            cases (Option.some.inj hx : V.str y = x)
            have hi : i < us.length := (List.getElem?_eq_some_iff.mp hy).1
            have e2 : us[i] = y := (List.getElem?_eq_some_iff.mp hy).2
            walk_at "go"
            rw [ep]
            refine ⟨y, rfl, rfl, ?_⟩
            walk_at "go"
            refine i_d (fun c => ?_) (fun c => ?_)
            · refine f_skip (by rw [List.length_map]; exact hi) hyl hG7 ⟨kp, ?_⟩
              rw [List.take_succ_eq_append_getElem hi, List.filter_append, List.map_append, ← e, e2, List.filter_cons, decide_eq_true c]
              simp
            · walk_at "go"
              refine f_next (by rw [List.length_map]; exact hi) hyl hG7 ⟨Kp.trans kp Kp.upd, ?_⟩
              rw [List.take_succ_eq_append_getElem hi, List.filter_append, List.map_append, ← e, e2, List.filter_cons, decide_eq_false c]
              simp
        · intro a7 ys G7 h7 hG7 hyl7 ⟨kp7, e7⟩
          rw [List.length_map, List.take_length] at e7
          subst e7
          have hNm : ∀ u ∈ us.filter fun u => !decide (u.cps.toList.getLast? = some 46), PostS u := fun u hu => by
            obtain ⟨h1, h2⟩ := List.mem_filter.mp hu
            have h3 : u.cps.toList.getLast? ≠ some 46 := by simpa using h2
            have h4 := (hum u).mp h1
            rw [← hW] at h4
            rcases List.mem_append.mp h4 with h4 | h4
            · obtain ⟨c, hc, rfl⟩ := List.mem_map.mp h4
              obtain ⟨_, z, y, rfl, pz, ly⟩ := hcs c hc
              have := slice8_post pz ly h3
              exact ⟨this.1, by omega⟩
            · simp only [List.mem_cons, List.not_mem_nil, or_false] at h4
              rcases h4 with rfl | rfl | rfl
              · exact ⟨by decide +kernel, by decide +kernel⟩
              · exact ⟨by decide +kernel, by decide +kernel⟩
              · exact ⟨by decide +kernel, by decide +kernel⟩
          have hNd : (us.filter fun u => !decide (u.cps.toList.getLast? = some 46)).Nodup := ndu.filter _
          have hNl : (us.filter fun u => !decide (u.cps.toList.getLast? = some 46)).length ≤ 8 := Nat.le_trans (List.length_filter_le _ _) hul
          have hN2 : 2 ≤ (us.filter fun u => !decide (u.cps.toList.getLast? = some 46)).length := by
            have : ([(Str.ofString "a"), (Str.ofString "b")] : List Str).length ≤ _ := nd_len (l := [(Str.ofString "a"), (Str.ofString "b")]) (m := us.filter fun u => !decide (u.cps.toList.getLast? = some 46)) (by decide +kernel) fun x hx => by
              simp only [List.mem_cons, List.not_mem_nil, or_false] at hx
              rcases hx with rfl | rfl
              · exact List.mem_filter.mpr ⟨(hum _).mpr (by rw [← hW]; exact List.mem_append_right _ (by simp)), by decide +kernel⟩
              · exact List.mem_filter.mpr ⟨(hum _).mpr (by rw [← hW]; exact List.mem_append_right _ (by simp)), by decide +kernel⟩
            exact this
          generalize (us.filter fun u => !decide (u.cps.toList.getLast? = some 46)) = N at hNm hNd hNl hN2 hG7 ⊢
          have hNlp : a7 ≠ p := (sG.sm S6).nn h7
          have kp7' : Kp p H G7 := kp1.trans (S6.trans (kp7.sm (Same.refl _) h7)).kp
          have sG7 := sG.sm (S6.trans (kp7.sm (Same.refl _) h7))
          clear hcs hW hum hul ndu hyl7 kp7 h7 hG6 S6 kp1 sG hG
          walk_at "go"
          refine r_lstK fun lr hlr => ?_
          have klr : Kp p H (upd G7 lr (.lst [])) := kp7'.trans (Kp.new hlr)
          have hlp : lr ≠ p := sG7.nn hlr
          have hHlr : H lr = none := by
            cases hz : H lr with
            | none => rfl
            | some o => rw [kp7' _ _ hlp hz] at hlr; cases hlr
          walk_at "go"
          refine ⟨p, 40, _, rfl, sG7.new hlr, by omega, by decide, by decide, fun r1' G8 y1 y2 s8 k8 => ?_⟩
          have hN8 := k8 _ _ hNlp (upd_old hlr hG7)
          have hlr8 := k8 _ _ hlp upd_same
          have kp8 := klr.trans k8
          walk_at "gos"
          refine r_nx ?_
          refine r_seq ?_
          refine r_cut (fun σ F => ∃ many : Int, 1 ≤ many ∧ many ≤ 122 ∧ σ = [some (.ref p), some (.ref a), some (.ref a7), some (.ref lr), some (.int many), none, none, none, none] ∧ F = G8) ?_ ?_
          rotate_left
          · intro NX hNX
            walk_at "go"
            refine ⟨a, ns, 1, rfl, (kp8.sm s00 hp0).seq hS, by decide, fun c1 => ?_⟩
            walk_at "go"
            refine i_d (fun c6 => ?_) (fun c6 => ?_)
            · walk_at "go"
              refine ⟨a, ns, 1, rfl, (kp8.sm s00 hp0).seq hS, by decide, fun c2 => ?_⟩
              walk_at "go"
              have q4 : 0 ≤ c2.fdiv 6 % 4 ∧ c2.fdiv 6 % 4 < 4 := by omega
              exact hNX _ _ ⟨_, by omega, by omega, rfl, rfl⟩
            · walk_at "go"
              exact hNX _ _ ⟨_, by omega, by omega, rfl, rfl⟩
          rintro σ F ⟨many, hmany1, hmany2, rfl, rfl⟩
          walk_at "go"
          refine r_rng1K (by omega) (by omega) ?_
          refine r_forRp (n := Int.toNat (many)) (fun i σ F => ∃ o5 o6 o7 o8, σ = [some (.ref p), some (.ref a), some (.ref a7), some (.ref lr), some (.int (many)), o5, o6, o7, o8] ∧ ∃ n : List TRun, n.length = i ∧ LQ RunQ F lr (kn n) ∧ (∀ r ∈ n, runT r ∧ r.1 ∈ N ∧ r.2.1 ∈ N) ∧ St3 F p (m + 310 + 4 * i) ∧ Kp p H F ∧ F a7 = some (.lst (N.map V.str))) ?_ ?_ ?_
          · exact ⟨_, _, _, _, rfl, [], rfl, ⟨[], hlr8, .nil⟩, fun r hr => by simp at hr, s8.mono (by omega), kp8, hN8⟩
          · rintro P' rt bk hP i σ F hi ⟨o5, o6, o7, o8, rfl, n, hnl, ⟨vn, hvn, pvn⟩, hrn, sF, kF, hNF⟩
            have hi' : (i : Int) < 122 := by omega
            walk_at "go"
            rw [List.length_map]
            refine ⟨p, N.length, _, rfl, sF, by omega, by omega, by omega, fun r1 F1 a1 b1 s1 k1 => ?_⟩
            have hN1 := k1 _ _ hNlp hNF
            walk_at "go"
            rw [List.length_map]
            refine ⟨p, (N.length : Int) - 1, _, rfl, s1, by omega, by omega, by omega, fun r2 F2 a2 b2 s2 k2 => ?_⟩
            have hN2' := k2 _ _ hNlp hN1
            walk_at "go"
            rw [List.length_map]
            have hm0 : (0 : Int) < (N.length : Int) := by omega
            have c1' := Int.emod_nonneg (r1 + 1 + r2) (show (N.length : Int) ≠ 0 by omega)
            have c2' := Int.emod_lt_of_pos (r1 + 1 + r2) hm0
            have c3' : (r1 + 1 + r2) % (N.length : Int) ≠ r1 := fun e => by
              have e1 := Int.emod_add_mul_ediv (r1 + 1 + r2) (N.length : Int)
              have hq : ((r1 + 1 + r2) / (N.length : Int)) < 2 := Int.ediv_lt_of_lt_mul hm0 (by omega)
              have hq0 : 0 ≤ ((r1 + 1 + r2) / (N.length : Int)) := Int.ediv_nonneg (by omega) (by omega)
              have h01 : ((r1 + 1 + r2) / (N.length : Int)) = 0 ∨ ((r1 + 1 + r2) / (N.length : Int)) = 1 := by omega
              rcases h01 with z | z <;> rw [z] at e1 <;> omega
            refine r_mod hm0 ?_
            walk_at "go"
            generalize (r1 + 1 + r2) % (N.length : Int) = o at c1' c2' c3' ⊢
            refine ⟨p, 9, _, rfl, s2, by omega, by decide, by decide, fun r3 F3 a3 b3 s3 k3 => ?_⟩
            have hN3 := k3 _ _ hNlp hN2'
            walk_at "go"
            refine ⟨p, 5, _, rfl, s3, by omega, by decide, by decide, fun r4 F4 a4 b4 s4 k4 => ?_⟩
            have hN4 := k4 _ _ hNlp hN3
            walk_at "go"
            have hb' : (1 + r4 : Int) ≠ 0 := by omega
            refine ⟨_, _, rfl, hb', (Sm.of (n := 64) (by omega) (by omega)).mono (by decide), (Sm.of (n := 64) (by omega) (by omega)).mono (by decide), fun pt hpt => ?_⟩
            have t1 := lowT_le (t := 1 + r3) hb'
            have t2 := lowB_le (t := 1 + r3) hb'
            have t6 : 0 < lowT (1 + r3) (1 + r4) := lowT_pos (by omega) (by omega)
            have lr1 := low_rat (t := 1 + r3) hb'
            obtain ⟨ja, rfl⟩ : ∃ j : Nat, r1 = j := ⟨r1.toNat, by omega⟩
            obtain ⟨jo, rfl⟩ : ∃ j : Nat, o = j := ⟨o.toNat, by omega⟩
            have ha : ja < N.length := by omega
            have ho : jo < N.length := by omega
            have ea : atI (N.map V.str) (ja : Int) = some (V.str N[ja]) := atI_nat (by rw [List.getElem?_map, List.getElem?_eq_getElem ha]; rfl)
            have eo : atI (N.map V.str) (jo : Int) = some (V.str N[jo]) := atI_nat (by rw [List.getElem?_map, List.getElem?_eq_getElem ho]; rfl)
            have m1 := List.getElem_mem ha
            have m2 := List.getElem_mem ho
            have hne : N[ja] ≠ N[jo] := fun e => c3' (by rw [nd_at hNd ha ho e])
            generalize N[ja] = z1 at ea m1 hne
            generalize N[jo] = z2 at eo m2 hne
            have fq : FrQ (upd F4 pt (.tup [.int (lowT (1 + r3) (1 + r4)), .int (lowB (1 + r3) (1 + r4))])) (.ref pt) (Rat.divInt (1 + r3) (1 + r4)) := FrQ.low hb' upd_same
            have s5 := s4.new (o := .tup [.int (lowT (1 + r3) (1 + r4)), .int (lowB (1 + r3) (1 + r4))]) hpt
            have sm5 := Same.new (o := .tup [.int (lowT (1 + r3) (1 + r4)), .int (lowB (1 + r3) (1 + r4))]) hpt
            generalize upd F4 pt (.tup [.int (lowT (1 + r3) (1 + r4)), .int (lowB (1 + r3) (1 + r4))]) = F5 at fq s5 sm5 ⊢
            have hN5 := sm5 _ _ hN4
            have hlpF : ∀ {G : Hp}, Kp p F G → G lr = some (.lst vn) := fun k => k _ _ hlp hvn
            have kk5 : Kp p F F5 := (((k1.trans k2).trans k3).trans k4).trans sm5.kp
            have hl5 := hlpF kk5
            walk_at "go"
            refine r_ixl hN5 ea ?_
            walk_at "go"
            refine r_ixl hN5 eo ?_
            walk_at "go"
            refine r_tupK fun pw gw => ?_
            have sm6 := Same.new (o := .tup [.str z1, .str z2, .ref pt]) gw
            have hl6 := sm6 _ _ hl5
            walk_at "go"
            refine r_app hl6 (by rw [Paired.length pvn]; simp [kn]; omega) ?_
            walk_at "go"
            have tk0 : TK F (upd F5 pw (.tup [.str z1, .str z2, .ref pt])) := (sF.tk kk5).trans sm6.tk
            have tk6 : TK (upd F5 pw (.tup [.str z1, .str z2, .ref pt])) (upd (upd F5 pw (.tup [.str z1, .str z2, .ref pt])) lr (.lst (vn ++ [.ref pw]))) := TK.lst hl6
            have kp6 : Kp lr (upd F5 pw (.tup [.str z1, .str z2, .ref pt])) (upd (upd F5 pw (.tup [.str z1, .str z2, .ref pt])) lr (.lst (vn ++ [.ref pw]))) := Kp.upd
            refine hP _ _ _ ⟨_, _, _, _, rfl, n ++ [(z1, z2, Rat.divInt (1 + r3) (1 + r4))], by simp; omega, ⟨_, upd_same, ?_⟩, fun r hr => ?_, ?_, fun b o' hb h => ?_, ?_⟩
            · rw [show kn (n ++ [(z1, z2, Rat.divInt (1 + r3) (1 + r4))]) = kn n ++ [(Sum.inr z1, Sum.inr z2, Rat.divInt (1 + r3) (1 + r4))] by simp [kn]]
              exact Pd.snoc (Pd.imp pvn fun v b h => h.tk (tk0.trans tk6)) ⟨pw, .ref pt, rfl, tk6 _ _ upd_same, (fq.tk sm6.tk).tk tk6⟩
            · rcases List.mem_append.mp hr with hr | hr
              · exact hrn r hr
              · rw [List.mem_singleton.mp hr]
                refine ⟨⟨hNm _ m1, hNm _ m2, hne, ?_, ?_, ?_⟩, m1, m2⟩
                · show 0 < (Rat.divInt (1 + r3) (1 + r4)).num
                  rw [lr1.1]
                  exact t6
                · show (Rat.divInt (1 + r3) (1 + r4)).num ≤ 100
                  rw [lr1.1]
                  omega
                · show (Rat.divInt (1 + r3) (1 + r4)).den ≤ 100
                  have := lr1.2
                  omega
            · obtain ⟨x, y, z, e1, e2⟩ := (s5.new (o := .tup [.str z1, .str z2, .ref pt]) gw).mono (show _ ≤ m + 310 + 4 * ((i + 1 : Nat) : Int) by omega)
              exact ⟨x, y, z, by rw [upd_ne (Ne.symm hlp)]; exact e1, e2⟩
            · have h1 := (kF.trans kk5) _ _ hb h
              rw [upd_ne (ne_of_none h hHlr)]
              exact sm6 _ _ h1
            · exact kp6 _ _ (ne_of_none hG7 hlr) (sm6 _ _ hN5)
          · rintro σ F ⟨o5, o6, o7, o8, rfl, n, hnl, hL, hrn, sF, kF, hNF⟩
            walk_at "go"
            refine q lr F n N hHlr hL (by omega) (by omega) (fun r hr => (hrn r hr).1) (by omega) (fun x hx => ?_) (sF.mono (by omega)) kF
            rw [names] at hx
            rcases List.mem_append.mp hx with hx | hx
            · obtain ⟨r, hr, rfl⟩ := List.mem_map.mp hx
              exact (hrn r hr).2.1
            · obtain ⟨r, hr, rfl⟩ := List.mem_map.mp hx
              exact (hrn r hr).2.2
set_option maxHeartbeats 0 in
theorem ok_no_runs (T : Bl mg) (d : Df K mg "_law_no_runs" s_no_runs ["_law_run"]  ) (W : Xm mg xt x0 x1 x2 x3 x4 x5 x6 x7 x8 x9 x10 x11) (R_NoNet : Xr K xt x0 x1 x2 x3 x4 x5 x6 x7 x8 x9 x10 x11 x1 1) : Okf P w K mg base (k + 1) "_law_no_runs" ["_law_run"] (spNoRuns K) := by
  refine Okf.of d sc_no_runs (fun vs H Q E h => ?_) (fun f cdv A outer s H vs Q E hr h => ?_)
  · obtain ⟨v, r, rfl, _⟩ := h
    rfl
  · obtain ⟨v, r, rfl, ⟨pvv, u, rfl, hv, pt, rfl, hpt⟩, hr6, q⟩ := h
    refine ⟨_, (@pss_cons _ _ _ _ _ (@ps_asg _ _ _ _ _ _ (pv 0) (@pg_tup _ _ _ _ _ (n := 3) rfl (@pgs_cons _ _ _ _ _ (@pg_name _ _ (i := 1) _ sc_no_runs.nd rfl (by first | exact Or.inl rfl | exact Or.inr rfl) (by first | exact .inl rfl | exact .inr rfl | assumption)) (@pgs_cons _ _ _ _ _ (@pg_name _ _ (i := 2) _ sc_no_runs.nd rfl (by first | exact Or.inl rfl | exact Or.inr rfl) (by first | exact .inl rfl | exact .inr rfl | assumption)) (@pgs_cons _ _ _ _ _ (@pg_name _ _ (i := 3) _ sc_no_runs.nd rfl (by first | exact Or.inl rfl | exact Or.inr rfl) (by first | exact .inl rfl | exact .inr rfl | assumption)) (@pgs_nil _) (by rfl)) (by rfl)) (by rfl)) (by rfl) (by rfl)) (by rfl) (by rfl) (by rfl)) (@pss_cons _ _ _ _ _ (@ps_set _ _ (i := 4) _ _ _ _ sc_no_runs.nd rfl (by first | exact Or.inl rfl | exact Or.inr rfl) (@pe_lst _ _ _ _ (@pa_cons _ _ _ _ _ (@pe_tup _ _ _ _ _ (@pa_cons _ _ _ _ _ (pv 1) (@pa_cons _ _ _ _ _ (pv 1) (@pa_cons _ _ _ _ _ (@pe_tup _ _ _ _ _ (@pa_cons _ _ _ _ _ (@pe_int _ _ _ _) (@pa_cons _ _ _ _ _ (@pe_int _ _ _ _) (@pa_nil _) (by rfl)) (by rfl))) (@pa_nil _) (by rfl)) (by rfl)) (by rfl))) (@pa_cons _ _ _ _ _ (@pe_non _ _ _) (@pa_cons _ _ _ _ _ (@pe_tup _ _ _ _ _ (@pa_cons _ _ _ _ _ (pv 1) (@pa_cons _ _ _ _ _ (pv 2) (@pa_nil _) (by rfl)) (by rfl))) (@pa_cons _ _ _ _ _ (@pe_lst _ _ _ _ (@pa_cons _ _ _ _ _ (pv 1) (@pa_cons _ _ _ _ _ (pv 2) (@pa_cons _ _ _ _ _ (pv 3) (@pa_nil _) (by rfl)) (by rfl)) (by rfl))) (@pa_cons _ _ _ _ _ (@pe_str _ _ _ _) (@pa_cons _ _ _ _ _ (@pe_tup _ _ _ _ _ (@pa_cons _ _ _ _ _ (pv 1) (@pa_cons _ _ _ _ _ (pv 2) (@pa_cons _ _ _ _ _ (pv 3) (@pa_cons _ _ _ _ _ (@pe_int _ _ _ _) (@pa_nil _) (by rfl)) (by rfl)) (by rfl)) (by rfl))) (@pa_cons _ _ _ _ _ (@pe_tup _ _ _ _ _ (@pa_cons _ _ _ _ _ (pv 1) (@pa_cons _ _ _ _ _ (pv 2) (@pa_cons _ _ _ _ _ (@pe_int _ _ _ _) (@pa_nil _) (by rfl)) (by rfl)) (by rfl))) (@pa_nil _) (by rfl)) (by rfl)) (by rfl)) (by rfl)) (by rfl)) (by rfl)) (by rfl))) (by rfl) (by first | exact .inl rfl | exact .inr rfl | assumption)) (@pss_cons _ _ _ _ _ (@ps_set _ _ (i := 4) _ _ _ _ sc_no_runs.nd rfl (by first | exact Or.inl rfl | exact Or.inr rfl) (@pe_op _ _ _ _ _ _ _ _ op_addA (pv 4) (@pe_lst _ _ _ _ (@pa_cons _ _ _ _ _ (@pe_tup _ _ _ _ _ (@pa_cons _ _ _ _ _ (pv 1) (@pa_cons _ _ _ _ _ (pv 2) (@pa_cons _ _ _ _ _ (@pe_tup _ _ _ _ _ (@pa_cons _ _ _ _ _ (@pe_int _ _ _ _) (@pa_cons _ _ _ _ _ (@pe_int _ _ _ _) (@pa_nil _) (by rfl)) (by rfl))) (@pa_nil _) (by rfl)) (by rfl)) (by rfl))) (@pa_cons _ _ _ _ _ (@pe_tup _ _ _ _ _ (@pa_cons _ _ _ _ _ (pv 1) (@pa_cons _ _ _ _ _ (pv 2) (@pa_cons _ _ _ _ _ (@pe_tup _ _ _ _ _ (@pa_cons _ _ _ _ _ (@pe_op _ _ _ _ _ _ _ _ op_sub (@pe_int _ _ _ _) (@pe_ix _ _ _ _ _ _ _ ix_LT (pv 3) (@pe_int _ _ _ _) (fun _ _ => rfl))) (@pa_cons _ _ _ _ _ (@pe_ix _ _ _ _ _ _ _ ix_LT (pv 3) (@pe_int _ _ _ _) (fun _ _ => rfl)) (@pa_nil _) (by rfl)) (by rfl))) (@pa_nil _) (by rfl)) (by rfl)) (by rfl))) (@pa_cons _ _ _ _ _ (@pe_tup _ _ _ _ _ (@pa_cons _ _ _ _ _ (pv 1) (@pa_cons _ _ _ _ _ (pv 2) (@pa_cons _ _ _ _ _ (@pe_tup _ _ _ _ _ (@pa_cons _ _ _ _ _ (@pe_op _ _ _ _ _ _ _ _ op_mulB (@pe_int _ _ _ _) (@pe_ix _ _ _ _ _ _ _ ix_LT (pv 3) (@pe_int _ _ _ _) (fun _ _ => rfl))) (@pa_cons _ _ _ _ _ (@pe_op _ _ _ _ _ _ _ _ op_mulB (@pe_int _ _ _ _) (@pe_ix _ _ _ _ _ _ _ ix_LT (pv 3) (@pe_int _ _ _ _) (fun _ _ => rfl))) (@pa_nil _) (by rfl)) (by rfl))) (@pa_nil _) (by rfl)) (by rfl)) (by rfl))) (@pa_nil _) (by rfl)) (by rfl)) (by rfl)))) (by rfl) (by first | exact .inl rfl | exact .inr rfl | assumption)) (@pss_cons _ _ _ _ _ (@ps_set _ _ (i := 4) _ _ _ _ sc_no_runs.nd rfl (by first | exact Or.inl rfl | exact Or.inr rfl) (@pe_op _ _ _ _ _ _ _ _ op_addA (pv 4) (@pe_lst _ _ _ _ (@pa_cons _ _ _ _ _ (@pe_tup _ _ _ _ _ (@pa_cons _ _ _ _ _ (pv 1) (@pa_cons _ _ _ _ _ (pv 2) (@pa_cons _ _ _ _ _ (@pe_tup _ _ _ _ _ (@pa_cons _ _ _ _ _ (@pe_bl _ _ _ _) (@pa_cons _ _ _ _ _ (@pe_int _ _ _ _) (@pa_nil _) (by rfl)) (by rfl))) (@pa_nil _) (by rfl)) (by rfl)) (by rfl))) (@pa_cons _ _ _ _ _ (@pe_tup _ _ _ _ _ (@pa_cons _ _ _ _ _ (pv 1) (@pa_cons _ _ _ _ _ (pv 2) (@pa_cons _ _ _ _ _ (@pe_tup _ _ _ _ _ (@pa_cons _ _ _ _ _ (@pe_str _ _ _ _) (@pa_cons _ _ _ _ _ (@pe_int _ _ _ _) (@pa_nil _) (by rfl)) (by rfl))) (@pa_nil _) (by rfl)) (by rfl)) (by rfl))) (@pa_cons _ _ _ _ _ (@pe_tup _ _ _ _ _ (@pa_cons _ _ _ _ _ (pv 1) (@pa_cons _ _ _ _ _ (pv 2) (@pa_cons _ _ _ _ _ (@pe_callTy _ _ _ _ _ _ _ _ _ c_list rfl T.z_list bt_list (@pa_cons _ _ _ _ _ (pv 3) (@pa_nil _) (by rfl)) (by decide) (by decide) (by rfl) (by rfl)) (@pa_nil _) (by rfl)) (by rfl)) (by rfl))) (@pa_cons _ _ _ _ _ (@pe_tup _ _ _ _ _ (@pa_cons _ _ _ _ _ (pv 1) (@pa_cons _ _ _ _ _ (pv 2) (@pa_cons _ _ _ _ _ (@pe_op _ _ _ _ _ _ _ _ op_addA (pv 3) (@pe_tup _ _ _ _ _ (@pa_cons _ _ _ _ _ (@pe_int _ _ _ _) (@pa_nil _) (by rfl)))) (@pa_nil _) (by rfl)) (by rfl)) (by rfl))) (@pa_nil _) (by rfl)) (by rfl)) (by rfl)) (by rfl)))) (by rfl) (by first | exact .inl rfl | exact .inr rfl | assumption)) (@pss_cons _ _ _ _ _ (@ps_for _ _ _ _ _ _ _ _ PassesOwn.never rfl (@pi_list _ _ _ _ (@pe_lst _ _ _ _ (@pa_cons _ _ _ _ _ (@pe_str _ _ _ _) (@pa_cons _ _ _ _ _ (@pe_str _ _ _ _) (@pa_cons _ _ _ _ _ (@pe_str _ _ _ _) (@pa_cons _ _ _ _ _ (@pe_str _ _ _ _) (@pa_cons _ _ _ _ _ (@pe_str _ _ _ _) (@pa_cons _ _ _ _ _ (@pe_str _ _ _ _) (@pa_cons _ _ _ _ _ (@pe_str _ _ _ _) (@pa_cons _ _ _ _ _ (@pe_str _ _ _ _) (@pa_cons _ _ _ _ _ (@pe_str _ _ _ _) (@pa_cons _ _ _ _ _ (@pe_op _ _ _ _ _ _ _ _ op_addA (pv 1) (@pe_str _ _ _ _)) (@pa_cons _ _ _ _ _ (@pe_non _ _ _) (@pa_cons _ _ _ _ _ (@pe_int _ _ _ _) (@pa_nil _) (by rfl)) (by rfl)) (by rfl)) (by rfl)) (by rfl)) (by rfl)) (by rfl)) (by rfl)) (by rfl)) (by rfl)) (by rfl)) (by rfl)))) (@pg_name _ _ (i := 5) _ sc_no_runs.nd rfl (by first | exact Or.inl rfl | exact Or.inr rfl) (by first | exact .inl rfl | exact .inr rfl | assumption)) (@pss_one _ _ _ (@ps_set _ _ (i := 4) _ _ _ _ sc_no_runs.nd rfl (by first | exact Or.inl rfl | exact Or.inr rfl) (@pe_op _ _ _ _ _ _ _ _ op_addA (pv 4) (@pe_lst _ _ _ _ (@pa_cons _ _ _ _ _ (@pe_tup _ _ _ _ _ (@pa_cons _ _ _ _ _ (pv 5) (@pa_cons _ _ _ _ _ (pv 2) (@pa_cons _ _ _ _ _ (pv 3) (@pa_nil _) (by rfl)) (by rfl)) (by rfl))) (@pa_cons _ _ _ _ _ (@pe_tup _ _ _ _ _ (@pa_cons _ _ _ _ _ (pv 1) (@pa_cons _ _ _ _ _ (pv 5) (@pa_cons _ _ _ _ _ (pv 3) (@pa_nil _) (by rfl)) (by rfl)) (by rfl))) (@pa_nil _) (by rfl)) (by rfl)))) (by rfl) (by first | exact .inl rfl | exact .inr rfl | assumption))) (by intro _; rfl)) (@pss_one _ _ _ (@ps_ret _ _ _ _ (pv 4)))))))), ?_⟩
    obtain ⟨h1, h2, h3, h4, h5, h6⟩ := hr6
    have hdp := r.2.2.den_pos
    have hgc : Int.gcd r.2.2.num (r.2.2.den : Int) = 1 := r.2.2.reduced
    obtain ⟨ta, eta⟩ : ∃ t, t = r.2.2.num := ⟨_, rfl⟩
    obtain ⟨tb, etb⟩ : ∃ t, t = (r.2.2.den : Int) := ⟨_, rfl⟩
    obtain ⟨z1, ez1⟩ : ∃ z, z = r.1 := ⟨_, rfl⟩
    obtain ⟨z2, ez2⟩ : ∃ z, z = r.2.1 := ⟨_, rfl⟩
    replace hv : H pvv = some (.tup [.str z1, .str z2, .ref pt]) := by rw [ez1, ez2]; exact hv
    replace hpt : H pt = some (.tup [.int ta, .int tb]) := by rw [eta, etb]; exact hpt
    rw [← ez1] at h1
    rw [← ez2] at h2
    rw [← eta] at h4 h5 hgc
    rw [← etb] at hgc
    have htb : 0 < tb ∧ tb ≤ 100 := by omega
    clear eta etb
    walk_at "go"
    refine r_tupK fun c1 g_c1 => ?_
    walk_at "go"
    refine r_tupK fun a1 g_a1 => ?_
    walk_at "go"
    refine r_tupK fun a2 g_a2 => ?_
    walk_at "go"
    refine r_lstK fun l3 g_l3 => ?_
    walk_at "go"
    refine r_tupK fun a4 g_a4 => ?_
    walk_at "go"
    refine r_tupK fun a5 g_a5 => ?_
    walk_at "go"
    refine r_lstK fun L1 gL1 => ?_
    walk_at "go"
    refine r_tupK fun c6 g_c6 => ?_
    walk_at "go"
    refine r_tupK fun a6 g_a6 => ?_
    walk_at "go"
    refine r_tupK fun c7 g_c7 => ?_
    walk_at "go"
    refine r_tupK fun a7 g_a7 => ?_
    walk_at "go"
    refine r_tupK fun c8 g_c8 => ?_
    walk_at "go"
    refine r_tupK fun a8 g_a8 => ?_
    walk_at "go"
    refine r_lstK fun L2' g_L2' => ?_
    walk_at "go"
    refine a_lst (by walk_at "hp") (by walk_at "hp") (Nat.le_of_ble_eq_true rfl) fun L3 gL3 => ?_
    walk_at "go"
    refine r_tupK fun c9 g_c9 => ?_
    walk_at "go"
    refine r_tupK fun a9 g_a9 => ?_
    walk_at "go"
    refine r_tupK fun c10 g_c10 => ?_
    walk_at "go"
    refine r_tupK fun a10 g_a10 => ?_
    walk_at "go"
    refine l_tup (by walk_at "hp") fun l11 g_l11 => ?_
    walk_at "go"
    refine r_tupK fun a11 g_a11 => ?_
    walk_at "go"
    refine r_tupK fun c12 g_c12 => ?_
    walk_at "go"
    refine a_tup (by walk_at "hp") (by walk_at "hp") (Nat.le_of_ble_eq_true rfl) (by simp) (by simp) fun s12 g_s12 => ?_
    walk_at "go"
    refine r_tupK fun a12 g_a12 => ?_
    walk_at "go"
    refine r_lstK fun L4 gL4 => ?_
    walk_at "go"
    refine a_lst (by walk_at "hp") (by walk_at "hp") (Nat.le_of_ble_eq_true rfl) fun L5 gL5 => ?_
    walk_at "go"
    refine a_str (by have := h1.2; have : ("_" : Str).length = 1 := (by decide +kernel); omega) ?_
    walk_at "go"
    refine r_lstK fun lx gx => ?_
    walk_at "go"
    have F5 : H L5 = none := by
      refine (fun (s : Same H _) => s.free gL5) (fun b o hb => ?_)
      walk_at "hp"
    have P1 : ∀ {G : Hp}, PostQ K G (.str z1) true := h1.q
    have P2 : ∀ {G : Hp}, PostQ K G (.str z2) true := h2.q
    have SM : ∀ a : Int, -1000 ≤ a → a ≤ 1000 → Sm 8000 a := fun a l1 l2 => (Sm.of (n := 64) (by omega) (by omega)).mono (by decide)
    have FQ : ∀ {G : Hp} (tp : Addr) (u w : V), G tp = some (.tup [u, w]) → flatV u = true → flatV w = true → (∀ a b, u = .int a → w = .int b → Sm 8000 a ∧ Sm 8000 b) → frV u w = false → ∀ H', Same G H' → Frq K H' (.ref tp) false := fun tp u w h a b c d H' s => .inr (.inr ⟨tp, u, w, rfl, s _ _ h, a, b, c, d.symm⟩)
    have BAD : ∀ {x : V}, x ∈ ([V.str (Str.ofString "A"), V.str (Str.ofString ""), V.str (Str.ofString "a..b"), V.str (Str.ofString "abcdefghi"), V.str (Str.ofString "abcdefghi.b"), V.str (Str.ofString "A.b"), V.str (Str.ofString "a.b.c.d.e"), V.str (Str.ofString "a1"), V.str (Str.ofString "a b"), V.str (z1 ++ Str.ofString "_"), V.non, V.int 5] : List V) → ∀ G : Hp, PostQ K G x false := by
      intro x hx G
      simp only [List.mem_cons, List.not_mem_nil, or_false] at hx
      have hw : ("_" : Str).length = 1 := by decide +kernel
      have hz := h1.2
      rcases hx with rfl | rfl | rfl | rfl | rfl | rfl | rfl | rfl | rfl | rfl | rfl | rfl
      · exact .inl ⟨_, rfl, by decide +kernel, by decide +kernel⟩
      · exact .inl ⟨_, rfl, by decide +kernel, by decide +kernel⟩
      · exact .inl ⟨_, rfl, by decide +kernel, by decide +kernel⟩
      · exact .inl ⟨_, rfl, by decide +kernel, by decide +kernel⟩
      · exact .inl ⟨_, rfl, by decide +kernel, by decide +kernel⟩
      · exact .inl ⟨_, rfl, by decide +kernel, by decide +kernel⟩
      · exact .inl ⟨_, rfl, by decide +kernel, by decide +kernel⟩
      · exact .inl ⟨_, rfl, by decide +kernel, by decide +kernel⟩
      · exact .inl ⟨_, rfl, by decide +kernel, by decide +kernel⟩
      · exact .inl ⟨_, rfl, by rw [len_plus, hw]; omega, (post_bad (x := 95) (by decide) (by decide) (by rw [cps_app]; exact List.mem_append_right _ (by decide +kernel))).symm⟩
      · exact .inr ⟨NS.non, rfl⟩
      · exact .inr ⟨NS.int _, rfl⟩
    refine (fun (main : ∀ (G : Hp) (vs14 : List V), Same H G → G L5 = some (.lst vs14) → vs14.length = 14 → (∀ x ∈ vs14, IsRunQ K G x false) → G lx = some (.lst [V.str (Str.ofString "A"), V.str (Str.ofString ""), V.str (Str.ofString "a..b"), V.str (Str.ofString "abcdefghi"), V.str (Str.ofString "abcdefghi.b"), V.str (Str.ofString "A.b"), V.str (Str.ofString "a.b.c.d.e"), V.str (Str.ofString "a1"), V.str (Str.ofString "a b"), V.str (z1 ++ Str.ofString "_"), V.non, V.int 5]) → listK _ _ (.ref lx) G) => main _ ([.ref a1, .non, .ref a2, .ref l3, .str (Str.ofString "run"), .ref a4, .ref a5] ++ [.ref a6, .ref a7, .ref a8] ++ [.ref a9, .ref a10, .ref a11, .ref a12]) ?_ (by walk_at "hp") rfl ?_ upd_same) ?_
    · intro b o hb
      walk_at "hp"
    · intro x hx
      simp only [List.cons_append, List.nil_append, List.mem_cons, List.not_mem_nil, or_false] at hx
      rcases hx with rfl | rfl | rfl | rfl | rfl | rfl | rfl | rfl | rfl | rfl | rfl | rfl | rfl | rfl
      · exact .same (by walk_at "hp") P1
      · exact .nt NT.non
      · exact .len (xs := [.str z1, .str z2]) (by walk_at "hp") (show ¬ 2 = 3 by decide)
      · exact .nt (NT.lst (p := l3) (by walk_at "hp"))
      · exact .nt (NT.str _)
      · exact .len (xs := [.str z1, .str z2, .ref pt, .int 0]) (by walk_at "hp") (show ¬ 4 = 3 by decide)
      · exact .of3 (p := a5) (by walk_at "hp") P1 P2 fun H' _ => .inl ⟨NT.int _, rfl⟩
      · exact .of4 (p := a6) (by walk_at "hp") P1 P2 (tp := c6) (by walk_at "hp") (by decide) (SM 0 (by decide) (by decide)) (SM 1 (by decide) (by decide)) (Int.le_refl _)
      · refine .of4 (p := a7) (by walk_at "hp") P1 P2 (tp := c7) (by walk_at "hp") ?_ (SM _ (by omega) (by omega)) (SM _ (by omega) (by omega)) (by omega)
        show (decide (1 ≤ tb) && decide (Int.gcd (0 - ta) tb = 1)) = true
        rw [decide_eq_true (show 1 ≤ tb by omega), Int.zero_sub, Int.neg_gcd, decide_eq_true hgc]
        rfl
      · refine .of3 (p := a8) (by walk_at "hp") P1 P2 (FQ c8 _ _ (by walk_at "hp") rfl rfl (fun a b ea eb => ?_) ?_)
        · cases ea
          cases eb
          exact ⟨SM _ (by omega) (by omega), SM _ (by omega) (by omega)⟩
        · show (decide (1 ≤ 2 * tb) && decide (Int.gcd (2 * ta) (2 * tb) = 1)) = false
          have : Int.gcd (2 * ta) (2 * tb) = 2 := by
            rw [Int.gcd_mul_left, hgc]
            rfl
          rw [this]
          simp
      · exact .of3 (p := a9) (by walk_at "hp") P1 P2 (FQ c9 _ _ (by walk_at "hp") rfl rfl (fun a b ea eb => by cases ea) rfl)
      · exact .of3 (p := a10) (by walk_at "hp") P1 P2 (FQ c10 _ _ (by walk_at "hp") rfl rfl (fun a b ea eb => by cases ea) rfl)
      · exact .ofL (p := a11) (l := l11) (xs := [.int ta, .int tb]) (by walk_at "hp") P1 P2 (by walk_at "hp")
      · exact .ofT (p := a12) (q := s12) (xs := [.int ta, .int tb] ++ [.int 1]) (by walk_at "hp") P1 P2 (by walk_at "hp") (by simp)
    clear g_c1 g_a1 g_a2 g_l3 g_a4 g_a5 gL1 g_c6 g_a6 g_c7 g_a7 g_c8 g_a8 gL3 g_c9 g_a9 g_c10 g_a10 g_l11 g_a11 g_c12 g_s12 g_a12 gL4 gL5 gx
    intro G0 vs14 S0 hL5 h14 A14 hlx
    refine r_listK (SqL.of hlx) ?_
    refine r_forLp (xs := [V.str (Str.ofString "A"), V.str (Str.ofString ""), V.str (Str.ofString "a..b"), V.str (Str.ofString "abcdefghi"), V.str (Str.ofString "abcdefghi.b"), V.str (Str.ofString "A.b"), V.str (Str.ofString "a.b.c.d.e"), V.str (Str.ofString "a1"), V.str (Str.ofString "a b"), V.str (z1 ++ Str.ofString "_"), V.non, V.int 5]) (fun i σ G => ∃ ls o5 vs', σ = [some (.ref pvv), some (.str z1), some (.str z2), some (.ref pt), some (.ref ls), o5] ∧ H ls = none ∧ Same G0 G ∧ G ls = some (.lst vs') ∧ vs'.length = 14 + 2 * i ∧ ∀ x ∈ vs', IsRunQ K G x false) ⟨L5, _, vs14, rfl, F5, Same.refl _, hL5, h14, A14⟩ ?_ ?_ ?_
    · rintro i σ G _ ⟨ls, o5, vs', rfl, _, sG, _⟩
      exact SqL.of (sG _ _ hlx)
    · rintro P' rt bk hP i x σ G hx ⟨ls, o5, vs', rfl, hls, sG, hvs, hl, A⟩
      have hx12 := (List.getElem?_eq_some_iff.mp hx).1
      have hx12 : i < 12 := hx12
      have hbx := BAD (List.mem_of_getElem? hx)
      walk_at "go"
      refine r_tupK fun t1 g1 => ?_
      walk_at "go"
      refine r_tupK fun t2 g2 => ?_
      walk_at "go"
      refine r_lstK fun l3' g3 => ?_
      walk_at "go"
      have b1 := Same.new (H := G) (o := .tup [x, .str z2, .ref pt]) g1
      have b2 := b1.trans (Same.new (o := .tup [.str z1, x, .ref pt]) g2)
      have b3 := b2.trans (Same.new (o := .lst [.ref t1, .ref t2]) g3)
      refine a_lst (b3 _ _ hvs) upd_same (by show _ + 2 ≤ _; omega) fun l4 g4 => ?_
      walk_at "go"
      have b4 := b3.trans (Same.new (o := .lst (vs' ++ [.ref t1, .ref t2])) g4)
      refine hP _ _ _ ⟨l4, _, _, rfl, (S0.trans sG).free (b3.free g4), sG.trans b4, upd_same, by simp; omega, fun y hy => ?_⟩
      rcases List.mem_append.mp hy with hy | hy
      · exact (A y hy).sm b4
      · simp only [List.mem_cons, List.not_mem_nil, or_false] at hy
        rcases hy with rfl | rfl
        · exact .one (upd_old g4 (upd_old g3 (upd_old g2 upd_same))) (hbx _)
        · exact .two (upd_old g4 (upd_old g3 upd_same)) P1 (hbx _)
    · rintro σ G ⟨ls, o5, vs', rfl, hls, sG, hvs, hl, A⟩
      have hl : vs'.length = 14 + 2 * 12 := hl
      walk_at "go"
      exact q ls G vs' hls (S0.trans sG) hvs (by omega) A
theorem ok_refused (T : Bl mg) (d : Df K mg "_law_refused" s_refused ["_law_thing"]  ) (W : Xm mg xt x0 x1 x2 x3 x4 x5 x6 x7 x8 x9 x10 x11) (R_NoNet : Xr K xt x0 x1 x2 x3 x4 x5 x6 x7 x8 x9 x10 x11 x1 1) (o_net_of : OkfX P w K mg base k "net_of" ["runs"] [] (spNetOf K x1)) (o_only : OkfH P w K mg base k "_law_only" ["_law_e", "_law_place"] (spOnly K xt x0 x1 x2 x3 x4 x5 x6 x7 x8 x9 x10 x11)) : Okf P w K mg base (k + 1) "_law_refused" ["_law_thing"] (spRef6 K) := by
  refine Okf.of d sc_refused (fun vs H Q E h => ?_) (fun f cdv A outer s H vs Q E hr h => ?_)
  · obtain ⟨v, rfl, _⟩ := h
    rfl
  · obtain ⟨v, rfl, h, q⟩ := h
    refine ⟨_, (@pss_cons _ _ _ _ _ (@ps_set _ _ (i := 1) _ _ _ _ sc_refused.nd rfl (by first | exact Or.inl rfl | exact Or.inr rfl) (@pe_bl _ _ _ _) (by rfl) (by first | exact .inl rfl | exact .inr rfl | assumption)) (@pss_cons _ _ _ _ _ (@ps_try _ _ _ _ (i := 2) _ _ _ _ _ _ _ _ rfl rfl rfl rfl W.t sc_refused.nd rfl rfl (@px_expr _ _ _ _ (@pex_call _ _ _ _ _ _ _ _ _ _ _ o_net_of rfl (fun _ _ z => z) hr rfl (@pa_cons _ _ _ _ _ (pv 0) (@pa_nil _) (by rfl)) (by decide) (by rfl) (by rfl)) (by rfl)) (fun y => (@pss_one _ _ _ (@ps_set _ _ (i := 1) _ _ _ _ sc_refused.nd rfl (by first | exact Or.inl rfl | exact Or.inr rfl) (@pe_callH _ _ _ _ _ _ _ _ _ _ _ o_only (hr.h _) rfl rfl (@pa_cons _ _ _ _ _ (pv 2) (@pa_cons _ _ _ _ _ (@pe_int _ _ _ _) (@pa_nil _) (by rfl)) (by rfl)) (by decide) (by rfl) (by rfl)) (by rfl) (by first | exact .inl rfl | exact .inr rfl | assumption)))) (by decide)) (@pss_one _ _ _ (@ps_ret _ _ _ _ (pv 1))))), ?_⟩
    walk_at "go"
    refine ⟨v, rfl, .inr ⟨h, fun H1 s1 => ?_⟩⟩
    refine r_tryE R_NoNet.t fun x hx => ?_
    walk_at "go"
    refine ⟨x1, 1, rfl, by decide, upd_same, R_NoNet, fun H' sm => ?_⟩
    walk_at "go"
    exact q _ ((s1.trans (Same.new hx)).trans sm)
theorem ok_is_list (T : Bl mg) (d : Df K mg "_law_is_list" s_is_list ["_law_found", "_law_due"]  ) (W : Xm mg xt x0 x1 x2 x3 x4 x5 x6 x7 x8 x9 x10 x11) (R_NoNet : Xr K xt x0 x1 x2 x3 x4 x5 x6 x7 x8 x9 x10 x11 x1 1) : Okf P w K mg base (k + 1) "_law_is_list" ["_law_found", "_law_due"] spIsL := by
  refine Okf.of d sc_is_list (fun vs H Q E h => ?_) (fun f cdv A outer s H vs Q E hr h => ?_)
  · obtain ⟨l1, l2, ds, rfl, _⟩ := h
    rfl
  · obtain ⟨l1, l2, ds, rfl, h1, h2, hd, q⟩ := h
    refine ⟨_, (@pss_one _ _ _ (@ps_ret _ _ _ _ (@pe_and _ _ _ _ _ _ _ (@pe_callB _ _ _ _ _ _ _ _ _ (call_isTy (T := "list")) rfl T.z_isinstance bt_isinstance (@pa_cons _ _ _ _ _ (pv 0) (@pa_cons _ _ _ _ _ (@pe_bltn _ _ (v := .ty "list") _ _ rfl T.z_list bt_list rfl (by decide) (by decide)) (@pa_nil _) (by rfl)) (by rfl)) (by decide) (by decide) (by rfl) (by rfl)) (@pe_one _ _ _ _ _ (@pe_cmpR _ _ _ _ _ _ _ _ (op_eqA hr.units) (pv 0) (pv 1) (nomark _)))))), ?_⟩
    obtain ⟨p1, vs1, e1, a1, b1⟩ := id h1
    cases e1
    walk_at "go"
    refine r_isTy (.lst a1) kit_list_list ?_
    walk_at "go"
    refine e_lst h1 h2 hd ?_
    rw [DenL.same_eq _ _ b1 b1]
    exact q
set_option maxHeartbeats 0 in
theorem ok_law {f : Addr} {fd : FuncData} (T : Bl mg) (F : Fun K "law" "law" s_law f fd) (W : Xm mg xt x0 x1 x2 x3 x4 x5 x6 x7 x8 x9 x10 x11) (R_NoNet : Xr K xt x0 x1 x2 x3 x4 x5 x6 x7 x8 x9 x10 x11 x1 1) (o_posts_of : Okf P w K mg base k "posts_of" ["net"] (spPosts w)) (o_is_list : Okf P w K mg base k "_law_is_list" ["_law_found", "_law_due"] spIsL) (o_net_of : OkfX P w K mg base k "net_of" ["runs"] [] (spNetOf K x1)) (o_refused : Okf P w K mg base k "_law_refused" ["_law_thing"] (spRef6 K)) (o_cell_at : Okf P w K mg base k "_law_cell_at" ["_law_script", "_law_k"] (spCell K)) (o_no_runs : Okf P w K mg base k "_law_no_runs" ["_law_run"] (spNoRuns K)) (o_draw : Okf P w K mg base k "_law_draw" ["_law_state", "_law_many"] spDraw) (o_runs : Okf P w K mg base k "_law_runs" ["_law_state", "_law_script"] (spRuns6 w K)) (o_begun : Okf P w K mg base k "_law_begun" ["_law_script", "_law_k"] (spBegun K)) : FnOk P w K mg base CX0 (k + 1) f fd ["_law_script"] (spLaw K) := by
  refine F.ok sc_law (fun vs H Q E h => ?_) (fun cdv A outer s H vs Q E hr h => ?_)
  · obtain ⟨a, ns, rfl, _⟩ := h
    rfl
  · obtain ⟨a, ns, rfl, hS, h63, q⟩ := h
    refine ⟨_, (@pss_cons _ _ _ _ _ (@ps_set _ _ (i := 1) _ _ _ _ sc_law.nd rfl (by first | exact Or.inl rfl | exact Or.inr rfl) (@pe_callO _ _ _ _ _ _ _ _ _ _ o_begun hr rfl (@pa_cons _ _ _ _ _ (pv 0) (@pa_cons _ _ _ _ _ (@pe_int _ _ _ _) (@pa_nil _) (by rfl)) (by rfl)) (by decide) (by rfl) (by rfl)) (by rfl) (by first | exact .inl rfl | exact .inr rfl | assumption)) (@pss_cons _ _ _ _ _ (@ps_set _ _ (i := 2) _ _ _ _ sc_law.nd rfl (by first | exact Or.inl rfl | exact Or.inr rfl) (@pe_callO _ _ _ _ _ _ _ _ _ _ o_runs hr rfl (@pa_cons _ _ _ _ _ (pv 1) (@pa_cons _ _ _ _ _ (pv 0) (@pa_nil _) (by rfl)) (by rfl)) (by decide) (by rfl) (by rfl)) (by rfl) (by first | exact .inl rfl | exact .inr rfl | assumption)) (@pss_cons _ _ _ _ _ (@ps_set _ _ (i := 3) _ _ _ _ sc_law.nd rfl (by first | exact Or.inl rfl | exact Or.inr rfl) (@pe_callTy _ _ _ _ _ _ _ _ _ c_list rfl T.z_list bt_list (@pa_cons _ _ _ _ _ (pv 2) (@pa_nil _) (by rfl)) (by decide) (by decide) (by rfl) (by rfl)) (by rfl) (by first | exact .inl rfl | exact .inr rfl | assumption)) (@pss_cons _ _ _ _ _ (@ps_set _ _ (i := 4) _ _ _ _ sc_law.nd rfl (by first | exact Or.inl rfl | exact Or.inr rfl) (@pe_callO _ _ _ _ _ _ _ _ _ _ o_draw hr rfl (@pa_cons _ _ _ _ _ (pv 1) (@pa_cons _ _ _ _ _ (@pe_op _ _ _ _ _ _ _ _ op_addA (@pe_callB _ _ _ _ _ _ _ _ _ c_len rfl T.z_len bt_len (@pa_cons _ _ _ _ _ (pv 2) (@pa_nil _) (by rfl)) (by decide) (by decide) (by rfl) (by rfl)) (@pe_int _ _ _ _)) (@pa_nil _) (by rfl)) (by rfl)) (by decide) (by rfl) (by rfl)) (by rfl) (by first | exact .inl rfl | exact .inr rfl | assumption)) (@pss_cons _ _ _ _ _ (@ps_for _ _ _ _ _ _ _ _ PassesOwn.never rfl (@pi_list _ _ _ _ (@pe_callO _ _ _ _ _ _ _ _ _ _ o_no_runs hr rfl (@pa_cons _ _ _ _ _ (@pe_ix _ _ _ _ _ _ _ ix_LT (pv 2) (@pe_int _ _ _ _) (fun _ _ => rfl)) (@pa_nil _) (by rfl)) (by decide) (by rfl) (by rfl))) (@pg_name _ _ (i := 5) _ sc_law.nd rfl (by first | exact Or.inl rfl | exact Or.inr rfl) (by first | exact .inl rfl | exact .inr rfl | assumption)) (@pss_one _ _ _ (@ps_if _ _ _ _ _ _ _ _ (@PW.pt _ _ _ (@pw_or _ _ _ _ _ _ _ (@pt_not _ _ _ _ (@pt_val _ _ _ (@pe_callO _ _ _ _ _ _ _ _ _ _ o_refused hr rfl (@pa_cons _ _ _ _ _ (@pe_op _ _ _ _ _ _ _ _ op_addA (@pe_op _ _ _ _ _ _ _ _ op_addA (@pe_slice _ _ _ _ _ _ _ _ _ _ sl_any (pv 2) (@po_none _) (@po_some _ _ _ (pv 4))) (@pe_lst _ _ _ _ (@pa_cons _ _ _ _ _ (pv 5) (@pa_nil _) (by rfl)))) (@pe_slice _ _ _ _ _ _ _ _ _ _ sl_any (pv 2) (@po_some _ _ _ (pv 4)) (@po_none _))) (@pa_nil _) (by rfl)) (by decide) (by rfl) (by rfl)) (by intro _; rfl))) (@pw_or1 _ _ _ _ (@pt_not _ _ _ _ (@pt_val _ _ _ (@pe_callO _ _ _ _ _ _ _ _ _ _ o_refused hr rfl (@pa_cons _ _ _ _ _ (@pe_lst _ _ _ _ (@pa_cons _ _ _ _ _ (pv 5) (@pa_nil _) (by rfl))) (@pa_nil _) (by rfl)) (by decide) (by rfl) (by rfl)) (by intro _; rfl)))))) (@pss_one _ _ _ (@ps_ret _ _ _ _ (@pe_bl _ _ _ _))) (@pss_nil _))) (by intro _; rfl)) (@pss_cons _ _ _ _ _ (@ps_for _ _ _ _ _ _ _ _ PassesOwn.never rfl (@pi_range2 _ _ _ _ _ _ _ rfl T.z_range (@pa_cons _ _ _ _ _ (@pe_int _ _ _ _) (@pa_cons _ _ _ _ _ (@pe_callB _ _ _ _ _ _ _ _ _ (c_max rfl) rfl T.z_max bt_max (@pa_cons _ _ _ _ _ (@pe_int _ _ _ _) (@pa_cons _ _ _ _ _ (@pe_callB _ _ _ _ _ _ _ _ _ (c_min rfl) rfl T.z_min bt_min (@pa_cons _ _ _ _ _ (@pe_int _ _ _ _) (@pa_cons _ _ _ _ _ (@pe_callB _ _ _ _ _ _ _ _ _ c_len rfl T.z_len bt_len (@pa_cons _ _ _ _ _ (pv 0) (@pa_nil _) (by rfl)) (by decide) (by decide) (by rfl) (by rfl)) (@pa_nil _) (by rfl)) (by rfl)) (by decide) (by decide) (by rfl) (by rfl)) (@pa_nil _) (by rfl)) (by rfl)) (by decide) (by decide) (by rfl) (by rfl)) (@pa_nil _) (by rfl)) (by rfl)) (by rfl) (by rfl)) (@pg_name _ _ (i := 6) _ sc_law.nd rfl (by first | exact Or.inl rfl | exact Or.inr rfl) (by first | exact .inl rfl | exact .inr rfl | assumption)) (@pss_cons _ _ _ _ _ (@ps_set _ _ (i := 7) _ _ _ _ sc_law.nd rfl (by first | exact Or.inl rfl | exact Or.inr rfl) (@pe_callO _ _ _ _ _ _ _ _ _ _ o_cell_at hr rfl (@pa_cons _ _ _ _ _ (pv 0) (@pa_cons _ _ _ _ _ (pv 6) (@pa_nil _) (by rfl)) (by rfl)) (by decide) (by rfl) (by rfl)) (by rfl) (by first | exact .inl rfl | exact .inr rfl | assumption)) (@pss_one _ _ _ (@ps_if _ _ _ _ _ _ _ _ (@pt_not _ _ _ _ (@pt_val _ _ _ (@pe_callO _ _ _ _ _ _ _ _ _ _ o_refused hr rfl (@pa_cons _ _ _ _ _ (@pe_ix _ _ _ _ _ _ _ ix_LT (@pe_lst _ _ _ _ (@pa_cons _ _ _ _ _ (@pe_non _ _ _) (@pa_cons _ _ _ _ _ (@pe_lst _ _ _ _ (@pa_nil _)) (@pa_cons _ _ _ _ _ (@pe_callTy _ _ _ _ _ _ _ _ _ call_tuple_of rfl T.z_tuple bt_tuple (@pa_cons _ _ _ _ _ (pv 2) (@pa_nil _) (by rfl)) (by decide) (by decide) (by rfl) (by rfl)) (@pa_cons _ _ _ _ _ (@pe_str _ _ _ _) (@pa_cons _ _ _ _ _ (@pe_int _ _ _ _) (@pa_cons _ _ _ _ _ (@pe_dnewK _ _) (@pa_cons _ _ _ _ _ (@pe_ix _ _ _ _ _ _ _ ix_LT (pv 2) (@pe_int _ _ _ _) (fun _ _ => rfl)) (@pa_cons _ _ _ _ _ (@pe_lst _ _ _ _ (@pa_cons _ _ _ _ _ (pv 2) (@pa_nil _) (by rfl))) (@pa_cons _ _ _ _ _ (@pe_bl _ _ _ _) (@pa_nil _) (by rfl)) (by rfl)) (by rfl)) (by rfl)) (by rfl)) (by rfl)) (by rfl)) (by rfl)) (by rfl))) (@pe_op _ _ _ _ _ _ _ _ op_mod (pv 7) (@pe_int _ _ _ _)) (fun _ _ => rfl)) (@pa_nil _) (by rfl)) (by decide) (by rfl) (by rfl)) (by intro _; rfl))) (@pss_one _ _ _ (@ps_ret _ _ _ _ (@pe_bl _ _ _ _))) (@pss_nil _)))) (by intro _; rfl)) (@pss_cons _ _ _ _ _ (@ps_if _ _ _ _ _ _ _ _ (@pt_cmpR _ _ _ _ _ _ _ _ op_gt (@pe_callB _ _ _ _ _ _ _ _ _ c_len rfl T.z_len bt_len (@pa_cons _ _ _ _ _ (pv 2) (@pa_nil _) (by rfl)) (by decide) (by decide) (by rfl) (by rfl)) (@pe_int _ _ _ _) (nomark _)) (@pss_one _ _ _ (@ps_ret _ _ _ _ (@pe_callO _ _ _ _ _ _ _ _ _ _ o_refused hr rfl (@pa_cons _ _ _ _ _ (pv 3) (@pa_nil _) (by rfl)) (by decide) (by rfl) (by rfl)))) (@pss_nil _)) (@pss_cons _ _ _ _ _ (@ps_set _ _ (i := 8) _ _ _ _ sc_law.nd rfl (by first | exact Or.inl rfl | exact Or.inr rfl) (@pe_lst _ _ _ _ (@pa_nil _)) (by rfl) (by first | exact .inl rfl | exact .inr rfl | assumption)) (@pss_cons _ _ _ _ _ (@ps_for _ _ _ _ _ _ _ _ PassesOwn.never rfl (@pi_list _ _ _ _ (pv 2)) (@pg_tup _ _ _ _ _ (n := 3) rfl (@pgs_cons _ _ _ _ _ (@pg_name _ _ (i := 9) _ sc_law.nd rfl (by first | exact Or.inl rfl | exact Or.inr rfl) (by first | exact .inl rfl | exact .inr rfl | assumption)) (@pgs_cons _ _ _ _ _ (@pg_name _ _ (i := 10) _ sc_law.nd rfl (by first | exact Or.inl rfl | exact Or.inr rfl) (by first | exact .inl rfl | exact .inr rfl | assumption)) (@pgs_cons _ _ _ _ _ (@pg_name _ _ (i := 11) _ sc_law.nd rfl (by first | exact Or.inl rfl | exact Or.inr rfl) (by first | exact .inl rfl | exact .inr rfl | assumption)) (@pgs_nil _) (by rfl)) (by rfl)) (by rfl)) (by rfl) (by rfl)) (@pss_one _ _ _ (@ps_set _ _ (i := 8) _ _ _ _ sc_law.nd rfl (by first | exact Or.inl rfl | exact Or.inr rfl) (@pe_op _ _ _ _ _ _ _ _ op_addA (pv 8) (@pe_lst _ _ _ _ (@pa_cons _ _ _ _ _ (pv 9) (@pa_cons _ _ _ _ _ (pv 10) (@pa_nil _) (by rfl)) (by rfl)))) (by rfl) (by first | exact .inl rfl | exact .inr rfl | assumption))) (by intro _; rfl)) (@pss_cons _ _ _ _ _ (@ps_set _ _ (i := 12) _ _ _ _ sc_law.nd rfl (by first | exact Or.inl rfl | exact Or.inr rfl) (@pe_callX _ _ _ _ _ _ _ _ _ _ _ _ o_net_of hr rfl passN (@pa_cons _ _ _ _ _ (pv 3) (@pa_nil _) (by rfl)) (by decide) (by rfl) (by rfl)) (by rfl) (by first | exact .inl rfl | exact .inr rfl | assumption)) (@pss_cons _ _ _ _ _ (@ps_if _ _ _ _ _ _ _ _ (@PW.pt _ _ _ (@pw_or _ _ _ _ _ _ _ (@pt_not _ _ _ _ (@pt_val _ _ _ (@pe_callO _ _ _ _ _ _ _ _ _ _ o_is_list hr rfl (@pa_cons _ _ _ _ _ (pv 12) (@pa_cons _ _ _ _ _ (pv 2) (@pa_nil _) (by rfl)) (by rfl)) (by decide) (by rfl) (by rfl)) (by intro _; rfl))) (@pw_or _ _ _ _ _ _ _ (@pt_not _ _ _ _ (@pt_val _ _ _ (@pe_callO _ _ _ _ _ _ _ _ _ _ o_is_list hr rfl (@pa_cons _ _ _ _ _ (@pe_callO _ _ _ _ _ _ _ _ _ _ o_posts_of hr rfl (@pa_cons _ _ _ _ _ (pv 3) (@pa_nil _) (by rfl)) (by decide) (by rfl) (by rfl)) (@pa_cons _ _ _ _ _ (@pe_callB _ _ _ _ _ _ _ _ _ (call_sortS rfl) rfl T.z_sorted bt_sorted (@pa_cons _ _ _ _ _ (@pe_callTy _ _ _ _ _ _ _ _ _ (call_setS rfl) rfl T.z_set bt_set (@pa_cons _ _ _ _ _ (pv 8) (@pa_nil _) (by rfl)) (by decide) (by decide) (by rfl) (by rfl)) (@pa_nil _) (by rfl)) (by decide) (by decide) (by rfl) (by rfl)) (@pa_nil _) (by rfl)) (by rfl)) (by decide) (by rfl) (by rfl)) (by intro _; rfl))) (@pw_or1 _ _ _ _ (@pt_cmpR _ _ _ _ _ _ _ _ (op_neA hr.units) (pv 3) (pv 2) (nomark _)))))) (@pss_one _ _ _ (@ps_ret _ _ _ _ (@pe_bl _ _ _ _))) (@pss_nil _)) (@pss_cons _ _ _ _ _ (@ps_expr _ _ _ _ (@pe_bm _ _ _ _ _ _ _ _ _ _ _ _ PySem.F.plainAttrs_list PySem.F.slot_list_append PySem.F.type_list_append mt_append (pv 12) (@pa_cons _ _ _ _ _ (@pe_non _ _ _) (@pa_nil _) (by rfl)) (by rfl) (by rfl) (by rfl) (by rfl) (by rfl)) (by rfl)) (@pss_cons _ _ _ _ _ (@ps_expr _ _ _ _ (@pe_bm _ _ _ _ _ _ _ _ _ _ _ _ PySem.F.plainAttrs_list PySem.F.slot_list_append PySem.F.type_list_append mt_append (@pe_callO _ _ _ _ _ _ _ _ _ _ o_posts_of hr rfl (@pa_cons _ _ _ _ _ (pv 3) (@pa_nil _) (by rfl)) (by decide) (by rfl) (by rfl)) (@pa_cons _ _ _ _ _ (@pe_str _ _ _ _) (@pa_nil _) (by rfl)) (by rfl) (by rfl) (by rfl) (by rfl) (by rfl)) (by rfl)) (@pss_one _ _ _ (@ps_ret _ _ _ _ (@pe_and _ _ _ _ _ _ _ (@pe_cmpR _ _ _ _ _ _ _ _ (op_eqA hr.units) (pv 3) (pv 2) (nomark _)) (@pe_and _ _ _ _ _ _ _ (@pe_callO _ _ _ _ _ _ _ _ _ _ o_is_list hr rfl (@pa_cons _ _ _ _ _ (@pe_callX _ _ _ _ _ _ _ _ _ _ _ _ o_net_of hr rfl passN (@pa_cons _ _ _ _ _ (pv 3) (@pa_nil _) (by rfl)) (by decide) (by rfl) (by rfl)) (@pa_cons _ _ _ _ _ (pv 2) (@pa_nil _) (by rfl)) (by rfl)) (by decide) (by rfl) (by rfl)) (@pe_one _ _ _ _ _ (@pe_callO _ _ _ _ _ _ _ _ _ _ o_is_list hr rfl (@pa_cons _ _ _ _ _ (@pe_callO _ _ _ _ _ _ _ _ _ _ o_posts_of hr rfl (@pa_cons _ _ _ _ _ (pv 3) (@pa_nil _) (by rfl)) (by decide) (by rfl) (by rfl)) (@pa_cons _ _ _ _ _ (@pe_callB _ _ _ _ _ _ _ _ _ (call_sortS rfl) rfl T.z_sorted bt_sorted (@pa_cons _ _ _ _ _ (@pe_callTy _ _ _ _ _ _ _ _ _ (call_setS rfl) rfl T.z_set bt_set (@pa_cons _ _ _ _ _ (pv 8) (@pa_nil _) (by rfl)) (by decide) (by decide) (by rfl) (by rfl)) (@pa_nil _) (by rfl)) (by decide) (by decide) (by rfl) (by rfl)) (@pa_nil _) (by rfl)) (by rfl)) (by decide) (by rfl) (by rfl)))))))))))))))))))), ?_⟩
    walk_at "go"
    refine ⟨a, ns, 2, rfl, hS, by decide, fun p H1 hp st1 s1 => ?_⟩
    walk_at "go"
    refine ⟨p, 2, a, ns, H, rfl, st1, by decide, s1, hp, hS, fun l H2 n U hl hL hn1 hn2 hrun hU hUn st2 k2 => ?_⟩
    have s2 : Same H H2 := Same.kpn hp s1 k2
    have hlp : l ≠ p := st1.nn hl
    obtain ⟨vn, hvn, pvn⟩ := id hL
    have hvl : vn.length = n.length := (Paired.length pvn).trans (by simp [kn])
    walk_at "go"
    refine l_lst hvn fun lh hlh => ?_
    have sh := Same.new (H := H2) (o := .lst vn) hlh
    have hvh := upd_same (H := H2) (a := lh) (o := .lst vn)
    have hlhp : lh ≠ p := st2.nn hlh
    have sth := st2.new (o := .lst vn) hlh
    generalize upd H2 lh (.lst vn) = H3 at sh hvh sth ⊢
    have hvn3 := sh _ _ hvn
    walk_at "go"
    refine ⟨p, (vn.length : Int) + 1, _, rfl, sth, by omega, by omega, by omega, fun r H4 r1 r2 st4 k4 => ?_⟩
    have hv4 := k4 _ _ hlp hvn3
    have hh4 := k4 _ _ hlhp hvh
    have tk4 : TK H2 H4 := sh.tk.trans (sth.tk k4)
    have s4 : Same H H4 := Same.kpn hp (s2.trans sh) k4
    have pv4 : Paired (RunQ H4) vn (kn n) := Pd.imp pvn fun v b h => h.tk tk4
    clear tk4 st4 k4 sth sh hvn pvn hL st2 k2 s2
    obtain ⟨r0, n', rfl⟩ : ∃ r0 n', n = r0 :: n' := by
      cases n with
      | nil => simp at hn1
      | cons r0 n' => exact ⟨r0, n', rfl⟩
    obtain ⟨v0, vn', rfl, q0⟩ : ∃ v0 vn', vn = v0 :: vn' ∧ RunQ H4 v0 (Sum.inr r0.1, Sum.inr r0.2.1, r0.2.2) := by
      cases pv4 with
      | cons h t => exact ⟨_, _, rfl, h⟩
    have e0 : atI (v0 :: vn') 0 = some v0 := by
      show atI (v0 :: vn') ((0 : Nat) : Int) = _
      exact atI_nat rfl
    have pb4 : ∀ {G : Hp}, Same H4 G → Paired (IsRunQ K G) (v0 :: vn') (List.replicate (r0 :: n').length true) := fun s => runs_are (Pd.imp pv4 fun v b h => h.tk s.tk) hrun
    walk_at "go"
    refine r_ixl hv4 e0 ?_
    walk_at "go"
    refine ⟨v0, r0, rfl, q0, hrun r0 (by simp), fun lw H5 vw hlw s5 hvw hwl hbad => ?_⟩
    walk_at "go"
    refine r_listK (SqL.of hvw) ?_
    generalize hvv : v0 :: vn' = vn at *
    generalize hnn : r0 :: n' = n at *
    refine r_forLp (xs := vw) (fun i σ G => ∃ o5 o6 o7 o8 o9 o10 o11 o12, σ = [some (.ref a), some (.ref p), some (.ref l), some (.ref lh), some (.int r), o5, o6, o7, o8, o9, o10, o11, o12] ∧ Same H5 G) ⟨_, _, _, _, _, _, _, _, rfl, Same.refl _⟩ ?_ ?_ ?_
    · rintro i σ G _ ⟨o5, o6, o7, o8, o9, o10, o11, o12, rfl, sG⟩
      exact SqL.of (sG _ _ hvw)
    · rintro P' rt bk hP i x σ G hx ⟨o5, o6, o7, o8, o9, o10, o11, o12, rfl, sG⟩
      have hxb := hbad x (List.mem_of_getElem? hx)
      have sG4 := s5.trans sG
      have hvG := sG4 _ _ hv4
      walk_at "go"
      refine s_lst hvG fun c1 g1 => ?_
      walk_at "go"
      refine r_lstK fun c2 g2 => ?_
      walk_at "go"
      have le1 := cutV_length vn none (some r)
      have le2 := cutV_length vn (some r) none
      refine a_lst (upd_old g2 upd_same) upd_same (by show _ + 1 ≤ 1000; omega) fun c3 g3 => ?_
      walk_at "go"
      refine s_lst (upd_old g3 (upd_old g2 (upd_old g1 hvG))) fun c4 g4 => ?_
      walk_at "go"
      refine a_lst (upd_old g4 upd_same) upd_same (by rw [List.length_append]; show _ + 1 + _ ≤ 1000; omega) fun c5 g5 => ?_
      walk_at "go"
      have b5 := ((((Same.new (H := G) (o := .lst (cutV vn none (some r))) g1).trans (Same.new (o := .lst [x]) g2)).trans (Same.new (o := .lst (cutV vn none (some r) ++ [x])) g3)).trans (Same.new (o := .lst (cutV vn (some r) none)) g4)).trans (Same.new (o := .lst (cutV vn none (some r) ++ [x] ++ cutV vn (some r) none)) g5)
      have pbG := pb4 (sG4.trans b5)
      refine ⟨_, rfl, .inl ⟨c5, _, ((List.drop _ (List.replicate n.length true)).take _) ++ [false] ++ ((List.drop _ (List.replicate n.length true)).take _), rfl, upd_same, pd_app (pd_app (Pd.cut pbG _ _) (.cons (hxb.sm (sG.trans b5)) .nil)) (Pd.cut pbG _ _), ?_, .inr (.inr (by simp))⟩, fun G1 s1' => ?_⟩
      · rw [List.length_append, List.length_append]
        show _ + 1 + _ ≤ 900
        omega
      walk_at "go"
      refine r_lstK fun c6 g6 => ?_
      walk_at "go"
      have b6 := (b5.trans s1').trans (Same.new (o := .lst [x]) g6)
      refine ⟨_, rfl, .inl ⟨c6, [x], [false], rfl, upd_same, .cons (hxb.sm (sG.trans b6)) .nil, (show 1 ≤ 900 by decide), .inr (.inr (by simp))⟩, fun G2 s2' => ?_⟩
      walk_at "go"
      exact hP _ _ _ ⟨_, _, _, _, _, _, _, _, rfl, (sG.trans b6).trans s2'⟩
    · rintro σ G ⟨o5, o6, o7, o8, o9, o10, o11, o12, rfl, sG⟩
      have sG4 := s5.trans sG
      have sGH := s4.trans sG4
      walk_at "go"
      refine r_lenL (sGH.seq hS) ?_
      walk_at "go"
      rw [List.length_map]
      refine r_rng2K (by decide) (by decide) (by (repeat' split) <;> omega) (by (repeat' split) <;> omega) ?_
      generalize Int.toNat _ = N
      refine r_forRp (n := N) (fun i σ F => ∃ o5 o6 o7 o8 o9 o10 o11 o12, σ = [some (.ref a), some (.ref p), some (.ref l), some (.ref lh), some (.int r), o5, o6, o7, o8, o9, o10, o11, o12] ∧ Same G F) ⟨_, _, _, _, _, _, _, _, rfl, Same.refl _⟩ ?_ ?_
      · rintro P' rt bk hP i σ F hi ⟨o5, o6, o7, o8, o9, o10, o11, o12, rfl, sF⟩
        have sF4 := sG4.trans sF
        have hvF := sF4 _ _ hv4
        walk_at "go"
        refine ⟨a, ns, _, rfl, (sGH.trans sF).seq hS, by omega, fun c => ?_⟩
        walk_at "go"
        refine r_lstK fun c1 g1 => ?_
        walk_at "go"
        have b1 := Same.new (H := F) (o := .lst []) g1
        refine ⟨l, vn, rfl, .inl ⟨SqL.of (b1 _ _ hvF), fun c2 g2 => ?_⟩⟩
        have b2 := b1.trans (Same.new (o := .tup vn) g2)
        walk_at "go"
        refine r_dnew fun c3 g3 => ?_
        have b3 := b2.trans (Same.new (o := .dK []) g3)
        walk_at "go"
        refine r_ixl (b3 _ _ hvF) e0 ?_
        walk_at "go"
        refine r_lstK fun c4 g4 => ?_
        have b4 := b3.trans (Same.new (o := .lst [.ref l]) g4)
        walk_at "go"
        refine r_lstK fun c5 g5 => ?_
        walk_at "go"
        have hc9 : 0 ≤ c % 9 ∧ c % 9 < 9 := by omega
        generalize c % 9 = c9 at hc9 ⊢
        obtain ⟨z, hz, ez⟩ := pickV (xs := [V.non, V.ref c1, V.ref c2, V.str (Str.ofString "a b 1"), V.int 5, V.ref c3, v0, V.ref c4, V.bl true]) hc9.1 hc9.2
        refine r_ixl upd_same ez ?_
        have b5 := b4.trans (Same.new (o := .lst [V.non, V.ref c1, V.ref c2, V.str (Str.ofString "a b 1"), V.int 5, V.ref c3, v0, V.ref c4, V.bl true]) g5)
        have hbz : NetBad K (upd (upd (upd (upd (upd F c1 (.lst [])) c2 (.tup vn)) c3 (.dK [])) c4 (.lst [.ref l])) c5 (.lst [V.non, V.ref c1, V.ref c2, V.str (Str.ofString "a b 1"), V.int 5, V.ref c3, v0, V.ref c4, V.bl true])) z := by
          simp only [List.mem_cons, List.not_mem_nil, or_false] at hz
          rcases hz with rfl | rfl | rfl | rfl | rfl | rfl | rfl | rfl | rfl
          · exact .inr ⟨_, .non, kit_NoneType_list⟩
          · exact .inl ⟨c1, [], [], rfl, by walk_at "hp", .nil, by decide, .inl rfl⟩
          · exact .inr ⟨_, .tup (a := c2) (xs := vn) (by walk_at "hp"), kit_tuple_list⟩
          · exact .inr ⟨_, .str _, kit_str_list⟩
          · exact .inr ⟨_, .int _, kit_int_list⟩
          · exact .inr ⟨_, .dK (a := c3) (kvs := []) (by walk_at "hp"), kit_dict_list⟩
          · obtain ⟨pz, u, rfl, hpz, _⟩ := q0.tk (sF4.trans b5).tk
            exact .inr ⟨_, .tup hpz, kit_tuple_list⟩
          · exact .inl ⟨c4, [.ref l], [false], rfl, by walk_at "hp", .cons (.nt (NT.lst (b5 _ _ hvF))) .nil, (show 1 ≤ 900 by decide), .inr (.inr (by simp))⟩
          · exact .inr ⟨_, .bl _, kit_bool_list⟩
        generalize upd (upd (upd (upd (upd F c1 (.lst [])) c2 (.tup vn)) c3 (.dK [])) c4 (.lst [.ref l])) c5 (.lst [V.non, V.ref c1, V.ref c2, V.str (Str.ofString "a b 1"), V.int 5, V.ref c3, v0, V.ref c4, V.bl true]) = F5 at hbz b5 ⊢
        walk_at "go"
        refine ⟨z, rfl, hbz, fun F6 s6 => ?_⟩
        walk_at "go"
        exact hP _ _ _ ⟨_, _, _, _, _, _, _, _, rfl, (sF.trans b5).trans s6⟩
      · rintro σ F ⟨o5, o6, o7, o8, o9, o10, o11, o12, rfl, sF⟩
        have sF4 := sG4.trans sF
        have hvF := sF4 _ _ hv4
        have hhF := sF4 _ _ hh4
        walk_at "go"
        refine i_d (fun c120 => ?_) (fun c120 => ?_)
        · walk_at "go"
          refine ⟨_, rfl, .inl ⟨lh, vn, _, rfl, hhF, pb4 sF4, by omega, .inr (.inl (by omega))⟩, fun F1 s1' => ?_⟩
          walk_at "go"
          exact q _
        · walk_at "go"
          refine r_lstK fun le0 ge0 => ?_
          walk_at "go"
          have pvF : Paired (RunQ F) vn (kn n) := Pd.imp pv4 fun v b h => h.tk sF4.tk
          refine r_listK (SqL.of (upd_old ge0 hvF)) ?_
          refine r_forLp (xs := vn) (fun i σ G => ∃ le o5 o6 o7 o9 o10 o11 o12, σ = [some (.ref a), some (.ref p), some (.ref l), some (.ref lh), some (.int r), o5, o6, o7, some (.ref le), o9, o10, o11, o12] ∧ Same F G ∧ G le = some (.lst (((n.take i).flatMap fun r => [r.1, r.2.1]).map V.str))) ⟨_, _, _, _, _, _, _, _, rfl, Same.new ge0, upd_same⟩ ?_ ?_ ?_
          · rintro i σ G _ ⟨le, o5, o6, o7, o9, o10, o11, o12, rfl, sG', _⟩
            exact SqL.of (sG' _ _ hvF)
          · rintro P' rt bk hP i x σ G hx ⟨le, o5, o6, o7, o9, o10, o11, o12, rfl, sG', hle⟩
            obtain ⟨kr, hkr, px, u, rfl, hpx, fu⟩ := Paired.at pvF hx
            obtain ⟨sr, hsr, rfl⟩ := kn_at hkr
            have hpx' := sG' _ _ hpx
            walk_at "go"
            refine r_lstK fun c1 g1 => ?_
            walk_at "go"
            have hi : i < n.length := (List.getElem?_eq_some_iff.mp hsr).1
            have hll : ((n.take i).flatMap fun r => [r.1, r.2.1]).length = 2 * i := by
              rw [List.length_flatMap]
              have : ((n.take i).map fun r => ([r.1, r.2.1] : List Str).length) = List.replicate i 2 := by
                rw [show (fun r : TRun => ([r.1, r.2.1] : List Str).length) = fun _ => 2 from rfl, List.map_const', List.length_take]
                congr 1
                omega
              rw [this, List.sum_replicate_nat]
              omega
            refine a_lst (upd_old g1 hle) upd_same (by rw [List.length_map, hll]; show _ + 2 ≤ 1000; omega) fun c2 g2 => ?_
            walk_at "go"
            refine hP _ _ _ ⟨_, _, _, _, _, _, _, _, rfl, (sG'.trans (Same.new g1)).trans (Same.new g2), ?_⟩
            rw [upd_same, List.take_succ_eq_append_getElem hi, List.flatMap_append, List.map_append, show n[i] = sr from (List.getElem?_eq_some_iff.mp hsr).2]
            rfl
          · rintro σ G ⟨le, o5, o6, o7, o9, o10, o11, o12, rfl, sG', hle⟩
            rw [hvl, List.take_length] at hle
            have mem2 : ∀ z, z ∈ (n.flatMap fun r => [r.1, r.2.1]) ↔ z ∈ names n := fun z => by
              rw [names, List.mem_flatMap, List.mem_append, List.mem_map, List.mem_map]
              constructor
              · rintro ⟨r, hr, hz⟩
                simp only [List.mem_cons, List.not_mem_nil, or_false] at hz
                rcases hz with rfl | rfl
                · exact .inl ⟨r, hr, rfl⟩
                · exact .inr ⟨r, hr, rfl⟩
              · rintro (⟨r, hr, rfl⟩ | ⟨r, hr, rfl⟩)
                · exact ⟨r, hr, by simp⟩
                · exact ⟨r, hr, by simp⟩
            have hflen : (n.flatMap fun r => [r.1, r.2.1]).length ≤ 4000 := by
              have h1 : (n.flatMap fun r => [r.1, r.2.1]).length = 2 * n.length := by
                rw [List.length_flatMap]
                have : (n.map fun r => ([r.1, r.2.1] : List Str).length) = List.replicate n.length 2 := by
                  rw [show (fun r : TRun => ([r.1, r.2.1] : List Str).length) = fun _ => 2 from rfl, List.map_const']
                rw [this, List.sum_replicate_nat]
                omega
              omega
            generalize (n.flatMap fun r => [r.1, r.2.1]) = ends at hle mem2 hflen
            have nruns : n.length ≤ 120 := by omega
            have hh5 := sG' _ _ hhF
            have hv5 := sG' _ _ hvF
            have sG5 := sF4.trans sG'
            have pv5 : Paired (RunQ G) vn (kn n) := Pd.imp pv4 fun v b h => h.tk sG5.tk
            have lqh : ∀ {G1 : Hp}, Same G G1 → LQ RunQ G1 lh (kn n) := fun s => ⟨vn, s _ _ hh5, Pd.imp pv5 fun v b h => h.tk s.tk⟩
            have lql : ∀ {G1 : Hp}, Same G G1 → LQ RunQ G1 l (kn n) := fun s => ⟨vn, s _ _ hv5, Pd.imp pv5 fun v b h => h.tk s.tk⟩
            have denr : ∀ {G1 : Hp} {l1 : Addr} {vs1 : List V}, G1 l1 = some (.lst vs1) → Paired (RunQ G1) vs1 (kn n) → Den G1 (.lst (n.map dRun)) (.ref l1) := fun h1 h2 => ⟨_, _, rfl, h1, den_runs h2⟩
            have dens : ∀ {G1 : Hp} {l1 : Addr} {ys : List Str}, G1 l1 = some (.lst (ys.map V.str)) → Den G1 (.lst (ys.map Dt.str)) (.ref l1) := fun {G1 l1 ys} h1 => ⟨_, _, rfl, h1, den_strs6 ys⟩
            have depr : depL (n.map dRun) ≤ 50 := Nat.le_trans (dep_runs n) (by decide)
            walk_at "go"
            refine ⟨_, rfl, .inl ⟨lh, vn, _, rfl, hh5, pb4 sG5, by omega, by omega, fun b hb => List.eq_of_mem_replicate hb, fun lf G1 hf sf hvf => ?_⟩⟩
            walk_at "go"
            refine ⟨lf, l, n.map dRun, rfl, denr hvf (Pd.imp pv5 fun v b h => h.tk sf.tk), denr (sf _ _ hv5) (Pd.imp pv5 fun v b h => h.tk sf.tk), depr, ?_⟩
            walk_at "go"
            refine ⟨lh, n, U, rfl, lqh sf, nruns, hU, hUn, fun lp G2 ys hlp2 sp2 hys srt nd mem => ?_⟩
            walk_at "go"
            refine ⟨le, ends, rfl, sp2 _ _ (sf _ _ hle), hflen, fun c4 zs h4 nd4 hz => ?_⟩
            have mem4 : ∀ z, z ∈ zs ↔ z ∈ names n := fun z => (hz z).trans (mem2 z)
            walk_at "go"
            refine ⟨c4, zs, rfl, .inl upd_same, Nat.lt_of_le_of_lt (nd_len nd4 fun x hx => hUn x ((mem4 x).mp hx)) hU, fun c5 us h5 hpm hs => ?_⟩
            have eus : us = ys := sorted_same hs srt (hpm.nodup_iff.mpr nd4) nd fun z => ((hpm.mem_iff).trans (mem4 z)).trans (mem z).symm
            subst eus
            walk_at "go"
            refine ⟨lp, c5, us.map Dt.str, rfl, dens (upd_old h5 (upd_old h4 hys)), dens upd_same, dep_strs6 us, ?_⟩
            have S3 : Same G (upd (upd G2 c4 (SetS w c4 zs)) c5 (.lst (us.map V.str))) := ((sf.trans sp2).trans (Same.new h4)).trans (Same.new h5)
            have hf3 : (upd (upd G2 c4 (SetS w c4 zs)) c5 (.lst (us.map V.str))) lf = some (.lst vn) := upd_old h5 (upd_old h4 (sp2 _ _ hvf))
            walk_at "go"
            refine n_nets (lqh S3) (lql S3) ?_
            walk_at "go"
            refine r_bmL hf3 ?_
            walk_at "go"
            refine r_app hf3 (by omega) ?_
            have tk3 : TK (upd (upd G2 c4 (SetS w c4 zs)) c5 (.lst (us.map V.str))) (upd (upd (upd G2 c4 (SetS w c4 zs)) c5 (.lst (us.map V.str))) lf (.lst (vn ++ [.non]))) := TK.lst hf3
            have pv6 : Paired (RunQ (upd (upd (upd G2 c4 (SetS w c4 zs)) c5 (.lst (us.map V.str))) lf (.lst (vn ++ [.non])))) vn (kn n) := Pd.imp pv5 fun v b h => h.tk (S3.tk.trans tk3)
            have h6 : ∀ {b : Addr} {o : HO}, G b = some o → (upd (upd (upd G2 c4 (SetS w c4 zs)) c5 (.lst (us.map V.str))) lf (.lst (vn ++ [.non]))) b = some o := fun {b o} hb => by
              rw [upd_ne (ne_of_none hb hf)]
              exact S3 _ _ hb
            have hh6 := h6 hh5
            have hv6 := h6 hv5
            have he6 := h6 hle
            walk_at "go"
            refine ⟨lh, n, U, rfl, ⟨vn, hh6, pv6⟩, nruns, hU, hUn, fun lp2 G4 ys2 hlp4 sp4 hys2 srt2 nd2 mem2' => ?_⟩
            walk_at "go"
            refine r_app hys2 (by
              rw [List.length_map]
              have := nd_len nd2 fun x hx => hUn x ((mem2' x).mp hx)
              omega) ?_
            have sp5 := Kp.sm (Kp.upd (p := lp2) (H := G4) (o := .lst (ys2.map V.str ++ [.str (Str.ofString "")]))) sp4 hlp4
            generalize upd G4 lp2 (.lst (ys2.map V.str ++ [.str (Str.ofString "")])) = G5 at sp5 ⊢
            have pv7 : Paired (RunQ G5) vn (kn n) := Pd.imp pv6 fun v b h => h.tk sp5.tk
            have hh7 := sp5 _ _ hh6
            have hv7 := sp5 _ _ hv6
            have he7 := sp5 _ _ he6
            clear sp5 sp4 hys2 hlp4 pv6 tk3 h6
            walk_at "go"
            refine e_nets ⟨vn, hh7, pv7⟩ ⟨vn, hv7, pv7⟩ ?_
            walk_at "go"
            refine ⟨_, rfl, .inl ⟨lh, vn, _, rfl, hh7, runs_are pv7 hrun, by omega, by omega, fun b hb => List.eq_of_mem_replicate hb, fun lf2 G8 hf8 sf8 hvf8 => ?_⟩⟩
            have pv8 : Paired (RunQ G8) vn (kn n) := Pd.imp pv7 fun v b h => h.tk sf8.tk
            walk_at "go"
            refine ⟨lf2, l, n.map dRun, rfl, denr hvf8 pv8, denr (sf8 _ _ hv7) pv8, depr, ?_⟩
            walk_at "go"
            refine ⟨lh, n, U, rfl, ⟨vn, sf8 _ _ hh7, pv8⟩, nruns, hU, hUn, fun lp3 G9 ys3 hlp9 sp9 hys3 srt3 nd3 mem3 => ?_⟩
            walk_at "go"
            refine ⟨le, ends, rfl, sp9 _ _ (sf8 _ _ he7), hflen, fun c7 zs7 h7 nd7 hz7 => ?_⟩
            have mem7 : ∀ z, z ∈ zs7 ↔ z ∈ names n := fun z => (hz7 z).trans (mem2 z)
            walk_at "go"
            refine ⟨c7, zs7, rfl, .inl upd_same, Nat.lt_of_le_of_lt (nd_len nd7 fun x hx => hUn x ((mem7 x).mp hx)) hU, fun c8 us8 h8 hpm8 hs8 => ?_⟩
            have eus8 : us8 = ys3 := sorted_same hs8 srt3 (hpm8.nodup_iff.mpr nd7) nd3 fun z => ((hpm8.mem_iff).trans (mem7 z)).trans (mem3 z).symm
            subst eus8
            walk_at "go"
            refine ⟨lp3, c8, us8.map Dt.str, rfl, dens (upd_old h8 (upd_old h7 hys3)), dens upd_same, dep_strs6 us8, ?_⟩
            exact q _
end
set_option maxHeartbeats 0 in
theorem all_mk {l : PySem.W.OpenLaw} {w : World} {K : PySem.W.Frag} {h : Heap} {mg : Str → Option Value} {fa : Addr} (X : K.In h) (G : h.Ns mainGlobals mg) (hfa : mg "law" = some (.ref fa)) {f0 : Addr} {oc0 : Value} {od0 an0 : Option Addr} {sl0 : Array (Option Value)} {kV0 dc0 pm0 cd0 ct0 : Value} {f1 : Addr} {oc1 : Value} {od1 an1 : Option Addr} {sl1 : Array (Option Value)} {kV1 dc1 pm1 cd1 ct1 : Value} {f2 : Addr} {oc2 : Value} {od2 an2 : Option Addr} {sl2 : Array (Option Value)} {kV2 dc2 pm2 cd2 ct2 : Value} {f3 : Addr} {oc3 : Value} {od3 an3 : Option Addr} {sl3 : Array (Option Value)} {kV3 dc3 pm3 cd3 ct3 : Value} {f4 : Addr} {oc4 : Value} {od4 an4 : Option Addr} {sl4 : Array (Option Value)} {kV4 dc4 pm4 cd4 ct4 : Value} {f5 : Addr} {oc5 : Value} {od5 an5 : Option Addr} {sl5 : Array (Option Value)} {kV5 dc5 pm5 cd5 ct5 : Value} {f6 : Addr} {oc6 : Value} {od6 an6 : Option Addr} {sl6 : Array (Option Value)} {kV6 dc6 pm6 cd6 ct6 : Value} {f7 : Addr} {oc7 : Value} {od7 an7 : Option Addr} {sl7 : Array (Option Value)} {kV7 dc7 pm7 cd7 ct7 : Value} {f8 : Addr} {oc8 : Value} {od8 an8 : Option Addr} {sl8 : Array (Option Value)} {kV8 dc8 pm8 cd8 ct8 : Value} {f9 : Addr} {oc9 : Value} {od9 an9 : Option Addr} {sl9 : Array (Option Value)} {kV9 dc9 pm9 cd9 ct9 : Value} {f10 : Addr} {oc10 : Value} {od10 an10 : Option Addr} {sl10 : Array (Option Value)} {kV10 dc10 pm10 cd10 ct10 : Value} {f11 : Addr} {oc11 : Value} {od11 an11 : Option Addr} {sl11 : Array (Option Value)} {kV11 dc11 pm11 cd11 ct11 : Value} {f12 : Addr} {oc12 : Value} {od12 an12 : Option Addr} {sl12 : Array (Option Value)} {kV12 dc12 pm12 cd12 ct12 : Value} {f13 : Addr} {oc13 : Value} {od13 an13 : Option Addr} {sl13 : Array (Option Value)} {kV13 dc13 pm13 cd13 ct13 : Value} {f14 : Addr} {oc14 : Value} {od14 an14 : Option Addr} {sl14 : Array (Option Value)} {kV14 dc14 pm14 cd14 ct14 : Value} {f15 : Addr} {oc15 : Value} {od15 an15 : Option Addr} {sl15 : Array (Option Value)} {kV15 dc15 pm15 cd15 ct15 : Value} {f16 : Addr} {oc16 : Value} {od16 an16 : Option Addr} {sl16 : Array (Option Value)} {kV16 dc16 pm16 cd16 ct16 : Value} {f17 : Addr} {oc17 : Value} {od17 an17 : Option Addr} {sl17 : Array (Option Value)} {kV17 dc17 pm17 cd17 ct17 : Value} {f18 : Addr} {oc18 : Value} {od18 an18 : Option Addr} {sl18 : Array (Option Value)} {kV18 dc18 pm18 cd18 ct18 : Value} {f19 : Addr} {oc19 : Value} {od19 an19 : Option Addr} {sl19 : Array (Option Value)} {kV19 dc19 pm19 cd19 ct19 : Value} {f20 : Addr} {oc20 : Value} {od20 an20 : Option Addr} {sl20 : Array (Option Value)} {kV20 dc20 pm20 cd20 ct20 : Value} {xt x0 x1 x2 x3 x4 x5 x6 x7 x8 x9 x10 x11 : Addr} {cd_NoNet : ClassData} {tk_LETTERS : Tok} {tk_MOST_LETTERS : Tok} {tk_MOST_PARTS : Tok} {tk_MOST_RUNS : Tok}
    (a0 : PySem.W.nsIn K mainGlobals "is_whole" = some (some (.ref f0))) (l0 : K.lookup f0 = some ⟨oc0, od0, .func (PySem.W.fnOf "is_whole" "is_whole" (defArgs s_is_whole) (defBody s_is_whole) (defScope s_is_whole) .none kV0 dc0 pm0 an0 cd0 ct0), sl0⟩) (c0 : PySem.W.codeIn K cd0 "is_whole" = true) (k0 : PySem.W.keepIn K (.ref f0) = true)
    (a1 : PySem.W.nsIn K mainGlobals "common_divisor" = some (some (.ref f1))) (l1 : K.lookup f1 = some ⟨oc1, od1, .func (PySem.W.fnOf "common_divisor" "common_divisor" (defArgs s_common_divisor) (defBody s_common_divisor) (defScope s_common_divisor) .none kV1 dc1 pm1 an1 cd1 ct1), sl1⟩) (c1 : PySem.W.codeIn K cd1 "common_divisor" = true) (k1 : PySem.W.keepIn K (.ref f1) = true)
    (a2 : PySem.W.nsIn K mainGlobals "is_fraction" = some (some (.ref f2))) (l2 : K.lookup f2 = some ⟨oc2, od2, .func (PySem.W.fnOf "is_fraction" "is_fraction" (defArgs s_is_fraction) (defBody s_is_fraction) (defScope s_is_fraction) .none kV2 dc2 pm2 an2 cd2 ct2), sl2⟩) (c2 : PySem.W.codeIn K cd2 "is_fraction" = true) (k2 : PySem.W.keepIn K (.ref f2) = true)
    (a3 : PySem.W.nsIn K mainGlobals "is_less" = some (some (.ref f3))) (l3 : K.lookup f3 = some ⟨oc3, od3, .func (PySem.W.fnOf "is_less" "is_less" (defArgs s_is_less) (defBody s_is_less) (defScope s_is_less) .none kV3 dc3 pm3 an3 cd3 ct3), sl3⟩) (c3 : PySem.W.codeIn K cd3 "is_less" = true) (k3 : PySem.W.keepIn K (.ref f3) = true)
    (a4 : PySem.W.nsIn K mainGlobals "is_part" = some (some (.ref f4))) (l4 : K.lookup f4 = some ⟨oc4, od4, .func (PySem.W.fnOf "is_part" "is_part" (defArgs s_is_part) (defBody s_is_part) (defScope s_is_part) .none kV4 dc4 pm4 an4 cd4 ct4), sl4⟩) (c4 : PySem.W.codeIn K cd4 "is_part" = true) (k4 : PySem.W.keepIn K (.ref f4) = true)
    (a5 : PySem.W.nsIn K mainGlobals "is_post" = some (some (.ref f5))) (l5 : K.lookup f5 = some ⟨oc5, od5, .func (PySem.W.fnOf "is_post" "is_post" (defArgs s_is_post) (defBody s_is_post) (defScope s_is_post) .none kV5 dc5 pm5 an5 cd5 ct5), sl5⟩) (c5 : PySem.W.codeIn K cd5 "is_post" = true) (k5 : PySem.W.keepIn K (.ref f5) = true)
    (a6 : PySem.W.nsIn K mainGlobals "is_run" = some (some (.ref f6))) (l6 : K.lookup f6 = some ⟨oc6, od6, .func (PySem.W.fnOf "is_run" "is_run" (defArgs s_is_run) (defBody s_is_run) (defScope s_is_run) .none kV6 dc6 pm6 an6 cd6 ct6), sl6⟩) (c6 : PySem.W.codeIn K cd6 "is_run" = true) (k6 : PySem.W.keepIn K (.ref f6) = true)
    (a7 : PySem.W.nsIn K mainGlobals "net_of" = some (some (.ref f7))) (l7 : K.lookup f7 = some ⟨oc7, od7, .func (PySem.W.fnOf "net_of" "net_of" (defArgs s_net_of) (defBody s_net_of) (defScope s_net_of) .none kV7 dc7 pm7 an7 cd7 ct7), sl7⟩) (c7 : PySem.W.codeIn K cd7 "net_of" = true) (k7 : PySem.W.keepIn K (.ref f7) = true)
    (a8 : PySem.W.nsIn K mainGlobals "posts_of" = some (some (.ref f8))) (l8 : K.lookup f8 = some ⟨oc8, od8, .func (PySem.W.fnOf "posts_of" "posts_of" (defArgs s_posts_of) (defBody s_posts_of) (defScope s_posts_of) .none kV8 dc8 pm8 an8 cd8 ct8), sl8⟩) (c8 : PySem.W.codeIn K cd8 "posts_of" = true) (k8 : PySem.W.keepIn K (.ref f8) = true)
    (a9 : PySem.W.nsIn K mainGlobals "_law_cell_at" = some (some (.ref f9))) (l9 : K.lookup f9 = some ⟨oc9, od9, .func (PySem.W.fnOf "_law_cell_at" "_law_cell_at" (defArgs s_cell_at) (defBody s_cell_at) (defScope s_cell_at) .none kV9 dc9 pm9 an9 cd9 ct9), sl9⟩) (c9 : PySem.W.codeIn K cd9 "_law_cell_at" = true) (k9 : PySem.W.keepIn K (.ref f9) = true)
    (a10 : PySem.W.nsIn K mainGlobals "_law_begun" = some (some (.ref f10))) (l10 : K.lookup f10 = some ⟨oc10, od10, .func (PySem.W.fnOf "_law_begun" "_law_begun" (defArgs s_begun) (defBody s_begun) (defScope s_begun) .none kV10 dc10 pm10 an10 cd10 ct10), sl10⟩) (c10 : PySem.W.codeIn K cd10 "_law_begun" = true) (k10 : PySem.W.keepIn K (.ref f10) = true)
    (a11 : PySem.W.nsIn K mainGlobals "_law_draw" = some (some (.ref f11))) (l11 : K.lookup f11 = some ⟨oc11, od11, .func (PySem.W.fnOf "_law_draw" "_law_draw" (defArgs s_draw) (defBody s_draw) (defScope s_draw) .none kV11 dc11 pm11 an11 cd11 ct11), sl11⟩) (c11 : PySem.W.codeIn K cd11 "_law_draw" = true) (k11 : PySem.W.keepIn K (.ref f11) = true)
    (a12 : PySem.W.nsIn K mainGlobals "_law_low" = some (some (.ref f12))) (l12 : K.lookup f12 = some ⟨oc12, od12, .func (PySem.W.fnOf "_law_low" "_law_low" (defArgs s_low) (defBody s_low) (defScope s_low) .none kV12 dc12 pm12 an12 cd12 ct12), sl12⟩) (c12 : PySem.W.codeIn K cd12 "_law_low" = true) (k12 : PySem.W.keepIn K (.ref f12) = true)
    (a13 : PySem.W.nsIn K mainGlobals "_law_only" = some (some (.ref f13))) (l13 : K.lookup f13 = some ⟨oc13, od13, .func (PySem.W.fnOf "_law_only" "_law_only" (defArgs s_only) (defBody s_only) (defScope s_only) .none kV13 dc13 pm13 an13 cd13 ct13), sl13⟩) (c13 : PySem.W.codeIn K cd13 "_law_only" = true) (k13 : PySem.W.keepIn K (.ref f13) = true)
    (a14 : PySem.W.nsIn K mainGlobals "_law_part" = some (some (.ref f14))) (l14 : K.lookup f14 = some ⟨oc14, od14, .func (PySem.W.fnOf "_law_part" "_law_part" (defArgs s_part) (defBody s_part) (defScope s_part) .none kV14 dc14 pm14 an14 cd14 ct14), sl14⟩) (c14 : PySem.W.codeIn K cd14 "_law_part" = true) (k14 : PySem.W.keepIn K (.ref f14) = true)
    (a15 : PySem.W.nsIn K mainGlobals "_law_name" = some (some (.ref f15))) (l15 : K.lookup f15 = some ⟨oc15, od15, .func (PySem.W.fnOf "_law_name" "_law_name" (defArgs s_name) (defBody s_name) (defScope s_name) .none kV15 dc15 pm15 an15 cd15 ct15), sl15⟩) (c15 : PySem.W.codeIn K cd15 "_law_name" = true) (k15 : PySem.W.keepIn K (.ref f15) = true)
    (a16 : PySem.W.nsIn K mainGlobals "_law_runs" = some (some (.ref f16))) (l16 : K.lookup f16 = some ⟨oc16, od16, .func (PySem.W.fnOf "_law_runs" "_law_runs" (defArgs s_runs) (defBody s_runs) (defScope s_runs) .none kV16 dc16 pm16 an16 cd16 ct16), sl16⟩) (c16 : PySem.W.codeIn K cd16 "_law_runs" = true) (k16 : PySem.W.keepIn K (.ref f16) = true)
    (a17 : PySem.W.nsIn K mainGlobals "_law_no_runs" = some (some (.ref f17))) (l17 : K.lookup f17 = some ⟨oc17, od17, .func (PySem.W.fnOf "_law_no_runs" "_law_no_runs" (defArgs s_no_runs) (defBody s_no_runs) (defScope s_no_runs) .none kV17 dc17 pm17 an17 cd17 ct17), sl17⟩) (c17 : PySem.W.codeIn K cd17 "_law_no_runs" = true) (k17 : PySem.W.keepIn K (.ref f17) = true)
    (a18 : PySem.W.nsIn K mainGlobals "_law_refused" = some (some (.ref f18))) (l18 : K.lookup f18 = some ⟨oc18, od18, .func (PySem.W.fnOf "_law_refused" "_law_refused" (defArgs s_refused) (defBody s_refused) (defScope s_refused) .none kV18 dc18 pm18 an18 cd18 ct18), sl18⟩) (c18 : PySem.W.codeIn K cd18 "_law_refused" = true) (k18 : PySem.W.keepIn K (.ref f18) = true)
    (a19 : PySem.W.nsIn K mainGlobals "_law_is_list" = some (some (.ref f19))) (l19 : K.lookup f19 = some ⟨oc19, od19, .func (PySem.W.fnOf "_law_is_list" "_law_is_list" (defArgs s_is_list) (defBody s_is_list) (defScope s_is_list) .none kV19 dc19 pm19 an19 cd19 ct19), sl19⟩) (c19 : PySem.W.codeIn K cd19 "_law_is_list" = true) (k19 : PySem.W.keepIn K (.ref f19) = true)
    (a20 : PySem.W.nsIn K mainGlobals "law" = some (some (.ref f20))) (l20 : K.lookup f20 = some ⟨oc20, od20, .func (PySem.W.fnOf "law" "law" (defArgs s_law) (defBody s_law) (defScope s_law) .none kV20 dc20 pm20 an20 cd20 ct20), sl20⟩) (c20 : PySem.W.codeIn K cd20 "law" = true) (k20 : PySem.W.keepIn K (.ref f20) = true)
    (bT : PySem.W.nsIn K mainGlobals "TileError" = some (some (.ref xt))) (b0 : PySem.W.nsIn K mainGlobals "NoNumber" = some (some (.ref x0))) (b1 : PySem.W.nsIn K mainGlobals "NoNet" = some (some (.ref x1))) (b2 : PySem.W.nsIn K mainGlobals "NoBell" = some (some (.ref x2))) (b3 : PySem.W.nsIn K mainGlobals "NoSum" = some (some (.ref x3))) (b4 : PySem.W.nsIn K mainGlobals "TooMany" = some (some (.ref x4))) (b5 : PySem.W.nsIn K mainGlobals "NoText" = some (some (.ref x5))) (b6 : PySem.W.nsIn K mainGlobals "NoPost" = some (some (.ref x6))) (b7 : PySem.W.nsIn K mainGlobals "Fallen" = some (some (.ref x7))) (b8 : PySem.W.nsIn K mainGlobals "NoRun" = some (some (.ref x8))) (b9 : PySem.W.nsIn K mainGlobals "Gone" = some (some (.ref x9))) (b10 : PySem.W.nsIn K mainGlobals "NoRow" = some (some (.ref x10))) (b11 : PySem.W.nsIn K mainGlobals "NoWish" = some (some (.ref x11))) (zV : PySem.W.nsIn K mainGlobals "ValueError" = some none)
    (ga_NoNet : PySem.W.findIn K (.ref x1) "__getattribute__" = some (some (.builtin "BaseException.__getattribute__"))) (gt_NoNet : PySem.W.findIn K (.ref x1) "__getattr__" = some none) (ca_NoNet : PySem.W.findIn K (.ref x1) "__class__" = some (some (.builtin "object.__class__"))) (ob_NoNet : PySem.W.subIn K (.ref x1) (.type "object") = some true) (be_NoNet : PySem.W.subIn K (.ref x1) (.type "BaseException") = some true) (ic_NoNet : PySem.W.clsIn K x1 = some cd_NoNet) (ex_NoNet : PySem.W.excIn K x1 bmVE "ValueError.__new__" = true) (ve_NoNet : PySem.W.kitOne K (.ref x1) (.type "ValueError") = some true) (tt_NoNet : PySem.W.exmOne K (.ref x1) (.ref xt) = some true)
    (k0_NoNet : PySem.W.kitOne K (.ref x1) (.ref x0) = some (Nat.beq 0 1)) (k1_NoNet : PySem.W.kitOne K (.ref x1) (.ref x1) = some (Nat.beq 1 1)) (k2_NoNet : PySem.W.kitOne K (.ref x1) (.ref x2) = some (Nat.beq 2 1)) (k3_NoNet : PySem.W.kitOne K (.ref x1) (.ref x3) = some (Nat.beq 3 1)) (k4_NoNet : PySem.W.kitOne K (.ref x1) (.ref x4) = some (Nat.beq 4 1)) (k5_NoNet : PySem.W.kitOne K (.ref x1) (.ref x5) = some (Nat.beq 5 1)) (k6_NoNet : PySem.W.kitOne K (.ref x1) (.ref x6) = some (Nat.beq 6 1)) (k7_NoNet : PySem.W.kitOne K (.ref x1) (.ref x7) = some (Nat.beq 7 1)) (k8_NoNet : PySem.W.kitOne K (.ref x1) (.ref x8) = some (Nat.beq 8 1)) (k9_NoNet : PySem.W.kitOne K (.ref x1) (.ref x9) = some (Nat.beq 9 1)) (k10_NoNet : PySem.W.kitOne K (.ref x1) (.ref x10) = some (Nat.beq 10 1)) (k11_NoNet : PySem.W.kitOne K (.ref x1) (.ref x11) = some (Nat.beq 11 1))
    (gl_LETTERS : PySem.W.nsIn K mainGlobals "LETTERS" = some (some (.str "abcdefghijklmnopqrstuvwxyz" tk_LETTERS)))
    (gl_MOST_LETTERS : PySem.W.nsIn K mainGlobals "MOST_LETTERS" = some (some (.int 8 tk_MOST_LETTERS)))
    (gl_MOST_PARTS : PySem.W.nsIn K mainGlobals "MOST_PARTS" = some (some (.int 4 tk_MOST_PARTS)))
    (gl_MOST_RUNS : PySem.W.nsIn K mainGlobals "MOST_RUNS" = some (some (.int 120 tk_MOST_RUNS)))
    (z_int : PySem.W.nsIn K mainGlobals "int" = some none)
    (z_bool : PySem.W.nsIn K mainGlobals "bool" = some none)
    (z_str : PySem.W.nsIn K mainGlobals "str" = some none)
    (z_list : PySem.W.nsIn K mainGlobals "list" = some none)
    (z_tuple : PySem.W.nsIn K mainGlobals "tuple" = some none)
    (z_dict : PySem.W.nsIn K mainGlobals "dict" = some none)
    (z_set : PySem.W.nsIn K mainGlobals "set" = some none)
    (z_range : PySem.W.nsIn K mainGlobals "range" = some none)
    (z_enumerate : PySem.W.nsIn K mainGlobals "enumerate" = some none)
    (z_zip : PySem.W.nsIn K mainGlobals "zip" = some none)
    (z_reversed : PySem.W.nsIn K mainGlobals "reversed" = some none)
    (z_len : PySem.W.nsIn K mainGlobals "len" = some none)
    (z_abs : PySem.W.nsIn K mainGlobals "abs" = some none)
    (z_max : PySem.W.nsIn K mainGlobals "max" = some none)
    (z_min : PySem.W.nsIn K mainGlobals "min" = some none)
    (z_isinstance : PySem.W.nsIn K mainGlobals "isinstance" = some none)
    (z_sorted : PySem.W.nsIn K mainGlobals "sorted" = some none)
    (z_all : PySem.W.nsIn K mainGlobals "all" = some none)
    (z_any : PySem.W.nsIn K mainGlobals "any" = some none)
    (z_sum : PySem.W.nsIn K mainGlobals "sum" = some none) :
    ∃ fd : FuncData, (∀ (s : Shared) (v : Value), BindsTo s fd ⟨[v], []⟩ [("_law_script", v)]) ∧ ∀ base : Heap, K.In base → base.Ns mainGlobals mg → FnOk l.prog w K mg base CX0 6 fa fd ["_law_script"] (spLaw K) := by
  have e := hfa.symm.trans (PySem.W.mg_of X G a20)
  cases e
  have T : Bl mg := ⟨PySem.W.mg_none_of X G z_int, PySem.W.mg_none_of X G z_bool, PySem.W.mg_none_of X G z_str, PySem.W.mg_none_of X G z_list, PySem.W.mg_none_of X G z_tuple, PySem.W.mg_none_of X G z_dict, PySem.W.mg_none_of X G z_set, PySem.W.mg_none_of X G z_range, PySem.W.mg_none_of X G z_enumerate, PySem.W.mg_none_of X G z_zip, PySem.W.mg_none_of X G z_reversed, PySem.W.mg_none_of X G z_len, PySem.W.mg_none_of X G z_abs, PySem.W.mg_none_of X G z_max, PySem.W.mg_none_of X G z_min, PySem.W.mg_none_of X G z_isinstance, PySem.W.mg_none_of X G z_sorted, PySem.W.mg_none_of X G z_all, PySem.W.mg_none_of X G z_any, PySem.W.mg_none_of X G z_sum⟩
  have W : Xm mg xt x0 x1 x2 x3 x4 x5 x6 x7 x8 x9 x10 x11 := ⟨PySem.W.mg_of X G bT, PySem.W.mg_of X G b0, PySem.W.mg_of X G b1, PySem.W.mg_of X G b2, PySem.W.mg_of X G b3, PySem.W.mg_of X G b4, PySem.W.mg_of X G b5, PySem.W.mg_of X G b6, PySem.W.mg_of X G b7, PySem.W.mg_of X G b8, PySem.W.mg_of X G b9, PySem.W.mg_of X G b10, PySem.W.mg_of X G b11, PySem.W.mg_none_of X G zV⟩
  have R_NoNet : Xr K xt x0 x1 x2 x3 x4 x5 x6 x7 x8 x9 x10 x11 x1 1 := ⟨⟨ga_NoNet, gt_NoNet, ca_NoNet, ob_NoNet, be_NoNet, by rw [ic_NoNet]; rfl⟩, .ve ex_NoNet, ve_NoNet, tt_NoNet, k0_NoNet, k1_NoNet, k2_NoNet, k3_NoNet, k4_NoNet, k5_NoNet, k6_NoNet, k7_NoNet, k8_NoNet, k9_NoNet, k10_NoNet, k11_NoNet⟩
  have d_is_whole : Df K mg "is_whole" s_is_whole ["thing"] := df_mk X G a0 l0 c0 k0 (el_1 fun _ => rfl)
  have d_common_divisor : Df K mg "common_divisor" s_common_divisor ["one", "other"] := df_mk X G a1 l1 c1 k1 (el_2 fun _ _ => rfl)
  have d_is_fraction : Df K mg "is_fraction" s_is_fraction ["thing"] := df_mk X G a2 l2 c2 k2 (el_1 fun _ => rfl)
  have d_is_less : Df K mg "is_less" s_is_less ["one", "other"] := df_mk X G a3 l3 c3 k3 (el_2 fun _ _ => rfl)
  have d_is_part : Df K mg "is_part" s_is_part ["text"] := df_mk X G a4 l4 c4 k4 (el_1 fun _ => rfl)
  have d_is_post : Df K mg "is_post" s_is_post ["thing"] := df_mk X G a5 l5 c5 k5 (el_1 fun _ => rfl)
  have d_is_run : Df K mg "is_run" s_is_run ["thing"] := df_mk X G a6 l6 c6 k6 (el_1 fun _ => rfl)
  have d_net_of : Df K mg "net_of" s_net_of ["runs"] := df_mk X G a7 l7 c7 k7 (el_1 fun _ => rfl)
  have d_posts_of : Df K mg "posts_of" s_posts_of ["net"] := df_mk X G a8 l8 c8 k8 (el_1 fun _ => rfl)
  have d_cell_at : Df K mg "_law_cell_at" s_cell_at ["_law_script", "_law_k"] := df_mk X G a9 l9 c9 k9 (el_2 fun _ _ => rfl)
  have d_begun : Df K mg "_law_begun" s_begun ["_law_script", "_law_k"] := df_mk X G a10 l10 c10 k10 (el_2 fun _ _ => rfl)
  have d_draw : Df K mg "_law_draw" s_draw ["_law_state", "_law_many"] := df_mk X G a11 l11 c11 k11 (el_2 fun _ _ => rfl)
  have d_low : Df K mg "_law_low" s_low ["_law_top", "_law_bottom"] := df_mk X G a12 l12 c12 k12 (el_2 fun _ _ => rfl)
  have d_only : Df K mg "_law_only" s_only ["_law_e", "_law_place"] := df_mk X G a13 l13 c13 k13 (el_2 fun _ _ => rfl)
  have d_part : Df K mg "_law_part" s_part ["_law_state"] := df_mk X G a14 l14 c14 k14 (el_1 fun _ => rfl)
  have d_name : Df K mg "_law_name" s_name ["_law_state"] := df_mk X G a15 l15 c15 k15 (el_1 fun _ => rfl)
  have d_runs : Df K mg "_law_runs" s_runs ["_law_state", "_law_script"] := df_mk X G a16 l16 c16 k16 (el_2 fun _ _ => rfl)
  have d_no_runs : Df K mg "_law_no_runs" s_no_runs ["_law_run"] := df_mk X G a17 l17 c17 k17 (el_1 fun _ => rfl)
  have d_refused : Df K mg "_law_refused" s_refused ["_law_thing"] := df_mk X G a18 l18 c18 k18 (el_1 fun _ => rfl)
  have d_is_list : Df K mg "_law_is_list" s_is_list ["_law_found", "_law_due"] := df_mk X G a19 l19 c19 k19 (el_2 fun _ _ => rfl)
  have FL := fun_mk (st := s_law) l20 c20 k20
  refine ⟨PySem.W.fnOf "law" "law" (defArgs s_law) (defBody s_law) (defScope s_law) .none kV20 dc20 pm20 an20 cd20 ct20, fun s v => .of_eq rfl, fun base _ _ => ?_⟩
  have o_is_whole : Okf l.prog w K mg base 1 "is_whole" ["thing"]   (spWhole K) := ok_is_whole (k := 0) T d_is_whole W R_NoNet
  have o_common_divisor : Okf l.prog w K mg base 1 "common_divisor" ["one", "other"]   spGcd := ok_common_divisor (k := 0) T d_common_divisor W R_NoNet
  have o_is_fraction : Okf l.prog w K mg base 2 "is_fraction" ["thing"]   (spIsFrac K) := ok_is_fraction (k := 1) T d_is_fraction W R_NoNet (o_common_divisor.mono (by decide)) (o_is_whole.mono (by decide))
  have o_is_less : Okf l.prog w K mg base 1 "is_less" ["one", "other"]   spLess := ok_is_less (k := 0) T d_is_less W R_NoNet
  have o_is_part : Okf l.prog w K mg base 1 "is_part" ["text"]   spPart := ok_is_part (k := 0) T d_is_part W R_NoNet (PySem.W.mg_of X G gl_LETTERS) (PySem.W.mg_of X G gl_MOST_LETTERS)
  have o_is_post : Okf l.prog w K mg base 2 "is_post" ["thing"]   (spPost K) := ok_is_post (k := 1) T d_is_post W R_NoNet (PySem.W.mg_of X G gl_MOST_PARTS) (o_is_part.mono (by decide))
  have o_is_run : Okf l.prog w K mg base 3 "is_run" ["thing"]   (spIsRun K) := ok_is_run (k := 2) T d_is_run W R_NoNet (o_is_less.mono (by decide)) (o_is_fraction.mono (by decide)) (o_is_post.mono (by decide))
  have o_net_of := ok_net_of (P := l.prog) (w := w) (base := base) (k := 3) T d_net_of W R_NoNet (PySem.W.mg_of X G gl_MOST_RUNS) (o_is_run.mono (by decide))
  have o_posts_of : Okf l.prog w K mg base 1 "posts_of" ["net"]   (spPosts w) := ok_posts_of (k := 0) T d_posts_of W R_NoNet
  have o_cell_at : Okf l.prog w K mg base 1 "_law_cell_at" ["_law_script", "_law_k"]   (spCell K) := ok_cell_at (k := 0) T d_cell_at W R_NoNet
  have o_begun : Okf l.prog w K mg base 2 "_law_begun" ["_law_script", "_law_k"]   (spBegun K) := ok_begun (k := 1) T d_begun W R_NoNet (o_cell_at.mono (by decide))
  have o_draw : Okf l.prog w K mg base 1 "_law_draw" ["_law_state", "_law_many"]   spDraw := ok_draw (k := 0) T d_draw W R_NoNet
  have o_low : Okf l.prog w K mg base 1 "_law_low" ["_law_top", "_law_bottom"]   spLow := ok_low (k := 0) T d_low W R_NoNet
  have o_only := ok_only (P := l.prog) (w := w) (base := base) (k := 0) T d_only W R_NoNet
  have o_part : Okf l.prog w K mg base 2 "_law_part" ["_law_state"]   spLPart := ok_part (k := 1) T d_part W R_NoNet (o_draw.mono (by decide))
  have o_name : Okf l.prog w K mg base 3 "_law_name" ["_law_state"]   spLName := ok_name (k := 2) T d_name W R_NoNet (o_draw.mono (by decide)) (o_part.mono (by decide))
  have o_runs : Okf l.prog w K mg base 4 "_law_runs" ["_law_state", "_law_script"]   (spRuns6 w K) := ok_runs (k := 3) T d_runs W R_NoNet (o_draw.mono (by decide)) (o_low.mono (by decide)) (o_cell_at.mono (by decide)) (o_name.mono (by decide))
  have o_no_runs : Okf l.prog w K mg base 1 "_law_no_runs" ["_law_run"]   (spNoRuns K) := ok_no_runs (k := 0) T d_no_runs W R_NoNet
  have o_refused : Okf l.prog w K mg base 5 "_law_refused" ["_law_thing"]   (spRef6 K) := ok_refused (k := 4) T d_refused W R_NoNet (o_net_of.mono (by decide)) (o_only.mono (by decide))
  have o_is_list : Okf l.prog w K mg base 1 "_law_is_list" ["_law_found", "_law_due"]   spIsL := ok_is_list (k := 0) T d_is_list W R_NoNet
  exact ok_law (k := 5) T FL W R_NoNet (o_posts_of.mono (by decide)) (o_is_list.mono (by decide)) (o_net_of.mono (by decide)) (o_refused.mono (by decide)) (o_cell_at.mono (by decide)) (o_no_runs.mono (by decide)) (o_draw.mono (by decide)) (o_runs.mono (by decide)) (o_begun.mono (by decide))
theorem walk {l : PySem.W.OpenLaw} {q : Program} {loose : List Str} {XP : (Str → Option Value) → Heap → Prop} {YP : World → Heap → Prop} {d : DefRec} {K : Params → PySem.W.Frag} (hn : l.most = some 63) (hdf : d.params.defaults = [])
    (hY : ∀ (w : World) (h : Heap), YP w h → (K w.params).In h)
    (F : ∀ (w : World) (mg : Str → Option Value) (fa : Addr) (h : Heap), (K w.params).In h → h.Ns mainGlobals mg → mg d.name = some (.ref fa) →
      ∃ fd : FuncData, (∀ (s : Shared) (u : Value), BindsTo s fd ⟨[u], []⟩ [("_law_script", u)]) ∧ ∀ base : Heap, (K w.params).In base → base.Ns mainGlobals mg → FnOk l.prog w (K w.params) mg base CX0 6 fa fd ["_law_script"] (spLaw (K w.params))) :
    PySem.W.WalkO q loose XP YP l.row.toRowW d [] (fun f vs => PySem.call f vs) :=
  L2.walk_of (n := 63) (k := 6) (x := "_law_script") (CX := fun _ => CX0) (sp := fun w => spLaw (K w.params)) hn (by decide) hdf ⟨rfl, by decide, by decide⟩ hY F (fun _ _ a ns hl _ hS => ⟨a, ns, rfl, hS, hl, fun _ => rfl⟩) fun _ _ _ _ _ z => z
open PySem.W in
theorem zwalk {q : Program} {loose : List Str} {XP : (Str → Option Value) → Heap → Prop} {r : RowW} {d : DefRec} {kwd : List (Str × Expr)} {run : Value → List Value → Sem Value} {K : Params → Frag} {as : List Addr} {n t : Nat} (e : ∀ P : Params, as = List.map (fun x => x.fst) (K P))
    (W : WalkO q loose XP (kHook K as e).says r d kwd run) : WalkX q loose XP (X.obsZ as) (X.valZ K n t) r d kwd run :=
  fun w s₀ s₁ mg mb G y a o pm cd doc dV kV ho hd hcd hD hmg hg args vals as' L hpre hlay hrd hwl hlo =>
    W w s₀ s₁ mg mb G ((kHook K as e).keeps w s₀.heap s₁.heap ((kHook K as e).of w s₀ (congrArg Prod.fst y)) L.keeps) a o pm cd doc dV kV ho hd hcd hD hmg hg args vals as' hpre hlay hrd hwl hlo
end Lw
open PySem PySem.W PyProof.Rows
set_option maxRecDepth 100000 in
set_option maxHeartbeats 0 in
theorem PySem.Challenge.cw_tilefall_k06_nets_and_their_posts_holds : PySem.Challenge.rw_tilefall_k06_nets_and_their_posts.Holds := by
  w_on; o_law; z_head; (case hw => w_witness2)
  k_fill
  refine Lw.zwalk (fun _ => rfl) ?_
  refine Lw.walk (l := PySem.Challenge.rw_tilefall_k06_nets_and_their_posts) rfl rfl (fun w h Y => PySem.W.kIn_of Y) ?F
  case F =>
    intro w mg fa h KX G hmg
    refine' Lw.all_mk KX G hmg ?a0 ?l0 ?c0 ?k0 ?a1 ?l1 ?c1 ?k1 ?a2 ?l2 ?c2 ?k2 ?a3 ?l3 ?c3 ?k3 ?a4 ?l4 ?c4 ?k4 ?a5 ?l5 ?c5 ?k5 ?a6 ?l6 ?c6 ?k6 ?a7 ?l7 ?c7 ?k7 ?a8 ?l8 ?c8 ?k8 ?a9 ?l9 ?c9 ?k9 ?a10 ?l10 ?c10 ?k10 ?a11 ?l11 ?c11 ?k11 ?a12 ?l12 ?c12 ?k12 ?a13 ?l13 ?c13 ?k13 ?a14 ?l14 ?c14 ?k14 ?a15 ?l15 ?c15 ?k15 ?a16 ?l16 ?c16 ?k16 ?a17 ?l17 ?c17 ?k17 ?a18 ?l18 ?c18 ?k18 ?a19 ?l19 ?c19 ?k19 ?a20 ?l20 ?c20 ?k20 ?bT ?b0 ?b1 ?b2 ?b3 ?b4 ?b5 ?b6 ?b7 ?b8 ?b9 ?b10 ?b11 ?zV ?ga_NoNet ?gt_NoNet ?ca_NoNet ?ob_NoNet ?be_NoNet ?ic_NoNet ?ex_NoNet ?ve_NoNet ?tt_NoNet ?k0_NoNet ?k1_NoNet ?k2_NoNet ?k3_NoNet ?k4_NoNet ?k5_NoNet ?k6_NoNet ?k7_NoNet ?k8_NoNet ?k9_NoNet ?k10_NoNet ?k11_NoNet ?gl_LETTERS ?gl_MOST_LETTERS ?gl_MOST_PARTS ?gl_MOST_RUNS ?z_int ?z_bool ?z_str ?z_list ?z_tuple ?z_dict ?z_set ?z_range ?z_enumerate ?z_zip ?z_reversed ?z_len ?z_abs ?z_max ?z_min ?z_isinstance ?z_sorted ?z_all ?z_any ?z_sum
    (case a0 => k_is); (case l0 => k_is); (case c0 => k_is); (case k0 => k_is)
    (case a1 => k_is); (case l1 => k_is); (case c1 => k_is); (case k1 => k_is)
    (case a2 => k_is); (case l2 => k_is); (case c2 => k_is); (case k2 => k_is)
    (case a3 => k_is); (case l3 => k_is); (case c3 => k_is); (case k3 => k_is)
    (case a4 => k_is); (case l4 => k_is); (case c4 => k_is); (case k4 => k_is)
    (case a5 => k_is); (case l5 => k_is); (case c5 => k_is); (case k5 => k_is)
    (case a6 => k_is); (case l6 => k_is); (case c6 => k_is); (case k6 => k_is)
    (case a7 => k_is); (case l7 => k_is); (case c7 => k_is); (case k7 => k_is)
    (case a8 => k_is); (case l8 => k_is); (case c8 => k_is); (case k8 => k_is)
    (case a9 => k_is); (case l9 => k_is); (case c9 => k_is); (case k9 => k_is)
    (case a10 => k_is); (case l10 => k_is); (case c10 => k_is); (case k10 => k_is)
    (case a11 => k_is); (case l11 => k_is); (case c11 => k_is); (case k11 => k_is)
    (case a12 => k_is); (case l12 => k_is); (case c12 => k_is); (case k12 => k_is)
    (case a13 => k_is); (case l13 => k_is); (case c13 => k_is); (case k13 => k_is)
    (case a14 => k_is); (case l14 => k_is); (case c14 => k_is); (case k14 => k_is)
    (case a15 => k_is); (case l15 => k_is); (case c15 => k_is); (case k15 => k_is)
    (case a16 => k_is); (case l16 => k_is); (case c16 => k_is); (case k16 => k_is)
    (case a17 => k_is); (case l17 => k_is); (case c17 => k_is); (case k17 => k_is)
    (case a18 => k_is); (case l18 => k_is); (case c18 => k_is); (case k18 => k_is)
    (case a19 => k_is); (case l19 => k_is); (case c19 => k_is); (case k19 => k_is)
    (case a20 => k_is); (case l20 => k_is); (case c20 => k_is); (case k20 => k_is)
    (case bT => k_is)
    (case b0 => k_is)
    (case b1 => k_is)
    (case b2 => k_is)
    (case b3 => k_is)
    (case b4 => k_is)
    (case b5 => k_is)
    (case b6 => k_is)
    (case b7 => k_is)
    (case b8 => k_is)
    (case b9 => k_is)
    (case b10 => k_is)
    (case b11 => k_is)
    (case zV => k_is)
    (case ga_NoNet => k_is)
    (case gt_NoNet => k_is)
    (case ca_NoNet => k_is)
    (case ob_NoNet => k_is)
    (case be_NoNet => k_is)
    (case ic_NoNet => k_is)
    (case ex_NoNet => k_exc)
    (case ve_NoNet => kit_is)
    (case tt_NoNet => kts_exm)
    (case k0_NoNet => kit_is)
    (case k1_NoNet => kit_is)
    (case k2_NoNet => kit_is)
    (case k3_NoNet => kit_is)
    (case k4_NoNet => kit_is)
    (case k5_NoNet => kit_is)
    (case k6_NoNet => kit_is)
    (case k7_NoNet => kit_is)
    (case k8_NoNet => kit_is)
    (case k9_NoNet => kit_is)
    (case k10_NoNet => kit_is)
    (case k11_NoNet => kit_is)
    (case gl_LETTERS => k_is)
    (case gl_MOST_LETTERS => k_is)
    (case gl_MOST_PARTS => k_is)
    (case gl_MOST_RUNS => k_is)
    (case z_int => k_is)
    (case z_bool => k_is)
    (case z_str => k_is)
    (case z_list => k_is)
    (case z_tuple => k_is)
    (case z_dict => k_is)
    (case z_set => k_is)
    (case z_range => k_is)
    (case z_enumerate => k_is)
    (case z_zip => k_is)
    (case z_reversed => k_is)
    (case z_len => k_is)
    (case z_abs => k_is)
    (case z_max => k_is)
    (case z_min => k_is)
    (case z_isinstance => k_is)
    (case z_sorted => k_is)
    (case z_all => k_is)
    (case z_any => k_is)
    (case z_sum => k_is)
#print axioms PySem.Challenge.cw_tilefall_k06_nets_and_their_posts_holds
